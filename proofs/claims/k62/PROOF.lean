import PyProof.Rows.All
import Wide.All
import OpenK.AllK
import Wide.FinOn
import Lean
import PyProof.EqAt
import PyProof.EqKinds
import PyProof.TupleCall
import KE.KLam
import KE.KMinBuiltin
import KE.KRevSl
import KE.KSortTup
import KE.KTryMore
import KE.KxAffix
import Open.Pieces
import OpenK.KQuick
import OpenK.KWalk
import PyProof.CollectWalk
import PyProof.DictWalks
import PyProof.EnumMake
import PyProof.ExcAttrAll.ValueError
import PyProof.FString
import PyProof.FitsBits
import PyProof.ListRange
import PyProof.MeetsStr
import PyProof.NeKinds
import PyProof.Rows.FStr
import PyProof.Rows.RegStrFacts
import PyProof.Rows.SetFrom
import PyProof.Rows.SortRuns
import PyProof.Rows.StrInSeq3
import PyProof.SetRoads
import PyProof.StrBlockH
import PyProof.TupleKey
import PyProof.ZipIter
import PySem.Challenge.RW_countkin_k62_written_refuses
open Array renaming length_toList→GS, getElem?_eq_some_iff→G8, getElem?_eq_getElem→Ha, getD_eq_getD_getElem?→Hv, getElem?_eq_none→Io, getElem?_toList→Iw, forIn_toList→Ju, mem_toList_iff→Kp, getElem_toList→Ks, perm_iff_toList_perm→KN, toList_push→Le, toList_extract→LU
open Bool renaming and_eq_true→GN, false_ne_true→GU, false_eq_true→Hg, true_and→HB, eq_iff_iff→HE, false_and→HR, and_eq_true_iff→Ik, or_eq_false_iff→JG, or_eq_true→JZ, not_true→Kv, and_false→KZ, eq_false_iff→Lb, and_eq_false_iff→LH, not_false→LW, or_false→Ma
open Classical renaming byContradiction→JH
open Eq renaming trans→KU
open False renaming elim→IA
open ForInStep renaming yield→KB
open Int renaming emod_lt_of_pos→HD, emod_nonneg→HQ, toNat_natCast→II
open List renaming getElem?_eq_getElem→Do, getD_eq_getElem?_getD→FB, length_map→FS, getElem?_eq_some_iff→GD, size_toArray→GH, mem_cons→GI, mem_cons_of_mem→GJ, range→GK, mem_of_getElem?→GR, mem_range→GT, all_eq_true→GW, mem_cons_self→GY, length_append→GZ, map_cons→G6, map_append→G7, pairwise_iff_getElem→Hd, take_of_length_le→Hi, getElem?_map→Hk, length_cons→Hq, take_add_one→Hu, length_take→Hw, mem_append_right→Hx, getElem?_of_mem→HC, nodup_cons→HF, replicate→HH, drop_eq_getElem_cons→HI, Nodup→HJ, mem_append→HN, mem_map→HV, filterMap_cons→Ib, getElem?_eq_none→Ie, getElem?_append_right→Im, append_assoc→Iq, append_nil→Iv, map_map→Iz, mem_singleton→IC, any_eq_true→IE, getElem?_cons_zero→IH, length_range→IJ, take_append_drop→IS, getElem?_append_left→IV, getElem?_take_of_lt→IZ, flatten_cons→I0, pairwise_map→Jb, nodup_append→Jd, find?_cons→Jf, replicate_succ→Ji, any_cons→Jk, eq_nil_of_length_eq_zero→Jn, nodup_nil→Jp, drop_eq_nil_of_le→Jr, mem_append_left→JD, getElem?_set_ne→JE, pairwise_append→JF, getElem_mem→JI, ext_getElem→JJ, getElem_of_mem→JL, map_congr_left→JM, flatten_append→JN, map_nil→JO, all_map→JP, toArray→JQ, range_succ→JS, length_nil→JU, getElem?_set_self→J1, range_succ_eq_map→J3, any_eq_false→J5, lookup→J9, eraseIdxIfInBounds_toArray→Kb, map→Kc, length_singleton→Kf, not_mem_nil→Ko, forIn_cons→KA, perm_ext_iff_of_nodup→KO, mem_filterMap→KQ, take_sublist→K8, getElem?_inj→Lc, getElem?_cons_succ→Lp, length_drop→Lq, lookup_cons→Lu, nodup_range→Lw, isEmpty_nil→Ly, pairwise_lt_range→LA, mem_filter→LD, of_mem_zip→LG, forIn_nil→LV, all_cons→Mc
open List.Pairwise renaming nil→La
open List.Perm renaming eq_of_pairwise→ID
open Nat renaming le_refl→GF, zero_le→GG, lt_of_lt_of_le→GV, ne_of_lt→GX, le_trans→Hm, lt_irrefl→HL, not_lt_zero→Iy, le_succ→IU, lt_succ_of_lt→Jc, le_add_right→Jo, add_sub_cancel→Jt, ne_of_gt→Jx, lt_succ_iff→JB, lt_of_le_of_lt→JR, succ_pos→Ki, lt_succ_self→Km, le_of_lt→KP, mod_lt→LQ, add_le_add→LX
open Ne renaming symm→Ip
open Option renaming getD_some→Kn, none→Li, getD_none→Lr
open Option.some renaming inj→Hr, injEq→Mg
open Or renaming inl→Hc, inr→Ls
open Prod renaming ext→LP, fst→Mb
open PyProof.Rows renaming callWith_type1→G9, IntsAre→Jh, callWith_builtin1→Ke, AllBare→Lf, boot_range→LM
open PyProof.Rows.F renaming plain_set_update_loop→JY
open PySem renaming wpAny_bind→AC, Value→Da, Shared→Fk, wpAny_pure→Gc, Addr→GC, Program→GQ, World→Hh, Around→Hj, FuncData→Hz, wpAny_holding→HA, wpAny_truthy_bool→HG, wpAny_Call_Name_kw→HM, wpAny_loadPart'→HP, sizeLine_eq→HU, codeAny_builtin→HX, Heap→HY, Expr→HZ, Params→Ia, SetTable→Ii, wpAny_mono→Ij, Stmt→Il, Paired→Ir, wpAny_call_entry→IF, wpAny_setState_of→IK, plainId_quiet→IT, wpAny_passesOwn→IX, wpAny_newObj_type→Ja, wpAny_updateSeq→Je, mem_of_lookup→Jg, wpAny_field→Jj, wpAny_callSpecial?_slot→Jm, wpAny_execs_nil→Jw, codeAny_mono→Jy, DictEntry→Jz, builtinLookup_eq_fast→JA, wpAny_attempt→JT, wpAny_specialOf→JV, wpAny_setField_rec→JW, wpAny_ite_split→JX, wpAny_nextOf_list_item→J4, call_meets→Ka, wpAny_eqBool_int→Kj, wpAny_execs_cons→Kk, codeAny_call_builtin→Kr, IsPair→KC, typeLookup_type→KG, wpAny_setEntries_of→KH, Scope→KI, tupleKind_room_in1→KR, ZipApart→KS, OsState→K2, wpAny_pyIter_list→K6, GenState→Lh, wpAny_isInstance→Lv, wpAny_askSetting→Lx, wpAny_call→LN, NameKind→LO, IsRangeIter→LZ, Within→Mh, Result→Mj
open PySem.Around renaming under_plainId→HK, under→Ml
open PySem.AutoSeq1 renaming wpAny_loadPart'→Ld, sub_list_list→LB
open PySem.Calls renaming spliced_cons→IB, spliced_nil→IY, callWith_builtin→J2, evalArgs_plain→Kq, Name_function_global→KJ, call_function_entry→K0
open PySem.Code renaming isFrame→Mm
open PySem.EntryCells renaming newEntry→L4
open PySem.F renaming plainAttrs_list→Hf, slot_list_append→Hn, type_list_append→Ho, plain_extend_loop→IM, plainAttrs_str→Js, called_set→JC, slot_dict_get→Kh, slot_zip_next→KD, excBase_ValueError→KL, attr_ValueError→Ll, args_dict_get_3→Ln, entry_dict_get→LC, slot_str_join→LJ, type_str_join→LK
open PySem.Heap renaming get?_push_of_some→FM, lt_size→GE, get?_push_size→GO, get?_update_other→Hb, get?_update_self→Ht, size_push→Ih, get?_none_of_le→IW, SameBut→Jv, size_update→JK
open PySem.Heap.SameBut renaming update→L6
open PySem.IsRange renaming new→Mp
open PySem.MeetsSeq3 renaming plain_eq_loop→Jl, entry_eq_loop→Lm
open PySem.NameKind renaming free→Ku
open PySem.Obj renaming mapSeq→Hl, data_mapFields→IR, isFreed_of_fields→Kg, mapFields→Lj, putSet→LR
open PySem.Paired renaming length→IG
open PySem.PassesOwn renaming never→Hs
open PySem.SeqAt renaming eq_list_lengthsAt→Lk
open PySem.SeqAt.EqAt renaming int_str→L7, str_int→L8, same→Mq
open PySem.SeqAt.RcNeAt renaming lists_lengths→KM, lists→Md
open PySem.SetTable renaming insertAt→HS, below→Jq, slot→Me
open PySem.Str renaming ofString→tz, length→K9
open PySem.Txt renaming startswith→K1
open PySem.Value renaming ref→GL, none→Hy, type→IP, int→Kw, str→Kx, isInt_shape→K3, bool→K4
open PySem.W renaming Frag→GM, Frag→GP, mg_of→He, kia_one→HW, emptyDict→Ic, mg_none_of→Ig, findIn→Iu, instObj→IL, methodCall_KW→Kd, plainGet→Kl, nsIn→Kt, plainGet_of→Ky, callWith_K0→Kz, lookIn→KW, keepIn→KY, methodObj→K5, hasDictIn→K7, cellsFrom_some→Lz, takerIn→LF, boot_heap→LL, Frag→LS, kas_rev→L5, callWith_K→L9, isFn→Mi, fnOf→Mn
open PySem.pickOrder renaming go→Mo
open Sum renaming inr→LY, inl→Mf
open True renaming intro→IQ
set_option Elab.async false
set_option linter.all false
set_option maxRecDepth 100000
namespace L2
open PySem PySem.Spec PyProof.Rows
noncomputable abbrev Key:=Sum Int Str
noncomputable def il:Key->Da->Bool
 | .inl k,v=>Value.isInt k v
 | .inr x,v=>Value.isStrOf x v
noncomputable def Ff (w:Hh):Key->Int
 | .inl k=>hashInt k
 | .inr x=>hashStr w x
theorem bL:∀ {k:Key} {v:Da},il k v=true->(∃ i t,k=Mf i/\v=Kw i t)\/(∃ x t,k=LY x/\v=Kx x t)
 | .inl i,v,h=>by
  obtain ⟨t,e⟩:=K3 (k:=i) (v:=v) h
  exact .inl ⟨i,t,rfl,e⟩
 | .inr x,v,h=>by
  obtain ⟨t,e⟩:=Value.isStrOf_shape (x:=x) (v:=v) h
  exact .inr ⟨x,t,rfl,e⟩
theorem sg (i:Int) (t:Tok):il (.inl i) (.int i t)=true:=by simp [il,Value.isInt]
theorem rV (x:Str) (t:Tok):il (.inr x) (.str x t)=true:=by simp [il,Value.isStrOf]
theorem CI (a b:Int):decide ((Mf a:Key)=Mf b)=(a == b):=by
 by_cases e:a=b
 ·subst e; simp
 ·have h:¬ (Mf a:Key)=Mf b:=fun q=>e (Sum.inl.inj q)
  rw [decide_eq_false h]
  exact (beq_eq_false_iff_ne.mpr e).symm
theorem BE (a b:Str):decide ((LY a:Key)=LY b)=decide (a=b):=by
 by_cases e:a=b
 ·subst e; simp
 ·have h:¬ (LY a:Key)=LY b:=fun q=>e (Sum.inr.inj q)
  rw [decide_eq_false h,decide_eq_false e]
theorem Dl (a:Int) (b:Str):decide ((Mf a:Key)=LY b)=false:=decide_eq_false (fun q=>nomatch q)
theorem Ce (a:Str) (b:Int):decide ((LY a:Key)=Mf b)=false:=decide_eq_false (fun q=>nomatch q)
noncomputable def bu (prog:GQ) (w:Hh):PySem.KeyKind prog w Key where
 is:=il
 hash:=Ff w
 inj:=fun v a b ha hb=>by
  rcases bL ha with ⟨i,t,rfl,rfl⟩ | ⟨x,t,rfl,rfl⟩
  ·rcases bL hb with ⟨j,u,rfl,e⟩ | ⟨y,u,rfl,e⟩
   ·injection e with e1 _; rw [e1]
   ·exact nomatch e
  ·rcases bL hb with ⟨j,u,rfl,e⟩ | ⟨y,u,rfl,e⟩
   ·exact nomatch e
   ·injection e with e1 _; rw [e1]
 byValue:=fun k v h=>by
  rcases bL h with ⟨i,t,rfl,rfl⟩ | ⟨x,t,rfl,rfl⟩<;>rfl
 pyHash:=fun hv h=>by
  rcases bL hv with ⟨i,t,rfl,rfl⟩ | ⟨x,t,rfl,rfl⟩
  ·exact wpAny_pyHash_int h
  ·exact wpAny_pyHash_str h
 eqBool:=fun hu hv h=>by
  rcases bL hu with ⟨i,t,rfl,rfl⟩ | ⟨x,t,rfl,rfl⟩
  ·rcases bL hv with ⟨j,u,rfl,rfl⟩ | ⟨y,u,rfl,rfl⟩
   ·rw [CI] at h; exact Kj h
   ·rw [Dl] at h; exact L7 i t y u _ _ _ _ h
  ·rcases bL hv with ⟨j,u,rfl,rfl⟩ | ⟨y,u,rfl,rfl⟩
   ·rw [Ce] at h; exact L8 x t j u _ _ _ _ h
   ·rw [BE] at h; exact wpAny_eqBool_str h
 «strs»:=fun k x t v h=>by
  rcases bL h with ⟨i,u,rfl,e⟩ | ⟨y,u,rfl,e⟩
  ·exact nomatch e
  ·injection e with e1 _
   subst e1
   cases v<;>rfl
theorem nE (prog:GQ) (w:Hh) (i:Int) (t:Tok):(bu prog w).is (.inl i) (.int i t)=true:=sg i t
theorem nc (prog:GQ) (w:Hh) (x:Str) (t:Tok):(bu prog w).is (.inr x) (.str x t)=true:=rV x t
end L2
namespace L2
open PySem PySem.Spec PyProof.Rows
inductive V where
 | non | bl (b:Bool) | int (i:Int) | str (x:Str) | byt (b:Array UInt8) | flt (b:UInt64) | ref (a:GC) | ty (n:String)
 deriving DecidableEq
noncomputable def RelV:V->Da->Prop
 | .non,u=>u=Hy
 | .bl b,u=>u=K4 b
 | .int i,u=>∃ t,u=Kw i t
 | .str x,u=>∃ t,u=Kx x t
 | .byt b,u=>∃ t,u=Value.bytes b t
 | .flt b,u=>∃ t,u=Value.float b t
 | .ref a,u=>u=GL a
 | .ty n,u=>u=IP n
noncomputable abbrev Vals:List V->List Da->Prop:=Ir RelV
theorem Vals.length {xs:List V} {us:List Da} (r:Vals xs us):xs.length=us.length:=IG r
theorem Vals.get:∀ {xs:List V} {us:List Da} {i:Nat} {x:V},Vals xs us->xs[i]? = some x->∃ u,us[i]? = some u/\RelV x u
 | _,_,_,_,.nil,e=>by simp at e
 | _,_,0,_,.cons r _,e=>by simp at e; subst e; exact ⟨_,rfl,r⟩
 | _,_,i+1,x,.cons _ t,e=>by
  obtain ⟨u,h1,h2⟩:=Vals.get (i:=i) (x:=x) t (by simpa using e)
  exact ⟨u,by simpa using h1,h2⟩
theorem Vals.set {x:V} {u:Da} (r:RelV x u):∀ {xs:List V} {us:List Da} (i:Nat),Vals xs us->Vals (xs.set i x) (us.set i u)
 | _,_,_,.nil=>.nil
 | _,_,0,.cons _ t=>.cons r t
 | _,_,i+1,.cons q t=>.cons q (Vals.set r i t)
theorem Vals.append:∀ {xs ys:List V} {us ws:List Da},Vals xs us->Vals ys ws->Vals (xs++ys) (us++ws)
 | _,_,_,_,.nil,s=>s
 | _,_,_,_,.cons r t,s=>.cons r (Vals.append t s)
theorem Vals.take:∀ {xs:List V} {us:List Da} (n:Nat),Vals xs us->Vals (xs.take n) (us.take n)
 | _,_,0,_=>.nil
 | _,_,_+1,.nil=>.nil
 | _,_,n+1,.cons r t=>.cons r (Vals.take n t)
theorem Vals.drop:∀ {xs:List V} {us:List Da} (n:Nat),Vals xs us->Vals (xs.drop n) (us.drop n)
 | _,_,0,r=>r
 | _,_,_+1,.nil=>.nil
 | _,_,n+1,.cons _ t=>Vals.drop n t
noncomputable def cO:Option V->Option Da->Prop
 | some v,some u=>RelV v u
 | none,none=>True
 | _,_=>False
noncomputable def KV {κ:Type}:List (κ × V)->List (κ × Da)->Prop:=Ir fun (p:κ × V) (q:κ × Da)=>p.1=q.1/\RelV p.2 q.2
noncomputable def kV:Key->V
 | .inl i=>.int i
 | .inr x=>.str x
inductive HO where
 | lst (xs:List V)
 | tup (xs:List V)
 | dK (kvs:List (Key × V)) | dT (kvs:List (List Key × V))
 | set (S:Int->Bool) (n:Nat)
 | ins (C dx:GC) (fs:List (Str × V))
 | own (x:GC)
 | xd (fs:List (Str × V))
 | met (f x:GC)
 | rng (lo hi:Int)
 | frz (o:Obj) (u:HO)
 | tbl (ps:Array Da)
 | ext (φ:HY->Prop)
noncomputable abbrev Hp:=GC->Option HO
noncomputable def upd (H:Hp) (a:GC) (o:HO):Hp:=fun b=>if b=a then some o else H b
theorem ag {H:Hp} {a:GC} {o:HO}:upd H a o a=some o:=by unfold upd; rw [if_pos rfl]
theorem av {H:Hp} {a b:GC} {o:HO} (h:b≠a):upd H a o b=H b:=by unfold upd; rw [if_neg h]
theorem jM {H:Hp} {a:GC} {o u:HO}:upd (upd H a o) a u=upd H a u:=by
 funext b; unfold upd; split<;>rfl
theorem hJ {H:Hp} {a b:GC} {o u:HO} (h:H a=some o) (h':H b=some u) (d:o≠u):a≠b:=by
 intro e; subst e; rw [h] at h'; exact d (Hr h')
theorem az {H:Hp} {a b:GC} {o:HO} (h:H a=some o) (h':H b=none):a≠b:=by
 intro e; subst e; rw [h] at h'; cases h'
section
variable (P:GQ) (w:Hh)
noncomputable def aT (H:Hp) (h:HY) (a:GC):HO->Prop
 | .lst xs=>xs.length<=sizeLine/\∃ (its:List Da) (n:Nat),Vals xs its/\h.get? a=some { cls:=.type "list",data:=.seq its.toArray n }
 | .tup xs=>xs.length<=sizeLine/\∃ its:List Da,Vals xs its/\IsTup h a its.toArray
 | .dK kvs=>kvs.length<=sizeLine/\(a == sysModules)=false/\∃ vs,KV kvs vs/\h.DictOf (bu P w) a vs
 | .dT kvs=>kvs.length<=sizeLine/\(a == sysModules)=false/\∃ xs:List (List Key × GC × Da),
   Ir (fun (p:List Key × V) (q:List Key × GC × Da)=>p.1=q.1/\H q.2.1=some (.tup (p.1.map kV))/\RelV p.2 q.2.2) kvs xs /\
   ∃ o es ep,h.get? a=some o/\o.ExactDict/\o.data = .dict es ep/\es.toList=xs.map (entryOfKey (tupleKind (bu P w)))/\(xs.map (·.1)).Nodup
 | .set S n=>h.SetOf (intKind P w) a S n
 | .ins C dx fs=>H dx=some (.own a)/\fs.length<=1000/\dx≠a/\h.get? a=some (IL C dx) /\
   ∃ mA,h.Ns1 dx mA/\(∀ f,cO (fs.lookup f) (mA f))/\Mh mA (fs.map (·.1))
 | .own _=>∃ o,h.get? a=some o
 | .xd fs=>∃ mA,h.Ns1 a mA/\∀ f,cO (fs.lookup f) (mA f)
 | .rng lo hi=>∃ t u v,h.get? a=some { cls:=.type "range",data:=.fields #[.int lo t,.int hi u,.int 1 v] }
 | .frz o u=>h.get? a=some o/\aT H h a u
 | .tbl ps=>h.get? a=some { cls:=.none,data:=.fields ps }
 | .met f x=>h.get? a=some (K5 (.ref f) (.ref x))
 | .ext φ=>φ h/\(∃ o,h.get? a=some o)/\∀ h1 h2:HY,φ h1->(∀ o,h1.get? a=some o->h2.get? a=some o)->φ h2
def bK (H:Hp) (h:HY):Prop:=∀ a o,H a=some o->aT P w H h a o
end
section
variable {P:GQ} {w:Hh} {H H':Hp} {h h':HY} {a:GC} {o:HO}
theorem aT.lt (x:aT P w H h a o):a < h.objs.size:=by
 cases o with
 | lst xs=>obtain ⟨_,_,_,_,e⟩:=x; exact GE e
 | tup xs=>obtain ⟨_,_,_,p⟩:=x; exact p.lt
 | dK kvs=>obtain ⟨_,_,_,_,o,_,_,e,_⟩:=x; exact GE e
 | dT kvs=>obtain ⟨_,_,_,_,o,_,_,e,_⟩:=x; exact GE e
 | set S n=>obtain ⟨o,_,_,_,e,_⟩:=x; exact GE e
 | ins C dx fs=>obtain ⟨_,_,_,e,_⟩:=x; exact GE e
 | own y=>obtain ⟨_,e⟩:=x; exact GE e
 | xd fs=>obtain ⟨_,⟨_,_,_,e,_⟩,_⟩:=x; exact GE e
 | rng lo hi=>obtain ⟨_,_,_,e⟩:=x; exact GE e
 | frz ob u=>obtain ⟨e,_⟩:=x; exact GE e
 | tbl ps=>exact GE (show h.get? a=some _ from x)
 | met f y=>exact GE (show h.get? a=some _ from x)
 | ext φ=>obtain ⟨_,⟨_,e⟩,_⟩:=x; exact GE e
theorem Paired.mapP {α β:Type} {F G:α->β->Prop}:∀ {l₁:List α} {l₂:List β},Ir F l₁ l₂->(∀ a b,F a b->G a b)->Ir G l₁ l₂
 | _,_,.nil,_=>.nil
 | _,_,.cons r t,f=>.cons (f _ _ r) (Paired.mapP t f)
theorem aT.stay (x:aT P w H h a o) (k:∀ b u,(b=a\/H b=some (.own a))->h.get? b=some u->h'.get? b=some u)
  (ho:∀ b,H b=some (.own a)->H' b=some (.own a)) (ht:∀ b xs,H b=some (.tup xs)->H' b=some (.tup xs)):aT P w H' h' a o:=by
 induction o with
 | lst xs=>obtain ⟨z,its,n,r,e⟩:=x; exact ⟨z,its,n,r,k _ _ (.inl rfl) e⟩
 | tup xs=>obtain ⟨z,its,r,ob,e,c⟩:=x; exact ⟨z,its,r,ob,k _ _ (.inl rfl) e,c⟩
 | dK kvs=>obtain ⟨z,y,vs,r,ob,es,ep,e,c⟩:=x; exact ⟨z,y,vs,r,ob,es,ep,k _ _ (.inl rfl) e,c⟩
 | dT kvs =>
  obtain ⟨z,y,xs,r,ob,es,ep,e,c⟩:=x
  exact ⟨z,y,xs,Paired.mapP r fun p q z=>⟨z.1,ht _ _ z.2.1,z.2.2⟩,ob,es,ep,k _ _ (.inl rfl) e,c⟩
 | set S n=>obtain ⟨ob,es,ep,t,e,c⟩:=x; exact ⟨ob,es,ep,t,k _ _ (.inl rfl) e,c⟩
 | ins C dx fs =>
  obtain ⟨d,z,ne,e,mA,⟨od,es,ep,e2,c⟩,r⟩:=x
  exact ⟨ho _ d,z,ne,k _ _ (.inl rfl) e,mA,⟨od,es,ep,k _ _ (.inr d) e2,c⟩,r⟩
 | own y=>obtain ⟨ob,e⟩:=x; exact ⟨ob,k _ _ (.inl rfl) e⟩
 | xd fs=>obtain ⟨mA,⟨od,es,ep,e,c⟩,r⟩:=x; exact ⟨mA,⟨od,es,ep,k _ _ (.inl rfl) e,c⟩,r⟩
 | rng lo hi=>obtain ⟨t,u,v,e⟩:=x; exact ⟨t,u,v,k _ _ (.inl rfl) e⟩
 | frz ob u ih=>obtain ⟨e,q⟩:=x; exact ⟨k _ _ (.inl rfl) e,ih q⟩
 | tbl ps =>
  have e:h.get? a=some { cls:=.none,data:=.fields ps }:=x
  show h'.get? a=some { cls:=.none,data:=.fields ps }
  exact k a _ (.inl rfl) e
 | met f y =>
  have e:h.get? a=some (K5 (.ref f) (.ref y)):=x
  show h'.get? a=some (K5 (.ref f) (.ref y))
  exact k a _ (.inl rfl) e
 | ext φ=>obtain ⟨p,⟨o,e⟩,st⟩:=x; exact ⟨st _ _ p fun o q=>k _ _ (.inl rfl) q,⟨o,k _ _ (.inl rfl) e⟩,st⟩
theorem bK.lt (x:bK P w H h) (e:H a=some o):a < h.objs.size:=(x a o e).lt
theorem bK.fresh (x:bK P w H h) (e:h.objs.size<=a):H a=none:=by
 cases q:H a with
 | none=>rfl
 | some u=>exact absurd (GV (x.lt q) e) (HL _)
theorem bK.kept (x:bK P w H h) (k:∀ b u,h.get? b=some u->h'.get? b=some u):bK P w H h':=fun a o e =>
 (x a o e).stay (fun b u _ q=>k b u q) (fun _ q=>q) fun _ _ q=>q
theorem bK.laid (x:bK P w H h) (k:∀ b u,h.get? b=some u->h'.get? b=some u) (hp:h.objs.size<=a) (new:aT P w (upd H a o) h' a o):bK P w (upd H a o) h':=fun b u e=>by
 have hn:=x.fresh hp
 by_cases hb:b=a
 ·subst hb; rw [ag] at e; cases e; exact new
 ·rw [av hb] at e
  exact (x b u e).stay (fun c v _ q=>k c v q) (fun c q=>by rw [av (az q hn)]; exact q) fun c xs q=>by rw [av (az q hn)]; exact q
end
def Rd (H:Hp) (a:GC) (u:HO):Prop:=H a=some u\/∃ o,H a=some (.frz o u)
theorem Rd.ok {P:GQ} {w:Hh} {H:Hp} {h:HY} {a:GC} {u:HO} (r:Rd H a u) (x:bK P w H h):aT P w H h a u:=by
 rcases r with r | ⟨o,r⟩
 ·exact x a u r
 ·obtain ⟨_,q⟩:=x a _ r
  exact q
noncomputable def rn:Option HO->Prop
 | some (.lst _)=>True
 | some (.dK _)=>True
 | some (.dT _)=>True
 | some (.set _ _)=>True
 | some (.ins _ _ _)=>True
 | some (.ext _)=>True
 | _=>False
section
variable {P:GQ} {w:Hh} {H:Hp} {h h':HY} {x e:GC} {o':HO}
theorem bK.write (ok:bK P w H h) (mu:rn (H x)) (he:e=x\/H e=some (.own x)) (k:∀ b u,b≠e->h.get? b=some u->h'.get? b=some u) (heo:∃ u,h'.get? e=some u)
  (new:aT P w (upd H x o') h' x o'):bK P w (upd H x o') h':=fun b u q=>by
 have nown:∀ c y,H c=some (.own y)->c≠x:=fun c y r z=>by subst z; rw [r] at mu; exact mu
 have ntup:∀ c xs,H c=some (.tup xs)->c≠x:=fun c xs r z=>by subst z; rw [r] at mu; exact mu
 by_cases hb:b=x
 ·subst hb; rw [ag] at q; cases q; exact new
 ·rw [av hb] at q
  by_cases hbe:b=e
  ·have q':H b=some (.own x):=by
    rcases he with z | z
    ·exact absurd (hbe.trans z) hb
    ·rw [hbe]; exact z
   rw [q] at q'; cases q'
   obtain ⟨v,hv⟩:=heo
   exact ⟨v,by rw [hbe]; exact hv⟩
  ·refine (ok b u q).stay (fun c v hc r=>k c v ?_ r) (fun c r=>by rw [av (nown c b r)]; exact r) fun c xs r=>by rw [av (ntup c xs r)]; exact r
   rcases hc with rfl | hc
   ·exact hbe
   ·rintro rfl
    rcases he with z | z
    ·exact nown c b hc z
    ·rw [hc] at z; cases z; exact hb rfl
end
structure Un (fs ex:List GC) (H H':Hp) (h h':HY):Prop where
 keep:∀ b o,h.get? b=some o->H b=none->b∉fs->b∉ex->h'.get? b=some o
 slot:∀ b o,h.get? b=some o->H b=none->b∈fs->b∉ex->∃ sl,h'.get? b=some { o with slots:=sl }
 free:∀ b o,h.get? b=some o->H b=none->b∉ex->H' b=none
 there:∀ b o,h.get? b=some o->b∉ex->∃ o',h'.get? b=some o'
 tups:∀ b xs,H b=some (.tup xs)->H' b=some (.tup xs)
 frzs:∀ b o u,H b=some (.frz o u)->H' b=some (.frz o u)
 tbls:∀ b ps,H b=some (.tbl ps)->∃ more,H' b=some (.tbl (ps++more))
section
variable {fs fs' ex ex':List GC} {H H1 H2:Hp} {h h1 h2 h':HY} {a x e:GC} {o:HO}
theorem Un.any (u:Un fs ex H H1 h h1) {b:GC} {ob:Obj} (q:h.get? b=some ob) (n:H b=none) (hx:b∉ex):∃ sl,h1.get? b=some { ob with slots:=sl }:=by
 by_cases hb:b∈fs
 ·exact u.slot b ob q n hb hx
 ·exact ⟨ob.slots,u.keep b ob q n hb hx⟩
theorem Un.kept (k:∀ b u,h.get? b=some u->h'.get? b=some u):Un fs ex H H h h' :=
 ⟨fun b ob q _ _ _=>k b ob q,fun b ob q _ _ _=>⟨ob.slots,k b ob q⟩,fun _ _ _ n _=>n,fun b ob q _=>⟨ob,k b ob q⟩,fun _ _ q=>q,fun _ _ _ q=>q,fun _ ps q=>⟨#[],by rw [q]; simp⟩⟩
theorem Un.refl:Un fs ex H H h h:=Un.kept fun _ _ q=>q
theorem Un.laid (k:∀ b u,h.get? b=some u->h'.get? b=some u) (hp:h.objs.size<=a) (hn:H a=none):Un fs ex H (upd H a o) h h' where
 keep:=fun b u q _ _ _=>k b u q
 slot:=fun b u q _ _ _=>⟨u.slots,k b u q⟩
 free:=fun b u q n _=>by rw [av (GX (GV (GE q) hp))]; exact n
 there:=fun b u q _=>⟨u,k b u q⟩
 tups:=fun b xs q=>by rw [av (az q hn)]; exact q
 frzs:=fun b u xs q=>by rw [av (az q hn)]; exact q
 tbls:=fun b ps q=>⟨#[],by rw [av (az q hn),q]; simp⟩
theorem Un.write (mu:rn (H x)) (he:e=x\/H e=some (.own x)) (k:∀ b u,b≠e->h.get? b=some u->h'.get? b=some u) (heo:∃ u,h'.get? e=some u):Un fs ex H (upd H x o) h h':=by
 have hx:∀ b,H b=none->b≠x:=fun b n z=>by subst z; rw [n] at mu; exact mu
 have hb:∀ b,H b=none->b≠e:=fun b n z=>by
  subst z
  rcases he with r | r
  ·exact hx b n r
  ·rw [n] at r; cases r
 have hm:∀ b u,H b=some u->¬ rn (some u)->b≠x:=fun b u q nm z=>by subst z; rw [q] at mu; exact nm mu
 refine ⟨fun b u q n _ _=>k b u (hb b n) q,fun b u q n _ _=>⟨u.slots,k b u (hb b n) q⟩,fun b u q n _=>by rw [av (hx b n)]; exact n,fun b u q _=>?_,
  fun b xs q=>by rw [av (hm b _ q fun z=>z)]; exact q,fun b u xs q=>by rw [av (hm b _ q fun z=>z)]; exact q,fun b ps q=>⟨#[],by rw [av (hm b _ q fun z=>z),q]; simp⟩⟩
 by_cases hbe:b=e
 ·subst hbe; exact heo
 ·exact ⟨u,k b u hbe q⟩
end
noncomputable def vX (h:HY) (H:Hp):List GC:=(GK h.objs.size).filter fun a=>(H a).isSome
noncomputable def gi (h:HY) (H:Hp):HY:=PySem.W.hideAll h (vX h H)
theorem rC (h:HY) (H:Hp):(gi h H).objs.size=h.objs.size:=PySem.W.hideAll_size _ _
theorem uI {h:HY} {H:Hp} {b:GC} {o:Obj} (e:h.get? b=some o) (n:H b=none):(gi h H).get? b=some o :=
 PySem.W.hideAll_get _ e fun hm=>by
  have q:(H b).isSome=true:=(LD.mp hm).2
  rw [n] at q; simp at q
theorem x9 {h:HY} {H:Hp} {b:GC} {o:Obj} (e:(gi h H).get? b=some o):h.get? b=some o/\H b=none:=by
 have e':h.get? b=some o:=PySem.W.of_hideAll (vX h H) e
 refine ⟨e',?_⟩
 cases q:H b with
 | none=>rfl
 | some x =>
  have hm:b∈vX h H:=LD.mpr ⟨GT.mpr (GE e'),by simp [q]⟩
  have z:(gi h H).get? b=none:=PySem.W.hideAll_none (vX h H) hm
  rw [z] at e; cases e
noncomputable def xD (g h:HY) (L:GC):List (GC × Obj):=(GK h.objs.size).filterMap fun a=>if a=L\/(g.get? a).isSome=true then none else (h.get? a).map fun o=>(a,o)
noncomputable def rest (g h:HY) (L d:GC):List (GC × Obj):=(xD g h L).filter fun p=>decide (p.1≠d)
end L2
namespace L2
open PySem PySem.Spec PyProof.Rows
structure Mod (K:GP) (mg:Str->Option Da) (base:HY):Prop where
 kin:K.In base
 glob:base.Ns mainGlobals mg
 blt:∃ mb,base.Ns builtinsNs mb/\∀ x:Str,x≠"__name__"->mb x=bootBuiltins x
 nolimit:base.NoLimit
structure Cx where
 prog:GQ
 w:Hh
 K:GP
 mg:Str->Option Da
 base:HY
 A:Hj
 N:List Str
 s₀:Fk
 H₀:Hp
 env:Env
 outer:List Env
 stack:List Env
 ex:List GC
 fn:Str->Bool
 calm:Bool
 pn:List (GC × Obj)
 xe:Da->Fk->Prop
noncomputable def bA (l:List Env):List GC:=l.filterMap (·.frame)
noncomputable abbrev Cx.fs (X:Cx):List GC:=bA X.outer
def kO (sc:KI) (x:Str):Prop:=sc.names.lookup x=some .local\/sc.names.lookup x=some .cell\/sc.names.lookup x=some .free
def Loc (sc:KI) (x:Str):Prop:=sc.names.lookup x=some .local\/sc.names.lookup x=some .cell
def Look (env:Env) (h:HY) (m:Str->Option Da) (x:Str) (u:Da):Prop :=
 (env.kindOf x=some .local/\m x=some u)\/((env.kindOf x=some .cell\/env.kindOf x=some .free)/\∃ c,env.cells.lookup x=some c/\h.IsCell c (some u))
structure Cx.Ok (X:Cx):Prop where
 mod:Mod X.K X.mg X.base
 kind:X.env.scope.kind = .function
 glob:X.env.globals=mainGlobals
 blt:X.env.builtins=builtinsNs
 above:X.s₀.heap.objs.size<=X.env.locals
 inj:∀ x y c,X.env.cells.lookup x=some c->X.env.cells.lookup y=some c->x=y
 has:∀ x,(X.env.kindOf x=some .cell\/X.env.kindOf x=some .free)->∃ c,X.env.cells.lookup x=some c
 cab:∀ x c,X.fn x=true->X.env.cells.lookup x=some c->X.s₀.heap.objs.size<=c
 hd:X.calm=true->X.A.handled=none
 frames:X.A.frames=some X.stack
 stk:X.stack=X.outer\/(X.stack=X.env::X.outer/\X.env.frame=some X.env.locals)
 exf:∀ b∈X.ex,b≠X.env.locals/\∀ x c,X.env.cells.lookup x=some c->c≠b
 bs:∀ b o,X.base.get? b=some o->X.s₀.heap.get? b=some o/\X.H₀ b=none
 bsz:X.base.objs.size<=X.s₀.heap.objs.size
 noex:∀ b o,X.base.get? b=some o->b∉X.ex
 exfs:∀ b∈X.ex,b∉X.fs
 funs:X.s₀.heap.FunFrames X.base X.outer
 frf:∀ b∈X.fs,X.H₀ b=none
structure Inv (X:Cx) (pins:List (GC × Obj)) (σ:List (Option V)) (H:Hp) (s:Fk):Prop where
 ok:X.Ok
 os:s.os=X.s₀.os
 bare:Lf s.gens
 base:Un X.fs X.ex X.H₀ H X.s₀.heap s.heap
 loc:∃ m,s.heap.Ns X.env.locals m/\∀ (i:Nat) (x:Str) (v:V),X.N[i]? = some x->σ[i]? = some (some v)->kO X.env.scope x->∃ u,RelV v u/\Look X.env s.heap m x u
 cell:∀ x c,X.env.cells.lookup x=some c->∃ v,s.heap.IsCell c v
 free:H X.env.locals=none
 freeC:∀ x c,X.env.cells.lookup x=some c->H c=none
 pin:∀ p∈X.pn++pins,s.heap.get? p.1=some p.2/\H p.1=none/\p.1≠X.env.locals/\p.1∉X.fs/\∀ v,p.2.data≠.cell v
 hok:bK X.prog X.w H s.heap
 len:σ.length=X.N.length
section
variable {X:Cx} {pins:List (GC × Obj)} {σ:List (Option V)} {H H':Hp} {s:Fk} {h':HY}
theorem Cx.Ok.nofr (ok:X.Ok) {b:GC} {o:Obj} (e:X.base.get? b=some o):b∉X.fs:=fun hb=>by
 have:=(ok.funs.mem hb).1
 rw [e] at this; cases this
theorem Inv.bs (I:Inv X pins σ H s):∀ b o,X.base.get? b=some o->s.heap.get? b=some o/\H b=none:=fun b o e =>
 ⟨I.base.keep b o (I.ok.bs b o e).1 (I.ok.bs b o e).2 (I.ok.nofr e) (I.ok.noex b o e),I.base.free b o (I.ok.bs b o e).1 (I.ok.bs b o e).2 (I.ok.noex b o e)⟩
theorem Inv.bk (I:Inv X pins σ H s):∀ b o,X.base.get? b=some o->s.heap.get? b=some o:=fun b o e=>(I.bs b o e).1
theorem Inv.mod (I:Inv X pins σ H s):Mod X.K X.mg X.base:=I.ok.mod
theorem Inv.kIn (I:Inv X pins σ H s):X.K.In s.heap:=I.ok.mod.kin.keeps I.bk
theorem Inv.fr (I:Inv X pins σ H s):∃ m,Fr X.base X.env.locals s.heap m :=
 let ⟨m,hn,_⟩:=I.loc
 ⟨m,hn,I.bk,Hm I.ok.bsz I.ok.above⟩
theorem Inv.lt (I:Inv X pins σ H s):X.env.locals < s.heap.objs.size:=let ⟨_,hn,_⟩:=I.loc; hn.lt
theorem Inv.sz (I:Inv X pins σ H s):X.s₀.heap.objs.size<=s.heap.objs.size:=Hm I.ok.above (KP I.lt)
theorem Inv.nofs (I:Inv X pins σ H s) {a:GC} (h:s.heap.objs.size<=a):a∉X.fs:=fun hb=>by
 obtain ⟨_,o,ho,_⟩:=I.ok.funs.mem hb
 exact absurd (GV (GE ho) (Hm I.sz h)) (HL _)
theorem Inv.cne (I:Inv X pins σ H s):∀ x c,X.env.cells.lookup x=some c->c≠X.env.locals:=fun x c e z=>by
 obtain ⟨v,o,ho,hd⟩:=I.cell x c e
 obtain ⟨m,⟨o',es,ep,ho',hd',_⟩,_⟩:=I.loc
 rw [z,ho'] at ho; cases ho; rw [hd'] at hd; cases hd
theorem Inv.funs (I:Inv X pins σ H s):s.heap.FunFrames X.base X.outer:=by
 have all:∀ (l:List Env),(∀ b∈bA l,b∈X.fs)->X.s₀.heap.FunFrames X.base l->s.heap.FunFrames X.base l:=by
  intro l
  induction l with
  | nil=>intro _ _; trivial
  | cons env r ih =>
   intro hs hl
   obtain ⟨hk,⟨L,o,hf,hn,ho,hd⟩,hr⟩:=hl
   have hL:L∈X.fs:=hs L (by unfold bA; rw [Ib,hf]; exact GY)
   obtain ⟨sl,e⟩:=I.base.slot L o ho (I.ok.frf L hL) hL fun z=>I.ok.exfs L z hL
   exact ⟨hk,⟨L,_,hf,hn,e,hd⟩,ih (fun b hb=>hs b (by unfold bA; rw [Ib,hf]; exact GJ _ hb)) hr⟩
 exact all X.outer (fun _ hb=>hb) I.ok.funs
theorem Inv.stack (I:Inv X pins σ H s):s.heap.FunFrames X.base X.stack:=by
 rcases I.ok.stk with e | ⟨e,hf⟩
 ·rw [e]; exact I.funs
 ·rw [e]
  obtain ⟨m,hn,_⟩:=I.loc
  refine .cons (by rw [I.ok.kind]; decide) hf hn ?_ I.funs
  exact IW (Hm I.ok.bsz I.ok.above)
theorem Inv.stkSub (I:Inv X pins σ H s):∀ b∈bA X.stack,b∈X.env.locals::X.fs:=fun b hb=>by
 rcases I.ok.stk with e | ⟨e,hf⟩
 ·rw [e] at hb; exact GJ _ hb
 ·rw [e] at hb
  unfold bA at hb
  rw [Ib,hf] at hb
  exact hb
theorem Inv.stkFree (I:Inv X pins σ H s):∀ b∈bA X.stack,H b=none:=fun b hb=>by
 rcases GI.mp (I.stkSub b hb) with e | hb
 ·rw [e]; exact I.free
 ·obtain ⟨_,o,ho,_⟩:=I.ok.funs.mem hb
  exact I.base.free b o ho (I.ok.frf b hb) fun z=>I.ok.exfs b z hb
theorem Inv.step {g':Array Lh} {t':Nat} {d':Drawn} {ch:List GC} (I:Inv X pins σ H s)
  (hch:∀ b∈ch,(b∈X.ex\/X.s₀.heap.objs.size<=b)/\b≠X.env.locals/\(∀ x c,X.env.cells.lookup x=some c->c≠b)/\∀ p∈X.pn++pins,p.1≠b)
  (keep:∀ b o,b≠X.env.locals->b∉X.fs->b∉ch->s.heap.get? b=some o->H b=none->h'.get? b=some o)
  (slot:∀ b o,b≠X.env.locals->b∈X.fs->b∉ch->s.heap.get? b=some o->H b=none->∃ sl,h'.get? b=some { o with slots:=sl }) (free:∀ b o,b∉ch->s.heap.get? b=some o->H b=none->H' b=none)
  (there:∀ b o,b∉ch->s.heap.get? b=some o->∃ o',h'.get? b=some o')
  (tups:∀ b xs,H b=some (.tup xs)->H' b=some (.tup xs)) (frzs:∀ b o u,H b=some (.frz o u)->H' b=some (.frz o u)) (tbls:∀ b ps,H b=some (.tbl ps)->∃ more,H' b=some (.tbl (ps++more)))
  (ns:∀ m,s.heap.Ns X.env.locals m->h'.Ns X.env.locals m) (hok:bK X.prog X.w H' h') (hg:Lf g') :
  Inv X pins σ H' { s with heap:=h',gens:=g',drawn:=d',toks:=t' }:=by
 have neL:∀ b o,X.s₀.heap.get? b=some o->b≠X.env.locals:=fun b o e=>GX (GV (GE e) I.ok.above)
 have neC:∀ b o,X.s₀.heap.get? b=some o->b∉X.ex->b∉ch:=fun b o e hx hb=>by
  rcases (hch b hb).1 with z | z
  ·exact hx z
  ·exact absurd (GV (GE e) z) (HL _)
 have cellK:∀ x c,X.env.cells.lookup x=some c->∀ v,s.heap.IsCell c v->h'.IsCell c v:=fun x c e v ⟨o,ho,hd⟩=>by
  have nch:c∉ch:=fun z=>(hch c z).2.2.1 x c e rfl
  by_cases hc:c∈X.fs
  ·obtain ⟨sl,q⟩:=slot c o (I.cne x c e) hc nch ho (I.freeC x c e)
   exact ⟨_,q,hd⟩
  ·exact ⟨o,keep c o (I.cne x c e) hc nch ho (I.freeC x c e),hd⟩
 refine ⟨I.ok,I.os,hg,⟨fun b o e n hb hx=>?_,fun b o e n hb hx=>?_,fun b o e n hx=>?_,fun b o e hx=>?_,fun b xs e=>tups b xs (I.base.tups b xs e),fun b o xs e=>frzs b o xs (I.base.frzs b o xs e),fun b ps e=>?_⟩,?_,fun x c e=>?_,?_,fun x c e=>?_,fun p hp=>?_,hok,I.len⟩
 ·exact keep b o (neL b o e) hb (neC b o e hx) (I.base.keep b o e n hb hx) (I.base.free b o e n hx)
 ·obtain ⟨sl,e1⟩:=I.base.slot b o e n hb hx
  obtain ⟨sl',e2⟩:=slot b _ (neL b o e) hb (neC b o e hx) e1 (I.base.free b o e n hx)
  exact ⟨sl',e2⟩
 ·obtain ⟨o',e1⟩:=I.base.there b o e hx
  exact free b o' (neC b o e hx) e1 (I.base.free b o e n hx)
 ·obtain ⟨o',e1⟩:=I.base.there b o e hx
  exact there b o' (neC b o e hx) e1
 ·obtain ⟨m1,e1⟩:=I.base.tbls b ps e
  obtain ⟨m2,e2⟩:=tbls b _ e1
  exact ⟨m1++m2,by rw [e2,Array.append_assoc]⟩
 ·obtain ⟨m,hn,hl⟩:=I.loc
  refine ⟨m,ns m hn,fun i x v e1 e2 e3=>?_⟩
  obtain ⟨u,r,l⟩:=hl i x v e1 e2 e3
  refine ⟨u,r,?_⟩
  rcases l with l | ⟨k,c,e,z⟩
  ·exact .inl l
  ·exact .inr ⟨k,c,e,cellK x c e _ z⟩
 ·obtain ⟨v,z⟩:=I.cell x c e
  exact ⟨v,cellK x c e v z⟩
 ·obtain ⟨m,⟨o,_,_,ho,_⟩,_⟩:=I.loc
  exact free _ o (fun z=>(hch _ z).2.1 rfl) ho I.free
 ·obtain ⟨v,o,ho,hd⟩:=I.cell x c e
  exact free c o (fun z=>(hch c z).2.2.1 x c e rfl) ho (I.freeC x c e)
 ·obtain ⟨e,n,ne,nf,d⟩:=I.pin p hp
  have nch:p.1∉ch:=fun z=>(hch p.1 z).2.2.2 p hp rfl
  exact ⟨keep p.1 p.2 ne nf nch e n,free p.1 p.2 nch e n,ne,nf,d⟩
theorem Inv.un {t':Nat} (I:Inv X pins σ H s) (u:Un X.fs [] H H' s.heap h') (hok:bK X.prog X.w H' h'):Inv X pins σ H' { s with heap:=h',toks:=t' }:=by
 obtain ⟨m,⟨o,es,ep,ho,r⟩,_⟩:=id I.loc
 obtain ⟨sl,hL⟩:=u.any ho I.free (by simp)
 exact I.step (g':=s.gens) (d':=s.drawn) (ch:=[]) (fun _ z=>nomatch z) (fun b o _ hb _ e n=>u.keep b o e n hb (by simp)) (fun b o _ hb _ e n=>u.slot b o e n hb (by simp)) (fun b o _ e n=>u.free b o e n (by simp)) (fun b o _ e=>u.there b o e (by simp)) u.tups u.frzs u.tbls (fun m' hm=>by
  obtain ⟨o',es',ep',ho',r'⟩:=hm
  rw [ho] at ho'; cases ho'
  exact ⟨_,es',ep',hL,r'⟩) hok I.bare
theorem Inv.call {g':Array Lh} {t':Nat} {d':Drawn} {ch:List GC} (I:Inv X pins σ H s) (u:Un (bA X.stack) ch H H' s.heap h') (hok:bK X.prog X.w H' h') (hg:Lf g')
  (hch:∀ b∈ch,(b∈X.ex\/X.s₀.heap.objs.size<=b)/\b≠X.env.locals/\(∀ x c,X.env.cells.lookup x=some c->c≠b)/\∀ p∈X.pn++pins,p.1≠b) :
  Inv X pins σ H' { s with heap:=h',gens:=g',drawn:=d',toks:=t' }:=by
 obtain ⟨m,⟨o,es,ep,ho,r⟩,_⟩:=id I.loc
 obtain ⟨sl,hL⟩:=u.any ho I.free fun z=>(hch _ z).2.1 rfl
 exact I.step (ch:=ch) hch (fun b o hL hb hc e n=>u.keep b o e n (fun z=>(GI.mp (I.stkSub b z)).elim hL hb) hc) (fun b o _ _ hc e n=>u.any e n hc) (fun b o hc e n=>u.free b o e n hc) (fun b o hc e=>u.there b o e hc) u.tups u.frzs u.tbls (fun m' hm=>by
  obtain ⟨o',es',ep',ho',r'⟩:=hm
  rw [ho] at ho'; cases ho'
  exact ⟨_,es',ep',hL,r'⟩) hok hg
theorem Inv.turned {t':Nat} {it:GC} (I:Inv X pins σ H s) (k:∀ b o,b≠it->s.heap.get? b=some o->h'.get? b=some o) (hn:H it=none) (hL:it≠X.env.locals)
  (h1:it∈X.ex\/X.s₀.heap.objs.size<=it) (h2:∀ x c,X.env.cells.lookup x=some c->c≠it) (h3:∀ p∈X.pn++pins,p.1≠it):Inv X pins σ H { s with heap:=h',toks:=t' }:=by
 have nit:∀ b u,H b=some u->b≠it:=fun b u e z=>by rw [z,hn] at e; cases e
 refine I.step (g':=s.gens) (d':=s.drawn) (ch:=[it]) (fun b hb=>?_) (fun b o _ _ hc e _=>k b o (fun z=>hc (by simp [z])) e) (fun b o _ _ hc e _=>⟨o.slots,k b o (fun z=>hc (by simp [z])) e⟩) (fun _ _ _ _ n=>n)
  (fun b o hc e=>⟨o,k b o (fun z=>hc (by simp [z])) e⟩) (fun _ _ e=>e) (fun _ _ _ e=>e) (fun b ps e=>⟨#[],by rw [e]; simp⟩) (fun m hm=>?_) (fun b u e=>?_) I.bare
 ·have e:b=it:=by simpa using hb
  subst e
  exact ⟨h1,hL,h2,h3⟩
 ·obtain ⟨o,es,ep,ho,r⟩:=hm
  exact ⟨o,es,ep,k _ o (Ip hL) ho,r⟩
 ·refine (I.hok b u e).stay (fun c v hc q=>k c v ?_ q) (fun _ q=>q) fun _ _ q=>q
  rcases hc with z | z
  ·rw [z]; exact nit b u e
  ·exact nit c _ z
theorem Inv.tok (I:Inv X pins σ H s) (t:Nat):Inv X pins σ H { s with toks:=t }:=I.un (h':=s.heap) (t':=t) Un.refl I.hok
theorem Inv.kept {t':Nat} (I:Inv X pins σ H s) (k:∀ b u,s.heap.get? b=some u->h'.get? b=some u):Inv X pins σ H { s with heap:=h',toks:=t' }:=I.un (Un.kept k) (I.hok.kept k)
theorem Inv.laid {a:GC} {o:HO} {t':Nat} (I:Inv X pins σ H s) (k:∀ b u,s.heap.get? b=some u->h'.get? b=some u) (hp:s.heap.objs.size<=a) (new:aT X.prog X.w (upd H a o) h' a o) :
  Inv X pins σ (upd H a o) { s with heap:=h',toks:=t' }:=I.un (Un.laid k hp (I.hok.fresh hp)) (I.hok.laid k hp new)
theorem Inv.write {x e:GC} {o:HO} {t':Nat} (I:Inv X pins σ H s) (mu:rn (H x)) (he:e=x\/H e=some (.own x)) (k:∀ b u,b≠e->s.heap.get? b=some u->h'.get? b=some u) (heo:∃ u,h'.get? e=some u)
  (new:aT X.prog X.w (upd H x o) h' x o):Inv X pins σ (upd H x o) { s with heap:=h',toks:=t' }:=I.un (Un.write mu he k heo) (I.hok.write mu he k heo new)
theorem Inv.weak {σ':List (Option V)} (I:Inv X pins σ H s) (hl:σ'.length=σ.length) (w:∀ (i:Nat) v,σ'[i]? = some (some v)->σ[i]? = some (some v)):Inv X pins σ' H s :=
 ⟨I.ok,I.os,I.bare,I.base,let ⟨m,hn,hl'⟩:=I.loc; ⟨m,hn,fun i x v e1 e2 e3=>hl' i x v e1 (w i v e2) e3⟩,I.cell,I.free,I.freeC,I.pin,I.hok,hl.trans I.len⟩
theorem Inv.pins_of {pins':List (GC × Obj)} (I:Inv X pins σ H s) (h:∀ p∈pins',s.heap.get? p.1=some p.2/\H p.1=none/\p.1≠X.env.locals/\p.1∉X.fs/\∀ v,p.2.data≠.cell v):Inv X pins' σ H s :=
 ⟨I.ok,I.os,I.bare,I.base,I.loc,I.cell,I.free,I.freeC,fun p hp=>(HN.mp hp).elim (fun z=>I.pin p (JD _ z)) (h p),I.hok,I.len⟩
theorem iL {N:List Str} (hN:N.Nodup) {i j:Nat} {x:Str} (a:N[i]? = some x) (b:N[j]? = some x):i=j:=by
 obtain ⟨h1,e1⟩:=GD.mp a
 obtain ⟨h2,e2⟩:=GD.mp b
 exact (List.getElem_inj hN).mp (e1.trans e2.symm)
theorem gB {M:Model} {A:Hj} {E:Da->Fk->Prop} {i:Nat} {x:Str} {v:V} {u:Da} {Q:Unit->Fk->Prop} (I:Inv X pins σ H s) (hN:X.N.Nodup) (hi:X.N[i]? = some x) (hx:Loc X.env.scope x) (r:RelV v u)
  (h:∀ s',Inv X pins (σ.set i (some v)) H s'->(∃ a,Jv a s.heap s'.heap/\(a=X.env.locals\/X.env.cells.lookup x=some a))->Q () s') (hf:X.fn x=true\/X.env.scope.names.lookup x=some .local:=by first | exact .inl rfl | exact .inr rfl | assumption):wpAny M A (storeName X.env x u) Q E s:=by
 obtain ⟨m,hn,hl⟩:=id I.loc
 have hcls:(X.env.scope.kind == .class || (X.env.scope.kind == .module&&X.env.locals != X.env.globals))=false:=by rw [I.ok.kind]; rfl
 have hiσ:i < σ.length:=by rw [I.len]; exact (GD.mp hi).1
 have cne:=I.cne
 have tracked:∀ {a:GC} {h':HY},(∃ o,s.heap.get? a=some o/\H a=none)->Jv a s.heap h'->bK X.prog X.w H h':=fun {a h'} ha hs b ob e=>by
  obtain ⟨_,_,hfree⟩:=ha
  refine (I.hok b ob e).stay (fun c w' hc q=>(hs.2 c ?_).trans q) (fun _ q=>q) fun _ _ q=>q
  rintro rfl
  rcases hc with rfl | hc
  ·rw [hfree] at e; cases e
  ·rw [hfree] at hc; cases hc
 rcases hx with hk | hk
 ·refine wpAny_storeName_local hk hn (fun h' hn' hs=>?_) hcls
  obtain ⟨oL,_,_,hoL,_⟩:=id hn
  refine h _ ⟨I.ok,I.os,I.bare,⟨fun b o e n hb hx=>?_,fun b o e n hb hx=>?_,I.base.free,fun b o e hx=>?_,I.base.tups,I.base.frzs,I.base.tbls⟩,⟨_,hn',fun j y v' e1 e2 e3=>?_⟩,fun y c e=>?_,I.free,I.freeC,fun p hp=>?_,tracked ⟨oL,hoL,I.free⟩ hs,by simpa using I.len⟩ ⟨_,hs,.inl rfl⟩
  ·exact (hs.2 b (GX (GV (GE e) I.ok.above))).trans (I.base.keep b o e n hb hx)
  ·obtain ⟨sl,e1⟩:=I.base.slot b o e n hb hx
   exact ⟨sl,(hs.2 b (GX (GV (GE e) I.ok.above))).trans e1⟩
  ·obtain ⟨o',e1⟩:=I.base.there b o e hx
   exact ⟨o',(hs.2 b (GX (GV (GE e) I.ok.above))).trans e1⟩
  ·by_cases hj:j=i
   ·subst hj
    rw [hi] at e1; cases e1
    rw [J1 hiσ] at e2
    cases e2
    exact ⟨u,r,.inl ⟨hk,by simp⟩⟩
   ·rw [JE (Ip hj)] at e2
    obtain ⟨u',r',q⟩:=hl j y v' e1 e2 e3
    refine ⟨u',r',?_⟩
    rcases q with ⟨k,e⟩ | ⟨k,c,e,z⟩
    ·refine .inl ⟨k,?_⟩
     have:y≠x:=fun e=>hj (iL hN e1 (e▸hi))
     simp [this,e]
    ·exact .inr ⟨k,c,e,z.sameBut hs (cne y c e)⟩
  ·obtain ⟨w',z⟩:=I.cell y c e
   exact ⟨w',z.sameBut hs (cne y c e)⟩
  ·obtain ⟨e,n,ne,nf,d⟩:=I.pin p hp
   exact ⟨(hs.2 p.1 ne).trans e,n,ne,nf,d⟩
 ·have hfn:X.fn x=true:=by
   rcases hf with z | z
   ·exact z
   ·rw [z] at hk; cases hk
  obtain ⟨c,hc⟩:=I.ok.has x (.inl hk)
  obtain ⟨w',z⟩:=I.cell x c hc
  refine wpAny_storeName_cell I.ok.kind hk hc z (fun h' hc' hs=>?_)
  obtain ⟨oc,hoc,hocd⟩:=id z
  refine h { s with heap:=h' } ⟨I.ok,I.os,I.bare,⟨fun b o e n hb hx=>?_,fun b o e n hb hx=>?_,I.base.free,fun b o e hx=>?_,I.base.tups,I.base.frzs,I.base.tbls⟩,⟨m,hn.sameBut hs (Ip (cne x c hc)),fun j y v' e1 e2 e3=>?_⟩,fun y c' e=>?_,I.free,I.freeC,fun p hp=>?_,tracked ⟨oc,hoc,I.freeC x c hc⟩ hs,by simpa using I.len⟩ ⟨c,hs,.inr hc⟩
  ·exact (hs.2 b (GX (GV (GE e) (I.ok.cab x c hfn hc)))).trans (I.base.keep b o e n hb hx)
  ·obtain ⟨sl,e1⟩:=I.base.slot b o e n hb hx
   exact ⟨sl,(hs.2 b (GX (GV (GE e) (I.ok.cab x c hfn hc)))).trans e1⟩
  ·obtain ⟨o',e1⟩:=I.base.there b o e hx
   exact ⟨o',(hs.2 b (GX (GV (GE e) (I.ok.cab x c hfn hc)))).trans e1⟩
  ·by_cases hj:j=i
   ·subst hj
    rw [hi] at e1; cases e1
    rw [J1 hiσ] at e2
    cases e2
    exact ⟨u,r,.inr ⟨.inl hk,c,hc,hc'⟩⟩
   ·rw [JE (Ip hj)] at e2
    obtain ⟨u',r',q⟩:=hl j y v' e1 e2 e3
    refine ⟨u',r',?_⟩
    rcases q with q | ⟨k,c',e,z'⟩
    ·exact .inl q
    ·refine .inr ⟨k,c',e,z'.sameBut hs ?_⟩
     rintro rfl
     exact hj (iL hN e1 (I.ok.inj _ _ _ e hc▸hi))
  ·by_cases hcc:c'=c
   ·subst hcc; exact ⟨_,hc'⟩
   ·obtain ⟨w2,z2⟩:=I.cell y c' e
    exact ⟨w2,z2.sameBut hs hcc⟩
  ·obtain ⟨e,n,ne,nf,d⟩:=I.pin p hp
   refine ⟨(hs.2 p.1 ?_).trans e,n,ne,nf,d⟩
   intro q
   rw [q,hoc] at e
   have q':oc=p.2:=Hr e
   exact d w' (by rw [<- q']; exact hocd)
theorem i0 {M:Model} {A:Hj} {E:Da->Fk->Prop} {i:Nat} {x:Str} {v:V} {u:Da} {Q:Unit->Fk->Prop} (I:Inv X pins σ H s) (hN:X.N.Nodup) (hi:X.N[i]? = some x) (hx:Loc X.env.scope x) (r:RelV v u)
  (h:∀ s',Inv X pins (σ.set i (some v)) H s'->Q () s') (hf:X.fn x=true\/X.env.scope.names.lookup x=some .local:=by first | exact .inl rfl | exact .inr rfl | assumption):wpAny M A (storeName X.env x u) Q E s :=
 gB I hN hi hx r (fun s' I' _=>h s' I') hf
theorem Inv.call' {s':Fk} {ch:List GC} (I:Inv X pins σ H s) (ho:s'.os=s.os) (u:Un (bA X.stack) ch H H' s.heap s'.heap) (hok:bK X.prog X.w H' s'.heap) (hg:Lf s'.gens)
  (hch:∀ b∈ch,(b∈X.ex\/X.s₀.heap.objs.size<=b)/\b≠X.env.locals/\(∀ x c,X.env.cells.lookup x=some c->c≠b)/\∀ p∈X.pn++pins,p.1≠b):Inv X pins σ H' s':=by
 obtain ⟨h',g',d',t',o'⟩:=s'
 have e:o'=s.os:=ho
 subst e
 exact I.call (g':=g') (t':=t') (d':=d') u hok hg hch
end
noncomputable abbrev XK:=Da->Option GC->Hp->Prop
noncomputable abbrev St:=List (Option V)
noncomputable abbrev VK:=V->Hp->Prop
noncomputable abbrev TE:=St->Hp->VK->Prop
noncomputable abbrev TT:=St->Hp->(Bool->Hp->Prop)->Prop
noncomputable abbrev TA:=St->Hp->(List V->Hp->Prop)->Prop
structure Ends where
 nx:St->Hp->Prop
 rt:VK
 bk:St->Hp->Prop:=fun _ _=>False
 ct:St->Hp->Prop:=fun _ _=>False
noncomputable abbrev TS:=Ends->St->Hp->Prop
def EP (X:Cx) (pins:List (GC × Obj)) (σ:St) (Q:VK) (u:Da) (s':Fk):Prop:=∃ v H',Inv X pins σ H' s'/\RelV v u/\Q v H'
def TP (X:Cx) (pins:List (GC × Obj)) (σ:St) (Q:Bool->Hp->Prop) (b:Bool) (s':Fk):Prop:=∃ H',Inv X pins σ H' s'/\Q b H'
def AP (X:Cx) (pins:List (GC × Obj)) (σ:St) (Q:List V->Hp->Prop) (us:List Da) (s':Fk):Prop:=∃ vs H',Inv X pins σ H' s'/\Vals vs us/\Q vs H'
def SP (X:Cx) (pins:List (GC × Obj)) (D:Ends) (f:Flow) (s':Fk):Prop :=
 match f with
 | .next=>∃ σ' H',Inv X pins σ' H' s'/\D.nx σ' H'
 | .brk=>∃ σ' H',Inv X pins σ' H' s'/\D.bk σ' H'
 | .cont=>∃ σ' H',Inv X pins σ' H' s'/\D.ct σ' H'
 | .ret u=>∃ v σ' H',Inv X pins σ' H' s'/\RelV v u/\D.rt v H'
def PE (X:Cx) (e:HZ) (t:TE):Prop :=
 ∀ (pins:List (GC × Obj)) (s:Fk) (σ:St) (H:Hp) (Q:VK),Inv X pins σ H s->t σ H Q->wpAny (model X.prog X.w) X.A (eval e X.env) (EP X pins σ Q) X.xe s
def PT (X:Cx) (e:HZ) (t:TT):Prop :=
 ∀ (pins:List (GC × Obj)) (s:Fk) (σ:St) (H:Hp) (Q:Bool->Hp->Prop),Inv X pins σ H s->t σ H Q->wpAny (model X.prog X.w) X.A (isTrue e X.env (eval e X.env)) (TP X pins σ Q) X.xe s
def PW (X:Cx) (e:HZ) (t:TT):Prop :=
 ∀ (whole:Sem Da) (pins:List (GC × Obj)) (s:Fk) (σ:St) (H:Hp) (Q:Bool->Hp->Prop),Inv X pins σ H s->t σ H Q->wpAny (model X.prog X.w) X.A (isTrue e X.env whole) (TP X pins σ Q) X.xe s
theorem PW.pt {X:Cx} {e:HZ} {t:TT} (h:PW X e t):PT X e t:=h _
def PA (X:Cx) (es:List HZ) (t:TA):Prop :=
 ∀ (pos:Pos) (pins:List (GC × Obj)) (s:Fk) (σ:St) (H:Hp) (Q:List V->Hp->Prop),Inv X pins σ H s->t σ H Q->wpAny (model X.prog X.w) X.A (spliced (backTo pos (starEach es X.env))) (AP X pins σ Q) X.xe s
def PS (X:Cx) (st:Il) (t:TS):Prop :=
 ∀ (pins:List (GC × Obj)) (s:Fk) (σ:St) (H:Hp) (D:Ends),Inv X pins σ H s->t D σ H->wpAny (model X.prog X.w) X.A (exec st X.env) (SP X pins D) X.xe s
def c7 (X:Cx) (st:List Il) (t:TS):Prop :=
 ∀ (pins:List (GC × Obj)) (s:Fk) (σ:St) (H:Hp) (D:Ends),Inv X pins σ H s->t D σ H->wpAny (model X.prog X.w) X.A (execs st X.env) (SP X pins D) X.xe s
theorem ax {α:Type} {t:Sem α} {Q Q':α->Fk->Prop} {M:Model} {A:Hj} {E:Da->Fk->Prop} {s:Fk} (h:wpAny M A t Q E s) (hQ:∀ a s,Q a s->Q' a s):wpAny M A t Q' E s:=Ij h hQ fun _ _ x=>x
end L2
namespace L2
open PySem PySem.Spec PyProof.Rows
section
variable {X:Cx}
theorem bin {a b:HZ} {ta tb:TE} (ha:PE X a ta) (hb:PE X b tb) {pins:List (GC × Obj)} {s:Fk} {σ:St} {H:Hp} {R:V->V->Hp->Prop} (I:Inv X pins σ H s) (h:ta σ H fun x H1=>tb σ H1 fun y H2=>R x y H2)
  {α:Type} {Q:α->Fk->Prop} {f:Da->Da->Sem α}
  (hf:∀ v u s2 x y H2,Inv X pins σ H2 s2->RelV x v->RelV y u->R x y H2->wpAny (model X.prog X.w) X.A (f v u) Q X.xe s2) :
  wpAny (model X.prog X.w) X.A (eval a X.env) (fun v s₁=>wpAny (model X.prog X.w) X.A (eval b X.env) (fun u s₂=>wpAny (model X.prog X.w) X.A (f v u) Q X.xe s₂) X.xe s₁) X.xe s:=by
 refine ax (ha pins s σ H _ I h) fun v s1 ⟨x,H1,I1,r1,q1⟩=>?_
 refine ax (hb pins s1 σ H1 _ I1 q1) fun u s2 ⟨y,H2,I2,r2,q2⟩=>?_
 exact hf v u s2 x y H2 I2 r1 r2 q2
noncomputable def A5 (i:Nat):TE:=fun σ H Q=>∃ v,σ[i]? = some (some v)/\Q v H
noncomputable def tC (v:V):TE:=fun _ H Q=>Q v H
theorem gL {i:Nat} {x:Str} {pos:Pos} (hN:X.N[i]? = some x) (hv:kO X.env.scope x) (hd:(x == ("__debug__" : Str))=false:=by decide) (hcd:(x == ("__classdict__" : Str))=false:=by decide):PE X (.Name x pos) (A5 i):=by
 intro pins s σ H Q I h
 obtain ⟨v,e,h⟩:=h
 obtain ⟨m,hn,hl⟩:=I.loc
 obtain ⟨u,r,l⟩:=hl i x v hN e hv
 have fin:EP X pins σ Q u s:=⟨v,H,I,r,h⟩
 rcases l with ⟨hk,hm⟩ | ⟨hk,c,hc,hcell⟩
 ·exact wpAny_Name (wpAny_loadName_local I.ok.kind hk hn hm fin) hd
 ·rcases hk with hk | hk
  ·exact wpAny_Name (wpAny_loadName_cell I.ok.kind hk hc hcell fin) hd
  ·exact wpAny_Name (wpAny_loadName_free I.ok.kind hk hc hcell fin hcd) hd
theorem ak {i j pos}:PE X (.Constant (.int i) j pos) (tC (.int i)):=fun _ _ _ H _ I h=>wpAny_Constant_int ⟨.int i,H,I.tok _,⟨_,rfl⟩,h⟩
theorem cc {b j pos}:PE X (.Constant (.bool b) j pos) (tC (.bl b)):=fun _ _ _ H _ I h=>Constant_bool ⟨.bl b,H,I,rfl,h⟩
theorem Bj {j pos}:PE X (.Constant .none j pos) (tC .non):=fun _ _ _ H _ I h=>Constant_none ⟨.non,H,I,rfl,h⟩
theorem aw {x j pos}:PE X (.Constant (.str x) j pos) (tC (.str x)):=fun _ _ _ H _ I h=>Calls.Constant_str ⟨.str x,H,I.tok _,⟨_,rfl⟩,h⟩
def Gl (X:Cx) (x:Str):Prop:=X.env.kindOf x=some .globalImplicit
theorem dn {E:Da->Fk->Prop} {pins:List (GC × Obj)} {s:Fk} {σ:St} {H:Hp} {x:Str} {u:Da} {pos:Pos} {Q:Da->Fk->Prop} (I:Inv X pins σ H s) (hg:Gl X x) (hm:X.mg x=some u) (h:Q u s)
  (hd:(x == ("__debug__" : Str))=false:=by decide):wpAny (model X.prog X.w) X.A (eval (.Name x pos) X.env) Q E s :=
 KJ I.ok.kind hg (Calls.loadGlobal_global (by rw [I.ok.glob]; exact I.mod.glob.keeps I.bk) hm h) hd
theorem bX {E:Da->Fk->Prop} {pins:List (GC × Obj)} {s:Fk} {σ:St} {H:Hp} {x:Str} {u:Da} {pos:Pos} {Q:Da->Fk->Prop} (I:Inv X pins σ H s) (hg:Gl X x) (hm:X.mg x=none) (hv:bootBuiltins x=some u) (h:Q u s)
  (hn:x≠"__name__":=by decide) (hd:(x == ("__debug__" : Str))=false:=by decide):wpAny (model X.prog X.w) X.A (eval (.Name x pos) X.env) Q E s:=by
 obtain ⟨mb,h1,h2⟩:=I.mod.blt
 exact KJ I.ok.kind hg (Calls.loadGlobal_builtin (by rw [I.ok.glob]; exact I.mod.glob.keeps I.bk) hm (by rw [I.ok.blt]; exact h1.keeps I.bk) ((h2 x hn).trans hv) h) hd
theorem aU {x:Str} {v:V} {u:Da} {pos:Pos} (hg:Gl X x) (hm:X.mg x=some u) (r:RelV v u) (hd:(x == ("__debug__" : Str))=false:=by decide):PE X (.Name x pos) (tC v) :=
 fun _ _ _ H _ I h=>dn I hg hm ⟨v,H,I,r,h⟩ hd
theorem n9 {x:Str} {v:V} {u:Da} {pos:Pos} (hg:Gl X x) (hm:X.mg x=none) (hv:bootBuiltins x=some u) (r:RelV v u) (hn:x≠"__name__":=by decide) (hd:(x == ("__debug__" : Str))=false:=by decide):PE X (.Name x pos) (tC v) :=
 fun _ _ _ H _ I h=>bX I hg hm hv ⟨v,H,I,r,h⟩ hn hd
variable {a b:HZ} {ta tb:TE} {pos:Pos}
def PC (X:Cx) (op:CmpOp) (a b:HZ) (t:TE):Prop :=
 ∀ (pins:List (GC × Obj)) (s:Fk) (σ:St) (H:Hp) (Q:VK),Inv X pins σ H s->t σ H Q ->
  wpAny (model X.prog X.w) X.A (eval a X.env) (fun v s₁=>wpAny (model X.prog X.w) X.A (eval b X.env) (fun u s₂=>wpAny (model X.prog X.w) X.A (compareOp op v u) (EP X pins σ Q) X.xe s₂) X.xe s₁) X.xe s
theorem vp (b:HZ) {op:CmpOp} (h:op≠.In) (h2:op≠.NotIn):behindInMarks op b=false:=by
 have e1:(op == CmpOp.In)=false:=by cases op<;>first | rfl | exact absurd rfl h
 have e2:(op == CmpOp.NotIn)=false:=by cases op<;>first | rfl | exact absurd rfl h2
 cases b<;>simp [behindInMarks,e1,e2]
noncomputable def tB (t:TE):TT:=fun σ H Q=>t σ H fun x H1=>∃ c,x = .bl c/\Q c H1
theorem FH {op:CmpOp} {t:TE} (h:PC X op a b t) (h1:behindInMarks op b=false:=by first | exact vp _ (by decide) (by decide) | rfl):PT X (.Compare a [op] [b] pos) (tB t):=by
 intro pins s σ H Q I hw
 refine wpAny_isTrue_Compare1 (ax (h pins s σ H _ I hw) fun v s1 h1=>ax h1 fun u s2 h2=>ax h2 fun c s3 ⟨x,H1,I1,r1,q1⟩=>?_) h1
 obtain ⟨d,rfl,q⟩:=q1
 cases r1
 exact HG ⟨H1,I1,q⟩
theorem bS {e:HZ} {t:TE} (h:PE X e t) (he:∀ whole,isTrue e X.env whole=(do let v <- whole; standAt e.pos; holding [v] (truthy v)):=by intro _; rfl):PT X e (tB t):=by
 intro pins s σ H Q I hw
 refine isTrue_plain (ax (h pins s σ H _ I hw) fun v s1 ⟨x,H1,I1,r1,q1⟩=>?_) (he _)
 obtain ⟨d,rfl,q⟩:=q1
 cases r1
 exact HG ⟨H1,I1,q⟩
variable {tA tB':TT} {rest:List HZ}
noncomputable def Fi (t u:TT):TT:=fun σ H Q=>t σ H fun c H1=>if c=true then u σ H1 Q else Q false H1
noncomputable def Gs (t u:TT):TT:=fun σ H Q=>t σ H fun c H1=>if c=true then Q true H1 else u σ H1 Q
noncomputable def Fj (t:TT):TT:=fun σ H Q=>t σ H fun c H1=>Q (!c) H1
theorem jP (ha:PT X a tA):PW X (.BoolOp .And [a] pos) tA:=by
 intro wh pins s σ H Q I h
 refine isTrue_and (ax (ha pins s σ H Q I h) fun c s1 e=>?_)
 cases c with
 | true=>exact isTrue_and_nil e
 | false=>exact e
theorem cn (ha:PT X a tA):PW X (.BoolOp .Or [a] pos) tA:=by
 intro wh pins s σ H Q I h
 refine isTrue_or (ax (ha pins s σ H Q I h) fun c s1 e=>?_)
 cases c with
 | false=>exact isTrue_or_nil e
 | true=>exact e
theorem mW (ha:PT X a tA) (hb:PW X (.BoolOp .And (b::rest) pos) tB'):PW X (.BoolOp .And (a::b::rest) pos) (Fi tA tB'):=by
 intro wh pins s σ H Q I h
 refine isTrue_and (ax (ha pins s σ H _ I h) fun c s1 ⟨H1,I1,q1⟩=>?_)
 cases c with
 | true=>exact hb wh pins s1 σ H1 Q I1 q1
 | false=>exact ⟨H1,I1,q1⟩
theorem cJ (ha:PT X a tA) (hb:PW X (.BoolOp .Or (b::rest) pos) tB'):PW X (.BoolOp .Or (a::b::rest) pos) (Gs tA tB'):=by
 intro wh pins s σ H Q I h
 refine isTrue_or (ax (ha pins s σ H _ I h) fun c s1 ⟨H1,I1,q1⟩=>?_)
 cases c with
 | true=>exact ⟨H1,I1,q1⟩
 | false=>exact hb wh pins s1 σ H1 Q I1 q1
theorem fP (ha:PT X a tA):PT X (.UnaryOp .Not a pos) (Fj tA):=by
 intro pins s σ H Q I h
 exact isTrue_not (ha pins s σ H (fun c H1=>Q (!c) H1) I h)
noncomputable def DT (ta tb:TE):TE:=fun σ H Q=>ta σ H fun x H1=>∃ c,x = .bl c/\if c=true then tb σ H1 Q else Q (.bl false) H1
noncomputable def DM (ta:TE):TE:=fun σ H Q=>ta σ H fun x H1=>∃ c,x = .bl c/\Q (.bl (!c)) H1
theorem gQ {op} {t:TE} (h:PE X a t):PE X (.BoolOp op [a] pos) t:=fun pins s σ H Q I hw=>BoolOp_one (h pins s σ H Q I hw)
theorem fJ (ha:PE X a ta) (hb:PE X (.BoolOp .And (b::rest) pos) tb):PE X (.BoolOp .And (a::b::rest) pos) (DT ta tb):=by
 intro pins s σ H Q I h
 refine BoolOp_and (ax (ha pins s σ H _ I h) fun v s1 ⟨x,H1,I1,r1,q1⟩=>?_)
 obtain ⟨c,rfl,q1⟩:=q1
 cases r1
 refine HG ?_
 cases c with
 | true=>exact hb pins s1 σ H1 Q I1 q1
 | false=>exact ⟨.bl false,H1,I1,rfl,q1⟩
theorem tm (ha:PE X a ta):PE X (.UnaryOp .Not a pos) (DM ta):=by
 intro pins s σ H Q I h
 refine UnaryOp_ (ax (ha pins s σ H _ I h) fun v s1 ⟨x,H1,I1,r1,q1⟩=>?_)
 obtain ⟨c,rfl,q1⟩:=q1
 cases r1
 exact not_of (HG ⟨.bl (!c),H1,I1,rfl,q1⟩)
end
end L2
namespace L2
open PySem PySem.Spec PyProof.Rows
def aq (K:GP) (H:Hp) (a:GC) (xs:List V):Prop :=
 Rd H a (.lst xs) \/
  ∃ (o:Obj) (its:Array Da) (n:Nat),K.lookup a=some o/\o.cls = .type "list"/\o.dict=none/\o.data = .seq its n/\its.size<=sizeLine/\Vals xs its.toList
def bQ (K:GP) (H:Hp) (a:GC) (xs:List V):Prop :=
 Rd H a (.tup xs) \/
  ∃ (o:Obj) (its:Array Da) (n:Nat),K.lookup a=some o/\o.cls = .type "tuple"/\o.data = .seq its n/\its.size<=sizeLine/\Vals xs its.toList
noncomputable def Fp:Da->Option V
 | .none=>some .non
 | .bool b=>some (.bl b)
 | .int i _=>some (.int i)
 | .str x _=>some (.str x)
 | .bytes b _=>some (.byt b)
 | .float b _=>some (.flt b)
 | .ref a=>some (.ref a)
 | .type n=>some (.ty n)
 | _=>none
theorem RelV.abs {x:V} {u:Da} (r:RelV x u):Fp u=some x:=by
 cases x with
 | non=>cases r; rfl
 | bl _=>cases r; rfl
 | int _=>obtain ⟨t,rfl⟩:=r; rfl
 | str _=>obtain ⟨t,rfl⟩:=r; rfl
 | byt _=>obtain ⟨t,rfl⟩:=r; rfl
 | flt _=>obtain ⟨t,rfl⟩:=r; rfl
 | ref _=>cases r; rfl
 | ty _=>cases r; rfl
theorem RelV.inj {x y:V} {u:Da} (r:RelV x u) (q:RelV y u):x=y:=Hr (r.abs.symm.trans q.abs)
theorem Vals.inj:∀ {xs ys:List V} {us:List Da},Vals xs us->Vals ys us->xs=ys
 | _,_,_,.nil,.nil=>rfl
 | _,_,_,.cons r t,.cons r' t'=>by rw [r.inj r',Vals.inj t t']
section
variable {X:Cx} {pins:List (GC × Obj)} {σ:St} {H:Hp} {s:Fk} {a:GC} {xs ys:List V}
theorem aq.of {K:GP} (h:H a=some (.lst xs)):aq K H a xs:=.inl (.inl h)
theorem bQ.of {K:GP} (h:H a=some (.tup xs)):bQ K H a xs:=.inl (.inl h)
theorem Inv.list (I:Inv X pins σ H s) (h:aq X.K H a xs):∃ its:List Da,Vals xs its/\PlainL s.heap a its.toArray/\xs.length<=sizeLine:=by
 rcases h with h | ⟨o,its,n,hk,hc,hd,hs,hz,r⟩
 ·obtain ⟨z,its,n,r,e⟩:=h.ok I.hok
  exact ⟨its,r,⟨_,n,e,rfl,rfl,rfl⟩,z⟩
 ·refine ⟨its.toList,r,⟨o,n,I.kIn a o hk,hc,hd,by simpa using hs⟩,?_⟩
  have e:=r.length
  simp only [GS] at e
  lia
theorem Inv.tuple (I:Inv X pins σ H s) (h:bQ X.K H a xs):∃ its:List Da,Vals xs its/\IsTup s.heap a its.toArray/\xs.length<=sizeLine:=by
 rcases h with h | ⟨o,its,n,hk,hc,hs,hz,r⟩
 ·obtain ⟨z,its,r,p⟩:=h.ok I.hok
  exact ⟨its,r,p,z⟩
 ·refine ⟨its.toList,r,⟨o,I.kIn a o hk,hc,n,by simpa using hs⟩,?_⟩
  have e:=r.length
  simp only [GS] at e
  lia
theorem Inv.list_inj (I:Inv X pins σ H s) (h:aq X.K H a xs) (h':aq X.K H a ys):xs=ys:=by
 obtain ⟨its,r,⟨o,n,e,_,_,d⟩,_⟩:=I.list h
 obtain ⟨its',r',⟨o',n',e',_,_,d'⟩,_⟩:=I.list h'
 rw [e] at e'; cases e'
 rw [d] at d'
 injection d' with d1 _
 have:its=its':=by simpa using congrArg Array.toList d1
 subst this
 exact r.inj r'
end
noncomputable abbrev Cx.wish (X:Cx) (E:Da->Fk->Prop):Cx:={ X with xe:=E }
noncomputable abbrev Cx.nox (X:Cx):Cx:=X.wish fun _ _=>False
theorem Cx.Ok.wish {X:Cx} (ok:X.Ok) (E:Da->Fk->Prop):(X.wish E).Ok :=
 ⟨ok.mod,ok.kind,ok.glob,ok.blt,ok.above,ok.inj,ok.has,ok.cab,ok.hd,ok.frames,ok.stk,ok.exf,ok.bs,ok.bsz,ok.noex,ok.exfs,ok.funs,ok.frf⟩
theorem Cx.Ok.unwish {X:Cx} {E:Da->Fk->Prop} (ok:(X.wish E).Ok):X.Ok :=
 ⟨ok.mod,ok.kind,ok.glob,ok.blt,ok.above,ok.inj,ok.has,ok.cab,ok.hd,ok.frames,ok.stk,ok.exf,ok.bs,ok.bsz,ok.noex,ok.exfs,ok.funs,ok.frf⟩
section
variable {X:Cx} {pins:List (GC × Obj)} {σ:St} {H:Hp} {s:Fk} {E:Da->Fk->Prop}
theorem Inv.wish (I:Inv X pins σ H s) (E:Da->Fk->Prop):Inv (X.wish E) pins σ H s:=⟨I.ok.wish E,I.os,I.bare,I.base,I.loc,I.cell,I.free,I.freeC,I.pin,I.hok,I.len⟩
theorem Inv.unwish (I:Inv (X.wish E) pins σ H s):Inv X pins σ H s:=⟨I.ok.unwish,I.os,I.bare,I.base,I.loc,I.cell,I.free,I.freeC,I.pin,I.hok,I.len⟩
theorem SP.unwish {D:Ends} {f:Flow} {s':Fk} (h:SP (X.wish E) pins D f s'):SP X pins D f s':=by
 cases f with
 | next=>obtain ⟨σ',H',I,q⟩:=h; exact ⟨σ',H',I.unwish,q⟩
 | brk=>obtain ⟨σ',H',I,q⟩:=h; exact ⟨σ',H',I.unwish,q⟩
 | cont=>obtain ⟨σ',H',I,q⟩:=h; exact ⟨σ',H',I.unwish,q⟩
 | ret u=>obtain ⟨v,σ',H',I,r,q⟩:=h; exact ⟨v,σ',H',I.unwish,r,q⟩
theorem c7.nox {st:List Il} {t:TS} (h:c7 X.nox st t):c7 X st t:=fun pins s σ H D I hw =>
 Ij (h pins s σ H D (I.wish _) hw) (fun _ _ q=>q.unwish) fun _ _ z=>IA z
end
section
variable {X:Cx} {st:Il} {rest:List Il} {t u:TS} {e:HZ} {te:TE} {pos:Pos}
noncomputable def DV:TS:=fun D σ H=>D.nx σ H
noncomputable def Fs (t u:TS):TS:=fun D σ H=>t { D with nx:=u D } σ H
theorem aG:c7 X [] DV:=fun _ _ σ H _ I h=>Jw ⟨σ,H,I,h⟩
theorem aj (h1:PS X st t) (h2:c7 X rest u):c7 X (st::rest) (Fs t u):=by
 intro pins s σ H D I h
 refine Kk (ax (h1 pins s σ H { D with nx:=u D } I h) fun f s1 q=>?_)
 cases f with
 | next =>
  obtain ⟨σ',H',I',q⟩:=q
  exact h2 pins s1 σ' H' D I' q
 | ret v=>exact q
 | brk=>exact q
 | cont=>exact q
theorem ah (h1:PS X st t):c7 X [st] t:=by
 intro pins s σ H D I h
 refine Kk (ax (h1 pins s σ H D I h) fun f s1 q=>?_)
 cases f with
 | next=>exact Jw q
 | ret v=>exact q
 | brk=>exact q
 | cont=>exact q
theorem Inv.quiet {pins:List (GC × Obj)} {σ:St} {H:Hp} {s:Fk} (I:Inv X pins σ H s):interactive X.env=false:=by simp [interactive,I.ok.kind]
noncomputable def Eh (te:TE):TS:=fun D σ H=>te σ H fun _ H1=>D.nx σ H1
theorem aP (he:PE X e te) (hs:swapsWith e none pos.line X.env=pure false:=by rfl):PS X (.Expr e pos) (Eh te):=by
 intro pins s σ H D I h
 exact wpAny_Expr_any (ax (he pins s σ H _ I h) fun v s1 ⟨x,H1,I1,r1,q1⟩=>⟨σ,H1,I1,q1⟩) I.quiet hs
noncomputable def Fb (te:TE):TS:=fun D σ H=>te σ H D.rt
theorem ar (he:PE X e te):PS X (.Return (some e) pos) (Fb te):=by
 intro pins s σ H D I h
 exact wpAny_Return_some (ax (he pins s σ H _ I h) fun v s1 ⟨x,H1,I1,r1,q1⟩=>⟨x,σ,H1,I1,r1,q1⟩)
noncomputable def EU (c:TT) (t u:TS):TS:=fun D σ H=>c σ H fun b H1=>if b=true then t D σ H1 else u D σ H1
theorem aO {c:HZ} {a b:List Il} {tc:TT} (hc:PT X c tc) (ha:c7 X a t) (hb:c7 X b u):PS X (.If c a b pos) (EU tc t u):=by
 intro pins s σ H D I h
 refine wpAny_If (ax (hc pins s σ H _ I h) fun d s1 ⟨H1,I1,q1⟩=>?_)
 cases d with
 | true=>exact ha pins s1 σ H1 D I1 q1
 | false=>exact hb pins s1 σ H1 D I1 q1
noncomputable def sU:TS:=fun _ _ _=>False
theorem l8:PS X st sU:=fun _ _ _ _ _ _ h=>h.elim
theorem eW {sts:List Il}:c7 X sts sU:=fun _ _ _ _ _ _ h=>h.elim
end
noncomputable abbrev TG:=V->St->Hp->(St->Hp->Prop)->Prop
noncomputable abbrev kQ:=List V->St->Hp->(St->Hp->Prop)->Prop
def PG (X:Cx) (target:HZ) (t:TG):Prop :=
 ∀ (pins:List (GC × Obj)) (s:Fk) (σ:St) (H:Hp) (v:V) (u:Da) (Q:St->Hp->Prop),Inv X pins σ H s->RelV v u->t v σ H Q ->
  wpAny (model X.prog X.w) X.A (assign target X.env u) (fun _ s'=>∃ σ' H',Inv X pins σ' H' s'/\Q σ' H') X.xe s
def rJ (X:Cx) (ts:List HZ) (t:kQ):Prop :=
 ∀ (pins:List (GC × Obj)) (s:Fk) (σ:St) (H:Hp) (vs:List V) (us:List Da) (Q:St->Hp->Prop),Inv X pins σ H s->Vals vs us->t vs σ H Q ->
  wpAny (model X.prog X.w) X.A (assignInOrder ((assignEach ts X.env).map (·.2)) us) (fun _ s'=>∃ σ' H',Inv X pins σ' H' s'/\Q σ' H') X.xe s
noncomputable abbrev vG:=V->V->V->Hp->(Hp->Prop)->Prop
def dI (X:Cx) (t:vG):Prop :=
 ∀ (pins:List (GC × Obj)) (s:Fk) (σ:St) (H:Hp) (o i v:V) (ov iv u:Da) (Q:Hp->Prop),Inv X pins σ H s->RelV o ov->RelV i iv->RelV v u->t o i v H Q ->
  wpAny (model X.prog X.w) X.A (setItem ov iv u) (fun _ s'=>∃ H',Inv X pins σ H' s'/\Q H') X.xe s
noncomputable abbrev we:=V->V->Hp->VK->Prop
def zM (X:Cx) (op:Operator) (t:we):Prop :=
 ∀ (pins:List (GC × Obj)) (s:Fk) (σ:St) (H:Hp) (x y:V) (v u:Da) (Q:VK),Inv X pins σ H s->RelV x v->RelV y u->t x y H Q ->
  wpAny (model X.prog X.w) X.A (inplaceOp op v u) (EP X pins σ Q) X.xe s
section
variable {X:Cx} {pos:Pos}
noncomputable def wo (i:Nat):TG:=fun v σ H Q=>Q (σ.set i (some v)) H
theorem aA {i:Nat} {x:Str} (hN:X.N.Nodup) (hi:X.N[i]? = some x) (hx:Loc X.env.scope x) (hf:X.fn x=true\/X.env.scope.names.lookup x=some .local:=by first | exact .inl rfl | exact .inr rfl | assumption):PG X (.Name x pos) (wo i):=by
 intro pins s σ H v u Q I r h
 exact wpAny_assign_Name (i0 I hN hi hx r (fun s' I'=>⟨_,H,I',h⟩) hf)
noncomputable def ET:kQ:=fun vs σ H Q=>vs=[]/\Q σ H
noncomputable def DJ (t:TG) (u:kQ):kQ:=fun vs σ H Q=>∃ v r,vs=v::r/\t v σ H fun σ' H'=>u r σ' H' Q
theorem cU:rJ X [] ET:=by
 intro pins s σ H vs us Q I r h
 obtain ⟨e,h⟩:=h
 subst e
 cases r
 exact assignInOrder_nil ⟨σ,H,I,h⟩
theorem aX {e:HZ} {es:List HZ} {t:TG} {u:kQ} (h1:PG X e t) (h2:rJ X es u)
  (hs:(assignEach (e::es) X.env).map (·.2)=assign e X.env::(assignEach es X.env).map (·.2):=by rfl):rJ X (e::es) (DJ t u):=by
 intro pins s σ H vs us Q I r h
 obtain ⟨v,vr,e1,h⟩:=h
 subst e1
 cases r with
 | cons r rr =>
  rw [hs]
  refine assignInOrder_cons (ax (h1 pins s σ H _ _ _ I r h) fun _ s1 ⟨σ1,H1,I1,q1⟩=>?_)
  exact h2 pins s1 σ1 H1 _ _ Q I1 rr q1
noncomputable def Af (K:GP) (n:Nat) (t:kQ):TG:=fun v σ H Q=>∃ a xs,v = .ref a/\bQ K H a xs/\xs.length=n/\t xs σ H Q
theorem g4 {es:List HZ} {k:Nat} {t:kQ} {n:Nat} (hc:X.calm=true) (h:rJ X es t)
  (hn:(assignEach es X.env).length=n:=by rfl) (hst:(assignEach es X.env).findIdx? (·.1)=none:=by rfl):PG X (.Tuple es k pos) (Af X.K n t):=by
 intro pins s σ H v u Q I r hw
 obtain ⟨a,xs,e1,hq,hl,hw⟩:=hw
 subst e1
 cases r
 obtain ⟨its,rv,ht,hz⟩:=I.tuple hq
 refine assign_Tuple_tuple (I.ok.hd hc) ht (by simp [hn,<- hl,rv.length]) hst fun h' hx=>?_
 have I1:Inv X pins σ H { s with heap:=h' }:=I.kept (t':=s.toks) fun b o e=>hx b o (GX (GE e)) e
 exact h pins _ σ H xs _ Q I1 (by simpa using rv) hw
noncomputable def ES (to ti:TE) (t:vG):TG:=fun v σ H Q=>to σ H fun o H1=>ti σ H1 fun i H2=>t o i v H2 fun H3=>Q σ H3
theorem mq {o i:HZ} {to ti:TE} {t:vG} (ho:PE X o to) (hi:PE X i ti) (hs:dI X t)
  (ha:∀ v,assign (.Subscript o i pos) X.env v=(do
   let ov <- holding [v] (eval o X.env)
   let iv <- holding [v,ov] (eval i X.env)
   standAt pos
   holding [v,ov,iv] (setItem ov iv v)
   release [v,ov,iv] []):=by intro _; rfl):PG X (.Subscript o i pos) (ES to ti t):=by
 intro pins s σ H v u Q I r h
 rw [ha]
 refine AC (HA (ax (ho pins s σ H _ I h) fun ov s1 ⟨x,H1,I1,r1,q1⟩=>?_))
 refine AC (HA (ax (hi pins s1 σ H1 _ I1 q1) fun iv s2 ⟨y,H2,I2,r2,q2⟩=>?_))
 refine AC (wpAny_standAt (AC (HA (ax (hs pins s2 σ H2 x y v ov iv u _ I2 r1 r2 r q2) fun _ s3 ⟨H3,I3,q3⟩=>?_))))
 exact wpAny_release ⟨σ,H3,I3,q3⟩
noncomputable def yO (te:TE) (g:TG):TS:=fun D σ H=>te σ H fun x H1=>g x σ H1 D.nx
theorem mh {tg e:HZ} {te:TE} {g:TG} (he:PE X e te) (hg:PG X tg g) (hs:swapsWithSole [tg] e pos.line X.env=pure false:=by rfl) (hw:swappedStores [tg] e X.env=pure none:=by rfl)
  (h1:(assignEach [tg] X.env).map (·.2)=[assign tg X.env]:=by rfl):PS X (.Assign [tg] e pos) (yO te g):=by
 intro pins s σ H D I h
 refine wpAny_Assign_stores (ax (he pins s σ H _ I h) fun v s1 ⟨x,H1,I1,r1,q1⟩=>?_) hs hw
 rw [h1]
 exact ax (hg pins s1 σ H1 x v _ I1 r1 q1) fun _ s2 q=>q
theorem aB {i:Nat} {x:Str} {e:HZ} {te:TE} {pos':Pos} (hN:X.N.Nodup) (hi:X.N[i]? = some x) (hx:Loc X.env.scope x) (he:PE X e te) (hs:swapsWith e (some (.Name x pos')) pos.line X.env=pure false:=by rfl) (hf:X.fn x=true\/X.env.scope.names.lookup x=some .local:=by first | exact .inl rfl | exact .inr rfl | assumption) :
  PS X (.Assign [.Name x pos'] e pos) (yO te (wo i)):=by
 intro pins s σ H D I h
 refine wpAny_Assign_Name (ax (he pins s σ H _ I h) fun v s1 ⟨y,H1,I1,r1,q1⟩=>?_) hs
 exact i0 I1 hN hi hx r1 (fun s2 I2=>⟨_,H1,I2,q1⟩) hf
noncomputable def Fc (i:Nat) (te:TE) (ti:we):TS:=fun D σ H=>∃ x,σ[i]? = some (some x)/\te σ H fun y H1=>ti x y H1 fun z H2=>D.nx (σ.set i (some z)) H2
theorem lJ {i:Nat} {x:Str} {e:HZ} {te:TE} {op:Operator} {ti:we} {pos':Pos} (hN:X.N.Nodup) (hi:X.N[i]? = some x) (hx:Loc X.env.scope x) (he:PE X e te) (ho:zM X op ti) (hf:X.fn x=true\/X.env.scope.names.lookup x=some .local:=by first | exact .inl rfl | exact .inr rfl | assumption) :
  PS X (.AugAssign (.Name x pos') op e pos) (Fc i te ti):=by
 intro pins s σ H D I h
 obtain ⟨v,e1,h⟩:=h
 obtain ⟨m,hn,hl⟩:=I.loc
 have vis:kO X.env.scope x:=by rcases hx with k | k; exact .inl k; exact .inr (.inl k)
 obtain ⟨u,r,l⟩:=hl i x v hi e1 vis
 refine wpAny_AugAssign_Name ?_
 have go:wpAny (model X.prog X.w) X.A (eval e X.env) (fun w s₂=>wpAny (model X.prog X.w) X.A (inplaceOp op u w) (fun r s₃=>wpAny (model X.prog X.w) X.A (storeName X.env x r) (fun _=>SP X pins D .next) X.xe s₃) X.xe s₂) X.xe s:=by
  refine ax (he pins s σ H _ I h) fun w s1 ⟨y,H1,I1,r1,q1⟩=>?_
  refine ax (ho pins s1 σ H1 v y u w _ I1 r r1 q1) fun z s2 ⟨zv,H2,I2,r2,q2⟩=>?_
  exact i0 I2 hN hi hx r2 (fun s3 I3=>⟨_,H2,I3,q2⟩) hf
 rcases l with ⟨hk,hm⟩ | ⟨hk,c,hc,hcell⟩
 ·exact wpAny_loadName_local I.ok.kind hk hn hm go
 ·rcases hk with hk | hk
  ·exact wpAny_loadName_cell I.ok.kind hk hc hcell go
  ·rcases hx with k | k
   ·have:X.env.scope.names.lookup x=some .free:=hk
    rw [k] at this; cases this
   ·have:X.env.scope.names.lookup x=some .free:=hk
    rw [k] at this; cases this
noncomputable def EL (f:Int->Int->Int):we:=fun x y H Q=>∃ i j,x = .int i/\y = .int j/\Q (.int (f i j)) H
theorem rG:zM X .Add (EL fun i j=>i+j):=by
 intro pins s σ H x y v u Q I r1 r2 h
 obtain ⟨i,j,e1,e2,q⟩:=h
 subst e1; subst e2
 obtain ⟨t,rfl⟩:=r1
 obtain ⟨t',rfl⟩:=r2
 exact iadd_int ⟨.int _,H,I.tok _,⟨_,rfl⟩,q⟩
theorem zS:zM X .Sub (EL fun i j=>i - j):=by
 intro pins s σ H x y v u Q I r1 r2 h
 obtain ⟨i,j,e1,e2,q⟩:=h
 subst e1; subst e2
 obtain ⟨t,rfl⟩:=r1
 obtain ⟨t',rfl⟩:=r2
 exact isub_int ⟨.int _,H,I.tok _,⟨_,rfl⟩,q⟩
end
section
variable {X:Cx} {pos:Pos}
noncomputable def Bb (c:TT) (tb:TS):TS:=fun D σ H=>∃ W:Nat->St->Hp->Prop,(∃ m,W m σ H)/\∀ m σ H,W m σ H ->
 c σ H fun b H1=>if b=true then ∃ N:St->Hp->Prop,(∀ σ' H',N σ' H'->∃ m',m' < m/\W m' σ' H')/\tb { D with nx:=N,ct:=N,bk:=D.nx } σ H1 else D.nx σ H1
theorem ml {c:HZ} {body:List Il} {tc:TT} {tb:TS} (hp:PassesOwn (model X.prog X.w) X.A X.env X.xe) (hc:PT X c tc) (hb:c7 X body tb):PS X (.While c body [] pos) (Bb tc tb):=by
 intro pins s σ H D I h
 obtain ⟨W,⟨m0,w0⟩,turn⟩:=h
 refine wpAny_While (codeAny_whileLoop (fun n s'=>∃ σ' H',Inv X pins σ' H' s'/\W n σ' H') ?_ m0 ⟨σ,H,I,w0⟩)
 rintro n s1 ⟨σ1,H1,I1,w1⟩
 refine IX hp (ax (hc pins s1 σ1 H1 _ I1 (turn n σ1 H1 w1)) fun b s2 ⟨H2,I2,q2⟩=>?_)
 cases b with
 | true =>
  obtain ⟨N,hN,q2⟩:=q2
  rw [if_pos rfl]
  refine IX hp (ax (hb pins s2 σ1 H2 _ I2 q2) fun f s3 q3=>?_)
  cases f with
  | next =>
   obtain ⟨σ3,H3,I3,n3⟩:=q3
   obtain ⟨m',hm,w3⟩:=hN σ3 H3 n3
   exact ⟨m',hm,σ3,H3,I3,w3⟩
  | cont =>
   obtain ⟨σ3,H3,I3,n3⟩:=q3
   obtain ⟨m',hm,w3⟩:=hN σ3 H3 n3
   exact ⟨m',hm,σ3,H3,I3,w3⟩
  | brk=>exact q3
  | ret v=>exact q3
 | false =>
  rw [if_neg GU]
  exact Jw ⟨σ1,H2,I2,q2⟩
end
structure It where
 go:Nat->Hp->Prop
 yld:Nat->Hp->V->Hp->Prop
 stop:Nat->Hp->Prop
def e9 (X:Cx) (pins:List (GC × Obj)) (H:Hp) (b:GC):Prop :=
 H b=none/\b≠X.env.locals/\b∉X.fs/\(b∈X.ex\/X.s₀.heap.objs.size<=b)/\(∀ x c,X.env.cells.lookup x=some c->c≠b)/\∀ p∈X.pn++pins,p.1≠b
theorem Inv.fpOk {X:Cx} {pins:List (GC × Obj)} {σ:St} {H H':Hp} {s:Fk} {b:GC} (I:Inv X pins σ H s) (hb:s.heap.objs.size<=b) (hn:H' b=none):e9 X pins H' b:=by
 refine ⟨hn,Jx (GV I.lt hb),I.nofs hb,.inr (Hm I.sz hb),fun x c e z=>?_,fun p hp z=>?_⟩
 ·obtain ⟨v,q⟩:=I.cell x c e
  exact absurd (GV q.lt (by rw [z]; exact hb)) (HL _)
 ·exact absurd (GV (GE (I.pin p hp).1) (by rw [z]; exact hb)) (HL _)
structure Turn (P:GQ) (w:Hh) (K:GP) (tg:HZ) (J:It) (fp:List GC) (it:GC) (tn:Nat->HY->Prop):Prop where
 mem:it∈fp
 obj:∀ i h,tn i h->∀ b∈fp,∃ o,h.get? b=some o/\∀ v,o.data≠.cell v
 keep:∀ i h h',tn i h->(∀ b∈fp,∀ o,h.get? b=some o->h'.get? b=some o)->tn i h'
 item:∀ (X:Cx),X.prog=P->X.w=w->X.K=K->X.calm=true->∀ (i:Nat) (pins:List (GC × Obj)) (s:Fk) (σ:St) (H:Hp) (E:Da->Fk->Prop),Inv X pins σ H s->(∀ b∈fp,e9 X pins H b)->tn i s.heap->J.go i H ->
  wpAny (model P w) X.A (pyNext (.ref it)) (fun r s1=>∃ u,r=some u /\
   wpAny (model P w) X.A (letOwnedTupleGo tg (.ref it) u) (fun _ s2=>∃ x H',Inv X pins σ H' s2/\RelV x u/\J.yld i H x H'/\tn (i+1) s2.heap/\∀ b∈fp,H' b=none) E s1) E s
 done:∀ (X:Cx),X.prog=P->X.w=w->X.K=K->X.calm=true->∀ (i:Nat) (pins:List (GC × Obj)) (s:Fk) (σ:St) (H:Hp) (E:Da->Fk->Prop),Inv X pins σ H s->(∀ b∈fp,e9 X pins H b)->tn i s.heap->J.stop i H ->
  wpAny (model P w) X.A (pyNext (.ref it)) (fun r s1=>r=none/\Inv X pins σ H s1) E s
 self:∀ (A:Hj) (i:Nat) (s:Fk) (Q:Da->Fk->Prop) (E:Da->Fk->Prop),tn i s.heap->Q (.ref it) s->wpAny (model P w) A (pyIter (.ref it)) Q E s
noncomputable abbrev TI:=St->Hp->(It->Hp->Prop)->Prop
def wb (X:Cx) (pins:List (GC × Obj)) (σ:St) (tg:HZ) (R:It->Hp->Prop) (itv:Da) (s2:Fk):Prop :=
 ∃ (it:GC) (fp:List GC) (tn:Nat->HY->Prop) (J:It) (H':Hp),itv = .ref it/\Inv X pins σ H' s2/\Turn X.prog X.w X.K tg J fp it tn/\tn 0 s2.heap/\(∀ b∈fp,e9 X pins H' b)/\R J H'
def PI (X:Cx) (tg iter:HZ) (wi:TI):Prop :=
 ∀ (pins:List (GC × Obj)) (s:Fk) (σ:St) (H:Hp) (R:It->Hp->Prop),Inv X pins σ H s->wi σ H R ->
  wpAny (model X.prog X.w) X.A (eval iter X.env) (fun v s1=>wpAny (model X.prog X.w) X.A (pyIter v) (wb X pins σ tg R) X.xe s1) X.xe s
theorem lD {M:Model} {A:Hj} {E:Da->Fk->Prop} {s:Fk} {tg:HZ} {it:GC} {u:Da} {o:Obj} {n:String} {vs:Array Da} {Q:Unit->Fk->Prop} (ho:s.heap.get? it=some o) (hc:o.cls = .type n) (hd:o.data = .fields vs)
  (hn:["enumerate","zip","dict_itemiterator","dict_reverseitemiterator","odict_iterator","itertools.zip_longest","itertools.pairwise"].contains n=false) (hQ:Q () s):wpAny M A (letOwnedTupleGo tg (.ref it) u) Q E s:=by
 unfold letOwnedTupleGo
 cases tg<;>first
  | exact Gc hQ
  | (cases u<;>first
    | exact Gc hQ
    | (refine AC (wpAny_load ho ?_)
       rw [hc,hd]
       show wpAny M A (if (["enumerate","zip","dict_itemiterator","dict_reverseitemiterator","odict_iterator","itertools.zip_longest","itertools.pairwise"].contains n&&vs[0]? == some (rawInt _))=true then _ else _) Q E s
       rw [if_neg (by intro h; rw [hn,HR] at h; cases h)]
       exact Gc hQ))
noncomputable def mT (K:GP) (a:GC):It :=
 ⟨fun i H=>∃ xs x,aq K H a xs/\xs[i]? = some x,fun i H x H'=>H'=H/\∀ xs,aq K H a xs->xs[i]? = some x,fun i H=>∃ xs,aq K H a xs/\xs.length<=i⟩
noncomputable def i3 (lo:Int) (n:Nat):It:=⟨fun i _=>i < n,fun i H x H'=>H'=H/\x = .int (lo+i),fun i _=>n<=i⟩
theorem rF {P:GQ} {w:Hh} {K:GP} {tg:HZ} (a it:GC):Turn P w K tg (mT K a) [it] it (fun i h=>h.IsListIter it a i) where
 mem:=by simp
 obj:=fun i h st b hb=>by
  have e:b=it:=by simpa using hb
  subst e
  obtain ⟨o,e,c,d⟩:=st
  exact ⟨o,e,fun v z=>by rw [d] at z; cases z⟩
 keep:=fun i h h' st k=>st.at fun o e=>k it (by simp) o e
 item:=by
  intro X hP hw hK hc i pins s σ H E I hf st hg
  subst hP hw hK
  obtain ⟨xs,x,hq,hx⟩:=hg
  obtain ⟨its,rv,p,hz⟩:=I.list hq
  obtain ⟨u,hu,ru⟩:=rv.get hx
  obtain ⟨f0,f1,f2,f3,f4,f5⟩:=hf it (by simp)
  refine wpAny_pyNext_list_item st p.isList (x:=u) (by simpa using hu) fun h' st' sb=>?_
  have I1:Inv X pins σ H { s with heap:=h' }:=I.turned (t':=s.toks) (fun b o hb e=>(sb.2 b hb).trans e) f0 f1 f3 f4 f5
  obtain ⟨o,e,c,d⟩:=id st'
  exact ⟨u,rfl,lD (s:={ s with heap:=h' }) e c d (by decide) ⟨x,H,I1,ru,⟨rfl,fun ys hy=>by rw [I.list_inj hy hq]; exact hx⟩,st',fun b hb=>(hf b hb).1⟩⟩
 done:=by
  intro X hP hw hK hc i pins s σ H E I hf st hg
  subst hP hw hK
  obtain ⟨xs,hq,hx⟩:=hg
  obtain ⟨its,rv,p,hz⟩:=I.list hq
  obtain ⟨f0,f1,f2,f3,f4,f5⟩:=hf it (by simp)
  have hl:=rv.length
  exact wpAny_pyNext_list_end (I.ok.hd hc) st p.isList (by simp; lia) fun h' eb=>⟨rfl,I.turned (t':=s.toks) (fun b o hb e=>eb b o hb e) f0 f1 f3 f4 f5⟩
 self:=fun _ _ _ _ _ st h=>wpAny_pyIter_listiter st h
theorem qV {P:GQ} {w:Hh} {K:GP} {tg:HZ} (it:GC) (lo:Int) (n:Nat):Turn P w K tg (i3 lo n) [it] it (fun i h=>LZ h it (lo+(i:Nat)*1) ((n:Int) - (i:Nat)) 1) where
 mem:=by simp
 obj:=fun i h st b hb=>by
  have e:b=it:=by simpa using hb
  subst e
  exact ⟨_,st,fun v z=>by
   have z':Data.fields _=Data.cell v:=z
   cases z'⟩
 keep:=fun i h h' st k=>k it (by simp) _ st
 item:=by
  intro X hP hw hK hc i pins s σ H E I hf st hg
  subst hP hw hK
  obtain ⟨f0,f1,f2,f3,f4,f5⟩:=hf it (by simp)
  have W:=Walks.range (prog:=X.prog) (w:=X.w) (I.ok.hd hc) it lo 1 n
  refine W.item i s _ _ hg st fun v h' tk hv st' kk=>?_
  obtain ⟨t,rfl⟩:=hv
  have I1:Inv X pins σ H { s with heap:=h',toks:=tk }:=I.turned (fun b o hb e=>kk b o (by simpa using hb) e) f0 f1 f3 f4 f5
  refine ⟨_,rfl,lD (s:={ s with heap:=h',toks:=tk }) (n:="range_iterator") st' rfl rfl (by decide) ⟨.int (lo+i),H,I1,⟨t,?_⟩,⟨rfl,rfl⟩,st',fun b hb=>(hf b hb).1⟩⟩
  rw [Int.mul_one]
 done:=by
  intro X hP hw hK hc i pins s σ H E I hf st hg
  subst hP hw hK
  obtain ⟨f0,f1,f2,f3,f4,f5⟩:=hf it (by simp)
  exact wpAny_pyNext_range_end (I.ok.hd hc) st (by have:n<=i:=hg; lia) fun h' eb=>⟨rfl,I.turned (t':=s.toks) (fun b o hb e=>eb b o hb e) f0 f1 f3 f4 f5⟩
 self:=fun _ _ _ _ _ st h=>wpAny_pyIter_rangeiter st h
end L2
namespace L2
open PySem PySem.Spec PyProof.Rows
section
variable {X:Cx} {tg:HZ}
noncomputable def Ek (K:GP) (tl:TE):TI:=fun σ H R=>tl σ H fun x H1=>∃ a,x = .ref a/\(∃ xs,aq K H1 a xs)/\R (mT K a) H1
theorem aY {l:HZ} {tl:TE} (hl:PE X l tl):PI X tg l (Ek X.K tl):=by
 intro pins s σ H R I h
 refine ax (hl pins s σ H _ I h) fun v s1 ⟨x,H1,I1,r1,q1⟩=>?_
 obtain ⟨a,e,⟨xs,hq⟩,q⟩:=q1
 subst e
 cases r1
 obtain ⟨its,rv,p,hz⟩:=I1.list hq
 refine K6 p.isList ?_
 refine ⟨s1.heap.objs.size,[s1.heap.objs.size],_,_,H1,rfl,I1.kept (t':=s1.toks) fun b o e=>FM _ e,rF a _,⟨_,GO _ rfl,rfl,rfl⟩,fun b hb=>?_,q⟩
 have e:b=s1.heap.objs.size:=by simpa using hb
 subst e
 exact I1.fpOk (GF _) (I1.hok.fresh (GF _))
theorem lK {pins:List (GC × Obj)} {σ:St} {H:Hp} {s:Fk} {R:It->Hp->Prop} {E:Da->Fk->Prop} {lo hi:Int} {t u v:Tok} {tk:Nat} (I:Inv X pins σ H s) (h1 : -(2 ^ 62)<=lo) (h2:lo < 2 ^ 62) (h3 : -(2 ^ 62)<=hi) (h4:hi < 2 ^ 62)
  (q:R (i3 lo (hi - lo).toNat) H):wpAny (model X.prog X.w) X.A (pyIter (.ref s.heap.objs.size)) (wb X pins σ tg R) E { s with heap:=s.heap.push { cls:=.type "range",data:=.fields #[.int lo t,.int hi u,.int 1 v] },toks:=tk }:=by
 refine wpAny_pyIter_range (Mp ..) (small_one h1 h2 h3 h4) ?_
 have I1:Inv X pins σ H { s with heap:=s.heap.push { cls:=.type "range",data:=.fields #[.int lo t,.int hi u,.int 1 v] },toks:=tk }:=I.kept fun b o e=>FM _ e
 refine ⟨(s.heap.push { cls:=.type "range",data:=.fields #[.int lo t,.int hi u,.int 1 v] }).objs.size,[(s.heap.push { cls:=.type "range",data:=.fields #[.int lo t,.int hi u,.int 1 v] }).objs.size],_,_,H,rfl,
  I1.kept (t':=tk) fun b o e=>FM _ e,qV _ lo (hi - lo).toNat,?_,fun b hb=>?_,q⟩
 ·have e1:lo+((0:Nat):Int)*1=lo:=by simp
  have e2:(((hi - lo).toNat:Nat):Int) - ((0:Nat):Int)=Builtin.Range.rangeSize lo hi 1:=by rw [rangeSize_one]; split<;>lia
  show LZ _ _ (lo+((0:Nat):Int)*1) ((((hi - lo).toNat:Nat):Int) - ((0:Nat):Int)) 1
  rw [e1,e2]
  exact GO _ rfl
 ·have e:b=(s.heap.push { cls:=.type "range",data:=.fields #[.int lo t,.int hi u,.int 1 v] }).objs.size:=by simpa using hb
  subst e
  exact I1.fpOk (GF _) (I1.hok.fresh (GF _))
noncomputable def Ec (ta:TA):TI:=fun σ H R=>ta σ H fun vs H1=>∃ j:Int,vs=[.int j]/\-(2 ^ 62)<=j/\j < 2 ^ 62/\R (i3 0 j.toNat) H1
noncomputable def Ep (ta:TA):TI:=fun σ H R=>ta σ H fun vs H1=>∃ i j:Int,vs=[.int i,.int j]/\(-(2 ^ 62)<=i/\i < 2 ^ 62/\-(2 ^ 62)<=j/\j < 2 ^ 62)/\R (i3 i (j - i).toNat) H1
theorem cS {a:HZ} {ta:TA} {p pos:Pos} (hg:Gl X "range") (hm:X.mg "range" = none) (ha:PA X [a] ta) (hs:starEach [a] X.env=[(false,eval a X.env)]:=by rfl):PI X tg (.Call (.Name "range" p) [a] [] pos) (Ec ta):=by
 intro pins s σ H R I h
 refine Call_ (bX I hg hm LM (G9 (ax (ha pos pins s σ H _ I h) fun us s1 ⟨vs,H1,I1,r1,q1⟩=>?_) hs rfl))
 obtain ⟨j,e,q1,q2,q⟩:=q1
 subst e
 cases r1 with
 | cons r rr =>
  cases rr
  obtain ⟨t,rfl⟩:=r
  exact call_range_1 (lK I1 (by lia) (by lia) q1 q2 (by simpa using q))
theorem r8 {a b:HZ} {ta:TA} {p pos:Pos} (hg:Gl X "range") (hm:X.mg "range" = none) (ha:PA X [a,b] ta) (hs:starEach [a,b] X.env=[(false,eval a X.env),(false,eval b X.env)]:=by rfl) (hs2:starEach [b] X.env=[(false,eval b X.env)]:=by rfl) :
  PI X tg (.Call (.Name "range" p) [a,b] [] pos) (Ep ta):=by
 intro pins s σ H R I h
 refine Call_ (bX I hg hm LM (G9 (ax (ha pos pins s σ H _ I h) fun us s1 ⟨vs,H1,I1,r1,q1⟩=>?_) (by rw [hs,hs2]) (by rw [hs2]; rfl)))
 obtain ⟨i,j,e,⟨q1,q2,q3,q4⟩,q⟩:=q1
 subst e
 cases r1 with
 | cons r rr =>
  cases rr with
  | cons r' rr =>
   cases rr
   obtain ⟨t,rfl⟩:=r
   obtain ⟨t',rfl⟩:=r'
   exact call_range_2 (lK I1 q1 q2 q3 q4 q)
noncomputable def E7 (wi:TI) (g:TG) (tb:TS):TS:=fun D σ H=>wi σ H fun J H1=>∃ W:Nat->Nat->St->Hp->Prop,(∃ m,W 0 m σ H1)/\∀ i m σ H,W i m σ H ->
 (J.stop i H/\D.nx σ H)\/(J.go i H/\∃ N:St->Hp->Prop,(∀ σ' H',N σ' H'->∃ m',m' < m/\W (i+1) m' σ' H')/\∀ x H',J.yld i H x H'->g x σ H' fun σ2 H2=>tb { D with nx:=N,ct:=N,bk:=D.nx } σ2 H2)
noncomputable def gJ (fp:List GC) (h:HY):List (GC × Obj):=fp.filterMap fun b=>(h.get? b).map fun o=>(b,o)
theorem eA {fp:List GC} {h:HY} {b:GC} {o:Obj} (hb:b∈fp) (e:h.get? b=some o):(b,o)∈gJ fp h:=KQ.mpr ⟨b,hb,by rw [e]; rfl⟩
theorem rN {fp:List GC} {h:HY} {p:GC × Obj} (hp:p∈gJ fp h):p.1∈fp/\h.get? p.1=some p.2:=by
 obtain ⟨b,hb,e⟩:=KQ.mp hp
 cases q:h.get? b with
 | none=>rw [q] at e; cases e
 | some o =>
  rw [q] at e
  have e':(b,o)=p:=Hr e
  subst e'
  exact ⟨hb,q⟩
theorem Inv.pinned {pins:List (GC × Obj)} {σ:St} {H:Hp} {s:Fk} {fp:List GC} (I:Inv X pins σ H s) (hf:∀ b∈fp,e9 X pins H b) (ho:∀ b∈fp,∃ o,s.heap.get? b=some o/\∀ v,o.data≠.cell v):Inv X (pins++gJ fp s.heap) σ H s :=
 I.pins_of fun p hp=>(HN.mp hp).elim (fun z=>I.pin p (Hx _ z)) fun z=>by
  obtain ⟨hb,e⟩:=rN z
  obtain ⟨f0,f1,f2,_⟩:=hf p.1 hb
  obtain ⟨o,e',d⟩:=ho p.1 hb
  rw [e] at e'; cases e'
  exact ⟨e,f0,f1,f2,d⟩
theorem Inv.unpinned {pins pl:List (GC × Obj)} {σ:St} {H:Hp} {s:Fk} (I:Inv X (pins++pl) σ H s):Inv X pins σ H s:=I.pins_of fun p hp=>I.pin p (Hx _ (JD _ hp))
theorem bR {iter:HZ} {body:List Il} {wi:TI} {g:TG} {tb:TS} {pos:Pos} (hp:PassesOwn (model X.prog X.w) X.A X.env X.xe) (hc:X.calm=true) (hi:PI X tg iter wi) (hg:PG X tg g) (hb:c7 X body tb)
  (hs:∀ x,foldedSetIterable iter X.env x=pure x:=by intro _; rfl):PS X (.For tg iter body [] pos) (E7 wi g tb):=by
 intro pins s σ H D I h
 refine wpAny_For (ax (hi pins s σ H _ I h) fun v s1 h1=>ax h1 fun itv s2 h2=>?_) hs
 obtain ⟨it,fp,tn,J,H2,e,I2,T,st2,f2,W,⟨m0,w0⟩,turn⟩:=h2
 subst e
 -- what stays true of the iterator's objects through the loop
 have stat:∀ {H':Hp},(∀ b∈fp,H' b=none)->∀ b∈fp,e9 X pins H' b:=fun hn b hb=>⟨hn b hb,(f2 b hb).2⟩
 refine codeAny_forLoop_any (fun n s'=>∃ i σ' H',Inv X pins σ' H' s'/\tn i s'.heap/\(∀ b∈fp,H' b=none)/\W i n σ' H') ?_ m0 ⟨0,σ,H2,I2,st2,fun b hb=>(f2 b hb).1,w0⟩
 rintro n s3 ⟨i,σ3,H3,I3,st3,fr3,w3⟩
 rcases turn i n σ3 H3 w3 with ⟨stop,qn⟩ | ⟨go,N,hN,step⟩
 ·refine IX hp (ax (T.done X rfl rfl rfl hc i pins s3 σ3 H3 X.xe I3 (stat fr3) st3 stop) fun r s4 ⟨hr,I4⟩=>?_)
  subst hr
  exact Jw ⟨σ3,H3,I4,qn⟩
 ·refine IX hp (ax (T.item X rfl rfl rfl hc i pins s3 σ3 H3 X.xe I3 (stat fr3) st3 go) fun r s4 ⟨u,hr,h4⟩=>?_)
  subst hr
  refine IX hp (ax h4 fun _ s5 ⟨x,H5,I5,r5,y5,st5,fr5⟩=>?_)
  have I5':=I5.pinned (stat fr5) (T.obj _ _ st5)
  refine IX hp (ax (hg _ s5 σ3 H5 x u _ I5' r5 (step x H5 y5)) fun _ s6 ⟨σ6,H6,I6,q6⟩=>?_)
  refine IX hp (ax (hb _ s6 σ6 H6 _ I6 q6) fun f s7 q7=>?_)
  have again:∀ {σ7:St} {H7:Hp},Inv X (pins++gJ fp s5.heap) σ7 H7 s7->N σ7 H7->∃ m,m < n/\∃ i σ' H',Inv X pins σ' H' s7/\tn i s7.heap/\(∀ b∈fp,H' b=none)/\W i m σ' H':=fun {σ7 H7} I7 n7=>by
   obtain ⟨m',hm,w7⟩:=hN σ7 H7 n7
   refine ⟨m',hm,i+1,σ7,H7,I7.unpinned,T.keep _ _ _ st5 fun b hb o e=>(I7.pin (b,o) (Hx _ (Hx _ (eA hb e)))).1,fun b hb=>?_,w7⟩
   obtain ⟨o,e,d⟩:=T.obj _ _ st5 b hb
   exact (I7.pin (b,o) (Hx _ (Hx _ (eA hb e)))).2.1
  cases f with
  | next=>obtain ⟨σ7,H7,I7,n7⟩:=q7; exact again I7 n7
  | cont=>obtain ⟨σ7,H7,I7,n7⟩:=q7; exact again I7 n7
  | brk=>obtain ⟨σ7,H7,I7,q7⟩:=q7; exact ⟨σ7,H7,I7.unpinned,q7⟩
  | ret v=>obtain ⟨x7,σ7,H7,I7,r7,q7⟩:=q7; exact ⟨x7,σ7,H7,I7.unpinned,r7,q7⟩
end
theorem cT {K:GP} {a:GC} {xs:List V} {g:TG} {tb:TS} {D:Ends} {σ:St} {H:Hp} (Pv:Nat->St->Hp->Prop) (h0:Pv 0 σ H) (hl:∀ i σ H,i<=xs.length->Pv i σ H->aq K H a xs)
  (hs:∀ i x σ H,xs[i]? = some x->Pv i σ H->g x σ H fun σ2 H2=>tb { D with nx:=Pv (i+1),ct:=Pv (i+1),bk:=D.nx } σ2 H2) (hd:∀ σ H,Pv xs.length σ H->D.nx σ H) :
  ∃ W:Nat->Nat->St->Hp->Prop,(∃ m,W 0 m σ H)/\∀ i m σ H,W i m σ H ->
   ((mT K a).stop i H/\D.nx σ H)\/((mT K a).go i H/\∃ N:St->Hp->Prop,(∀ σ' H',N σ' H'->∃ m',m' < m/\W (i+1) m' σ' H')/\∀ x H',(mT K a).yld i H x H'->g x σ H' fun σ2 H2=>tb { D with nx:=N,ct:=N,bk:=D.nx } σ2 H2):=by
 refine ⟨fun i m σ H=>m=xs.length - i/\i<=xs.length/\Pv i σ H,⟨xs.length,by simp,GG _,h0⟩,?_⟩
 rintro i m σ H ⟨rfl,hi,p⟩
 have q:=hl i σ H hi p
 by_cases hlt:i < xs.length
 ·refine .inr ⟨⟨xs,xs[i],q,by simp [hlt]⟩,Pv (i+1),fun σ' H' p'=>⟨xs.length - (i+1),by lia,rfl,hlt,p'⟩,fun x H' y=>?_⟩
  obtain ⟨e,y⟩:=y
  subst e
  exact hs i x σ _ (y xs q) p
 ·have e:i=xs.length:=by lia
  subst e
  exact .inl ⟨⟨xs,q,GF _⟩,hd σ H p⟩
theorem dQ {lo:Int} {n:Nat} {g:TG} {tb:TS} {D:Ends} {σ:St} {H:Hp} (Pv:Nat->St->Hp->Prop) (h0:Pv 0 σ H)
  (hs:∀ i σ H,i < n->Pv i σ H->g (.int (lo+i)) σ H fun σ2 H2=>tb { D with nx:=Pv (i+1),ct:=Pv (i+1),bk:=D.nx } σ2 H2) (hd:∀ σ H,Pv n σ H->D.nx σ H) :
  ∃ W:Nat->Nat->St->Hp->Prop,(∃ m,W 0 m σ H)/\∀ i m σ H,W i m σ H ->
   ((i3 lo n).stop i H/\D.nx σ H)\/((i3 lo n).go i H/\∃ N:St->Hp->Prop,(∀ σ' H',N σ' H'->∃ m',m' < m/\W (i+1) m' σ' H')/\∀ x H',(i3 lo n).yld i H x H'->g x σ H' fun σ2 H2=>tb { D with nx:=N,ct:=N,bk:=D.nx } σ2 H2):=by
 refine ⟨fun i m σ H=>m=n - i/\i<=n/\Pv i σ H,⟨n,by simp,GG _,h0⟩,?_⟩
 rintro i m σ H ⟨rfl,hi,p⟩
 by_cases hlt:i < n
 ·refine .inr ⟨hlt,Pv (i+1),fun σ' H' p'=>⟨n - (i+1),by lia,rfl,hlt,p'⟩,fun x H' y=>?_⟩
  obtain ⟨e,y⟩:=y
  subst e y
  exact hs i σ _ hlt p
 ·have e:i=n:=by lia
  subst e
  exact .inl ⟨GF _,hd σ H p⟩
end L2
namespace L2
open PySem PySem.Spec PyProof.Rows
noncomputable abbrev R2:=V->V->Hp->VK->Prop
def bC (X:Cx) (f:Da->Da->Sem Da) (r:R2):Prop :=
 ∀ (pins:List (GC × Obj)) (s:Fk) (σ:St) (H:Hp) (x y:V) (v u:Da) (Q:VK),Inv X pins σ H s->RelV x v->RelV y u->r x y H Q ->
  wpAny (model X.prog X.w) X.A (f v u) (EP X pins σ Q) X.xe s
def AY (X:Cx) (f:Da->Sem Da) (r:V->Hp->VK->Prop):Prop :=
 ∀ (pins:List (GC × Obj)) (s:Fk) (σ:St) (H:Hp) (x:V) (v:Da) (Q:VK),Inv X pins σ H s->RelV x v->r x H Q ->
  wpAny (model X.prog X.w) X.A (f v) (EP X pins σ Q) X.xe s
def cb (X:Cx) (f:Da) (r:List V->Hp->VK->Prop):Prop :=
 ∀ (pins:List (GC × Obj)) (s:Fk) (σ:St) (H:Hp) (xs:List V) (us:List Da) (Q:VK),Inv X pins σ H s->Vals xs us->r xs H Q ->
  wpAny (model X.prog X.w) X.A (call f us) (EP X pins σ Q) X.xe s
noncomputable def vZ (r:R2) (ta tb:TE):TE:=fun σ H Q=>ta σ H fun x H1=>tb σ H1 fun y H2=>r x y H2 Q
noncomputable def FP (r:V->Hp->VK->Prop) (ta:TE):TE:=fun σ H Q=>ta σ H fun x H1=>r x H1 Q
noncomputable def rI (C:Int->Int->Prop) (g:Int->Int->V):R2:=fun x y H Q=>∃ i j,x = .int i/\y = .int j/\C i j/\Q (g i j) H
noncomputable def kP (g:Int->Int->V):R2:=fun x y H Q=>∃ i j,x = .int i/\y = .int j/\Q (g i j) H
noncomputable def rU (g:Int->V):V->Hp->VK->Prop:=fun x H Q=>∃ i,x = .int i/\Q (g i) H
section
variable {X:Cx} {a b c:HZ} {ta tb tc:TE} {pos:Pos}
theorem uE (ha:PE X a ta) (hb:PE X b tb) {pins:List (GC × Obj)} {s:Fk} {σ:St} {H:Hp} {R:V->V->Hp->Prop} (I:Inv X pins σ H s)
  (h:ta σ H fun x H1=>tb σ H1 fun y H2=>R x y H2) {Q:Da->Fk->Prop} {f:Da->Da->Sem Da}
  (hf:∀ v u s2 x y H2,Inv X pins σ H2 s2->RelV x v->RelV y u->R x y H2->wpAny (model X.prog X.w) X.A (f v u) Q X.xe s2) :
  wpAny (model X.prog X.w) X.A (eval a X.env) (fun v s₁=>wpAny (model X.prog X.w) X.A (eval b X.env) (fun u s₂=>wpAny (model X.prog X.w) X.A (f v u) Q X.xe s₂) X.xe s₁) X.xe s:=by
 refine ax (ha pins s σ H _ I h) fun v s1 ⟨x,H1,I1,r1,q1⟩=>?_
 refine ax (hb pins s1 σ H1 _ I1 q1) fun u s2 ⟨y,H2,I2,r2,q2⟩=>?_
 exact hf v u s2 x y H2 I2 r1 r2 q2
theorem au {op:Operator} {r:R2} (ho:bC X (binaryOp op) r) (ha:PE X a ta) (hb:PE X b tb):PE X (.BinOp a op b pos) (vZ r ta tb):=by
 intro pins s σ H Q I h
 exact wpAny_BinOp (uE ha hb I h fun v u s2 x y H2 I2 rx ry q=>ho pins s2 σ H2 x y v u Q I2 rx ry q)
theorem qm {op:UnaryOp} {r:V->Hp->VK->Prop} (ho:AY X (unaryOp op) r) (ha:PE X a ta):PE X (.UnaryOp op a pos) (FP r ta):=by
 intro pins s σ H Q I h
 exact UnaryOp_ (ax (ha pins s σ H _ I h) fun v s1 ⟨x,H1,I1,r1,q1⟩=>ho pins s1 σ H1 x v Q I1 r1 q1)
theorem vQ {f:Da->Da->Sem Da} {C:Int->Int->Prop} {g:Int->Int->Int}
  (rule:∀ (i j:Int) (t u:Tok) (s:Fk) (Q:Da->Fk->Prop) (E:Da->Fk->Prop),C i j->Q (.int (g i j) s.toks) { s with toks:=s.toks+1 }->wpAny (model X.prog X.w) X.A (f (.int i t) (.int j u)) Q E s) :
  bC X f (rI C fun i j=>.int (g i j)):=by
 intro pins s σ H x y v u Q I rx ry h
 obtain ⟨i,j,rfl,rfl,hc,q⟩:=h
 obtain ⟨t,rfl⟩:=rx
 obtain ⟨t',rfl⟩:=ry
 exact rule i j t t' s _ _ hc ⟨.int (g i j),H,I.tok _,⟨_,rfl⟩,q⟩
theorem Cs {f:Da->Da->Sem Da} {g:Int->Int->Int}
  (rule:∀ (i j:Int) (t u:Tok) (s:Fk) (Q:Da->Fk->Prop) (E:Da->Fk->Prop),Q (.int (g i j) s.toks) { s with toks:=s.toks+1 }->wpAny (model X.prog X.w) X.A (f (.int i t) (.int j u)) Q E s) :
  bC X f (kP fun i j=>.int (g i j)):=by
 intro pins s σ H x y v u Q I rx ry h
 obtain ⟨i,j,rfl,rfl,q⟩:=h
 obtain ⟨t,rfl⟩:=rx
 obtain ⟨t',rfl⟩:=ry
 exact rule i j t t' s _ _ ⟨.int (g i j),H,I.tok _,⟨_,rfl⟩,q⟩
theorem rf {f:Da->Da->Sem Da} {g:Int->Int->Bool}
  (rule:∀ (i j:Int) (t u:Tok) (s:Fk) (Q:Da->Fk->Prop) (E:Da->Fk->Prop),Q (.bool (g i j)) s->wpAny (model X.prog X.w) X.A (f (.int i t) (.int j u)) Q E s) :
  bC X f (kP fun i j=>.bl (g i j)):=by
 intro pins s σ H x y v u Q I rx ry h
 obtain ⟨i,j,rfl,rfl,q⟩:=h
 obtain ⟨t,rfl⟩:=rx
 obtain ⟨t',rfl⟩:=ry
 exact rule i j t t' s _ _ ⟨.bl (g i j),H,I,rfl,q⟩
def E4 (i j:Int):Prop:=0<=j/\j<=1000000/\i.natAbs < 2 ^ 64
def uv (i j:Int):Prop:=(-(2 ^ 64) < i/\i < 2 ^ 64)\/(-(2 ^ 64) < j/\j < 2 ^ 64)
theorem uv.ok {i j:Int} (h:uv i j):IntMulOk i j:=by
 rcases h with ⟨h1,h2⟩ | ⟨h1,h2⟩
 ·exact .of_left (intBits_le_64 h1 h2)
 ·exact .of_right (intBits_le_64 h1 h2)
theorem bt:bC X (binaryOp .Add) (kP fun i j=>.int (i+j)):=Cs fun _ _ _ _ _ _ _ q=>add_int q
theorem dc:bC X (binaryOp .Sub) (kP fun i j=>.int (i - j)):=Cs fun _ _ _ _ _ _ _ q=>sub_int q
theorem de:bC X (binaryOp .Mult) (rI uv fun i j=>.int (i*j)):=vQ fun _ _ _ _ _ _ _ hc q=>mul_int q hc.ok
theorem bg:bC X (binaryOp .Mod) (rI (fun _ j=>0 < j) fun i j=>.int (i % j)):=vQ fun i j _ _ _ _ _ hc q=>by
 have h1:(0:Int) < j:=hc
 exact mod_int' (by lia) (by rw [Int.fmod_eq_emod_of_nonneg i (by lia)]; exact q)
theorem Ay:bC X (binaryOp .Pow) (rI E4 fun i j=>.int (i ^ j.toNat)):=vQ fun _ _ _ _ _ _ _ hc q=>pow_int_small hc.1 hc.2.1 hc.2.2 q
theorem Gg {f:Da->Sem Da} {g:Int->Int}
  (rule:∀ (i:Int) (t:Tok) (s:Fk) (Q:Da->Fk->Prop) (E:Da->Fk->Prop),Q (.int (g i) s.toks) { s with toks:=s.toks+1 }->wpAny (model X.prog X.w) X.A (f (.int i t)) Q E s) :
  AY X f (rU fun i=>.int (g i)):=by
 intro pins s σ H x v Q I rx h
 obtain ⟨i,rfl,q⟩:=h
 obtain ⟨t,rfl⟩:=rx
 exact rule i t s _ _ ⟨.int (g i),H,I.tok _,⟨_,rfl⟩,q⟩
theorem lS:AY X (unaryOp .USub) (rU fun i=>.int (-i)):=Gg fun _ _ _ _ _ q=>neg_int q
end
noncomputable def CG:V->V->Bool
 | .non,.non=>true | .non,.int _=>true | .int _,.non=>true | .non,.bl _=>true | .bl _,.non=>true | .non,.str _=>true | .str _,.non=>true
 | .int _,.int _=>true | .bl _,.bl _=>true | .str _,.str _=>true | .byt _,.byt _=>true
 | .int _,.str _=>true | .str _,.int _=>true | .bl _,.str _=>true | .str _,.bl _=>true
 | _,_=>false
noncomputable def Gq:R2:=fun x y H Q=>CG x y=true/\Q (.bl (decide (x=y))) H
noncomputable def EE:R2:=fun x y H Q=>CG x y=true/\Q (.bl (!decide (x=y))) H
theorem ir {i j:Int}:decide (V.int i=V.int j)=(i == j):=by
 rw [HE]
 simp
theorem se {i j:Bool}:decide (V.bl i=V.bl j)=(i == j):=by
 rw [HE]
 simp
theorem nV {i j:Str}:decide (V.str i=V.str j)=(i == j):=by
 rw [HE]
 simp
theorem oo {i j:Array UInt8}:decide (V.byt i=V.byt j)=(i.toList == j.toList):=by
 rw [HE]
 cases i
 cases j
 simp
section
variable {X:Cx} {a b c:HZ} {ta tb tc:TE} {pos:Pos}
theorem aM {pins:List (GC × Obj)} {σ:St} {H:Hp} {s:Fk} {Q:VK} {k k':Bool} (I:Inv X pins σ H s) (q:Q (.bl k) H) (e:k=k'):EP X pins σ Q (.bool k') s:=by
 subst e
 exact ⟨.bl k,H,I,rfl,q⟩
theorem cY:bC X (compareOp .Eq) Gq:=by
 intro pins s σ H x y v u Q I rx ry h
 obtain ⟨hs,q⟩:=h
 cases x with
 | non =>
  cases rx
  cases y with
  | non=>cases ry; exact PySem.EqNone.eq_none_none (aM I q (by simp))
  | bl j=>cases ry; exact PySem.EqNone.eq_none_bool (aM I q (by simp))
  | int j=>obtain ⟨t',rfl⟩:=ry; exact PySem.EqNone.eq_none_int (aM I q (by simp))
  | str j=>obtain ⟨t',rfl⟩:=ry; exact PySem.EqNone.eq_none_str (aM I q (by simp))
  | _=>exact absurd (show false=true from hs) GU
 | bl i =>
  cases rx
  cases y with
  | non=>cases ry; exact PySem.EqNone.eq_bool_none (aM I q (by simp))
  | bl j=>cases ry; exact eq_bool (aM I q se)
  | str j=>obtain ⟨t',rfl⟩:=ry; exact PySem.EqMixed.eq_bool_str (aM I q (by simp))
  | _=>exact absurd (show false=true from hs) GU
 | int i =>
  obtain ⟨t,rfl⟩:=rx
  cases y with
  | non=>cases ry; exact PySem.EqNone.eq_int_none (aM I q (by simp))
  | int j=>obtain ⟨t',rfl⟩:=ry; exact eq_int (aM I q ir)
  | str j=>obtain ⟨t',rfl⟩:=ry; exact PySem.EqMixed.eq_int_str (aM I q (by simp))
  | _=>exact absurd (show false=true from hs) GU
 | str i =>
  obtain ⟨t,rfl⟩:=rx
  cases y with
  | non=>cases ry; exact PySem.EqNone.eq_str_none (aM I q (by simp))
  | bl j=>cases ry; exact PySem.EqMixed.eq_str_bool (aM I q (by simp))
  | int j=>obtain ⟨t',rfl⟩:=ry; exact PySem.EqMixed.eq_str_int (aM I q (by simp))
  | str j=>obtain ⟨t',rfl⟩:=ry; exact eq_str (aM I q nV)
  | _=>exact absurd (show false=true from hs) GU
 | byt i =>
  obtain ⟨t,rfl⟩:=rx
  cases y with
  | byt j=>obtain ⟨t',rfl⟩:=ry; exact PySem.W.eq_bytes (aM I q oo)
  | _=>exact absurd (show false=true from hs) GU
 | _=>cases y<;>exact absurd (show false=true from hs) GU
theorem lE:bC X (compareOp .NotEq) EE:=by
 intro pins s σ H x y v u Q I rx ry h
 obtain ⟨hs,q⟩:=h
 cases x with
 | non =>
  cases rx
  cases y with
  | non=>cases ry; exact PySem.EqNone.ne_none_none (aM I q (by simp))
  | bl j=>cases ry; exact PySem.EqNone.ne_none_bool (aM I q (by simp))
  | int j=>obtain ⟨t',rfl⟩:=ry; exact PySem.EqNone.ne_none_int (aM I q (by simp))
  | str j=>obtain ⟨t',rfl⟩:=ry; exact PySem.EqNone.ne_none_str (aM I q (by simp))
  | _=>exact absurd (show false=true from hs) GU
 | bl i =>
  cases rx
  cases y with
  | non=>cases ry; exact PySem.EqNone.ne_bool_none (aM I q (by simp))
  | bl j=>cases ry; exact ne_bool (aM I q (congrArg not se))
  | str j=>obtain ⟨t',rfl⟩:=ry; exact PySem.EqMixed.ne_bool_str (aM I q (by simp))
  | _=>exact absurd (show false=true from hs) GU
 | int i =>
  obtain ⟨t,rfl⟩:=rx
  cases y with
  | non=>cases ry; exact PySem.EqNone.ne_int_none (aM I q (by simp))
  | int j=>obtain ⟨t',rfl⟩:=ry; exact ne_int (aM I q (congrArg not ir))
  | str j=>obtain ⟨t',rfl⟩:=ry; exact PySem.EqMixed.ne_int_str (aM I q (by simp))
  | _=>exact absurd (show false=true from hs) GU
 | str i =>
  obtain ⟨t,rfl⟩:=rx
  cases y with
  | non=>cases ry; exact PySem.EqNone.ne_str_none (aM I q (by simp))
  | bl j=>cases ry; exact PySem.EqMixed.ne_str_bool (aM I q (by simp))
  | int j=>obtain ⟨t',rfl⟩:=ry; exact PySem.EqMixed.ne_str_int (aM I q (by simp))
  | str j=>obtain ⟨t',rfl⟩:=ry; exact ne_str (aM I q (congrArg not nV))
  | _=>exact absurd (show false=true from hs) GU
 | byt i =>
  obtain ⟨t,rfl⟩:=rx
  cases y with
  | byt j=>obtain ⟨t',rfl⟩:=ry; exact PySem.W.ne_bytes (aM I q (congrArg not oo))
  | _=>exact absurd (show false=true from hs) GU
 | _=>cases y<;>exact absurd (show false=true from hs) GU
theorem dh:bC X (compareOp .Lt) (kP fun i j=>.bl (decide (i < j))):=rf fun _ _ _ _ _ _ _ q=>lt_int q
theorem fX:bC X (compareOp .LtE) (kP fun i j=>.bl (decide (i<=j))):=rf fun _ _ _ _ _ _ _ q=>le_int q
theorem lC:bC X (compareOp .Gt) (kP fun i j=>.bl (decide (j < i))):=rf fun _ _ _ _ _ _ _ q=>gt_int q
theorem v3:bC X (compareOp .GtE) (kP fun i j=>.bl (decide (j<=i))):=rf fun _ _ _ _ _ _ _ q=>ge_int q
theorem bC.or {f:Da->Da->Sem Da} {r r':R2} (h:bC X f r) (h':bC X f r'):bC X f (fun x y H Q=>r x y H Q\/r' x y H Q):=by
 intro pins s σ H x y v u Q I rx ry q
 rcases q with q | q
 ·exact h pins s σ H x y v u Q I rx ry q
 ·exact h' pins s σ H x y v u Q I rx ry q
theorem aE (b:HZ) {op:CmpOp} (h:op≠.In:=by decide) (h2:op≠.NotIn:=by decide):behindInMarks op b=false:=by
 have e1:(op == CmpOp.In)=false:=by cases op<;>first | rfl | exact absurd rfl h
 have e2:(op == CmpOp.NotIn)=false:=by cases op<;>first | rfl | exact absurd rfl h2
 cases b<;>simp [behindInMarks,e1,e2]
theorem dq {op:CmpOp} {r:R2} (ho:bC X (compareOp op) r) (ha:PE X a ta) (hb:PE X b tb) (hm:behindInMarks op b=false):PE X (.Compare a [op] [b] pos) (vZ r ta tb):=by
 intro pins s σ H Q I h
 exact wpAny_Compare1 (uE ha hb I h fun v u s2 x y H2 I2 rx ry q=>ho pins s2 σ H2 x y v u Q I2 rx ry q) hm
noncomputable def wm (t:TE):TT:=fun σ H Q=>t σ H fun x H'=>∃ k,x = .bl k/\Q k H'
theorem aC {op:CmpOp} {r:R2} (ho:bC X (compareOp op) r) (ha:PE X a ta) (hb:PE X b tb) (hm:behindInMarks op b=false):PT X (.Compare a [op] [b] pos) (wm (vZ r ta tb)):=by
 intro pins s σ H Q I h
 refine wpAny_isTrue_Compare1 (ax (ha pins s σ H _ I h) fun v s1 ⟨x,H1,I1,r1,q1⟩=>ax (hb pins s1 σ H1 _ I1 q1) fun u s2 ⟨y,H2,I2,r2,q2⟩ =>
  ax (ho pins s2 σ H2 x y v u _ I2 r1 r2 q2) fun c s3 ⟨z,H3,I3,r3,k,e,q3⟩=>?_) hm
 subst e
 cases r3
 exact HG ⟨H3,I3,q3⟩
noncomputable def z5 (r r':R2) (ta tb tc:TE):TE:=fun σ H Q=>ta σ H fun x H1=>tb σ H1 fun y H2=>r x y H2 fun z H3=>∃ k,z = .bl k /\
 (if k=true then tc σ H3 fun w' H4=>r' y w' H4 Q else Q (.bl false) H3)
theorem iI {op op':CmpOp} {r r':R2} (ho:bC X (compareOp op) r) (ho':bC X (compareOp op') r') (ha:PE X a ta) (hb:PE X b tb) (hc:PE X c tc)
  (hm:lastMarks [op,op'] [b,c]=false:=by with_unfolding_all rfl):PE X (.Compare a [op,op'] [b,c] pos) (z5 r r' ta tb tc):=by
 intro pins s σ H Q I h
 refine Compare_chain (ax (ha pins s σ H _ I h) fun v s1 ⟨x,H1,I1,r1,q1⟩=>chain_link (ax (hb pins s1 σ H1 _ I1 q1) fun u s2 ⟨y,H2,I2,r2,q2⟩ =>
  ax (ho pins s2 σ H2 x y v u _ I2 r1 r2 q2) fun d s3 ⟨z,H3,I3,r3,k,e,q3⟩=>?_)) hm
 subst e
 cases r3
 refine HG ?_
 cases k with
 | false=>exact ite_ff ⟨.bl false,H3,I3,rfl,q3⟩
 | true=>exact ite_tt (chain_last (ax (hc pins s3 σ H3 _ I3 q3) fun w' s4 ⟨z',H4,I4,r4,q4⟩=>ho' pins s4 σ H4 y z' u w' Q I4 r2 r4 q4))
theorem fH:(sizeLine:Nat) < 2 ^ 63:=by rw [HU]; decide
theorem bq:bC X (binaryOp .Add) (fun x y H Q=>∃ i j,x = .str i/\y = .str j/\i.length+j.length<=sizeLine/\Q (.str (i++j)) H):=by
 intro pins s σ H x y v u Q I rx ry h
 obtain ⟨i,j,rfl,rfl,hz,q⟩:=h
 obtain ⟨t,rfl⟩:=rx
 obtain ⟨t',rfl⟩:=ry
 exact add_str (fun t' tk=>⟨.str (i++j),H,I.tok _,⟨_,rfl⟩,q⟩) hz
theorem vals1 {x:V} {us:List Da} (r:Vals [x] us):∃ u,us=[u]/\RelV x u:=by
 cases r with
 | cons r1 r2=>cases r2; exact ⟨_,rfl,r1⟩
theorem vals2 {x y:V} {us:List Da} (r:Vals [x,y] us):∃ u w',us=[u,w']/\RelV x u/\RelV y w':=by
 cases r with
 | cons r1 r2 =>
  cases r2 with
  | cons r3 r4=>cases r4; exact ⟨_,_,rfl,r1,r3⟩
theorem kN (hc:X.calm=true):cb X (.builtin "max") (fun xs H Q=>∃ i j,xs=[.int i,.int j]/\Q (.int (if j > i then j else i)) H):=by
 intro pins s σ H xs us Q I r h
 obtain ⟨i,j,rfl,q⟩:=h
 obtain ⟨u,w',rfl,⟨t,rfl⟩,⟨t',rfl⟩⟩:=vals2 r
 refine max_two_ints (I.ok.hd hc) fun h' tk k=>⟨_,H,I.kept k,?_,q⟩
 by_cases hj:j > i
 ·rw [if_pos hj,if_pos hj]; exact ⟨_,rfl⟩
 ·rw [if_neg hj,if_neg hj]; exact ⟨_,rfl⟩
theorem gW:cb X (.type "str") (fun xs H Q=>∃ i,xs=[.int i]/\i.natAbs.log2 < 1920/\Q (.str (toString i)) H):=by
 intro pins s σ H xs us Q I r h
 obtain ⟨i,rfl,hz,q⟩:=h
 obtain ⟨u,rfl,t,rfl⟩:=vals1 r
 exact PySem.P.str_of_int hz ⟨.str _,H,I.tok _,⟨_,rfl⟩,q⟩
end
end L2
namespace L2
open PySem PySem.Spec PyProof.Rows
structure iO (h:HY) (x dx C:GC) (mA:Str->Option Da):Prop where
 obj:h.get? x=some (IL C dx)
 ns:h.Ns1 dx mA
 ne:dx≠x
theorem tH {h:HY} {dx:GC} {mA:Str->Option Da} (n:h.Ns1 dx mA):∃ od,h.get? dx=some od/\∀ name,KW name od=some (mA name):=by
 obtain ⟨o,es,ep,ho,hd,hk,_,hm⟩:=n
 refine ⟨o,ho,fun name=>?_⟩
 have e:=hm name
 unfold nsFind findBy at e
 rw [<- Array.find?_toList] at e
 unfold KW
 rw [hd]
 dsimp only
 split
 ·rename_i y q
  rw [q] at e
  exact congrArg some e
 ·rename_i q
  rw [q] at e
  have a:es.toList.any (·.refKey)=false:=by
   rw [J5]
   intro y hy
   obtain ⟨z,t,hkey⟩:=hk y (Kp.mp hy)
   simp [DictEntry.refKey,hkey]
  have a':¬ es.toList.any (·.refKey)=true:=by rw [a]; exact GU
  rw [if_neg a']
  exact congrArg some e
theorem iO.look {h:HY} {x dx C:GC} {mA:Str->Option Da} (I:iO h x dx C mA):∃ od,PySem.W.InstAt h x (IL C dx) C (some od)/\∀ name,KW name od=some (mA name) :=
 let ⟨od,ho,hl⟩:=tH I.ns
 ⟨od,⟨I.obj,rfl,rfl,ho⟩,hl⟩
section
variable {prog:GQ} {w:Hh} {A:Hj} {E:Da->Fk->Prop} {s:Fk} {K:GP} {x dx C f:GC} {mA:Str->Option Da} {name:Str} {v:Da}
theorem get_map {expr:Bool} {Q:Da->Fk->Prop} (X:K.In s.heap) (I:iO s.heap x dx C mA) (hg:Kl K C name=true) (hh:K7 K C=true)
  (ha:Iu K (.ref C) name=some none) (hv:mA name=some v) (hv':PySem.W.handedIn v=true) (h:Q v { s with toks:=s.toks+1 }) :
  wpAny (model prog w) A (getAttr (.ref x) name expr) Q E s:=by
 obtain ⟨od,J,hl⟩:=I.look
 exact PySem.W.get_value X J (Ky hg).1 (PySem.W.findObj_own hh ha rfl (by rw [hl,hv])) hv' h
theorem vc {pl:Sem Bool} {Q:Da × List Da->Fk->Prop} (X:K.In s.heap) (I:iO s.heap x dx C mA) (hg:Kl K C name=true)
  (hf:Iu K (.ref C) name=some (some (.ref f))) (ht:Mi K (.ref f)=true) (hv:mA name=none) (h:Q (.ref f,[.ref x]) s) :
  wpAny (model prog w) A (getMethod (.ref x) name pl) Q E s:=by
 obtain ⟨od,J,hl⟩:=I.look
 exact PySem.W.method_fn X J (Ky hg).1 (Ky hg).2 hf (beq_iff_eq.mp ht) (by show (KW name od).map (·.isSome)=some false; rw [hl,hv]; rfl) h
theorem xF {ns:List Str} {Q:Unit->Fk->Prop} (X:K.In s.heap) (I:iO s.heap x dx C mA)
  (hs:Iu K (.ref C) "__setattr__" = some (some (.builtin "object.__setattr__"))) (hp:PySem.W.plainOver K C=true) (ht:LF K C name=some none) (hh:K7 K C=true)
  (hw:Mh mA ns) (hsz:ns.length<=sizeLine)
  (h:∀ h',iO h' x dx C (fun y=>if y=name then some v else mA y)->Jv dx s.heap h'->Q () { s with heap:=h',toks:=s.toks+2 }) :
  wpAny (model prog w) A (setAttr (.ref x) name v) Q E s:=by
 obtain ⟨od,J,hl⟩:=I.look
 refine PySem.W.set_plain X J hs (PySem.W.osa_open (s:={ s with toks:=s.toks+1 }) (r:=none) X J hp ht fun b=>?_)
 obtain ⟨cd,hc,hd'⟩:=PySem.W.any_some hh
 have hx:s.heap.get? x=some ⟨.ref C,some dx,.plain,#[]⟩:=I.obj
 refine AC (Gc (AC (AC (wpAny_loadPart hx (AC (PySem.W.Looks.here (s:={ s with toks:=s.toks+1 }) (PySem.W.looks_clsIn X hc) ?_))))))
 rw [hd']
 refine Gc (a:=some dx) (AC (Gc (AC ?_)))
 refine wpAny_nsSet1 (s:={ s with toks:=s.toks+1 }) I.ns fun h' hn2 hs2=>?_
 obtain ⟨oD,esD,epD,hoD,hdD,hcD⟩:=hn2.count (PySem.Within.cons name v hw)
 refine AC (wpAny_lookBehind hoD (by rw [hdD]; exact pastItsLine_dict (Hm hcD (by rw [Hq]; lia))) ?_)
 exact Gc (h _ ⟨(hs2.2 _ (Ip I.ne)).trans I.obj,hn2,I.ne⟩ hs2)
theorem ux {R:Mj->Fk->Prop} {vs:List Da} {kw:List (Str × Da)} (X:K.In s.heap) (hm:PySem.W.makesIn K C=true)
  (hi:Iu K (.ref C) "__init__" = some (some (.ref f))) (hf:PySem.W.typeIn K (.ref f)=some (.type "function"))
  (h:codeAny (model prog w) (A.under (.builtin "type.__call__" ⟨.ref C::vs,kw⟩)) (.call (.ref f) ⟨.ref (s.heap.objs.size+1)::vs,kw⟩) (PySem.W.InitBack (s.heap.objs.size+1) R)
   { s with heap:=(s.heap.push Ic).push (IL C s.heap.objs.size) }) :
  codeAny (model prog w) A (.call (.ref C) ⟨vs,kw⟩) R s:=by
 obtain ⟨hh,g,d,t,os⟩:=s
 exact PySem.W.make_core (PySem.W.makes_of X hm) (PySem.W.looks_findIn X hi) (fun self=>PySem.W.bind_fn X self hf) (.inl rfl) h
end
noncomputable def cN (f:Str) (v:V):List (Str × V)->List (Str × V)
 | []=>[(f,v)]
 | (g,x)::r=>if g=f then (g,v)::r else (g,x)::cN f v r
theorem cj (f g:Str) (v:V):∀ fs:List (Str × V),(cN f v fs).lookup g=if g=f then some v else fs.lookup g
 | []=>by
  show J9 g [(f,v)]=_
  by_cases h:g=f
  ·have hb:(g == f)=true:=beq_iff_eq.mpr h
   simp only [J9,hb,if_pos h]
  ·have hb:(g == f)=false:=beq_eq_false_iff_ne.mpr h
   simp only [J9,hb,if_neg h]
 | (k,x)::r=>by
  have ih:=cj f g v r
  rw [show cN f v ((k,x)::r)=(if k=f then (k,v)::r else (k,x)::cN f v r) from rfl]
  by_cases hk:k=f
  ·rw [if_pos hk]
   by_cases h:g=k
   ·have hb:(g == k)=true:=beq_iff_eq.mpr h
    simp only [J9,hb,if_pos (h.trans hk)]
   ·have hb:(g == k)=false:=beq_eq_false_iff_ne.mpr h
    simp only [J9,hb,if_neg (fun e:g=f=>h (e.trans hk.symm))]
  ·rw [if_neg hk]
   by_cases h:g=k
   ·have hb:(g == k)=true:=beq_iff_eq.mpr h
    simp only [J9,hb,if_neg (fun e:g=f=>hk (h.symm.trans e))]
   ·have hb:(g == k)=false:=beq_eq_false_iff_ne.mpr h
    simp only [J9,hb]
    exact ih
theorem gN (f:Str) (v:V):∀ fs:List (Str × V),f∈(cN f v fs).map (·.1)/\∀ g,g∈fs.map (·.1)->g∈(cN f v fs).map (·.1)
 | []=>⟨by simp [cN],fun g h=>by simp at h⟩
 | (k,x)::r=>by
  obtain ⟨i1,i2⟩:=gN f v r
  rw [show cN f v ((k,x)::r)=(if k=f then (k,v)::r else (k,x)::cN f v r) from rfl]
  by_cases hk:k=f
  ·rw [if_pos hk]
   subst hk
   exact ⟨by simp,fun g h=>by simpa using h⟩
  ·rw [if_neg hk]
   refine ⟨?_,fun g h=>?_⟩
   ·rw [G6]
    exact GJ _ i1
   ·rw [G6] at h |-
    rcases GI.mp h with e | e
    ·exact GI.mpr (.inl e)
    ·exact GJ _ (i2 g e)
theorem iE (f:Str) (v:V):∀ fs:List (Str × V),(cN f v fs).length<=fs.length+1
 | []=>by simp [cN]
 | (k,x)::r=>by
  have ih:=iE f v r
  rw [show cN f v ((k,x)::r)=(if k=f then (k,v)::r else (k,x)::cN f v r) from rfl]
  by_cases hk:k=f
  ·rw [if_pos hk,Hq,Hq]; lia
  ·rw [if_neg hk,Hq,Hq]; lia
theorem cO.some_of {v:V} {o:Option Da} (r:cO (some v) o):∃ u,o=some u/\RelV v u:=by
 cases o with
 | none=>exact (show False from r).elim
 | some u=>exact ⟨u,rfl,r⟩
theorem cO.none_of {o:Option Da} (r:cO none o):o=none:=by
 cases o with
 | none=>rfl
 | some u=>exact (show False from r).elim
theorem sL {v:V} {u:Da} (r:RelV v u):PySem.W.handedIn u=true:=by
 cases v with
 | non=>cases (show u=Hy from r); rfl
 | bl b=>cases (show u=K4 b from r); rfl
 | int i=>obtain ⟨t,e⟩:=(show ∃ t,u=Kw i t from r); cases e; rfl
 | str x=>obtain ⟨t,e⟩:=(show ∃ t,u=Kx x t from r); cases e; rfl
 | byt b=>obtain ⟨t,e⟩:=(show ∃ t,u=Value.bytes b t from r); cases e; rfl
 | flt b=>obtain ⟨t,e⟩:=(show ∃ t,u=Value.float b t from r); cases e; rfl
 | ref a=>cases (show u=GL a from r); rfl
 | ty n=>cases (show u=IP n from r); rfl
section
variable {P:GQ} {w:Hh} {H H':Hp} {h h':HY} {a C dx:GC} {fs fs':List (Str × V)}
theorem hG (hok:bK P w H h) (e:H a=some (.ins C dx fs)):∃ mA,iO h a dx C mA/\(∀ f,cO (fs.lookup f) (mA f))/\Mh mA (fs.map (·.1))/\fs.length<=1000/\H dx=some (.own a):=by
 obtain ⟨d,z,ne,ob,mA,n,r,q⟩:=(show aT P w H h a (.ins C dx fs) from hok a _ e)
 exact ⟨mA,⟨ob,n,ne⟩,r,q,z,d⟩
end
structure Cls (K:GP) (C:GC):Prop where
 pg:Kl K C Str.empty=true
 hd:K7 K C=true
 po:PySem.W.plainOver K C=true
 sa:Iu K (.ref C) "__setattr__" = some (some (.builtin "object.__setattr__"))
theorem Cls.get {K:GP} {C:GC} (c:Cls K C) (f:Str):Kl K C f=true:=c.pg
def NoAttr (K:GP) (C:GC) (f:Str):Prop:=Iu K (.ref C) f=some none
theorem NoAttr.taker {K:GP} {C:GC} {f:Str} (n:NoAttr K C f):LF K C f=some none:=by
 unfold LF
 rw [show Iu K (.ref C) f=some none from n]
 rfl
structure Meth (K:GP) (C:GC) (m:Str) (f:GC):Prop where
 at_:Iu K (.ref C) m=some (some (.ref f))
 fn:Mi K (.ref f)=true
 kp:KY K (.ref f)=true
section
variable {X:Cx} {pins:List (GC × Obj)} {σ:St} {H:Hp} {s:Fk} {a C dx:GC} {fs:List (Str × V)} {f:Str} {v:V} {A:Hj} {E:Da->Fk->Prop}
theorem pM {b:Bool} {Q:Da->Fk->Prop} (I:Inv X pins σ H s) (e:H a=some (.ins C dx fs)) (c:Cls X.K C) (n:NoAttr X.K C f) (l:fs.lookup f=some v)
  (h:∀ u s',Inv X pins σ H s'->RelV v u->Q u s'):wpAny (model X.prog X.w) A (getAttr (.ref a) f b) Q E s:=by
 obtain ⟨mA,O,r,_,_,_⟩:=hG I.hok e
 obtain ⟨u,hu,ru⟩:=cO.some_of (v:=v) (o:=mA f) (by rw [<- l]; exact r f)
 exact get_map I.kIn O (c.get f) c.hd n hu (sL ru) (h u _ (I.tok _) ru)
theorem fU {m:Str} {g:GC} {pl:Sem Bool} {Q:Da × List Da->Fk->Prop} (I:Inv X pins σ H s) (e:H a=some (.ins C dx fs)) (c:Cls X.K C) (k:Meth X.K C m g) (l:fs.lookup m=none)
  (h:Q (.ref g,[.ref a]) s):wpAny (model X.prog X.w) A (getMethod (.ref a) m pl) Q E s:=by
 obtain ⟨mA,O,r,_,_,_⟩:=hG I.hok e
 have hn:mA m=none:=cO.none_of (by rw [<- l]; exact r m)
 exact vc I.kIn O (c.get m) k.at_ k.fn hn h
theorem qE {y:V} {u:Da} {Q:Unit->Fk->Prop} (I:Inv X pins σ H s) (e:H a=some (.ins C dx fs)) (c:Cls X.K C) (n:NoAttr X.K C f) (hl:fs.length < 1000) (ry:RelV y u)
  (h:∀ s',Inv X pins σ (upd H a (.ins C dx (cN f y fs))) s'->Q () s'):wpAny (model X.prog X.w) A (setAttr (.ref a) f u) Q E s:=by
 obtain ⟨mA,O,r,wi,_,ho⟩:=hG I.hok e
 have hz:(fs.map (·.1)).length<=sizeLine:=by rw [FS,HU]; lia
 refine xF I.kIn O c.sa c.po n.taker c.hd wi hz fun h' O' sb=>h _ ?_
 have hd:∃ o,h'.get? dx=some o:=let ⟨o,_,_,e',_⟩:=O'.ns; ⟨o,e'⟩
 refine I.write (x:=a) (e:=dx) (by rw [e]; exact IQ) (.inr ho) (fun b q hb z=>(sb.2 b hb).trans z) hd ?_
 refine ⟨by rw [av O.ne]; exact ho,?_,O.ne,O'.obj,_,O'.ns,fun g=>?_,fun g hg=>?_⟩
 ·have:=iE f y fs; lia
 ·show cO ((cN f y fs).lookup g) (if g=f then some u else mA g)
  rw [cj]
  by_cases q:g=f
  ·rw [if_pos q,if_pos q]; exact ry
  ·rw [if_neg q,if_neg q]; exact r g
 ·by_cases q:g=f
  ·rw [q]; exact (gN f y fs).1
  ·refine (gN f y fs).2 g (wi g fun z=>hg ?_)
   show (if g=f then some u else mA g)=none
   rw [if_neg q]; exact z
theorem Inv.made (I:Inv X pins σ H s):Inv X pins σ (upd (upd H s.heap.objs.size (.own (s.heap.objs.size+1))) (s.heap.objs.size+1) (.ins C s.heap.objs.size []))
  { s with heap:=(s.heap.push Ic).push (IL C s.heap.objs.size) }:=by
 have e1:(s.heap.push Ic).get? s.heap.objs.size=some Ic:=GO s.heap rfl
 have e2:((s.heap.push Ic).push (IL C s.heap.objs.size)).get? (s.heap.objs.size+1)=some (IL C s.heap.objs.size):=by
  have:=GO (s.heap.push Ic) (o:=IL C s.heap.objs.size) rfl
  rwa [Ih] at this
 have e3:(s.heap.push Ic).Ns s.heap.objs.size (fun _=>none):=⟨Ic,#[],_,e1,rfl,(fun e he=>absurd he (by simp)),fun _=>rfl⟩
 have I1:=I.laid (a:=s.heap.objs.size) (o:=.own (s.heap.objs.size+1)) (h':=s.heap.push Ic) (t':=s.toks) (fun b u q=>FM _ q) (GF _) ⟨_,e1⟩
 refine I1.laid (a:=s.heap.objs.size+1) (o:=.ins C s.heap.objs.size []) (t':=s.toks) (fun b u q=>FM _ q) (Nat.le_of_eq (Ih _ _)) ?_
 have ne:s.heap.objs.size≠s.heap.objs.size+1:=GX (Km _)
 refine ⟨by rw [av ne,ag],GG _,ne,e2,fun _=>none,(Heap.Ns1.of_empty e3).at fun o q=>FM _ q,fun _=>IQ,fun y hy=>absurd rfl hy⟩
theorem yd {prog:GQ} {w:Hh} {env:Env} {e:HZ} {f:Str} {pos:Pos} {s:Fk} {Q:Da->Fk->Prop} (hb:attributeBase e f env (eval e env)=eval e env)
  (h:wpAny (model prog w) A (eval e env) (fun o s₁=>wpAny (model prog w) A (getAttr o f true) Q E s₁) E s):wpAny (model prog w) A (eval (.Attribute e f pos) env) Q E s :=
 Attribute_any_ h (by rw [arm_eval_Attribute,hb])
end
noncomputable def EV (K:GP) (ta:TE) (f:Str):TE:=fun σ H Q=>ta σ H fun x H1=>∃ a C dx fs v,x = .ref a/\H1 a=some (.ins C dx fs)/\Cls K C/\NoAttr K C f/\fs.lookup f=some v/\Q v H1
noncomputable def Fz (K:GP) (ta tv:TE) (f:Str):TS:=fun D σ H=>tv σ H fun y H1=>ta σ H1 fun x H2=>∃ a C dx fs,x = .ref a/\H2 a=some (.ins C dx fs)/\Cls K C/\NoAttr K C f/\fs.length < 1000 /\
 D.nx σ (upd H2 a (.ins C dx (cN f y fs)))
section
variable {X:Cx} {o e value:HZ} {f:Str} {pos pos' tpos:Pos} {ta tv:TE}
theorem lP (he:PE X e ta) (hb:attributeBase e f X.env (eval e X.env)=eval e X.env):PE X (.Attribute e f pos) (EV X.K ta f):=by
 intro pins s σ H Q I h
 refine yd hb (ax (he pins s σ H _ I h) fun u s1 ⟨x,H1,I1,rx,a,C,dx,fs,v,ex,ea,c,n,l,q⟩=>?_)
 subst ex
 obtain rfl:u=GL a:=rx
 exact pM I1 ea c n l fun u' s2 I2 ru=>⟨v,H1,I2,ru,q⟩
theorem sE (ha:PE X o ta) (hv:PE X value tv) (hs:swapsWith value (some (.Attribute o f pos')) pos.line X.env=pure false):PS X (.Assign [.Attribute o f pos'] value pos) (Fz X.K ta tv f):=by
 intro pins s σ H D I h
 refine plainObj_wpAny_Assign_Attribute (ax (hv pins s σ H _ I h) fun u s1 ⟨y,H1,I1,ry,q⟩=>ax (ha pins s1 σ H1 _ I1 q) fun ov s2 ⟨x,H2,I2,rx,a,C,dx,fs,ex,ea,c,n,l,q2⟩=>?_) hs
 subst ex
 obtain rfl:ov=GL a:=rx
 exact qE I2 ea c n l ry fun s3 I3=>⟨σ,_,I3,q2⟩
theorem Ds {pl:Sem Bool} {m:Str} {apos:Pos} {args:List HZ} {pins:List (GC × Obj)} {s:Fk} {σ:St} {H:Hp} {Q:Da->Fk->Prop} {te:TE} (he:PE X e te) (I:Inv X pins σ H s)
  (h:te σ H fun x H1=>∃ a C dx fs g,x = .ref a/\H1 a=some (.ins C dx fs)/\Cls X.K C/\Meth X.K C m g/\fs.lookup m=none /\
   ∀ s1,Inv X pins σ H1 s1->wpAny (model X.prog X.w) X.A (callWith pos (.ref g) [.ref a] (backTo pos (starEach args X.env)) (backToKw pos (keywordEach [] X.env))) Q X.xe s1)
  (ht:eval (.Call (.Attribute e m apos) args [] pos) X.env=(do
   let ov <- eval e X.env
   standAt apos.atName
   let (f,first) <- holding [ov] (getMethod ov m pl)
   callWith pos f first (backTo pos (starEach args X.env)) (backToKw pos (keywordEach [] X.env)))) :
  wpAny (model X.prog X.w) X.A (eval (.Call (.Attribute e m apos) args [] pos) X.env) Q X.xe s:=by
 refine Kd (pl:=pl) (ax (he pins s σ H _ I h) fun u s1 ⟨x,H1,I1,rx,a,C,dx,fs,g,ex,ea,c,k,l,q⟩=>?_) ht
 subst ex
 obtain rfl:u=GL a:=rx
 exact fU I1 ea c k l (q s1 I1)
end
section
variable {X:Cx} {pins:List (GC × Obj)} {σ:St} {H:Hp} {s:Fk} {A:Hj} {E:Da->Fk->Prop} {Q:Da->Fk->Prop} {c:Da} {b:Bool}
inductive dH (K:GP) (H:Hp):V->Da->Prop where
 | non:dH K H .non (.type "NoneType")
 | bl (x:Bool):dH K H (.bl x) (.type "bool")
 | int (i:Int):dH K H (.int i) (.type "int")
 | str (x:Str):dH K H (.str x) (.type "str")
 | flt (x:UInt64):dH K H (.flt x) (.type "float")
 | lst {a:GC} {xs:List V} (e:H a=some (.lst xs)):dH K H (.ref a) (.type "list")
 | frz {a:GC} {o:Obj} {xs:List V} (e:H a=some (.frz o (.lst xs))):dH K H (.ref a) (.type "list")
 | tup {a:GC} {xs:List V} (e:H a=some (.tup xs)):dH K H (.ref a) (.type "tuple")
 | dK {a:GC} {kvs:List (Key × V)} (e:H a=some (.dK kvs)):dH K H (.ref a) (.type "dict")
 | dT {a:GC} {kvs:List (List Key × V)} (e:H a=some (.dT kvs)):dH K H (.ref a) (.type "dict")
 | ins {a C dx:GC} {fs:List (Str × V)} (e:H a=some (.ins C dx fs)) (cl:Cls K C) (ha:Iu K (.ref C) "__class__" = some (some (.builtin "object.__class__")))
   (hn:PySem.W.specialIn K (.builtin "object.__class__") "__get__" = some (some (.builtin "getset_descriptor.__get__"))) (htk:PySem.W.takesIn K (.builtin "object.__class__")=some true)
   (hm:PySem.W.mroIn K C (.type "object")=some true):dH K H (.ref a) (.ref C)
theorem rA {x:V} {u t:Da} (I:Inv X pins σ H s) (rx:RelV x u) (ty:dH X.K H x t) (e:PySem.W.kitOne X.K t c=some b) (h:∀ tk,Q (.bool b) { s with toks:=tk }) :
  wpAny (model X.prog X.w) A (call (.builtin "isinstance") [u,c]) Q E s:=by
 cases ty with
 | non=>cases (show u=Hy from rx); exact HW PySem.W.kitx_none I.kIn IQ e (fun z=>nomatch z) h
 | bl y=>cases (show u=K4 y from rx); exact HW PySem.W.kitx_bool I.kIn IQ e (fun z=>nomatch z) h
 | int i=>obtain ⟨t,q⟩:=(show ∃ t,u=Kw i t from rx); cases q; exact HW PySem.W.kitx_int I.kIn IQ e (fun z=>nomatch z) h
 | str y=>obtain ⟨t,q⟩:=(show ∃ t,u=Kx y t from rx); cases q; exact HW PySem.W.kitx_str I.kIn IQ e (fun z=>nomatch z) h
 | flt y=>obtain ⟨t,q⟩:=(show ∃ t,u=Value.float y t from rx); cases q; exact HW PySem.W.kitx_float I.kIn IQ e (fun z=>nomatch z) h
 | @lst a xs ea =>
  cases (show u=GL a from rx)
  obtain ⟨_,_,n,_,h1⟩:=(show aT X.prog X.w H s.heap a (.lst xs) from I.hok a _ ea)
  exact HW PySem.W.kitx_list I.kIn ⟨_,h1,rfl⟩ e (fun z=>nomatch z) h
 | @frz a ob xs ea =>
  cases (show u=GL a from rx)
  obtain ⟨_,_,_,n,_,h1⟩:=(show aT X.prog X.w H s.heap a (.frz ob (.lst xs)) from I.hok a _ ea)
  exact HW PySem.W.kitx_list I.kIn ⟨_,h1,rfl⟩ e (fun z=>nomatch z) h
 | @tup a xs ea =>
  cases (show u=GL a from rx)
  obtain ⟨_,_,_,p⟩:=(show aT X.prog X.w H s.heap a (.tup xs) from I.hok a _ ea)
  obtain ⟨o,h1,h2,_⟩:=p
  exact HW PySem.W.kitx_tuple I.kIn ⟨o,h1,h2⟩ e (fun z=>nomatch z) h
 | @dK a kvs ea =>
  cases (show u=GL a from rx)
  obtain ⟨_,_,vs,_,p⟩:=(show aT X.prog X.w H s.heap a (.dK kvs) from I.hok a _ ea)
  obtain ⟨o,es,ep,h1,h2,_⟩:=p
  exact HW PySem.W.kitx_dict I.kIn ⟨o,h1,h2.1⟩ e (fun z=>nomatch z) h
 | @dT a kvs ea =>
  cases (show u=GL a from rx)
  obtain ⟨_,_,xs,_,o,es,ep,h1,h2,_⟩:=(show aT X.prog X.w H s.heap a (.dT kvs) from I.hok a _ ea)
  exact HW PySem.W.kitx_dict I.kIn ⟨o,h1,h2.1⟩ e (fun z=>nomatch z) h
 | @ins a C dx fs ea cl ha hn htk hm =>
  cases (show u=GL a from rx)
  obtain ⟨mA,O,_⟩:=hG I.hok ea
  obtain ⟨od,J,_⟩:=O.look
  exact HW (PySem.W.kitx_own (cl.get _) cl.hd ha hn htk hm) I.kIn J e (fun z=>nomatch z) h
end
end L2
namespace L2
open PySem PySem.Spec PyProof.Rows
structure aQ (k:Nat) (A:Hj):Prop where
 hd:A.handled=none
 dp:A.depth+3*k+5 < recursionLimit
 un:A.units+16*k+200 < cLine
theorem aQ.mono {j k:Nat} {A:Hj} (r:aQ k A) (h:j<=k):aQ j A:=⟨r.hd,by have:=r.dp; lia,by have:=r.un; lia⟩
theorem aQ.deeper {k:Nat} {A:Hj} (r:aQ (k+1) A) (env:Env):aQ k (A.deeper env) :=
 ⟨r.hd,by have:=r.dp; show A.depth+1+3*k+5 < _; lia,by have:=r.un; show A.units+3+16*k+200 < _; lia⟩
theorem o8 {A:Hj} {C:GC} {us:List Da} {kw:List (Str × Da)}:(A.under (.builtin "type.__call__" ⟨.ref C::us,kw⟩)).depth=A.depth+1:=by
 first | rfl | simp [Ml,Code.weight,Code.isCreation,Code.isGuard,Code.isCaller,Code.frames,Mm,guardIds]
theorem pC {A:Hj} {C:GC} {us:List Da} {kw:List (Str × Da)}:(A.under (.builtin "type.__call__" ⟨.ref C::us,kw⟩)).units=A.units+1:=by
 first | rfl | simp [Ml,Code.cUnits,Code.frames,Mm]
theorem aQ.make {k:Nat} {A:Hj} (r:aQ (k+1) A) (C:GC) (us:List Da) (kw:List (Str × Da)):aQ k (A.under (.builtin "type.__call__" ⟨.ref C::us,kw⟩)) :=
 ⟨r.hd,by have:=r.dp; rw [o8]; lia,by have:=r.un; rw [pC]; lia⟩
theorem aQ.depth {k:Nat} {A:Hj} (r:aQ k A):A.depth < recursionLimit:=by have:=r.dp; lia
theorem aQ.units {k:Nat} {A:Hj} (r:aQ k A):A.units+64 < cLine:=by have:=r.un; lia
noncomputable def gk:TA:=fun _ H Q=>Q [] H
noncomputable def vW (ta:TE) (tr:TA):TA:=fun σ H Q=>ta σ H fun x H1=>tr σ H1 fun xs H2=>Q (x::xs) H2
section
variable {X:Cx} {e:HZ} {es:List HZ} {te:TE} {t:TA} {pos:Pos}
theorem af:PA X [] gk:=fun _ _ _ _ H Q I h=>IY ⟨[],H,I,.nil,h⟩
theorem aa (ha:PE X e te) (hr:PA X es t) (hs:starEach (e::es) X.env=(false,eval e X.env)::starEach es X.env:=by rfl):PA X (e::es) (vW te t):=by
 intro pos pins s σ H Q I h
 rw [hs]
 show wpAny _ _ (spliced ((false,eval e X.env)::backTo pos (starEach es X.env))) _ _ s
 refine IB (ax (ha pins s σ H _ I h) fun u s1 ⟨x,H1,I1,r1,q1⟩=>?_)
 exact ax (hr pos pins s1 σ H1 _ I1 q1) fun us s2 ⟨xs,H2,I2,r2,q2⟩=>⟨x::xs,H2,I2,.cons r1 r2,q2⟩
noncomputable def FD (t:TA):TE:=fun σ H Q=>t σ H fun xs H1=>xs.length<=sizeLine/\∀ p,H1 p=none->Q (.ref p) (upd H1 p (.tup xs))
noncomputable def zI (t:TA):TE:=fun σ H Q=>t σ H fun xs H1=>xs.length<=sizeLine/\∀ p,H1 p=none->Q (.ref p) (upd H1 p (.lst xs))
theorem cL {x1} (h:PA X es t):PE X (.Tuple es x1 pos) (FD t):=by
 intro pins s σ H Q I hq
 refine wpAny_Tuple_spliced (ax (h pos pins s σ H _ I hq) fun us s1 ⟨xs,H1,I1,r,z,q⟩=>⟨by rw [<- r.length]; exact z,?_⟩)
 have hf:H1 s1.heap.objs.size=none:=I1.hok.fresh (GF _)
 refine ⟨.ref s1.heap.objs.size,upd H1 s1.heap.objs.size (.tup xs),I1.laid (t':=s1.toks) (fun b u e=>FM _ e) (GF _) ?_,rfl,q _ hf⟩
 exact ⟨z,us,r,⟨_,GO _ rfl,rfl,_,rfl⟩⟩
theorem aR (h:PA X es t):PE X (.List es pos) (zI t):=by
 intro pins s σ H Q I hq
 refine wpAny_List_spliced (ax (h pos pins s σ H _ I hq) fun us s1 ⟨xs,H1,I1,r,z,q⟩=>⟨by rw [<- r.length]; exact z,?_⟩)
 have hf:H1 s1.heap.objs.size=none:=I1.hok.fresh (GF _)
 refine ⟨.ref s1.heap.objs.size,upd H1 s1.heap.objs.size (.lst xs),I1.laid (t':=s1.toks) (fun b u e=>FM _ e) (GF _) ?_,rfl,q _ hf⟩
 exact ⟨z,us,0,r,GO _ rfl⟩
end
noncomputable abbrev Sp:=List V->Hp->VK->XK->Prop
noncomputable abbrev eh:=List Env->Hp->Fk->XK->Da->Fk->Prop
structure iQ (P:GQ) (w:Hh) (K:GP) (mg:Str->Option Da) (base:HY) (A:Hj) (outer:List Env) (s:Fk) (H:Hp):Prop where
 frames:A.frames=some outer
 mod:Mod K mg base
 bs:∀ b o,base.get? b=some o->s.heap.get? b=some o/\H b=none
 bsz:base.objs.size<=s.heap.objs.size
 funs:s.heap.FunFrames base outer
 frf:∀ b∈bA outer,H b=none
 hok:bK P w H s.heap
 bare:Lf s.gens
def CE (outer:List Env) (P:GQ) (w:Hh) (H:Hp) (s:Fk) (Q:VK) (u:Da) (s':Fk):Prop :=
 ∃ v H',s'.os=s.os/\Lf s'.gens/\Un (bA outer) [] H H' s.heap s'.heap/\bK P w H' s'.heap/\RelV v u/\Q v H'
def CR (CX:eh) (outer:List Env) (P:GQ) (w:Hh) (H:Hp) (s:Fk) (Q:VK) (E:XK) (r:Mj) (s':Fk):Prop :=
 match r with
 | .ok (.ret u)=>CE outer P w H s Q u s'
 | .ok _=>False
 | .error e=>CX outer H s E e s'
structure bj (P:GQ) (w:Hh) (K:GP) (mg:Str->Option Da) (base:HY) (CX:eh) (k:Nat) (f:GC) (fd:Hz) (ps:List Str) (sp:Sp):Prop where
 len:∀ vs H Q E,sp vs H Q E->vs.length=ps.length
 run:∀ (A:Hj) (outer:List Env) (s:Fk) (H:Hp) (args:Args) (us:List Da) (vs:List V) (Q:VK) (E:XK),aQ k A->iQ P w K mg base A outer s H->BindsTo s fd args (ps.zip us)->Vals vs us->sp vs H Q E ->
  codeAny (model P w) A (.call (.ref f) args) (CR CX outer P w H s Q E) s
theorem bj.mono {P:GQ} {w:Hh} {K:GP} {mg:Str->Option Da} {base:HY} {CX:eh} {j k:Nat} {f:GC} {fd:Hz} {ps:List Str} {sp:Sp} (F:bj P w K mg base CX j f fd ps sp) (h:j<=k) :
  bj P w K mg base CX k f fd ps sp:=⟨F.len,fun A outer s H args us vs Q E hr=>F.run A outer s H args us vs Q E (hr.mono h)⟩
theorem bj.imp {P:GQ} {w:Hh} {K:GP} {mg:Str->Option Da} {base:HY} {CX:eh} {k:Nat} {f:GC} {fd:Hz} {ps:List Str} {sp sp':Sp} (F:bj P w K mg base CX k f fd ps sp)
  (h:∀ vs H Q E,sp' vs H Q E->sp vs H Q E):bj P w K mg base CX k f fd ps sp' :=
 ⟨fun vs H Q E q=>F.len vs H Q E (h _ _ _ _ q),fun A outer s H args us vs Q E hr he hb hv hs=>F.run A outer s H args us vs Q E hr he hb hv (h _ _ _ _ hs)⟩
theorem iQ.make {P:GQ} {w:Hh} {K:GP} {mg:Str->Option Da} {base:HY} {A:Hj} {outer:List Env} {s:Fk} {H:Hp} (e:iQ P w K mg base A outer s H) (C:GC) (us:List Da) (kw:List (Str × Da)) :
  iQ P w K mg base (A.under (.builtin "type.__call__" ⟨.ref C::us,kw⟩)) outer s H:=⟨by first | exact e.frames | (simpa [Ml,Code.envs,Mm,pushEnvs] using e.frames),e.mod,e.bs,e.bsz,e.funs,e.frf,e.hok,e.bare⟩
section
variable {X:Cx} {pins:List (GC × Obj)} {σ:St} {H:Hp} {s s':Fk}
theorem Inv.env0 (I:Inv X pins σ H s):iQ X.prog X.w X.K X.mg X.base X.A X.stack s H :=
 ⟨I.ok.frames,I.ok.mod,I.bs,Hm I.ok.bsz I.sz,I.stack,I.stkFree,I.hok,I.bare⟩
theorem Inv.after {Q:VK} {u:Da} (I:Inv X pins σ H s) (h:CE X.stack X.prog X.w H s Q u s'):EP X pins σ Q u s':=by
 obtain ⟨v,H',os,bare,un,hok,r,q⟩:=h
 obtain ⟨hh,g,d,t,os'⟩:=s'
 obtain rfl:os'=s.os:=os
 exact ⟨v,H',I.call (h':=hh) (g':=g) (d':=d) (t':=t) (ch:=[]) un hok bare (fun b z=>absurd z (by simp)),r,q⟩
end
noncomputable def fY (sp:Sp) (dvs:List V) (E:XK) (t:TA):TE:=fun σ H Q=>t σ H fun vs H1=>sp (vs++dvs) H1 Q E
noncomputable def ip (C:GC) (m:Str) (sp:Sp) (dvs:List V) (E:XK) (ta:TE) (t:TA):TE:=fun σ H Q=>ta σ H fun x H1=>∃ a dx fs,x = .ref a/\H1 a=some (.ins C dx fs)/\fs.lookup m=none /\
 t σ H1 fun vs H2=>sp (x::(vs++dvs)) H2 Q E
noncomputable def wa (C:GC) (sp:Sp) (dvs:List V) (E:XK) (t:TA):TE:=fun σ H Q=>t σ H fun vs H1=>∀ x dx,H1 x=none->H1 dx=none->dx≠x ->
 sp (.ref x::(vs++dvs)) (upd (upd H1 dx (.own x)) x (.ins C dx [])) (fun v H2=>v = .non/\Q (.ref x) H2) E
def Binds (K:GP) (fd:Hz) (ps:List Str) (ds:List Da):Prop :=
 ∀ (s:Fk) (us:List Da),K.In s.heap->(us++ds).length=ps.length->BindsTo s fd ⟨us,[]⟩ (ps.zip (us++ds))
theorem Binds.all {K:GP} {fd:Hz} {ps:List Str} (h:∀ us:List Da,us.length=ps.length->bindArgs fd ⟨us,[]⟩=pure (ps.zip us)):Binds K fd ps []:=fun s us _ hl=>by
 rw [Iv] at hl |-
 exact .of_eq (h us hl)
def Passes (CX:eh) (X:Cx) (E:XK):Prop:=∀ (pins:List (GC × Obj)) (σ:St) (H:Hp) (s:Fk) (e:Da) (s':Fk),Inv X pins σ H s->CX X.stack H s E e s'->X.xe e s'
section
variable {X:Cx} {CX:eh} {k:Nat} {f C:GC} {fd:Hz} {ps:List Str} {sp:Sp} {dvs:List V} {ds:List Da} {E:XK} {x m:Str} {p pos apos:Pos} {e o:HZ} {es:List HZ} {ta:TE} {t:TA}
theorem fA {pins:List (GC × Obj)} {σ:St} {H:Hp} {s:Fk} {Q:VK} {us:List Da} {vs:List V} (F:bj X.prog X.w X.K X.mg X.base CX k f fd ps sp) (hr:aQ k X.A) (hb:Binds X.K fd ps ds) (hd:Vals dvs ds) (hx:Passes CX X E)
  (I:Inv X pins σ H s) (r:Vals vs us) (h:sp (vs++dvs) H Q E):wpAny (model X.prog X.w) X.A (call (.ref f) us) (EP X pins σ Q) X.xe s:=by
 have r2:Vals (vs++dvs) (us++ds):=r.append hd
 have hl:(us++ds).length=ps.length:=by rw [<- r2.length]; exact F.len _ _ _ _ h
 refine LN (Jy (F.run X.A X.stack s H ⟨us,[]⟩ (us++ds) (vs++dvs) Q E hr I.env0 (hb s us I.kIn hl) r2 h) fun r s' hq=>?_)
 cases r with
 | error e=>exact hx pins σ H s e s' I hq
 | ok fl =>
  cases fl with
  | ret u=>exact I.after hq
  | next=>exact IA hq
  | brk=>exact IA hq
  | cont=>exact IA hq
theorem oz (F:bj X.prog X.w X.K X.mg X.base CX k f fd ps sp) (hr:aQ k X.A) (hg:Gl X x) (hm:X.mg x=some (.ref f)) (hk:KY X.K (.ref f)=true) (hb:Binds X.K fd ps ds) (hd:Vals dvs ds) (hx:Passes CX X E)
  (ha:PA X (e::es) t) (hdb:(x == ("__debug__" : Str))=false:=by decide) (he:starEach (e::es) X.env=(false,eval e X.env)::starEach es X.env:=by rfl) (hpl:(backTo pos (starEach es X.env)).any (·.1)=false:=by rfl) :
  PE X (.Call (.Name x p) (e::es) [] pos) (fY sp dvs E t):=by
 intro pins s σ H Q I h
 refine HM (dn I hg hm ?_ hdb)
 refine L9 (h₀:=X.base) I.ok.mod.kin hk (ax (ha pos pins s σ H _ I h) fun us s1 ⟨vs,H1,I1,r,q⟩=>⟨I1.kIn,?_⟩) he hpl
 exact fA F hr hb hd hx I1 r q
theorem vB (F:bj X.prog X.w X.K X.mg X.base CX k f fd ps sp) (hr:aQ k X.A) (hg:Gl X x) (hm:X.mg x=some (.ref f)) (hk:KY X.K (.ref f)=true) (hb:Binds X.K fd ps ds) (hd:Vals dvs ds) (hx:Passes CX X E)
  (hdb:(x == ("__debug__" : Str))=false:=by decide):PE X (.Call (.Name x p) [] [] pos) (fY sp dvs E gk):=by
 intro pins s σ H Q I h
 refine HM (dn I hg hm ?_ hdb)
 exact Kz I.kIn hk (fA (us:=[]) F hr hb hd hx I .nil h)
theorem nU {pl:Sem Bool} (he:PE X o ta) (c:Cls X.K C) (hm:Meth X.K C m f) (F:bj X.prog X.w X.K X.mg X.base CX k f fd ps sp) (hr:aQ k X.A) (hb:Binds X.K fd ps ds) (hd:Vals dvs ds) (hx:Passes CX X E) (ha:PA X (e::es) t)
  (hst:starEach (e::es) X.env=(false,eval e X.env)::starEach es X.env:=by rfl) (hpl:(backTo pos (starEach es X.env)).any (·.1)=false:=by rfl)
  (ht:eval (.Call (.Attribute o m apos) (e::es) [] pos) X.env=(do
   let ov <- eval o X.env
   standAt apos.atName
   let (f,first) <- holding [ov] (getMethod ov m pl)
   callWith pos f first (backTo pos (starEach (e::es) X.env)) (backToKw pos (keywordEach [] X.env))):=by rfl) :
  PE X (.Call (.Attribute o m apos) (e::es) [] pos) (ip C m sp dvs E ta t):=by
 intro pins s σ H Q I h
 refine Kd (pl:=pl) (ax (he pins s σ H _ I h) fun u s1 ⟨x,H1,I1,rx,a,dx,fs,ex,ea,l,q⟩=>?_) ht
 subst ex
 obtain rfl:u=GL a:=rx
 refine fU I1 ea c hm l ?_
 refine L9 (first:=[.ref a]) (h₀:=X.base) I.ok.mod.kin hm.kp (ax (ha pos pins s1 σ H1 _ I1 q) fun us s2 ⟨vs,H2,I2,r,q2⟩=>⟨I2.kIn,?_⟩) hst hpl
 exact fA (us:=.ref a::us) (vs:=.ref a::vs) F hr hb hd hx I2 (.cons rfl r) q2
theorem vz {pl:Sem Bool} (he:PE X o ta) (c:Cls X.K C) (hm:Meth X.K C m f) (F:bj X.prog X.w X.K X.mg X.base CX k f fd ps sp) (hr:aQ k X.A) (hb:Binds X.K fd ps ds) (hd:Vals dvs ds) (hx:Passes CX X E)
  (ht:eval (.Call (.Attribute o m apos) [] [] pos) X.env=(do
   let ov <- eval o X.env
   standAt apos.atName
   let (f,first) <- holding [ov] (getMethod ov m pl)
   callWith pos f first (backTo pos (starEach [] X.env)) (backToKw pos (keywordEach [] X.env))):=by rfl) :
  PE X (.Call (.Attribute o m apos) [] [] pos) (ip C m sp dvs E ta gk):=by
 intro pins s σ H Q I h
 refine Kd (pl:=pl) (ax (he pins s σ H _ I h) fun u s1 ⟨x,H1,I1,rx,a,dx,fs,ex,ea,l,q⟩=>?_) ht
 subst ex
 obtain rfl:u=GL a:=rx
 refine fU I1 ea c hm l ?_
 exact Kz (first:=[.ref a]) I1.kIn hm.kp (fA (us:=[.ref a]) (vs:=[.ref a]) F hr hb hd hx I1 (.cons rfl .nil) q)
structure Mk (K:GP) (C f:GC):Prop where
 makes:PySem.W.makesIn K C=true
 init:Iu K (.ref C) "__init__" = some (some (.ref f))
 fn:Mi K (.ref f)=true
 kp:KY K (.ref C)=true
theorem vq {pins:List (GC × Obj)} {σ:St} {H:Hp} {s:Fk} {Q:VK} {us:List Da} {vs:List V} (M:Mk X.K C f) (F:bj X.prog X.w X.K X.mg X.base CX k f fd ps sp) (hr:aQ (k+1) X.A) (hb:Binds X.K fd ps ds) (hd:Vals dvs ds)
  (hx:Passes CX X E) (I:Inv X pins σ H s) (r:Vals vs us)
  (h:∀ x dx,H x=none->H dx=none->dx≠x->sp (.ref x::(vs++dvs)) (upd (upd H dx (.own x)) x (.ins C dx [])) (fun v H2=>v = .non/\Q (.ref x) H2) E) :
  wpAny (model X.prog X.w) X.A (call (.ref C) us) (EP X pins σ Q) X.xe s:=by
 have hq:=h (s.heap.objs.size+1) s.heap.objs.size (I.hok.fresh (IU _)) (I.hok.fresh (GF _)) (GX (Km _))
 have I2:=Inv.made (C:=C) I
 have r2:Vals (V.ref (s.heap.objs.size+1)::(vs++dvs)) (GL (s.heap.objs.size+1)::(us++ds)):=.cons rfl (r.append hd)
 have hl:(GL (s.heap.objs.size+1)::us++ds).length=ps.length:=by
  have e:=r2.length
  rw [F.len _ _ _ _ hq] at e
  exact e.symm
 refine LN (ux (f:=f) I.kIn M.makes M.init (beq_iff_eq.mp M.fn) (Jy (F.run _ X.stack _ _ ⟨GL (s.heap.objs.size+1)::us,[]⟩ (GL (s.heap.objs.size+1)::(us++ds)) _ _ E (hr.make C us [])
  (I2.env0.make C us []) (hb _ (GL (s.heap.objs.size+1)::us) I2.kIn hl) r2 hq) fun r s' hq'=>?_))
 cases r with
 | error e=>exact hx pins σ _ _ e s' I2 hq'
 | ok fl =>
  cases fl with
  | ret u =>
   obtain ⟨v,H',I3,rv,ev,q3⟩:=I2.after hq'
   subst ev
   exact ⟨rv,⟨V.ref (s.heap.objs.size+1),H',I3,rfl,q3⟩⟩
  | next=>exact IA hq'
  | brk=>exact IA hq'
  | cont=>exact IA hq'
theorem uM (M:Mk X.K C f) (F:bj X.prog X.w X.K X.mg X.base CX k f fd ps sp) (hr:aQ (k+1) X.A) (hg:Gl X x) (hm:X.mg x=some (.ref C)) (hb:Binds X.K fd ps ds) (hd:Vals dvs ds) (hx:Passes CX X E)
  (hdb:(x == ("__debug__" : Str))=false:=by decide):PE X (.Call (.Name x p) [] [] pos) (wa C sp dvs E gk):=by
 intro pins s σ H Q I h
 refine HM (dn I hg hm ?_ hdb)
 exact Kz I.kIn M.kp (vq (us:=[]) M F hr hb hd hx I .nil h)
end
section
variable {X:Cx} {CX:eh} {k:Nat} {f C:GC} {fd:Hz} {ps ks:List Str} {sp:Sp} {E:XK} {x m:Str} {p pos apos kpos:Pos} {e o:HZ} {es:List HZ} {kws:List Keyword} {te ta:TE} {t tk:TA} {nm:Option Str}
variable {g:List Da->List Da->List Da} {gV:List V->List V->List V}
end
structure ao (N P:List Str) (sc:KI):Prop where
 kind:sc.kind = .function
 co:sc.isCoroutine=false
 gen:sc.isGenerator=false
 nd:N.Nodup
 pre:N.take P.length=P
 par:∀ x∈P,sc.names.lookup x=some .local\/sc.names.lookup x=some .cell
 nofree:∀ y∈sc.names,y.2≠.free
theorem kR {kindOf:Str->Option LO} {x:Str}:∀ {binds:List (Str × Da)} {m:Str->Option Da},(∀ v,(x,v)∉binds)->bindL kindOf binds m x=m x
 | [],_,_=>rfl
 | (n,v)::r,m,h=>by
  unfold bindL
  rw [kR fun w hw=>h w (GJ _ hw)]
  split
  ·have:x≠n:=by rintro rfl; exact h v GY
   simp [this]
  ·rfl
theorem kI {kindOf:Str->Option LO} {x:Str}:∀ {binds:List (Str × Da)} {m:Str->Option Da},(∀ v,(x,v)∉binds)->bindC kindOf binds m x=m x
 | [],_,_=>rfl
 | (n,v)::r,m,h=>by
  unfold bindC
  rw [kI fun w hw=>h w (GJ _ hw)]
  split
  ·rfl
  ·have:x≠n:=by rintro rfl; exact h v GY
   simp [this]
theorem kx {kindOf:Str->Option LO} {x:Str} {v:Da}:∀ {P:List Str} {vs:List Da} {i:Nat} {m:Str->Option Da},P.Nodup->P[i]? = some x->vs[i]? = some v->kindOf x=some .local ->
  bindL kindOf (P.zip vs) m x=some v
 | [],_,_,_,_,h,_,_=>by simp at h
 | _::_,[],_,_,_,_,h,_=>by simp at h
 | p::P,w::vs,0,m,nd,h1,h2,hk=>by
  simp at h1 h2; subst h1; subst h2
  show bindL kindOf ((p,w)::P.zip vs) m p=_
  unfold bindL
  rw [kR fun v hv=>(HF.mp nd).1 (LG hv).1,if_pos hk]
  simp
 | p::P,w::vs,i+1,m,nd,h1,h2,hk=>by
  show bindL kindOf ((p,w)::P.zip vs) m x=_
  unfold bindL
  exact kx (i:=i) (HF.mp nd).2 (by simpa using h1) (by simpa using h2) hk
theorem kA {kindOf:Str->Option LO} {x:Str} {v:Da}:∀ {P:List Str} {vs:List Da} {i:Nat} {m:Str->Option Da},P.Nodup->P[i]? = some x->vs[i]? = some v->kindOf x≠some .local ->
  bindC kindOf (P.zip vs) m x=some v
 | [],_,_,_,_,h,_,_=>by simp at h
 | _::_,[],_,_,_,_,h,_=>by simp at h
 | p::P,w::vs,0,m,nd,h1,h2,hk=>by
  simp at h1 h2; subst h1; subst h2
  show bindC kindOf ((p,w)::P.zip vs) m p=_
  unfold bindC
  rw [kI fun v hv=>(HF.mp nd).1 (LG hv).1,if_neg hk]
  simp
 | p::P,w::vs,i+1,m,nd,h1,h2,hk=>by
  show bindC kindOf ((p,w)::P.zip vs) m x=_
  unfold bindC
  exact kA (i:=i) (HF.mp nd).2 (by simpa using h1) (by simpa using h2) hk
noncomputable def start (N:List Str) (vs:List V):St:=vs.map some++HH (N.length - vs.length) none
noncomputable def dW (CX:eh) (P:GQ) (w:Hh) (K:GP) (mg:Str->Option Da) (base:HY) (N:List Str) (qual:Str) (scope:KI) (f:GC) (cd:Da) (A:Hj) (outer:List Env) (s:Fk) (H:Hp) (E:XK):Cx where
 prog:=P
 w:=w
 K:=K
 mg:=mg
 base:=base
 A:=A.deeper (envOfC qual scope s.heap.objs.size f cd)
 N:=N
 s₀:=s
 H₀:=H
 env:=envOfC qual scope s.heap.objs.size f cd
 outer:=outer
 stack:=envOfC qual scope s.heap.objs.size f cd::outer
 ex:=[]
 calm:=true
 fn:=fun _=>true
 pn:=[]
 xe:=fun e s'=>wpAny (model P w) (A.deeper (envOfC qual scope s.heap.objs.size f cd)) (leaving (envOfC qual scope s.heap.objs.size f cd) e) (fun _ s''=>CX outer H s E e s'') (fun e' s''=>CX outer H s E e' s'') s'
theorem lY {sc:KI} {n:Nat} {x:Str} (h:sc.names.lookup x=some .cell):∃ c,(cellsFrom n sc.names []).lookup x=some c:=by
 have q:=Lz sc.names n [] (.inl h)
 exact Option.isSome_iff_exists.mp q
theorem rH {CX:eh} {P:GQ} {w:Hh} {K:GP} {mg:Str->Option Da} {base:HY} {N ps:List Str} {qual:Str} {scope:KI} {f:GC} {cd:Da} {A:Hj} {outer:List Env} {s s1:Fk} {H:Hp} {E:XK} {us:List Da} {vs:List V}
  (S:ao N ps scope) (hd:A.handled=none) (e0:iQ P w K mg base A outer s H) (hl:vs.length=ps.length) (r:Vals vs us)
  (x:InCallC s s.heap.objs.size (bindL (envOfC qual scope s.heap.objs.size f cd).kindOf (ps.zip us) fun _=>none) (cellsFrom (s.heap.objs.size+1) scope.names []) (bindC (envOfC qual scope s.heap.objs.size f cd).kindOf (ps.zip us) fun _=>none) s1) :
  Inv (dW CX P w K mg base N qual scope f cd A outer s H E) [] (start N vs) H s1:=by
 have hpl:ps.length<=N.length:=by have:=congrArg List.length S.pre; rw [Hw] at this; lia
 obtain ⟨h1,tk,rfl,hk⟩:=x.done
 have noA:∀ b:GC,b∉(dW CX P w K mg base N qual scope f cd A outer s H E).ex:=fun b z=>absurd (show b∈([]:List GC) from z) (by simp)
 refine ⟨⟨e0.mod,S.kind,rfl,rfl,GF _,fun y z c h1 h2=>?_,fun y hy=>?_,fun y c _ h=>?_,fun _=>hd,Around.frames_deeper e0.frames,.inr ⟨rfl,rfl⟩,fun b z=>absurd z (noA b),e0.bs,e0.bsz,fun b _ _=>noA b,fun b z=>absurd z (noA b),e0.funs,e0.frf⟩,
  rfl,e0.bare,Un.kept hk,⟨_,x.toInCall.ns,fun i y v h1 h2 h3=>?_⟩,fun y c h=>⟨_,x.cell y c h⟩,e0.hok.fresh (GF _),fun y c h=>?_,fun p hp=>absurd (show p∈([]:List (GC × Obj)) from hp) (by simp),e0.hok.kept hk,?_⟩
 ·exact name_of_addr x.apart (Jg h1) (Jg h2)
 ·have hy:scope.names.lookup y=some .cell\/scope.names.lookup y=some .free:=hy
  rcases hy with hy | hy
  ·exact lY hy
  ·exact absurd rfl (S.nofree _ (Jg hy))
 ·exact KP (x.above y c (Jg h))
 ·have hi:i < vs.length:=by
   unfold start at h2
   by_cases hi:i < vs.length
   ·exact hi
   ·rw [Im (by simpa using hi)] at h2
    rw [List.getElem?_replicate] at h2
    split at h2<;>cases h2
  have ha:vs[i]? = some v:=by
   unfold start at h2
   rw [IV (by simpa using hi),Hk] at h2
   cases e:vs[i]? with
   | none=>rw [e] at h2; cases h2
   | some a=>rw [e] at h2; cases h2; rfl
  obtain ⟨u,hu,rv⟩:=r.get ha
  have hp:ps[i]? = some y:=by
   rw [<- S.pre,IZ (by lia)]; exact h1
  have ndP:ps.Nodup:=by rw [<- S.pre]; exact S.nd.sublist (K8 _ _)
  refine ⟨u,rv,?_⟩
  rcases S.par y (GR hp) with k | k
  ·exact .inl ⟨k,kx ndP hp hu k⟩
  ·obtain ⟨c,e⟩:=lY (n:=s.heap.objs.size+1) k
   refine .inr ⟨.inl k,c,e,?_⟩
   have q:=x.cell y c e
   rw [kA ndP hp hu (by show scope.names.lookup y≠_; rw [k]; decide)] at q
   exact q
 ·exact e0.hok.fresh (KP (x.above y c (Jg h)))
 ·unfold start
  show _=N.length
  rw [GZ,FS,List.length_replicate]
  lia
theorem wj {CX:eh} {P:GQ} {w:Hh} {K:GP} {mg:Str->Option Da} {base:HY} {k:Nat} {f:GC} {name qual:Str} {params:Arguments} {body:List Il} {scope:KI} {dV kV doc pm cdv ct oc:Da} {an od:Option GC}
  {osl:Array (Option Da)} {N ps:List Str} {sp:Sp} (lk:K.lookup f=some ⟨oc,od,.func (PySem.W.fnOf name qual params body scope dV kV doc pm an cdv ct),osl⟩) (hcd:PySem.W.codeIn K cdv qual=true) (S:ao N ps scope)
  (len:∀ vs H Q E,sp vs H Q E->vs.length=ps.length)
  (hbody:∀ (A:Hj) (outer:List Env) (s:Fk) (H:Hp) (vs:List V) (Q:VK) (E:XK),aQ k (A.deeper (envOfC qual scope s.heap.objs.size f cdv))->sp vs H Q E ->
   ∃ t,c7 (dW CX P w K mg base N qual scope f cdv A outer s H E) body t/\t { nx:=fun _ H'=>Q .non H',rt:=Q } (start N vs) H) :
  bj P w K mg base CX (k+1) f (PySem.W.fnOf name qual params body scope dV kV doc pm an cdv ct) ps sp:=by
 refine ⟨len,fun A outer s H args us vs Q E hr e0 hb r hsp=>?_⟩
 have hl:=len _ _ _ _ hsp
 have KX:K.In s.heap:=e0.mod.kin.keeps fun b o e=>(e0.bs b o e).1
 have lim:s.heap.NoLimit:=e0.mod.nolimit.keeps fun b o e=>(e0.bs b o e).1
 have hkind:∀ y∈ps.zip us,scope.names.lookup y.1=some .local\/(scope.names.lookup y.1=some .cell/\((cellsFrom (s.heap.objs.size+1) scope.names []).lookup y.1).isSome=true):=fun ⟨n,v⟩ hy=>by
  rcases S.par n (LG hy).1 with q | q
  ·exact .inl q
  ·exact .inr ⟨q,Lz _ _ _ (.inl q)⟩
 refine codeAny_call_function hr.depth (KX _ _ lk) rfl S.co S.gen rfl (PySem.W.codeRec_of KX hcd) (hb _ _ _ _ ?_)
 refine wpAny_newFunctionEnv_cells S.kind hkind fun env he s1 x=>?_
 subst he
 refine ⟨lim.keeps x.toInCall.keep,codeAny_func ?_⟩
 obtain ⟨t,ht,hq⟩:=hbody A outer s H vs Q E (hr.deeper _) hsp
 have I:Inv (dW CX P w K mg base N qual scope f cdv A outer s H E) [] (start N vs) H s1:=rH S hr.hd e0 hl r x
 refine Ij (ht [] s1 (start N vs) H _ I hq) (fun fl s' hs=>?_) fun e s' hs=>hs
 have fin:∀ {σ':St} {H':Hp} {v:V} {u:Da},Inv (dW CX P w K mg base N qual scope f cdv A outer s H E) [] σ' H' s'->RelV v u->Q v H'->CE outer P w H s Q u s' :=
  fun {σ' H' v u} J rv q=>⟨v,H',J.os,J.bare,J.base,J.hok,rv,q⟩
 cases fl with
 | ret u =>
  obtain ⟨v,σ',H',J,rv,q⟩:=hs
  exact fin J rv q
 | next =>
  obtain ⟨σ',H',J,q⟩:=hs
  exact fin (v:=V.non) (u:=Hy) J rfl q
 | brk =>
  obtain ⟨_,_,_,q⟩:=hs
  exact IA q
 | cont =>
  obtain ⟨_,_,_,q⟩:=hs
  exact IA q
end L2
namespace L2
open PySem PySem.Spec PyProof.Rows
section
variable {X:Cx} {x:Str} {p pos:Pos} {e:HZ} {es:List HZ} {t:TA} {id T:String} {r:List V->Hp->VK->Prop}
noncomputable def EF (r:List V->Hp->VK->Prop) (t:TA):TE:=fun σ H Q=>t σ H fun vs H1=>r vs H1 Q
theorem ay (hc:cb X (.builtin id) r) (hg:Gl X x) (hm:X.mg x=none) (hv:bootBuiltins x=some (.builtin id)) (ha:PA X (e::es) t) (hn:x≠"__name__":=by decide) (hdb:(x == ("__debug__" : Str))=false:=by decide)
  (he:starEach (e::es) X.env=(false,eval e X.env)::starEach es X.env:=by rfl) (hpl:(backTo pos (starEach es X.env)).any (·.1)=false:=by rfl):PE X (.Call (.Name x p) (e::es) [] pos) (EF r t):=by
 intro pins s σ H Q I h
 refine HM (bX I hg hm hv ?_ hn hdb)
 exact Ke (ax (ha pos pins s σ H _ I h) fun us s1 ⟨vs,H1,I1,r1,q1⟩=>hc pins s1 σ H1 vs us Q I1 r1 q1) he hpl
theorem eY (hc:cb X (.type T) r) (hg:Gl X x) (hm:X.mg x=none) (hv:bootBuiltins x=some (.type T)) (ha:PA X (e::es) t) (hn:x≠"__name__":=by decide) (hdb:(x == ("__debug__" : Str))=false:=by decide)
  (he:starEach (e::es) X.env=(false,eval e X.env)::starEach es X.env:=by rfl) (hpl:(backTo pos (starEach es X.env)).any (·.1)=false:=by rfl):PE X (.Call (.Name x p) (e::es) [] pos) (EF r t):=by
 intro pins s σ H Q I h
 refine HM (bX I hg hm hv ?_ hn hdb)
 exact G9 (ax (ha pos pins s σ H _ I h) fun us s1 ⟨vs,H1,I1,r1,q1⟩=>hc pins s1 σ H1 vs us Q I1 r1 q1) he hpl
end
end L2
namespace HT
open PySem PyProof.Rows
section
open PySem.SeqAt
open PySem.AutoSeq1 (wpAny_loadPart')
open PySem.MeetsSeq PySem.MeetsSeq2 PySem.MeetsSeq3
end
section
variable {prog:GQ} {w:Hh} {A:Hj} {E:Da->Fk->Prop} {s:Fk}
noncomputable def sIx (n d:Nat):Option Int->Nat
 | none=>d
 | some v=>if v < 0 then (v+(n:Int)).toNat else min v.toNat n
theorem sIx_none (n d:Nat):sIx n d none=d:=rfl
theorem sIx_nat (n d k:Nat):sIx n d (some (k:Int))=min k n:=by
 show (if (k:Int) < 0 then ((k:Int)+(n:Int)).toNat else min (k:Int).toNat n)=min k n
 rw [if_neg (by lia),II]
end
end HT
namespace L2
open PySem PySem.Spec PyProof.Rows
noncomputable abbrev TO:=St->Hp->(Option Int->Hp->Prop)->Prop
def PO (X:Cx) (e:Option HZ) (t:TO):Prop :=
 ∀ (pins:List (GC × Obj)) (s:Fk) (σ:St) (H:Hp) (Q:Option Int->Hp->Prop),Inv X pins σ H s->t σ H Q ->
  wpAny (model X.prog X.w) X.A (evalPart e X.env) (fun u s'=>∃ o H',Inv X pins σ H' s'/\IsPart u o/\Q o H') X.xe s
noncomputable def xh:TO:=fun _ H Q=>Q none H
noncomputable def Ew (t:TE):TO:=fun σ H Q=>t σ H fun x H1=>∃ i,x = .int i/\Q (some i) H1
theorem intsAre_of {ns:List Int}:∀ {us:List Da},Vals (ns.map V.int) us->Jh us ns:=by
 induction ns with
 | nil=>intro us r; rw [JO] at r; cases r; exact .nil
 | cons n ns ih =>
  intro us r
  rw [G6] at r
  cases r with
  | cons r1 r2 =>
   obtain ⟨t,e⟩:=r1
   subst e
   exact .cons n t (ih r2)
section
variable {X:Cx} {e:HZ} {te:TE} {lo hi:Option HZ} {tl th:TO} {pos p2:Pos}
theorem cX:PO X none xh:=by
 intro pins s σ H Q I h
 rw [evalPart_none]
 exact Gc ⟨none,H,I,.none,h⟩
theorem cW (h:PE X e te):PO X (some e) (Ew te):=by
 intro pins s σ H Q I hw
 rw [evalPart_some]
 refine ax (h pins s σ H _ I hw) fun u s1 ⟨x,H1,I1,r1,q1⟩=>?_
 obtain ⟨i,rfl,q⟩:=q1
 obtain ⟨t,rfl⟩:=r1
 exact ⟨some i,H1,I1,.int i t,q⟩
def v9 (X:Cx) (r:V->Option Int->Option Int->Hp->VK->Prop):Prop :=
 ∀ (pins:List (GC × Obj)) (s:Fk) (σ:St) (H:Hp) (x:V) (v vl vu:Da) (lo hi:Option Int) (sl:GC) (Q:VK),Inv X pins σ H s->RelV x v->s.heap.IsSliceOf sl vl vu .none->IsPart vl lo->IsPart vu hi->r x lo hi H Q ->
  ∃ T id,typeLookup (.type T) "__getitem__" = pure (some (.builtin id))/\s.TypeIs v T/\wpAny (model X.prog X.w) X.A (getItem v (.ref sl)) (EP X pins σ Q) X.xe s
noncomputable def FI (r:V->Option Int->Option Int->Hp->VK->Prop) (te:TE) (tl th:TO):TE:=fun σ H Q=>te σ H fun x H1=>tl σ H1 fun l H2=>th σ H2 fun u H3=>r x l u H3 Q
theorem cH {r:V->Option Int->Option Int->Hp->VK->Prop} (hr:v9 X r) (he:PE X e te) (hl:PO X lo tl) (hu:PO X hi th):PE X (.Subscript e (.Slice lo hi none p2) pos) (FI r te tl th):=by
 intro pins s σ H Q I h
 refine Subscript_ (ax (he pins s σ H _ I h) fun v s1 ⟨x,H1,I1,r1,q1⟩=>?_)
 refine wpAny_Slice (ax (hl pins s1 σ H1 _ I1 q1) fun vl s2 ⟨l,H2,I2,pl,q2⟩=>ax (hu pins s2 σ H2 _ I2 q2) fun vu s3 ⟨u,H3,I3,pu,q3⟩=>?_)
 rw [evalPart_none]
 refine Gc ?_
 have I4:Inv X pins σ H3 { s3 with heap:=s3.heap.push { cls:=.type "slice",data:=.fields #[vl,vu,.none] } }:=I3.kept (t':=s3.toks) fun b ob q=>FM _ q
 obtain ⟨T,id,hT,ht,hg⟩:=hr pins { s3 with heap:=s3.heap.push { cls:=.type "slice",data:=.fields #[vl,vu,.none] } } σ H3 x v vl vu l u s3.heap.objs.size Q I4 r1 (Heap.IsSliceOf.new ..) pl pu q3
 show wpAny (model X.prog X.w) X.A (subscriptTail e (.Slice lo hi none p2) v (.ref s3.heap.objs.size)) (EP X pins σ Q) X.xe { s3 with heap:=s3.heap.push { cls:=.type "slice",data:=.fields #[vl,vu,.none] } }
 exact tail_any (ops:=[.ref s3.heap.objs.size,v]) ht hT hg (by with_unfolding_all rfl)
noncomputable def dU (xs:List V) (lo hi:Option Int):List V:=(xs.drop (HT.sIx xs.length 0 lo)).take (HT.sIx xs.length xs.length hi - HT.sIx xs.length 0 lo)
theorem nI (xs:List V) (lo hi:Option Int):(dU xs lo hi).length<=xs.length:=by
 unfold dU
 rw [Hw,Lq]
 lia
end
end L2
namespace L2
open PySem PySem.Spec PyProof.Rows
noncomputable def jE (n:Nat) (i:Int):Option Nat:=if 0<=i then (if i < n then some i.toNat else none) else if -(n:Int)<=i then some (i+n).toNat else none
noncomputable def eV {α:Type} (xs:List α) (i:Int):Option α:=(jE xs.length i).bind fun j=>xs[j]?
theorem nW {n:Nat} {i:Int} {j:Nat} (h:jE n i=some j):seqIndex? i n=some j/\j < n/\-(n:Int)<=i/\i < n:=by
 unfold jE at h
 by_cases h0:0<=i
 ·rw [if_pos h0] at h
  by_cases h1:i < n
  ·rw [if_pos h1] at h
   have e:i.toNat=j:=Hr h
   exact ⟨by rw [seqIndex_of h0 h1,e],by lia,by lia,h1⟩
  ·rw [if_neg h1] at h; cases h
 ·rw [if_neg h0] at h
  by_cases h1 : -(n:Int)<=i
  ·rw [if_pos h1] at h
   have e:(i+n).toNat=j:=Hr h
   exact ⟨by rw [seqIndex_neg (by lia) h1,e],by lia,h1,by lia⟩
  ·rw [if_neg h1] at h; cases h
theorem jV {α:Type} {xs:List α} {i:Int} {v:α} (h:eV xs i=some v):∃ j,seqIndex? i xs.length=some j/\xs[j]? = some v/\j < xs.length/\-(xs.length:Int)<=i/\i < xs.length:=by
 unfold eV at h
 cases e:jE xs.length i with
 | none=>rw [e] at h; cases h
 | some j =>
  rw [e] at h
  obtain ⟨h1,h2,h3,h4⟩:=nW e
  exact ⟨j,h1,h,h2,h3,h4⟩
theorem g7 {α:Type} {xs:List α} {j:Nat} {v:α} (h:xs[j]? = some v):eV xs (j:Int)=some v:=by
 have hj:j < xs.length:=(GD.mp h).1
 have e:jE xs.length (j:Int)=some j:=by
  unfold jE
  rw [if_pos (by lia),if_pos (by lia)]; simp
 unfold eV; rw [e]; exact h
def xK (b:HZ):Prop:=∀ o i,subscripted b false o i=operate [o,i] (getItem o i)
def rj (X:Cx) (r:R2):Prop :=
 ∀ (value slice:HZ) (pins:List (GC × Obj)) (s:Fk) (σ:St) (H:Hp) (x y:V) (v u:Da) (Q:VK),Inv X pins σ H s->RelV x v->RelV y u->r x y H Q ->
  subscripted slice false v u=operate [v,u] (getItem v u)->wpAny (model X.prog X.w) X.A (subscriptTail value slice v u) (EP X pins σ Q) X.xe s
def ER (X:Cx) (id:String) (r:V->List V->Hp->VK->Prop):Prop :=
 ∀ (pins:List (GC × Obj)) (s:Fk) (σ:St) (H:Hp) (x:V) (xs:List V) (v:Da) (us:List Da) (Q:VK),Inv X pins σ H s->RelV x v->Vals xs us->r x xs H Q ->
  wpAny (model X.prog X.w) X.A (call (.builtin id) (v::us)) (EP X pins σ Q) X.xe s
section
variable {X:Cx} {a b:HZ} {ta tb:TE} {pos:Pos}
theorem a8 {r:R2} (hr:rj X r) (ha:PE X a ta) (hb:PE X b tb) (hs:xK b):PE X (.Subscript a b pos) (vZ r ta tb):=by
 intro pins s σ H Q I h
 exact Subscript_ (uE ha hb I h fun v u s2 x y H2 I2 rx ry q=>hr a b pins s2 σ H2 x y v u Q I2 rx ry q (hs _ _))
noncomputable def zb (K:GP):R2:=fun x y H Q=>∃ p xs i v,x = .ref p/\y = .int i/\aq K H p xs/\eV xs i=some v/\Q v H
noncomputable def Fl (K:GP):R2:=fun x y H Q=>∃ p xs i v,x = .ref p/\y = .int i/\bQ K H p xs/\eV xs i=some v/\Q v H
noncomputable def Fm:R2:=fun x y H Q=>∃ z i c,x = .str z/\y = .int i/\z.length<=sizeLine/\eV z.cps.toList i=some c/\Q (.str ⟨#[c]⟩) H
theorem aZ:rj X (zb X.K):=by
 intro value slice pins s σ H x y v u Q I rx ry h hs
 obtain ⟨p,xs,i,z,rfl,rfl,hq,he,q⟩:=h
 cases rx
 obtain ⟨t,rfl⟩:=ry
 obtain ⟨its,r,pl,hz⟩:=I.list hq
 obtain ⟨j,h1,h2,h3,h4,h5⟩:=jV he
 obtain ⟨w,ew,rw'⟩:=r.get h2
 have hl:=r.length
 have hn:=fH
 have fin:EP X pins σ Q w s:=⟨z,H,I,rw',q⟩
 by_cases h0:0<=i
 ·have hj:i.toNat=j:=by
   rw [seqIndex_of h0 h5] at h1
   exact Hr h1
  exact item_listR pl.isList h0 (by lia) (by rw [hj]; simpa using ew) fin hs
 ·have hj:(i+(its.toArray.size:Int)).toNat=j:=by
   rw [seqIndex_neg (by lia) h4] at h1
   rw [GH,<- hl]
   exact Hr h1
  exact subscriptTail_builtinR (x:=w) pl.isList.typeIs slot_list_getitem.lookup
   (wpAny_getItem_list_neg (Q:=fun r s'=>r=w/\EP X pins σ Q r s') pl.isList (by lia) (by rw [GH]<;>lia) (by lia) (by rw [hj]; simpa using ew) ⟨rfl,fin⟩) hs
theorem gU:rj X (Fl X.K):=by
 intro value slice pins s σ H x y v u Q I rx ry h hs
 obtain ⟨p,xs,i,z,rfl,rfl,hq,he,q⟩:=h
 cases rx
 obtain ⟨t,rfl⟩:=ry
 obtain ⟨its,r,pl,hz⟩:=I.tuple hq
 obtain ⟨j,h1,h2,h3,h4,h5⟩:=jV he
 obtain ⟨w,ew,rw'⟩:=r.get h2
 have hl:=r.length
 have hn:=fH
 have fin:EP X pins σ Q w s:=⟨z,H,I,rw',q⟩
 exact subscriptTail_builtinR (x:=w) pl.typeIs slot_tuple_getitem.lookup
  (getItem_tuple (j:=j) (Q:=fun r s'=>r=w/\EP X pins σ Q r s') pl (by lia) (by lia) (by rw [GH,<- hl]; exact h1) (by simpa using ew) ⟨rfl,fin⟩) hs
theorem Cm:rj X Fm:=by
 intro value slice pins s σ H x y v u Q I rx ry h hs
 obtain ⟨z,i,c,rfl,rfl,hz,he,q⟩:=h
 obtain ⟨t,rfl⟩:=rx
 obtain ⟨t',rfl⟩:=ry
 obtain ⟨j,h1,h2,h3,h4,h5⟩:=jV he
 have hl:z.cps.toList.length=z.length:=by simp [K9]
 rw [hl] at h1 h4 h5
 have hn:=fH
 exact tail_any (typeIs_str s z t) slot_str_getitem.lookup (getItem_str (c:=c) (by
  have e1:decide (i < -(2 ^ 63:Int))=false:=decide_eq_false (by lia)
  have e2:decide (i ≥ 2 ^ 63)=false:=decide_eq_false (by lia)
  rw [e1,e2,Ma]) (by rw [h1]; simpa using h2) ⟨.str ⟨#[c]⟩,H,I.tok _,⟨_,rfl⟩,q⟩) hs
theorem pL (its:List Da) (n j:Nat) (u:Da):Hl (·.setIfInBounds j u) { cls:=.type "list",data:=.seq its.toArray n }={ cls:=.type "list",data:=.seq (its.set j u).toArray n }:=by
 simp [Hl]
theorem Inv.lst {pins:List (GC × Obj)} {σ:St} {H:Hp} {s:Fk} {p:GC} {xs:List V} (I:Inv X pins σ H s) (h:H p=some (.lst xs)) :
  ∃ (its:List Da) (n:Nat),Vals xs its/\s.heap.get? p=some { cls:=.type "list",data:=.seq its.toArray n }/\xs.length<=sizeLine:=by
 obtain ⟨z,its,n,r,e⟩:=I.hok p _ h
 exact ⟨its,n,r,e,z⟩
theorem Inv.lstUpd {pins:List (GC × Obj)} {σ:St} {H:Hp} {s:Fk} {p:GC} {xs ys:List V} {its its':List Da} {n n':Nat} {f:Obj->Obj} (I:Inv X pins σ H s) (h:H p=some (.lst xs))
  (ho:s.heap.get? p=some { cls:=.type "list",data:=.seq its.toArray n }) (hf:f { cls:=.type "list",data:=.seq its.toArray n }={ cls:=.type "list",data:=.seq its'.toArray n' }) (r:Vals ys its') (hz:ys.length<=sizeLine) (t:Nat) :
  Inv X pins σ (upd H p (.lst ys)) { s with heap:=s.heap.update p f,toks:=t }:=by
 have e:(s.heap.update p f).get? p=some { cls:=.type "list",data:=.seq its'.toArray n' }:=by
  rw [Ht f ho (by rw [hf]<;>rfl),hf]
 refine I.write (x:=p) (e:=p) (by rw [h]; trivial) (.inl rfl) (fun b u hb q=>(Hb _ _ (Ip hb)).trans q) ⟨_,e⟩ ?_
 exact ⟨hz,its',n',r,e⟩
noncomputable def DW:V->V->V->Hp->(Hp->Prop)->Prop:=fun o i v H Q=>∃ p xs k j,o = .ref p/\i = .int k/\H p=some (.lst xs)/\jE xs.length k=some j/\Q (upd H p (.lst (xs.set j v)))
theorem set_list:dI X DW:=by
 intro pins s σ H o i v ov iv u Q I ro ri rv h
 obtain ⟨p,xs,k,j,rfl,rfl,hp,hj,q⟩:=h
 cases ro
 obtain ⟨t,rfl⟩:=ri
 obtain ⟨its,n,r,ho,hz⟩:=I.lst hp
 obtain ⟨h1,h2,h3,h4⟩:=nW hj
 have hl:=r.length
 have hn:=fH
 have I':Inv X pins σ (upd H p (.lst (xs.set j v))) { s with heap:=s.heap.update p (Hl (·.setIfInBounds j u)) } :=
  I.lstUpd hp ho (pL its n j u) (r.set rv j) (by rw [List.length_set]; exact hz) s.toks
 by_cases h0:0<=k
 ·have hk:k.toNat=j:=by
   rw [seqIndex_of h0 h4] at h1
   exact Hr h1
  exact PySem.W.ki_setAt ho h0 (by lia) (by rw [GH,<- hl]; exact h4) (by rw [hk]; exact ⟨_,I',q⟩)
 ·have hk:(k+(its.toArray.size:Int)).toNat=j:=by
   rw [seqIndex_neg (by lia) h3] at h1
   rw [GH,<- hl]
   exact Hr h1
  exact PySem.W.ki_setBack ho (by lia) (by rw [GH,<- hl]; exact h3) (by lia) (by rw [hk]; exact ⟨_,I',q⟩)
theorem mI (lo hi:Option Int) (n:Nat):(sliceBounds lo hi none n).1=((HT.sIx n 0 lo:Nat):Int)/\(sliceBounds lo hi none n).2.1=((HT.sIx n n hi:Nat):Int)/\(sliceBounds lo hi none n).2.2=1:=by
 refine ⟨?_,?_,rfl⟩
 ·cases lo with
  | none=>simp [sliceBounds,HT.sIx]
  | some i =>
   simp only [sliceBounds,HT.sIx,Lr,show (1:Int) > 0 by decide,if_true]
   by_cases h:i < 0
   ·simp only [h,if_true]<;>lia
   ·simp only [h,if_false]<;>lia
 ·cases hi with
  | none=>simp [sliceBounds,HT.sIx]
  | some i =>
   simp only [sliceBounds,HT.sIx,Lr,show (1:Int) > 0 by decide,if_true]
   by_cases h:i < 0
   ·simp only [h,if_true]<;>lia
   ·simp only [h,if_false]<;>lia
theorem lp (its:List Da) (lo hi:Option Int):slicePick its.toArray lo hi none=((its.drop (HT.sIx its.length 0 lo)).take (HT.sIx its.length its.length hi - HT.sIx its.length 0 lo)).toArray:=by
 obtain ⟨h1,h2,h3⟩:=mI lo hi its.toArray.size
 unfold slicePick
 rw [h1,h2,h3]
 simp only [sliceRange_one,pick_run,GH]<;>rfl
noncomputable def za (K:GP):V->Option Int->Option Int->Hp->VK->Prop:=fun x lo hi H Q=>∃ a xs,x = .ref a/\aq K H a xs/\∀ p,H p=none->Q (.ref p) (upd H p (.lst (dU xs lo hi)))
theorem nM:v9 X (za X.K):=by
 intro pins s σ H x v vl vu lo hi sl Q I rx hs pl pu h
 obtain ⟨a,xs,rfl,hx,q⟩:=h
 cases rx
 obtain ⟨its,r,ht,hz⟩:=I.list hx
 have hlen:=r.length
 refine ⟨"list",_,slot_list_getitem.lookup,ht.isList.typeIs,?_⟩
 refine wpAny_getItem_list_slice ht.isList hs pl pu .none (by simp) ?_ (by rw [GH]<;>lia)
 rw [lp,<- hlen]
 refine ⟨.ref s.heap.objs.size,_,I.laid (t':=s.toks) (o:=.lst (dU xs lo hi)) (fun b ob q=>FM _ q) (GF _) ?_,rfl,q _ (I.hok.fresh (GF _))⟩
 exact ⟨Hm (nI xs lo hi) hz,_,0,(r.drop (HT.sIx xs.length 0 lo)).take (HT.sIx xs.length xs.length hi - HT.sIx xs.length 0 lo),GO _ rfl⟩
noncomputable def dB:V->Bool
 | .non=>true
 | .bl _=>true
 | .int _=>true
 | .str _=>true
 | _=>false
noncomputable def eR:V->V->Bool
 | .non,.non=>true
 | .bl a,.bl b=>a == b
 | .bl a,.int b=>(if a then 1 else 0) == b
 | .int a,.bl b=>a == (if b then 1 else 0)
 | .int a,.int b=>a == b
 | .str a,.str b=>a == b
 | _,_=>false
theorem rX {A:Hj} {s:Fk} {y x:V} {u v:Da} (ry:RelV y u) (rx:RelV x v) (fy:dB y=true) (fx:dB x=true):SeqAt.EqAt A s u v (eR y x):=by
 cases y with
 | non =>
  cases ry
  cases x with
  | non=>cases rx; exact Mq _
  | bl b=>cases rx; exact SeqAt.EqAt.none_bool b
  | int b=>obtain ⟨t,rfl⟩:=rx; exact SeqAt.EqAt.none_int b t
  | str b=>obtain ⟨t,rfl⟩:=rx; exact SeqAt.EqAt.none_str b t
  | _=>exact absurd (show false=true from fx) GU
 | bl a =>
  cases ry
  cases x with
  | non=>cases rx; exact SeqAt.EqAt.bool_none a
  | bl b=>cases rx; exact SeqAt.EqAt.bool_bool a b
  | int b=>obtain ⟨t,rfl⟩:=rx; exact SeqAt.EqAt.bool_int a b t
  | str b=>obtain ⟨t,rfl⟩:=rx; exact SeqAt.EqAt.bool_str a b t
  | _=>exact absurd (show false=true from fx) GU
 | int a =>
  obtain ⟨t',rfl⟩:=ry
  cases x with
  | non=>cases rx; exact SeqAt.EqAt.int_none a t'
  | bl b=>cases rx; exact SeqAt.EqAt.int_bool a t' b
  | int b=>obtain ⟨t,rfl⟩:=rx; exact SeqAt.EqAt.int_int a t' b t
  | str b=>obtain ⟨t,rfl⟩:=rx; exact L7 a t' b t
  | _=>exact absurd (show false=true from fx) GU
 | str a =>
  obtain ⟨t',rfl⟩:=ry
  cases x with
  | non=>cases rx; exact SeqAt.EqAt.str_none a t'
  | bl b=>cases rx; exact SeqAt.EqAt.str_bool a t' b
  | int b=>obtain ⟨t,rfl⟩:=rx; exact L8 a t' b t
  | str b=>obtain ⟨t,rfl⟩:=rx; exact SeqAt.EqAt.str_str a t' b t
  | _=>exact absurd (show false=true from fx) GU
 | _=>exact absurd (show false=true from fy) GU
theorem ba:cb X (.builtin "len") (fun xs H Q=>∃ p ys,xs=[.ref p]/\(aq X.K H p ys\/bQ X.K H p ys)/\Q (.int ys.length) H):=by
 intro pins s σ H xs us Q I r h
 obtain ⟨p,ys,rfl,hq,q⟩:=h
 obtain ⟨u,rfl,rx⟩:=vals1 r
 cases rx
 have hn:=fH
 rcases hq with hq | hq
 ·obtain ⟨its,r',pl,hz⟩:=I.list hq
  have hlen:=r'.length
  exact Calls.call_len_list pl.isList (by simp only [GH]<;>lia) ⟨.int ys.length,H,I.tok _,⟨s.toks+1,by rw [GH,hlen]⟩,q⟩
 ·obtain ⟨its,r',pl,hz⟩:=I.tuple hq
  have hlen:=r'.length
  exact len_tuple pl (by simp only [GH]<;>lia) ⟨.int ys.length,H,I.tok _,⟨s.toks+1,by rw [GH,hlen]⟩,q⟩
theorem g5:cb X (.builtin "len") (fun xs H Q=>∃ z,xs=[.str z]/\z.length<=sizeLine/\Q (.int z.length) H):=by
 intro pins s σ H xs us Q I r h
 obtain ⟨z,rfl,hz,q⟩:=h
 obtain ⟨u,rfl,t,rfl⟩:=vals1 r
 have hn:=fH
 exact len_str (by lia) ⟨.int z.length,H,I.tok _,⟨_,rfl⟩,q⟩
theorem mV:cb X (.type "list") (fun xs H Q=>∃ p ys,xs=[.ref p]/\(aq X.K H p ys\/bQ X.K H p ys)/\∀ l,H l=none->Q (.ref l) (upd H l (.lst ys))):=by
 intro pins s σ H xs us Q I r h
 obtain ⟨p,ys,rfl,hq,q⟩:=h
 obtain ⟨u,rfl,rx⟩:=vals1 r
 cases rx
 have fin:∀ (its:List Da),Vals ys its->ys.length<=sizeLine->∀ (h':HY) (c':Nat),(∀ b o',s.heap.get? b=some o'->h'.get? b=some o') ->
   h'.get? s.heap.objs.size=some { cls:=.type "list",dict:=none,data:=.seq its.toArray c',slots:=#[] }->EP X pins σ Q (.ref s.heap.objs.size) { s with heap:=h' }:=fun its r' hz h' c' kp e =>
  ⟨.ref s.heap.objs.size,_,I.laid (t':=s.toks) kp (GF _) (show aT X.prog X.w _ h' _ (.lst ys) from ⟨hz,its,c',r',e⟩),rfl,q _ (I.hok.fresh (GF _))⟩
 rcases hq with hq | hq
 ·obtain ⟨its,r',pl,hz⟩:=I.list hq
  have hlen:=r'.length
  obtain ⟨o,ho,hc,n,hd⟩:=pl.isList
  exact call_list_seq p (.inl rfl) ho hc hd (fun h' c' kp e=>fin its r' hz h' c' kp e) (by simp only [GH]<;>lia)
 ·obtain ⟨its,r',pl,hz⟩:=I.tuple hq
  have hlen:=r'.length
  obtain ⟨o,ho,hc,n,hd⟩:=pl
  exact call_list_seq p (.inr rfl) ho hc hd (fun h' c' kp e=>fin its r' hz h' c' kp e) (by simp only [GH]<;>lia)
def yp (K:GP) (T:String) (x:V) (H:Hp):Prop:=match x with
 | .str _=>T = "str"
 | .int _=>T = "int"
 | .ref p=>(T = "list"/\∃ xs,aq K H p xs)\/(T = "tuple"/\∃ o,K.lookup p=some o/\o.cls = .type "tuple"/\o.dict=none) \/
   (T = "dict"/\((∃ kvs,H p=some (.dK kvs))\/∃ kvs,H p=some (.dT kvs)))\/(T = "set"/\∃ S n,H p=some (.set S n))
 | _=>False
theorem sv {pins:List (GC × Obj)} {σ:St} {H:Hp} {s:Fk} {T:String} {x:V} {v:Da} (I:Inv X pins σ H s) (r:RelV x v) (ty:yp X.K T x H) :
  s.TypeIs v T/\∀ a,v = .ref a->∃ ob,s.heap.get? a=some ob/\ob.dict=none:=by
 cases x with
 | str z =>
  obtain ⟨t,rfl⟩:=r
  cases (show T = "str" from ty)
  exact ⟨typeIs_str s z t,fun _ e=>nomatch e⟩
 | int i =>
  obtain ⟨t,rfl⟩:=r
  cases (show T = "int" from ty)
  exact ⟨typeIs_int s i t,fun _ e=>nomatch e⟩
 | ref p =>
  cases r
  rcases ty with ⟨rfl,xs,hq⟩ | ⟨rfl,o,hk,hc,hd⟩ | ⟨rfl,hk⟩ | ⟨rfl,S,n,hk⟩
  ·obtain ⟨its,_,pl,_⟩:=I.list hq
   refine ⟨pl.isList.typeIs,fun a e=>?_⟩
   cases e
   obtain ⟨o,n,e,c,hd,_⟩:=pl
   exact ⟨o,e,hd⟩
  ·refine ⟨⟨o,I.kIn p o hk,hc⟩,fun a e=>?_⟩
   cases e
   exact ⟨o,I.kIn _ o hk,hd⟩
  ·have z:∃ o,s.heap.get? p=some o/\o.ExactDict:=by
    rcases hk with ⟨kvs,hk⟩ | ⟨kvs,hk⟩
    ·obtain ⟨_,_,_,_,o,_,_,e,ex,_⟩:=I.hok p _ hk
     exact ⟨o,e,ex⟩
    ·obtain ⟨_,_,_,_,o,_,_,e,ex,_⟩:=I.hok p _ hk
     exact ⟨o,e,ex⟩
   obtain ⟨o,e,ex⟩:=z
   refine ⟨⟨o,e,ex.1⟩,fun a e2=>?_⟩
   cases e2
   exact ⟨o,e,ex.2.1⟩
  ·obtain ⟨o,_,_,_,e,ex,_⟩:=I.hok p _ hk
   refine ⟨⟨o,e,ex.1⟩,fun a e2=>?_⟩
   cases e2
   exact ⟨o,e,ex.2.1⟩
 | _=>exact IA ty
noncomputable def E3 (K:GP) (T:String) (r:V->List V->Hp->VK->Prop) (to:TE):TE:=fun σ H Q=>to σ H fun x H1=>yp K T x H1/\r x [] H1 Q
noncomputable def Gw (K:GP) (T:String) (r:V->List V->Hp->VK->Prop) (to:TE) (t:TA):TE:=fun σ H Q=>to σ H fun x H1=>yp K T x H1/\t σ H1 fun xs H2=>r x xs H2 Q
variable {o e:HZ} {es:List HZ} {to:TE} {t:TA} {name:Str} {apos cpos:Pos} {T id:String} {r:V->List V->Hp->VK->Prop}
theorem tj (pa:PlainAttrs T) (slot:Slot T name id) (hty:typeOf (.builtin id)=pure (.type "method_descriptor")) (hm:ER X id r) (ho:PE X o to)
  (hbase:attributeBase o name X.env (eval o X.env)=eval o X.env:=by rfl) (hline:(apos.endLine == cpos.line)=true:=by rfl):PE X (.Call (.Attribute o name apos) [] [] cpos) (E3 X.K T r to):=by
 intro pins s σ H Q I h
 refine wpAny_Call_method0_late hbase hline (ax (ho pins s σ H _ I h) fun v s1 ⟨x,H1,I1,r1,ty,q1⟩=>?_)
 obtain ⟨h1,h2⟩:=sv I1 r1 ty
 exact ⟨T,id,pa,slot,hty,h1,h2,J2 rfl (PySem.evalArgs_none (hm pins s1 σ H1 x [] v [] Q I1 r1 .nil q1))⟩
theorem cG (pa:PlainAttrs T) (slot:Slot T name id) (hty:typeOf (.builtin id)=pure (.type "method_descriptor")) (hm:ER X id r) (ho:PE X o to) (ha:PA X (e::es) t)
  (hbase:attributeBase o name X.env (eval o X.env)=eval o X.env:=by rfl)
  (hfew:((backTo cpos (starEach (e::es) X.env)).all (fun x=>!x.1)&&(backToKw cpos (keywordEach [] X.env)).all (fun x=>x.1.isSome)
   && decide ((e::es).length+([]:List Keyword).length+(if ([]:List Keyword).isEmpty then 0 else 1) < 30))=true:=by rfl)
  (hline:(apos.endLine == cpos.line)=true:=by rfl) (hs:starEach (e::es) X.env=(false,eval e X.env)::starEach es X.env:=by rfl) (hplain:(backTo cpos (starEach es X.env)).any (·.1)=false:=by rfl) :
  PE X (.Call (.Attribute o name apos) (e::es) [] cpos) (Gw X.K T r to t):=by
 intro pins s σ H Q I h
 refine wpAny_Call_method_late hbase hfew hline rfl (ax (ho pins s σ H _ I h) fun v s1 ⟨x,H1,I1,r1,ty,q1⟩=>?_)
 obtain ⟨h1,h2⟩:=sv I1 r1 ty
 refine ⟨T,id,pa,slot,hty,h1,h2,?_⟩
 have hA:=ha cpos pins s1 σ H1 _ I1 q1
 rw [hs] at hA |-
 refine J2 (by show (false || (backTo cpos (starEach es X.env)).any (·.1))=false; rw [hplain]<;>rfl) (Kq ?_)
 exact ax hA fun us s2 ⟨vs,H2,I2,r2,q2⟩=>hm pins s2 σ H2 x vs v us Q I2 r1 r2 q2
end
end L2
namespace L2
open PySem PySem.Spec PyProof.Rows
def jw (X:Cx) (id:String) (r:V->List V->Hp->VK->Prop):Prop :=
 ∀ (pins:List (GC × Obj)) (s:Fk) (σ:St) (H:Hp) (x:V) (xs:List V) (v:Da) (us:List Da) (Q:VK),Inv X pins σ H s->RelV x v->Vals xs us->r x xs H Q ->
  wpAny (model X.prog X.w) X.A (call (.builtin id) (v::us)) (EP X pins σ Q) X.xe s
theorem Vals.one:∀ {x:V} {us:List Da},Vals [x] us->∃ u,us=[u]/\RelV x u
 | _,_,.cons r .nil=>⟨_,rfl,r⟩
theorem Vals.zero:∀ {us:List Da},Vals [] us->us=[]
 | _,.nil=>rfl
theorem Vals.dropLast {xs:List V} {us:List Da} (h:Vals xs us):Vals xs.dropLast us.dropLast:=by
 induction h with
 | nil=>exact .nil
 | cons r t ih =>
  cases t with
  | nil=>exact .nil
  | cons q t'=>exact .cons r ih
theorem Vals.eraseIdx:∀ {xs:List V} {us:List Da} (i:Nat),Vals xs us->Vals (xs.eraseIdx i) (us.eraseIdx i)
 | _,_,_,.nil=>.nil
 | _,_,0,.cons _ t=>t
 | _,_,i+1,.cons r t=>.cons r (Vals.eraseIdx i t)
theorem Vals.rep {xs:List V} {us:List Da} (h:Vals xs us):∀ k:Nat,Vals (HH k xs).flatten (HH k us).flatten
 | 0=>.nil
 | k+1=>by
  rw [Ji,Ji,I0,I0]
  exact Vals.append h (Vals.rep h k)
theorem qh {α:Type} (l:List α):l.eraseIdx (l.length - 1)=l.dropLast:=by
 induction l with
 | nil=>rfl
 | cons a r ih =>
  cases r with
  | nil=>rfl
  | cons b r =>
   have e:(a::b::r).length - 1=((b::r).length - 1)+1:=by
    have h1:(a::b::r).length=r.length+2:=rfl
    have h2:(b::r).length=r.length+1:=rfl
    lia
   rw [e,List.eraseIdx_cons_succ,ih]
   all_goals rfl
theorem foldl_rep (its:List Da):∀ (k:Nat) (acc:List Da),
  List.foldl (fun x1 x2=>x1++x2) acc.toArray (HH k its.toArray)=(acc++(HH k its).flatten).toArray
 | 0,acc=>by simp
 | k+1,acc=>by
  have e:acc.toArray++its.toArray=(acc++its).toArray:=by simp
  have e2:(acc++its)++(HH k its).flatten=acc++(HH (k+1) its).flatten:=by
   rw [Ji,I0,Iq]
  rw [<- e2,<- foldl_rep its k (acc++its),<- e,Ji,List.foldl_cons]
section
variable {X:Cx} {pins:List (GC × Obj)} {σ:St} {H:Hp} {s:Fk} {l b:GC} {xs ys zs:List V}
theorem Inv.lset {its its':List Da} {n:Nat} {f:Array Da->Array Da} {t':Nat} (I:Inv X pins σ H s) (hH:H l=some (.lst xs))
  (e:s.heap.get? l=some { cls:=.type "list",data:=.seq its.toArray n }) (hf:f its.toArray=its'.toArray) (hv:Vals ys its') (hz:ys.length<=sizeLine) :
  Inv X pins σ (upd H l (.lst ys)) { s with heap:=s.heap.update l (Hl f),toks:=t' }:=by
 have q:=PySem.IsL.update e f
 rw [hf] at q
 refine I.write (x:=l) (e:=l) (by rw [hH]; exact trivial) (.inl rfl) (fun b' u hb hu=>(Hb s.heap (Hl f) (Ip hb)).trans hu) ⟨_,q⟩ ?_
 exact ⟨hz,its',_,hv,q⟩
theorem Inv.lnew {its:List Da} {t':Nat} (I:Inv X pins σ H s) (hv:Vals ys its) (hz:ys.length<=sizeLine) :
  Inv X pins σ (upd H s.heap.objs.size (.lst ys)) { s with heap:=s.heap.push { cls:=.type "list",data:=.seq its.toArray },toks:=t' } :=
 I.laid (fun _ _ q=>FM _ q) (GF _) ⟨hz,its,0,hv,GO _ rfl⟩
theorem Inv.fresh (I:Inv X pins σ H s):H s.heap.objs.size=none:=I.hok.fresh (GF _)
theorem Inv.lstM (I:Inv X pins σ H s) (hH:H l=some (.lst xs)):xs.length<=sizeLine/\∃ (its:List Da) (n:Nat),Vals xs its/\xs.length=its.length/\s.heap.get? l=some { cls:=.type "list",data:=.seq its.toArray n }:=by
 obtain ⟨z,its,n,r,e⟩:=I.hok l _ hH
 exact ⟨z,its,n,r,r.length,e⟩
theorem iR {n:Nat} (h:n<=sizeLine):Builtin.List.listTooLong n=false:=by
 unfold Builtin.List.listTooLong
 exact decide_eq_false (by lia)
end
section
variable {X:Cx}
noncomputable def x8:V->List V->Hp->VK->Prop:=fun x vs H Q=>∃ l xs y,x = .ref l/\vs=[y]/\H l=some (.lst xs)/\xs.length < sizeLine/\Q .non (upd H l (.lst (xs++[y])))
theorem bM:jw X "list.append" x8:=by
 intro pins s σ H x vs v us Q I rx rv h
 obtain ⟨l,xs,y,rfl,rfl,hH,hz,q⟩:=h
 cases rx
 obtain ⟨u,rfl,ru⟩:=rv.one
 obtain ⟨z,its,n,r,hl,e⟩:=I.lstM hH
 refine Ka F.slot_list_append ⟨_,e,rfl⟩ F.entry_list_append (F.args_list_append_2 _ _) (PySem.list_append l its.toArray n u (by rw [GH]; lia)) ⟨e,?_⟩
 refine ⟨.non,_,I.lset (its':=its++[u]) hH e (by simp) (r.append (.cons ru .nil)) ?_,rfl,q⟩
 rw [GZ,Kf]
 lia
noncomputable def nX:V->List V->Hp->VK->Prop:=fun x vs H Q=>∃ l b xs zs,x = .ref l/\vs=[.ref b]/\H l=some (.lst xs)/\H b=some (.lst zs)/\xs.length+zs.length<=sizeLine/\Q .non (upd H l (.lst (xs++zs)))
theorem tI:jw X "list.extend" nX:=by
 intro pins s σ H x vs v us Q I rx rv h
 obtain ⟨l,b,xs,zs,rfl,rfl,hH,hB,hz,q⟩:=h
 cases rx
 obtain ⟨u,rfl,ru⟩:=rv.one
 cases ru
 obtain ⟨z,its,n,r,hl,e⟩:=I.lstM hH
 obtain ⟨z2,its2,n2,r2,dC,e2⟩:=I.lstM hB
 have hsz:its.toArray.size+its2.toArray.size<=sizeLine:=by rw [GH,GH]; lia
 have hlong:¬ (!its.toArray.isEmpty&&Builtin.List.listTooLong (its.toArray.size+its2.toArray.size))=true:=by
  rw [iR hsz,KZ]
  exact GU
 refine Ka F.slot_list_extend ⟨_,e,rfl⟩ F.entry_list_extend (F.args_list_extend_2 _ _)
  (AutoSeq1.list_extend_list_list_0 l its.toArray n b its2.toArray n2 hlong (by rw [GH]; lia) (by lia)) ⟨e,e2,?_⟩
 refine ⟨.non,_,I.lset (its':=its++its2) hH e (by simp) (r.append r2) ?_,rfl,q⟩
 rw [GZ]
 lia
noncomputable def E8:V->List V->Hp->VK->Prop:=fun x vs H Q=>∃ l xs y,x = .ref l/\vs=[]/\H l=some (.lst xs)/\xs[xs.length - 1]? = some y/\Q y (upd H l (.lst xs.dropLast))
theorem yX:jw X "list.pop" E8:=by
 intro pins s σ H x vs v us Q I rx rv h
 obtain ⟨l,xs,y,rfl,rfl,hH,hy,q⟩:=h
 cases rx
 have hus:=rv.zero
 subst hus
 obtain ⟨z,its,n,r,hl,e⟩:=I.lstM hH
 obtain ⟨u,hu,ru⟩:=r.get hy
 have hy':its.toArray[its.toArray.size - 1]? = some u:=by
  show its.toArray[its.length - 1]? = some u
  rw [<- Iw,<- hl]
  exact hu
 refine Ka F.slot_list_pop ⟨_,e,rfl⟩ F.entry_list_pop (F.args_list_pop_1 _) (MeetsSeq.list_pop_last l its.toArray n u hy' (by rw [GH]; lia)) ⟨e,?_⟩
 refine ⟨y,_,I.lset (its':=its.dropLast) hH e ?_ r.dropLast ?_,ru,q⟩
 ·show its.toArray.eraseIdxIfInBounds (its.toArray.size - 1)=its.dropLast.toArray
  rw [GH,Kb,qh]
 ·rw [List.length_dropLast]
  lia
noncomputable def EX:R2:=fun x y H Q=>∃ l b xs zs,x = .ref l/\y = .ref b/\H l=some (.lst xs)/\H b=some (.lst zs)/\xs.length+zs.length<=sizeLine/\∀ p,H p=none->Q (.ref p) (upd H p (.lst (xs++zs)))
theorem jd:bC X (binaryOp .Add) EX:=by
 intro pins s σ H x y v u Q I rx ry h
 obtain ⟨l,b,xs,zs,rfl,rfl,hH,hB,hz,q⟩:=h
 cases rx
 cases ry
 obtain ⟨z,its,n,r,hl,e⟩:=I.lstM hH
 obtain ⟨z2,its2,n2,r2,dC,e2⟩:=I.lstM hB
 refine PySem.P.add_list e e2 ?_ (by rw [GH,GH]; lia)
 have ea:its.toArray++its2.toArray=(its++its2).toArray:=by simp
 rw [ea]
 exact ⟨.ref _,_,I.lnew (t':=s.toks) (r.append r2) (by rw [GZ]; lia),rfl,q _ I.fresh⟩
noncomputable def FG:R2:=fun x y H Q=>∃ l k xs,x = .ref l/\y = .int k/\H l=some (.lst xs)/\-(2 ^ 63)<=k/\k < 2 ^ 63/\xs.length*k.toNat<=sizeLine /\
 ∀ p,H p=none->Q (.ref p) (upd H p (.lst (HH k.toNat xs).flatten))
theorem len_rep {α:Type} (xs:List α) (k:Nat):(HH k xs).flatten.length=k*xs.length:=by
 induction k with
 | zero=>simp
 | succ k ih=>rw [Ji,I0,GZ,ih,Nat.succ_mul,Nat.add_comm]
theorem me:bC X (binaryOp .Mult) FG:=by
 intro pins s σ H x y v u Q I rx ry h
 obtain ⟨l,k,xs,rfl,rfl,hH,h1,h2,hz,q⟩:=h
 cases rx
 obtain ⟨t,rfl⟩:=ry
 obtain ⟨z,its,n,r,hl,e⟩:=I.lstM hH
 have hlen:its.toArray.size*k.toNat<=sizeLine:=by rw [GH,<- hl]; exact hz
 have hcap:¬ its.toArray.size*k.toNat > (2 ^ 63 - 1) / 8:=by
  have:(sizeLine:Nat)<=(2 ^ 63 - 1) / 8:=by decide
  lia
 have hfit:¬ (!Builtin.List.listFitsIndex k)=true:=by
  rw [fitsIndex_both h1 h2]
  exact GU
 have hlong:¬ Builtin.List.listTooLong (its.toArray.size*k.toNat)=true:=by
  rw [iR hlen]
  exact GU
 have hnew:List.foldl (fun x1 x2=>x1++x2) #[] (HH (if its.toArray.isEmpty=true then 0 else k.toNat) its.toArray)=(HH k.toNat its).flatten.toArray:=by
  have f0:∀ m:Nat,List.foldl (fun x1 x2=>x1++x2) #[] (HH m its.toArray)=(HH m its).flatten.toArray:=fun m=>by
   have:=foldl_rep its m []
   rw [List.nil_append] at this
   exact this
  rw [f0]
  cases its with
  | nil=>simp
  | cons a r'=>rw [if_neg (by simp)]
 refine wpAny_binaryOp_repeat_ref (T:="list") (U:="int") (by decide) ⟨_,e,rfl⟩ (fun s'=>typeIs_int s' k t) noFill_list_mul F.fills_int_mul F.slot_int_rmul repeat_list F.slot_int_index.lookup
  (Ka F.slot_int_rmul (typeIs_int s k t) F.entry_int_rmul (F.args_int_rmul_2 _ _) (int___rmul___int_list k t l its.toArray n)
   ⟨e,rfl,⟨_,e,rfl⟩,Ka F.slot_list_mul ⟨_,e,rfl⟩ F.entry_list_mul (F.args_list_mul_2 _ _) (AutoListH.list___mul___list_int_3 l its.toArray n k t hfit hcap hlong) ⟨e,?_⟩⟩)
 rw [hnew]
 exact ⟨.ref _,_,I.lnew (t':=s.toks) (r.rep k.toNat) (by rw [len_rep,Nat.mul_comm]; exact hz),rfl,q _ I.fresh⟩
end
section
variable {prog:GQ} {w:Hh} {A:Hj} {E:Da->Fk->Prop} {s:Fk}
set_option maxRecDepth 100000 in
end
section
variable {X:Cx}
end
end L2
namespace Att
open PySem PySem.W PySem.Calls PyProof.Rows
theorem jh {P:Ia} {h:HY}:∀ (ns:List Int) (vs:List Da),WellAll P h vs (ns.map WData.int)->Jh vs ns:=by
 intro ns
 induction ns with
 | nil =>
  intro vs w
  rw [JO] at w
  cases w
  exact .nil
 | cons n ns ih =>
  intro vs w
  rw [G6] at w
  cases w with
  | cons a b =>
   cases a
   exact .cons _ _ (ih _ b)
theorem sX {l:OpenLaw} {n:Nat} (hn:l.most=some n) {P:Ia} {h:HY} {args:List WData} {vals:List Da}
  (hpre:l.row.toRowW.claim.pre args=true) (hwl:WellAll P h vals args) :
  ∃ a vs ns,vals=[GL a]/\args=[WData.list (ns.map WData.int)]/\h.get? a=some { cls:=.type "list",data:=.seq vs.toArray }/\Jh vs ns/\ns.length<=n:=by
 have hsh:WShape.hasAll [] args [.list .int]=true:=(pre_splitW hpre).1
 have hc:l.pre.holds [] { args:=args }=true:=(pre_splitW hpre).2
 obtain ⟨d,r,rfl,h1,h2⟩:=hasAllW_cons hsh
 obtain rfl:=hasAllW_nil h2
 obtain ⟨xs,rfl,h3⟩:=hasW_list h1
 obtain ⟨ns,rfl⟩:=items_int h3
 have hlen:ns.length<=n:=by
  unfold OpenLaw.pre at hc
  have h4:(WTm.not (.lt (.lit (.int (n:Int))) (.len (.arg 0)))).holds [] { args:=[.list (ns.map .int)] }=true:=by
   have h4:=(holds_andW hc).1
   rw [hn] at h4
   exact h4
  have h5:=condW_of h4 (w_not (w_lt w_lit (w_len_list (w_arg rfl))))
  rw [FS] at h5
  refine Nat.le_of_not_lt fun q=>?_
  have q':(n:Int) < ((ns.length:Nat):Int):=by lia
  first
   | (rw [decide_eq_true q'] at h5; exact absurd h5 (by decide))
   | (simp at h5; lia)
 cases hwl with
 | cons w1 w2 =>
  cases w2
  cases w1 with
  | list ho hall=>exact ⟨_,_,ns,rfl,rfl,ho,jh ns _ hall,hlen⟩
theorem sO (l:OpenLaw) (args:List WData):l.row.toRowW.claim.post args (.bool true) args=true :=
 postW_of (r:=l.row.toRowW) (X:=(true == true))
  (show WShape.has [] (.bool true) .bool=true by first | rfl | decide | simp [WShape.has,WShape.arms,WShape.armsAll])
  (show (WTm.eq .res (.lit (.bool true))).value [] { args:=args,res:=some (.bool true),after:=args }=some (.bool (true == true)) from w_eq_bool (w_res rfl) w_lit) rfl
theorem attach_call {l:OpenLaw} {n:Nat} {q:GQ} {loose:List Str} {XP:(Str->Option Da)->HY->Prop} {YP:Hh->HY->Prop} {d:DefRec}
  (hn:l.most=some n) (hdf:d.params.defaults=[])
  (call:∀ (w:Hh) (s₀ s₁:Fk) (mg mb:Str->Option Da) (fa:GC) (o:Obj) (pm cd doc:Da) (a:GC) (vs:List Da) (ns:List Int),
   Ground q loose [] XP w s₀ mg mb s₁.heap->YP w s₁.heap ->
   s₁.heap.get? fa=some o->o.data = .func (docDef d.name d.params d.body d.scope pm cd doc)->s₁.heap.CodeRec cd d.name->mg d.name=some (.ref fa) ->
   s₁.heap.get? a=some { cls:=.type "list",data:=.seq vs.toArray }->Jh vs ns->ns.length<=n->s₁.gens = #[] ->
   codeAny (model l.prog w) callerA (.call (.ref fa) ⟨[.ref a],[]⟩) (fun r s'=>r = .ok (.ret (.bool true))/\OldK s₁.heap s'.heap/\s'.os=s₁.os/\Lf s'.gens) s₁) :
  WalkO q loose XP YP l.row.toRowW d [] (fun f vs=>PySem.call f vs):=by
 intro w s₀ s₁ mg mb G Y fa o pm cd doc dV kV ho hd hcd hD hmg hg args vals as hpre hlay hrd hwl hlo
 obtain rfl:dV = .none:=Dflts.none hD hdf
 obtain rfl:kV = .none:=Dflts.noKw hD
 obtain ⟨a,vs,ns,rfl,rfl,hobj,hints,hlen⟩:=sX hn hpre hwl
 refine enter_call (Jy (call w s₀ s₁ mg mb fa o pm cd doc a vs ns G Y ho (fd_plain hd) hcd hmg hobj hints hlen hg) fun r s' hq=>?_)
 obtain ⟨rfl,h2,h3,h4⟩:=hq
 exact ⟨.inl ⟨.bool true,.bool true,[],rfl,fun _=>rfl,.bool true,sO l _,fun _=>⟨La,fun _ hm=>(nomatch hm)⟩⟩,h2,h3,h4⟩
section
variable {prog:GQ} {w:Hh} {A:Hj} {E:Da->Fk->Prop} {s:Fk} {K:LS}
noncomputable def ledger (h:HY) (L d:GC):List (GC × Obj):=(GK h.objs.size).filterMap fun a=>if a=L\/a=d then none else (h.get? a).map fun o=>(a,o)
end
end Att
namespace L2
open PySem PySem.Spec PyProof.Rows
theorem kr:∀ {vs:List Da} {ns:List Int},Jh vs ns->Vals (ns.map V.int) vs
 | _,_,.nil=>.nil
 | _,_,.cons n t h=>.cons ⟨t,rfl⟩ (kr h)
def oH (H:Hp):Prop:=∀ b,H b=none\/∃ o xs,H b=some (.frz o (.lst xs))
theorem vj {P:GQ} {w:Hh} {K:GP} {mg mb:Str->Option Da} {CX:eh} {k:Nat} {fa a:GC} {fd:Hz} {x:Str} {sp:Sp} {s₁:Fk} {vs:List Da} {ns:List Int}
  (KX:K.In s₁.heap) (hns:s₁.heap.Ns mainGlobals mg) (hb:s₁.heap.Ns builtinsNs mb) (hbb:∀ x:Str,x≠"__name__"->mb x=bootBuiltins x) (hlim:s₁.heap.NoLimit) (hg:s₁.gens = #[])
  (ha:s₁.heap.get? a=some { cls:=.type "list",data:=.seq vs.toArray }) (hi:Jh vs ns) (hl:ns.length<=sizeLine) (hr:aQ k callerA)
  (F:∀ base:HY,K.In base->base.Ns mainGlobals mg->bj P w K mg base CX k fa fd [x] sp) (hbind:∀ (s:Fk) (u:Da),BindsTo s fd ⟨[u],[]⟩ [(x,u)])
  (hsp:∀ H:Hp,oH H->aq K H a (ns.map V.int)->sp [.ref a] H (fun v _=>v = .bl true) fun _ _ _=>False)
  (hCX:∀ H e s',CX [] H s₁ (fun _ _ _=>False) e s'->False) :
  codeAny (model P w) callerA (.call (.ref fa) ⟨[.ref a],[]⟩) (fun r s'=>r = .ok (.ret (.bool true))/\OldK s₁.heap s'.heap/\s'.os=s₁.os/\Lf s'.gens) s₁:=by
 have rv:=kr hi
 have lenV:=hi.length
 -- from an abstract heap in which nothing but the script may be tracked
 have core:∀ H:Hp,oH H->aq K H a (ns.map V.int)->bK P w H s₁.heap->(∀ b,H b≠none->b=a)->(H a≠none->K.lookup a=none) ->
   codeAny (model P w) callerA (.call (.ref fa) ⟨[.ref a],[]⟩) (fun r s'=>r = .ok (.ret (.bool true))/\OldK s₁.heap s'.heap/\s'.os=s₁.os/\Lf s'.gens) s₁:=by
  intro H hO hS hok hA hK
  have base_of:∀ {b:GC} {o:Obj},s₁.heap.get? b=some o->H b=none->(gi s₁.heap H).get? b=some o:=fun e n=>uI e n
  have noA:∀ {b:GC} {o:Obj} {es:Array Jz} {ep:Nat},s₁.heap.get? b=some o->o.data = .dict es ep->H b=none:=fun {b o es ep} e d=>by
   cases q:H b with
   | none=>rfl
   | some u =>
    have e':b=a:=hA b (by rw [q]; simp)
    subst e'
    rw [ha] at e; cases e
    have d':Data.seq vs.toArray _=Data.dict es ep:=d
    cases d'
  have nsK:∀ {b:GC} {m:Str->Option Da},s₁.heap.Ns b m->(gi s₁.heap H).Ns b m:=fun {b m} ⟨o,es,ep,e,d,r⟩=>⟨o,es,ep,base_of e (noA e d),d,r⟩
  have hKb:K.In (gi s₁.heap H):=fun b o e=>base_of (KX b o e) (by
   cases q:H b with
   | none=>rfl
   | some u =>
    have e':b=a:=hA b (by rw [q]; simp)
    subst e'
    rw [hK (by rw [q]; simp)] at e; cases e)
  have hM:Mod K mg (gi s₁.heap H):=⟨hKb,nsK hns,⟨mb,nsK hb,hbb⟩,let ⟨mc,h1,h2⟩:=hlim; ⟨mc,nsK h1,h2⟩⟩
  have e0:iQ P w K mg (gi s₁.heap H) callerA [] s₁ H:=⟨rfl,hM,fun b o e=>x9 e,Nat.le_of_eq (rC _ _),trivial,fun b hb=>absurd (show b∈([]:List GC) from hb) (by simp),hok,.of_eq hg⟩
  refine Jy ((F _ hKb (nsK hns)).run callerA [] s₁ H ⟨[.ref a],[]⟩ [.ref a] [.ref a] _ _ hr e0 (hbind s₁ (.ref a)) (.cons rfl .nil) (hsp H hO hS)) fun r s' h=>?_
  cases r with
  | error e=>exact (hCX H e s' h).elim
  | ok fl =>
   cases fl with
   | next=>exact IA h
   | brk=>exact IA h
   | cont=>exact IA h
   | ret u =>
    obtain ⟨v,H',os,bare,un,hok',r',q⟩:=h
    have q':v = .bl true:=q
    subst q'
    obtain rfl:u=K4 true:=r'
    refine ⟨rfl,OldK.of_keep fun b o e=>?_,os,bare⟩
    cases q:H b with
    | none=>exact un.keep b o e q (by intro z; exact absurd (show b∈([]:List GC) from z) (by simp)) (by simp)
    | some u =>
     rcases hO b with z | ⟨ob,xs,z⟩
     ·rw [q] at z; cases z
     ·have z2:=un.frzs b ob _ z
      obtain ⟨e1,_⟩:=hok b _ z
      obtain ⟨e2,_⟩:=hok' b _ z2
      rw [e] at e1; cases e1
      exact e2
 cases hk:K.lookup a with
 | some o =>
  -- the script is one of the module's own objects
  have e:=KX a o hk
  rw [ha] at e
  cases e
  refine core (fun _=>none) (fun _=>.inl rfl) (.inr ⟨_,vs.toArray,_,hk,rfl,rfl,rfl,by rw [GH,lenV]; exact hl,by simpa using rv⟩) (fun b u z=>by have z':(none:Option HO)=some u:=z; cases z') (fun b z=>absurd rfl z) fun z=>absurd rfl z
 | none =>
  refine core (fun b=>if b=a then some (.frz { cls:=.type "list",data:=.seq vs.toArray } (.lst (ns.map V.int))) else none) (fun b=>?_) (.inl (.inr ⟨{ cls:=.type "list",data:=.seq vs.toArray },if_pos rfl⟩)) (fun b u z=>?_) (fun b z=>?_) fun _=>hk
  ·by_cases hb:b=a
   ·exact .inr ⟨_,_,if_pos hb⟩
   ·exact .inl (if_neg hb)
  ·by_cases hb:b=a
   ·have z':=(if_pos hb).symm.trans z
    cases z'
    subst hb
    exact ⟨ha,by rw [FS]; exact hl,vs,_,rv,ha⟩
   ·have z':=(if_neg hb).symm.trans z
    cases z'
  ·by_cases hb:b=a
   ·exact hb
   ·exact absurd (if_neg hb) z
end L2
namespace L2
open PySem PySem.Spec PyProof.Rows
noncomputable abbrev GB {K:GP} {h:HY} (_:K.In h):GP:=K
theorem walk_of {l:W.OpenLaw} {n k:Nat} {q:GQ} {loose:List Str} {XP:(Str->Option Da)->HY->Prop} {YP:Hh->HY->Prop} {d:DefRec} {K:Ia->GM} {CX:Hh->eh} {sp:Hh->Sp} {x:Str}
  (hn:l.most=some n) (hn2:n<=sizeLine) (hdf:d.params.defaults=[]) (hr:aQ k callerA)
  (hY:∀ (w:Hh) (h:HY),YP w h->(K w.params).In h)
  (F:∀ (w:Hh) (mg:Str->Option Da) (fa:GC) (h:HY),(K w.params).In h->h.Ns mainGlobals mg->mg d.name=some (.ref fa) ->
   ∃ fd:Hz,(∀ (s:Fk) (u:Da),BindsTo s fd ⟨[u],[]⟩ [(x,u)]) /\
    ∀ base:HY,(K w.params).In base->base.Ns mainGlobals mg->bj l.prog w (K w.params) mg base (CX w) k fa fd [x] (sp w))
  (hsp:∀ (w:Hh) (H:Hp) (a:GC) (ns:List Int),ns.length<=n->oH H->aq (K w.params) H a (ns.map V.int)->sp w [.ref a] H (fun v _=>v = .bl true) fun _ _ _=>False)
  (hCX:∀ (w:Hh) (H:Hp) (s:Fk) (e:Da) (s':Fk),CX w [] H s (fun _ _ _=>False) e s'->False) :
  W.WalkO q loose XP YP l.row.toRowW d [] (fun f vs=>PySem.call f vs):=by
 refine Att.attach_call hn hdf fun w s₀ s₁ mg mb fa o pm cd doc a vs ns G Y ho hd hcd hmg hobj hints hlen hg=>?_
 have KX:=hY w _ Y
 obtain ⟨fd,hb,hF⟩:=F w mg fa _ KX G.T.g hmg
 exact vj KX G.T.g G.T.b G.T.builtins G.T.nolimit hg hobj hints (Hm hlen hn2) hr hF hb (fun H hO hS=>hsp w H a ns hlen hO hS) fun H e s'=>hCX w H s₁ e s'
end L2
namespace L2
open PySem PySem.Spec PyProof.Rows
noncomputable def inClass (s:Il) (j:Nat):Il:=match s with
 | .ClassDef _ _ _ body _ _ _ _ _ _ _=>body.getD j (.Pass ⟨0,0,0,0⟩)
 | _=>.Pass ⟨0,0,0,0⟩
noncomputable def cq (s:Il):Arguments:=match s with
 | .FunctionDef _ a _ _ _ _ _ _ _ _=>a
 | _=>{ posonlyargs:=[],args:=[],vararg:=none,kwonlyargs:=[],kw_defaults:=[],kwarg:=none,defaults:=[] }
noncomputable def bJ (s:Il):List Il:=match s with
 | .FunctionDef _ _ b _ _ _ _ _ _ _=>b
 | _=>[]
noncomputable def ai (s:Il):KI:=match s with
 | .FunctionDef _ _ _ _ _ _ sc _ _ _=>sc
 | _=>{ kind:=.function,names:=[],isGenerator:=false,isCoroutine:=false }
noncomputable abbrev jK:eh:=fun _ _ _ _ _ _=>False
noncomputable abbrev E0:XK:=fun _ _ _=>False
structure aF (K:GM) (x qual:Str) (st:Il) (f:GC) (fd:Hz):Prop where
 ex:∃ (oc:Da) (od:Option GC) (kV doc pm:Da) (an:Option GC) (cdv ct:Da) (osl:Array (Option Da)),
  fd=Mn x qual (cq st) (bJ st) (ai st) .none kV doc pm an cdv ct/\K.lookup f=some ⟨oc,od,.func fd,osl⟩/\W.codeIn K cdv qual=true
 kp:W.keepIn K (.ref f)=true
section
variable {P:GQ} {w:Hh} {K:GM} {mg:Str->Option Da} {base:HY}
theorem aF.ok {x qual:Str} {st:Il} {f:GC} {fd:Hz} {N ps:List Str} {k:Nat} {sp:Sp} (F:aF K x qual st f fd) (S:ao N ps (ai st)) (len:∀ vs H Q E,sp vs H Q E->vs.length=ps.length)
  (hbody:∀ (cdv:Da) (A:Hj) (outer:List Env) (s:Fk) (H:Hp) (vs:List V) (Q:VK) (E:XK),aQ k (A.deeper (envOfC qual (ai st) s.heap.objs.size f cdv))->sp vs H Q E ->
   ∃ t,c7 (dW jK P w K mg base N qual (ai st) f cdv A outer s H E).nox (bJ st) t/\t { nx:=fun _ H'=>Q .non H',rt:=Q } (start N vs) H):bj P w K mg base jK (k+1) f fd ps sp:=by
 obtain ⟨oc,od,kV,doc,pm,an,cdv,ct,osl,rfl,lk,hcd⟩:=F.ex
 refine wj lk hcd S len fun A outer s H vs Q E hr hsp=>?_
 obtain ⟨t,h,q⟩:=hbody cdv A outer s H vs Q E hr hsp
 exact ⟨t,h.nox,q⟩
theorem aF.binds {x qual:Str} {st:Il} {f:GC} {fd:Hz} {ps:List Str} (F:aF K x qual st f fd)
  (h:∀ (kV doc pm:Da) (an:Option GC) (cdv ct:Da) (us:List Da),us.length=ps.length->bindArgs (Mn x qual (cq st) (bJ st) (ai st) .none kV doc pm an cdv ct) ⟨us,[]⟩=pure (ps.zip us)):Binds K fd ps []:=by
 obtain ⟨oc,od,kV,doc,pm,an,cdv,ct,osl,rfl,lk,hcd⟩:=F.ex
 exact .all (h kV doc pm an cdv ct)
theorem fun_mk {x qual:Str} {st:Il} {f:GC} {oc:Da} {od an:Option GC} {osl:Array (Option Da)} {kV doc pm cdv ct:Da} (l:K.lookup f=some ⟨oc,od,.func (Mn x qual (cq st) (bJ st) (ai st) .none kV doc pm an cdv ct),osl⟩)
  (c:W.codeIn K cdv qual=true) (k:W.keepIn K (.ref f)=true):aF K x qual st f (Mn x qual (cq st) (bJ st) (ai st) .none kV doc pm an cdv ct):=⟨⟨oc,od,kV,doc,pm,an,cdv,ct,osl,rfl,l,c⟩,k⟩
end
theorem DG {A:Hj} {k:Nat} (hr:aQ k A):A.units+1 < cLine:=JR (Nat.add_le_add_left (by decide:1<=64) _) hr.units
section
variable {X:Cx}
theorem pv (i:Nat) {x:Str} {pos:Pos} (hN:X.N[i]? = some x:=by rfl) (hv:kO X.env.scope x:=by first | exact Hc rfl | exact Ls (Hc rfl) | exact Ls (Ls rfl)) (hd:(x == ("__debug__" : Str))=false:=by decide)
  (hcd:(x == ("__classdict__" : Str))=false:=by decide):PE X (.Name x pos) (A5 i):=gL hN hv hd hcd
end
theorem aS {A B:Prop} (h:B):if false=true then A else B:=by
 rw [if_neg GU]
 exact h
theorem aW {A B:Prop} (h:A):if true=true then A else B:=by
 rw [if_pos rfl]
 exact h
theorem fV {c A B:Prop} [Decidable c] (h1:c->A) (h2:¬ c->B):if c then A else B:=by
 by_cases h:c
 ·rw [if_pos h]
  exact h1 h
 ·rw [if_neg h]
  exact h2 h
theorem jr {c A B:Prop} [Decidable c] (hc:c) (h:B):if (!decide c)=true then A else B:=by
 rw [decide_eq_true hc]
 exact aS h
def ae (H H':Hp):Prop:=∀ b o,H b=some o->H' b=some o
theorem ae.refl (H:Hp):ae H H:=fun _ _ h=>h
theorem ae.trans {H H1 H2:Hp} (a:ae H H1) (b:ae H1 H2):ae H H2:=fun c o h=>b c o (a c o h)
theorem ae.free {H H':Hp} (e:ae H H') {l:GC} (h:H' l=Li):H l=Li:=by
 cases q:H l with
 | none=>rfl
 | some o =>
  rw [e l o q] at h
  cases h
theorem ae.seq {K:GM} {H H':Hp} {a:GC} {xs:List V} (e:ae H H') (h:aq K H a xs):aq K H' a xs:=by
 rcases h with (h | ⟨o,h⟩) | h
 ·exact .inl (.inl (e _ _ h))
 ·exact .inl (.inr ⟨o,e _ _ h⟩)
 ·exact .inr h
end L2
set_option maxHeartbeats 4000000
namespace L2
open PySem PySem.Spec PyProof.Rows
section
variable {X:Cx}
def DZ (i j:Int):Prop:=0 < j/\j.natAbs.log2 < 9000
theorem eN:bC X (binaryOp .FloorDiv) (rI DZ fun i j=>.int (i / j)):=vQ fun i j _ _ _ _ _ hc q=>by
 have h1:(0:Int) < j:=hc.1
 exact floordiv_int (by lia) (by rw [Int.fdiv_eq_ediv_of_nonneg i (by lia)]; exact q) (.inl (PyProof.noPylong_of_log2 hc.2))
theorem u4 (hc:X.calm=true):cb X (.builtin "sum") (fun xs H Q=>∃ (p:GC) (ns:List Int),xs=[.ref p]/\aq X.K H p (ns.map V.int)/\Q (.int ns.sum) H):=by
 intro pins s σ H xs us Q I r h
 obtain ⟨p,ns,rfl,hl,q⟩:=h
 obtain ⟨u,rfl,ru⟩:=vals1 r
 cases ru
 obtain ⟨its,r',pl,hz⟩:=I.list hl
 have hi:Jh its ns:=intsAre_of r'
 have hall:AllInts its.toArray:=hi.allInts
 obtain ⟨ys,e⟩:=hall.items
 have hl':s.heap.IsList p (intItems ys):=by rw [<- e]; exact pl.isList
 refine sum_intListG (I.ok.hd hc) hl' fun h' tk t' hk=>?_
 have e2:preSum (numAt ys) ys.size=ns.sum:=by
  have e3:numsOf (intItems ys).toList=ns:=by rw [<- e]; exact hi.numsOf
  rw [preSum_eq,Hi (by simp),<- e3,nums_intItems]
 rw [e2]
 exact ⟨.int ns.sum,H,I.kept hk,⟨_,rfl⟩,q⟩
theorem nt:cb X (.builtin "isinstance") (fun xs H Q=>∃ x c cv t b,xs=[x,c]/\(∀ u,RelV c u->u=cv)/\dH X.K H x t/\W.kitOne X.K t cv=some b/\Q (.bl b) H):=by
 intro pins s σ H xs us Q I r h
 obtain ⟨x,c,cv,t,b,rfl,hcv,ty,e,q⟩:=h
 obtain ⟨u,w',rfl,r1,r2⟩:=vals2 r
 rw [hcv w' r2]
 exact rA I r1 ty e fun tk=>⟨.bl b,H,I.tok _,rfl,q⟩
theorem qJ {n:String}:∀ u,RelV (.ty n) u->u=IP n:=fun _ h=>h
noncomputable def gx (x:Str):It:=⟨fun i _=>i < x.cps.size,fun i H v H'=>H'=H/\∃ c,x.cps[i]? = some c/\v = .str ⟨#[c]⟩,fun i _=>i=x.cps.size⟩
theorem mZ {P:GQ} {w:Hh} {K:GM} {tg:HZ} (it:GC) (ty:String) (x:Str) (t:Tok)
  (W:∀ A:Hj,A.handled=none->Walks P w A it [it] [it] x.cps.size (SignAt x) (fun i h=>h.IsStrIter it ty x t i))
  (hty:["enumerate","zip","dict_itemiterator","dict_reverseitemiterator","odict_iterator","itertools.zip_longest","itertools.pairwise"].contains ty=false)
  (hself:∀ (A:Hj) (i:Nat) (s:Fk) (Q:Da->Fk->Prop) (E:Da->Fk->Prop),s.heap.IsStrIter it ty x t i->Q (.ref it) s->wpAny (model P w) A (pyIter (.ref it)) Q E s) :
  Turn P w K tg (gx x) [it] it (fun i h=>h.IsStrIter it ty x t i) where
 mem:=by simp
 obj:=fun i h st b hb=>by
  have e:b=it:=by simpa using hb
  subst e
  obtain ⟨o,e,c,d⟩:=st
  exact ⟨o,e,fun v z=>by rw [d] at z; cases z⟩
 keep:=fun i h h' st k=>by
  obtain ⟨o,e,c,d⟩:=st
  exact ⟨o,k it (by simp) o e,c,d⟩
 item:=by
  intro X hP hw hK hc i pins s σ H E I hf st hg
  subst hP hw hK
  obtain ⟨f0,f1,f2,f3,f4,f5⟩:=hf it (by simp)
  refine (W X.A (I.ok.hd hc)).item i s _ _ hg st fun v h' tk hv st' kk=>?_
  obtain ⟨c,u,ec,rfl⟩:=hv
  have I1:Inv X pins σ H { s with heap:=h',toks:=tk }:=I.turned (fun b o hb e=>kk b o (by simpa using hb) e) f0 f1 f3 f4 f5
  obtain ⟨o,e,cl,d⟩:=id st'
  exact ⟨_,rfl,lD (s:={ s with heap:=h',toks:=tk }) e cl d hty ⟨.str ⟨#[c]⟩,H,I1,⟨_,rfl⟩,⟨rfl,c,ec,rfl⟩,st',fun b hb=>(hf b hb).1⟩⟩
 done:=by
  intro X hP hw hK hc i pins s σ H E I hf st hg
  subst hP hw hK
  obtain ⟨f0,f1,f2,f3,f4,f5⟩:=hf it (by simp)
  have hi:i=x.cps.size:=hg
  subst hi
  exact (W X.A (I.ok.hd hc)).done s _ _ st fun h' tk kk=>⟨rfl,I.turned (fun b o hb e=>kk b o (by simpa using hb) e) f0 f1 f3 f4 f5⟩
 self:=hself
noncomputable def E5 (tl:TE):TI:=fun σ H R=>tl σ H fun v H1=>∃ x,v = .str x/\R (gx x) H1
theorem BH {tg l:HZ} {tl:TE} (hl:PE X l tl):PI X tg l (E5 tl):=by
 intro pins s σ H R I h
 refine ax (hl pins s σ H _ I h) fun v s1 ⟨y,H1,I1,r1,q1⟩=>?_
 obtain ⟨x,e,q⟩:=q1
 subst e
 obtain ⟨t,rfl⟩:=r1
 have fin:∀ (o:Obj) (ty:String),(s1.heap.push o).IsStrIter s1.heap.objs.size ty x t 0->Turn X.prog X.w X.K tg (gx x) [s1.heap.objs.size] s1.heap.objs.size (fun i h=>h.IsStrIter s1.heap.objs.size ty x t i) ->
   wb X pins σ tg R (.ref s1.heap.objs.size) { s1 with heap:=s1.heap.push o }:=fun o ty st T=>by
  refine ⟨s1.heap.objs.size,[s1.heap.objs.size],_,_,H1,rfl,I1.kept (t':=s1.toks) fun b o e=>FM _ e,T,st,fun b hb=>?_,q⟩
  have e:b=s1.heap.objs.size:=by simpa using hb
  subst e
  exact I1.fpOk (GF _) (I1.hok.fresh (GF _))
 cases ha:x.cps.all (· < 128)
 ·exact wpAny_pyIter_wide ha (fin _ "str_iterator" ⟨_,GO _ rfl,rfl,rfl⟩ (mZ _ _ x t (fun A' hA=>Walks.strWide hA _ x t) (by decide) fun _ _ _ _ _ st h=>wpAny_pyIter_striter_wide st h))
 ·exact wpAny_pyIter_ascii ha (fin _ "str_ascii_iterator" ⟨_,GO _ rfl,rfl,rfl⟩ (mZ _ _ x t (fun A' hA=>Walks.strAscii hA _ x t) (by decide) fun _ _ _ _ _ st h=>wpAny_pyIter_striter_ascii st h))
theorem wW {x:Str} {g:TG} {tb:TS} {D:Ends} {σ:St} {H:Hp} (Pv:Nat->St->Hp->Prop) (h0:Pv 0 σ H)
  (hs:∀ i c σ H,x.cps[i]? = some c->Pv i σ H->g (.str ⟨#[c]⟩) σ H fun σ2 H2=>tb { D with nx:=Pv (i+1),ct:=Pv (i+1),bk:=D.nx } σ2 H2) (hd:∀ σ H,Pv x.cps.size σ H->D.nx σ H) :
  ∃ W:Nat->Nat->St->Hp->Prop,(∃ m,W 0 m σ H)/\∀ i m σ H,W i m σ H ->
   ((gx x).stop i H/\D.nx σ H)\/((gx x).go i H/\∃ N:St->Hp->Prop,(∀ σ' H',N σ' H'->∃ m',m' < m/\W (i+1) m' σ' H')/\∀ v H',(gx x).yld i H v H'->g v σ H' fun σ2 H2=>tb { D with nx:=N,ct:=N,bk:=D.nx } σ2 H2):=by
 refine ⟨fun i m σ H=>m=x.cps.size - i/\i<=x.cps.size/\Pv i σ H,⟨x.cps.size,by simp,GG _,h0⟩,?_⟩
 rintro i m σ H ⟨rfl,hi,p⟩
 by_cases hlt:i < x.cps.size
 ·refine .inr ⟨hlt,Pv (i+1),fun σ' H' p'=>⟨x.cps.size - (i+1),by lia,rfl,hlt,p'⟩,fun v H' y=>?_⟩
  obtain ⟨e,c,ec,ev⟩:=y
  subst e ev
  exact hs i c σ _ ec p
 ·have e:i=x.cps.size:=by lia
  subst e
  exact .inl ⟨rfl,hd σ H p⟩
noncomputable def Fd:V->Option Int->Option Int->Hp->VK->Prop:=fun v lo hi H Q=>∃ x,v = .str x/\x.length<=sizeLine/\Q (.str (Txt.slice x lo hi)) H
theorem ft:v9 X Fd:=by
 intro pins s σ H v vv vl vu lo hi sl Q I rx hs pl pu h
 obtain ⟨x,rfl,hz,q⟩:=h
 obtain ⟨t,rfl⟩:=rx
 refine ⟨"str",_,F.slot_str_getitem.lookup,typeIs_str _ _ _,?_⟩
 have fin:∀ (l u:Option (Int × Tok)),s.heap.IsSlice sl l u none->l.map (·.1)=lo->u.map (·.1)=hi->wpAny (model X.prog X.w) X.A (getItem (.str x t) (.ref sl)) (EP X pins σ Q) X.xe s:=fun l u hsl el eu=>by
  refine wpAny_getItem_str_slice (l:=l) (u:=u) (st:=none) hsl rfl ?_
  subst el eu
  exact post_val_or_str ⟨Hm (Txt.slice_le x _ _) hz,fun t' k=>⟨.str (Txt.slice x (l.map (·.1)) (u.map (·.1))),H,I.tok _,⟨t',rfl⟩,q⟩⟩
 cases pl with
 | none =>
  cases pu with
  | none=>exact fin none none hs rfl rfl
  | int j uj=>exact fin none (some (j,uj)) hs rfl rfl
 | int i ui =>
  cases pu with
  | none=>exact fin (some (i,ui)) none hs rfl rfl
  | int j uj=>exact fin (some (i,ui)) (some (j,uj)) hs rfl rfl
theorem i4 {ys:List Str}:∀ {us:List Da},Vals (ys.map V.str) us->StrsAre us ys:=by
 induction ys with
 | nil=>intro us r; rw [JO] at r; cases r; exact .nil
 | cons n ns ih =>
  intro us r
  rw [G6] at r
  cases r with
  | cons h t =>
   obtain ⟨tk,rfl⟩:=h
   exact .cons n tk (ih t)
noncomputable def rJoin (K:GM):V->List V->Hp->VK->Prop:=fun x vs H Q=>∃ sep p ys,x = .str sep/\vs=[.ref p]/\aq K H p (ys.map V.str)/\(ys.map (·.length)).sum+ys.length*sep.length<=16777216/\Q (.str (Txt.join sep ys)) H
theorem nP:jw X "str.join" (rJoin X.K):=by
 intro pins s σ H x xs v us Q I rx rs h
 obtain ⟨sep,p,ys,rfl,rfl,hl,hok,q⟩:=h
 obtain ⟨t,rfl⟩:=rx
 obtain ⟨u,rfl,ru⟩:=vals1 rs
 cases ru
 obtain ⟨its,r',pl,hz⟩:=I.list hl
 exact join_list pl.isList (i4 r') hok fun t' k=>⟨.str (Txt.join sep ys),H,I.tok _,⟨_,rfl⟩,q⟩
end
theorem kZ {α β:Type} {l:List α} {f:α->β->Sem (ForInStep β)} (g:β->α->β) (c:β) (h:∀ x∈l,∀ c,f x c=pure (.yield (g c x))) :
  forIn l c f=pure (l.foldl g c):=by
 induction l generalizing c with
 | nil=>rfl
 | cons x l ih =>
  rw [KA,h x GY,pure_bind]
  exact ih _ fun y hy=>h y (GJ _ hy)
noncomputable def mX (cells:List (Str × GC)) (names:List (Str × LO)) (acc:List (Str × GC)):List (Str × GC) :=
 names.foldl (fun cs y=>if y.2 == .free then (y.1,(cells.lookup y.1).getD 0)::cs else cs) acc
theorem qF {scope:KI} {env:Env} (h:∀ y∈scope.names,y.2 = .free->∃ c,env.cells.lookup y.1=some c):closureFor scope env=pure (mX env.cells scope.names []):=by
 simp only [closureFor]
 rw [kZ (fun cs y=>if y.2 == .free then (y.1,(env.cells.lookup y.1).getD 0)::cs else cs) [] fun x hx c=>?_]
 ·rfl
 ·obtain ⟨n,k⟩:=x
  by_cases hk:k = .free
  ·subst hk
   obtain ⟨a,ea⟩:=h (n,.free) hx rfl
   have ea':env.cells.lookup n=some a:=ea
   simp only [beq_self_eq_true,if_true,cellOf,ea',pure_bind,Kn]
  ·have hb:(k == Ku)=false:=by simpa using hk
   simp only [hb,Hg,if_false]
theorem lookup_mem {α:Type}:∀ {l:List (Str × α)} {x:Str} {c:α},l.lookup x=some c->(x,c)∈l
 | [],_,_,h=>by simp at h
 | (y,d)::r,x,c,h=>by
  rw [Lu] at h
  cases hx:x == y with
  | true =>
   rw [hx] at h
   have e:x=y:=by simpa using hx
   subst e
   cases h
   exact GY
  | false =>
   rw [hx] at h
   exact GJ _ (lookup_mem h)
theorem mem_lookup {α:Type}:∀ {l:List (Str × α)} {x:Str} {c:α},(x,c)∈l->∃ d,l.lookup x=some d
 | [],_,_,h=>by cases h
 | (y,d)::r,x,c,h=>by
  rw [Lu]
  cases hx:x == y with
  | true=>exact ⟨d,rfl⟩
  | false =>
   rcases GI.mp h with e | h
   ·cases e; simp at hx
   ·exact mem_lookup h
theorem iT {cells:List (Str × GC)}:∀ {names:List (Str × LO)} {acc:List (Str × GC)} {p:Str × GC},p∈mX cells names acc↔p∈acc\/((p.1,Ku)∈names/\p.2=(cells.lookup p.1).getD 0)
 | [],acc,p=>by simp [mX]
 | (n,k)::r,acc,p=>by
  show p∈mX cells r (if k == .free then (n,(cells.lookup n).getD 0)::acc else acc)↔_
  rw [iT (names:=r)]
  by_cases hk:k = .free
  ·subst hk
   simp only [beq_self_eq_true,if_true,GI]
   constructor
   ·rintro ((rfl | h) | h)
    ·exact .inr ⟨.inl rfl,rfl⟩
    ·exact .inl h
    ·exact .inr ⟨.inr h.1,h.2⟩
   ·rintro (h | ⟨h | h,e⟩)
    ·exact .inl (.inr h)
    ·obtain ⟨a,b⟩:=p
     cases h
     exact .inl (.inl (by rw [show b=_ from e]))
    ·exact .inr ⟨h,e⟩
  ·have hb:(k == Ku)=false:=by simpa using hk
   simp only [hb,Hg,if_false,GI]
   constructor
   ·rintro (h | h)
    ·exact .inl h
    ·exact .inr ⟨.inr h.1,h.2⟩
   ·rintro (h | ⟨h | h,e⟩)
    ·exact .inl h
    ·cases h; exact absurd rfl hk
    ·exact .inr ⟨h,e⟩
theorem e7 {scope:KI} {env:Env} {x:Str} {k:LO} (h:(relabel scope env).names.lookup x=some k):∃ k',(x,k')∈scope.names/\(k'=k\/(k' = .free/\k = .cell)):=by
 have m:=lookup_mem h
 unfold relabel at m
 obtain ⟨⟨n,k'⟩,hm,e⟩:=HV.mp m
 dsimp only at e
 split at e
 ·rename_i hc
  rw [GN,GN] at hc
  have e1:n=x:=congrArg Mb e
  have e2:NameKind.cell=k:=congrArg Prod.snd e
  subst e1 e2
  exact ⟨k',hm,.inr ⟨by simpa using hc.1.1,rfl⟩⟩
 ·have e1:n=x:=congrArg Mb e
  have e2:k'=k:=congrArg Prod.snd e
  subst e1 e2
  exact ⟨k',hm,.inl rfl⟩
noncomputable def bU (X:Cx) (scope:KI) (N:List Str) (cl:List (Str × GC)) (C:GC) (s:Fk) (H:Hp) (fp:List GC) (xe:Da->Fk->Prop):Cx :=
 { X with N:=N,s₀:=s,H₀:=H,env:=compEnvC scope cl C X.env,outer:=X.stack,stack:=X.stack,ex:=fp,fn:=fun _=>false,pn:=[],xe:=xe }
inductive dS (X:Cx) (scope:KI):List Str->List (Option Nat)->Prop where
 | nil:dS X scope [] []
 | own {x:Str} {N:List Str} {ix:List (Option Nat)} (r:dS X scope N ix):dS X scope (x::N) (none::ix)
 | cap {x:Str} {j:Nat} {N:List Str} {ix:List (Option Nat)} (h1:X.N[j]? = some x) (h2:X.env.kindOf x=some .cell) (h3:(relabel scope X.env).names.lookup x=some .cell) (r:dS X scope N ix):dS X scope (x::N) (some j::ix)
noncomputable def dF (ix:List (Option Nat)) (σ:St):St:=ix.map fun o=>match o with
 | none=>none
 | some j=>(σ[j]?).getD none
theorem dS.get {X:Cx} {scope:KI} {σ:St}:∀ {N:List Str} {ix:List (Option Nat)},dS X scope N ix->∀ (i:Nat) (x:Str) (v:V),N[i]? = some x->(dF ix σ)[i]? = some (some v) ->
  ∃ j:Nat,X.N[j]? = some x/\σ[j]? = some (some v)/\X.env.kindOf x=some .cell/\(relabel scope X.env).names.lookup x=some .cell
 | _,_,.nil,i,x,v,h,_=>by simp at h
 | _,_,.own r,0,x,v,_,h=>by simp [dF] at h
 | _,_,.own r,i+1,x,v,h1,h2=>r.get i x v (by simpa using h1) (by simpa [dF] using h2)
 | _,_,.cap (j:=j) e1 e2 e3 r,0,x,v,h1,h2=>by
  simp at h1
  subst h1
  refine ⟨j,e1,?_,e2,e3⟩
  simp only [dF,G6,IH,Mg] at h2
  cases q:σ[j]? with
  | none=>rw [q] at h2; cases h2
  | some o=>rw [q] at h2; simp only [Kn] at h2; rw [h2]
 | _,_,.cap e1 e2 e3 r,i+1,x,v,h1,h2=>r.get i x v (by simpa using h1) (by simpa [dF] using h2)
theorem dS.length {X:Cx} {scope:KI} {N:List Str} {ix:List (Option Nat)} (h:dS X scope N ix):ix.length=N.length:=by
 induction h with
 | nil=>rfl
 | own _ ih=>simp [ih]
 | cap _ _ _ _ ih=>simp [ih]
def Ext (a b:St):Prop:=b.length=a.length/\∀ (i:Nat) v,a[i]? = some (some v)->b[i]? = some (some v)
theorem Ext.set {a:St} {i:Nat} {v:V} (h:a[i]? = some none):Ext a (a.set i (some v)):=by
 refine ⟨by simp,fun j w e=>?_⟩
 by_cases hj:j=i
 ·subst hj; rw [h] at e; cases e
 ·rw [JE (Ip hj)]; exact e
theorem Ext.trans {a b c:St} (h:Ext a b) (h':Ext b c):Ext a c:=⟨h'.1.trans h.1,fun i v e=>h'.2 i v (h.2 i v e)⟩
def tL (X:Cx) (ifs:List HZ) (t:TT):Prop :=
 ∀ (pins:List (GC × Obj)) (s:Fk) (σ:St) (H:Hp) (Q:Bool->Hp->Prop),Inv X pins σ H s->t σ H Q ->
  wpAny (model X.prog X.w) X.A (forIn ifs true fun c r=>if r=true then do let ok <- isTrue c X.env (eval c X.env); pure (KB ok) else pure (KB r)) (TP X pins σ Q) X.xe s
noncomputable def wC:TT:=fun _ H Q=>Q true H
theorem bx {X:Cx}:tL X [] wC:=fun pins s σ H Q I h=>wpAny_tests_nil ⟨H,I,h⟩
theorem xc {X:Cx} {c:HZ} {t:TT} (h:PT X c t):tL X [c] t:=fun pins s σ H Q I q=>wpAny_tests_one (h pins s σ H Q I q)
def hV (J:It) (g:TG) (tt:TT) (te:TE) (σ0:St) (D:GC) (Q:VK) (H1:Hp):Prop:=∃ W:Nat->Nat->List V->Hp->Prop,(∃ m,W 0 m [] (upd H1 D (.lst [])))/\∀ i m ys H,W i m ys H ->
 (J.stop i H/\Q (.ref D) H)\/(J.go i H/\∀ x H',J.yld i H x H'->g x σ0 H' fun σ2 H2=>Ext σ0 σ2/\tt σ2 H2 fun b H3 =>
  if b=true then te σ2 H3 fun v H4=>H4 D=some (.lst ys)/\ys.length < sizeLine/\∃ m',m' < m/\W (i+1) m' (ys++[v]) (upd H4 D (.lst (ys++[v]))) else ∃ m',m' < m/\W (i+1) m' ys H3)
noncomputable def qK (wi:TI) (g:TG) (tt:TT) (te:TE) (ix:List (Option Nat)):TE:=fun σ H Q=>wi σ H fun J H1=>∀ D,H1 D=none->hV J g tt te (dF ix σ) D Q H1
section
variable {prog:GQ} {w:Hh} {A:Hj} {R:Mj->Fk->Prop} {s:Fk}
theorem tK {elt target iter:HZ} {ifs:List HZ} {scope:KI} {pos:Pos} {it acc:Da} {env:Env} (I:Nat->Fk->Prop)
  (turn:∀ n s,I n s->wpAny (model prog w) A (pyNext it) (fun r s₁=>match r with
   | none=>R (.ok .next) s₁
   | some v=>wpAny (model prog w) A (letOwnedTupleGo target it v) (fun _ s₁'=>wpAny (model prog w) A (assign target env v) (fun _ s₂ =>
     wpAny (model prog w) A (forIn ifs true fun c r=>if r=true then do let ok <- isTrue c env (eval c env); pure (KB ok) else pure (KB r)) (fun ok s₃ =>
      if ok=true then wpAny (model prog w) A (eval elt env) (fun x s₄ =>
       wpAny (model prog w) A (call (.builtin "list.append") [acc,x]) (fun _ s₅=>∃ m,m < n/\I m s₅) (notedBy (model prog w) A env fun e s'=>R (.error e) s') s₄) (notedBy (model prog w) A env fun e s'=>R (.error e) s') s₃
      else ∃ m,m < n/\I m s₃) (notedBy (model prog w) A env fun e s'=>R (.error e) s') s₂) (notedBy (model prog w) A env fun e s'=>R (.error e) s') s₁') (notedBy (model prog w) A env fun e s'=>R (.error e) s') s₁) (notedBy (model prog w) A env fun e s'=>R (.error e) s') s)
  (n:Nat) (h:I n s):codeAny (model prog w) A (.compLoop (.ListComp elt [⟨target,iter,ifs,0⟩] scope pos) 0 it acc env) R s:=by
 refine codeAny_loop rfl I (fun n s hI=>?_) n h
 show wpAny _ A ((compTurn (.ListComp elt [⟨target,iter,ifs,0⟩] scope pos) 0 it acc env).onRaise (fun x=>do noteFrame x env; theTreesLotGoes x)) _ _ s
 refine wpAny_noted ?_
 rw [compTurn_list]
 refine AC (wpAny_standAt (AC (Ij (turn n s hI) (fun r s₁ h₁=>?_) fun _ _ h'=>h')))
 cases r with
 | none=>exact Gc h₁
 | some v =>
  refine AC (Ij h₁ (fun _ s₁' h₁'=>?_) fun _ _ h'=>h')
  refine AC (Ij h₁' (fun _ s₂ h₂=>AC (Ij h₂ (fun ok s₃ h₃=>?_) fun _ _ h'=>h')) fun _ _ h'=>h')
  cases ok with
  | false=>exact Gc ⟨rfl,h₃⟩
  | true =>
   exact AC (AC (Ij h₃ (fun x s₄ h₄=>AC (Ij h₄ (fun _ s₅ h₅=>Gc (Gc ⟨rfl,h₅⟩)) fun _ _ h'=>h')) fun _ _ h'=>h'))
end
section
variable {X:Cx}
noncomputable def lV (sc:KI):Bool:=sc.names.all fun y=>y.2 != .cell
noncomputable def freeOk (sc:KI) (env:Env):Bool:=sc.names.all fun y=>y.2 != .free || env.kindOf y.1 == some .cell
noncomputable def namesOk (sc:KI):Bool:=sc.names.all fun y=>y.2 != .local || sc.names.lookup y.1 == some .local
structure fQ (X:Cx) (pins:List (GC × Obj)) (σ:St) (H:Hp) (C:GC) (s:Fk):Prop where
 inv:Inv X pins σ H s
 ns:∃ m,s.heap.Ns C m
 free:H C=none
 loc:C≠X.env.locals
 young:X.s₀.heap.objs.size<=C
 cell:∀ x c,X.env.cells.lookup x=some c->c≠C
 pin:∀ p∈X.pn++pins,p.1≠C
theorem fQ.gone {pins:List (GC × Obj)} {σ:St} {H:Hp} {C:GC} {s:Fk} (B:fQ X pins σ H C s) {h':HY} (hs:Jv C s.heap h'):Inv X pins σ H { s with heap:=h' } :=
 B.inv.turned (t':=s.toks) (it:=C) (fun b o hb e=>hs.extBut b o hb e) B.free B.loc (.inr B.young) B.cell B.pin
theorem kX {elt tg iter:HZ} {ifs:List HZ} {scope:KI} {pos pos':Pos} {N:List Str} {ix:List (Option Nat)} {wi:TI} {g:TG} {tt:TT} {te:TE} {use:Option (Da->Sem Unit)} {Qv:Da->Fk->Prop}
  (hc:X.calm=true) (hi:PI X tg iter wi) (hk:scope.kind = .function) (hcell0:lV scope=true) (hfree0:freeOk scope X.env=true) (hnames0:namesOk scope=true) (caps:dS X scope N ix)
  (hg:∀ cl C s H fp xe,PG (bU X scope N cl C s H fp xe) tg g) (ht:∀ cl C s H fp xe,tL (bU X scope N cl C s H fp xe) ifs tt) (he:∀ cl C s H fp xe,PE (bU X scope N cl C s H fp xe) elt te)
  (hs:∀ x,foldedSetIterable iter X.env x=pure x)
  {pins:List (GC × Obj)} {s:Fk} {σ:St} {H:Hp} {Q:VK} (I:Inv X pins σ H s) (h:qK wi g tt te ix σ H Q)
  (fin:∀ (C D:GC) (H6:Hp) (s6:Fk),fQ X pins σ H6 C s6->Q (.ref D) H6->compPost (model X.prog X.w) X.A X.xe use Qv (.ref D) C (.ok .next) s6) :
  wpAny (model X.prog X.w) X.A (comprehension (.ListComp elt [⟨tg,iter,ifs,0⟩] scope pos) scope X.env pos' (newList []) false (eval iter X.env) use) Qv X.xe s:=by
 have hcell:∀ y∈scope.names,y.2≠.cell:=fun y hy e=>by
  have:=GW.mp hcell0 y hy
  rw [e] at this; exact absurd this (by decide)
 have hfree:∀ y∈scope.names,y.2 = .free->X.env.kindOf y.1=some .cell:=fun y hy e=>by
  have:=GW.mp hfree0 y hy
  rw [e] at this; simpa using this
 have hnames:∀ y∈scope.names,y.2 = .local->scope.names.lookup y.1=some .local:=fun y hy e=>by
  have:=GW.mp hnames0 y hy
  rw [e] at this; simpa using this
 have hcl:∀ y∈scope.names,y.2 = .free->∃ c,X.env.cells.lookup y.1=some c:=fun y hy e=>I.ok.has y.1 (.inl (hfree y hy e))
 refine wpAny_comprehension_free (use:=use) rfl hs (qF hcl) hk hnames ?_
 generalize ecl:mX X.env.cells scope.names []=cl
 -- the cells of the block are the def's
 have cl1:∀ x c,cl.lookup x=some c->X.env.cells.lookup x=some c:=fun x c e=>by
  have m:=lookup_mem e
  rw [<- ecl] at m
  rcases iT.mp m with z | ⟨z,z'⟩
  ·cases z
  ·obtain ⟨a,ea⟩:=hcl _ z rfl
   have ea':X.env.cells.lookup x=some a:=ea
   have z2:c=(X.env.cells.lookup x).getD 0:=z'
   rw [ea',Kn] at z2
   rw [ea',z2]
 have cl2:∀ x,(x,Ku)∈scope.names->∃ c,cl.lookup x=some c:=fun x hx=>by
  have m:(x,(X.env.cells.lookup x).getD 0)∈cl:=by rw [<- ecl]; exact iT.mpr (.inr ⟨hx,rfl⟩)
  exact mem_lookup m
 refine ax (hi pins s σ H _ I h) fun v s1 h1=>ax h1 fun itv s2 h2=>?_
 obtain ⟨it,fp,tn,J,H2,e,I2,T,st2,f2,body⟩:=h2
 subst e
 refine Ja (wpAny_newFunctionEnv hcell (by intro y hy; simp at hy) (fun h₁ hns₁ hsb₁=>?_) hk)
 dsimp only at hns₁ hsb₁ |-
 have hD:H2 s2.heap.objs.size=none:=I2.hok.fresh (GF _)
 obtain ⟨W,⟨m0,w0⟩,turn⟩:=body _ hD
 have I3:Inv X pins σ (upd H2 s2.heap.objs.size (.lst [])) { s2 with heap:=s2.heap.push { cls:=.type "list",dict:=none,data:=.seq ([]:List Da).toArray } } :=
  I2.laid (t':=s2.toks) (fun b o e=>FM _ e) (GF _) ⟨GG _,[],0,.nil,GO _ rfl⟩
 generalize hs3:({ s2 with heap:=s2.heap.push { cls:=.type "list",dict:=none,data:=.seq ([]:List Da).toArray } }:Fk)=s3 at I3
 have es3:s2.heap.push { cls:=.type "list",dict:=none,data:=.seq ([]:List Da).toArray }=s3.heap:=by rw [<- hs3]
 rw [es3] at hns₁ hsb₁ |-
 generalize hD':s2.heap.objs.size=D at *
 generalize hH3:upd H2 D (.lst [])=H3 at *
 have szC:s3.heap.objs.size=D+1:=by rw [<- es3,Ih,hD']
 -- what was,is
 have old:∀ b o,s3.heap.get? b=some o->h₁.get? b=some o:=fun b o e=>hsb₁.extBut b o (GX (GE e)) (FM _ e)
 have fpl:∀ b∈fp,b < D:=fun b hb=>by
  obtain ⟨o,e,_⟩:=T.obj 0 _ st2 b hb
  rw [<- hD']; exact GE e
 have fpD:∀ b∈fp,H3 b=none:=fun b hb=>by
  rw [<- hH3,av (GX (fpl b hb))]; exact (f2 b hb).1
 have fstk:∀ b∈fp,b∉bA X.stack:=fun b hb z=>by
  obtain ⟨_,f1,f3,_⟩:=f2 b hb
  rcases GI.mp (I2.stkSub b z) with e | e
  ·exact f1 e
  ·exact f3 e
 let E':Da->Fk->Prop:=notedBy (model X.prog X.w) X.A (compEnvC scope cl s3.heap.objs.size X.env) fun e s'=>compPost (model X.prog X.w) X.A X.xe use Qv (.ref D) s3.heap.objs.size (.error e) s'
 have ok':(bU X scope N cl s3.heap.objs.size s3 H3 fp E').Ok:=by
  refine { mod:=I.ok.mod,kind:=?_,glob:=I.ok.glob,blt:=I.ok.blt,above:=GF _,inj:=?_,has:=?_,cab:=?_,hd:=I.ok.hd,frames:=I.ok.frames,stk:=.inl rfl,exf:=?_,bs:=I3.bs,bsz:=?_,noex:=?_,exfs:=fstk,funs:=I3.stack,frf:=I3.stkFree }
  ·show (relabel scope X.env).kind = .function
   exact hk
  ·exact fun x y c e1 e2=>I.ok.inj x y c (cl1 x c e1) (cl1 y c e2)
  ·intro x hx
   have hx':(relabel scope X.env).names.lookup x=some .cell\/(relabel scope X.env).names.lookup x=some .free:=hx
   have:(x,Ku)∈scope.names:=by
    rcases hx' with e | e
    ·obtain ⟨k',hm,z | ⟨z,_⟩⟩:=e7 e
     ·subst z; exact absurd rfl (hcell _ hm)
     ·subst z; exact hm
    ·obtain ⟨k',hm,z | ⟨z,z'⟩⟩:=e7 e
     ·subst z; exact hm
     ·cases z'
   exact cl2 x this
  ·intro x c z; cases z
  ·intro b hb
   refine ⟨fun z=>?_,fun x c e=>(f2 b hb).2.2.2.2.1 x c (cl1 x c e)⟩
   have lt:=fpl b hb
   have z':b=s3.heap.objs.size:=z
   rw [z',szC] at lt
   exact absurd lt (Nat.not_lt.mpr (IU D))
  ·exact Hm I3.ok.bsz I3.sz
  ·intro b o e hb
   rcases (f2 b hb).2.2.2.1 with z | z
   ·exact I.ok.noex b o e z
   ·exact absurd (GV (GE e) (Hm I.ok.bsz z)) (HL _)
 have I4:∀ tk,Inv (bU X scope N cl s3.heap.objs.size s3 H3 fp E') [] (dF ix σ) H3 { s3 with heap:=h₁,toks:=tk }:=fun tk=>by
  refine ⟨ok',rfl,I3.bare,Un.kept old,⟨_,hns₁,fun i x v e1 e2 e3=>?_⟩,fun x c e=>?_,?_,fun x c e=>I3.freeC x c (cl1 x c e),fun p hp=>(by cases hp),I3.hok.kept old,?_⟩
  ·obtain ⟨j,j1,j2,j3,j4⟩:=caps.get i x v e1 e2
   obtain ⟨m,hn,hl⟩:=I3.loc
   obtain ⟨u,r,l⟩:=hl j x v j1 j2 (.inr (.inl j3))
   refine ⟨u,r,.inr ⟨.inl j4,?_⟩⟩
   rcases l with ⟨l,_⟩ | ⟨_,c,ec,hcell⟩
   ·have l':X.env.kindOf x=some .local:=l
    rw [j3] at l'; cases l'
   ·obtain ⟨k',hm,z | ⟨z,_⟩⟩:=e7 j4
    ·subst z; exact absurd rfl (‹∀ y∈scope.names,y.2≠.cell› _ hm)
    ·subst z
     obtain ⟨c',ec'⟩:=cl2 x hm
     have:=cl1 x c' ec'
     rw [ec] at this; cases this
     obtain ⟨o,ho,hd⟩:=hcell
     exact ⟨c,ec',o,old _ _ ho,hd⟩
  ·obtain ⟨v,o,ho,hd⟩:=I3.cell x c (cl1 x c e)
   exact ⟨v,o,old _ _ ho,hd⟩
  ·exact I3.hok.fresh (GF _)
  ·show (dF ix σ).length=N.length
   rw [<- caps.length]; simp [dF]
 have st4:tn 0 h₁:=T.keep 0 _ _ st2 fun b hb o e=>old b o (by rw [<- es3]; exact FM _ e)
 -- the block's end
 have fin6:∀ (s6:Fk) (H6:Hp),Inv (bU X scope N cl s3.heap.objs.size s3 H3 fp E') [] (dF ix σ) H6 s6->Q (.ref D) H6 ->
   compPost (model X.prog X.w) X.A X.xe use Qv (.ref D) s3.heap.objs.size (.ok .next) s6:=fun s6 H6 I6 q=>by
  obtain ⟨m,hn,_⟩:=I6.loc
  refine fin s3.heap.objs.size D H6 s6 ⟨I3.call' (s':=s6) (ch:=fp) I6.os I6.base I6.hok I6.bare ?_,⟨m,hn⟩,I6.free,?_,I3.sz,?_,?_⟩ q
  ·intro b hb
   obtain ⟨_,f1,_,f3,f4,f5⟩:=f2 b hb
   exact ⟨f3,f1,f4,f5⟩
  ·exact Jx I3.lt
  ·intro x c e z
   obtain ⟨v,o,ho,_⟩:=I3.cell x c e
   exact absurd (GE ho) (by rw [z]; exact HL _)
  ·intro p hp z
   exact absurd (GE (I3.pin p hp).1) (by rw [z]; exact HL _)
 -- the loop
 have loop:∀ s4:Fk,s4={ s3 with heap:=h₁,toks:=s2.toks+([]:List (Str × Da)).length } ->
   codeAny (model X.prog X.w) X.A (.compLoop (.ListComp elt [⟨tg,iter,ifs,0⟩] scope pos) 0 (.ref it) (.ref D) (compEnvC scope cl s3.heap.objs.size X.env)) (compPost (model X.prog X.w) X.A X.xe use Qv (.ref D) s3.heap.objs.size) s4:=by
  rintro s4 rfl
  refine tK (fun n s'=>∃ i ys H',Inv (bU X scope N cl s3.heap.objs.size s3 H3 fp E') [] (dF ix σ) H' s'/\tn i s'.heap/\(∀ b∈fp,H' b=none)/\W i n ys H') ?_ m0 ⟨0,[],H3,I4 _,st4,fpD,w0⟩
  rintro n s5 ⟨i,ys,H5,I5,st5,fr5,w5⟩
  have stat:∀ {H':Hp},(∀ b∈fp,H' b=none)->∀ b∈fp,e9 (bU X scope N cl s3.heap.objs.size s3 H3 fp E') [] H' b:=fun hn b hb=>by
   refine ⟨hn b hb,fun z=>?_,fstk b hb,.inl hb,fun x c e=>(f2 b hb).2.2.2.2.1 x c (cl1 x c e),fun p hp=>(by cases hp)⟩
   have lt:=fpl b hb
   have z':b=s3.heap.objs.size:=z
   rw [z',szC] at lt
   exact absurd lt (Nat.not_lt.mpr (IU D))
  rcases turn i n ys H5 w5 with ⟨stop,q⟩ | ⟨go,step⟩
  ·refine ax (T.done (bU X scope N cl s3.heap.objs.size s3 H3 fp E') rfl rfl rfl hc i [] s5 _ H5 E' I5 (stat fr5) st5 stop) fun r s6 ⟨hr,I6⟩=>?_
   subst hr
   exact fin6 s6 H5 I6 q
  ·refine ax (T.item (bU X scope N cl s3.heap.objs.size s3 H3 fp E') rfl rfl rfl hc i [] s5 _ H5 E' I5 (stat fr5) st5 go) fun r s6 ⟨u,hr,h6⟩=>?_
   subst hr
   refine ax h6 fun _ s7 ⟨x,H7,I7,r7,y7,st7,fr7⟩=>?_
   have I7':=I7.pinned (stat fr7) (T.obj _ _ st7)
   refine ax (hg cl s3.heap.objs.size s3 H3 fp E' _ s7 _ H7 x u _ I7' r7 (step x H7 y7)) fun _ s8 ⟨σ8,H8,I8,ext,q8⟩=>?_
   have again:∀ {σ9:St} {H9:Hp} {s9:Fk} {m':Nat} {zs:List V},Ext (dF ix σ) σ9->Inv (bU X scope N cl s3.heap.objs.size s3 H3 fp E') ([]++gJ fp s7.heap) σ9 H9 s9->m' < n->W (i+1) m' zs H9 ->
     ∃ m,m < n/\∃ i ys H',Inv (bU X scope N cl s3.heap.objs.size s3 H3 fp E') [] (dF ix σ) H' s9/\tn i s9.heap/\(∀ b∈fp,H' b=none)/\W i m ys H':=fun {σ9 H9 s9 m' zs} ex I9 hm w9=>by
    refine ⟨m',hm,i+1,zs,H9,(I9.unpinned).weak ex.1.symm ex.2,T.keep _ _ _ st7 fun b hb o e=>(I9.pin (b,o) (Hx _ (Hx _ (eA hb e)))).1,fun b hb=>?_,w9⟩
    obtain ⟨o,e,d⟩:=T.obj _ _ st7 b hb
    exact (I9.pin (b,o) (Hx _ (Hx _ (eA hb e)))).2.1
   refine ax (ht cl s3.heap.objs.size s3 H3 fp E' _ s8 σ8 H8 _ I8 q8) fun ok s9 ⟨H9,I9,q9⟩=>?_
   cases ok with
   | false =>
    obtain ⟨m',hm,w9⟩:=q9
    exact again ext I9 hm w9
   | true =>
    refine ax (he cl s3.heap.objs.size s3 H3 fp E' _ s9 σ8 H9 _ I9 q9) fun u10 s10 ⟨v10,H10,I10,r10,hDl,hlt,m',hm,w10⟩=>?_
    refine ax (bM (X:=bU X scope N cl s3.heap.objs.size s3 H3 fp E') _ s10 σ8 H10 (.ref D) [v10] (.ref D) [u10] (fun _ H'=>H'=upd H10 D (.lst (ys++[v10]))) I10 rfl (.cons r10 .nil) ⟨D,ys,v10,rfl,rfl,hDl,hlt,rfl⟩) fun _ s11 ⟨_,H11,I11,_,e11⟩=>?_
    subst e11
    exact again ext I11 hm w10
 exact codeAny_compStart_list (loop _ (by rw [<- hs3])) (T.self _ 0 _ _ _ st4 (loop _ (by rw [<- hs3])))
theorem bI {elt tg iter:HZ} {ifs:List HZ} {scope:KI} {pos:Pos} {N:List Str} {ix:List (Option Nat)} {wi:TI} {g:TG} {tt:TT} {te:TE}
  (hc:X.calm=true) (hi:PI X tg iter wi) (hk:scope.kind = .function) (hcell0:lV scope=true) (hfree0:freeOk scope X.env=true) (hnames0:namesOk scope=true) (caps:dS X scope N ix)
  (hg:∀ cl C s H fp xe,PG (bU X scope N cl C s H fp xe) tg g) (ht:∀ cl C s H fp xe,tL (bU X scope N cl C s H fp xe) ifs tt) (he:∀ cl C s H fp xe,PE (bU X scope N cl C s H fp xe) elt te)
  (hs:∀ x,foldedSetIterable iter X.env x=pure x:=by intro _; rfl) :
  PE X (.ListComp elt [⟨tg,iter,ifs,0⟩] scope pos) (qK wi g tt te ix):=by
 intro pins s σ H Q I h
 rw [eval_ListComp]
 refine kX (use:=none) hc hi hk hcell0 hfree0 hnames0 caps hg ht he hs I h fun C D H6 s6 B q=>?_
 obtain ⟨m,hn⟩:=B.ns
 exact ⟨m,hn,fun h' hsb=>⟨.ref D,H6,B.gone hsb,rfl,q⟩⟩
noncomputable def Du (i:Nat) (te:TE):TS:=fun D σ H=>te σ H fun x H1=>D.nx (σ.set i (some x)) H1
theorem ju {i:Nat} {y:Str} {py:Pos} {spos:Pos} {elt tg iter:HZ} {ifs:List HZ} {scope:KI} {pos:Pos} {N:List Str} {ix:List (Option Nat)} {wi:TI} {g:TG} {tt:TT} {te:TE}
  (hN:X.N.Nodup) (hi':X.N[i]? = some y) (hx:Loc X.env.scope y) (hsw:swapsWith (.ListComp elt [⟨tg,iter,ifs,0⟩] scope pos) (some (.Name y py)) spos.line X.env=pure true)
  (hc:X.calm=true) (hi:PI X tg iter wi) (hk:scope.kind = .function) (hcell0:lV scope=true) (hfree0:freeOk scope X.env=true) (hnames0:namesOk scope=true) (caps:dS X scope N ix)
  (hg:∀ cl C s H fp xe,PG (bU X scope N cl C s H fp xe) tg g) (ht:∀ cl C s H fp xe,tL (bU X scope N cl C s H fp xe) ifs tt) (he:∀ cl C s H fp xe,PE (bU X scope N cl C s H fp xe) elt te)
  (hs:∀ x,foldedSetIterable iter X.env x=pure x:=by intro _; rfl) (hf:X.fn y=true\/X.env.scope.names.lookup y=some .local:=by first | exact .inl rfl | exact .inr rfl | assumption) :
  PS X (.Assign [.Name y py] (.ListComp elt [⟨tg,iter,ifs,0⟩] scope pos) spos) (Du i (qK wi g tt te ix)):=by
 intro pins s σ H D I h
 rw [exec_Assign_Name_used _ _ _ _ hsw]
 refine AC (wpAny_standAt (AC ?_))
 show wpAny _ X.A (do let _ <- comprehension (.ListComp elt [⟨tg,iter,ifs,0⟩] scope pos) scope X.env _ (newList []) false (eval iter X.env) (some (assign (.Name y py) X.env))) _ _ s
 refine AC (Ij (kX (use:=some (assign (.Name y py) X.env)) (Qv:=fun _ s'=>SP X pins D .next s') hc hi hk hcell0 hfree0 hnames0 caps hg ht he hs I h fun C a H6 s6 B q=>?_) (fun _ s' hq=>Gc (Gc hq)) fun _ _ e=>e)
 obtain ⟨m,hn⟩:=B.ns
 show wpAny _ X.A (assign (.Name y py) X.env (.ref a)) _ _ s6
 refine wpAny_assign_Name (gB B.inv hN hi' hx (v:=.ref a) rfl (fun s7 I7 ⟨z,hz,hz'⟩=>?_) hf)
 have hzC:C≠z:=by
  rcases hz' with e | e
  ·rw [e]; exact B.loc
  ·exact fun w=>B.cell y z e w.symm
 refine ⟨m,hn.sameBut hz hzC,fun h' hsb=>?_⟩
 have B7:fQ X pins (σ.set i (some (.ref a))) H6 C s7:=⟨I7,⟨m,hn.sameBut hz hzC⟩,B.free,B.loc,B.young,B.cell,B.pin⟩
 exact ⟨_,H6,B7.gone hsb,q⟩
theorem pO {lo:Int} {n:Nat} {g:TG} {tt:TT} {te:TE} {σ0:St} {H:Hp} {D:GC} {Q:VK} (f:Nat->V) (hz:n<=sizeLine)
  (hs:∀ (i:Nat) (H':Hp) (R:VK) (R0:Hp->Prop),i < n->(∀ b,b≠D->H' b=H b)->R (f i) H'->g (.int (lo+i)) σ0 H' fun σ2 H2=>Ext σ0 σ2/\tt σ2 H2 fun b H3=>if b=true then te σ2 H3 R else R0 H3)
  (hq:Q (.ref D) (upd H D (.lst ((GK n).map f)))) :
  hV (i3 lo n) g tt te σ0 D Q H:=by
 refine ⟨fun i m ys H'=>m=n - i/\i<=n/\ys=(GK i).map f/\H'=upd H D (.lst ys),⟨n,by simp,GG _,rfl,rfl⟩,?_⟩
 rintro i m ys H' ⟨rfl,hi,rfl,rfl⟩
 by_cases hlt:i < n
 ·refine .inr ⟨hlt,fun x H'' y=>?_⟩
  obtain ⟨e,y⟩:=y
  subst e y
  refine hs i _ _ _ hlt (fun b hb=>av hb) ⟨ag,by simp; lia,n - (i+1),by lia,rfl,hlt,?_,?_⟩
  ·rw [JS,G7]; rfl
  ·rw [jM]
 ·have e:i=n:=by lia
  subst e
  exact .inl ⟨GF _,hq⟩
theorem eX {K:GM} {a:GC} {xs:List V} {g:TG} {tt:TT} {te:TE} {σ0:St} {H:Hp} {D:GC} {Q:VK} (f:V->V) (hz:xs.length<=sizeLine) (hx:aq K H a xs) (hD:H D=none)
  (hs:∀ (i:Nat) (x:V) (H':Hp) (R:VK) (R0:Hp->Prop),xs[i]? = some x->(∀ b,b≠D->H' b=H b)->R (f x) H'->g x σ0 H' fun σ2 H2=>Ext σ0 σ2/\tt σ2 H2 fun b H3=>if b=true then te σ2 H3 R else R0 H3)
  (hq:Q (.ref D) (upd H D (.lst (xs.map f)))) :
  hV (mT K a) g tt te σ0 D Q H:=by
 have stays:∀ ys:List V,aq K (upd H D (.lst ys)) a xs:=fun ys=>by
  have sm:ae H (upd H D (.lst ys)):=fun b u q=>by rw [av (az q hD)]; exact q
  exact sm.seq hx
 refine ⟨fun i m ys H'=>m=xs.length - i/\i<=xs.length/\ys=(xs.take i).map f/\H'=upd H D (.lst ys),⟨xs.length,by simp,GG _,by simp,rfl⟩,?_⟩
 rintro i m ys H' ⟨rfl,hi,rfl,rfl⟩
 by_cases hlt:i < xs.length
 ·refine .inr ⟨⟨xs,xs[i],stays _,by simp [hlt]⟩,fun x H'' y=>?_⟩
  obtain ⟨e,y⟩:=y
  subst e
  have ex:=y xs (stays _)
  refine hs i x _ _ _ ex (fun b hb=>av hb) ⟨ag,by simp; lia,xs.length - (i+1),by lia,rfl,hlt,?_,?_⟩
  ·rw [Hu,ex,G7]; rfl
  ·rw [jM]
 ·have e:i=xs.length:=by lia
  subst e
  refine .inl ⟨⟨xs,stays _,GF _⟩,?_⟩
  rw [List.take_length]
  exact hq
end
end L2
namespace L2
open PySem PySem.Spec PyProof.Rows
section
variable {P:GQ} {w:Hh} {H:Hp} {h h':HY} {a:GC} {o:HO}
theorem aT.there (x:aT P w H h a o):∃ u,h.get? a=some u:=by
 cases o with
 | lst xs=>obtain ⟨_,_,_,_,e⟩:=x; exact ⟨_,e⟩
 | tup xs=>obtain ⟨_,_,_,_,e,_⟩:=x; exact ⟨_,e⟩
 | dK kvs=>obtain ⟨_,_,_,_,_,_,_,e,_⟩:=x; exact ⟨_,e⟩
 | dT kvs=>obtain ⟨_,_,_,_,_,_,_,e,_⟩:=x; exact ⟨_,e⟩
 | set S n=>obtain ⟨_,_,_,_,e,_⟩:=x; exact ⟨_,e⟩
 | ins C dx fs=>obtain ⟨_,_,_,e,_⟩:=x; exact ⟨_,e⟩
 | own y=>obtain ⟨_,e⟩:=x; exact ⟨_,e⟩
 | xd fs=>obtain ⟨_,⟨_,_,_,e,_⟩,_⟩:=x; exact ⟨_,e⟩
 | rng lo hi=>obtain ⟨_,_,_,e⟩:=x; exact ⟨_,e⟩
 | frz ob u=>obtain ⟨e,_⟩:=x; exact ⟨_,e⟩
 | tbl ps=>exact ⟨_,show h.get? a=some _ from x⟩
 | met f y=>exact ⟨_,show h.get? a=some _ from x⟩
 | ext φ=>obtain ⟨_,e,_⟩:=x; exact e
theorem bK.none (x:bK P w H h) (e:h.get? a=Li):H a=Li:=by
 cases q:H a with
 | none=>rfl
 | some u =>
  obtain ⟨v,z⟩:=(x a u q).there
  rw [e] at z; cases z
theorem bK.part (x:bK P w H h) (k:∀ b o,H b≠Li->h.get? b=some o->h'.get? b=some o):bK P w H h':=fun b u e=>by
 refine (x b u e).stay (fun c v hc q=>k c v ?_ q) (fun _ q=>q) fun _ _ q=>q
 intro z
 rcases hc with rfl | hc
 ·rw [z] at e; cases e
 ·rw [z] at hc; cases hc
end
def rm (h:HY) (e T:GC) (cls:Da) (od:Option GC) (fl:Da):Prop:=∃ oe vs oT ts,h.get? e=some oe/\oe.cls=cls/\oe.data = .fields vs/\vs[1]? = some (.ref T)/\T≠e/\h.get? T=some oT/\oT.data = .fields ts/\ts[3]? = some fl/\∀ d,od=some d->oe.dict=some d
noncomputable abbrev Tr (h:HY) (e T:GC) (cls:Da) (od:Option GC):Prop:=rm h e T cls od .none
structure Kept (l:List Env) (ch:List GC) (h h':HY):Prop where
 keep:∀ b o,b∉bA l->b∉ch->h.get? b=some o->h'.get? b=some o
 slot:∀ b o,b∈bA l->h.get? b=some o->∃ sl,h'.get? b=some { o with slots:=sl }
theorem Kept.trans {l:List Env} {ch:List GC} {h h1 h2:HY} (a:Kept l ch h h1) (b:Kept l ch h1 h2):Kept l ch h h2 :=
 ⟨fun c o h1 h2 q=>b.keep c o h1 h2 (a.keep c o h1 h2 q),fun c o hm q=>by
  obtain ⟨sl,e⟩:=a.slot c o hm q
  obtain ⟨sl',e'⟩:=b.slot c _ hm e
  exact ⟨sl',e'⟩⟩
section
variable {M:Model} {A:Hj} {E:Da->Fk->Prop} {s:Fk} {Q:Unit->Fk->Prop} {base:HY} {env:Env} {outer l:List Env} {L e T:GC} {cls:Da}
theorem uS (hl:s.heap.FunFrames base l) {b:GC} {o:Obj} (hb:b∈bA l) (q:s.heap.get? b=some o):∀ vs,o.data≠.fields vs:=by
 obtain ⟨_,o',ho,hd⟩:=hl.mem hb
 rw [q] at ho; cases ho; exact hd
theorem kj (f:Array Da->Array Da) (o:Obj):(o.mapFields f).dict=o.dict:=by
 obtain ⟨c,d,dt,sl⟩:=o
 cases dt<;>rfl
theorem Kept.sub {ch ch':List GC} {h h':HY} (k:Kept l ch h h') (f:∀ b o,h.get? b=some o->b∈ch->b∈ch'):Kept l ch' h h' :=
 ⟨fun b o hb hc q=>k.keep b o hb (fun z=>hc (f b o q z)) q,k.slot⟩
theorem iM {h:HY} {b:GC} (f:Obj->Obj) (hn:b∉bA l):Kept l [b] h (h.update b f) :=
 ⟨fun c o _ hc q=>(Hb _ _ (fun z=>hc (by rw [<- z]; exact IC.mpr rfl))).trans q,
  fun c o hm q=>⟨o.slots,(Hb _ _ (fun z=>hn (by rw [z]; exact hm))).trans q⟩⟩
theorem oh {oe:Obj} {vs:Array Da} {head:Da} {hadNext:Bool} (hfr:A.frames=some (env::outer)) (hl:s.heap.FunFrames base (env::outer)) (hf:env.frame=some L) (he:s.heap.get? e=some oe) (hd:oe.data = .fields vs) (hz:1 < vs.size)
  (hQ:∀ h' T',h'.get? e=some (oe.mapFields (·.setIfInBounds 1 (.ref T')))->s.heap.get? T'=none->T'≠e->(∃ oT ts,h'.get? T'=some oT/\oT.data = .fields ts/\ts[3]? = some (rawInt L))->Kept (env::outer) [e] s.heap h'->Q () { s with heap:=h' }) :
  wpAny M A (do let a <- frameOf env; let pl <- entryPlaceOf L hadNext; let b <- L4 head a .none (rawInt L) .none pl; setField (.ref e) 1 b) Q E s:=by
 have en:e∉bA (env::outer):=fun z=>uS hl z he vs hd
 refine AC (wpAny_frameOf_fun hfr hl hf fun h1 ⟨z1,z2,z3⟩=>AC (wpAny_entryPlaceOf fun pl hpl=>?_))
 unfold L4 newFields
 refine AC (Ja ?_ (hpl.sizeOk5 _ _ _ _ _))
 have e1:h1.get? e=some oe:=(z2 e en).trans he
 have Tn:h1.objs.size≠e:=Jx (GE e1)
 generalize hob:({ cls:=.type "traceback",dict:=none,data:=.fields ([head,.ref L,.none,rawInt L,.none]++(if pl.isEmpty then HH 6 Hy else pl)).toArray }:Obj)=ob
 have nf:ob.isFreed=false:=by rw [<- hob]; rfl
 have e2:=FM ob e1
 have eT:(h1.push ob).get? h1.objs.size=some ob:=GO h1 nf
 refine wpAny_setField e2 hd hz (hQ _ h1.objs.size (Ht _ e2 (Kg (IR hd _))) ?_ Tn ⟨ob,_,(Hb _ _ (Ip Tn)).trans eT,by rw [<- hob],?_⟩ ?_)
 ·rw [z1]
  exact IW (GF _)
 ·first | (simp; done) | (rcases hpl with rfl | ⟨_,_,_,_,_,_,_,rfl⟩<;>simp)
 ·have k:=iM (h:=h1.push ob) (l:=env::outer) (Lj (·.setIfInBounds 1 (.ref h1.objs.size))) en
  exact ⟨fun b o hb hc q=>k.keep b o hb hc (FM _ ((z2 b hb).trans q)),fun b o hm q=>by
   obtain ⟨sl,q1⟩:=z3 b o q
   obtain ⟨sl',q2⟩:=k.slot b _ hm (FM _ q1)
   exact ⟨sl',q2⟩⟩
theorem uN {oe:Obj} {vs:Array Da} {od:Option GC} (hfr:A.frames=some (env::outer)) (hl:s.heap.FunFrames base (env::outer)) (hf:env.frame=some L) (he:s.heap.get? e=some oe) (hc:oe.cls=cls) (hd:oe.data = .fields vs) (h1:vs[1]? = some .none) (hod:∀ d,od=some d->oe.dict=some d)
  (hQ:∀ h' T',rm h' e T' cls od (rawInt L)->s.heap.get? T'=none->Kept (env::outer) [e] s.heap h'->Q () { s with heap:=h' }):wpAny M A (noteFrame (.ref e) env) Q E s:=by
 have hz:=(G8.mp h1).1
 unfold noteFrame
 simp only [hf]
 refine AC (Jj he hd h1 ?_)
 rw [if_neg (by decide)]
 refine oh hfr hl hf he hd hz fun h' T' q1 q2 q3 ⟨oT,ts,q4,q5,q6⟩ q7=>hQ h' T' ⟨_,_,oT,ts,q1,(Obj.cls_mapFields _ _).trans hc,IR hd _,by simp [hz],q3,q4,q5,q6,fun d z=>(kj _ _).trans (hod d z)⟩ q2 q7
theorem nN {od:Option GC} (hfr:A.frames=some (env::outer)) (hl:s.heap.FunFrames base (env::outer)) (hf:env.frame=some L) (tr:Tr s.heap e T cls od)
  (hQ:∀ h' T',rm h' e T' cls od (rawInt L)->s.heap.get? T'=none->Kept (env::outer) [e,T] s.heap h'->Q () { s with heap:=h' }):wpAny M A (noteFrame (.ref e) env) Q E s:=by
 obtain ⟨oe,vs,oT,ts,he,hc,hd,h1,hTe,hT,hdT,h3,hod⟩:=tr
 have hz:=(G8.mp h1).1
 have Tn:T∉bA (env::outer):=fun z=>uS hl z hT ts hdT
 unfold noteFrame
 simp only [hf]
 refine AC (Jj he hd h1 ?_)
 rw [if_pos (show (GL T != Hy)=true from by simp)]
 refine AC (Jj hT hdT h3 ?_)
 rw [if_neg (show ¬ ((Hy == rawInt L)=true) from by simp [rawInt])]
 refine AC (wpAny_setField hT hdT (G8.mp h3).1 ?_)
 have k0:=iM (h:=s.heap) (Lj (·.setIfInBounds 3 Hy)) Tn
 have there:∀ b o,s.heap.get? b=some o->∃ o',(s.heap.update T (Lj (·.setIfInBounds 3 Hy))).get? b=some o':=fun b o q=>by
  by_cases z:b=T
  ·subst z
   exact ⟨_,Ht _ q (by rw [hT] at q; cases q; exact Kg (IR hdT _))⟩
  ·exact ⟨o,(Hb _ _ (Ip z)).trans q⟩
 refine oh (s:={ s with heap:=s.heap.update T (Lj (·.setIfInBounds 3 Hy)) }) (base:=base) hfr (hl.of_keeps fun b o q n=>⟨o,(Hb _ _ (fun z=>n ts (by rw [<- z,hT] at q; cases q; exact hdT))).trans q,rfl⟩) hf ((Hb _ _ hTe).trans he) hd hz
  fun h' T' q1 q2 q3 ⟨oT,ts,q4,q5,q6⟩ q7=>hQ h' T' ⟨_,_,oT,ts,q1,(Obj.cls_mapFields _ _).trans hc,IR hd _,by simp [hz],q3,q4,q5,q6,fun d z=>(kj _ _).trans (hod d z)⟩ ?_ ((k0.sub (ch':=[e,T]) fun b o _ z=>GJ _ z).trans (q7.sub fun b o _ z=>by rw [IC.mp z]; exact GY))
 cases y:s.heap.get? T' with
 | none=>rfl
 | some o =>
  obtain ⟨o',z⟩:=there _ _ y
  rw [q2] at z
  cases z
theorem ik {od:Option GC} {fl:Da} (hn:T∉bA l) (tr:rm s.heap e T cls od fl)
  (hQ:∀ h',Tr h' e T cls od->Kept l [T] s.heap h'->Q () { s with heap:=h' }):wpAny M A (setFlight (.ref e) none) Q E s:=by
 obtain ⟨oe,vs,oT,ts,he,hc,hd,h1,hTe,hT,hdT,h3,hod⟩:=tr
 have hz:=(G8.mp h3).1
 unfold setFlight
 refine AC (Jj he hd h1 ?_)
 rw [if_pos (show (GL T != Hy)=true from by simp)]
 refine wpAny_setField hT hdT hz (hQ _ ⟨oe,vs,_,_,(Hb _ _ hTe).trans he,hc,hd,h1,hTe,Ht _ hT (Kg (IR hdT _)),IR hdT _,by simp [hz],hod⟩ (iM _ hn))
theorem xO {od:Option GC} {fl:Da} (hl:s.heap.FunFrames base l) (tr:rm s.heap e T cls od fl):T∉bA l:=fun z=>by
 obtain ⟨oe,vs,oT,ts,he,hc,hd,h1,hTe,hT,hdT,_⟩:=tr
 exact uS hl z hT ts hdT
theorem iK {T':GC} (hl:s.heap.FunFrames base l) (n:s.heap.get? T'=none):T'∉bA l:=fun z=>by
 obtain ⟨_,o,ho,_⟩:=hl.mem z
 rw [n] at ho
 cases ho
theorem jZ {h h':HY} {T':GC} {ch:List GC} (n:h.get? T'=none) (a:Kept l ch h h') {h2:HY} (k:Kept l [T'] h' h2):Kept l ch h h2 :=
 ⟨fun b o hb hc q=>k.keep b o hb (fun z=>by rw [IC.mp z,n] at q; cases q) (a.keep b o hb hc q),fun b o hm q=>by
  obtain ⟨sl,e1⟩:=a.slot b o hm q
  obtain ⟨sl',e2⟩:=k.slot b _ hm e1
  exact ⟨sl',e2⟩⟩
theorem um {od:Option GC} (hfr:A.frames=some (env::outer)) (hl:s.heap.FunFrames base (env::outer)) (hf:env.frame=some L) (tr:Tr s.heap e T cls od)
  (hQ:∀ h' T',Tr h' e T' cls od->(T'=T\/s.heap.get? T'=none)->Kept (env::outer) [e,T] s.heap h'->Q () { s with heap:=h' }):wpAny M A (leaving env (.ref e)) Q E s:=by
 unfold leaving
 exact AC (nN hfr hl hf tr fun h' T' t1 n1 k1=>ik (l:=env::outer) (s:={ s with heap:=h' }) (iK hl n1) t1 fun h2 t2 k2=>hQ h2 T' t2 (.inr n1) (jZ n1 k1 k2))
theorem pZ {oe:Obj} {vs:Array Da} {od:Option GC} (hfr:A.frames=some (env::outer)) (hl:s.heap.FunFrames base (env::outer)) (hf:env.frame=some L) (he:s.heap.get? e=some oe) (hc:oe.cls=cls) (hd:oe.data = .fields vs) (h1:vs[1]? = some .none) (hod:∀ d,od=some d->oe.dict=some d)
  (hQ:∀ h' T',Tr h' e T' cls od->s.heap.get? T'=none->Kept (env::outer) [e] s.heap h'->Q () { s with heap:=h' }):wpAny M A (leaving env (.ref e)) Q E s:=by
 unfold leaving
 exact AC (uN hfr hl hf he hc hd h1 hod fun h' T' t1 n1 k1=>ik (l:=env::outer) (s:={ s with heap:=h' }) (iK hl n1) t1 fun h2 t2 k2=>hQ h2 T' t2 n1 (jZ n1 k1 k2))
theorem wM {od:Option GC} (hfr:A.frames=some (env::outer)) (hl:s.heap.FunFrames base (env::outer)) (hf:env.frame=some L) (tr:Tr s.heap e T cls od)
  (hQ:∀ h' T',Tr h' e T' cls od->(T'=T\/s.heap.get? T'=none)->Kept (env::outer) [e,T] s.heap h'->Q () { s with heap:=h' }) :
  wpAny M A (noteFrame (.ref e) env) (fun _ s2=>wpAny M A (setFlight (.ref e) none) Q E s2) E s :=
 nN hfr hl hf tr fun h' T' t1 n1 k1=>ik (l:=env::outer) (s:={ s with heap:=h' }) (iK hl n1) t1 fun h2 t2 k2=>hQ h2 T' t2 (.inr n1) (jZ n1 k1 k2)
theorem uJ {od:Option GC} (hl:s.heap.FunFrames base l) (tr:Tr s.heap e T cls od)
  (hQ:∀ h' T',Tr h' e T' cls od->(T'=T\/s.heap.get? T'=none)->Kept l [e,T] s.heap h'->Q () { s with heap:=h' }):wpAny M A (setFlight (.ref e) none) Q E s :=
 ik (xO hl tr) tr fun h' t k=>hQ h' T t (.inl rfl) (k.sub fun b o _ z=>GJ _ z)
end
section
variable {X:Cx} {pins:List (GC × Obj)} {σ:St} {H:Hp} {s:Fk} {h':HY} {ch:List GC}
structure gb (X:Cx) (pins:List (GC × Obj)) (H:Hp) (b:GC):Prop where
 new:X.s₀.heap.get? b=none
 free:H b=none
 loc:b≠X.env.locals
 cell:∀ x c,X.env.cells.lookup x=some c->c≠b
 pin:∀ p∈X.pn++pins,p.1≠b
theorem Inv.ours (I:Inv X pins σ H s) (hx:X.ex=[]) {b:GC} (n:s.heap.get? b=none):X.s₀.heap.get? b=none/\b≠X.env.locals/\(∀ x c,X.env.cells.lookup x=some c->c≠b)/\∀ p∈X.pn++pins,p.1≠b:=by
 refine ⟨?_,?_,fun x c e z=>?_,fun p hp z=>?_⟩
 ·cases q:X.s₀.heap.get? b with
  | none=>rfl
  | some o =>
   obtain ⟨o',e⟩:=I.base.there b o q (by rw [hx]; simp)
   rw [n] at e; cases e
 ·rintro rfl
  obtain ⟨m,⟨o,_,_,e,_⟩,_⟩:=I.loc
  rw [n] at e; cases e
 ·subst z
  obtain ⟨v,o,e',_⟩:=I.cell x c e
  rw [n] at e'; cases e'
 ·have:=(I.pin p hp).1
  rw [z,n] at this; cases this
theorem Inv.exc (I:Inv X pins σ H s) (hx:X.ex=[]) (ours:∀ b∈ch,gb X pins H b) (k:Kept X.stack ch s.heap h'):Inv X pins σ H { s with heap:=h' }:=by
 have sub:=I.stkSub
 have above:=I.ok.above
 have outs:∀ b∈X.fs,b∈bA X.stack:=fun b hb=>by
  rcases I.ok.stk with e | ⟨e,hf⟩
  ·rw [e]; exact hb
  ·rw [e]
   show b∈bA (X.env::X.outer)
   unfold bA
   rw [Ib,hf]
   exact GJ _ hb
 have anyk:∀ b o,b∉ch->s.heap.get? b=some o->∃ sl,h'.get? b=some { o with slots:=sl }:=fun b o hc q=>by
  by_cases hb:b∈bA X.stack
  ·exact k.slot b o hb q
  ·exact ⟨o.slots,k.keep b o hb hc q⟩
 have nch:∀ b o,X.s₀.heap.get? b=some o->b∉ch:=fun b o q z=>by rw [(ours b z).new] at q; cases q
 have lch:X.env.locals∉ch:=fun z=>(ours _ z).loc rfl
 have cch:∀ x c,X.env.cells.lookup x=some c->c∉ch:=fun x c e z=>(ours _ z).cell x c e rfl
 have cellK:∀ x c v,X.env.cells.lookup x=some c->s.heap.IsCell c v->h'.IsCell c v:=fun x c v e z=>by
  obtain ⟨o,ho,hd⟩:=z
  obtain ⟨sl,q⟩:=anyk c o (cch x c e) ho
  exact ⟨_,q,hd⟩
 refine ⟨I.ok,I.os,I.bare,⟨fun b o e n hb hxx=>?_,fun b o e n hb hxx=>?_,I.base.free,fun b o e hxx=>?_,I.base.tups,I.base.frzs,I.base.tbls⟩,?_,fun x c e=>?_,I.free,I.freeC,fun p hp=>?_,?_,I.len⟩
 ·refine k.keep b o (fun z=>?_) (nch b o e) (I.base.keep b o e n hb hxx)
  rcases GI.mp (sub b z) with z | z
  ·exact absurd (GV (GE e) above) (by rw [z]; exact HL _)
  ·exact hb z
 ·obtain ⟨sl,e1⟩:=I.base.slot b o e n hb hxx
  obtain ⟨sl',e2⟩:=k.slot b _ (outs b hb) e1
  exact ⟨sl',e2⟩
 ·obtain ⟨o',e1⟩:=I.base.there b o e hxx
  obtain ⟨sl,e2⟩:=anyk b o' (nch b o e) e1
  exact ⟨_,e2⟩
 ·obtain ⟨m,⟨o,es,ep,ho,r⟩,hl⟩:=I.loc
  obtain ⟨sl,q⟩:=anyk _ o lch ho
  refine ⟨m,⟨_,es,ep,q,r⟩,fun i x v e1 e2 e3=>?_⟩
  obtain ⟨u,ru,lk⟩:=hl i x v e1 e2 e3
  refine ⟨u,ru,?_⟩
  rcases lk with z | ⟨z,c,e,ic⟩
  ·exact .inl z
  ·exact .inr ⟨z,c,e,cellK x c _ e ic⟩
 ·obtain ⟨v,z⟩:=I.cell x c e
  exact ⟨v,cellK x c v e z⟩
 ·obtain ⟨e,n,ne,nf,d⟩:=I.pin p hp
  refine ⟨k.keep p.1 p.2 (fun z=>?_) (fun z=>(ours _ z).pin p hp rfl) e,n,ne,nf,d⟩
  rcases GI.mp (sub _ z) with z | z
  ·exact ne z
  ·exact nf z
 ·refine I.hok.part fun b o hb q=>k.keep b o (fun z=>hb (I.stkFree b z)) (fun z=>hb (ours b z).free) q
theorem Inv.track {e:GC} {φ:HY->Prop} (I:Inv X pins σ H s) (o:gb X pins H e) (new:aT X.prog X.w (upd H e (.ext φ)) s.heap e (.ext φ)):Inv X pins σ (upd H e (.ext φ)) s:=by
 have ne:∀ b u,H b=some u->b≠e:=fun b u q z=>by rw [z,o.free] at q; cases q
 refine ⟨I.ok,I.os,I.bare,⟨I.base.keep,I.base.slot,fun b ob q n hx=>?_,I.base.there,fun b xs q=>?_,fun b ob u q=>?_,fun b ps q=>?_⟩,I.loc,I.cell,?_,fun x c q=>?_,fun p hp=>?_,fun b u q=>?_,I.len⟩
 ·rw [av (fun z=>by rw [z,o.new] at q; cases q)]; exact I.base.free b ob q n hx
 ·have:=I.base.tups b xs q
  rw [av (ne _ _ this)]; exact this
 ·have:=I.base.frzs b ob u q
  rw [av (ne _ _ this)]; exact this
 ·obtain ⟨m,z⟩:=I.base.tbls b ps q
  exact ⟨m,by rw [av (ne _ _ z)]; exact z⟩
 ·rw [av (Ip o.loc)]; exact I.free
 ·rw [av (o.cell x c q)]; exact I.freeC x c q
 ·obtain ⟨z,n,r⟩:=I.pin p hp
  exact ⟨z,by rw [av (o.pin p hp)]; exact n,r⟩
 ·by_cases z:b=e
  ·subst z; rw [ag] at q; cases q; exact new
  ·rw [av z] at q
   exact (I.hok b u q).stay (fun _ _ _ x=>x) (fun c x=>by rw [av (ne _ _ x)]; exact x) fun c xs x=>by rw [av (ne _ _ x)]; exact x
end
noncomputable def dR (P:GQ) (w:Hh):eh:=fun outer H s E e s'=>∃ (ea T:GC) (cls:Da) (od:Option GC) (H':Hp),e = .ref ea/\s.heap.get? ea=none/\s.heap.get? T=none/\H' ea=none/\H' T=none/\Tr s'.heap ea T cls od /\
 s'.os=s.os/\Lf s'.gens/\Un (bA outer) [] H H' s.heap s'.heap/\bK P w H' s'.heap/\E cls od H'
theorem ie {P:GQ} {w:Hh} {X:Cx}:Passes (dR P w) X E0:=by
 intro _ _ _ _ _ _ _ h
 obtain ⟨_,_,_,_,_,_,_,_,_,_,_,_,_,_,_,q⟩:=h
 exact q.elim
structure kh (X:Cx) (E:XK):Prop where
 ex:X.ex=[]
 rise:∀ {pins:List (GC × Obj)} {σ:St} {H:Hp} {s:Fk} {e:GC} {cls:Da} {oe:Obj} {vs:Array Da} {od:Option GC},Inv X pins σ H s->X.s₀.heap.get? e=none->H e=none->s.heap.get? e=some oe->oe.cls=cls->oe.data = .fields vs->vs[1]? = some .none->(∀ d,od=some d->oe.dict=some d)->E cls od H->X.xe (.ref e) s
 pass:Passes (dR X.prog X.w) X E
theorem kh.made {X:Cx} {E:XK} {pins:List (GC × Obj)} {σ:St} {H:Hp} {s:Fk} {e:GC} {cls:Da} {vs:List Da} {h':HY} (T:kh X E) (I:Inv X pins σ H s) (m:Heap.MadeExcOf s.heap h' e cls vs) (q:E cls none H):X.xe (.ref e) { s with heap:=h' }:=by
 obtain ⟨t,he,htn,ht⟩:=m.there
 exact T.rise (I.kept (t':=s.toks) m.keeps) (I.ours T.ex m.new).1 (I.hok.none m.new) he rfl rfl rfl (fun d z=>by cases z) q
section
variable {P:GQ} {w:Hh} {K:GM} {mg:Str->Option Da} {base:HY} {N:List Str} {qual:Str} {scope:KI} {f:GC} {cd:Da} {A:Hj} {outer:List Env} {s:Fk} {H:Hp} {E:XK}
theorem uW {pins:List (GC × Obj)} {σ:St} {H2:Hp} {s2:Fk} {ea T:GC} {cls:Da} {od:Option GC} (I:Inv (dW (dR P w) P w K mg base N qual scope f cd A outer s H E) pins σ H2 s2) (tr:Tr s2.heap ea T cls od)
  (n1:s.heap.get? ea=none) (n2:s.heap.get? T=none) (f1:H2 ea=none) (f2:H2 T=none) (q:E cls od H2):(dW (dR P w) P w K mg base N qual scope f cd A outer s H E).xe (.ref ea) s2:=by
 have fr:(A.deeper (envOfC qual scope s.heap.objs.size f cd)).frames=some (envOfC qual scope s.heap.objs.size f cd::outer):=I.ok.frames
 have above:s.heap.objs.size<=(envOfC qual scope s.heap.objs.size f cd).locals:=I.ok.above
 have nex:∀ b:GC,b∉(dW (dR P w) P w K mg base N qual scope f cd A outer s H E).ex:=fun b z=>absurd (show b∈([]:List GC) from z) (by simp)
 have sub:∀ b∈bA (envOfC qual scope s.heap.objs.size f cd::outer),b=(envOfC qual scope s.heap.objs.size f cd).locals\/b∈bA outer:=fun b hb=>GI.mp (I.stkSub b hb)
 have out:∀ b∈bA outer,b∈bA (envOfC qual scope s.heap.objs.size f cd::outer):=fun b hb=>by
  unfold bA at hb |-
  rw [Ib]
  split
  ·exact hb
  ·exact GJ _ hb
 refine um fr I.stack rfl tr fun h' T' tr' hT' k=>?_
 have anyk:∀ b o,b≠ea->b≠T->s2.heap.get? b=some o->∃ sl,h'.get? b=some { o with slots:=sl }:=fun b o h1 h2 z=>by
  by_cases hb:b∈bA (envOfC qual scope s.heap.objs.size f cd::outer)
  ·exact k.slot b o hb z
  ·exact ⟨o.slots,k.keep b o hb (by simp [h1,h2]) z⟩
 have ne:∀ b o,s.heap.get? b=some o->b≠ea/\b≠T:=fun b o z=>⟨fun y=>(by rw [y,n1] at z; cases z),fun y=>(by rw [y,n2] at z; cases z)⟩
 refine ⟨ea,T',cls,od,H2,rfl,n1,?_,f1,?_,tr',I.os,I.bare,⟨fun b o z n hb hx=>?_,fun b o z n hb hx=>?_,fun b o z n hx=>I.base.free b o z n (nex b),fun b o z hx=>?_,I.base.tups,I.base.frzs,I.base.tbls⟩,?_,q⟩
 ·rcases hT' with z | z
  ·rw [z]; exact n2
  ·cases y:s.heap.get? T' with
   | none=>rfl
   | some o =>
    obtain ⟨o',e'⟩:=I.base.there T' o y (nex _)
    rw [z] at e'; cases e'
 ·rcases hT' with z | z
  ·rw [z]; exact f2
  ·exact I.hok.none z
 ·refine k.keep b o (fun y=>?_) (by have:=ne b o z; simp [this.1,this.2]) (I.base.keep b o z n hb (nex b))
  rcases sub b y with y | y
  ·exact absurd (GV (GE z) above) (by rw [y]; exact HL _)
  ·exact hb y
 ·obtain ⟨sl,e1⟩:=I.base.slot b o z n hb (nex b)
  obtain ⟨sl',e2⟩:=k.slot b _ (out b hb) e1
  exact ⟨sl',e2⟩
 ·obtain ⟨o',e1⟩:=I.base.there b o z (nex b)
  obtain ⟨sl,e2⟩:=anyk b o' (ne b o z).1 (ne b o z).2 e1
  exact ⟨_,e2⟩
 ·refine I.hok.part fun b o hb z=>k.keep b o (fun y=>hb (I.stkFree b y)) (fun y=>?_) z
  rcases GI.mp y with y | y
  ·exact hb (by rw [y]; exact f1)
  ·exact hb (by rw [show b=T by simpa using y]; exact f2)
theorem fI:kh (dW (dR P w) P w K mg base N qual scope f cd A outer s H E) E where
 ex:=rfl
 rise:=fun {pins σ H1 s1 e cls oe vs od} I2 n1 f1 he hc hd hv hod q=>by
  have fr:(A.deeper (envOfC qual scope s.heap.objs.size f cd)).frames=some (envOfC qual scope s.heap.objs.size f cd::outer):=I2.ok.frames
  have above:s.heap.objs.size<=(envOfC qual scope s.heap.objs.size f cd).locals:=I2.ok.above
  have nex:∀ b:GC,b∉(dW (dR P w) P w K mg base N qual scope f cd A outer s H E).ex:=fun b z=>absurd (show b∈([]:List GC) from z) (by simp)
  have sub:∀ b∈bA (envOfC qual scope s.heap.objs.size f cd::outer),b=(envOfC qual scope s.heap.objs.size f cd).locals\/b∈bA outer:=fun b hb=>GI.mp (I2.stkSub b hb)
  have out:∀ b∈bA outer,b∈bA (envOfC qual scope s.heap.objs.size f cd::outer):=fun b hb=>by
   unfold bA at hb |-
   rw [Ib]
   split
   ·exact hb
   ·exact GJ _ hb
  have n1:s.heap.get? e=none:=n1
  refine pZ (cls:=cls) (od:=od) fr I2.stack rfl he hc hd hv hod fun h2 T' tr' hT' k=>?_
  have anyk:∀ b o,b≠e->s1.heap.get? b=some o->∃ sl,h2.get? b=some { o with slots:=sl }:=fun b o h1 z=>by
   by_cases hb:b∈bA (envOfC qual scope s.heap.objs.size f cd::outer)
   ·exact k.slot b o hb z
   ·exact ⟨o.slots,k.keep b o hb (by simp [h1]) z⟩
  have ne:∀ b o,s.heap.get? b=some o->b≠e:=fun b o z y=>by rw [y,n1] at z; cases z
  refine ⟨e,T',cls,od,H1,rfl,n1,(I2.ours rfl hT').1,f1,I2.hok.none hT',tr',I2.os,I2.bare,⟨fun b o z n hb hx=>?_,fun b o z n hb hx=>?_,fun b o z n hx=>I2.base.free b o z n (nex b),fun b o z hx=>?_,I2.base.tups,I2.base.frzs,I2.base.tbls⟩,?_,q⟩
  ·refine k.keep b o (fun y=>?_) (by simp [ne b o z]) (I2.base.keep b o z n hb (nex b))
   rcases sub b y with y | y
   ·exact absurd (GV (GE z) above) (by rw [y]; exact HL _)
   ·exact hb y
  ·obtain ⟨sl,e1⟩:=I2.base.slot b o z n hb (nex b)
   obtain ⟨sl',e2⟩:=k.slot b _ (out b hb) e1
   exact ⟨sl',e2⟩
  ·obtain ⟨o',e1⟩:=I2.base.there b o z (nex b)
   obtain ⟨sl,e2⟩:=anyk b o' (ne b o z) e1
   exact ⟨_,e2⟩
  ·refine I2.hok.part fun b o hb z=>k.keep b o (fun y=>hb (I2.stkFree b y)) (fun y=>?_) z
   exact hb (by rw [show b=e by simpa using y]; exact f1)
 pass:=fun pins σ H1 s1 e s2 I hcx=>by
  obtain ⟨ea,T,cls,od,H2,rfl,n1,n2,f1,f2,tr,os,bare,un,hok,q⟩:=hcx
  have I2:=I.call' os un hok bare fun b z=>absurd z (by simp)
  exact uW I2 tr (I.ours rfl n1).1 (I.ours rfl n2).1 f1 f2 q
end
section
variable {P:GQ} {w:Hh} {K:GM} {mg:Str->Option Da} {base:HY}
theorem bj.up {CX:eh} {k:Nat} {f:GC} {fd:Hz} {ps:List Str} {sp:Sp} (F:bj P w K mg base jK k f fd ps sp):bj P w K mg base CX k f fd ps sp :=
 ⟨F.len,fun A outer s H args us vs Q E hr he hb hv hs=>Jy (F.run A outer s H args us vs Q E hr he hb hv hs) fun r s' q=>by
  cases r with
  | error e=>exact IA q
  | ok fl=>cases fl<;>exact q⟩
theorem aF.okE {x qual:Str} {st:Il} {f:GC} {fd:Hz} {N ps:List Str} {k:Nat} {sp:Sp} (F:aF K x qual st f fd) (S:ao N ps (ai st)) (len:∀ vs H Q E,sp vs H Q E->vs.length=ps.length)
  (hbody:∀ (cdv:Da) (A:Hj) (outer:List Env) (s:Fk) (H:Hp) (vs:List V) (Q:VK) (E:XK),aQ k (A.deeper (envOfC qual (ai st) s.heap.objs.size f cdv))->sp vs H Q E ->
   ∃ t,c7 (dW (dR P w) P w K mg base N qual (ai st) f cdv A outer s H E) (bJ st) t/\t { nx:=fun _ H'=>Q .non H',rt:=Q } (start N vs) H):bj P w K mg base (dR P w) (k+1) f fd ps sp:=by
 obtain ⟨oc,od,kV,doc,pm,an,cdv,ct,osl,rfl,lk,hcd⟩:=F.ex
 exact wj lk hcd S len fun A outer s H vs Q E hr hsp=>hbody cdv A outer s H vs Q E hr hsp
end
noncomputable abbrev vP:List Da:=[.type "ValueError",.type "Exception",.type "BaseException",.type "object"]
noncomputable abbrev pQ (K:GM) (C:GC):Prop:=W.excIn K C vP "ValueError.__new__" = true
theorem zF {K:GM} {h:HY} {C:GC} (X:K.In h) (q:pQ K C):∃ bm N nm qn bs hd sn sub ab col dd k0 k1 k2 k3 k5 mN,
  h.get? C=some (excClassObj nm qn C N bs bm hd sn sub ab col dd k0 k1 k2 k3 k5 "ValueError.__new__")/\h.Ns N mN/\mN "__init__" = none/\OwnTail h vP bm:=by
 unfold pQ W.excIn at q
 split at q
 ·rename_i dd cd sl ho
  split at q
  ·rename_i C' bm k0 k1 k2 k3 n k5 hm hs
   obtain ⟨q5,q6⟩:=Ik.mp q
   obtain ⟨q4,hok⟩:=Ik.mp q5
   obtain ⟨q3,ht⟩:=Ik.mp q4
   obtain ⟨q2,hdel⟩:=Ik.mp q3
   obtain ⟨e1,e2⟩:=Ik.mp q2
   have e1:=beq_iff_eq.mp e1
   have e2:=beq_iff_eq.mp e2
   have hni:=beq_iff_eq.mp q6
   subst e1 e2
   obtain ⟨nm,bs,mro,ns,qn,hd,sn,sub,ab,col,del⟩:=cd
   have hsl:sl = #[k0,k1,k2,k3,some (.builtin "ValueError.__new__"),k5]:=by
    rw [<- hs]
   have hdel':del=false:=by simpa using hdel
   have hm':mro = .ref C'::bm:=hm
   subst hm' hdel' hsl
   exact ⟨bm,ns,nm,qn,bs,hd,sn,sub,ab,col,dd,k0,k1,k2,k3,k5,_,X _ _ ho,.of_isNs (W.isNs_of_in X hok),W.nsMap_none_of_in X hok hni,W.tail_of_in X ht⟩
  ·cases q
 ·cases q
noncomputable def CB (E:XK) (C:GC) (t:TA):TS:=fun _ σ H=>t σ H fun vs H1=>vs.length<=sizeLine/\E (.ref C) none H1
theorem mP {X:Cx} {E:XK} {C:GC} {x:Str} {np cpos pos:Pos} {a:HZ} {ta:TA} (T:kh X E) (O:pQ X.K C) (hg:Gl X x) (hm:X.mg x=some (.ref C)) (ha:PA X [a] ta) (hc:X.calm=true:=by rfl)
  (hs:starEach [a] X.env=[(false,eval a X.env)]:=by rfl) (hd:(x == ("__debug__" : Str))=false:=by decide):PS X (.Raise (some (.Call (.Name x np) [a] [] cpos)) none pos) (CB E C ta):=by
 intro pins s σ H D I h
 obtain ⟨bm,N,nm,qn,bs,hd',sn,sub,ab,col,dd,k0,k1,k2,k3,k5,mN,hC,hN,hni,TL⟩:=zF I.ok.mod.kin O
 refine wpAny_Raise_call_subT (C:=C) (nm:=nm) (q:=qn) (N:=N) (bs:=bs) (bm:=bm) (hdct:=hd') (sn:=sn) (sub:=sub) (ab:=ab) (col:=col) (dd:=dd) (k0:=k0) (k1:=k1) (k2:=k2) (k3:=k3) (k5:=k5)
  KL (mN:=mN) (TL.hasType KL.hasBase) (I.ok.hd hc) (by rw [hs]; rfl) hni (dn I hg hm ⟨rfl,?_⟩ hd)
 have p:=ha cpos pins s σ H _ I h
 rw [hs] at p |-
 exact Kq (ax p fun us s1 ⟨vs,H1,I1,r,q⟩=>⟨rfl,by rw [<- r.length]; exact q.1,I1.bk _ _ hC,hN.keeps I1.bk,TL.keeps I1.bk,fun h' e m=>T.made I1 m q.2⟩)
noncomputable def Cx.inExc (X:Cx) (e:GC):Cx:={ X with A:=X.A.mark (some (.ref e)),calm:=false,xe:=fun _ _=>False }
section
variable {X:Cx} {pins:List (GC × Obj)} {σ:St} {H:Hp} {s:Fk} {e:GC}
theorem Inv.inExc (I:Inv X pins σ H s) (e:GC):Inv (X.inExc e) pins σ H s :=
 ⟨⟨I.ok.mod,I.ok.kind,I.ok.glob,I.ok.blt,I.ok.above,I.ok.inj,I.ok.has,I.ok.cab,fun z=>(by cases z),I.ok.frames,I.ok.stk,I.ok.exf,I.ok.bs,I.ok.bsz,I.ok.noex,I.ok.exfs,I.ok.funs,I.ok.frf⟩,I.os,I.bare,I.base,I.loc,I.cell,I.free,I.freeC,I.pin,I.hok,I.len⟩
theorem Inv.outExc (ok:X.Ok) (I:Inv (X.inExc e) pins σ H s):Inv X pins σ H s:=⟨ok,I.os,I.bare,I.base,I.loc,I.cell,I.free,I.freeC,I.pin,I.hok,I.len⟩
theorem Inv.unbind {i:Nat} {n:Str} {m:Str->Option Da} {v:Option Da} {h':HY} {t':Nat} (I:Inv X pins σ H s) (hN:X.N.Nodup) (hi:X.N[i]? = some n)
  (hl:∀ (i:Nat) (x:Str) (v:V),X.N[i]? = some x->σ[i]? = some (some v)->kO X.env.scope x->∃ u,RelV v u/\Look X.env s.heap m x u)
  (hn':h'.Ns X.env.locals (fun x=>if x=n then v else m x)) (hs:Jv X.env.locals s.heap h'):Inv X pins (σ.set i none) H { s with heap:=h',toks:=t' }:=by
 have lo:∀ b o,X.s₀.heap.get? b=some o->b≠X.env.locals:=fun b o e z=>by
  exact absurd (GV (GE e) I.ok.above) (by rw [z]; exact HL _)
 have cne:=I.cne
 refine ⟨I.ok,I.os,I.bare,⟨fun b o e n hb hx=>(hs.2 b (lo b o e)).trans (I.base.keep b o e n hb hx),fun b o e n hb hx=>?_,I.base.free,fun b o e hx=>?_,I.base.tups,I.base.frzs,I.base.tbls⟩,
  ⟨_,hn',fun j y v' e1 e2 e3=>?_⟩,fun y c e=>?_,I.free,I.freeC,fun p hp=>?_,I.hok.part fun b o hb q=>(hs.2 b fun z=>hb (by rw [z]; exact I.free)).trans q,by simpa using I.len⟩
 ·obtain ⟨sl,e1⟩:=I.base.slot b o e n hb hx
  exact ⟨sl,(hs.2 b (lo b o e)).trans e1⟩
 ·obtain ⟨o',e1⟩:=I.base.there b o e hx
  exact ⟨o',(hs.2 b (lo b o e)).trans e1⟩
 ·by_cases hj:j=i
  ·subst hj
   by_cases hlt:j < σ.length
   ·rw [J1 hlt] at e2; cases e2
   ·rw [Ie (by simpa using hlt)] at e2; cases e2
  ·rw [JE (Ip hj)] at e2
   obtain ⟨u,r,q⟩:=hl j y v' e1 e2 e3
   have yn:y≠n:=fun e=>hj (iL hN e1 (e▸hi))
   refine ⟨u,r,?_⟩
   rcases q with ⟨k,e⟩ | ⟨k,c,e,z⟩
   ·exact .inl ⟨k,by simp [yn,e]⟩
   ·exact .inr ⟨k,c,e,z.sameBut hs (cne y c e)⟩
 ·obtain ⟨w',z⟩:=I.cell y c e
  exact ⟨w',z.sameBut hs (cne y c e)⟩
 ·obtain ⟨e,n,ne,nf,d⟩:=I.pin p hp
  exact ⟨(hs.2 p.1 ne).trans e,n,ne,nf,d⟩
end
def EK (X:Cx) (e:HZ) (t:XK->TE):Prop:=∀ (E:XK) (σ:St) (pn':List (GC × Obj)) (xe':Da->Fk->Prop),
 (∀ (pins:List (GC × Obj)) (H:Hp) (s:Fk) (v:Da) (s':Fk),Inv { X with pn:=pn',xe:=xe' } pins σ H s->dR X.prog X.w X.stack H s E v s'->xe' v s') ->
 ∀ (pins:List (GC × Obj)) (s:Fk) (H:Hp) (Q:VK),Inv { X with pn:=pn',xe:=xe' } pins σ H s->t E σ H Q->wpAny (model X.prog X.w) X.A (eval e X.env) (EP { X with pn:=pn',xe:=xe' } pins σ Q) xe' s
theorem Ba {X:Cx} {CX:eh} {k:Nat} {f:GC} {fd:Hz} {ps:List Str} {sp:Sp} {E:XK} {pins:List (GC × Obj)} {σ:St} {H:Hp} {s:Fk} {Q:VK} {us:List Da} {vs:List V}
  (F:bj X.prog X.w X.K X.mg X.base CX k f fd ps sp) (hr:aQ k X.A) (hb:Binds X.K fd ps []) (hx:∀ (pins:List (GC × Obj)) (H:Hp) (s:Fk) (v:Da) (s':Fk),Inv X pins σ H s->CX X.stack H s E v s'->X.xe v s')
  (I:Inv X pins σ H s) (r:Vals vs us) (h:sp vs H Q E):wpAny (model X.prog X.w) X.A (call (.ref f) us) (EP X pins σ Q) X.xe s:=by
 have hl:us.length=ps.length:=by rw [<- r.length]; exact F.len _ _ _ _ h
 have hb':=hb s us I.kIn (by rw [Iv]; exact hl)
 rw [Iv] at hb'
 refine LN (Jy (F.run X.A X.stack s H ⟨us,[]⟩ us vs Q E hr I.env0 hb' r h) fun r s' hq=>?_)
 cases r with
 | error v=>exact hx pins H s v s' I hq
 | ok fl=>cases fl<;>first | exact I.after hq | exact IA hq
noncomputable def dY (e:GC) (cls:Da):HO:=.ext fun h=>∃ o,h.get? e=some o/\o.cls=cls/\∃ vs,o.data = .fields vs
noncomputable def rp (K:GM) (Ck:GC) (i:Nat) (tb:XK->TE) (ts:TS):TS:=fun D σ H =>
 tb (fun cls _ H1=>W.exmOne K cls (.ref Ck)=some true/\∀ e,H1 e=none->ts { nx:=fun σ' H'=>D.nx (σ'.set i none) H',rt:=D.rt,bk:=fun σ' H'=>D.bk (σ'.set i none) H',ct:=fun σ' H'=>D.ct (σ'.set i none) H' } (σ.set i (some (.ref e))) (upd H1 e (dY e cls))) σ H fun _ H1=>D.nx σ H1
theorem u9 {X:Cx} {call:HZ} {tb:XK->TE} {c n:Str} {Ck:GC} {i:Nat} {b₀:Il} {suite:List Il} {ts:TS} {ep cp hp pos:Pos}
  (hx:X.ex=[]) (hst:X.stack=X.env::X.outer) (hf:X.env.frame=some X.env.locals) (hN:X.N.Nodup) (hi:X.N[i]? = some n) (hl:X.env.scope.names.lookup n=some .local) (hg:Gl X c) (hm:X.mg c=some (.ref Ck))
  (hb:EK X call tb) (hs:∀ e,c7 (X.inExc e) (b₀::suite) ts) (hsw:swapsWith call none ep.line X.env=pure false:=by rfl) (hd:(c == ("__debug__" : Str))=false:=by decide) :
  PS X (.Try [.Expr call ep] [.ExceptHandler (some (.Name c cp)) (some n) (b₀::suite) hp] [] [] pos) (rp X.K Ck i tb ts):=by
 intro pins s σ H D I h
 refine wpAny_Try_except ?_
 unfold rp at h
 generalize hE:(fun (cls:Da) (_:Option GC) (H1:Hp)=>W.exmOne X.K cls (.ref Ck)=some true/\∀ e,H1 e=none->ts { nx:=fun σ' H'=>D.nx (σ'.set i none) H',rt:=D.rt,bk:=fun σ' H'=>D.bk (σ'.set i none) H',ct:=fun σ' H'=>D.ct (σ'.set i none) H' } (σ.set i (some (.ref e))) (upd H1 e (dY e cls)))=E at h
 have ok':∀ xe',({ X with pn:=X.pn++pins,xe:=xe' }:Cx).Ok:=fun xe' =>
  ⟨I.ok.mod,I.ok.kind,I.ok.glob,I.ok.blt,I.ok.above,I.ok.inj,I.ok.has,I.ok.cab,I.ok.hd,I.ok.frames,I.ok.stk,I.ok.exf,I.ok.bs,I.ok.bsz,I.ok.noex,I.ok.exfs,I.ok.funs,I.ok.frf⟩
 have toX:∀ {xe' pins' σ' H' s'},Inv ({ X with pn:=X.pn++pins,xe:=xe' }:Cx) pins' σ' H' s'->Inv X pins σ' H' s':=fun J =>
  ⟨I.ok,J.os,J.bare,J.base,J.loc,J.cell,J.free,J.freeC,fun p hp=>J.pin p (JD _ hp),J.hok,J.len⟩
 have I':Inv ({ X with pn:=X.pn++pins,xe:=fun v s'=>∃ H1 s1,Inv X pins σ H1 s1/\dR X.prog X.w X.stack H1 s1 E v s' }:Cx) [] σ H s :=
  ⟨ok' _,I.os,I.bare,I.base,I.loc,I.cell,I.free,I.freeC,fun p hp=>I.pin p (by simpa using hp),I.hok,I.len⟩
 have body:=hb E σ (X.pn++pins) (fun v s'=>∃ H1 s1,Inv X pins σ H1 s1/\dR X.prog X.w X.stack H1 s1 E v s') (fun pins' H1 s1 v s' J q=>⟨H1,s1,toX J,q⟩) [] s H _ I' h
 refine Ij (Kk (wpAny_Expr_any (ax body fun v s1 q=>?_) I.quiet hsw):wpAny (model X.prog X.w) X.A (execs [.Expr call ep] X.env) (fun f s1=>f = .next/\∃ H1,Inv X pins σ H1 s1/\D.nx σ H1) _ s) (fun f s1 q=>?_) ?_
 ·obtain ⟨x,H1,J,r,q⟩:=q
  exact Jw ⟨rfl,H1,toX J,q⟩
 ·obtain ⟨rfl,H1,J,q⟩:=q
  exact Jw ⟨σ,H1,J,q⟩
 ·rintro v s' ⟨H1,s1,I1,ea,T,cls,od,H2,rfl,n1,n2,f1,f2,tr,os,bare,un,hok,hE'⟩
  rw [<- hE] at hE'
  obtain ⟨hmt,hsu⟩:=hE'
  have I2:Inv X pins σ H2 s':=I1.call' os un hok bare fun b z=>absurd z (by simp)
  have o1:=I1.ours hx n1
  have o2:=I1.ours hx n2
  have u1:gb X pins H2 ea:=⟨o1.1,f1,o1.2.1,o1.2.2.1,o1.2.2.2⟩
  have u2:gb X pins H2 T:=⟨o2.1,f2,o2.2.1,o2.2.2.1,o2.2.2.2⟩
  have fr:X.A.frames=some (X.env::X.outer):=by rw [<- hst]; exact I.ok.frames
  have fn:s'.heap.FunFrames X.base (X.env::X.outer):=by rw [<- hst]; exact I2.stack
  refine wM fr fn hf tr fun h3 T3 tr3 hT3 k3=>?_
  have I3:Inv X pins σ H2 { s' with heap:=h3 }:=I2.exc hx (ch:=[ea,T]) (fun b hb=>by
   rcases GI.mp hb with z | z
   ·rw [z]; exact u1
   ·rw [show b=T by simpa using z]; exact u2) (by rw [hst]; exact k3)
  have u3:gb X pins H2 T3:=by
   rcases hT3 with z | z
   ·rw [z]; exact u2
   ·have o3:=I2.ours hx z
    exact ⟨o3.1,I2.hok.none z,o3.2.1,o3.2.2.1,o3.2.2.2⟩
  have LT:W.Looks (model X.prog X.w) h3 (typeOf (.ref ea)) cls:=by
   obtain ⟨oe,vs,oT,ts,he,hc,_⟩:=tr3
   subst hc
   exact (W.Looks.ld he).andThen .now
  refine wpAny_handleBy_cons (codeAny_handlers_test (dn (I3.inExc ea) hg hm ?_ hd)) (by intro q; cases q)
  refine (W.exm_one (M:=model X.prog X.w) I3.kIn LT hmt) _ _ _ _ (fun _ _ q=>q) ?_
  show codeAny _ _ (.handlers (.ref ea) [.ExceptHandler none (some n) (b₀::suite) hp] X.env) _ _
  refine codeAny_handlers_suite_as (uJ (base:=X.base) (l:=X.stack) I3.stack tr3 fun h5 T5 tr5 hT5 k5=>?_)
  have I5:Inv X pins σ H2 { s' with heap:=h5 }:=Inv.exc (s:={ s' with heap:=h3 }) I3 hx (ch:=[ea,T3]) (fun b hb=>by
   rcases GI.mp hb with z | z
   ·rw [z]; exact u1
   ·rw [show b=T3 by simpa using z]; exact u3) k5
  refine gB (X:=X.inExc ea) (I5.inExc ea) hN hi (.inl hl) (v:=.ref ea) (u:=.ref ea) rfl (fun s6 J6 ⟨ad,sb,had⟩=>?_) (.inr hl)
  have hne:ea≠ad:=by
   rcases had with z | z
   ·rw [z]; exact u1.loc
   ·exact fun y=>u1.cell n ad z y.symm
  have new:aT X.prog X.w (upd H2 ea (dY ea cls)) s6.heap ea (dY ea cls):=by
   obtain ⟨oe,vs,oT,ts,he,hc,hd,_⟩:=tr5
   have he6:s6.heap.get? ea=some oe:=(sb.2 ea hne).trans he
   refine ⟨⟨oe,he6,hc,vs,hd⟩,⟨oe,he6⟩,?_⟩
   rintro h1 h2 ⟨o,q,r⟩ k
   exact ⟨o,k o q,r⟩
  have J7:Inv (X.inExc ea) pins (σ.set i (some (.ref ea))) (upd H2 ea (dY ea cls)) s6:=J6.track ⟨u1.new,u1.free,u1.loc,u1.cell,u1.pin⟩ new
  refine Ij (hs ea pins s6 _ _ _ J7 (hsu ea f1)) (fun f s7 q=>?_) (fun _ _ z=>z.elim)
  have go:∀ {σ':St} {H':Hp},Inv (X.inExc ea) pins σ' H' s7->∀ (R:Fk->Prop),(∀ s8,Inv X pins (σ'.set i none) H' s8->R s8)->wpAny (model X.prog X.w) X.A (do bindName X.env n .none; unbindBehindTheSuite X.env n hp) (fun _ s8=>R s8) X.xe s7:=fun {σ' H'} J R hR=>by
   have J0:Inv X pins σ' H' s7:=J.outExc I.ok
   obtain ⟨m,hn,hlk⟩:=J0.loc
   exact wpAny_nameGoes_keeps hl hn (by rw [I.ok.kind]; rfl) fun h' v hn' hs'=>hR _ (J0.unbind hN hi hlk hn' hs')
  cases f with
  | next =>
   obtain ⟨σ',H',J,q⟩:=q
   exact go J _ fun s8 J8=>⟨_,H',J8,q⟩
  | brk =>
   obtain ⟨σ',H',J,q⟩:=q
   exact go J _ fun s8 J8=>⟨_,H',J8,q⟩
  | cont =>
   obtain ⟨σ',H',J,q⟩:=q
   exact go J _ fun s8 J8=>⟨_,H',J8,q⟩
  | ret u =>
   obtain ⟨v,σ',H',J,r,q⟩:=q
   exact go J _ fun s8 J8=>⟨v,_,H',J8,r,q⟩
end L2
namespace L2
open PySem PySem.Spec PyProof.Rows
structure Def (P:GQ) (w:Hh) (K:GM) (mg:Str->Option Da) (base:HY) (x:Str) (ps:List Str) (k:Nat) (sp:Sp) (f:GC) (fd:Hz):Prop where
 ok:bj P w K mg base (dR P w) k f fd ps sp
 b:Binds K fd ps []
 kp:W.keepIn K (.ref f)=true
 m:mg x=some (.ref f)
section
variable {X:Cx} {f:GC} {fd:Hz} {ps:List Str} {sp:Sp} {x:Str} {p pos:Pos} {e:HZ} {es:List HZ} {t:TA} {j k:Nat}
theorem aI (D:Def X.prog X.w X.K X.mg X.base x ps j sp f fd) (hr:aQ k X.A) (ha:PA X (e::es) t) (hjk:j<=k:=by decide) (hg:Gl X x:=by rfl)
  (hdb:(x == ("__debug__" : Str))=false:=by decide) (he:starEach (e::es) X.env=(false,eval e X.env)::starEach es X.env:=by rfl) (hpl:(backTo pos (starEach es X.env)).any (·.1)=false:=by rfl) :
  PE X (.Call (.Name x p) (e::es) [] pos) (fY sp [] E0 t):=oz D.ok (hr.mono hjk) hg D.m D.kp D.b .nil ie ha hdb he hpl
theorem gK (D:Def X.prog X.w X.K X.mg X.base x ps j sp f fd) (hr:aQ k X.A) (hjk:j<=k:=by decide) (hg:Gl X x:=by rfl) (hdb:(x == ("__debug__" : Str))=false:=by decide) :
  PE X (.Call (.Name x p) [] [] pos) (fY sp [] E0 gk):=vB D.ok (hr.mono hjk) hg D.m D.kp D.b .nil ie hdb
theorem AV {E:XK} (T:kh X E) (D:Def X.prog X.w X.K X.mg X.base x ps j sp f fd) (hr:aQ k X.A) (ha:PA X (e::es) t) (hjk:j<=k:=by decide) (hg:Gl X x:=by rfl)
  (hdb:(x == ("__debug__" : Str))=false:=by decide) (he:starEach (e::es) X.env=(false,eval e X.env)::starEach es X.env:=by rfl) (hpl:(backTo pos (starEach es X.env)).any (·.1)=false:=by rfl) :
  PE X (.Call (.Name x p) (e::es) [] pos) (fY sp [] E t):=oz D.ok (hr.mono hjk) hg D.m D.kp D.b .nil T.pass ha hdb he hpl
theorem xx (D:Def X.prog X.w X.K X.mg X.base x ps j sp f fd) (hr:aQ k X.A) (ha:∀ (pn':List (GC × Obj)) (xe':Da->Fk->Prop),PA { X with pn:=pn',xe:=xe' } (e::es) t) (hjk:j<=k:=by decide) (hg:Gl X x:=by rfl)
  (hdb:(x == ("__debug__" : Str))=false:=by decide) (he:starEach (e::es) X.env=(false,eval e X.env)::starEach es X.env:=by rfl) (hpl:(backTo pos (starEach es X.env)).any (·.1)=false:=by rfl) :
  EK X (.Call (.Name x p) (e::es) [] pos) (fun E=>fY sp [] E t):=by
 intro E σ pn' xe' hp pins s H Q I h
 refine HM (dn (X:={ X with pn:=pn',xe:=xe' }) I hg D.m ?_ hdb)
 refine W.callWith_K (h₀:=X.base) I.ok.mod.kin D.kp (ax (ha pn' xe' pos pins s σ H _ I h) fun us s1 ⟨vs,H1,I1,r,q⟩=>⟨I1.kIn,?_⟩) he hpl
 have q:sp (vs++[]) H1 Q E:=q
 rw [Iv] at q
 exact Ba (X:={ X with pn:=pn',xe:=xe' }) D.ok (hr.mono hjk) D.b hp I1 r q
end
theorem aV:bootBuiltins "isinstance" = some (.builtin "isinstance"):=by decide +kernel
theorem fu:bootBuiltins "list" = some (.type "list"):=by decide +kernel
theorem lW:bootBuiltins "str" = some (.type "str"):=by decide +kernel
theorem t9:bootBuiltins "min" = some (.builtin "min"):=by decide +kernel
theorem sW:bootBuiltins "max" = some (.builtin "max"):=by decide +kernel
theorem BZ:bootBuiltins "sum" = some (.builtin "sum"):=by decide +kernel
theorem cu:bootBuiltins "len" = some (.builtin "len"):=by decide +kernel
theorem ae.upd {H H':Hp} (h:ae H H') {p:GC} (n:H p=none) (o:HO):ae H (L2.upd H' p o):=fun b u q=>by
 rw [av (az q n)]; exact h b u q
theorem ae.new {H H':Hp} (h:ae H H') {p:GC} (n:H' p=none) (o:HO):ae H (L2.upd H' p o):=h.trans fun b u q=>by
 rw [av (az q n)]; exact q
theorem sz {n:Nat} (h:n<=1000000):n<=sizeLine:=Hm h (by decide)
theorem sA {n:Nat} (h:n<=1000000):n < sizeLine:=JR h (by decide)
theorem m5 {K:GM}:W.kitOne K (.type "str") (.type "str")=some true:=by rfl
theorem eE {ns:List Int} {i:Int} (h0:0<=i) (h1:i < (ns.length:Int)):eV (ns.map V.int) i=some (.int (ns.getD i.toNat 0)):=by
 have hk:i.toNat < ns.length:=by lia
 have ek:i=((i.toNat:Nat):Int):=by lia
 have q:eV (ns.map V.int) ((i.toNat:Nat):Int)=some (.int (ns.getD i.toNat 0)):=g7 (by rw [Hk,FB,Do hk]<;>rfl)
 rw [<- ek] at q
 exact q
end L2
namespace L2
open PySem PySem.Spec PyProof.Rows
theorem gI {σ:St} {H:Hp} {F:Bool->Hp->Prop} (h:F true H):wC σ H F:=h
theorem iS {X:Cx} {K:GM} (h:X.K=K):rj X (zb K):=h▸aZ
theorem pm {j:Int} (h:0 < j):0 < j:=h
noncomputable def dD (ns:List Int) (lo hi:Option Int):List Int:=(ns.drop (HT.sIx ns.length 0 lo)).take (HT.sIx ns.length ns.length hi - HT.sIx ns.length 0 lo)
theorem iJ (ns:List Int) (lo hi:Option Int):dU (ns.map V.int) lo hi=(dD ns lo hi).map V.int:=by
 unfold dU dD
 rw [FS,List.map_take,List.map_drop]
theorem c6 {ns:List Int} {i:Nat} {x:V} (h:(ns.map V.int)[i]? = some x):∃ c,x = .int c:=by
 rw [Hk] at h
 cases e:ns[i]? with
 | none=>rw [e] at h; cases h
 | some c=>rw [e] at h; cases h; exact ⟨c,rfl⟩
end L2
namespace L2
open PySem PySem.Spec PyProof.Rows
noncomputable def FF (t u:TS):TS:=fun D σ H=>∃ P:St->Hp->Prop,t { D with nx:=P } σ H/\∀ σ' H',P σ' H'->u D σ' H'
theorem j5 {X:Cx} {st:Il} {rest:List Il} {t u:TS} (h1:PS X st t) (h2:c7 X rest u):c7 X (st::rest) (FF t u):=by
 intro pins s σ H D I h
 obtain ⟨P,ha,hb⟩:=h
 refine Kk (ax (h1 pins s σ H { D with nx:=P } I ha) fun f s1 q=>?_)
 cases f with
 | next =>
  obtain ⟨σ',H',I',q⟩:=q
  exact h2 pins s1 σ' H' D I' (hb σ' H' q)
 | ret v=>exact q
 | brk=>exact q
 | cont=>exact q
theorem Az {b b':Bool} {A B:Prop} (e:b=b') (h:if b'=true then A else B):if b=true then A else B:=by rw [e]; exact h
theorem cw {c A B:Prop} [Decidable c] (hc:c) (h:A):if decide c=true then A else B:=by rw [decide_eq_true hc]; exact aW h
theorem b6 {c A B:Prop} [Decidable c] (hc:¬ c) (h:B):if decide c=true then A else B:=by rw [decide_eq_false hc]; exact aS h
theorem om {n:Nat} {i:Int} (h0:0<=i) (h1:i < n):jE n i=some i.toNat:=by unfold jE; rw [if_pos h0,if_pos h1]
noncomputable def sgn (c:Nat):V:=.str ⟨#[c]⟩
theorem Gj:(tz "(")=⟨#[40]⟩:=by decide +kernel
theorem FW:(tz ")")=⟨#[41]⟩:=by decide +kernel
theorem EA:V.str (tz "(")=sgn 40:=by rw [Gj]; rfl
theorem DI:V.str (tz ")")=sgn 41:=by rw [FW]; rfl
theorem n6 {c d:Nat} (h:sgn c=sgn d):c=d:=by
 unfold sgn at h
 injection h with h
 injection h with h
 have h2:=congrArg Array.toList h
 simpa using h2
theorem D1 (c:Nat):decide (V.str ⟨#[c]⟩=V.str (tz "("))=decide (c=40):=by
 rw [EA]
 show decide (sgn c=sgn 40)=_
 by_cases h:c=40
 ·subst h; rw [decide_eq_true rfl,decide_eq_true rfl]
 ·rw [decide_eq_false h,decide_eq_false fun z=>h (n6 z)]
theorem Ez (c:Nat):decide (V.str ⟨#[c]⟩=V.str (tz ")"))=decide (c=41):=by
 rw [DI]
 show decide (sgn c=sgn 41)=_
 by_cases h:c=41
 ·subst h; rw [decide_eq_true rfl,decide_eq_true rfl]
 ·rw [decide_eq_false h,decide_eq_false fun z=>h (n6 z)]
theorem uC {x:Str} {i c:Nat} (h:x.cps[i]? = some c):x.cps.toList.drop i=c::x.cps.toList.drop (i+1):=by
 have h':x.cps.toList[i]? = some c:=by simpa using h
 obtain ⟨hi,e⟩:=GD.mp h'
 rw [HI hi,e]
theorem vH (x:Str):x.cps.toList.drop x.cps.size=[]:=Jr (by simp)
theorem yl (x:Str):x.cps.toList.length=x.length:=by simp [K9]
theorem ni (ns:List Int) (lo hi:Option Int):(dD ns lo hi).length<=ns.length:=by
 unfold dD; rw [Hw,Lq]; lia
end L2
namespace Ck
noncomputable def wD:Nat->List Int
 | 0=>[1]
 | k+1=>wD k++[((GK (k+1)).map fun j=>(wD k).getD j 0*(wD k).getD (k - j) 0).sum]
noncomputable def sh (k:Nat):Int:=(wD k).getD k 0
end Ck
namespace Ck
noncomputable def r:Nat->Nat->Int
 | 0,_=>1
 | _+1,0=>0
 | u+1,d+1=>if d < u then 0 else r u (d+1)+r (u+1) d
noncomputable def row (n u:Nat):List Int:=(GK (n+1 - u)).map fun i=>r u (u+i)
noncomputable def pw (a:Int):Nat->Int
 | 0=>1
 | k+1=>pw a k*a
end Ck
namespace Ck
noncomputable def c8:Nat->List Nat->Bool
 | k,[]=>k == 0
 | k,c::t=>if c=40 then c8 (k+1) t else if c=41 then (match k with | 0=>false | k+1=>c8 k t) else false
theorem Bc (k:Nat) (t:List Nat):c8 k (40::t)=c8 (k+1) t:=by
 conv=>lhs; unfold c8
 rw [if_pos rfl]
theorem vF (k:Nat) (t:List Nat):c8 (k+1) (41::t)=c8 k t:=by
 conv=>lhs; unfold c8
 rw [if_neg (by decide),if_pos rfl]
theorem tE (t:List Nat):c8 0 (41::t)=false:=by
 unfold c8
 rw [if_neg (by decide),if_pos rfl]
theorem rT {k c:Nat} {t:List Nat} (h1:¬ c=40) (h2:¬ c=41):c8 k (c::t)=false:=by
 unfold c8
 rw [if_neg h1,if_neg h2]
theorem xy (k:Nat):c8 k []=(k == 0):=by unfold c8; rfl
inductive Good:Nat->Nat->List Nat->Prop
 | nil:Good 0 0 []
 | up {u d:Nat} {t:List Nat} (h:Good u d t) (le:u+1<=d):Good (u+1) d (40::t)
 | down {u d:Nat} {t:List Nat} (h:Good u d t) (le:u<=d):Good u (d+1) (41::t)
noncomputable def lt:List Nat->List Nat->Bool
 | c::s,e::t=>if c=e then lt s t else c == 40
 | _,_=>false
end Ck
namespace Ck
open PySem
theorem xI (x:Str):x.cps.toList.length=x.length:=by simp [K9]
noncomputable def ix (n d:Nat):Option Int->Nat
 | none=>d
 | some v=>if v < 0 then (v+(n:Int)).toNat else min v.toNat n
end Ck
namespace Ck
open PySem L2
end Ck
namespace L2
open PySem
theorem tU (ns:List Int):dD ns (some 1) none=ns.drop 1:=by
 unfold dD
 have e1:HT.sIx ns.length 0 (some 1)=min 1 ns.length:=HT.sIx_nat _ _ 1
 rw [e1,HT.sIx_none]
 cases ns with
 | nil=>rfl
 | cons a r =>
  have e2:min 1 (a::r).length=1:=by simp
  rw [e2]
  exact Hi (by simp)
end L2
namespace Ck
open PySem L2
structure Tab (H:Hp) (p:GC) (n m:Nat) (T:List GC):Prop where
 at_:H p=some (.lst (T.map V.ref))
 len:T.length=m
 rows:∀ (u:Nat) (t:GC),T[u]? = some t->H t=some (.lst ((row n u).map V.int))
end Ck
namespace L2
open PySem PySem.Spec PyProof.Rows
theorem k6 {l:List Nat}:∀ {us:List Da},us.length=l.length->(∀ (j:Nat) v,us[j]? = some v->∃ c u,l[j]? = some c/\v = .str ⟨#[c]⟩ u)->Vals (l.map sgn) us:=by
 induction l with
 | nil=>intro us h _; rw [Jn h]; exact .nil
 | cons c l ih =>
  intro us h k
  cases us with
  | nil=>cases h
  | cons v us =>
   obtain ⟨c',u,e1,e2⟩:=k 0 v rfl
   have:c=c':=by simpa using e1
   subst this
   exact .cons ⟨u,e2⟩ (ih (by simpa using h) fun j w e=>by
    obtain ⟨c2,u2,f1,f2⟩:=k (j+1) w (by simpa using e)
    exact ⟨c2,u2,by simpa using f1,f2⟩)
theorem qx {X:Cx} (hc:X.calm=true):cb X (.type "list") (fun xs H Q=>∃ z,xs=[.str z]/\z.length<=sizeLine/\∀ l,H l=none->Q (.ref l) (upd H l (.lst (z.cps.toList.map sgn)))):=by
 intro pins s σ H xs us Q I r h
 obtain ⟨z,rfl,hz,q⟩:=h
 obtain ⟨u,rfl,t,rfl⟩:=vals1 r
 refine PySem.call_list_str (I.ok.hd hc) z t (fun h' tk acc' c' hk he hacc=>?_) hz
 have hl:acc'.toList.length=z.cps.toList.length:=by simpa using hacc.1
 refine ⟨.ref s.heap.objs.size,_,I.laid (t':=tk) (o:=.lst (z.cps.toList.map sgn)) hk (GF _) ⟨?_,acc'.toList,c',k6 hl fun j v e=>?_,he⟩,rfl,q _ (I.hok.fresh (GF _))⟩
 ·rw [FS,yl]; exact hz
 ·obtain ⟨c,u,e1,e2⟩:=hacc.2 j v (by simpa using e)
  exact ⟨c,u,by simpa using e1,e2⟩
theorem xA {x:Str} {i:Int} {c:Nat} (h0:0<=i) (h:x.cps.toList[i.toNat]? = some c):eV x.cps.toList i=some c:=by
 have q:=g7 (xs:=x.cps.toList) (j:=i.toNat) h
 rw [show ((i.toNat:Nat):Int)=i by lia] at q
 exact q
end L2
namespace Ck
open PySem L2
end Ck
namespace L2
open PySem PySem.Spec PyProof.Rows
noncomputable def nQ (lo:Int) (n:Nat):It:=⟨fun i _=>i < n,fun i H x H'=>H'=H/\x = .int (lo - i),fun i _=>n<=i⟩
theorem su {P:GQ} {w:Hh} {K:GM} {tg:HZ} (it:GC) (lo:Int) (n:Nat):Turn P w K tg (nQ lo n) [it] it (fun i h=>LZ h it (lo+(i:Nat)*(-1)) ((n:Int) - (i:Nat)) (-1)) where
 mem:=by simp
 obj:=fun i h st b hb=>by
  have e:b=it:=by simpa using hb
  subst e
  exact ⟨_,st,fun v z=>by
   have z':Data.fields _=Data.cell v:=z
   cases z'⟩
 keep:=fun i h h' st k=>k it (by simp) _ st
 item:=by
  intro X hP hw hK hc i pins s σ H E I hf st hg
  subst hP hw hK
  obtain ⟨f0,f1,f2,f3,f4,f5⟩:=hf it (by simp)
  refine (Walks.range (prog:=X.prog) (w:=X.w) (I.ok.hd hc) it lo (-1) n).item i s _ _ hg st fun v h' tk hv st' kk=>?_
  obtain ⟨t,rfl⟩:=hv
  have I1:Inv X pins σ H { s with heap:=h',toks:=tk }:=I.turned (fun b o hb e=>kk b o (by simpa using hb) e) f0 f1 f3 f4 f5
  refine ⟨_,rfl,lD (s:={ s with heap:=h',toks:=tk }) (n:="range_iterator") st' rfl rfl (by decide) ⟨.int (lo - i),H,I1,⟨t,?_⟩,⟨rfl,rfl⟩,st',fun b hb=>(hf b hb).1⟩⟩
  rw [show lo+(i:Int)*(-1)=lo - (i:Int) by lia]
 done:=by
  intro X hP hw hK hc i pins s σ H E I hf st hg
  subst hP hw hK
  obtain ⟨f0,f1,f2,f3,f4,f5⟩:=hf it (by simp)
  exact wpAny_pyNext_range_end (I.ok.hd hc) st (by have:n<=i:=hg; lia) fun h' eb=>⟨rfl,I.turned (t':=s.toks) (fun b o hb e=>eb b o hb e) f0 f1 f3 f4 f5⟩
 self:=fun _ _ _ _ _ st h=>wpAny_pyIter_rangeiter st h
section
variable {X:Cx} {tg:HZ}
theorem wY {pins:List (GC × Obj)} {σ:St} {H:Hp} {s:Fk} {R:It->Hp->Prop} {E:Da->Fk->Prop} {lo hi:Int} {t u v:Tok} {tk:Nat} (I:Inv X pins σ H s) (h1 : -(2 ^ 62)<=lo) (h2:lo < 2 ^ 62) (h3 : -(2 ^ 62)<=hi) (h4:hi < 2 ^ 62)
  (q:R (nQ lo (lo - hi).toNat) H):wpAny (model X.prog X.w) X.A (pyIter (.ref s.heap.objs.size)) (wb X pins σ tg R) E { s with heap:=s.heap.push { cls:=.type "range",data:=.fields #[.int lo t,.int hi u,.int (-1) v] },toks:=tk }:=by
 refine wpAny_pyIter_range (Mp ..) (W.small_down h1 h2 h3 h4) ?_
 have I1:Inv X pins σ H { s with heap:=s.heap.push { cls:=.type "range",data:=.fields #[.int lo t,.int hi u,.int (-1) v] },toks:=tk }:=I.kept fun b o e=>FM _ e
 refine ⟨(s.heap.push { cls:=.type "range",data:=.fields #[.int lo t,.int hi u,.int (-1) v] }).objs.size,[(s.heap.push { cls:=.type "range",data:=.fields #[.int lo t,.int hi u,.int (-1) v] }).objs.size],_,_,H,rfl,
  I1.kept (t':=tk) fun b o e=>FM _ e,su _ lo (lo - hi).toNat,?_,fun b hb=>?_,q⟩
 ·have e1:lo+((0:Nat):Int)*(-1)=lo:=by simp
  have e2:(((lo - hi).toNat:Nat):Int) - ((0:Nat):Int)=Builtin.Range.rangeSize lo hi (-1):=by rw [W.rangeSize_downNat]; simp
  show LZ _ _ (lo+((0:Nat):Int)*(-1)) ((((lo - hi).toNat:Nat):Int) - ((0:Nat):Int)) (-1)
  rw [e1,e2]
  exact GO _ rfl
 ·have e:b=(s.heap.push { cls:=.type "range",data:=.fields #[.int lo t,.int hi u,.int (-1) v] }).objs.size:=by simpa using hb
  subst e
  exact I1.fpOk (GF _) (I1.hok.fresh (GF _))
noncomputable def Ex (ta:TA):TI:=fun σ H R=>ta σ H fun vs H1=>∃ i j:Int,vs=[.int i,.int j,.int (-1)]/\(-(2 ^ 62)<=i/\i < 2 ^ 62/\-(2 ^ 62)<=j/\j < 2 ^ 62)/\R (nQ i (i - j).toNat) H1
theorem xX {a b c:HZ} {ta:TA} {p pos:Pos} (hg:Gl X "range") (hm:X.mg "range" = none) (ha:PA X [a,b,c] ta) (hs:starEach [a,b,c] X.env=[(false,eval a X.env),(false,eval b X.env),(false,eval c X.env)]:=by rfl) (hs2:starEach [b,c] X.env=[(false,eval b X.env),(false,eval c X.env)]:=by rfl) :
  PI X tg (.Call (.Name "range" p) [a,b,c] [] pos) (Ex ta):=by
 intro pins s σ H R I h
 refine Call_ (bX I hg hm LM (G9 (ax (ha pos pins s σ H _ I h) fun us s1 ⟨vs,H1,I1,r1,q1⟩=>?_) (by rw [hs,hs2]) (by rw [hs2]; rfl)))
 obtain ⟨i,j,e,⟨q1,q2,q3,q4⟩,q⟩:=q1
 subst e
 obtain ⟨u1,u2,u3,rfl,⟨t,rfl⟩,⟨t',rfl⟩,t'',rfl⟩:∃ u1 u2 u3,us=[u1,u2,u3]/\RelV (.int i) u1/\RelV (.int j) u2/\RelV (.int (-1)) u3:=by
  cases r1 with
  | cons r rr=>cases rr with
   | cons r' rr=>cases rr with
    | cons r'' rr=>cases rr; exact ⟨_,_,_,rfl,r,r',r''⟩
 exact call_range_3 (by decide) (wY I1 q1 q2 q3 q4 q) (.inl (PyProof.noPylong_small (by decide)))
theorem uY {lo:Int} {n:Nat} {g:TG} {tb:TS} {D:Ends} {σ:St} {H:Hp} (Pv:Nat->St->Hp->Prop) (h0:Pv 0 σ H)
  (hs:∀ i σ H,i < n->Pv i σ H->g (.int (lo - i)) σ H fun σ2 H2=>tb { D with nx:=Pv (i+1),ct:=Pv (i+1),bk:=D.nx } σ2 H2) (hd:∀ σ H,Pv n σ H->D.nx σ H) :
  ∃ W:Nat->Nat->St->Hp->Prop,(∃ m,W 0 m σ H)/\∀ i m σ H,W i m σ H ->
   ((nQ lo n).stop i H/\D.nx σ H)\/((nQ lo n).go i H/\∃ N:St->Hp->Prop,(∀ σ' H',N σ' H'->∃ m',m' < m/\W (i+1) m' σ' H')/\∀ x H',(nQ lo n).yld i H x H'->g x σ H' fun σ2 H2=>tb { D with nx:=N,ct:=N,bk:=D.nx } σ2 H2):=by
 refine ⟨fun i m σ H=>m=n - i/\i<=n/\Pv i σ H,⟨n,by simp,GG _,h0⟩,?_⟩
 rintro i m σ H ⟨rfl,hi,p⟩
 by_cases hlt:i < n
 ·refine .inr ⟨hlt,Pv (i+1),fun σ' H' p'=>⟨n - (i+1),by lia,rfl,hlt,p'⟩,fun x H' y=>?_⟩
  obtain ⟨rfl,rfl⟩:=y
  exact hs i σ _ hlt p
 ·have e:i=n:=by lia
  subst e
  exact .inl ⟨GF _,hd σ H p⟩
end
noncomputable def fL:List V->List V->Bool
 | [],[]=>true
 | x::xs,y::ys=>eR x y&&fL xs ys
 | _,_=>false
theorem j9:∀ {xs ys:List V},xs.length≠ys.length->fL xs ys=false
 | [],[],h=>absurd rfl h
 | [],_::_,_=>rfl
 | _::_,[],_=>rfl
 | x::xs,y::ys,h=>by
  rw [fL,j9 (xs:=xs) (ys:=ys) (by simpa using h),KZ]
theorem ke:∀ {xs ys:List V},xs.length=ys.length->(GK xs.length).all (fun j=>eR (xs.getD j .non) (ys.getD j .non))=fL xs ys
 | [],[],_=>rfl
 | x::xs,y::ys,h=>by
  rw [fL,<- ke (xs:=xs) (ys:=ys) (by simpa using h),Hq,J3,Mc,JP]
  rfl
noncomputable def vd (K:GM) (neg:Bool):R2:=fun x y H Q=>∃ a b xs ys,x = .ref a/\y = .ref b/\aq K H a xs/\aq K H b ys/\xs.all dB=true/\ys.all dB=true/\Q (.bl (if neg then !fL xs ys else fL xs ys)) H
section
variable {X:Cx}
theorem items_eqAt {A:Hj} {s:Fk} {xs ys:List V} {us vs:List Da} (r:Vals xs us) (r':Vals ys vs) (fx:xs.all dB=true) (fy:ys.all dB=true) :
  ∀ j (h1:j < us.toArray.size) (h2:j < vs.toArray.size),SeqAt.EqAt A s us.toArray[j] vs.toArray[j] (eR (xs.getD j .non) (ys.getD j .non)):=fun j h1 h2=>by
 have l1:=r.length
 have l2:=r'.length
 have h1':j < us.length:=by simpa using h1
 have h2':j < vs.length:=by simpa using h2
 obtain ⟨u,eu,ru⟩:=r.get (Do (show j < xs.length by lia))
 obtain ⟨v,ev,rv⟩:=r'.get (Do (show j < ys.length by lia))
 have e1:us.toArray[j]=u:=by
  rw [Do h1'] at eu
  simpa using eu
 have e2:vs.toArray[j]=v:=by
  rw [Do h2'] at ev
  simpa using ev
 rw [e1,e2]
 have g1:xs.getD j .non=xs[j]'(by lia):=by rw [FB,Do (show j < xs.length by lia)]; rfl
 have g2:ys.getD j .non=ys[j]'(by lia):=by rw [FB,Do (show j < ys.length by lia)]; rfl
 rw [g1,g2]
 exact rX ru rv (GW.mp fx _ (JI _)) (GW.mp fy _ (JI _))
theorem fW (hu:X.A.units < cLine):bC X (compareOp .Eq) (vd X.K false):=by
 intro pins s σ H x y v u Q I rx ry h
 obtain ⟨a,b,xs,ys,rfl,rfl,ha,hb,fx,fy,q⟩:=h
 cases rx
 cases ry
 obtain ⟨us,r,pl,hz⟩:=I.list ha
 obtain ⟨vs,r',pl',hz'⟩:=I.list hb
 have l1:=r.length
 have l2:=r'.length
 by_cases hl:xs.length=ys.length
 ·refine SeqAt.eq_listAt (e:=fun j=>eR (xs.getD j .non) (ys.getD j .non)) pl.isList pl'.isList (by simp; lia) hu (items_eqAt r r' fx fy) ⟨.bl _,H,I,rfl,?_⟩
  rw [show us.toArray.size=xs.length by simp; lia,ke hl]
  exact q
 ·refine Lk pl.isList pl'.isList (by simp; lia) hu ⟨.bl false,H,I,rfl,?_⟩
  rw [<- j9 hl]
  exact q
theorem gp (hu:X.A.units < cLine):bC X (compareOp .NotEq) (vd X.K true):=by
 intro pins s σ H x y v u Q I rx ry h
 obtain ⟨a,b,xs,ys,rfl,rfl,ha,hb,fx,fy,q⟩:=h
 cases rx
 cases ry
 obtain ⟨us,r,pl,hz⟩:=I.list ha
 obtain ⟨vs,r',pl',hz'⟩:=I.list hb
 have l1:=r.length
 have l2:=r'.length
 by_cases hl:xs.length=ys.length
 ·refine Md (e:=fun j=>eR (xs.getD j .non) (ys.getD j .non)) pl.isList pl'.isList (by simp; lia) hu (items_eqAt r r' fx fy) _ _ _ _ ⟨.bl _,H,I,rfl,?_⟩
  rw [show us.toArray.size=xs.length by simp; lia,ke hl]
  exact q
 ·refine KM pl.isList pl'.isList (by simp; lia) hu _ _ _ _ ⟨.bl true,H,I,rfl,?_⟩
  have z:=j9 hl
  rw [z] at q
  exact q
end
end L2
namespace L2
open PySem PySem.Spec PyProof.Rows PySem.W Builtin Builtin.ObjectAttr Builtin.Getset_descriptor
noncomputable def qo (K:LS) (C:GC):Bool :=
 findIn K (.ref C) "__getattribute__" == some (some (.builtin "BaseException.__getattribute__"))&&findIn K (.ref C) "__getattr__" == some none &&
 findIn K (.ref C) "__class__" == some (some (.builtin "object.__class__"))&&specialIn K (.builtin "object.__class__") "__get__" == some (some (.builtin "getset_descriptor.__get__")) &&
 takesIn K (.builtin "object.__class__") == some true&&mroIn K C (.type "object") == some true&&mroIn K C (.type "BaseException") == some true&&(clsIn K C).isSome
structure dX (K:LS) (C:GC):Prop where
 ga:findIn K (.ref C) "__getattribute__" = some (some (.builtin "BaseException.__getattribute__"))
 gh:findIn K (.ref C) "__getattr__" = some none
 cl:findIn K (.ref C) "__class__" = some (some (.builtin "object.__class__"))
 gt:specialIn K (.builtin "object.__class__") "__get__" = some (some (.builtin "getset_descriptor.__get__"))
 tk:takesIn K (.builtin "object.__class__")=some true
 mo:mroIn K C (.type "object")=some true
 mb:mroIn K C (.type "BaseException")=some true
 is:(clsIn K C).isSome=true
theorem xa {K:LS} {C:GC} (h:qo K C=true):dX K C:=by
 unfold qo at h
 simp only [GN,beq_iff_eq] at h
 obtain ⟨⟨⟨⟨⟨⟨⟨a,b⟩,c⟩,d⟩,e⟩,f⟩,g⟩,i⟩:=h
 exact ⟨a,b,c,d,e,f,g,i⟩
section
variable {K:LS} {e C:GC} {M:Model} {h:HY} {prog:GQ} {w:Hh} {A:Hj} {E:Da->Fk->Prop} {s:Fk}
def nJ (e C:GC) (h:HY):Prop:=∃ o,h.get? e=some o/\o.cls = .ref C/\∃ vs,o.data = .fields vs
theorem nJ.ty (x:nJ e C h):Looks M h (typeOf (.ref e)) (.ref C):=by
 obtain ⟨o,ho,hc,_⟩:=x
 rw [<- hc]
 exact (Looks.ld ho).andThen .now
theorem dX.find (F:dX K C) (X:K.In h) (x:Da):Looks M h (Builtin.ObjectAttr.find x (.ref C) "__class__") (.bind (.builtin "getset_descriptor.__get__") (.builtin "object.__class__")):=by
 unfold Builtin.ObjectAttr.find
 refine (looks_findIn X F.cl).andThen ?_
 refine Looks.andThen (a:=some (.builtin "getset_descriptor.__get__")) (looks_specialIn X F.gt) ?_
 refine Looks.andThen (a:=some (.builtin "getset_descriptor.__get__",.builtin "object.__class__")) ?_ (Looks.tag .now)
 exact (looks_takesIn X F.tk).andThen .now
end
section
variable {K:LS} {e C:GC} {M:Model} {h:HY} {prog:GQ} {w:Hh} {A:Hj} {E:Da->Fk->Prop} {s:Fk}
theorem dX.got (F:dX K C) {R:Mj->Fk->Prop} {tp:Da} (X:K.In s.heap) (I:nJ e C s.heap) (q:R (.ok (.ret (.ref C))) s) :
  codeAny (model prog w) A (.call (.builtin "getset_descriptor.__get__") ⟨[.builtin "object.__class__",.ref e,tp],[]⟩) R s:=by
 obtain ⟨hh,g,dr,t,os⟩:=s
 have L0:=I.ty (M:=model prog w)
 have L1:=looks_mroIn (M:=model prog w) X F.mo
 refine Kr KF.slot_gs.plain KF.entry_gs (KF.slot_gs.check _ _ _ _ _ _ _ _ KF.type_class (KF.args_gs _ _ _) ?_)
 unfold Builtin.«getset_descriptor.__get__» descrGet
 rw [dga_obj]
 refine AC (Gc ?_)
 unfold descrGetter descrCheckInstance descrNameAndClass isInstance
 simp only [KF.owner_class]
 repeat lk
 refine ⟨Code.quiet_builtin _ (by decide +kernel),HX KF.entry_class ?_⟩
 unfold Builtin.«object.__class__» shownTypeOf
 repeat lk
 exact q
theorem dX.checked (F:dX K C) {nv:Da} {Q:Unit->Fk->Prop} (X:K.In s.heap) (I:nJ e C s.heap) (q:Q () s):wpAny M A (checkBuiltinCall "BaseException.__getattribute__" ⟨[.ref e,nv],[]⟩) Q E s:=by
 obtain ⟨hh,g,dr,t,os⟩:=s
 have LI:Looks M hh (isInstance (.ref e) (.type "BaseException")) true:=I.ty.andThen (looks_mroIn X F.mb)
 have e1:builtinKind "BaseException.__getattribute__" = some .slot:=(by decide +kernel)
 have e2:splitId "BaseException.__getattribute__" = some (("BaseException","__getattribute__"):String × String):=by decide +kernel
 have e3:=PySem.F.args_bexc_ga (.ref e) nv
 simp only [checkBuiltinCall,e1,e2]
 refine AC (LI.at ?_)
 repeat (first | assumption | wp_step)
theorem dX.attr (F:dX K C) {tk:Tok} {Q:Da->Fk->Prop} (X:K.In s.heap) (I:nJ e C s.heap) (q:Q (.ref C) s):wpAny (model prog w) A (getAttrBy (.ref e) (.str "__class__" tk) false false) Q E s:=by
 obtain ⟨hh,g,dr,t,os⟩:=s
 have L0:=I.ty (M:=model prog w)
 have L1:=looks_findIn (M:=model prog w) X F.ga
 have L2:=looks_findIn (M:=model prog w) X F.gh
 have L3:=F.find (M:=model prog w) X (.ref e)
 have b:=Ll.ga.bind (.ref e)
 unfold getAttrBy
 refine HA (AC (L0.at (AC (L1.at ?_))))
 show wpAny _ _ (getAttrByItsOwn _ _ _ _ _ _) _ _ _
 unfold getAttrByItsOwn hookBefore
 refine AC (L2.at ?_)
 refine AC (JT (HA ?_))
 show wpAny _ _ (boundAndCalled _ _ _) _ _ _
 unfold boundAndCalled
 rw [b]
 refine AC (Gc (LN (Kr Ll.ga.plain PySem.F.entry_bexc_ga (F.checked X I ?_))))
 show wpAny _ _ (Builtin.«object.__getattribute__» ⟨[.ref e,.str "__class__" tk],[]⟩) _ _ _
 unfold Builtin.«object.__getattribute__»
 repeat lk
 show wpAny _ _ (run (.call (.builtin "getset_descriptor.__get__") ⟨[.builtin "object.__class__",.ref e,.ref C],[]⟩) none) _ _ _
 refine wpAny_run (h:=none) (F.got X I ?_)
 show wpAny _ _ (pure (GL C)) _ _ _
 refine Gc ?_
 show wpAny _ _ (ret (.ref C)) _ _ _
 refine Gc ?_
 exact handed_on rfl q
theorem uU (F:dX K C):KitX K (.ref e) (.ref C) (nJ e C) where
 ty:=fun _ _ _ I=>I.ty
 it:=fun _ _ X _=>by
  have hc:=F.is
  unfold clsIn at hc
  split at hc
  ·rename_i ho
   intro A' Q' E' s' k q
   unfold isType loadHead
   exact AC (wpAny_loadPart (k _ _ (X _ _ ho)) (Gc q))
  ·cases hc
 ne:=fun h tp dd its n sl X htp=>by
  have hc:=F.is
  refine Lb.mpr fun q=>?_
  have z:C=tp:=Value.ref.inj (beq_iff_eq.mp q)
  subst z
  unfold clsIn at hc
  split at hc
  ·rename_i ho
   have z:=(X _ _ ho).symm.trans htp
   cases z
  ·cases hc
 ca:=fun {prog w A E Q s} X I q=>by
  obtain ⟨hh,g,d,t,os⟩:=s
  unfold getAttr? getAttrBy?
  refine AC (wpAny_mkText (AC (JT (F.attr (s:=⟨hh,g,d,t+1,os⟩) X I ?_))))
  exact Gc q
end
section
variable {X:Cx}
theorem bh:cb X (.builtin "isinstance") (fun xs H Q=>∃ e c cv C b,xs=[.ref e,c]/\(∀ u,RelV c u->u=cv)/\H e=some (dY e (.ref C))/\dX X.K C/\kitOne X.K (.ref C) cv=some b/\Q (.bl b) H):=by
 intro pins s σ H xs us Q I r h
 obtain ⟨e,c,cv,C,b,rfl,hcv,he,F,k,q⟩:=h
 obtain ⟨u,v,rfl,r1,r2⟩:=vals2 r
 rw [hcv v r2]
 cases (show u=GL e from r1)
 obtain ⟨ix,_⟩:=(show aT X.prog X.w H s.heap e (dY e (.ref C)) from I.hok e _ he)
 exact kia_one (uU F) I.kIn ix k (fun z=>nomatch z) fun tk=>⟨.bl b,H,I.tok _,rfl,q⟩
theorem bH {a:GC}:∀ u,RelV (.ref a) u->u=GL a:=fun _ h=>h
theorem ou {A:Hj} {k:Nat} (hr:aQ k A):A.units < cLine:=Nat.lt_of_succ_lt (DG hr)
end
theorem lr:bootBuiltins "ValueError" = some (.type "ValueError"):=by decide +kernel
theorem xE (t:Str):fL [.str t] [.str t]=true:=by simp [fL,eR]
theorem kc {K:LS} {t:Str} {p:GC} {H1:Hp} {σ:St} {Q':VK} (hp:H1 p=some (.lst [.str t])) (q:∀ H2,ae H1 H2->Q' (.bl false) H2) :
  zI (vW (tC (.str t)) gk) σ H1 (fun y H2=>vd K true (.ref p) y H2 Q') :=
 ⟨sz (n:=1) (by decide),fun l hl=>⟨p,l,_,_,rfl,rfl,aq.of ((av (az hp hl)).trans hp),aq.of ag,rfl,rfl,by
  show Q' (.bl (!fL [.str t] [.str t])) _
  rw [xE]
  exact q _ (ae.new (ae.refl _) hl _)⟩⟩
end L2
namespace Ck
open PySem L2
end Ck
namespace L2
open PySem PySem.Spec PyProof.Rows
structure dj (P:GQ) (w:Hh) (K:GM) (mg:Str->Option Da) (base:HY) (ps:List Str) (k:Nat) (sp:Sp) (f:GC) (fd:Hz):Prop where
 ok:bj P w K mg base (dR P w) k f fd ps sp
 b:Binds K fd ps []
section
variable {X:Cx} {C f:GC} {fd:Hz} {ps:List Str} {sp:Sp} {m:Str} {apos pos:Pos} {o e:HZ} {es:List HZ} {ta:TE} {t:TA} {j k:Nat}
theorem wx {pl:Sem Bool} (ho:PE X o ta) (c:Cls X.K C) (hm:Meth X.K C m f) (D:dj X.prog X.w X.K X.mg X.base ps j sp f fd) (hr:aQ k X.A) (ha:PA X (e::es) t) (hjk:j<=k:=by decide)
  (hst:starEach (e::es) X.env=(false,eval e X.env)::starEach es X.env:=by rfl) (hpl:(backTo pos (starEach es X.env)).any (·.1)=false:=by rfl)
  (ht:eval (.Call (.Attribute o m apos) (e::es) [] pos) X.env=(do
   let ov <- eval o X.env
   standAt apos.atName
   let (f,first) <- holding [ov] (getMethod ov m pl)
   callWith pos f first (backTo pos (starEach (e::es) X.env)) (backToKw pos (keywordEach [] X.env))):=by rfl) :
  PE X (.Call (.Attribute o m apos) (e::es) [] pos) (ip C m sp [] E0 ta t):=nU ho c hm D.ok (hr.mono hjk) D.b .nil ie ha hst hpl ht
theorem yP {pl:Sem Bool} (ho:PE X o ta) (c:Cls X.K C) (hm:Meth X.K C m f) (D:dj X.prog X.w X.K X.mg X.base ps j sp f fd) (hr:aQ k X.A) (hjk:j<=k:=by decide)
  (ht:eval (.Call (.Attribute o m apos) [] [] pos) X.env=(do
   let ov <- eval o X.env
   standAt apos.atName
   let (f,first) <- holding [ov] (getMethod ov m pl)
   callWith pos f first (backTo pos (starEach [] X.env)) (backToKw pos (keywordEach [] X.env))):=by rfl) :
  PE X (.Call (.Attribute o m apos) [] [] pos) (ip C m sp [] E0 ta gk):=vz ho c hm D.ok (hr.mono hjk) D.b .nil ie ht
theorem zd {E:XK} (T:kh X E) {pl:Sem Bool} (ho:PE X o ta) (c:Cls X.K C) (hm:Meth X.K C m f) (D:dj X.prog X.w X.K X.mg X.base ps j sp f fd) (hr:aQ k X.A) (ha:PA X (e::es) t) (hjk:j<=k:=by decide)
  (hst:starEach (e::es) X.env=(false,eval e X.env)::starEach es X.env:=by rfl) (hpl:(backTo pos (starEach es X.env)).any (·.1)=false:=by rfl)
  (ht:eval (.Call (.Attribute o m apos) (e::es) [] pos) X.env=(do
   let ov <- eval o X.env
   standAt apos.atName
   let (f,first) <- holding [ov] (getMethod ov m pl)
   callWith pos f first (backTo pos (starEach (e::es) X.env)) (backToKw pos (keywordEach [] X.env))):=by rfl) :
  PE X (.Call (.Attribute o m apos) (e::es) [] pos) (ip C m sp [] E ta t):=nU ho c hm D.ok (hr.mono hjk) D.b .nil T.pass ha hst hpl ht
end
structure ClsM (K:GM) (C:GC) (m:Str) (f:GC):Prop where
 hg:W.specialIn K (.ref C) "__getattribute__" = some (some (.builtin "type.__getattribute__"))
 rd:W.readsIn K C (.type "type")=true
 at_:W.findCls K (.ref C) (.type "type") m=some (.val (.ref f))
 kp:W.keepIn K (.ref f)=true
section
variable {X:Cx} {C f:GC} {fd:Hz} {ps:List Str} {sp:Sp} {x m:Str} {p apos pos:Pos} {e:HZ} {es:List HZ} {t:TA} {j k:Nat}
theorem ee {pl:Sem Bool} (hm:X.mg x=some (.ref C)) (M:ClsM X.K C m f) (D:dj X.prog X.w X.K X.mg X.base ps j sp f fd) (hr:aQ k X.A) (ha:PA X (e::es) t) (hjk:j<=k:=by decide) (hg:Gl X x:=by rfl)
  (hdb:(x == ("__debug__" : Str))=false:=by decide) (hst:starEach (e::es) X.env=(false,eval e X.env)::starEach es X.env:=by rfl) (hpl:(backTo pos (starEach es X.env)).any (·.1)=false:=by rfl)
  (ht:eval (.Call (.Attribute (.Name x p) m apos) (e::es) [] pos) X.env=(do
   let ov <- eval (.Name x p) X.env
   standAt apos.atName
   let (f,first) <- holding [ov] (getMethod ov m pl)
   callWith pos f first (backTo pos (starEach (e::es) X.env)) (backToKw pos (keywordEach [] X.env))):=by rfl) :
  PE X (.Call (.Attribute (.Name x p) m apos) (e::es) [] pos) (fY sp [] E0 t):=by
 intro pins s σ H Q I h
 refine W.methodCall_KW (pl:=pl) (dn I hg hm ?_ hdb) ht
 refine W.method_cls I.kIn M.hg (W.cls_value I.kIn M.rd M.at_ rfl ?_)
 have I1:Inv X pins σ H { s with toks:=s.toks+1 }:=I.tok _
 refine W.callWith_K (first:=[]) (h₀:=X.base) I.ok.mod.kin M.kp (ax (ha pos pins _ σ H _ I1 h) fun us s2 ⟨vs,H2,I2,r,q2⟩=>⟨I2.kIn,?_⟩) hst hpl
 exact fA D.ok (hr.mono hjk) D.b .nil ie I2 r q2
end
section
variable {X:Cx} {C f:GC} {fd:Hz} {ps:List Str} {sp:Sp} {x:Str} {p pos:Pos} {j k:Nat}
theorem df (M:Mk X.K C f) (hm:X.mg x=some (.ref C)) (D:dj X.prog X.w X.K X.mg X.base ps j sp f fd) (hr:aQ k X.A) (hjk:j+1<=k:=by decide) (hg:Gl X x:=by rfl) (hdb:(x == ("__debug__" : Str))=false:=by decide) :
  PE X (.Call (.Name x p) [] [] pos) (wa C sp [] E0 gk):=uM M D.ok (hr.mono hjk) hg hm D.b .nil ie hdb
end
end L2
namespace L2
open PySem
noncomputable def below (N:Nat) (sp:Nat->Sp):Sp:=fun vs H Q E=>∃ m,m < N/\sp m vs H Q E
end L2
namespace L2
open PySem PySem.Spec PyProof.Rows
inductive aN (K:GM) (H:Hp):Nat->V->V->Bool->Prop
 | flat {n:Nat} {x y:V} (fx:dB x=true) (fy:dB y=true):aN K H n x y (eR x y)
 | same {n:Nat} {a:GC}:aN K H n (.ref a) (.ref a) true
 | lst {n:Nat} {a b:GC} {xs ys:List V} {e:Nat->Bool} (ne:a≠b) (ha:aq K H a xs) (hb:aq K H b ys) (hl:xs.length=ys.length)
   (hi:∀ j x y,xs[j]? = some x->ys[j]? = some y->aN K H n x y (e j)):aN K H (n+1) (.ref a) (.ref b) ((GK xs.length).all e)
 | lstN {n:Nat} {a b:GC} {xs ys:List V} (ne:a≠b) (ha:aq K H a xs) (hb:aq K H b ys) (hl:xs.length≠ys.length):aN K H (n+1) (.ref a) (.ref b) false
 | tup {n:Nat} {a b:GC} {xs ys:List V} {e:Nat->Bool} (ne:a≠b) (ha:bQ K H a xs) (hb:bQ K H b ys)
   (hi:∀ j x y,xs[j]? = some x->ys[j]? = some y->aN K H n x y (e j)):aN K H (n+1) (.ref a) (.ref b) ((GK (min xs.length ys.length)).all e&&xs.length == ys.length)
theorem aN.lstT {K:GM} {H:Hp} {n:Nat} {a b:GC} {xs ys:List V} (ne:a≠b) (ha:aq K H a xs) (hb:aq K H b ys) (hl:xs.length=ys.length) (hi:∀ (j:Nat) (x y:V),xs[j]? = some x->ys[j]? = some y->aN K H n x y true):aN K H (n+1) (.ref a) (.ref b) true:=by
 have h:=aN.lst (e:=fun _=>true) ne ha hb hl hi
 have e (k:Nat):(GK k).all (fun _=>true)=true:=GW.mpr fun _ _=>rfl
 rw [e] at h
 exact h
theorem aN.tupT {K:GM} {H:Hp} {n:Nat} {a b:GC} {xs ys:List V} (ne:a≠b) (ha:bQ K H a xs) (hb:bQ K H b ys) (hl:xs.length=ys.length) (hi:∀ (j:Nat) (x y:V),xs[j]? = some x->ys[j]? = some y->aN K H n x y true):aN K H (n+1) (.ref a) (.ref b) true:=by
 have h:=aN.tup (e:=fun _=>true) ne ha hb hi
 have e (k:Nat):(GK k).all (fun _=>true)=true:=GW.mpr fun _ _=>rfl
 rw [e,hl] at h
 simpa using h
section
variable {X:Cx} {pins:List (GC × Obj)} {σ:St} {H:Hp} {s:Fk}
theorem cK {xs:List V} {us:List Da} (r:Vals xs us) {j:Nat} (h:j < us.toArray.size):∃ x,xs[j]? = some x/\RelV x us.toArray[j]:=by
 have h':j < us.length:=by simpa using h
 have hx:j < xs.length:=by rw [r.length]; exact h'
 obtain ⟨u,eu,ru⟩:=r.get (Do hx)
 rw [Do h'] at eu
 exact ⟨_,Do hx,by
  have:us.toArray[j]=u:=by simpa using eu
  rw [this]; exact ru⟩
theorem aN.at_ {n:Nat} {x y:V} {b:Bool} (d:aN X.K H n x y b):∀ {A:Hj} {u v:Da},A.units+n < cLine->Inv X pins σ H s->RelV x u->RelV y v->SeqAt.EqAt A s u v b:=by
 induction d with
 | flat fx fy=>intro A u v _ I ru rv; exact rX ru rv fx fy
 | same =>
  intro A u v _ I ru rv
  cases (show u=GL _ from ru)
  cases (show v=GL _ from rv)
  exact Mq _
 | @lst n a b xs ys e ne ha hb hl hi ih =>
  intro A u v hu I ru rv
  cases (show u=GL _ from ru)
  cases (show v=GL _ from rv)
  obtain ⟨us,r,pl,_⟩:=I.list ha
  obtain ⟨vs,r',pl',_⟩:=I.list hb
  have l1:=r.length
  have l2:=r'.length
  have z:=SeqAt.RcAt.lists (A:=A) (e:=e) pl.isList pl'.isList (by simp; lia) (by lia) fun j h1 h2=>by
   obtain ⟨x,ex,rx⟩:=cK r h1
   obtain ⟨y,ey,ry⟩:=cK r' h2
   exact ih j x y ex ey (A:=A.in1) (by show A.units+1+n < cLine; lia) I rx ry
  rw [show us.toArray.size=xs.length by simp; lia] at z
  exact .of_refs ne z
 | @lstN n a b xs ys ne ha hb hl =>
  intro A u v hu I ru rv
  cases (show u=GL _ from ru)
  cases (show v=GL _ from rv)
  obtain ⟨us,r,pl,_⟩:=I.list ha
  obtain ⟨vs,r',pl',_⟩:=I.list hb
  have l1:=r.length
  have l2:=r'.length
  exact .of_refs ne (SeqAt.RcAt.lists_lengths pl.isList pl'.isList (by simp; lia) (by lia))
 | @tup n a b xs ys e ne ha hb hi ih =>
  intro A u v hu I ru rv
  cases (show u=GL _ from ru)
  cases (show v=GL _ from rv)
  obtain ⟨us,r,pl,_⟩:=I.tuple ha
  obtain ⟨vs,r',pl',_⟩:=I.tuple hb
  have l1:=r.length
  have l2:=r'.length
  have z:=SeqAt.RcAt.tuples (A:=A) (e:=e) pl pl' (by lia) fun j h1 h2=>by
   obtain ⟨x,ex,rx⟩:=cK r h1
   obtain ⟨y,ey,ry⟩:=cK r' h2
   exact ih j x y ex ey (A:=A.in1) (by show A.units+1+n < cLine; lia) I rx ry
  rw [show us.toArray.size=xs.length by simp; lia,show vs.toArray.size=ys.length by simp; lia] at z
  exact .of_refs ne z
noncomputable def ve (K:GM) (neg:Bool):R2:=fun x y H Q=>∃ n b,n<=100/\aN K H n x y b/\(∃ a c,x = .ref a/\y = .ref c/\a≠c)/\Q (.bl (if neg then !b else b)) H
theorem rS (hu:X.A.units+100 < cLine):bC X (compareOp .Eq) (ve X.K false):=by
 intro pins s σ H x y u v Q I ru rv h
 obtain ⟨n,b,hn,d,⟨a,c,rfl,rfl,hne⟩,q⟩:=h
 cases (show u=GL _ from ru)
 cases (show v=GL _ from rv)
 cases d with
 | flat fx _=>cases fx
 | same=>exact absurd rfl hne
 | @lst n _ _ xs ys e ne ha hb hl hi =>
  obtain ⟨us,r,pl,_⟩:=I.list ha
  obtain ⟨vs,r',pl',_⟩:=I.list hb
  have l1:=r.length
  have l2:=r'.length
  refine SeqAt.eq_listAt (e:=e) pl.isList pl'.isList (by simp; lia) (by lia) (fun j h1 h2=>?_) ⟨.bl _,H,I,rfl,?_⟩
  ·obtain ⟨x,ex,rx⟩:=cK r h1
   obtain ⟨y,ey,ry⟩:=cK r' h2
   exact (hi j x y ex ey).at_ (A:=X.A.in1) (by show X.A.units+1+n < cLine; lia) I rx ry
  ·rw [show us.toArray.size=xs.length by simp; lia]; exact q
 | @lstN n _ _ xs ys ne ha hb hl =>
  obtain ⟨us,r,pl,_⟩:=I.list ha
  obtain ⟨vs,r',pl',_⟩:=I.list hb
  have l1:=r.length
  have l2:=r'.length
  exact Lk pl.isList pl'.isList (by simp; lia) (by lia) ⟨.bl false,H,I,rfl,q⟩
 | @tup n _ _ xs ys e ne ha hb hi =>
  obtain ⟨us,r,pl,_⟩:=I.tuple ha
  obtain ⟨vs,r',pl',_⟩:=I.tuple hb
  have l1:=r.length
  have l2:=r'.length
  refine SeqAt.eq_tupleAt (e:=e) pl pl' (by lia) (fun j h1 h2=>?_) ⟨.bl _,H,I,rfl,?_⟩
  ·obtain ⟨x,ex,rx⟩:=cK r h1
   obtain ⟨y,ey,ry⟩:=cK r' h2
   exact (hi j x y ex ey).at_ (A:=X.A.in1) (by show X.A.units+1+n < cLine; lia) I rx ry
  ·rw [show us.toArray.size=xs.length by simp; lia,show vs.toArray.size=ys.length by simp; lia]; exact q
theorem i7 (hu:X.A.units+100 < cLine):bC X (compareOp .NotEq) (ve X.K true):=by
 intro pins s σ H x y u v Q I ru rv h
 obtain ⟨n,b,hn,d,⟨a,c,rfl,rfl,hne⟩,q⟩:=h
 cases (show u=GL _ from ru)
 cases (show v=GL _ from rv)
 cases d with
 | flat fx _=>cases fx
 | same=>exact absurd rfl hne
 | @lst n _ _ xs ys e ne ha hb hl hi =>
  obtain ⟨us,r,pl,_⟩:=I.list ha
  obtain ⟨vs,r',pl',_⟩:=I.list hb
  have l1:=r.length
  have l2:=r'.length
  refine Md (e:=e) pl.isList pl'.isList (by simp; lia) (by lia) (fun j h1 h2=>?_) _ _ _ _ ⟨.bl _,H,I,rfl,?_⟩
  ·obtain ⟨x,ex,rx⟩:=cK r h1
   obtain ⟨y,ey,ry⟩:=cK r' h2
   exact (hi j x y ex ey).at_ (A:=X.A.in1) (by show X.A.units+1+n < cLine; lia) I rx ry
  ·rw [show us.toArray.size=xs.length by simp; lia]; exact q
 | @lstN n _ _ xs ys ne ha hb hl =>
  obtain ⟨us,r,pl,_⟩:=I.list ha
  obtain ⟨vs,r',pl',_⟩:=I.list hb
  have l1:=r.length
  have l2:=r'.length
  exact KM pl.isList pl'.isList (by simp; lia) (by lia) _ _ _ _ ⟨.bl true,H,I,rfl,q⟩
 | @tup n _ _ xs ys e ne ha hb hi =>
  obtain ⟨us,r,pl,_⟩:=I.tuple ha
  obtain ⟨vs,r',pl',_⟩:=I.tuple hb
  have l1:=r.length
  have l2:=r'.length
  refine SeqAt.RcNeAt.tuples (e:=e) pl pl' (by lia) (fun j h1 h2=>?_) _ _ _ _ ⟨.bl _,H,I,rfl,?_⟩
  ·obtain ⟨x,ex,rx⟩:=cK r h1
   obtain ⟨y,ey,ry⟩:=cK r' h2
   exact (hi j x y ex ey).at_ (A:=X.A.in1) (by show X.A.units+1+n < cLine; lia) I rx ry
  ·rw [show us.toArray.size=xs.length by simp; lia,show vs.toArray.size=ys.length by simp; lia]; exact q
theorem eC {A:Hj} {k:Nat} (hr:aQ k A):A.units+100 < cLine:=JR (by lia) hr.un
end
end L2
namespace L2
open PySem PySem.Spec PyProof.Rows
section
variable {X:Cx}
theorem kY (hc:X.calm=true):cb X (.builtin "min") (fun xs H Q=>∃ p ns,xs=[.ref p]/\aq X.K H p (ns.map V.int)/\ns≠[]/\∀ M,M∈ns->(∀ a∈ns,M<=a)->Q (.int M) H):=by
 intro pins s σ H xs us Q I r h
 obtain ⟨p,ns,rfl,hl,hne,q⟩:=h
 obtain ⟨u,rfl,ru⟩:=vals1 r
 cases ru
 obtain ⟨its,r',pl,hz⟩:=I.list hl
 have hi:Jh its ns:=intsAre_of r'
 obtain ⟨ys,e⟩:=hi.allInts.items
 have hns:ns=ys.toList.map (·.1):=by rw [<- hi.numsOf,<- nums_intItems,<- e]
 have hsz:0 < ys.size:=by
  have:=List.length_pos_iff.mpr hne
  rw [hns,FS,GS] at this
  exact this
 have hl':s.heap.IsList p (intItems ys):=by rw [<- e]; exact pl.isList
 refine min_intList (I.ok.hd hc) hl' hsz fun v h' tk hv hk=>?_
 obtain ⟨t,rfl⟩:=intItems_at hv
 obtain ⟨a1,a2⟩:=argBest_lt (numAt ys) (ys.size - 1)
 refine ⟨.int _,H,I.kept hk,⟨t,rfl⟩,q _ ?_ fun a ha=>?_⟩
 ·rw [hns,numAt_eq]; exact getD_mem (by rw [FS,GS]; lia)
 ·rw [hns] at ha
  obtain ⟨j,hj,rfl⟩:=mem_getD ha
  rw [FS,GS] at hj
  rw [<- numAt_eq]; exact a2 j (by lia)
end
section
variable {X:Cx} {pins:List (GC × Obj)} {σ:St} {H:Hp} {s:Fk} {h':HY}
theorem Inv.trackO {e:GC} {o':HO} (I:Inv X pins σ H s) (o:gb X pins H e) (new:aT X.prog X.w (upd H e o') s.heap e o'):Inv X pins σ (upd H e o') s:=by
 have ne:∀ b u,H b=some u->b≠e:=fun b u q z=>by rw [z,o.free] at q; cases q
 refine ⟨I.ok,I.os,I.bare,⟨I.base.keep,I.base.slot,fun b ob q n hx=>?_,I.base.there,fun b xs q=>?_,fun b ob u q=>?_,fun b ps q=>?_⟩,I.loc,I.cell,?_,fun x c q=>?_,fun p hp=>?_,fun b u q=>?_,I.len⟩
 ·rw [av (fun z=>by rw [z,o.new] at q; cases q)]; exact I.base.free b ob q n hx
 ·have:=I.base.tups b xs q
  rw [av (ne _ _ this)]; exact this
 ·have:=I.base.frzs b ob u q
  rw [av (ne _ _ this)]; exact this
 ·obtain ⟨m,z⟩:=I.base.tbls b ps q
  exact ⟨m,by rw [av (ne _ _ z)]; exact z⟩
 ·rw [av (Ip o.loc)]; exact I.free
 ·rw [av (o.cell x c q)]; exact I.freeC x c q
 ·obtain ⟨z,n,r⟩:=I.pin p hp
  exact ⟨z,by rw [av (o.pin p hp)]; exact n,r⟩
 ·by_cases z:b=e
  ·subst z; rw [ag] at q; cases q; exact new
  ·rw [av z] at q
   exact (I.hok b u q).stay (fun _ _ _ x=>x) (fun c x=>by rw [av (ne _ _ x)]; exact x) fun c xs x=>by rw [av (ne _ _ x)]; exact x
theorem Inv.turned2 {t':Nat} {e it:GC} (I:Inv X pins σ H s) (k:∀ b o,b≠e->b≠it->s.heap.get? b=some o->h'.get? b=some o) (he:∃ o,h'.get? e=some o) (hi:∃ o,h'.get? it=some o) (f1:e9 X pins H e) (f2:e9 X pins H it) :
  Inv X pins σ H { s with heap:=h',toks:=t' }:=by
 have nit:∀ b u,H b=some u->b≠e/\b≠it:=fun b u q=>⟨fun z=>(by rw [z,f1.1] at q; cases q),fun z=>(by rw [z,f2.1] at q; cases q)⟩
 have sp:∀ b,b∉[e,it]->b≠e/\b≠it:=fun b hb=>⟨fun z=>hb (by simp [z]),fun z=>hb (by simp [z])⟩
 refine I.step (g':=s.gens) (d':=s.drawn) (ch:=[e,it]) (fun b hb=>?_) (fun b o _ _ hc q _=>k b o (sp b hc).1 (sp b hc).2 q) (fun b o _ _ hc q _=>⟨o.slots,k b o (sp b hc).1 (sp b hc).2 q⟩) (fun _ _ _ _ n=>n)
  (fun b o hc q=>⟨o,k b o (sp b hc).1 (sp b hc).2 q⟩) (fun _ _ q=>q) (fun _ _ _ q=>q) (fun b ps q=>⟨#[],by rw [q]; simp⟩) (fun m hm=>?_) (fun b u q=>?_) I.bare
 ·rcases GI.mp hb with z | z
  ·rw [z]; exact ⟨f1.2.2.2.1,f1.2.1,f1.2.2.2.2.1,f1.2.2.2.2.2⟩
  ·rw [show b=it by simpa using z]; exact ⟨f2.2.2.2.1,f2.2.1,f2.2.2.2.2.1,f2.2.2.2.2.2⟩
 ·obtain ⟨o,es,ep,ho,r⟩:=hm
  exact ⟨o,es,ep,k _ o (Ip f1.2.1) (Ip f2.2.1) ho,r⟩
 ·refine (I.hok b u q).stay (fun c v hc q'=>?_) (fun _ q=>q) fun _ _ q=>q
  have:c≠e/\c≠it:=by
   rcases hc with z | z
   ·rw [z]; exact nit b u q
   ·exact nit c _ z
  exact k c v this.1 this.2 q'
end
noncomputable def ot (K:GM) (l:GC):It :=
 ⟨fun i H=>∃ xs x,aq K H l xs/\xs[i]? = some x,fun i H v H'=>∃ T x,H T=none/\(∀ xs,aq K H l xs->xs[i]? = some x)/\v = .ref T/\H'=upd H T (.tup [.int i,x]),fun i H=>∃ xs,aq K H l xs/\xs.length<=i⟩
theorem sI {P:GQ} {w:Hh} {K:GM} {elts:List HZ} {k0:Nat} {tp:Pos} (e it l:GC) (hei:e≠it) :
  Turn P w K (.Tuple elts k0 tp) (ot K l) [e,it] e (fun i h=>(∃ old,IsEnum h e it i old)/\h.IsListIter it l i) where
 mem:=by simp
 obj:=fun i h st b hb=>by
  obtain ⟨⟨old,he⟩,o,ho,c,d⟩:=st
  rcases GI.mp hb with z | z
  ·rw [z]
   exact ⟨_,he,fun v z=>by
    have z':Data.fields _=Data.cell v:=z
    cases z'⟩
  ·rw [show b=it by simpa using z]
   exact ⟨o,ho,fun v z=>by rw [d] at z; cases z⟩
 keep:=fun i h h' st k=>⟨let ⟨old,he⟩:=st.1; ⟨old,k e (by simp) _ he⟩,st.2.at fun o q=>k it (by simp) o q⟩
 item:=by
  intro X hP hw hK hc i pins s σ H E I hf st hg
  subst hP hw hK
  obtain ⟨xs,x,hq,hx⟩:=hg
  obtain ⟨its,rv,p,hz⟩:=I.list hq
  obtain ⟨u,hu,ru⟩:=rv.get hx
  obtain ⟨⟨old,he⟩,hit⟩:=st
  have fe:=hf e (by simp)
  have fi:=hf it (by simp)
  refine wpAny_pyNext_enum_item he hit p.isList (x:=u) (by simpa using hu) hei fun h1 ho hit1 hT hsz hk=>?_
  refine ⟨_,rfl,wpAny_letOwnedTupleGo_enum ho fun h2 he2 sb=>?_⟩
  have nT:s.heap.get? s.heap.objs.size=none:=IW (GF _)
  have elt:e < s.heap.objs.size:=GE he
  have ilt:it < s.heap.objs.size:=by obtain ⟨_,q,_⟩:=hit; exact GE q
  have hit2:h2.IsListIter it l (i+1):=hit1.at fun o q=>(sb.2 it (Ip hei)).trans q
  have k2:∀ b o,b≠e->b≠it->s.heap.get? b=some o->h2.get? b=some o:=fun b o b1 b2 q=>(sb.2 b b1).trans (hk b o b1 b2 q)
  have I2:Inv X pins σ H { s with heap:=h2,toks:=s.toks+1 }:=I.turned2 k2 ⟨_,he2⟩ (by obtain ⟨o,q,_⟩:=hit2; exact ⟨o,q⟩) fe fi
  have oT:gb X pins H s.heap.objs.size:=by
   have fT:e9 X pins H s.heap.objs.size:=I.fpOk (GF _) (I.hok.fresh (GF _))
   exact ⟨IW I.sz,fT.1,fT.2.1,fT.2.2.2.2.1,fT.2.2.2.2.2⟩
  have hT2:h2.get? s.heap.objs.size=some { cls:=.type "tuple",data:=.seq #[.int i s.toks,u] }:=(sb.2 _ (Jx elt)).trans hT
  have I3:=I2.trackO (o':=.tup [.int i,x]) oT ⟨sz (n:=2) (by decide),[.int i s.toks,u],.cons ⟨_,rfl⟩ (.cons ru .nil),_,hT2,rfl,_,rfl⟩
  refine ⟨.ref s.heap.objs.size,_,I3,rfl,⟨_,x,oT.free,fun ys hy=>by rw [I.list_inj hy hq]; exact hx,rfl,rfl⟩,⟨⟨_,by simpa using he2⟩,hit2⟩,fun b hb=>?_⟩
  rcases GI.mp hb with z | z
  ·rw [z,av (GX elt)]; exact fe.1
  ·rw [show b=it by simpa using z,av (GX ilt)]; exact fi.1
 done:=by
  intro X hP hw hK hc i pins s σ H E I hf st hg
  subst hP hw hK
  obtain ⟨xs,hq,hx⟩:=hg
  obtain ⟨its,rv,p,hz⟩:=I.list hq
  obtain ⟨⟨old,he⟩,hit⟩:=st
  have hl:=rv.length
  obtain ⟨f0,f1,f2,f3,f4,f5⟩:=hf it (by simp)
  refine wpAny_pyNext_enum_end (I.ok.hd hc) he hit p.isList (Io (by simp; lia)) fun h2 eb=>⟨rfl,?_⟩
  exact I.turned (t':=s.toks) (fun b o hb q=>eb b o hb q) f0 f1 f3 f4 f5
 self:=fun _ _ _ _ _ st h=>by
  obtain ⟨⟨old,he⟩,_⟩:=st
  exact wpAny_pyIter_enum he h
noncomputable def DF (K:GM) (ta:TA):TI:=fun σ H R=>ta σ H fun vs H1=>∃ l,vs=[.ref l]/\(∃ xs,aq K H1 l xs)/\R (ot K l) H1
section
variable {X:Cx}
theorem kd {elts:List HZ} {k0:Nat} {tp:Pos} {a:HZ} {ta:TA} {p pos:Pos} (hg:Gl X "enumerate") (hm:X.mg "enumerate" = none) (ha:PA X [a] ta) (hs:starEach [a] X.env=[(false,eval a X.env)]:=by rfl) :
  PI X (.Tuple elts k0 tp) (.Call (.Name "enumerate" p) [a] [] pos) (DF X.K ta):=by
 intro pins s σ H R I h
 refine Call_ (bX I hg hm boot_enumerate (G9 (ax (ha pos pins s σ H _ I h) fun us s1 ⟨vs,H1,I1,r1,q1⟩=>?_) hs rfl))
 obtain ⟨l,rfl,⟨xs,hq⟩,q⟩:=q1
 obtain ⟨u,rfl,ru⟩:=vals1 r1
 cases ru
 obtain ⟨its,rv,pl,hz⟩:=I1.list hq
 refine call_enumerate_list pl.isList fun h2 he hit hsz hk=>?_
 have I2:Inv X pins σ H1 { s1 with heap:=h2 }:=I1.kept (t':=s1.toks) hk
 refine wpAny_pyIter_enum he ⟨_,[s1.heap.objs.size+1,s1.heap.objs.size],_,_,H1,rfl,I2,sI _ s1.heap.objs.size l (Nat.succ_ne_self _),⟨⟨_,he⟩,hit⟩,fun b hb=>?_,q⟩
 rcases GI.mp hb with z | z
 ·rw [z]; exact I1.fpOk (IU _) (I1.hok.fresh (IU _))
 ·rw [show b=s1.heap.objs.size by simpa using z]; exact I1.fpOk (GF _) (I1.hok.fresh (GF _))
theorem mB {K:GM} {l:GC} {xs:List V} {g:TG} {tb:TS} {D:Ends} {σ:St} {H:Hp} (Pv:Nat->St->Hp->Prop) (h0:Pv 0 σ H) (hl:∀ i σ H,i<=xs.length->Pv i σ H->aq K H l xs)
  (hs:∀ i x σ H T,xs[i]? = some x->Pv i σ H->H T=none->g (.ref T) σ (upd H T (.tup [.int i,x])) fun σ2 H2=>tb { D with nx:=Pv (i+1),ct:=Pv (i+1),bk:=D.nx } σ2 H2) (hd:∀ σ H,Pv xs.length σ H->D.nx σ H) :
  ∃ W:Nat->Nat->St->Hp->Prop,(∃ m,W 0 m σ H)/\∀ i m σ H,W i m σ H ->
   ((ot K l).stop i H/\D.nx σ H)\/((ot K l).go i H/\∃ N:St->Hp->Prop,(∀ σ' H',N σ' H'->∃ m',m' < m/\W (i+1) m' σ' H')/\∀ x H',(ot K l).yld i H x H'->g x σ H' fun σ2 H2=>tb { D with nx:=N,ct:=N,bk:=D.nx } σ2 H2):=by
 refine ⟨fun i m σ H=>m=xs.length - i/\i<=xs.length/\Pv i σ H,⟨xs.length,by simp,GG _,h0⟩,?_⟩
 rintro i m σ H ⟨rfl,hi,p⟩
 have q:=hl i σ H hi p
 by_cases hlt:i < xs.length
 ·refine .inr ⟨⟨xs,_,q,Do hlt⟩,Pv (i+1),fun σ' H' p'=>⟨xs.length - (i+1),by lia,rfl,hlt,p'⟩,fun v H' y=>?_⟩
  obtain ⟨T,x,nT,hx,rfl,rfl⟩:=y
  exact hs i x σ H T (hx xs q) p nT
 ·have e:i=xs.length:=by lia
  subst e
  exact .inl ⟨⟨xs,q,GF _⟩,hd σ H p⟩
end
end L2
namespace Ck
open PySem L2
inductive Tree where
 | int (i:Int)
 | lst (l:List Tree)
 | tup (l:List Tree)
mutual
noncomputable def Rep (H:Hp):Tree->V->Prop
 | .int i,v=>v = .int i
 | .lst ts,v=>∃ a xs,v = .ref a/\H a=some (.lst xs)/\ts.length<=1000000/\eG H ts xs
 | .tup ts,v=>∃ a xs,v = .ref a/\H a=some (.tup xs)/\ts.length<=1000000/\eG H ts xs
noncomputable def eG (H:Hp):List Tree->List V->Prop
 | [],xs=>xs=[]
 | t::ts,xs=>∃ v vs,xs=v::vs/\Rep H t v/\eG H ts vs
end
mutual
noncomputable def dep:Tree->Nat
 | .int _=>0
 | .lst ts=>uy ts+1
 | .tup ts=>uy ts+1
noncomputable def uy:List Tree->Nat
 | []=>0
 | t::ts=>max (dep t) (uy ts)
end
mutual
theorem Rep.same {H H':Hp} (s:ae H H'):∀ (t:Tree) {v:V},Rep H t v->Rep H' t v
 | .int i,v,h=>by unfold Rep at h |-; exact h
 | .lst ts,v,h=>by
  unfold Rep at h |-
  obtain ⟨a,xs,e,ha,hl,r⟩:=h
  exact ⟨a,xs,e,s _ _ ha,hl,eG.same s ts r⟩
 | .tup ts,v,h=>by
  unfold Rep at h |-
  obtain ⟨a,xs,e,ha,hl,r⟩:=h
  exact ⟨a,xs,e,s _ _ ha,hl,eG.same s ts r⟩
theorem eG.same {H H':Hp} (s:ae H H'):∀ (ts:List Tree) {xs:List V},eG H ts xs->eG H' ts xs
 | [],xs,h=>by unfold eG at h |-; exact h
 | t::ts,xs,h=>by
  unfold eG at h |-
  obtain ⟨v,vs,e,r,rs⟩:=h
  exact ⟨v,vs,e,Rep.same s t r,eG.same s ts rs⟩
end
noncomputable abbrev Pair:=Int × Int
def b7 (H:Hp) (xs:List V) (ps:List Pair):Prop:=Ir (fun (v:V) (p:Pair)=>∃ t,v = .ref t/\H t=some (.tup [.int p.1,.int p.2])) xs ps
theorem b7.same {H H':Hp} {xs:List V} {ps:List Pair} (h:b7 H xs ps) (s:ae H H'):b7 H' xs ps:=Paired.mapP h fun v p ⟨t,e,q⟩=>⟨t,e,s _ _ q⟩
theorem b7.length {H:Hp} {xs:List V} {ps:List Pair} (h:b7 H xs ps):xs.length=ps.length:=IG h
theorem b7.get {H:Hp}:∀ {xs:List V} {ps:List Pair},b7 H xs ps->∀ {i:Nat} {x:V},xs[i]? = some x->∃ p t,ps[i]? = some p/\x = .ref t/\H t=some (.tup [.int p.1,.int p.2])
 | _,_,.nil,i,x,e=>by cases e
 | _,_,.cons r t,0,x,e=>by
  obtain ⟨a,e1,e2⟩:=r
  rw [IH] at e
  cases e
  exact ⟨_,a,rfl,e1,e2⟩
 | _,_,.cons r t,i+1,x,e=>by
  obtain ⟨p,a,h1,h2,h3⟩:=b7.get t (i:=i) (by simpa using e)
  exact ⟨p,a,by simpa using h1,h2,h3⟩
theorem b7.updL {H:Hp} {xs:List V} {ps:List Pair} {a:GC} {l:List V} (h:b7 H xs ps) (ha:H a=some (.lst l)) (o:HO):b7 (upd H a o) xs ps :=
 Paired.mapP h fun v p ⟨t,e,q⟩=>⟨t,e,(av (hJ q ha (by intro z; cases z))).trans q⟩
theorem b7.updN {H:Hp} {xs:List V} {ps:List Pair} {a:GC} (h:b7 H xs ps) (ha:H a=none) (o:HO):b7 (upd H a o) xs ps :=
 Paired.mapP h fun v p ⟨t,e,q⟩=>⟨t,e,(av (az q ha)).trans q⟩
def dw (H:Hp) (a:GC) (ps:List Pair):Prop:=∃ xs,H a=some (.lst xs)/\b7 H xs ps
theorem dw.same {H H':Hp} {a:GC} {ps:List Pair} (h:dw H a ps) (s:ae H H'):dw H' a ps:=let ⟨xs,e,r⟩:=h; ⟨xs,s _ _ e,r.same s⟩
theorem dw.len {H:Hp} {a:GC} {ps:List Pair} (h:dw H a ps):∃ xs,H a=some (.lst xs)/\xs.length=ps.length/\b7 H xs ps:=let ⟨xs,e,r⟩:=h; ⟨xs,e,r.length,r⟩
end Ck
namespace L2
open PySem
end L2
namespace Ck
open PySem L2
theorem g6 {c A B:Prop} [Decidable c] (hc:¬ c) (h:A):if (!decide c)=true then A else B:=by
 rw [decide_eq_false hc]
 exact aW h
end Ck
namespace L2
open PySem PySem.Spec PyProof.Rows PySem.SeqAt
section
variable {X:Cx}
theorem fM {K:GM} {es:List HZ} {k:Nat} {t:kQ} {n:Nat} {pos:Pos} (hK:X.K=K) (hc:X.calm=true) (h:rJ X es t)
  (hn:(assignEach es X.env).length=n:=by rfl) (hst:(assignEach es X.env).findIdx? (·.1)=none:=by rfl):PG X (.Tuple es k pos) (Af K n t):=by
 subst hK
 exact g4 hc h hn hst
theorem cD {K:GM} {a:GC} {xs:List V} {g:TG} {tt:TT} {te:TE} {σ0:St} {H:Hp} {D:GC} {Q:VK} (Pv:Nat->List V->Hp->Prop) (hz:xs.length<=sizeLine)
  (h0:Pv 0 [] (upd H D (.lst []))) (hl:∀ i ys H',i<=xs.length->Pv i ys H'->aq K H' a xs/\ys.length<=i)
  (hs:∀ (i:Nat) (x:V) (ys:List V) (H':Hp) (R:VK) (R0:Hp->Prop),xs[i]? = some x->Pv i ys H'->(∀ v H3,H3 D=some (.lst ys)->Pv (i+1) (ys++[v]) (upd H3 D (.lst (ys++[v])))->R v H3)->(∀ H3,Pv (i+1) ys H3->R0 H3) ->
   g x σ0 H' fun σ2 H2=>Ext σ0 σ2/\tt σ2 H2 fun b H3=>if b=true then te σ2 H3 R else R0 H3)
  (hq:∀ ys H',Pv xs.length ys H'->Q (.ref D) H') :
  hV (mT K a) g tt te σ0 D Q H:=by
 refine ⟨fun i m ys H'=>m=xs.length - i/\i<=xs.length/\Pv i ys H',⟨xs.length,by simp,GG _,h0⟩,?_⟩
 rintro i m ys H' ⟨rfl,hi,p⟩
 obtain ⟨sq,ly⟩:=hl i ys H' hi p
 by_cases hlt:i < xs.length
 ·refine .inr ⟨⟨xs,xs[i],sq,by simp [hlt]⟩,fun x H'' y=>?_⟩
  obtain ⟨e,y⟩:=y
  subst e
  have ex:=y xs sq
  refine hs i x ys _ _ _ ex p (fun v H3 hD p'=>⟨hD,by lia,xs.length - (i+1),by lia,rfl,hlt,p'⟩) fun H3 p'=>⟨xs.length - (i+1),by lia,rfl,hlt,p'⟩
 ·have e:i=xs.length:=by lia
  subst e
  exact .inl ⟨⟨xs,sq,GF _⟩,hq ys H' p⟩
end
end L2
namespace Ck
open PySem L2
end Ck
namespace Ck
open PySem L2
structure bO (fs:List (Str × V)) (w:Str) (l:Int):Prop where
 word:fs.lookup ("word" : Str)=some (.str w)
 least:fs.lookup ("least" : Str)=some (.int l)
 no:∀ m:Str,m≠("word" : Str)->m≠("least" : Str)->fs.lookup m=none
theorem xg (w:Str) (l:Int):bO (cN ("least" : Str) (.int l) (cN ("word" : Str) (.str w) [])) w l :=
 ⟨by rw [cj,if_neg (by decide),cj,if_pos rfl],by rw [cj,if_pos rfl],fun m a b=>by rw [cj,if_neg b,cj,if_neg a]; rfl⟩
noncomputable def up (d:Int) (p:Pair):Pair:=(p.1+d,p.2+d)
theorem b7.app {H:Hp}:∀ {xs ys:List V} {ps qs:List Pair},b7 H xs ps->b7 H ys qs->b7 H (xs++ys) (ps++qs)
 | _,_,_,_,.nil,h=>h
 | _,_,_,_,.cons r t,h=>.cons r (b7.app t h)
end Ck
namespace Ck
open PySem L2
theorem gE (ns:List Int):(ns.map V.int).all dB=true:=by
 rw [GW]
 intro x hx
 obtain ⟨n,_,rfl⟩:=HV.mp hx
 rfl
end Ck
namespace Ck
open PySem L2
end Ck
namespace Ck
open PySem L2
noncomputable def gP:Nat->Int->List Int->Bool
 | _,_,[]=>true
 | k,a,n::ns=>if n < a\/(k:Int) < n then false else gP (k+1) n ns
theorem xj (k:Nat) (a:Int):gP k a []=true:=rfl
theorem nY {k:Nat} {a n:Int} {ns:List Int} (h:n < a\/(k:Int) < n):gP k a (n::ns)=false:=by unfold gP; rw [if_pos h]
theorem Bd {k:Nat} {a n:Int} {ns:List Int} (h:¬ (n < a\/(k:Int) < n)):gP k a (n::ns)=gP (k+1) n ns:=by conv=>lhs; unfold gP; rw [if_neg h]
inductive St:List Int->Int->Prop
 | nil:St [] 0
 | snoc {rs:List Int} {a n:Int}:St rs a->a<=n->n<=(rs.length:Int)->St (rs++[n]) n
theorem vN {ns:List Int} {i:Nat} (h:i < ns.length):ns.drop i=ns.getD i 0::ns.drop (i+1):=by
 rw [HI h,FB,Do h]
 rfl
end Ck
namespace Ck
open PySem L2
end Ck
namespace Ck
open PySem L2
end Ck
namespace L2
open PySem PySem.Spec PyProof.Rows
theorem dk:bootBuiltins "sorted" = some (.builtin "sorted"):=by decide +kernel
theorem fC:bootBuiltins "all" = some (.builtin "all"):=by decide +kernel
theorem ji:∀ {us:List Da} {ns:List Int},Jh us ns->Vals (ns.map V.int) us
 | _,_,.nil=>.nil
 | _,_,.cons n t h=>.cons ⟨t,rfl⟩ (ji h)
section
variable {X:Cx}
theorem e8:cb X (.builtin "sorted") (fun xs H Q=>∃ (p:GC) (ns:List Int),xs=[.ref p]/\aq X.K H p (ns.map V.int)/\ns.length < 64/\∀ (q:GC) (ms:List Int),H q=none->ms.Perm ns->ms.Pairwise (·<=·)->Q (.ref q) (upd H q (.lst (ms.map V.int)))):=by
 intro pins s σ H xs us Q I r h
 obtain ⟨p,ns,rfl,hl,h64,q⟩:=h
 obtain ⟨u,rfl,ru⟩:=vals1 r
 cases ru
 obtain ⟨its,r',pl,hz⟩:=I.list hl
 have hi:Jh its ns:=intsAre_of r'
 refine sorted_ints pl.isList hi (by rw [hi.length]; exact h64) fun out ms ho hp hs=>?_
 obtain ⟨e,he⟩:=sortedAll_at s.heap its out
 have lm:(ms.map V.int).length<=sizeLine:=by rw [FS,hp.length_eq]; exact sz (by lia)
 exact ⟨.ref _,_,I.laid (t':=s.toks) (o:=.lst (ms.map V.int)) (fun b u e=>sortedAll_old e) (IU _) ⟨lm,out.toList,e,ji ho,by simpa [seqObj] using he⟩,rfl,q _ ms (I.hok.fresh (IU _)) hp hs⟩
theorem any_eq (k:Int):∀ ns:List Int,ns.any (· == k)=decide (k∈ns)
 | []=>by simp
 | n::ns=>by
  rw [Jk,any_eq k ns]
  by_cases h:n=k
  ·subst h; simp
  ·have h':¬ k=n:=fun z=>h z.symm
   simp [h,h']
theorem u7:bC X (compareOp .NotIn) (fun x y H Q=>∃ (k:Int) (p:GC) (ns:List Int),x = .int k/\y = .ref p/\aq X.K H p (ns.map V.int)/\Q (.bl (!decide (k∈ns))) H):=by
 intro pins s σ H x y u v Q I ru rv h
 obtain ⟨k,p,ns,rfl,rfl,hl,q⟩:=h
 obtain ⟨t,rfl⟩:=(show ∃ t,u=Kw k t from ru)
 cases rv
 obtain ⟨its,r',pl,hz⟩:=I.list hl
 refine notin_list_ints pl.isList (intsAre_of r') ⟨.bl _,H,I,rfl,?_⟩
 rw [any_eq]; exact q
theorem pS {bs:List Bool}:∀ {us:List Da},Vals (bs.map V.bl) us->us=bs.map K4:=by
 induction bs with
 | nil=>intro us r; rw [JO] at r; cases r; rfl
 | cons b bs ih =>
  intro us r
  rw [G6] at r
  cases r with
  | cons h t=>rw [ih t,G6]; cases (show _=K4 b from h); rfl
theorem all_range (bs:List Bool):(GK bs.length).all (fun i=>bs.getD i false)=bs.all id:=by
 induction bs with
 | nil=>rfl
 | cons b bs ih =>
  rw [Hq,J3,Mc,JP,Mc]
  have:((fun i=>(b::bs).getD i false) ∘ Nat.succ)=fun i=>bs.getD i false:=by funext i; rfl
  rw [this,ih]
  rfl
theorem dJ (hc:X.calm=true):cb X (.builtin "all") (fun xs H Q=>∃ (p:GC) (bs:List Bool),xs=[.ref p]/\aq X.K H p (bs.map V.bl)/\Q (.bl (bs.all id)) H):=by
 intro pins s σ H xs us Q I r h
 obtain ⟨p,bs,rfl,hl,q⟩:=h
 obtain ⟨u,rfl,ru⟩:=vals1 r
 cases ru
 obtain ⟨its,r',pl,hz⟩:=I.list hl
 have ei:=pS r'
 have hlt:p < s.heap.objs.size:=by obtain ⟨_,e,_⟩:=pl.isList; exact GE e
 refine call_all_walk (K6 pl.isList ⟨_,_,_,_,_,_,fun i=>bs.getD i false,rfl,Walks.list (A:=X.A.in1) (I.ok.hd hc) _ p (GX hlt) its.toArray,⟨⟨_,GO _ rfl,rfl,rfl⟩,pl.isList.push _⟩,?_,fun h' tk hk=>⟨.bl _,H,I.kept (old_kept hk),rfl,?_⟩⟩)
 ·intro i v s' Q' E' hP hQ
  have hb:bs[i]? = some (bs.getD i false)/\v = .bool (bs.getD i false):=by
   have hP':its[i]? = some v:=by simpa using hP
   rw [ei,Hk] at hP'
   cases hb:bs[i]? with
   | none=>rw [hb] at hP'; cases hP'
   | some b =>
    rw [hb] at hP'
    have e1:bs.getD i false=b:=by rw [FB,hb]; rfl
    rw [e1]
    exact ⟨rfl,(Hr hP').symm⟩
  rw [hb.2]
  exact HG hQ
 ·have e1:its.toArray.size=bs.length:=by rw [ei]; simp
  rw [e1,all_range]
  exact q
theorem sJ {K:GM} {a:GC} {xs:List V} {g:TG} {tt:TT} {te:TE} {σ0:St} {H:Hp} {D:GC} {Q:VK} (Pv:Nat->List V->Hp->Prop) (hz:xs.length<=sizeLine)
  (h0:Pv 0 [] (upd H D (.lst []))) (hl:∀ i ys H',i<=xs.length->Pv i ys H'->aq K H' a xs/\ys.length<=i)
  (hs:∀ (i:Nat) (x:V) (ys:List V) (H':Hp) (T:GC) (R:VK) (R0:Hp->Prop),xs[i]? = some x->Pv i ys H'->H' T=none->(∀ v H3,H3 D=some (.lst ys)->Pv (i+1) (ys++[v]) (upd H3 D (.lst (ys++[v])))->R v H3)->(∀ H3,Pv (i+1) ys H3->R0 H3) ->
   g (.ref T) σ0 (upd H' T (.tup [.int i,x])) fun σ2 H2=>Ext σ0 σ2/\tt σ2 H2 fun b H3=>if b=true then te σ2 H3 R else R0 H3)
  (hq:∀ ys H',Pv xs.length ys H'->Q (.ref D) H') :
  hV (ot K a) g tt te σ0 D Q H:=by
 refine ⟨fun i m ys H'=>m=xs.length - i/\i<=xs.length/\Pv i ys H',⟨xs.length,by simp,GG _,h0⟩,?_⟩
 rintro i m ys H' ⟨rfl,hi,p⟩
 obtain ⟨sq,ly⟩:=hl i ys H' hi p
 by_cases hlt:i < xs.length
 ·refine .inr ⟨⟨xs,_,sq,Do hlt⟩,fun x H'' y=>?_⟩
  obtain ⟨T,w,nT,hw,rfl,rfl⟩:=y
  refine hs i w ys _ T _ _ (hw xs sq) p nT (fun v H3 hD p'=>⟨hD,by lia,xs.length - (i+1),by lia,rfl,hlt,p'⟩) fun H3 p'=>⟨xs.length - (i+1),by lia,rfl,hlt,p'⟩
 ·have e:i=xs.length:=by lia
  subst e
  exact .inl ⟨⟨xs,sq,GF _⟩,hq ys H' p⟩
end
end L2
namespace Ck
open PySem L2
end Ck
namespace Ck
open PySem L2
structure oq (ns:List Int):Prop where
 pos:∀ x∈ns,0<=x
 few:∀ j:Nat,j < ns.length->j+1<=ns.countP (fun x=>decide (x<=(j:Int)))
theorem oq.perm {ns ms:List Int} (h:oq ns) (p:ms.Perm ns):oq ms :=
 ⟨fun x hx=>h.pos x (p.mem_iff.mp hx),fun j hj=>by rw [p.countP_eq]; exact h.few j (by rw [<- p.length_eq]; exact hj)⟩
theorem oq.sorted {ms:List Int} (h:oq ms) (s:ms.Pairwise (·<=·)) {i:Nat} {x:Int} (e:ms[i]? = some x):x<=(i:Int):=by
 obtain ⟨hi,hx⟩:=GD.mp e
 by_cases hle:x<=(i:Int)
 ·exact hle
 ·have h1:=h.few i hi
  have h2:ms.countP (fun x=>decide (x<=(i:Int)))<=i:=by
   have e1:ms.countP (fun x=>decide (x<=(i:Int)))=(ms.take i).countP (fun x=>decide (x<=(i:Int)))+(ms.drop i).countP (fun x=>decide (x<=(i:Int))):=by
    rw [<- List.countP_append,IS]
   have e2:(ms.drop i).countP (fun x=>decide (x<=(i:Int)))=0:=by
    rw [List.countP_eq_zero]
    intro y hy
    rw [HI hi] at hy
    have s2:(ms.drop i).Pairwise (·<=·):=s.sublist (List.drop_sublist _ _)
    rw [HI hi,List.pairwise_cons] at s2
    rcases GI.mp hy with z | z
    ·simp; lia
    ·have:=s2.1 y z
     simp; lia
   have e3:=List.countP_le_length (p:=fun x=>decide (x<=(i:Int))) (l:=ms.take i)
   rw [Hw] at e3
   lia
  lia
end Ck
namespace Ck
open PySem L2
noncomputable def fZ (ns:List Int):Bool:=decide (ns≠[])&&(ns.all (fun x=>decide (0<=x))&&(GK ns.length).all (fun j=>decide (j+1<=ns.countP (fun x=>decide (x<=(j:Int))))))
theorem ky (ns:List Int):fZ ns=true↔ns≠[]/\oq ns:=by
 unfold fZ
 rw [GN,GN,decide_eq_true_iff,GW,GW]
 constructor
 ·rintro ⟨h1,h2,h3⟩
  exact ⟨h1,fun x hx=>of_decide_eq_true (h2 x hx),fun j hj=>of_decide_eq_true (h3 j (GT.mpr hj))⟩
 ·rintro ⟨h1,h2⟩
  exact ⟨h1,fun x hx=>decide_eq_true (h2.pos x hx),fun j hj=>decide_eq_true (h2.few j (GT.mp hj))⟩
theorem sP {ns:List Int} {m:Int} (h:m∈ns) (h0:m < 0):fZ ns=false:=by
 cases e:fZ ns with
 | false=>rfl
 | true=>have:=((ky ns).mp e).2.pos m h; lia
theorem mR {ns ms:List Int} (hne:ns≠[]) (hpos:∀ x∈ns,0<=x) (hp:ms.Perm ns) (hs:ms.Pairwise (·<=·)):((GK ms.length).map fun (k:Nat)=>decide (ms.getD k 0<=(k:Int))).all id=fZ ns:=by
 rw [HE,ky,GW]
 constructor
 ·intro h
  have hk:∀ k:Nat,k < ms.length->ms.getD k 0<=(k:Int):=fun k hk=>of_decide_eq_true (h _ (HV.mpr ⟨k,GT.mpr hk,rfl⟩))
  refine ⟨hne,hpos,fun j hj=>?_⟩
  rw [<- hp.length_eq] at hj
  rw [<- hp.countP_eq]
  have h1:(ms.take (j+1)).countP (fun x=>decide (x<=(j:Int)))=(ms.take (j+1)).length:=by
   rw [List.countP_eq_length]
   intro x hx
   obtain ⟨k,Bh,rfl⟩:=JL hx
   rw [Hw] at Bh
   have:=hk k (by lia)
   rw [FB,Do (show k < ms.length by lia)] at this
   rw [List.getElem_take]
   have this':ms[k]<=(k:Int):=this
   exact decide_eq_true (by lia)
  have h2:=(K8 (j+1) ms).countP_le (p:=fun x=>decide (x<=(j:Int)))
  rw [h1,Hw] at h2
  lia
 ·rintro ⟨_,h⟩ b hb
  obtain ⟨k,hk,rfl⟩:=HV.mp hb
  have hk':=GT.mp hk
  refine decide_eq_true ?_
  rw [FB,Do hk']
  exact (h.perm hp).sorted hs (Do hk')
end Ck
namespace Ck
open PySem L2
noncomputable def steps (ws:List Int):List Int:=(GK (ws.length - 1)).map fun (i:Nat)=>(ws.getD (i+1) 0 - ws.getD i 0) % ((ws.length:Int)+1)
end Ck
namespace L2
open PySem PySem.W
end L2
namespace Ck
open PySem L2
theorem ne_int {a b:Int} (h:a≠b):¬ V.int a=V.int b:=fun z=>h (by injection z)
theorem map_erase {α β:Type} (f:α->β):∀ (l:List α) (k:Nat),(l.map f).eraseIdx k=(l.eraseIdx k).map f
 | [],_=>rfl
 | _::_,0=>rfl
 | a::l,k+1=>by
  show f a::(l.map f).eraseIdx k=f a::(l.eraseIdx k).map f
  rw [map_erase f l k]
end Ck
namespace Ck
end Ck
namespace Ck
open PySem L2
noncomputable def eI (es:List Int) (r:Int):Int:=if 0 < r then es.getD (r - 1).toNat 0 else r
noncomputable def gR (es:List Int):Nat->Int->Int
 | 0,r=>r
 | m+1,r=>gR es m (eI es r)
theorem mM (es:List Int):∀ (m:Nat) (r:Int),gR es (m+1) r=eI es (gR es m r)
 | 0,_=>rfl
 | m+1,r=>by
  show gR es (m+1) (eI es r)=eI es (gR es m (eI es r))
  exact mM es m (eI es r)
noncomputable def inR (es:List Int):Bool:=es.all fun e=>decide (0<=e)&&decide (e<=(es.length:Int))
theorem xU (es:List Int):inR es=true↔∀ e∈es,0<=e/\e<=(es.length:Int):=by
 unfold inR
 rw [GW]
 constructor
 ·intro h e he
  have:=h e he
  rw [GN] at this
  exact ⟨of_decide_eq_true this.1,of_decide_eq_true this.2⟩
 ·intro h e he
  rw [GN]
  exact ⟨decide_eq_true (h e he).1,decide_eq_true (h e he).2⟩
theorem sf {es:List Int} (h:inR es=true) {r:Int} (h0:0<=r) (h1:r<=(es.length:Int)):0<=eI es r/\eI es r<=(es.length:Int):=by
 unfold eI
 split
 ·rename_i hr
  have hk:(r - 1).toNat < es.length:=by lia
  rw [FB,Do hk]
  exact (xU es).mp h _ (JI hk)
 ·exact ⟨h0,h1⟩
theorem tQ {es:List Int} (h:inR es=true):∀ (m:Nat) {r:Int},0<=r->r<=(es.length:Int)->0<=gR es m r/\gR es m r<=(es.length:Int)
 | 0,r,h0,h1=>⟨h0,h1⟩
 | m+1,r,h0,h1=>tQ h m (sf h h0 h1).1 (sf h h0 h1).2
noncomputable def kK (es:List Int) (k:Nat):Bool:=decide (gR es es.length ((k:Int)+1)=0)
noncomputable def jG (es:List Int):Bool:=decide (es≠[])&&(inR es&&(GK es.length).all (kK es))
theorem nG {es:List Int} (h:es≠[]):jG es=(inR es&&(GK es.length).all (kK es)):=by unfold jG; rw [decide_eq_true h,HB]
end Ck
namespace Ck
open PySem L2
theorem ir (a b:Int):decide (V.int a=V.int b)=decide (a=b):=by
 by_cases h:a=b
 ·rw [decide_eq_true h,decide_eq_true (by rw [h])]
 ·rw [decide_eq_false h,decide_eq_false (ne_int h)]
end Ck
namespace Ck
theorem kT {row:List Int} (nd:row.Nodup) {i j:Nat} {x:Int} (hi:row[i]? = some x) (hj:row[j]? = some x):i=j :=
 (Lc (GD.mp hi).1 nd).mp (hi.trans hj.symm)
end Ck
namespace Ck
open PySem L2
noncomputable def EI (cs:List Int):Bool:=cs.all fun c=>decide (0<=c)&&decide (c<=(cs.length:Int)+1)
end Ck
namespace L2
open PySem PySem.Spec PyProof.Rows
theorem lZ:∀ {xs:List V} {us:List Da},us.length=xs.length->(∀ (j:Nat) v,us[j]? = some v->∃ x,xs[j]? = some x/\RelV x v)->Vals xs us
 | [],us,hl,_=>by
  have:us=[]:=Jn hl
  subst this
  exact .nil
 | x::xs,[],hl,_=>by simp at hl
 | x::xs,u::us,hl,k=>by
  obtain ⟨y,e1,r⟩:=k 0 u rfl
  have:x=y:=by simpa using e1
  subst this
  exact .cons r (lZ (by simpa using hl) fun j w e=>by
   obtain ⟨y,f1,f2⟩:=k (j+1) w (by simpa using e)
   exact ⟨y,by simpa using f1,f2⟩)
noncomputable def dz (i:Int) (n:Nat):List V:=((GK n).map fun (k:Nat)=>i+(k:Int)).map V.int
section
variable {X:Cx}
theorem list_range {pins:List (GC × Obj)} {σ:St} {H:Hp} {s:Fk} {Q:VK} {lo hi:Int} {t u v:Tok} {tk:Nat} (hc:X.calm=true) (I:Inv X pins σ H s) (h1 : -(2 ^ 62)<=lo) (h2:lo < 2 ^ 62) (h3 : -(2 ^ 62)<=hi) (h4:hi < 2 ^ 62) (hz:(hi - lo).toNat<=1000000)
  (q:∀ l,H l=none->Q (.ref l) (upd H l (.lst (dz lo (hi - lo).toNat)))):wpAny (model X.prog X.w) X.A (call (.type "list") [.ref s.heap.objs.size]) (EP X pins σ Q) X.xe { s with heap:=s.heap.push { cls:=.type "range",data:=.fields #[.int lo t,.int hi u,.int 1 v] },toks:=tk }:=by
 have I1:Inv X pins σ H { s with heap:=s.heap.push { cls:=.type "range",data:=.fields #[.int lo t,.int hi u,.int 1 v] },toks:=tk }:=I.kept fun b o e=>FM _ e
 refine call_list_range (n:=(hi - lo).toNat) (I.ok.hd hc) (Mp ..) (small_one h1 h2 h3 h4) (by rw [rangeSize_one]; split<;>lia) (by lia) fun h' tk' acc' c' hk he hacc=>?_
 have hl:acc'.toList.length=(dz lo (hi - lo).toNat).length:=by unfold dz; simpa using hacc.1
 refine ⟨.ref _,_,I1.laid (t':=tk') (o:=.lst (dz lo (hi - lo).toNat)) hk (GF _) ⟨?_,acc'.toList,c',lZ hl fun j w e=>?_,he⟩,rfl,q _ (I1.hok.fresh (GF _))⟩
 ·unfold dz
  rw [FS,FS,IJ]
  exact sz (by lia)
 ·obtain ⟨t',e2⟩:=hacc.2 j w (by simpa using e)
  have hj:j < (hi - lo).toNat:=by
   have:=(GD.mp e).1
   rw [hl] at this
   unfold dz at this
   simpa using this
  refine ⟨.int (lo+(j:Int)),?_,t',by rw [e2,Int.mul_one]⟩
  unfold dz
  rw [Hk,Hk,List.getElem?_range hj]
  rfl
noncomputable def EZ (ta:TA):TE:=fun σ H Q=>ta σ H fun vs H1=>∃ j:Int,vs=[.int j]/\-(2 ^ 62)<=j/\j < 2 ^ 62/\j.toNat<=1000000/\∀ l,H1 l=none->Q (.ref l) (upd H1 l (.lst (dz 0 j.toNat)))
noncomputable def Fv (ta:TA):TE:=fun σ H Q=>ta σ H fun vs H1=>∃ i j:Int,vs=[.int i,.int j]/\(-(2 ^ 62)<=i/\i < 2 ^ 62/\-(2 ^ 62)<=j/\j < 2 ^ 62)/\(j - i).toNat<=1000000/\∀ l,H1 l=none->Q (.ref l) (upd H1 l (.lst (dz i (j - i).toNat)))
theorem z7 {a:HZ} {ta:TA} {p p2 pos pos2:Pos} (hc:X.calm=true) (hgl:Gl X "list") (hml:X.mg "list" = none) (hg:Gl X "range") (hm:X.mg "range" = none) (ha:PA X [a] ta) (hs:starEach [a] X.env=[(false,eval a X.env)]:=by rfl)
  (he:starEach [.Call (.Name "range" p) [a] [] pos] X.env=[(false,eval (.Call (.Name "range" p) [a] [] pos) X.env)]:=by rfl) :
  PE X (.Call (.Name "list" p2) [.Call (.Name "range" p) [a] [] pos] [] pos2) (EZ ta):=by
 intro pins s σ H Q I h
 refine HM (bX I hgl hml fu ?_ (by decide) (by decide))
 refine G9 ?_ he rfl
 rw [he]
 show wpAny _ _ (spliced ((false,eval (.Call (.Name "range" p) [a] [] pos) X.env)::backTo pos2 [])) _ _ s
 refine IB (Call_ (bX I hg hm LM (G9 (ax (ha pos pins s σ H _ I h) fun us s1 ⟨vs,H1,I1,r1,q1⟩=>?_) hs rfl)))
 obtain ⟨j,e,b1,b2,b3,q⟩:=q1
 subst e
 cases r1 with
 | cons r rr =>
  cases rr
  obtain ⟨t,rfl⟩:=r
  exact call_range_1 (IY (list_range hc I1 (by lia) (by lia) b1 b2 (by simpa using b3) (by simpa using q)))
theorem BF {a b:HZ} {ta:TA} {p p2 pos pos2:Pos} (hc:X.calm=true) (hgl:Gl X "list") (hml:X.mg "list" = none) (hg:Gl X "range") (hm:X.mg "range" = none) (ha:PA X [a,b] ta) (hs:starEach [a,b] X.env=[(false,eval a X.env),(false,eval b X.env)]:=by rfl) (hs2:starEach [b] X.env=[(false,eval b X.env)]:=by rfl)
  (he:starEach [.Call (.Name "range" p) [a,b] [] pos] X.env=[(false,eval (.Call (.Name "range" p) [a,b] [] pos) X.env)]:=by rfl) :
  PE X (.Call (.Name "list" p2) [.Call (.Name "range" p) [a,b] [] pos] [] pos2) (Fv ta):=by
 intro pins s σ H Q I h
 refine HM (bX I hgl hml fu ?_ (by decide) (by decide))
 refine G9 ?_ he rfl
 rw [he]
 show wpAny _ _ (spliced ((false,eval (.Call (.Name "range" p) [a,b] [] pos) X.env)::backTo pos2 [])) _ _ s
 refine IB (Call_ (bX I hg hm LM (G9 (ax (ha pos pins s σ H _ I h) fun us s1 ⟨vs,H1,I1,r1,q1⟩=>?_) (by rw [hs,hs2]) (by rw [hs2]; rfl))))
 obtain ⟨i,j,e,⟨b1,b2,b3,b4⟩,b5,q⟩:=q1
 subst e
 cases r1 with
 | cons r rr =>
  cases rr with
  | cons r' rr =>
   cases rr
   obtain ⟨t,rfl⟩:=r
   obtain ⟨t',rfl⟩:=r'
   exact call_range_2 (IY (list_range hc I1 b1 b2 b3 b4 b5 q))
end
end L2
namespace L2
open PySem PySem.Spec PyProof.Rows
end L2
namespace L2
open PySem PySem.Spec PyProof.Rows
end L2
namespace Ck
open PySem L2
noncomputable def dP (n:Nat):List Int:=(GK n).map fun (k:Nat)=>(k:Int)
theorem ue (n:Nat):dP (n+1)=dP n++[(n:Int)]:=by unfold dP; rw [JS,G7]; rfl
theorem xZ (n:Nat):(dP n).length=n:=by unfold dP; simp
theorem iw {n:Nat} {m:Int}:m∈dP n↔0<=m/\m < (n:Int):=by
 unfold dP
 rw [HV]
 constructor
 ·rintro ⟨k,hk,rfl⟩
  have:=GT.mp hk
  lia
 ·intro h
  exact ⟨m.toNat,GT.mpr (by lia),by lia⟩
theorem jz (n:Nat):(dP n).Pairwise (· < ·):=by
 unfold dP
 rw [Jb]
 exact LA.imp fun h=>by lia
noncomputable def bN (ns:List Int):Bool:=ns.isPerm (dP ns.length)
theorem eU (ns:List Int):bN ns=true↔ns.Perm (dP ns.length):=List.isPerm_iff
theorem lR {ns ms:List Int} (hp:ms.Perm ns) (hs:ms.Pairwise (·<=·)):bN ns=decide (ms=dP ns.length):=by
 rw [HE,eU,decide_eq_true_iff]
 constructor
 ·intro h
  exact ID (le:=(·<=·)) (fun a b _ _ h1 h2=>Int.le_antisymm h1 h2) hs ((jz _).imp Int.le_of_lt) (hp.trans h)
 ·intro h
  rw [<- h]
  exact hp.symm
noncomputable def gX (row:List Int) (k:Nat):Bool:=(GK k).any fun i=>(GK row.length).any fun j=>decide (k < j)&&(decide (row.getD k 0 < row.getD j 0)&&decide (row.getD j 0 < row.getD i 0))
theorem l9 (row:List Int) (k:Nat):gX row k=true↔∃ i j:Nat,i < k/\k < j/\j < row.length/\row.getD k 0 < row.getD j 0/\row.getD j 0 < row.getD i 0:=by
 unfold gX
 rw [IE]
 constructor
 ·rintro ⟨i,hi,h⟩
  rw [IE] at h
  obtain ⟨j,hj,h⟩:=h
  rw [GN,GN] at h
  exact ⟨i,j,GT.mp hi,of_decide_eq_true h.1,GT.mp hj,of_decide_eq_true h.2.1,of_decide_eq_true h.2.2⟩
 ·rintro ⟨i,j,h1,h2,h3,h4,h5⟩
  refine ⟨i,GT.mpr h1,?_⟩
  rw [IE]
  refine ⟨j,GT.mpr h3,?_⟩
  rw [GN,GN]
  exact ⟨decide_eq_true h2,decide_eq_true h4,decide_eq_true h5⟩
noncomputable def iP (row:List Int):Bool:=(GK row.length).all fun k=>!gX row k
noncomputable def lH (row:List Int):Bool:=bN row&&iP row
theorem pV {row:List Int} {k:Nat} (hk:k < row.length) (h:gX row k=true):iP row=false:=by
 cases e:iP row with
 | false=>rfl
 | true =>
  have:=GW.mp e k (GT.mpr hk)
  rw [h] at this
  cases this
theorem tq {row:List Int} (h:∀ k,k < row.length->gX row k=false):iP row=true:=by
 unfold iP
 rw [GW]
 intro k hk
 rw [h k (GT.mp hk)]
 rfl
noncomputable def stk (row:List Int) (k p:Nat):List Int:=(dP p).filter fun m=>!decide (m∈row.take k)
theorem jU {row:List Int} {k p:Nat} {m:Int}:m∈stk row k p↔(0<=m/\m < (p:Int))/\m∉row.take k:=by
 unfold stk
 rw [LD,iw]
 simp
theorem Bl (row:List Int) (k p:Nat):(stk row k p).Pairwise (· < ·):=(jz p).filter _
theorem vM {row:List Int} {k p:Nat} (h:(p:Int)∉row.take k):stk row k (p+1)=stk row k p++[(p:Int)]:=by
 unfold stk
 rw [ue,List.filter_append]
 simp [h]
theorem uO {row:List Int} {k p:Nat} {x:Int} (hx:row[k]? = some x):stk row (k+1) p=(stk row k p).filter fun m=>!decide (m=x):=by
 unfold stk
 rw [List.filter_filter]
 refine List.filter_congr fun m _=>?_
 rw [Hu,hx]
 by_cases h1:m=x<;>by_cases h2:m∈row.take k<;>simp [h1,h2]
theorem nH {l0:List Int} {x:Int} (h:(l0++[x]).Pairwise (· < ·)):(l0++[x]).filter (fun m=>!decide (m=x))=l0:=by
 rw [List.filter_append]
 have e1:l0.filter (fun m=>!decide (m=x))=l0:=by
  rw [List.filter_eq_self]
  intro m hm
  have:=(JF.mp h).2.2 m hm x (by simp)
  simp
  lia
 rw [e1]
 simp
structure Off (row:List Int) (k p:Nat):Prop where
 below:∀ x∈row.take k,x < (p:Int)
 from_:p=0\/∃ x∈row.take k,(p:Int)=x+1
 fine:∀ j,j < k->gX row j=false
theorem Off.start (row:List Int):Off row 0 0:=⟨fun x hx=>by simp at hx,.inl rfl,fun j hj=>absurd hj (Iy _)⟩
theorem eM {row:List Int} {k:Nat} {y:Int} (h:y∈row.take k):∃ i,i < k/\row[i]? = some y:=by
 obtain ⟨i,hi,e⟩:=JL h
 rw [Hw] at hi
 refine ⟨i,by lia,?_⟩
 rw [List.getElem_take] at e
 rw [Do (show i < row.length by lia),e]
theorem fF {row:List Int} {k:Nat} {y:Int} (h:row[k]? = some y):row.getD k 0=y:=by rw [FB,h]; rfl
theorem Off.step {row:List Int} {k p p':Nat} {x:Int} (o:Off row k p) (hp:row.Perm (dP row.length)) (hx:row[k]? = some x) (hp':(p':Int)=if (p:Int)<=x then x+1 else (p:Int)) :
  ∃ l0 t,stk row k p'=l0++[t]/\(t=x->l0=stk row (k+1) p'/\Off row (k+1) p')/\(t≠x->gX row k=true):=by
 have nd:row.Nodup:=hp.nodup_iff.mpr ((jz _).imp fun h=>Int.ne_of_lt h)
 have rng:∀ y∈row,0<=y/\y < (row.length:Int):=fun y hy=>iw.mp (hp.mem_iff.mp hy)
 have hk:k < row.length:=(GD.mp hx).1
 have xr:=rng x (GR hx)
 have xn:x∉row.take k:=fun h=>by
  obtain ⟨i,hi,e⟩:=eM h
  have:=kT nd e hx
  lia
 have xp:x < (p':Int):=by rw [hp']; split<;>lia
 have pp:(p:Int)<=p':=by rw [hp']; split<;>lia
 have xs:x∈stk row k p':=jU.mpr ⟨⟨xr.1,xp⟩,xn⟩
 have hne:stk row k p'≠[]:=fun z=>by rw [z] at xs; cases xs
 have el:stk row k p'=(stk row k p').dropLast++[(stk row k p').getLast hne]:=(List.dropLast_concat_getLast hne).symm
 have pw:=Bl row k p'
 generalize (stk row k p').dropLast=l0 at el
 generalize (stk row k p').getLast hne=t at el
 refine ⟨l0,t,el,fun e=>?_,fun e=>?_⟩
 ·subst e
  have top:∀ m∈stk row k p',m<=t:=fun m hm=>by
   rw [el] at hm pw
   rcases HN.mp hm with z | z
   ·have:=(JF.mp pw).2.2 m z t (by simp)
    lia
   ·have:m=t:=by simpa using z
    lia
  refine ⟨?_,fun y hy=>?_,?_,fun j hj=>?_⟩
  ·rw [uO hx,el,nH (by rw [<- el]; exact pw)]
  ·rw [Hu,hx] at hy
   rcases HN.mp hy with z | z
   ·have:=o.below y z
    lia
   ·have:y=t:=by simpa using z
    lia
  ·have hm:t∈row.take (k+1):=by rw [Hu,hx]; simp
   by_cases c:(p:Int)<=t
   ·rw [if_pos c] at hp'
    exact .inr ⟨t,hm,hp'⟩
   ·rw [if_neg c] at hp'
    rcases o.from_ with z | ⟨y,hy,z⟩
    ·lia
    ·exact .inr ⟨y,by rw [Hu]; exact JD _ hy,by lia⟩
  ·by_cases c:j=k
   ·subst c
    cases hb:gX row j with
    | false=>rfl
    | true =>
     obtain ⟨i,m,h1,h2,h3,h4,h5⟩:=(l9 row j).mp hb
     rw [fF hx] at h4
     have em:row[m]? = some (row.getD m 0):=by rw [FB,Do h3]; rfl
     have ei:row[i]? = some (row.getD i 0):=by rw [FB,Do (show i < row.length by lia)]; rfl
     have mi:row.getD i 0∈row.take j:=GR (i:=i) (by rw [IZ h1]; exact ei)
     have b1:=o.below _ mi
     have b2:=rng _ (GR em)
     have nm:row.getD m 0∉row.take j:=fun h=>by
      obtain ⟨i',hi',e'⟩:=eM h
      have:=kT nd e' em
      lia
     have:=top _ (jU.mpr ⟨⟨b2.1,by lia⟩,nm⟩)
     lia
   ·exact o.fine j (by lia)
 ·have ht:t∈stk row k p':=by rw [el]; simp
  obtain ⟨⟨t0,t1⟩,tn⟩:=jU.mp ht
  have xt:x < t:=by
   rw [el] at xs pw
   rcases HN.mp xs with z | z
   ·exact (JF.mp pw).2.2 x z t (by simp)
   ·have:x=t:=by simpa using z
    exact absurd this.symm e
  have c:¬ (p:Int)<=x:=fun c=>by rw [if_pos c] at hp'; lia
  rw [if_neg c] at hp'
  rcases o.from_ with z | ⟨y,hy,z⟩
  ·lia
  ·obtain ⟨i,hi,ei⟩:=eM hy
   have yr:=rng y (GR ei)
   have ty:t≠y:=fun w=>tn (by rw [w]; exact hy)
   have tr:t∈row:=hp.mem_iff.mpr (iw.mpr ⟨t0,by lia⟩)
   obtain ⟨j,hj,ej⟩:=JL tr
   have ej':row[j]? = some t:=by rw [Do hj,ej]
   have jk:k < j:=by
    by_cases h:j < k
    ·exact absurd (GR (i:=j) (by rw [IZ h]; exact ej')) tn
    ·by_cases h2:j=k
     ·subst h2
      rw [hx] at ej'
      exact absurd (Hr ej').symm e
     ·lia
   exact (l9 row k).mpr ⟨i,j,hi,jk,hj,by rw [fF hx,fF ej']; exact xt,by rw [fF ej',fF ei]; lia⟩
end Ck
namespace Ck
open PySem L2
theorem mw:∀ as bs:List Int,fL (as.map V.int) (bs.map V.int)=decide (as=bs)
 | [],[]=>rfl
 | [],b::bs=>rfl
 | a::as,[]=>rfl
 | a::as,b::bs=>by
  rw [G6,G6]
  show (eR (.int a) (.int b)&&fL (as.map V.int) (bs.map V.int))=_
  rw [mw as bs]
  have e:eR (.int a) (.int b)=decide (a=b):=by
   show (a == b)=_
   by_cases h:a=b
   ·subst h; simp
   ·simp [h]
  rw [e]
  by_cases h1:a=b<;>by_cases h2:as=bs<;>simp [h1,h2]
theorem kq (n:Nat):dz 0 n=(dP n).map V.int:=by
 unfold dz dP
 refine congrArg (Kc V.int) (JM fun k _=>?_)
 show (0:Int)+(k:Int)=(k:Int)
 lia
end Ck
namespace Ck
open PySem L2
noncomputable def Gz (n:Nat):List Int:=(GK n).map fun (k:Nat)=>1+(k:Int)
end Ck
namespace Ck
end Ck
namespace Ck
end Ck
namespace L2
open PySem PySem.Spec PyProof.Rows PySem.SeqAt
theorem ko (k:Int):∀ ns:List Int,k∈ns->ns.eraseIdx (ns.idxOf k)=ns.erase k
 | [],h=>by cases h
 | n::ns,h=>by
  by_cases e:n=k
  ·subst e
   rw [List.idxOf_cons_self,List.erase_cons_head]
   rfl
  ·have hm:k∈ns:=by
    rcases GI.mp h with z | z
    ·exact absurd z.symm e
    ·exact z
   have e2:(n::ns).idxOf k=ns.idxOf k+1:=by
    have:(n == k)=false:=by simpa using e
    simp [List.idxOf_cons,this]
   rw [e2,List.erase_cons_tail (by simpa using e)]
   show n::ns.eraseIdx (ns.idxOf k)=_
   rw [ko k ns hm]
section
variable {X:Cx}
noncomputable def ya:V->List V->Hp->VK->Prop:=fun x vs H Q=>∃ (l:GC) (ns:List Int) (k:Int),x = .ref l/\vs=[.int k]/\H l=some (.lst (ns.map V.int))/\k∈ns/\Q .non (upd H l (.lst ((ns.erase k).map V.int)))
theorem tT:jw X "list.remove" ya:=by
 intro pins s σ H x vs v us Q I rx rv h
 obtain ⟨l,ns,k,rfl,rfl,hH,hk,q⟩:=h
 cases rx
 obtain ⟨u,rfl,t,rfl⟩:=rv.one
 obtain ⟨z,its,n,r,hl,e⟩:=I.lstM hH
 have hi:Jh its ns:=intsAre_of r
 have hlen:=hi.length
 have hj:ns.idxOf k < ns.length:=List.idxOf_lt_length_iff.mpr hk
 refine Ka F.slot_list_remove ⟨_,e,rfl⟩ F.entry_list_remove (F.args_list_remove_2 _ _)
  (MeetsSeq.list_remove l its.toArray n (.int k t) (isInt k) (fun y hy=>eq_isInt k t hi y (by simpa using hy)) (ns.idxOf k) (by simpa [hlen] using hj) ?_ ?_ (by rw [GH]; lia)) ⟨e,?_⟩
 ·show isInt k its[ns.idxOf k]=true
  rw [isInt_at k hi _ (by lia) hj]
  simpa using List.getElem_idxOf hj
 ·intro j hjs hlt
  show isInt k its[j]=false
  rw [isInt_at k hi j (by simpa using hjs) (by lia)]
  exact ne_of_lt_idxOf hlt _
 ·rw [<- ko k ns hk] at q
  refine ⟨.non,_,I.lset (its':=its.eraseIdx (ns.idxOf k)) (ys:=(ns.eraseIdx (ns.idxOf k)).map V.int) hH e ?_ (by rw [<- Ck.map_erase]; exact r.eraseIdx _) ?_,rfl,q⟩
  ·show its.toArray.eraseIdxIfInBounds (ns.idxOf k)=(its.eraseIdx (ns.idxOf k)).toArray
   rw [Kb]
  ·rw [FS]
   have:=List.length_eraseIdx_le ns (ns.idxOf k)
   rw [FS] at hl z
   lia
theorem ua {K:GM} (hK:X.K=K):bC X (compareOp .NotIn) (fun x y H Q=>∃ (k:Int) (p:GC) (ns:List Int),x = .int k/\y = .ref p/\aq K H p (ns.map V.int)/\Q (.bl (!decide (k∈ns))) H):=by
 subst hK
 exact u7
theorem l3 {K:GM} (hK:X.K=K):v9 X (za K):=by
 subst hK
 exact nM
end
end L2
namespace Ck
open PySem L2
end Ck
namespace L2
open PySem
theorem EM {A:Hj} {k:Nat} (hr:aQ k A):A.units+1 < cLine:=JR (by lia) hr.un
end L2
namespace Ck
open PySem L2
end Ck
namespace L2
open PySem PySem.Spec PyProof.Rows
section
variable {X:Cx}
end
structure InsT (K:GM) (C:GC):Prop where
 cl:Cls K C
 ha:W.findIn K (.ref C) "__class__" = some (some (.builtin "object.__class__"))
 hn:W.specialIn K (.builtin "object.__class__") "__get__" = some (some (.builtin "getset_descriptor.__get__"))
 htk:W.takesIn K (.builtin "object.__class__")=some true
 hm:W.mroIn K C (.type "object")=some true
end L2
namespace Ck
open PySem L2
end Ck
namespace L2
open PySem PySem.Spec PyProof.Rows PyProof
end L2
namespace L2
open PySem PySem.Spec PyProof.Rows
section
variable {X:Cx} {f:GC} {fd:Hz} {ps:List Str} {sp:Sp} {x:Str} {p pos:Pos} {a b e:HZ} {es:List HZ} {tc:TE} {t:TA} {j k:Nat}
end
end L2
namespace Ck
open PySem L2
end Ck
namespace L2
open PySem PySem.Spec PyProof.Rows PySem.W
noncomputable def pw {α:Type} (n:Nat) (lt:Nat->Nat->Bool):KasT α->(α->Prop)->Prop
 | .ret a,Q=>Q a
 | .ask i j k,Q=>i < n/\j < n/\pw n lt (k (lt i j)) Q
theorem eF {α β:Type} {n:Nat} {lt:Nat->Nat->Bool} {f:α->KasT β} {Q:β->Prop}:∀ {t:KasT α},pw n lt t (fun a=>pw n lt (f a) Q)->pw n lt (t.bind f) Q
 | .ret _,h=>h
 | .ask _ _ _,h=>⟨h.1,h.2.1,eF h.2.2⟩
theorem dM {α:Type} {n:Nat} {lt:Nat->Nat->Bool} {Q Q':α->Prop} (m:∀ a,Q a->Q' a):∀ {t:KasT α},pw n lt t Q->pw n lt t Q'
 | .ret a,h=>m a h
 | .ask _ _ _,h=>⟨h.1,h.2.1,dM m h.2.2⟩
theorem wB {α:Type} {n:Nat} {lt:Nat->Nat->Bool} {Q:α->Prop} {s:Fk} {cmp:Nat->Nat->(Bool->Fk->Prop)->Fk->Prop}
  (hc:∀ (i j:Nat) (C:Bool->Fk->Prop),i < n->j < n->C (lt i j) s->cmp i j C s):∀ {t:KasT α},pw n lt t Q->t.kasWp cmp (fun a s'=>s'=s/\Q a) s
 | .ret _,h=>⟨rfl,h⟩
 | .ask i j k,h=>hc i j (fun b s'=>(k b).kasWp cmp (fun a s'=>s'=s/\Q a) s') h.1 h.2.1 (wB hc h.2.2)
structure gf (lt:Nat->Nat->Bool):Prop where
 asym:∀ a b,lt a b=true->lt b a=false
 ntr:∀ a b c,lt b a=false->lt c b=false->lt c a=false
noncomputable abbrev gA (p:Array Nat) (k:Nat):Nat:=p.getD k 0
def cC (n:Nat) (p:Array Nat):Prop:=p.toList.Perm (GK n)
theorem cC.size {n:Nat} {p:Array Nat} (h:cC n p):p.size=n:=by
 have:=h.length_eq
 rw [IJ] at this
 simpa using this
theorem cC.lt {n:Nat} {p:Array Nat} (h:cC n p) (hn:0 < n) (k:Nat):gA p k < n:=by
 unfold gA
 by_cases hk:k < p.size
 ·have e:p.getD k 0=p[k]:=by simp [hk]
  rw [e]
  exact GT.mp (h.mem_iff.mp (Array.getElem_mem_toList hk))
 ·have e:p.getD k 0=0:=by simp [hk]
  rw [e]; exact hn
theorem gY {p:Array Nat} {i j:Nat} (hj:j<=p.size) (k:Nat):gA (L5 p i j) k=if i<=k/\k < j then gA p (i+j - 1 - k) else gA p k:=by
 unfold gA L5
 rw [Hv,getElem?_mirror_all hj k]
 split
 ·rw [<- Hv]
 ·rw [<- Hv]
theorem BB {p:Array Nat} {src d:Nat} (hs:src < p.size) (hd:d<=src) (k:Nat):gA (bubble p src d) k=if k=src - d then gA p src else if src - d < k/\k<=src then gA p (k - 1) else gA p k:=by
 unfold gA
 rw [Hv,getElem?_bubble hs d hd k]
 split
 ·simp [hs]
 ·split
  ·rw [<- Hv]
  ·rw [<- Hv]
theorem cC.rev {n:Nat} {p:Array Nat} (h:cC n p) (i j:Nat):cC n (L5 p i j):=(KN.mp (mirror_perm p i j _)).trans h
theorem cC.bub {n:Nat} {p:Array Nat} (h:cC n p) (i j:Nat):cC n (bubble p i j):=(KN.mp (bubble_perm p i j)).trans h
section
variable {n:Nat} {lt:Nat->Nat->Bool} (O:gf lt)
def b8 (lt:Nat->Nat->Bool) (p:Array Nat) (k:Nat):Prop:=∀ i j,i<=j->j < k->lt (gA p j) (gA p i)=false
def fO (lt:Nat->Nat->Bool) (p:Array Nat) (k:Nat):Prop:=∀ i j,i<=j->j < k->lt (gA p i) (gA p j)=false
def jA (lt:Nat->Nat->Bool) (a b:Nat):Prop:=lt a b=false/\lt b a=false
include O
theorem gf.irr (a:Nat):lt a a=false:=by
 cases h:lt a a with
 | false=>rfl
 | true=>exact h.symm.trans (O.asym a a h)
theorem gf.alk (a:Nat):jA lt a a:=⟨O.irr a,O.irr a⟩
theorem gf.alkT {a b c:Nat} (x:jA lt a b) (y:jA lt b c):jA lt a c:=⟨O.ntr c b a y.1 x.1,O.ntr a b c x.2 y.2⟩
theorem gf.up {a b c:Nat} (x:lt a b=true) (y:lt c b=false):lt a c=true:=by
 cases h:lt a c with
 | true=>rfl
 | false=>exact (x.symm.trans (O.ntr b c a y h)).symm▸rfl
theorem b8.one (p:Array Nat):b8 lt p 1:=fun i j h1 h2=>by
 have e:i=j:=by lia
 subst e
 exact O.irr _
theorem fO.one (p:Array Nat):fO lt p 1:=fun i j h1 h2=>by
 have e:i=j:=by lia
 subst e
 exact O.irr _
theorem b8.snoc {p:Array Nat} {m:Nat} (h1:1<=m) (h:b8 lt p m) (c:lt (gA p m) (gA p (m - 1))=false):b8 lt p (m+1):=fun i j ij jm=>by
 by_cases hj:j < m
 ·exact h i j ij hj
 ·have e:j=m:=by lia
  subst e
  by_cases hi:i=j
  ·subst hi; exact O.irr _
  ·exact O.ntr _ _ _ (h i (j - 1) (by lia) (by lia)) c
theorem fO.snoc {p:Array Nat} {m:Nat} (h1:1<=m) (h:fO lt p m) (c:lt (gA p (m - 1)) (gA p m)=false):fO lt p (m+1):=fun i j ij jm=>by
 by_cases hj:j < m
 ·exact h i j ij hj
 ·have e:j=m:=by lia
  subst e
  by_cases hi:i=j
  ·subst hi; exact O.irr _
  ·exact O.ntr _ _ _ c (h i (j - 1) (by lia) (by lia))
theorem fO.alk {p p':Array Nat} {m:Nat} (h:fO lt p m) (e:∀ k,k < m->jA lt (gA p' k) (gA p k)):fO lt p' m:=fun i j ij jm =>
 O.ntr _ _ _ (e j jm).2 (O.ntr _ _ _ (h i j ij jm) (e i (by lia)).1)
theorem l6 {p:Array Nat} (hp:cC n p) {N:Nat} (hN:N<=n):∀ (f m:Nat),1<=m->m+f=N->b8 lt p m->pw n lt (kas_asc p f m) (fun r=>m<=r/\r<=N/\b8 lt p r/\(r < N->lt (gA p r) (gA p (r - 1))=true))
 | 0,m,h1,h2,h=>⟨GF _,by lia,h,fun z=>absurd z (by lia)⟩
 | f+1,m,h1,h2,h=>by
  refine ⟨hp.lt (by lia) _,hp.lt (by lia) _,?_⟩
  show pw n lt (if lt (gA p m) (gA p (m - 1))=true then _ else _) _
  cases c:lt (gA p m) (gA p (m - 1)) with
  | true =>
   rw [if_pos rfl]
   exact ⟨GF _,by lia,h,fun _=>c⟩
  | false =>
   rw [if_neg (by decide)]
   exact dM (fun r hr=>⟨by lia,hr.2⟩) (l6 hp hN f (m+1) (by lia) (by lia) (h.snoc O h1 c))
theorem h8 {N:Nat} (hN:N<=n):∀ (f:Nat) (p:Array Nat) (m q:Nat),cC n p->q+1<=m->m+f=N->fO lt p m->(∀ i,m - 1 - q<=i->i < m->jA lt (gA p i) (gA p (m - 1))) ->
  pw n lt (kas_desc f p m q) (fun r=>cC n r.1/\r.2.2+1<=r.2.1/\r.2.1<=N/\fO lt r.1 r.2.1/\∀ i,r.2.1 - 1 - r.2.2<=i->i < r.2.1->jA lt (gA r.1 i) (gA r.1 (r.2.1 - 1)))
 | 0,p,m,q,hp,hq,h2,h,al=>⟨hp,hq,by show m<=N; lia,h,al⟩
 | f+1,p,m,q,hp,hq,h2,h,al=>by
  have hs:=hp.size
  refine ⟨hp.lt (by lia) _,hp.lt (by lia) _,?_⟩
  show pw n lt (if lt (gA p m) (gA p (m - 1))=true then _ else _) _
  cases c:lt (gA p m) (gA p (m - 1)) with
  | true =>
   rw [if_pos rfl]
   by_cases q0:q > 0
   ·rw [if_pos q0]
    have e:∀ k,gA (L5 p (m - (q+1)) m) k=if m - (q+1)<=k/\k < m then gA p (m - (q+1)+m - 1 - k) else gA p k:=fun k=>gY (by lia) k
    have ek:∀ k,k < m->jA lt (gA (L5 p (m - (q+1)) m) k) (gA p k):=fun k hk=>by
     rw [e k]
     split
     ·have z1:=al (m - (q+1)+m - 1 - k) (by lia) (by lia)
      have z2:=al k (by lia) hk
      exact O.alkT z1 ⟨z2.2,z2.1⟩
     ·exact O.alk _
    have em:gA (L5 p (m - (q+1)) m) m=gA p m:=by rw [e m,if_neg (by lia)]
    refine h8 hN f _ (m+1) 0 (hp.rev _ _) (by lia) (by lia) ((h.alk O ek).snoc O (by lia) ?_) (fun i i1 i2=>?_)
    ·rw [em]
     have:=(ek (m - 1) (by lia)).1
     exact O.ntr _ _ _ (O.asym _ _ c) this
    ·have:i=m:=by lia
     subst this
     exact O.alk _
   ·rw [if_neg q0]
    refine h8 hN f p (m+1) 0 hp (by lia) (by lia) (h.snoc O (by lia) (O.asym _ _ c)) (fun i i1 i2=>?_)
    have:i=m:=by lia
    subst this
    exact O.alk _
  | false =>
   rw [if_neg (by decide)]
   refine ⟨hp.lt (by lia) _,hp.lt (by lia) _,?_⟩
   show pw n lt (if lt (gA p (m - 1)) (gA p m)=true then _ else _) _
   cases d:lt (gA p (m - 1)) (gA p m) with
   | true =>
    rw [if_pos rfl]
    exact ⟨hp,hq,by show m<=N; lia,h,al⟩
   | false =>
    rw [if_neg (by decide)]
    refine h8 hN f p (m+1) (q+1) hp (by lia) (by lia) (h.snoc O (by lia) d) (fun i i1 i2=>?_)
    by_cases hi:i < m
    ·exact O.alkT (al i (by lia) hi) ⟨d,c⟩
    ·have:i=m:=by lia
     subst this
     exact O.alk _
def yS (n:Nat) (lt:Nat->Nat->Bool) (N:Nat) (r:Nat × Array Nat):Prop:=cC n r.2/\b8 lt r.2 r.1/\1<=r.1/\r.1<=N
theorem mr {N:Nat} (hN:N<=n) {p:Array Nat} {m:Nat} (hp:cC n p) (h1:1<=m) (hm:m<=N) (h:fO lt p m):pw n lt (kas_tail3 m N p) (yS n lt N):=by
 have hs:=hp.size
 have e:∀ k,k < m->gA (L5 p 0 m) k=gA p (m - 1 - k):=fun k hk=>by
  rw [gY (by lia),if_pos (by lia),Nat.zero_add]
 refine eF (dM (fun r hr=>?_) (l6 O (hp.rev 0 m) hN (N - m) m h1 (by lia) (fun i j ij jm=>?_)))
 ·exact ⟨hp.rev 0 m,hr.2.2.1,by show 1<=r; lia,hr.2.1⟩
 ·rw [e i (by lia),e j jm]
  exact h _ _ (by lia) (by lia)
theorem iC {N:Nat} (hN:N<=n) {p:Array Nat} {m:Nat} (hp:cC n p) (h1:1<=m) (hm:m+1<=N) (h:fO lt p m) (c:lt (gA p m) (gA p (m - 1))=true):pw n lt (kas_descPart m N p) (yS n lt N):=by
 refine eF (dM (fun r hr=>?_) (h8 O hN (N - (m+1)) p (m+1) 0 hp (by lia) (by lia) (h.snoc O h1 (O.asym _ _ c)) (fun i i1 i2=>?_)))
 ·obtain ⟨p',m',q'⟩:=r
  obtain ⟨ok,hq,hl,fa,al⟩:=hr
  have hs:=ok.size
  dsimp only at hs hq hl fa al |-
  by_cases q0:q' > 0
  ·rw [if_pos q0]
   refine mr O hN (ok.rev _ _) (by lia) hl (fa.alk O fun k hk=>?_)
   rw [gY (by lia)]
   split
   ·have z1:=al (m' - (q'+1)+m' - 1 - k) (by lia) (by lia)
    have z2:=al k (by lia) hk
    exact O.alkT z1 ⟨z2.2,z2.1⟩
   ·exact O.alk _
  ·rw [if_neg q0]
   exact mr O hN ok (by lia) hl fa
 ·have:i=m:=by lia
  subst this
  exact O.alk _
theorem ub {N:Nat} (hN:N<=n) (hN1:1<=N) {p:Array Nat} (hp:cC n p):pw n lt (kas_count N p) (yS n lt N):=by
 have hs:=hp.size
 refine eF (dM (fun m hm=>?_) (l6 O hp hN (N - 1) 1 (GF _) (by lia) (b8.one O p)))
 obtain ⟨m1,mN,ri,st⟩:=hm
 by_cases e:m=N
 ·subst e
  rw [if_pos (by simp)]
  exact ⟨hp,ri,m1,GF _⟩
 ·rw [if_neg (by simpa using e)]
  have c:=st (by lia)
  by_cases m2:m > 1
  ·rw [if_pos m2]
   refine ⟨hp.lt (by lia) _,hp.lt (by lia) _,?_⟩
   show pw n lt (if lt (gA p 0) (gA p (m - 1))=true then _ else _) _
   cases d:lt (gA p 0) (gA p (m - 1)) with
   | true =>
    rw [if_pos rfl]
    exact ⟨hp,ri,m1,mN⟩
   | false =>
    rw [if_neg (by decide)]
    have al:∀ i,i < m->jA lt (gA p i) (gA p 0):=fun i hi=>⟨ri 0 i (by lia) hi,O.ntr _ _ _ (ri i (m - 1) (by lia) (by lia)) d⟩
    have e:∀ k,k < m->gA (L5 p 0 m) k=gA p (m - 1 - k):=fun k hk=>by
     rw [gY (by lia),if_pos (by lia),Nat.zero_add]
    refine iC O hN (hp.rev _ _) m1 (by lia) (fun i j ij jm=>?_) ?_
    ·rw [e i (by lia),e j jm]
     have z1:=al (m - 1 - i) (by lia)
     have z2:=al (m - 1 - j) (by lia)
     exact (O.alkT z1 ⟨z2.2,z2.1⟩).1
    ·rw [gY (by lia),if_neg (by lia),e (m - 1) (by lia),show m - 1 - (m - 1)=0 by lia]
     exact O.up c d
  ·rw [if_neg m2]
   have em:m=1:=by lia
   subst em
   exact iC O hN hp (GF _) (by lia) (fO.one O p) c
theorem iU {p:Array Nat} (hp:cC n p) {k:Nat} (hk:k < n) (h:b8 lt p k):∀ (f l r:Nat),l<=r->r<=k->r - l<=f->(∀ i,i < l->lt (gA p k) (gA p i)=false)->(∀ i,r<=i->i < k->lt (gA p k) (gA p i)=true) ->
  pw n lt (kas_place p k f l r) (fun l'=>l'<=k/\(∀ i,i < l'->lt (gA p k) (gA p i)=false)/\∀ i,l'<=i->i < k->lt (gA p k) (gA p i)=true)
 | 0,l,r,h1,h2,h3,a,b=>⟨by lia,a,fun i i1 i2=>b i (by lia) i2⟩
 | f+1,l,r,h1,h2,h3,a,b=>by
  show pw n lt (if l ≥ r then _ else _) _
  by_cases e:l ≥ r
  ·rw [if_pos e]
   exact ⟨by lia,a,fun i i1 i2=>b i (by lia) i2⟩
  ·rw [if_neg e]
   refine ⟨hp.lt (by lia) _,hp.lt (by lia) _,?_⟩
   show pw n lt (if lt (gA p k) (gA p ((l+r) / 2))=true then _ else _) _
   cases c:lt (gA p k) (gA p ((l+r) / 2)) with
   | true =>
    rw [if_pos rfl]
    exact iU hp hk h f l ((l+r) / 2) (by lia) (by lia) (by lia) a fun i i1 i2=>O.up c (h _ i i1 i2)
   | false =>
    rw [if_neg (by decide)]
    exact iU hp hk h f ((l+r) / 2+1) r (by lia) h2 (by lia) (fun i hi=>O.ntr _ _ _ (h i ((l+r) / 2) (by lia) (by lia)) c) b
theorem sY:∀ (f:Nat) (p:Array Nat) (k:Nat),cC n p->k+f=n->b8 lt p k->pw n lt (kas_bin f p k) (fun p'=>cC n p'/\b8 lt p' n)
 | 0,p,k,hp,hk,h=>by
  have:k=n:=by lia
  subst this
  exact ⟨hp,h⟩
 | f+1,p,k,hp,hk,h=>by
  have hs:=hp.size
  refine eF (dM (fun l hl=>?_) (iU O hp (by lia) h k 0 k (by lia) (GF _) (by lia) (fun i hi=>absurd hi (by lia)) (fun i i1 i2=>absurd i1 (by lia))))
  obtain ⟨lk,lo,hi⟩:=hl
  refine sY f _ (k+1) (hp.bub _ _) (by lia) (fun i j ij jk=>?_)
  have e:=fun x=>BB (p:=p) (src:=k) (d:=k - l) (by lia) (by lia) x
  rw [e i,e j,show k - (k - l)=l by lia]
  by_cases j1:j=l
  ·subst j1
   rw [if_pos rfl]
   by_cases i1:i=j
   ·rw [if_pos i1]; exact O.irr _
   ·rw [if_neg i1,if_neg (by lia)]
    exact lo i (by lia)
  ·rw [if_neg j1]
   by_cases j2:l < j/\j<=k
   ·rw [if_pos j2]
    by_cases i1:i=l
    ·rw [if_pos i1]
     exact O.asym _ _ (hi (j - 1) (by lia) (by lia))
    ·rw [if_neg i1]
     by_cases i2:l < i/\i<=k
     ·rw [if_pos i2]
      exact h _ _ (by lia) (by lia)
     ·rw [if_neg i2]
      exact h _ _ (by lia) (by lia)
   ·rw [if_neg j2,if_neg (by lia),if_neg (by lia)]
    exact h _ _ ij (by lia)
theorem yb (h2:1<=n):pw n lt (kas_sort n) (fun p=>cC n p/\b8 lt p n):=by
 refine eF (dM (fun r hr=>?_) (ub O (GF n) h2 (p:=JQ (GK n)) (by unfold cC; simp)))
 obtain ⟨m,p⟩:=r
 obtain ⟨ok,ri,m1,mn⟩:=hr
 dsimp only at ok ri m1 mn |-
 by_cases e:m < n
 ·rw [if_pos e,Nat.max_eq_left m1]
  exact sY O (n - m) p m ok (by lia) ri
 ·rw [if_neg e]
  have:m=n:=by lia
  subst this
  exact ⟨ok,ri⟩
end
end L2
namespace L2
open PySem PySem.Spec PyProof.Rows PySem.W Ck
section
variable {prog:GQ} {w:Hh} {A:Hj} {E:Da->Fk->Prop} {s:Fk}
def o9 (prog:GQ) (w:Hh) (A:Hj) (vs:List Da) (lt:Nat->Nat->Bool) (s1:Fk):Prop :=
 ∀ (Q:SortKind->Fk->Prop),(∀ κ,(∀ (i j:Nat) (C:Bool->Fk->Prop),i < vs.length->j < vs.length->C (lt i j) s1->kas_ask prog w A κ vs i j C s1)->Q κ s1)->wpAny (model prog w) A (keyKind' vs.toArray) Q (fun _ _=>False) s1
noncomputable def c5 (vs:List Da) (p:Array Nat):List Da:=p.toList.map fun i=>vs.getD i Hy
theorem si (vs:List Da):c5 vs (JQ (GK vs.length))=vs:=by
 unfold c5
 refine JJ (by simp) fun i h1 h2=>?_
 simp [h2]
theorem xv (vs:List Da):(vs.toArray.zip vs.toArray).map (·.2)=vs.toArray:=by
 refine Array.ext (by simp) fun i h1 h2=>?_
 simp
theorem mL {a:GC} {vs:List Da} {n:Nat} {P:PySem.Fin->Fk->Prop} {lt:Nat->Nat->Bool} (O:gf lt) (ho:s.heap.get? a=some (seqObj "list" vs.toArray n)) (h64:vs.length < 64)
  (hk:∀ h6:HY,(∀ b o,b≠a->s.heap.get? b=some o->h6.get? b=some o)->2<=vs.length->o9 prog w A vs lt { s with heap:=h6 })
  (fin:∀ p:Array Nat,cC vs.length p->b8 lt p vs.length->P (.done (.ret .none)) { s with heap:=sortedHeap s.heap a vs (c5 vs p).toArray }):wpAny (model prog w) A (Builtin.«list.sort» ⟨[.ref a],[]⟩) P E s:=by
 have ha:a < s.heap.objs.size:=GE ho
 have hz:vs.length<=sizeLine:=by rw [HU]; lia
 obtain ⟨e1,ho1⟩:∃ e,(s.heap.update a (Hl fun _=>(#[]:Array Da))).get? a=some (seqObj "list" #[] e):=⟨_,get?_update_seq ho _⟩
 have keep:∀ b o,(s.heap.update a (Hl fun _=>(#[]:Array Da))).get? b=some o->(((s.heap.update a (Hl fun _=>(#[]:Array Da))).push (seqObj "tuple" vs.toArray 0)).push (seqObj "list" #[] 0)).get? b=some o:=fun b o e=>FM _ (FM _ e)
 have old:∀ b o,b≠a->s.heap.get? b=some o->(((s.heap.update a (Hl fun _=>(#[]:Array Da))).push (seqObj "tuple" vs.toArray 0)).push (seqObj "list" #[] 0)).get? b=some o:=fun b o hb e=>keep b o (by rw [Heap.get?_update_ne _ _ _ _ hb]; exact e)
 have ho6:=keep _ _ ho1
 rw [list_sort_plain]
 refine AC (listItems_at ho rfl (AC (listUpdate_at ho rfl (AC (seqEpoch_at ho1 rfl (AC (wpAny_newTuple (AC (wpAny_newList (HA ?_) (GG _))) hz)))) (by rw [GH]; exact hz) (GG _))))
 show wpAny (model prog w) A _ P E { s with heap:=((s.heap.update a (Hl fun _=>(#[]:Array Da))).push (seqObj "tuple" vs.toArray 0)).push (seqObj "list" #[] 0) }
 dsimp only
 by_cases h2:vs.toArray.size < 2
 ·rw [if_pos h2,if_pos h2]
  refine AC (Gc ?_)
  rw [StateT.run_pure]
  refine AC (Gc ?_)
  dsimp only
  have ez:(arrOf (SortSt.mk' general' (vs.toArray.zip vs.toArray) #[] 7 none)).map (·.2)=vs.toArray:=xv vs
  rw [ez]
  refine AC (seqEpoch_at ho6 rfl (AC (listUpdate_at ho6 rfl ?_ (GG _) (by rw [GH]; lia))))
  simp only [bne_self_eq_false,Hg,if_false]
  have f:=fin (JQ (GK vs.length)) (by unfold cC; simp) (fun i j ij jl=>by
   rw [GH] at h2
   have e:i=j:=by lia
   subst e
   exact O.irr _)
  rw [si] at f
  exact Gc f
 ·rw [if_neg h2,if_neg h2]
  rw [GH] at h2
  refine AC (Ij (hk _ old (by lia) _ fun κ ask=>?_) (fun _ _ q=>q) fun _ _ x=>x.elim)
  refine AC (Ij (kat_run (ks:=vs) (Q:=fun st' s'=>∃ p:Array Nat,p.size=vs.length/\arrOf st'=p.map (kas_item (vs.toArray.zip vs.toArray))/\failedOf st'=none/\s'=_/\cC vs.length p/\b8 lt p vs.length) rfl (by lia) h64
   (fun p' st' s' a1 a2 a3 a4=>⟨p',a1,a2,a3,a4⟩) (wB ask (yb O (by lia)))) ?_ fun _ _ e=>e)
  rintro ⟨⟨⟩,st'⟩ s' ⟨p,hp,har,hf,rfl,ok,ri⟩
  dsimp only
  rw [kat_snds rfl har]
  refine AC (seqEpoch_at ho6 rfl (AC (listUpdate_at ho6 rfl ?_ (GG _) (by rw [GH,FS,GS,hp]; lia))))
  rw [hf]
  simp only [bne_self_eq_false,Hg,if_false]
  exact Gc (fin p ok ri)
theorem jg {l:GC} {vs:List Da} {Q:Da->Fk->Prop} {lt:Nat->Nat->Bool} (O:gf lt) (hl:s.heap.IsList l vs.toArray) (h64:vs.length < 64)
  (hk:∀ h6:HY,(∀ b o,s.heap.get? b=some o->h6.get? b=some o)->2<=vs.length->o9 prog w A.in1.in1 vs lt { s with heap:=h6 })
  (fin:∀ p:Array Nat,cC vs.length p->b8 lt p vs.length->Q (.ref (s.heap.objs.size+1)) { s with heap:=sortedAll s.heap vs (c5 vs p).toArray }):wpAny (model prog w) A (call (.builtin "sorted") [.ref l]) Q E s:=by
 have hz:vs.length<=sizeLine:=by rw [HU]; lia
 have hsz:((s.heap.push (seqObj "list" #[] 0)).update s.heap.objs.size (Hl (·++vs.toArray))).objs.size=s.heap.objs.size+1:=by rw [JK,size_push']
 have hoL:(((s.heap.push (seqObj "list" #[] 0)).update s.heap.objs.size (Hl (·++vs.toArray))).push (seqObj "list" vs.toArray 0)).get? (s.heap.objs.size+1)=some (seqObj "list" vs.toArray 0):=by rw [<- hsz]; exact GO _ rfl
 have keep:∀ b o,s.heap.get? b=some o->(((s.heap.push (seqObj "list" #[] 0)).update s.heap.objs.size (Hl (·++vs.toArray))).push (seqObj "list" vs.toArray 0)).get? b=some o:=fun b o q=>by
  have hlt:b < s.heap.objs.size:=GE q
  refine FM _ ?_
  rw [Heap.get?_update_ne _ _ _ _ (GX hlt)]
  exact FM _ q
 refine K0 kind_sorted plain_sorted entry_sorted (args_sorted1 _) ?_
 unfold Builtin.«sorted»
 refine AC (m:=checkCount "sorted" 1 1 _) (Gc (AC (collect_list hl (AC (wpAny_newList ?_ hz)) hz)))
 show wpAny _ _ _ _ _ { s with heap:=((s.heap.push (seqObj "list" #[] 0)).update s.heap.objs.size (Hl (·++vs.toArray))).push (seqObj "list" vs.toArray 0) }
 rw [hsz]
 refine AC (HA (IF slot_list_sort ⟨_,hoL,rfl⟩ entry_list_sort (mL (s:={ s with heap:=((s.heap.push (seqObj "list" #[] 0)).update s.heap.objs.size (Hl (·++vs.toArray))).push (seqObj "list" vs.toArray 0) }) O hoL h64 (fun h6 old=>hk h6 fun b o q=>old b o (GX (Jc (GE q))) (keep b o q)) fun p ok ri=>⟨_,rfl,?_⟩) (args_list_sort _)))
 exact Gc ⟨_,rfl,fin p ok ri⟩
noncomputable def du (p q:Pair):Bool:=decide (p.1 < q.1) || (decide (p.1=q.1)&&decide (p.2 < q.2))
def cx (p q:Pair):Prop:=p.1 < q.1\/(p.1=q.1/\p.2<=q.2)
theorem gG {p q:Pair}:du q p=false↔cx p q:=by
 unfold du cx
 simp only [JG,LH,decide_eq_false_iff_not]
 lia
theorem yo {p q:Pair}:du p q=true↔¬ cx q p:=by
 rw [<- gG]
 simp
theorem zU (ps:List Pair):gf fun i j=>du (ps.getD i (0,0)) (ps.getD j (0,0)) where
 asym a b h:=by
  rw [yo] at h
  rw [gG]
  unfold cx at h |-
  lia
 ntr a b c h1 h2:=by
  rw [gG] at h1 h2 |-
  unfold cx at h1 h2 |-
  lia
def fN (h:HY) (vs:List Da) (ps:List Pair):Prop:=Ir (fun (v:Da) (p:Pair)=>∃ a t u,v = .ref a/\IsTup h a #[.int p.1 t,.int p.2 u]) vs ps
theorem fN.get {h:HY}:∀ {vs:List Da} {ps:List Pair},fN h vs ps->∀ {i:Nat},i < vs.length->∃ a t u,vs.getD i Hy = .ref a/\IsTup h a #[.int (ps.getD i (0,0)).1 t,.int (ps.getD i (0,0)).2 u]
 | _,_,.nil,i,e=>absurd e (by simp)
 | _,_,.cons r t,0,e=>r
 | _,_,.cons r t,i+1,e=>by
  have:=fN.get t (i:=i) (by simpa using e)
  simpa using this
theorem fN.tups {h:HY}:∀ {vs:List Da} {ps:List Pair},fN h vs ps->∃ fs:List Da,KatTups h vs fs/\fs.length=vs.length/\∀ v∈fs,∃ i t,v = .int i t
 | _,_,.nil=>⟨[],.nil,rfl,fun v hv=>by cases hv⟩
 | _,_,.cons (b:=p) r t=>by
  obtain ⟨fs,k,l,al⟩:=fN.tups t
  obtain ⟨a,t',u,rfl,o,ho,hc,n,hd⟩:=r
  refine ⟨.int p.1 t'::fs,.cons ho hc hd rfl k,by simp [l],fun v hv=>?_⟩
  rcases GI.mp hv with rfl | hv
  ·exact ⟨_,_,rfl⟩
  ·exact al v hv
theorem wF {vs:List Da} {ps:List Pair} {s1:Fk} (r:fN s1.heap vs ps) (h2:2<=vs.length):o9 prog w A vs (fun i j=>du (ps.getD i (0,0)) (ps.getD j (0,0))) s1:=by
 intro Q q
 obtain ⟨fs,k,l,al⟩:=r.tups
 refine kat_kind (T:=.type "int") k (by lia) (fun v hv=>?_) (by decide) (q _ fun i j C hi hj hc=>?_)
 ·obtain ⟨i,t,rfl⟩:=al v hv
  exact Looks.of_pure rfl
 ·obtain ⟨a,t,u,e1,o1,g1,c1,n1,d1⟩:=r.get hi
  obtain ⟨b,t',u',e2,o2,g2,c2,n2,d2⟩:=r.get hj
  unfold kas_ask
  rw [e1,e2]
  have hc:C (du (ps.getD i (0,0)) (ps.getD j (0,0))) s1:=hc
  generalize ps.getD i (0,0)=p at hc d1
  generalize ps.getD j (0,0)=q' at hc d2
  obtain ⟨x1,y1⟩:=p
  obtain ⟨x2,y2⟩:=q'
  unfold du at hc
  dsimp only at hc d1 d2
  refine kat_lt g1 d1 g2 d2 (kat_cons (Kj ?_))
  by_cases ex:x1=x2
  ·subst ex
   rw [show (x1 == x1)=true from by simp]
   refine kat_yes (kat_cons (Kj ?_))
   by_cases ey:y1=y2
   ·subst ey
    rw [show (y1 == y1)=true from by simp]
    refine kat_yes (kat_nil ?_)
    have e:(decide (x1 < x1) || decide (x1=x1)&&decide (y1 < y1))=false:=by simp
    rw [e] at hc
    exact hc
   ·rw [show (y1 == y2)=false from by simpa using ey]
    refine kat_no (kat_one _ _ (wpAny_lt_int ?_))
    have e:(decide (x1 < x1) || decide (x1=x1)&&decide (y1 < y2))=decide (y1 < y2):=by simp
    rw [e] at hc
    exact hc
  ·rw [show (x1 == x2)=false from by simpa using ex]
   refine kat_no (oneLt_int ?_)
   have e:(decide (x1 < x2) || decide (x1=x2)&&decide (y1 < y2))=decide (x1 < x2):=by simp [ex]
   rw [e] at hc
   exact hc
end
section
variable {X:Cx}
theorem rP {pins:List (GC × Obj)} {σ:St} {H:Hp} {s:Fk} (I:Inv X pins σ H s):∀ {us:List V} {ps:List Pair} {vs:List Da},b7 H us ps->Vals us vs->fN s.heap vs ps
 | _,_,_,.nil,.nil=>.nil
 | _,_,_,.cons r t,.cons rv tv=>by
  obtain ⟨a,rfl,ha⟩:=r
  cases rv
  obtain ⟨its,r',tu,_⟩:=I.tuple (bQ.of ha)
  refine .cons ⟨a,?_⟩ (rP I t tv)
  cases r' with
  | cons x1 r2 =>
   cases r2 with
   | cons x2 r3 =>
    cases r3
    obtain ⟨t1,rfl⟩:=x1
    obtain ⟨t2,rfl⟩:=x2
    exact ⟨t1,t2,rfl,tu⟩
theorem fN.mono {h h':HY} (k:∀ b o,h.get? b=some o->h'.get? b=some o):∀ {vs:List Da} {ps:List Pair},fN h vs ps->fN h' vs ps
 | _,_,.nil=>.nil
 | _,_,.cons r t=>by
  obtain ⟨a,t1,t2,e,o,ho,hc,n,hd⟩:=r
  exact .cons ⟨a,t1,t2,e,o,k _ _ ho,hc,n,hd⟩ (fN.mono k t)
theorem cF {α β:Type} {R:α->β->Prop} {as:List α} {bs:List β} (h:Ir R as bs) (da:α) (db:β):∀ is:List Nat,(∀ i∈is,i < as.length)->Ir R (is.map fun i=>as.getD i da) (is.map fun i=>bs.getD i db)
 | [],_=>.nil
 | i::is,hi=>by
  refine .cons ?_ (cF h da db is fun j hj=>hi j (GJ _ hj))
  have hl:=hi i (GY ..)
  have go:∀ {as:List α} {bs:List β},Ir R as bs->∀ i,i < as.length->R (as.getD i da) (bs.getD i db):=by
   intro as bs h
   induction h with
   | nil=>intro i hi; simp at hi
   | cons r t ih =>
    intro i hi
    cases i with
    | zero=>simpa using r
    | succ i=>simpa using ih i (by simpa using hi)
  exact go h i hl
theorem eS {α:Type} (d:α) (l:List α) {is:List Nat} (h:is.Perm (GK l.length)):(is.map fun i=>l.getD i d).Perm l:=by
 refine (h.map _).trans ?_
 have e:(GK l.length).map (fun i=>l.getD i d)=l:=JJ (by simp) fun i h1 h2=>by simp [h2]
 rw [e]
theorem my:cb X (.builtin "sorted") (fun xs H Q=>∃ (p:GC) (ps:List Pair),xs=[.ref p]/\dw H p ps/\ps.length < 64/\∀ (q:GC) (qs:List Pair) (H':Hp),ae H H'->H q=none->dw H' q qs->qs.Perm ps->qs.Pairwise cx->Q (.ref q) H'):=by
 intro pins s σ H xs us Q I r h
 obtain ⟨p,ps,rfl,⟨ws,hl,pr⟩,h64,q⟩:=h
 obtain ⟨u,rfl,ru⟩:=vals1 r
 cases ru
 obtain ⟨its,r',pl,hz⟩:=I.list (aq.of hl)
 have lw:=pr.length
 have li:ws.length=its.length:=r'.length
 have pv:=rP I pr r'
 refine jg (zU ps) pl.isList (by lia) (fun h6 old h2=>wF (s1:={ s with heap:=h6 }) (pv.mono old) h2) fun g ok ri=>?_
 obtain ⟨e,he⟩:=sortedAll_at s.heap its (c5 its g).toArray
 have hb:∀ i∈g.toList,i < its.length:=fun i hi=>GT.mp (ok.mem_iff.mp hi)
 have lg:g.toList.length=its.length:=by rw [ok.length_eq,IJ]
 have hz2:(g.toList.map fun i=>ws.getD i V.non).length<=sizeLine:=by rw [FS,lg]; exact sz (by lia)
 have vs2:Vals (g.toList.map fun i=>ws.getD i V.non) (c5 its g):=cF r' V.non Hy g.toList (fun i hi=>by rw [li]; exact hb i hi)
 have pr2:b7 H (g.toList.map fun i=>ws.getD i V.non) (g.toList.map fun i=>ps.getD i (0,0)):=cF pr V.non (0,0) g.toList (fun i hi=>by rw [li]; exact hb i hi)
 have fr:H (s.heap.objs.size+1)=none:=I.hok.fresh (IU _)
 refine ⟨.ref _,_,I.laid (t':=s.toks) (o:=.lst (g.toList.map fun i=>ws.getD i V.non)) (fun b u e=>sortedAll_old e) (IU _) ⟨hz2,c5 its g,e,vs2,by simpa [seqObj] using he⟩,rfl,?_⟩
 refine q _ _ _ (ae.new (ae.refl H) fr _) fr ⟨_,ag,pr2.updN fr _⟩ (eS (0,0) ps (by rw [<- lw,li]; exact ok)) ?_
 rw [Jb]
 have gs:g.size=its.length:=by rw [<- lg]; simp
 refine Hd.mpr fun i j hi hj hij=>?_
 have:=ri i j (by lia) (by rw [<- gs]; simpa using hj)
 rw [gG] at this
 unfold gA at this
 simpa [show i < g.size by simpa using hi,show j < g.size by simpa using hj] using this
end
end L2
namespace L2
open PySem PySem.Spec PyProof.Rows PySem.W
section
variable {prog:GQ} {w:Hh} {A:Hj} {E:Da->Fk->Prop} {s:Fk} {R:Mj->Fk->Prop} {d:Da} {it:GC} {fp wr:List GC} {n:Nat} {P:Nat->Da->Prop} {St:Nat->HY->Prop}
end
section
variable {X:Cx} {e:HZ} {es:List HZ} {kws:List Keyword} {p pos:Pos} {t tk:TA} {x:Str} {id:String} {ks:List Str} {r:List V->List V->Hp->VK->Prop}
end
end L2
namespace L2
open PySem PySem.Spec PyProof.Rows
section
variable {X:Cx}
end
theorem aN.two {K:GM} {H:Hp} {n:Nat} {a b:GC} {x1 y1 x2 y2:Int} (ne:a≠b) (ha:H a=some (.tup [.int x1,.int y1])) (hb:H b=some (.tup [.int x2,.int y2])):aN K H (n+1) (.ref a) (.ref b) (decide (x1=x2)&&decide (y1=y2)):=by
 have h:=aN.tup (n:=n) (e:=fun j=>if j=0 then decide (x1=x2) else decide (y1=y2)) ne (bQ.of (K:=K) ha) (bQ.of (K:=K) hb) (fun j x y ex ey=>by
  match j,ex,ey with
  | 0,ex,ey =>
   have e1:V.int x1=x:=by simpa using ex
   have e2:V.int x2=y:=by simpa using ey
   rw [<- e1,<- e2,if_pos rfl]
   have z:=aN.flat (K:=K) (H:=H) (n:=n) (x:=V.int x1) (y:=V.int x2) rfl rfl
   exact z
  | 1,ex,ey =>
   have e1:V.int y1=x:=by simpa using ex
   have e2:V.int y2=y:=by simpa using ey
   rw [<- e1,<- e2,if_neg (by decide)]
   have z:=aN.flat (K:=K) (H:=H) (n:=n) (x:=V.int y1) (y:=V.int y2) rfl rfl
   exact z
  | j+2,ex,ey=>simp at ex)
 have e:((GK (min [V.int x1,V.int y1].length [V.int x2,V.int y2].length)).all (fun j=>if j=0 then decide (x1=x2) else decide (y1=y2))&&decide ([V.int x1,V.int y1].length=[V.int x2,V.int y2].length))=(decide (x1=x2)&&decide (y1=y2)):=by
  simp [JS]
 first
  | (rw [e] at h; exact h)
  | (simp [JS] at h; exact h)
end L2
namespace Ck
open PySem L2
def Cut (n:Nat) (p:Pair):Prop:=0<=p.1/\p.1+1 < p.2/\p.2<=(n:Int)+1/\¬ (p.1=0/\p.2=(n:Int)+1)
structure ED (n:Nat) (ps:List Pair):Prop where
 cut:∀ p∈ps,Cut n p
 ris:ps.Pairwise cx
 len:ps.length<=n
theorem uL {p q:Pair} (h:cx p q) (h':cx q p):p=q:=by
 unfold cx at h h'
 exact LP (by lia) (by lia)
theorem uK {ps qs:List Pair} (hp:ps.Pairwise cx) (hq:qs.Pairwise cx) (h:ps.Perm qs):ps=qs :=
 ID (le:=cx) (fun _ _ _ _ h1 h2=>uL h1 h2) hp hq h
noncomputable def DK (i j:Nat):List Pair:=(if i=0 then [] else [(0,(i:Int)+1)])++(if j=0 then [] else [((i:Int)+1,(i:Int)+(j:Int)+2)])
noncomputable def D9 (i j:Nat) (ps qs:List Pair):List Pair:=ps++DK i j++qs.map (up ((i:Int)+1))
section
variable {i j:Nat} {ps qs:List Pair} (hp:ED i ps) (hq:ED j qs)
include hp hq
variable {cs:List Pair} (hc:cs.Perm (D9 i j ps qs)) (hs:cs.Pairwise cx)
include hc hs
end
end Ck
namespace L2
open PySem PySem.Spec PyProof.Rows PySem.W PySem.SeqAt Ck
noncomputable def cy:List Int->List Int->Bool
 | [],[]=>false
 | [],_::_=>true
 | _::_,[]=>false
 | a::as,b::bs=>if a=b then cy as bs else decide (a < b)
theorem lF:∀ as:List Int,cy as []=false
 | []=>rfl
 | _::_=>rfl
theorem mE:∀ as bs:List Int,cy as bs=true->cy bs as=false
 | [],[],h=>rfl
 | [],_::_,_=>rfl
 | _::_,[],h=>by cases h
 | a::as,b::bs,h=>by
  unfold cy at h |-
  by_cases e:a=b
  ·rw [if_pos e] at h
   rw [if_pos e.symm]
   exact mE as bs h
  ·rw [if_neg e] at h
   rw [if_neg (fun z=>e z.symm)]
   have:=of_decide_eq_true h
   exact decide_eq_false (by lia)
theorem nR:∀ as bs cs:List Int,cy bs as=false->cy cs bs=false->cy cs as=false
 | [],_,cs,_,_=>lF cs
 | _::_,[],_,h,_=>by cases h
 | _::_,_::_,[],_,h=>by cases h
 | a::as,b::bs,c::cs,h1,h2=>by
  unfold cy at h1 h2 |-
  by_cases e1:b=a
  ·rw [if_pos e1] at h1
   by_cases e2:c=b
   ·rw [if_pos e2] at h2
    rw [if_pos (e2.trans e1)]
    exact nR as bs cs h1 h2
   ·rw [if_neg e2] at h2
    have:=of_decide_eq_false h2
    rw [if_neg (fun z=>e2 (z.trans e1.symm))]
    exact decide_eq_false (by lia)
  ·rw [if_neg e1] at h1
   have d1:=of_decide_eq_false h1
   by_cases e2:c=b
   ·rw [if_pos e2] at h2
    rw [if_neg (fun z=>e1 (e2.symm.trans z))]
    exact decide_eq_false (by lia)
   ·rw [if_neg e2] at h2
    have:=of_decide_eq_false h2
    rw [if_neg (by lia)]
    exact decide_eq_false (by lia)
theorem E1 (rs:List (List Int)):gf fun i j=>cy (rs.getD i []) (rs.getD j []) where
 asym a b h:=mE _ _ h
 ntr a b c h1 h2:=nR _ _ _ h1 h2
theorem iq {vs:List Da} {ns:List Int} (h:Jh vs ns):∀ {i:Nat} {n:Int},ns[i]? = some n->∃ t,vs[i]? = some (.int n t):=by
 induction h with
 | nil=>intro i n e; cases e
 | cons m t h ih =>
  intro i n e
  cases i with
  | zero=>simp at e; exact ⟨t,by rw [<- e]; rfl⟩
  | succ i=>exact ih (by simpa using e)
theorem xC (l b:GC) (items items2:Array Da) (ns ms:List Int) (hi:Jh items.toList ns) (hm:Jh items2.toList ms) (n n2:Nat) (dd dd2:Option GC) (sl sl2:Array (Option Da)):∀ (k i:Nat),ns.length - i=k->i<=ns.length->i<=ms.length ->
  Meets (Builtin.«list.__eq__.loop» ⟨[.ref l,.ref b,rawInt i,rawInt 0],[]⟩) (fun A R s=>s.heap.get? l=some { cls:=.type "list",dict:=dd,data:=.seq items n,slots:=sl }/\s.heap.get? b=some { cls:=.type "list",dict:=dd2,data:=.seq items2 n2,slots:=sl2 }/\R (.ok (.ret (.bool (cy (ns.drop i) (ms.drop i))))) s):=by
 have l1:items.size=ns.length:=by have:=hi.length; simpa using this
 have l2:items2.size=ms.length:=by have:=hm.length; simpa using this
 -- one of them is at its end
 have fin:∀ i:Nat,i<=ns.length->i<=ms.length->(i=ns.length\/i=ms.length)->cy (ns.drop i) (ms.drop i)=decide (items.size < items2.size):=fun i h1 h2 h=>by
  rw [l1,l2]
  by_cases e:i=ns.length
  ·rw [Jr (as:=ns) (by lia)]
   by_cases e2:i=ms.length
   ·rw [Jr (by lia)]
    exact (decide_eq_false (by lia)).symm
   ·rw [HI (show i < ms.length by lia)]
    exact (decide_eq_true (by lia)).symm
  ·rw [Jr (as:=ms) (by lia),lF]
   exact (decide_eq_false (by lia)).symm
 intro k
 induction k with
 | zero =>
  intro i hk hn2 hm2 prog w A R s h
  obtain ⟨hp,g,d,tk,os⟩:=s
  obtain ⟨hl,hb,h⟩:=h
  wp_walk using HP hl,HP hb
  have n1:items[((i:Nat):Int).toNat]? = none:=by simp; lia
  rw [n1]
  rw [fin i hn2 hm2 (by lia)] at h
  wp_walk using HP hl,HP hb
  exact h
 | succ k ih =>
  intro i hk hn2 hm2 prog w A R s h
  obtain ⟨hp,g,d,tk,os⟩:=s
  obtain ⟨hl,hb,h⟩:=h
  have li:i < ns.length:=by lia
  obtain ⟨t1,g1⟩:=iq hi (Do li)
  have i1:items[((i:Nat):Int).toNat]? = some (.int ns[i] t1):=by simpa using g1
  wp_walk using HP hl,HP hb
  rw [i1]
  by_cases lm:i < ms.length
  ·obtain ⟨t2,g2⟩:=iq hm (Do lm)
   have i2:items2[((i:Nat):Int).toNat]? = some (.int ms[i] t2):=by simpa using g2
   rw [i2]
   rw [HI li,HI lm] at h
   unfold cy at h
   refine AC (Kj ?_)
   by_cases e:ns[i]=ms[i]
   ·rw [if_pos e] at h
    rw [show (ns[i] == ms[i])=true by simpa using e]
    wp_walk
    have hc:((i:Int)+1)=((i+1:Nat):Int):=by lia
    rw [hc]
    exact ⟨IT Jl _,HX Lm (by
     rw [HK Jl _]
     exact ih (i+1) (by lia) (by lia) (by lia) prog w A R _ ⟨hl,hb,h⟩)⟩
   ·rw [if_neg e] at h
    rw [show (ns[i] == ms[i])=false by simpa using e]
    wp_walk using HP hl,HP hb
    rw [i1,i2]
    refine AC (wpAny_lt_int ?_)
    exact Gc h
  ·have n2':items2[((i:Nat):Int).toNat]? = none:=by simp; lia
   rw [n2']
   rw [fin i hn2 hm2 (by lia)] at h
   wp_walk using HP hl,HP hb
   exact h
theorem w4 (l b:GC) (items items2:Array Da) (ns ms:List Int) (hi:Jh items.toList ns) (hm:Jh items2.toList ms) (n n2:Nat) (dd dd2:Option GC) (sl sl2:Array (Option Da)) :
  Meets (Builtin.«list.__lt__» ⟨[.ref l,.ref b],[]⟩) (fun A R s=>s.heap.get? l=some { cls:=.type "list",dict:=dd,data:=.seq items n,slots:=sl }/\s.heap.get? b=some { cls:=.type "list",dict:=dd2,data:=.seq items2 n2,slots:=sl2 }/\R (.ok (.ret (.bool (cy ns ms)))) s):=by
 intro prog w A R s h
 obtain ⟨hp,g,d,tk,os⟩:=s
 obtain ⟨hl,hb,h⟩:=h
 have f3:=LB
 wp_walk using HP hl,HP hb
 exact ⟨IT Jl _,HX Lm (by
  rw [HK Jl _]
  exact xC l b items items2 ns ms hi hm n n2 dd dd2 sl sl2 _ 0 rfl (GG _) (GG _) prog w A R _ ⟨hl,hb,by simpa using h⟩)⟩
section
variable {prog:GQ} {w:Hh} {A:Hj} {E:Da->Fk->Prop} {s:Fk}
theorem pN {l b:GC} {its jts:List Da} {ns ms:List Int} {n n2:Nat} {Q:Bool->Fk->Prop} (hu:A.units < cLine) (hi:Jh its ns) (hm:Jh jts ms) (hl:s.heap.get? l=some { cls:=.type "list",data:=.seq its.toArray n }) (hb:s.heap.get? b=some { cls:=.type "list",data:=.seq jts.toArray n2 }) (h:Q (cy ns ms) s) :
  wpAny (model prog w) A (oneLt' true (.ref l) (.ref b)) Q E s:=by
 rw [oneLt'_eq]
 simp only [if_true]
 refine AC (wpAny_cRoomFor hu (AC (wpAny_callSpecialIfBound?_slot (T:="list") ⟨_,hl,rfl⟩ F.slot_list_lt (Ka F.slot_list_lt ⟨_,hl,rfl⟩ F.entry_list_lt (F.args_list_lt_2 _ _) (w4 l b its.toArray jts.toArray ns ms hi hm n n2 none none #[] #[]) ⟨hl,hb,?_⟩))))
 exact HG h
def gr (h:HY) (vs:List Da) (rs:List (List Int)):Prop:=Ir (fun (v:Da) (r:List Int)=>∃ a its n,v = .ref a/\Jh its r/\h.get? a=some { cls:=.type "list",data:=.seq its.toArray n }) vs rs
theorem gr.get {h:HY}:∀ {vs:List Da} {rs:List (List Int)},gr h vs rs->∀ {i:Nat},i < vs.length->∃ a its n,vs.getD i Hy = .ref a/\Jh its (rs.getD i [])/\h.get? a=some { cls:=.type "list",data:=.seq its.toArray n }
 | _,_,.nil,i,e=>absurd e (by simp)
 | _,_,.cons r t,0,e=>r
 | _,_,.cons r t,i+1,e=>by
  have:=gr.get t (i:=i) (by simpa using e)
  simpa using this
theorem gr.mem {h:HY}:∀ {vs:List Da} {rs:List (List Int)},gr h vs rs->∀ v∈vs,∃ a its n,v = .ref a/\h.get? a=some { cls:=.type "list",data:=.seq (JQ its) n }
 | _,_,.cons r t,v,hv=>by
  rcases GI.mp hv with rfl | hv
  ·obtain ⟨a,its,n,e,_,g⟩:=r
   exact ⟨a,its,n,e,g⟩
  ·exact gr.mem t v hv
theorem gr.mono {h h':HY} (k:∀ b o,h.get? b=some o->h'.get? b=some o):∀ {vs:List Da} {rs:List (List Int)},gr h vs rs->gr h' vs rs
 | _,_,.nil=>.nil
 | _,_,.cons r t=>by
  obtain ⟨a,its,n,e,hi,g⟩:=r
  exact .cons ⟨a,its,n,e,hi,k _ _ g⟩ (gr.mono k t)
theorem D8 {vs:List Da} {rs:List (List Int)} {s1:Fk} (hu:A.units < cLine) (r:gr s1.heap vs rs) (h2:2<=vs.length):o9 prog w A vs (fun i j=>cy (rs.getD i []) (rs.getD j [])) s1:=by
 intro Q q
 refine kas_kind (T:=.type "list") h2 (fun v hv=>?_) (by decide) (by decide) (q _ fun i j C hi hj hc=>?_)
 ·obtain ⟨a,its,n,rfl,g⟩:=r.mem v hv
  exact (Looks.ld g).andThen .now
 ·obtain ⟨a,its,n,e1,i1,g1⟩:=r.get hi
  obtain ⟨b,jts,n2,e2,i2,g2⟩:=r.get hj
  unfold kas_ask
  rw [e1,e2,keyLt'_oneType]
  exact pN hu i1 i2 g1 g2 hc
end
end L2
namespace Ck
open PySem L2
noncomputable abbrev aK (H0 H:Hp) (a:GC):List GC->List (List Int)->Prop:=Ir (fun (b:GC) (ns:List Int)=>H b=some (.lst (ns.map V.int))/\H0 b=none/\b≠a)
def cA (H0 H:Hp) (a:GC) (rs:List (List Int)):Prop:=∃ bs:List GC,H a=some (.lst (bs.map V.ref))/\aK H0 H a bs rs/\bs.Nodup
theorem cA.nil {H0 H:Hp} {a:GC} (h:H a=some (.lst [])):cA H0 H a []:=⟨[],h,.nil,Jp⟩
theorem cA.same {H0 H H':Hp} {a:GC} {rs:List (List Int)} (h:cA H0 H a rs) (s:ae H H'):cA H0 H' a rs :=
 let ⟨bs,e,r,n⟩:=h
 ⟨bs,s _ _ e,Paired.mapP r fun _ _ ⟨p,q⟩=>⟨s _ _ p,q⟩,n⟩
theorem cA.len {H0 H:Hp} {a:GC} {rs:List (List Int)} (h:cA H0 H a rs):∃ xs,H a=some (.lst xs)/\xs.length=rs.length :=
 let ⟨bs,e,r,_⟩:=h
 ⟨_,e,by rw [FS]; exact IG r⟩
theorem aK.get {H0 H:Hp} {a:GC}:∀ {bs:List GC} {rs:List (List Int)},aK H0 H a bs rs->∀ {j:Nat} {ns:List Int},rs[j]? = some ns->∃ b,bs[j]? = some b/\H b=some (.lst (ns.map V.int))/\H0 b=none/\b≠a
 | _,_,.nil,j,ns,e=>by cases e
 | _,_,.cons r t,0,ns,e=>by
  rw [IH] at e
  cases e
  exact ⟨_,rfl,r⟩
 | _,_,.cons r t,j+1,ns,e=>aK.get t (j:=j) (by simpa using e)
theorem cA.get {H0 H:Hp} {a:GC} {rs:List (List Int)} (h:cA H0 H a rs) {xs:List V} (hx:H a=some (.lst xs)) {j:Nat} {ns:List Int} (e:rs[j]? = some ns):∃ b,xs[j]? = some (.ref b)/\H b=some (.lst (ns.map V.int))/\H0 b=none/\b≠a:=by
 obtain ⟨bs,e1,r,_⟩:=h
 rw [hx] at e1
 cases e1
 obtain ⟨b,h1,h2⟩:=r.get e
 exact ⟨b,by rw [Hk,h1]; rfl,h2⟩
theorem aK.updC {H0 H:Hp} {a c:GC} {o:HO}:∀ {bs:List GC} {rs:List (List Int)},aK H0 H a bs rs->(∀ b∈bs,b≠c)->aK H0 (upd H c o) a bs rs
 | _,_,.nil,_=>.nil
 | _,_,.cons ⟨p,q⟩ t,n=>.cons ⟨(av (n _ (by simp))).trans p,q⟩ (aK.updC t fun b hb=>n b (by simp [hb]))
theorem aK.all {H0 H:Hp} {a:GC}:∀ {bs:List GC} {rs:List (List Int)},aK H0 H a bs rs->∀ b∈bs,(∃ ns:List Int,H b=some (.lst (ns.map V.int)))/\H0 b=none/\b≠a
 | _,_,.nil,b,hb=>by cases hb
 | _,_,.cons ⟨p,q⟩ t,b,hb=>by
  rcases GI.mp hb with rfl | z
  ·exact ⟨⟨_,p⟩,q⟩
  ·exact aK.all t b z
theorem aK.snoc {H0 H:Hp} {a b:GC} {ns:List Int} (hb:H b=some (.lst (ns.map V.int))) (h0:H0 b=none) (ne:b≠a):∀ {bs:List GC} {rs:List (List Int)},aK H0 H a bs rs->aK H0 H a (bs++[b]) (rs++[ns])
 | _,_,.nil=>.cons ⟨hb,h0,ne⟩ .nil
 | _,_,.cons r t=>.cons r (aK.snoc hb h0 ne t)
end Ck
namespace Ck
open PySem L2
end Ck
namespace Ck
open PySem PySem.Spec PyProof.Rows L2
theorem jy {X:Cx} {pins:List (GC × Obj)} {σ:L2.St} {H H0:Hp} {s:Fk} {a:GC} (I:Inv X pins σ H s):∀ {bs:List GC} {rs:List (List Int)} {vs:List Da},aK H0 H a bs rs->Vals (bs.map V.ref) vs->gr s.heap vs rs
 | _,_,_,.nil,.nil=>.nil
 | _,_,_,.cons r t,.cons rv tv=>by
  cases rv
  obtain ⟨z,its,n,r',hl,e⟩:=I.lstM r.1
  exact .cons ⟨_,its,n,rfl,intsAre_of r',e⟩ (jy I t tv)
theorem i6 {H H' H0:Hp} {a a':GC}:∀ {bs:List GC} {rs:List (List Int)},aK H0 H a bs rs->(∀ b∈bs,H' b=H b/\b≠a')->aK H0 H' a' bs rs
 | _,_,.nil,_=>.nil
 | _,_,.cons ⟨p,q,_⟩ t,k=>.cons ⟨(k _ (by simp)).1.trans p,q,(k _ (by simp)).2⟩ (i6 t fun b hb=>k b (by simp [hb]))
end Ck
namespace L2
open PySem PySem.Spec PyProof.Rows PySem.W Ck
section
variable {X:Cx}
theorem mH (hu:X.A.units+100 < cLine):cb X (.builtin "sorted") (fun xs H Q=>∃ (p:GC) (H0:Hp) (rs:List (List Int)),xs=[.ref p]/\cA H0 H p rs/\rs.length < 64/\∀ (q:GC) (ss:List (List Int)) (H':Hp),ae H H'->H q=none->cA H0 H' q ss->ss.Perm rs->ss.Pairwise (fun a b=>cy b a=false)->(∀ (ws zs:List V),H p=some (.lst ws)->H' q=some (.lst zs)->∀ v∈zs,v∈ws)->Q (.ref q) H'):=by
 intro pins s σ H xs us Q I r h
 obtain ⟨p,H0,rs,rfl,⟨bs,hl,ro,nd⟩,h64,q⟩:=h
 obtain ⟨u,rfl,ru⟩:=vals1 r
 cases ru
 obtain ⟨its,r',pl,hz⟩:=I.list (aq.of hl)
 have lw:bs.length=rs.length:=IG ro
 have li:(bs.map V.ref).length=its.length:=r'.length
 rw [FS] at li
 have lv:=jy I ro r'
 refine jg (E1 rs) pl.isList (by lia) (fun h6 old h2=>D8 (s1:={ s with heap:=h6 }) (show X.A.units+1+1 < cLine by lia) (lv.mono old) h2) fun g ok ri=>?_
 obtain ⟨e,he⟩:=sortedAll_at s.heap its (c5 its g).toArray
 have hb:∀ i∈g.toList,i < its.length:=fun i hi=>GT.mp (ok.mem_iff.mp hi)
 have lg:g.toList.length=its.length:=by rw [ok.length_eq,IJ]
 have em:(g.toList.map fun i=>(bs.map V.ref).getD i V.non)=(g.toList.map fun i=>bs.getD i 0).map V.ref:=by
  rw [Iz]
  refine JM fun i hi=>?_
  have:=hb i hi
  have l1:i < bs.length:=by lia
  simp [l1]
 have hz2:((g.toList.map fun i=>bs.getD i 0).map V.ref).length<=sizeLine:=by rw [FS,FS,lg]; exact sz (by lia)
 have vs2:Vals ((g.toList.map fun i=>bs.getD i 0).map V.ref) (c5 its g):=by
  rw [<- em]
  exact cF r' V.non Hy g.toList (fun i hi=>by rw [FS,li]; exact hb i hi)
 have ro2:aK H0 H p (g.toList.map fun i=>bs.getD i 0) (g.toList.map fun i=>rs.getD i []):=cF ro 0 [] g.toList (fun i hi=>by rw [li]; exact hb i hi)
 have pm:(g.toList.map fun i=>bs.getD i 0).Perm bs:=eS 0 bs (by rw [li]; exact ok)
 have fr:H (s.heap.objs.size+1)=none:=I.hok.fresh (IU _)
 refine ⟨.ref _,_,I.laid (t':=s.toks) (o:=.lst ((g.toList.map fun i=>bs.getD i 0).map V.ref)) (fun b u e=>sortedAll_old e) (IU _) ⟨hz2,c5 its g,e,vs2,by simpa [seqObj] using he⟩,rfl,?_⟩
 refine q _ _ _ (ae.new (ae.refl H) fr _) fr ⟨_,ag,i6 ro2 (fun b hb'=>?_),pm.nodup_iff.mpr nd⟩ (eS [] rs (by rw [<- lw,li]; exact ok)) ?_ (fun ws zs ew ez v hv=>?_)
 ·obtain ⟨⟨ns,hn⟩,_⟩:=ro2.all b hb'
  have:b≠s.heap.objs.size+1:=az hn fr
  exact ⟨av this,this⟩
 ·rw [Jb]
  have gs:g.size=its.length:=by rw [<- lg]; simp
  refine Hd.mpr fun i j hi hj hij=>?_
  have:=ri i j (by lia) (by rw [<- gs]; simpa using hj)
  unfold gA at this
  simpa [show i < g.size by simpa using hi,show j < g.size by simpa using hj] using this
 ·rw [hl] at ew
  cases ew
  rw [ag] at ez
  cases ez
  exact (pm.map V.ref).mem_iff.mp hv
end
theorem mC:∀ as bs:List Int,cy as bs=false->cy bs as=false->as=bs
 | [],[],_,_=>rfl
 | [],_::_,h,_=>by cases h
 | _::_,[],_,h=>by cases h
 | a::as,b::bs,h1,h2=>by
  unfold cy at h1 h2
  by_cases e:a=b
  ·rw [if_pos e] at h1
   rw [if_pos e.symm] at h2
   rw [e,mC as bs h1 h2]
  ·rw [if_neg e] at h1
   rw [if_neg (fun z=>e z.symm)] at h2
   have:=of_decide_eq_false h1
   have:=of_decide_eq_false h2
   lia
end L2
namespace Ck
open PySem L2
noncomputable abbrev hd (r:List Int):Int:=r.getD 0 0
noncomputable def iota (k:Nat):List Int:=(GK k).map fun (i:Nat)=>(i:Int)
structure EG (k:Nat) (rs:List (List Int)):Prop where
 ne:∀ r∈rs,r≠[]
 inc:∀ r∈rs,r.Pairwise (· < ·)
 heads:(rs.map hd).Pairwise (· < ·)
 flat:rs.flatten.Perm (iota k)
theorem sH {r:List Int} (h:r≠[]):hd r∈r:=by
 cases r with
 | nil=>exact absurd rfl h
 | cons a r=>exact GY ..
section
variable {i:Nat} {ls:List (List Int)} (h:EG i ls)
include h
variable {j:Nat} {rs:List (List Int)} (h':EG j rs)
include h'
end
end Ck
namespace L2
open PySem PySem.Spec PyProof.Rows
end L2
namespace Ck
open PySem L2
theorem cA.at {H0 H:Hp} {a:GC} {rs:List (List Int)} {xs:List V} (h:cA H0 H a rs) (hx:H a=some (.lst xs)) {j:Nat} {v:V} (e:xs[j]? = some v) :
  ∃ b ns,v = .ref b/\rs[j]? = some ns/\H b=some (.lst (ns.map V.int))/\H0 b=none/\b≠a:=by
 obtain ⟨ys,ey,ly⟩:=h.len
 rw [hx] at ey
 cases ey
 have hj:j < rs.length:=by rw [<- ly]; exact (GD.mp e).1
 obtain ⟨b,h1,h2,h3,h4⟩:=h.get hx (Do hj)
 rw [e] at h1
 cases h1
 exact ⟨b,rs[j],rfl,Do hj,h2,h3,h4⟩
theorem cA.push {H0 H H':Hp} {a b:GC} {rs:List (List Int)} {xs:List V} {ns:List Int} (h:cA H0 H a rs) (hx:H a=some (.lst xs)) (s:ae H H') (fb:H b=none) (hb:H' b=some (.lst (ns.map V.int))) (h0:H0 b=none) :
  cA H0 (upd H' a (.lst (xs++[.ref b]))) a (rs++[ns]):=by
 obtain ⟨bs,e,r,n⟩:=h
 rw [hx] at e
 cases e
 have ne:b≠a:=fun z=>by rw [z,hx] at fb; cases fb
 have nb:∀ c∈bs,c≠b:=fun c hc z=>by
  obtain ⟨⟨ms,e⟩,_⟩:=r.all c hc
  rw [z,fb] at e
  cases e
 have r1:aK H0 H' a bs rs:=Paired.mapP r fun _ _ ⟨p,q⟩=>⟨s _ _ p,q⟩
 have r2:aK H0 (upd H' a (.lst (bs.map V.ref++[.ref b]))) a bs rs:=r1.updC fun c hc=>(r.all c hc).2.2
 refine ⟨bs++[b],by rw [ag,G7]; rfl,aK.snoc ((av ne).trans hb) h0 ne r2,?_⟩
 refine Jd.mpr ⟨n,by simp,?_⟩
 intro c hc d hd
 have:d=b:=by simpa using hd
 rw [this]
 exact nb c hc
def vg (H:Hp) (a c:GC):Prop:=c≠a/\∀ xs,H a=some (.lst xs)->V.ref c∉xs
def Apart (H:Hp) (p q:GC):Prop:=vg H p q/\∀ ys c,H q=some (.lst ys)->V.ref c∈ys->vg H p c
def oH (a:GC) (H H':Hp):Prop:=∀ c,vg H a c->∀ o,H c=some o->H' c=some o
theorem len_one:∀ (ls:List (List Int)) (r:List Int),r∈ls->r.length<=ls.flatten.length
 | [],r,h=>by cases h
 | s::ls,r,h=>by
  rw [I0,GZ]
  rcases GI.mp h with rfl | h
  ·lia
  ·have:=len_one ls r h
   lia
end Ck
namespace Ck
open PySem L2
inductive Bt where
 | leaf
 | node (l r:Bt)
noncomputable def Bt.size:Bt->Nat
 | .leaf=>0
 | .node l r=>l.size+r.size+1
noncomputable def brk:Bt->List Nat
 | .leaf=>[]
 | .node l r=>40::(brk l++41::brk r)
noncomputable def pre (n j:Nat):Int:=((GK j).map fun i=>sh i*sh (n - 1 - i)).sum
noncomputable def Tw (H:Hp):V->Bt->Prop
 | v,.leaf=>∃ p,v = .ref p/\H p=some (.tup [])
 | v,.node l r=>∃ p a b,v = .ref p/\H p=some (.tup [a,b])/\Tw H a l/\Tw H b r
end Ck
namespace Ck
open PySem L2
end Ck
namespace L2
open PySem PySem.Spec PyProof.Rows
theorem qR (l b:GC) (us vs:Array Da) (n m:Nat) (d:Option GC) (sl:Array (Option Da)) (h0:¬(!us.isEmpty&&Builtin.List.listTooLong (us.size+vs.size))=true) (h1:us.size<=sizeLine) (h2:us.size+vs.size<=sizeLine+1) :
  Meets (Builtin.«list.extend» ⟨[.ref l,.ref b],[]⟩) (fun _ R s=>s.heap.get? l=some { cls:=.type "list",dict:=none,data:=.seq us n,slots:=#[] } /\
   s.heap.get? b=some { cls:=.type "tuple",dict:=d,data:=.seq vs m,slots:=sl } /\
   R (.ok (.ret Hy)) { s with heap:=s.heap.update l (Hl fun x=>x++vs),toks:=s.toks }) :=
 .of_wp fun prog w A R s h=>by
  obtain ⟨hp,g,dr,tk,os⟩:=s
  obtain ⟨hl,hb,h⟩:=h
  have f2:=AutoSeq1.sub_tuple_tuple
  have f3:=LB
  have f4:=AutoSeq1.sub_tuple_list
  have f5:=AutoSeq1.sub_list_tuple
  have h2':(us++vs).size<=sizeLine+1:=by rw [Array.size_append]; exact h2
  wp_walk using (Je hl rfl (hz:=h1) (_hz':=h2')),Ld hl,Ld hb
  exact ⟨_,rfl,h⟩
section
variable {X:Cx}
noncomputable def wc (K:GM):V->List V->Hp->VK->Prop:=fun x vs H Q=>∃ l b xs zs,x = .ref l/\vs=[.ref b]/\H l=some (.lst xs)/\bQ K H b zs/\xs.length+zs.length<=sizeLine/\Q .non (upd H l (.lst (xs++zs)))
theorem xw:jw X "list.extend" (wc X.K):=by
 intro pins s σ H x vs v us Q I rx rv h
 obtain ⟨l,b,xs,zs,rfl,rfl,hH,hB,hz,q⟩:=h
 cases rx
 obtain ⟨u,rfl,ru⟩:=rv.one
 cases ru
 obtain ⟨z,its,n,r,hl,e⟩:=I.lstM hH
 obtain ⟨its2,r2,⟨⟨oc,od,dt,os⟩,e2,c2,m2,d2⟩,z2⟩:=I.tuple hB
 dsimp only at c2 d2
 subst c2 d2
 have l1:=r.length
 have l2:=r2.length
 have hsz:its.toArray.size+its2.toArray.size<=sizeLine:=by rw [GH,GH]; lia
 have hlong:¬ (!its.toArray.isEmpty&&Builtin.List.listTooLong (its.toArray.size+its2.toArray.size))=true:=by
  rw [iR hsz,KZ]
  exact GU
 refine Ka F.slot_list_extend ⟨_,e,rfl⟩ F.entry_list_extend (F.args_list_extend_2 _ _) (qR l b its.toArray its2.toArray n m2 od os hlong (by rw [GH]; lia) (by lia)) ⟨e,e2,?_⟩
 refine ⟨.non,_,I.lset (its':=its++its2) hH e (by simp) (r.append r2) ?_,rfl,q⟩
 rw [GZ]
 lia
variable {X:Cx} {o e:HZ} {es:List HZ} {to:TE} {t:TA} {name:Str} {apos cpos:Pos} {T id:String} {r:V->List V->Hp->VK->Prop}
end
section
variable {X:Cx}
end
theorem m6 {lo:Int} {n:Nat} {g:TG} {tt:TT} {te:TE} {σ0:St} {H:Hp} {D:GC} {Q:VK} (Pv:Nat->List V->Hp->Prop) (hz:n<=sizeLine)
  (h0:Pv 0 [] (upd H D (.lst []))) (hl:∀ i ys H',i<=n->Pv i ys H'->ys.length<=i)
  (hs:∀ (i:Nat) (ys:List V) (H':Hp) (R:VK) (R0:Hp->Prop),i < n->Pv i ys H'->(∀ v H3,H3 D=some (.lst ys)->Pv (i+1) (ys++[v]) (upd H3 D (.lst (ys++[v])))->R v H3)->(∀ H3,Pv (i+1) ys H3->R0 H3) ->
   g (.int (lo+i)) σ0 H' fun σ2 H2=>Ext σ0 σ2/\tt σ2 H2 fun b H3=>if b=true then te σ2 H3 R else R0 H3)
  (hq:∀ ys H',Pv n ys H'->Q (.ref D) H') :
  hV (i3 lo n) g tt te σ0 D Q H:=by
 refine ⟨fun i m ys H'=>m=n - i/\i<=n/\Pv i ys H',⟨n,by simp,GG _,h0⟩,?_⟩
 rintro i m ys H' ⟨rfl,hi,p⟩
 have ly:=hl i ys H' hi p
 by_cases hlt:i < n
 ·refine .inr ⟨hlt,fun x H'' y=>?_⟩
  obtain ⟨e,y⟩:=y
  subst e y
  refine hs i ys _ _ _ hlt p (fun v H3 hD p'=>⟨hD,by lia,n - (i+1),by lia,rfl,hlt,p'⟩) fun H3 p'=>⟨n - (i+1),by lia,rfl,hlt,p'⟩
 ·have e:i=n:=by lia
  subst e
  exact .inl ⟨GF _,hq ys H' p⟩
end L2
namespace Ck
open PySem L2
theorem aN.void {K:GM} {H:Hp} {n:Nat} {a b:GC} {xs:List V} (ne:a≠b) (ha:aq K H a xs) (hb:aq K H b []):aN K H (n+1) (.ref a) (.ref b) (decide (xs=[])):=by
 cases xs with
 | nil=>exact aN.lstT ne ha hb rfl (fun j x y hx _=>by cases hx)
 | cons x xs=>exact aN.lstN ne ha hb (by simp)
noncomputable def GA (ts:List Bt):Nat:=(ts.map Bt.size).sum
end Ck
namespace Lg
open PySem PyProof.Rows
section
variable {prog:GQ} {w:Hh} {A:Hj} {E:Da->Fk->Prop} {s:Fk}
end
noncomputable abbrev key (p:Keyed):Int:=numOf p.1
variable {a b out:Array Keyed} {ia ib:Nat}
section
variable {prog:GQ} {w:Hh} {A:Hj} {E:Da->Fk->Prop} {s:Fk}
end
variable {na nb:Nat}
section
variable {prog:GQ} {w:Hh} {A:Hj} {E:Da->Fk->Prop} {s:Fk}
end
section
variable {prog:GQ} {w:Hh} {A:Hj} {E:Da->Fk->Prop} {s:Fk}
end
section
variable {prog:GQ} {w:Hh} {A:Hj} {E:Da->Fk->Prop} {s:Fk} {a₀:Array Keyed} {P:Array (Nat × Nat × Nat)}
end
section
variable {prog:GQ} {w:Hh} {A:Hj} {E:Da->Fk->Prop} {s:Fk} {a₀:Array Keyed} {P:Array (Nat × Nat × Nat)}
end
section
variable {prog:GQ} {w:Hh} {A:Hj} {E:Da->Fk->Prop} {s:Fk} {a₀:Array Keyed}
end
section
variable {prog:GQ} {w:Hh} {A:Hj} {E:Da->Fk->Prop} {s:Fk}
end
end Lg
namespace L2
open PySem PySem.Spec PyProof.Rows
end L2
namespace L2
open PySem PySem.Spec PyProof.Rows
section
variable {X:Cx} {tg:HZ}
end
section
variable {X:Cx} {a b c d:HZ} {ta tb tc td:TE} {pos:Pos}
noncomputable def E2 (r1 r2 r3:R2) (ta tb tc td:TE):TE:=fun σ H Q=>ta σ H fun x H1=>tb σ H1 fun y H2=>r1 x y H2 fun z H3=>∃ k,z = .bl k /\
 (if k=true then tc σ H3 fun w' H4=>r2 y w' H4 fun z' H5=>∃ k',z' = .bl k'/\(if k'=true then td σ H5 fun v' H6=>r3 w' v' H6 Q else Q (.bl false) H5) else Q (.bl false) H3)
theorem Bz {o1 o2 o3:CmpOp} {r1 r2 r3:R2} (h1:bC X (compareOp o1) r1) (h2:bC X (compareOp o2) r2) (h3:bC X (compareOp o3) r3) (ha:PE X a ta) (hb:PE X b tb) (hc:PE X c tc) (hd:PE X d td)
  (hm:lastMarks [o1,o2,o3] [b,c,d]=false:=by with_unfolding_all rfl):PT X (.Compare a [o1,o2,o3] [b,c,d] pos) (wm (E2 r1 r2 r3 ta tb tc td)):=by
 intro pins s σ H Q I h
 refine isTrue_chain (ax (ha pins s σ H _ I h) fun v s1 ⟨x,H1,I1,x1,q1⟩=>test_link (ax (hb pins s1 σ H1 _ I1 q1) fun u s2 ⟨y,H2,I2,x2,q2⟩ =>
  ax (h1 pins s2 σ H2 x y v u _ I2 x1 x2 q2) fun e s3 ⟨z,H3,I3,x3,k,ek,q3⟩=>?_)) hm
 subst ek
 cases x3
 refine HG ?_
 cases k with
 | false =>
  obtain ⟨k',e',q'⟩:=q3
  cases e'
  exact ite_ff ⟨H3,I3,q'⟩
 | true =>
  refine ite_tt (test_link (ax (hc pins s3 σ H3 _ I3 q3) fun w' s4 ⟨z',H4,I4,x4,q4⟩=>ax (h2 pins s4 σ H4 y z' u w' _ I4 x2 x4 q4) fun d' s5 ⟨z2,H5,I5,x5,k2,e2,q5⟩=>?_))
  subst e2
  cases x5
  refine HG ?_
  cases k2 with
  | false =>
   obtain ⟨k',e',q'⟩:=q5
   cases e'
   exact ite_ff ⟨H5,I5,q'⟩
  | true =>
   refine ite_tt (test_last (ax (hd pins s5 σ H5 _ I5 q5) fun w2 s6 ⟨z3,H6,I6,x6,q6⟩=>ax (h3 pins s6 σ H6 z' z3 w' w2 _ I6 x4 x6 q6) fun d2 s7 ⟨z4,H7,I7,x7,k3,e3,q7⟩=>?_))
   subst e3
   cases x7
   exact HG ⟨H7,I7,q7⟩
end
end L2
namespace Ck
open PySem L2
theorem aN.prs {K:GM} {H:Hp} {a b:GC} {ps qs:List Pair} (ne:a≠b) (ha:dw H a ps) (hb:dw H b qs):aN K H 2 (.ref a) (.ref b) (decide (ps=qs)):=by
 obtain ⟨xs,ea,lx,px⟩:=ha.len
 obtain ⟨ys,eb,ly,py⟩:=hb.len
 by_cases hl:ps.length=qs.length
 ·have h:=aN.lst (K:=K) (n:=1) (e:=fun j=>decide (ps.getD j (0,0)=qs.getD j (0,0))) ne (aq.of ea) (aq.of eb) (by lia) (fun j x y hx hy=>by
   obtain ⟨p,t,hp,rfl,ht⟩:=px.get hx
   obtain ⟨r,u,hr,rfl,hu⟩:=py.get hy
   rw [FB,FB,hp,hr]
   show aN K H 1 _ _ (decide (p=r))
   by_cases e:t=u
   ·subst e
    have:p=r:=by
     rw [ht] at hu
     injection hu with hu; injection hu with hu
     injection hu with h1 h2; injection h2 with h2 _
     injection h1 with h1; injection h2 with h2
     exact LP h1 h2
    rw [decide_eq_true this]
    exact aN.same
   ·have:=aN.two (K:=K) (n:=0) e ht hu
    have e2:decide (p=r)=(decide (p.1=r.1)&&decide (p.2=r.2)):=by
     rw [HE,GN,decide_eq_true_iff,decide_eq_true_iff,decide_eq_true_iff]
     exact ⟨fun z=>by rw [z]; exact ⟨rfl,rfl⟩,fun z=>LP z.1 z.2⟩
    rw [e2]
    exact this)
  have e:(GK xs.length).all (fun j=>decide (ps.getD j (0,0)=qs.getD j (0,0)))=decide (ps=qs):=by
   rw [HE,GW,decide_eq_true_iff]
   constructor
   ·intro h
    refine JJ hl fun k h1 h2=>?_
    have:=of_decide_eq_true (h k (GT.mpr (by lia)))
    rw [FB,FB,Do h1,Do h2] at this
    exact this
   ·intro h k _
    rw [h]
    exact decide_eq_true rfl
  rw [e] at h
  exact h
 ·have:decide (ps=qs)=false:=decide_eq_false fun z=>hl (by rw [z])
  rw [this]
  exact aN.lstN ne (aq.of ea) (aq.of eb) (by lia)
end Ck
namespace Ck
open PySem L2
noncomputable def bD:List Pair->List Int
 | []=>[]
 | p::ps=>p.1::p.2::bD ps
theorem gM:∀ ps:List Pair,(bD ps).length=2*ps.length
 | []=>rfl
 | p::ps=>by
  show (bD ps).length+1+1=2*(ps.length+1)
  have:=gM ps
  lia
theorem kJ:∀ ps qs:List Pair,bD (ps++qs)=bD ps++bD qs
 | [],qs=>rfl
 | p::ps,qs=>by
  show p.1::p.2::bD (ps++qs)=_
  rw [kJ ps qs]
  rfl
theorem ku {x:Int}:∀ {ps:List Pair},x∈bD ps↔∃ p∈ps,x=p.1\/x=p.2
 | []=>by simp [bD]
 | p::ps=>by
  show x∈p.1::p.2::bD ps↔_
  rw [GI,GI,ku (ps:=ps)]
  constructor
  ·rintro (h | h | ⟨r,hr,h⟩)
   ·exact ⟨p,GY ..,.inl h⟩
   ·exact ⟨p,GY ..,.inr h⟩
   ·exact ⟨r,GJ _ hr,h⟩
  ·rintro ⟨r,hr,h⟩
   rcases GI.mp hr with rfl | hr
   ·rcases h with h | h
    ·exact .inl h
    ·exact .inr (.inl h)
   ·exact .inr (.inr ⟨r,hr,h⟩)
noncomputable abbrev eK (ps:List Pair) (k:Nat):Int:=(ps.getD k (0,0)).1
noncomputable abbrev Bi (ps:List Pair) (k:Nat):Int:=(ps.getD k (0,0)).2
noncomputable def tF (ps:List Pair) (k:Nat):Bool:=decide (eK ps k < Bi ps k)&&(decide (k=0) || decide (eK ps (k - 1) < eK ps k))
noncomputable def ff (p r:Pair):Bool:=decide (p.1 < r.1)&&(decide (r.1 < p.2)&&decide (p.2 < r.2))
noncomputable def cz (ps:List Pair):Bool:=ps.any fun p=>ps.any (ff p)
noncomputable def dy (ps:List Pair):Bool:=(GK ps.length).all (tF ps)&&(bN (bD ps)&&!cz ps)
theorem nK {ps:List Pair}:(GK ps.length).all (tF ps)=true↔∀ k,k < ps.length->eK ps k < Bi ps k/\(k=0\/eK ps (k - 1) < eK ps k):=by
 rw [GW]
 constructor
 ·intro h k hk
  have:=h k (GT.mpr hk)
  unfold tF at this
  simpa using this
 ·intro h k hk
  have:=h k (GT.mp hk)
  unfold tF
  simpa using this
theorem sr {ps:List Pair} (h:∀ k,k < ps.length->k=0\/eK ps (k - 1) < eK ps k):∀ (j i:Nat),i < j->j < ps.length->eK ps i < eK ps j
 | 0,i,hi,_=>absurd hi (Iy _)
 | j+1,i,hi,hj=>by
  have h1:=(h (j+1) hj).resolve_left (by lia)
  rw [Jt] at h1
  by_cases e:i=j
  ·subst e; exact h1
  ·exact Int.lt_trans (sr h j i (by lia) (by lia)) h1
theorem rM {ps:List Pair} {k:Nat} (h:k < ps.length):ps.getD k (0,0)∈ps:=by
 rw [FB,Do h]
 exact JI h
theorem tO {ps:List Pair} {p:Pair} (h:p∈ps):∃ k,k < ps.length/\ps.getD k (0,0)=p:=by
 obtain ⟨k,hk,e⟩:=JL h
 exact ⟨k,hk,by rw [FB,Do hk]; exact e⟩
theorem rL {ps:List Pair} (h:(bD ps).Nodup):ps.Pairwise fun p q=>p.1≠q.1:=by
 induction ps with
 | nil=>exact .nil
 | cons p ps ih =>
  have h':(p.1::p.2::bD ps).Nodup:=h
  rw [HF,HF] at h'
  refine .cons (fun q hq e=>h'.1 ?_) (ih h'.2.2)
  rw [e]
  exact GJ _ (ku.mpr ⟨q,hq,.inl rfl⟩)
theorem rZ (n:Nat):(dP n).Nodup:=(jz n).imp fun h=>Int.ne_of_lt h
theorem gu {ps qs:List Pair} (hp:qs.Perm ps) (hs:qs.Pairwise cx) (hE:bN (bD ps)=true):decide (ps=qs)=true↔∀ k,k < ps.length->k=0\/eK ps (k - 1) < eK ps k:=by
 have nd:(bD ps).Nodup:=((eU _).mp hE).nodup_iff.mpr (rZ _)
 have ne:=rL nd
 rw [decide_eq_true_iff]
 constructor
 ·intro e k hk
  rw [<- e] at hs
  by_cases h0:k=0
  ·exact .inl h0
  refine .inr ?_
  have h1:=Hd.mp hs (k - 1) k (by lia) hk (by lia)
  have h2:=Hd.mp ne (k - 1) k (by lia) hk (by lia)
  have e1:ps.getD (k - 1) (0,0)=ps[k - 1]:=by rw [FB,Do (by lia)]; rfl
  have e2:ps.getD k (0,0)=ps[k]:=by rw [FB,Do hk]; rfl
  unfold eK
  rw [e1,e2]
  unfold cx at h1
  lia
 ·intro h
  refine ID (le:=cx) (fun a b _ _ h1 h2=>?_) ?_ hs hp.symm
  ·unfold cx at h1 h2
   exact LP (by lia) (by lia)
  ·refine Hd.mpr fun i j hi hj hij=>?_
   have:=sr h j i hij hj
   unfold eK at this
   rw [FB,FB,Do hi,Do hj] at this
   exact .inl this
theorem CU {ps:List Pair}:(ps.all fun p=>decide (p.1 < p.2))=true↔∀ k,k < ps.length->eK ps k < Bi ps k:=by
 rw [GW]
 constructor
 ·intro h k hk
  exact of_decide_eq_true (h _ (rM hk))
 ·intro h p hp
  obtain ⟨k,hk,rfl⟩:=tO hp
  exact decide_eq_true (h k hk)
theorem tG {ps:List Pair} (h:bN (bD ps)=false):dy ps=false:=by unfold dy; rw [h]; simp
theorem qa {ps qs:List Pair} (hp:qs.Perm ps) (hs:qs.Pairwise cx) (hE:bN (bD ps)=true) (h:ps≠qs):dy ps=false:=by
 cases e:dy ps with
 | false=>rfl
 | true =>
  unfold dy at e
  rw [GN] at e
  exact absurd (of_decide_eq_true ((gu hp hs hE).mpr fun k hk=>(nK.mp e.1 k hk).2)) h
theorem m7 {ps qs:List Pair} (hp:qs.Perm ps) (hs:qs.Pairwise cx) (hE:bN (bD ps)=true) (h:ps=qs):dy ps=((ps.all fun p=>decide (p.1 < p.2))&&!cz ps):=by
 have a:=(gu hp hs hE).mp (decide_eq_true h)
 have b:(GK ps.length).all (tF ps)=ps.all fun p=>decide (p.1 < p.2):=by
  rw [HE,nK,CU]
  exact ⟨fun h k hk=>(h k hk).1,fun h k hk=>⟨h k hk,a k hk⟩⟩
 unfold dy
 rw [b,hE,HB]
theorem pY {ps:List Pair}:cz ps=true↔∃ p∈ps,∃ r∈ps,p.1 < r.1/\r.1 < p.2/\p.2 < r.2:=by
 unfold cz
 rw [IE]
 constructor
 ·rintro ⟨p,hp,h⟩
  obtain ⟨r,hr,h⟩:=IE.mp h
  unfold ff at h
  exact ⟨p,hp,r,hr,by simpa using h⟩
 ·rintro ⟨p,hp,r,hr,h⟩
  exact ⟨p,hp,IE.mpr ⟨r,hr,by unfold ff; simpa using h⟩⟩
end Ck
namespace L2
open PySem PySem.Spec PyProof.Rows
section
variable {κ:Type} [DecidableEq κ]
noncomputable def cQ (kvs:List (κ × V)) (k:κ):Option V:=(kvs.find? fun kv=>decide (kv.1=k)).map (·.2)
noncomputable def putK (kvs:List (κ × V)) (k:κ) (v:V):List (κ × V) :=
 if (kvs.any fun kv=>decide (kv.1=k))=true then kvs.map (fun kv=>if kv.1=k then (kv.1,v) else kv) else kvs++[(k,v)]
theorem iX {p:κ × V} {r:List (κ × V)} {k:κ} (e:p.1=k):cQ (p::r) k=some p.2:=by simp [cQ,Jf,e]
theorem iY {p:κ × V} {r:List (κ × V)} {k:κ} (e:¬ p.1=k):cQ (p::r) k=cQ r k:=by simp [cQ,Jf,e]
theorem gc (k:κ):∀ kvs:List (κ × V),(kvs.any fun kv=>decide (kv.1=k))=(cQ kvs k).isSome
 | []=>rfl
 | p::r=>by
  rw [Jk]
  by_cases e:p.1=k
  ·simp only [iX e,decide_eq_true e,Bool.true_or,Option.isSome_some]
  ·rw [iY e,decide_eq_false e,Bool.false_or]; exact gc k r
theorem fq (kvs:List (κ × V)) (k:κ) (v:V):(putK kvs k v).length<=kvs.length+1:=by
 unfold putK
 split
 ·rw [FS]; lia
 ·rw [GZ,Hq,JU]; lia
theorem uV {kvs:List (κ × V)} {k:κ} (v:V) (h:cQ kvs k=none):putK kvs k v=kvs++[(k,v)]:=by
 unfold putK
 rw [gc,h]
 exact if_neg (by decide)
theorem cO.isSome_eq {o:Option V} {u:Option Da} (r:cO o u):o.isSome=u.isSome:=by
 cases o with
 | none=>cases u with
  | none=>rfl
  | some _=>exact (show False from r).elim
 | some _=>cases u with
  | none=>exact (show False from r).elim
  | some _=>rfl
theorem cO.getD {o:Option V} {u:Option Da} {d:V} {d':Da} (r:cO o u) (rd:RelV d d'):RelV (o.getD d) (u.getD d'):=by
 cases o with
 | none=>cases u with
  | none=>exact rd
  | some _=>exact (show False from r).elim
 | some _=>cases u with
  | none=>exact (show False from r).elim
  | some _=>exact r
theorem KV.val {kvs:List (κ × V)} {vs:List (κ × Da)} (r:KV kvs vs) (k:κ):cO (cQ kvs k) (valueAt vs k):=by
 unfold KV at r
 induction r with
 | nil=>exact IQ
 | @cons p q ps qs h t ih =>
  obtain ⟨h1,h2⟩:=h
  by_cases e:p.1=k
  ·have e':q.1=k:=h1.symm.trans e
   have b:valueAt (q::qs) k=some q.2:=by simp [valueAt,Jf,e']
   rw [iX e,b]; exact h2
  ·have e':¬ q.1=k:=fun z=>e (h1.trans z)
   have b:valueAt (q::qs) k=valueAt qs k:=by simp [valueAt,Jf,e']
   rw [iY e,b]; exact ih
theorem KV.any {kvs:List (κ × V)} {vs:List (κ × Da)} (r:KV kvs vs) (k:κ):(kvs.any fun kv=>decide (kv.1=k))=vs.any fun kv=>decide (kv.1=k):=by
 unfold KV at r
 induction r with
 | nil=>rfl
 | cons h t ih=>rw [Jk,Jk,ih,h.1]
theorem KV.repl {kvs:List (κ × V)} {vs:List (κ × Da)} (r:KV kvs vs) (k:κ) {y:V} {u:Da} (ry:RelV y u) :
  KV (kvs.map fun kv=>if kv.1=k then (kv.1,y) else kv) (vs.map fun kv=>if kv.1=k then (kv.1,u) else kv):=by
 unfold KV at r |-
 induction r with
 | nil=>exact .nil
 | @cons p q ps qs h t ih =>
  rw [G6,G6]
  refine .cons ?_ ih
  obtain ⟨h1,h2⟩:=h
  by_cases e:p.1=k
  ·rw [if_pos e,if_pos (h1.symm.trans e)]; exact ⟨h1,ry⟩
  ·rw [if_neg e,if_neg (fun z=>e (h1.trans z))]; exact ⟨h1,h2⟩
theorem KV.put {kvs:List (κ × V)} {vs:List (κ × Da)} (r:KV kvs vs) (k:κ) {y:V} {u:Da} (ry:RelV y u):KV (putK kvs k y) (stored vs k u):=by
 unfold putK stored
 rw [r.any k]
 by_cases e:(vs.any fun kv=>decide (kv.1=k))=true
 ·rw [if_pos e,if_pos e]; exact r.repl k ry
 ·rw [if_neg e,if_neg e]; exact Paired.snoc r ⟨rfl,ry⟩
theorem KV.length {kvs:List (κ × V)} {vs:List (κ × Da)} (r:KV kvs vs):kvs.length=vs.length:=IG r
end
theorem jj {P:GQ} {w:Hh} {k:Key} {u:Da} (r:RelV (kV k) u):(bu P w).is k u=true:=by
 cases k with
 | inl i=>obtain ⟨t,e⟩:=(show ∃ t,u=Kw i t from r); subst e; exact nE P w i t
 | inr x=>obtain ⟨t,e⟩:=(show ∃ t,u=Kx x t from r); subst e; exact nc P w x t
theorem kE {P:GQ} {w:Hh}:∀ {ks:List Key} {us:List Da},Vals (ks.map kV) us->ItemsAre (bu P w) ks us
 | [],_,r=>by rw [JO] at r; cases r; exact .nil
 | k::ks,_,r=>by
  rw [G6] at r
  cases r with
  | cons h t=>exact .cons (jj h) (kE t)
noncomputable abbrev KT (H:Hp):List (List Key × V)->List (List Key × GC × Da)->Prop:=Ir fun p q=>p.1=q.1/\H q.2.1=some (.tup (p.1.map kV))/\RelV p.2 q.2.2
theorem KT.val {H:Hp} {kvs:List (List Key × V)} {xs:List (List Key × GC × Da)} (r:KT H kvs xs) (k:List Key):cO (cQ kvs k) ((atKey xs k).map (·.2)):=by
 induction r with
 | nil=>exact IQ
 | @cons p q ps qs h t ih =>
  obtain ⟨h1,_,h2⟩:=h
  by_cases e:p.1=k
  ·have e':q.1=k:=h1.symm.trans e
   have b:atKey (q::qs) k=some q.2:=by simp [atKey,Jf,e']
   rw [iX e,b]; exact h2
  ·have e':¬ q.1=k:=fun z=>e (h1.trans z)
   have b:atKey (q::qs) k=atKey qs k:=by simp [atKey,Jf,e']
   rw [iY e,b]; exact ih
theorem KT.repl {H:Hp} {kvs:List (List Key × V)} {xs:List (List Key × GC × Da)} (r:KT H kvs xs) (k:List Key) {y:V} {u:Da} (ry:RelV y u) :
  KT H (kvs.map fun kv=>if kv.1=k then (kv.1,y) else kv) (xs.map (putAt k u)):=by
 induction r with
 | nil=>exact .nil
 | @cons p q ps qs h t ih =>
  rw [G6,G6]
  refine .cons ?_ ih
  obtain ⟨h1,h2,h3⟩:=h
  unfold putAt
  by_cases e:p.1=k
  ·rw [if_pos e,if_pos (h1.symm.trans e)]; exact ⟨h1,h2,ry⟩
  ·rw [if_neg e,if_neg (fun z=>e (h1.trans z))]; exact ⟨h1,h2,h3⟩
theorem KT.put {H:Hp} {kvs:List (List Key × V)} {xs:List (List Key × GC × Da)} (r:KT H kvs xs) (k:List Key) {b:GC} {y:V} {u:Da} (hb:H b=some (.tup (k.map kV))) (ry:RelV y u) :
  KT H (putK kvs k y) (storedH xs k b u):=by
 have e:(kvs.any fun kv=>decide (kv.1=k))=(atKey xs k).isSome:=by
  rw [gc,(r.val k).isSome_eq,Option.isSome_map]
 unfold putK storedH
 rw [e]
 by_cases q:(atKey xs k).isSome=true
 ·rw [if_pos q,if_pos q]; exact r.repl k ry
 ·rw [if_neg q,if_neg q]; exact Paired.snoc r ⟨rfl,hb,ry⟩
theorem KT.keeps {H H':Hp} {kvs:List (List Key × V)} {xs:List (List Key × GC × Da)} (r:KT H kvs xs) (ht:∀ b ys,H b=some (.tup ys)->H' b=some (.tup ys)):KT H' kvs xs :=
 Paired.mapP r fun _ _ z=>⟨z.1,ht _ _ z.2.1,z.2.2⟩
section
variable {P:GQ} {w:Hh} {H:Hp} {h:HY} {a:GC}
theorem wt {u:HO} (ok:bK P w H h) (e:Rd H a u):aT P w H h a u:=e.ok ok
theorem je {kvs:List (Key × V)} (ok:bK P w H h) (e:Rd H a (.dK kvs)):kvs.length<=sizeLine/\(a == sysModules)=false/\∃ vs,KV kvs vs/\h.DictOf (bu P w) a vs :=
 show aT P w H h a (.dK kvs) from wt ok e
theorem wz {kvs:List (Key × V)} (ok:bK P w H h) (e:H a=some (.dK kvs)):kvs.length<=sizeLine/\(a == sysModules)=false/\∃ vs,KV kvs vs/\h.DictOf (bu P w) a vs:=je ok (.inl e)
theorem jx {ks:List Key} (ok:bK P w H h) (e:H a=some (.tup (ks.map kV))):(tupleKind (bu P w)).is h ks a:=by
 obtain ⟨_,its,r,o,h1,h2,n,h3⟩:=(show aT P w H h a (.tup (ks.map kV)) from ok a _ e)
 exact ⟨o,its.toArray,n,h1,h2,h3,by simpa using kE r⟩
theorem jB {kvs:List (List Key × V)} (ok:bK P w H h) (e:Rd H a (.dT kvs)):kvs.length<=sizeLine/\(a == sysModules)=false /\
  ∃ xs,KT H kvs xs/\h.DictOfH (tupleKind (bu P w)) a xs:=by
 obtain ⟨z,y,xs,r,o,es,ep,h1,h2,h3,h4,h5⟩:=(show aT P w H h a (.dT kvs) from wt ok e)
 refine ⟨z,y,xs,r,o,es,ep,h1,h2,h3,h4,fun x hx=>?_,h5⟩
 have all:∀ {l:List (List Key × V)} {m:List (List Key × GC × Da)},KT H l m->∀ x∈m,(tupleKind (bu P w)).is h x.1 x.2.1:=by
  intro l m q
  induction q with
  | nil=>intro x hx; exact nomatch hx
  | @cons p q ps qs hq t ih =>
   intro x hx
   rcases GI.mp hx with e | hx
   ·subst e
    exact jx ok (by rw [<- hq.1]; exact hq.2.1)
   ·exact ih x hx
 exact all r x hx
theorem DQ {kvs:List (List Key × V)} (ok:bK P w H h) (e:H a=some (.dT kvs)):kvs.length<=sizeLine/\(a == sysModules)=false /\
  ∃ xs,KT H kvs xs/\h.DictOfH (tupleKind (bu P w)) a xs:=jB ok (.inl e)
end
def fg (H:Hp) (a:GC) (y:V) (r:Option V):Prop :=
 (∃ kvs k,Rd H a (.dK kvs)/\y=kV k/\r=cQ kvs k)\/∃ kvs k b,Rd H a (.dT kvs)/\y = .ref b/\H b=some (.tup (k.map kV))/\r=cQ kvs k
def jX (H:Hp) (a:GC) (y v:V) (H':Hp):Prop :=
 (∃ kvs k,H a=some (.dK kvs)/\y=kV k/\kvs.length < sizeLine/\H'=upd H a (.dK (putK kvs k v))) \/
 ∃ kvs k b,H a=some (.dT kvs)/\y = .ref b/\H b=some (.tup (k.map kV))/\kvs.length < sizeLine/\H'=upd H a (.dT (putK kvs k v))
theorem fg.k {H:Hp} {a:GC} {kvs:List (Key × V)} {k:Key} (e:H a=some (.dK kvs)):fg H a (kV k) (cQ kvs k):=.inl ⟨kvs,k,.inl e,rfl,rfl⟩
theorem jX.k {H:Hp} {a:GC} {kvs:List (Key × V)} {k:Key} {v:V} (e:H a=some (.dK kvs)) (hl:kvs.length < sizeLine):jX H a (kV k) v (upd H a (.dK (putK kvs k v))):=.inl ⟨kvs,k,e,rfl,hl,rfl⟩
section
variable {X:Cx} {pins:List (GC × Obj)} {σ:St} {H:Hp} {s:Fk} {a:GC} {y v:V} {u r:Da} {o:Option V} {A:Hj} {E:Da->Fk->Prop}
theorem Inv.big (I:Inv X pins σ H s):sysModules < s.heap.objs.size:=by
 have h:mainGlobals < s.heap.objs.size:=(I.mod.glob.keeps I.bk).lt
 exact Nat.lt_trans (by decide) h
theorem rY {Q:Da->Fk->Prop} (hu:A.units+1 < cLine) (I:Inv X pins σ H s) (g:fg H a y (some v)) (ry:RelV y u) (h:∀ w' s',Inv X pins σ H s'->RelV v w'->Q w' s') :
  wpAny (model X.prog X.w) A (getItem (.ref a) u) Q E s:=by
 rcases g with ⟨kvs,k,e,ey,l⟩ | ⟨kvs,k,b,e,ey,eb,l⟩
 ·subst ey
  obtain ⟨z,hd,vs,rel,dd⟩:=je I.hok e
  obtain ⟨w',hw,rw'⟩:=cO.some_of (v:=v) (o:=valueAt vs k) (by rw [l]; exact rel.val k)
  exact wpAny_getItem_of (jj ry) dd.mapOf hw (h w' _ (I.tok _) rw')
 ·subst ey
  cases (show u=GL b from ry)
  obtain ⟨z,hd,xs,rel,dd⟩:=jB I.hok e
  obtain ⟨w',hw,rw'⟩:=cO.some_of (v:=v) (o:=(atKey xs k).map (·.2)) (by rw [l]; exact rel.val k)
  obtain ⟨p,hp,hp2⟩:=Option.map_eq_some_iff.mp hw
  refine wpAny_getItem_heap (KR hu) (jx I.hok eb) dd hp ?_
  rw [hp2]
  exact h w' _ (I.tok _) rw'
theorem jN {h':HY} {t':Nat} {ob:HO} (I:Inv X pins σ H s) (mu:rn (H a)) (hs:Jv a s.heap h') (he:∃ q,h'.get? a=some q) (new:aT X.prog X.w (upd H a ob) h' a ob) :
  Inv X pins σ (upd H a ob) { s with heap:=h',toks:=t' } :=
 I.write (x:=a) (e:=a) mu (.inl rfl) (fun b q hb z=>(hs.2 b hb).trans z) he new
theorem tD {P:GQ} {w:Hh} {H':Hp} {h':HY} {kvs:List (Key × V)} {vs:List (Key × Da)} (z:kvs.length<=sizeLine) (hd:(a == sysModules)=false) (rel:KV kvs vs) (dd:h'.DictOf (bu P w) a vs) :
  aT P w H' h' a (.dK kvs):=⟨z,hd,vs,rel,dd⟩
theorem r6 {H':Hp} {Q:Unit->Fk->Prop} (hu:A.units+1 < cLine) (I:Inv X pins σ H s) (g:jX H a y v H') (ry:RelV y u) (rv:RelV v r) (h:∀ s',Inv X pins σ H' s'->Q () s') :
  wpAny (model X.prog X.w) A (setItem (.ref a) u r) Q E s:=by
 rcases g with ⟨kvs,k,e,ey,l,eH⟩ | ⟨kvs,k,b,e,ey,eb,l,eH⟩
 ·subst ey eH
  obtain ⟨z,hd,vs,rel,dd⟩:=wz I.hok e
  have hz:vs.length<=sizeLine:=by rw [<- rel.length]; exact z
  have hl:(putK kvs k v).length<=sizeLine:=by have:=fq kvs k v; lia
  refine wpAny_setItem_pairs (hsz:=hz) (jj ry) dd fun h' dd' hs=>h _ ?_
  have he:∃ q,h'.get? a=some q:=let ⟨q,_,_,hq,_⟩:=dd'; ⟨q,hq⟩
  exact jN I (by rw [e]; exact IQ) hs he (tD hl hd (rel.put k rv) dd')
 ·subst ey eH
  cases (show u=GL b from ry)
  obtain ⟨z,hd,xs,rel,dd⟩:=DQ I.hok e
  have hz:xs.length<=sizeLine:=by rw [<- IG rel]; exact z
  have hl:(putK kvs k v).length<=sizeLine:=by have:=fq kvs k v; lia
  refine wpAny_setItem_heap (hsz:=hz) (KR hu) (jx I.hok eb) dd fun h' dd' hs=>h _ ?_
  obtain ⟨q,es,ep,hq,h2,h3,h4,_,h5⟩:=dd'
  refine jN I (by rw [e]; exact IQ) hs ⟨q,hq⟩ ⟨hl,hd,_,(rel.put k eb rv).keeps fun c ys ec=>?_,q,es,ep,hq,h2,h3,h4,h5⟩
  rw [av (hJ ec e (fun z=>nomatch z))]
  exact ec
end
section
variable {X:Cx} {pins:List (GC × Obj)} {σ:St} {H:Hp} {s:Fk} {a:GC} {kvs:List (Key × V)} {k:Key} {u:Da} {A:Hj} {E:Da->Fk->Prop}
end
def BY (i:HZ):Prop:=∀ ov iv,subscripted i false ov iv=operate [ov,iv] (getItem ov iv)
theorem xH {prog:GQ} {w:Hh} {A:Hj} {E:Da->Fk->Prop} {s:Fk} {env:Env} {value slice:HZ} {pos:Pos} {T id:String} {Q:Da->Fk->Prop}
  (hl:typeLookup (.type T) "__getitem__" = pure (some (.builtin id))) (hs:BY slice)
  (h:wpAny (model prog w) A (eval value env) (fun o s₁=>wpAny (model prog w) A (eval slice env) (fun i s₂=>s₂.TypeIs o T/\wpAny (model prog w) A (getItem o i) Q E s₂) E s₁) E s) :
  wpAny (model prog w) A (eval (.Subscript value slice pos) env) Q E s:=by
 refine Subscript_ (Ij h (fun o s₁ h₁=>Ij h₁ (fun i s₂ h₂=>?_) fun _ _ x=>x) fun _ _ x=>x)
 obtain ⟨hT,h₂⟩:=h₂
 unfold subscriptTail
 refine AC ?_
 rw [getitemInPython_of_ne hT.not_modules]
 refine AC (JV hT hl ?_)
 have fin:wpAny (model prog w) A (subscripted slice false o i) (fun r s₃=>wpAny (model prog w) A (letTemporaryGo value o r >>= fun _=>pure r) Q E s₃) E s₂:=by
  rw [hs o i]
  exact wpAny_operating (Ij h₂ (fun r s₃ h₃=>AC (wpAny_letTemporaryGo (Gc h₃))) fun _ _ x=>x)
 first
  | exact Gc (AC fin)
  | exact AC (Gc (AC fin))
  | exact AC fin
theorem nr {X:Cx} {pins:List (GC × Obj)} {σ:St} {H:Hp} {s:Fk} {a:GC} {y:V} {o:Option V} (I:Inv X pins σ H s) (g:fg H a y o):s.TypeIs (.ref a) "dict":=by
 rcases g with ⟨kvs,k,e,_,_⟩ | ⟨kvs,k,b,e,_,_,_⟩
 ·obtain ⟨_,_,vs,_,dd⟩:=je I.hok e
  exact dd.typeIs
 ·obtain ⟨_,_,xs,_,dd⟩:=jB I.hok e
  exact dd.typeIs
noncomputable def D0 (td ty:TE):TE:=fun σ H Q=>td σ H fun x H1=>ty σ H1 fun y H2=>∃ a v,x = .ref a/\fg H2 a y (some v)/\Q v H2
noncomputable def wI (td ty tv:TE):TS:=fun D σ H=>tv σ H fun v H1=>td σ H1 fun x H2=>ty σ H2 fun y H3=>∃ a H4,x = .ref a/\jX H3 a y v H4/\D.nx σ H4
section
variable {X:Cx} {o i e value:HZ} {pos pos' tpos:Pos} {td ty tv:TE}
theorem xb (hu:X.A.units+1 < cLine) (ho:PE X o td) (hi:PE X i ty) (hs:BY i):PE X (.Subscript o i pos) (D0 td ty):=by
 intro pins s σ H Q I h
 refine xH PySem.F.slot_dict_getitem.lookup hs (ax (ho pins s σ H _ I h) fun u s1 ⟨x,H1,I1,rx,q1⟩=>ax (hi pins s1 σ H1 _ I1 q1) fun iv s2 ⟨y,H2,I2,ry,a,v,ex,g,q2⟩=>?_)
 subst ex
 obtain rfl:u=GL a:=rx
 exact ⟨nr I2 g,rY hu I2 g ry fun w' s3 I3 rw'=>⟨v,H2,I3,rw',q2⟩⟩
theorem xG (hu:X.A.units+1 < cLine) (ho:PE X o td) (hi:PE X i ty) (hv:PE X value tv) (hs:swapsWith value (some (.Subscript o i pos')) pos.line X.env=pure false) :
  PS X (.Assign [.Subscript o i pos'] value pos) (wI td ty tv):=by
 intro pins s σ H D I h
 refine wpAny_Assign_Subscript (ax (hv pins s σ H _ I h) fun r s1 ⟨v,H1,I1,rv,q1⟩=>ax (ho pins s1 σ H1 _ I1 q1) fun u s2 ⟨x,H2,I2,rx,q2⟩=>ax (hi pins s2 σ H2 _ I2 q2) fun iv s3 ⟨y,H3,I3,ry,a,H4,ex,g,q3⟩=>?_) hs
 subst ex
 obtain rfl:u=GL a:=rx
 exact r6 hu I3 g ry rv fun s4 I4=>⟨σ,H4,I4,q3⟩
end
theorem vk {P:GQ} {w:Hh} {H:Hp} (h:HY) (hb:sysModules < h.objs.size):aT P w H (h.push { cls:=.type "dict",data:=.dict #[] }) h.objs.size (.dK []) :=
 ⟨GG _,beq_eq_false_iff_ne.mpr (Ip (GX hb)),[],.nil,Heap.DictOf.new h⟩
section
variable {X:Cx} {pos:Pos}
end
noncomputable def m4:List (TE × TE)->St->Hp->(List (V × V)->Hp->Prop)->Prop
 | [],_,H,Q=>Q [] H
 | (tk,tv)::r,σ,H,Q=>tk σ H fun x H1=>tv σ H1 fun y H2=>m4 r σ H2 fun ps H3=>Q ((x,y)::ps) H3
noncomputable abbrev VV:List (V × V)->List (Da × Da)->Prop:=Ir fun p q=>RelV p.1 q.1/\RelV p.2 q.2
def v5 (X:Cx) (pos:Pos) (keys:List (Option HZ)) (values:List HZ) (trs:List (TE × TE)):Prop :=
 ∀ (pins:List (GC × Obj)) (s:Fk) (σ:St) (H:Hp) (Q:List (V × V)->Hp->Prop),Inv X pins σ H s->m4 trs σ H Q ->
  wpAny (model X.prog X.w) X.A (evalPairs (pairTrees keys values X.env pos)) (fun vs s'=>∃ ps H',Inv X pins σ H' s'/\VV ps vs/\Q ps H') X.xe s
theorem nO {X:Cx} {pos:Pos}:v5 X pos [] [] []:=fun pins s σ H Q I h=>pairTrees_nil_walk ⟨[],H,I,.nil,h⟩
theorem dG {X:Cx} {pos:Pos} {k v:HZ} {ks:List (Option HZ)} {vs:List HZ} {tk tv:TE} {trs:List (TE × TE)} (hk:PE X k tk) (hv:PE X v tv) (hr:v5 X pos ks vs trs) :
  v5 X pos (some k::ks) (v::vs) ((tk,tv)::trs):=fun pins s σ H Q I h =>
 pairTrees_cons_walk (ax (hk pins s σ H _ I h) fun u s1 ⟨x,H1,I1,rx,q1⟩=>ax (hv pins s1 σ H1 _ I1 q1) fun w2 s2 ⟨y,H2,I2,ry,q2⟩ =>
  ax (hr pins s2 σ H2 _ I2 q2) fun ws s3 ⟨ps,H3,I3,rel,q3⟩=>⟨(x,y)::ps,H3,I3,.cons ⟨rx,ry⟩ rel,q3⟩)
noncomputable def dO (kvs more:List (Key × V)):List (Key × V):=more.foldl (fun acc kv=>putK acc kv.1 kv.2) kvs
theorem KV.merge:∀ {more:List (Key × V)} {rs:List (Key × Da)} {kvs:List (Key × V)} {vs:List (Key × Da)},KV more rs->KV kvs vs->KV (dO kvs more) (merged vs rs):=by
 intro more rs kvs vs r
 unfold KV at r
 induction r generalizing kvs vs with
 | nil=>intro q; exact q
 | @cons p q ps qs h t ih =>
  intro r0
  have e:KV (putK kvs p.1 p.2) (stored vs q.1 q.2):=by
   have:=r0.put p.1 h.2
   rw [<- h.1]; exact this
  exact ih e
theorem gy:∀ (more kvs:List (Key × V)),(dO kvs more).length<=kvs.length+more.length
 | [],kvs=>by show kvs.length<=kvs.length+0; lia
 | p::r,kvs=>by
  have h1:=gy r (putK kvs p.1 p.2)
  have h2:=fq kvs p.1 p.2
  show (dO (putK kvs p.1 p.2) r).length<=_
  rw [Hq]; lia
theorem jq {P:GQ} {w:Hh}:∀ {kvs:List (Key × V)} {ws:List (Da × Da)},VV (kvs.map fun kv=>(kV kv.1,kv.2)) ws->∃ rs,Carries (bu P w) ws rs/\KV kvs rs
 | [],_,r=>by rw [JO] at r; cases r; exact ⟨[],IQ,.nil⟩
 | p::kvs,_,r=>by
  rw [G6] at r
  cases r with
  | @cons a b as bs h t =>
   obtain ⟨rs,c,q⟩:=jq (P:=P) (w:=w) t
   obtain ⟨b1,b2⟩:=b
   exact ⟨(p.1,b2)::rs,⟨jj h.1,rfl,c⟩,.cons ⟨rfl,h.2⟩ q⟩
noncomputable def DC (trs:List (TE × TE)):TE:=fun σ H Q=>∀ p,H p=none->m4 trs σ (upd H p (.dK [])) fun ps H2=>H2 p=some (.dK [])/\∃ kvs:List (Key × V),ps=kvs.map (fun kv=>(kV kv.1,kv.2))/\kvs.length<=15/\Q (.ref p) (upd H2 p (.dK (dO [] kvs)))
theorem oA {X:Cx} {pos:Pos} {keys:List (Option HZ)} {values:List HZ} {trs:List (TE × TE)} (h:v5 X pos keys values trs) (hall:keys.all (·.isSome)=true) (hl:keys.length=values.length) (h0:keys≠[])
  (h15:keys.length<=15):PE X (.Dict keys values pos) (DC trs):=by
 intro pins s σ H Q I q
 have hn:=I.hok.fresh (GF s.heap.objs.size)
 have I1:=I.laid (a:=s.heap.objs.size) (o:=.dK []) (h':=s.heap.push { cls:=.type "dict",data:=.dict #[] }) (t':=s.toks) (fun _ _ q=>FM _ q) (GF _) (vk s.heap I.big)
 refine wpAny_Dict_walk (knd:=bu X.prog X.w) hall hl h0 h15 (ax (h pins _ σ _ _ I1 (q _ hn)) fun ws s2 ⟨ps,H2,I2,rel,e,kvs,ep,lk,q2⟩=>?_)
 subst ep
 obtain ⟨rs,c,rk⟩:=jq (P:=X.prog) (w:=X.w) rel
 obtain ⟨z,hd,vs0,r0,dd⟩:=wz I2.hok e
 cases r0
 refine ⟨rs,c,dd,fun h' dd' hs=>⟨.ref s.heap.objs.size,_,?_,rfl,q2⟩⟩
 have hz:(dO [] kvs).length<=sizeLine:=by
  have h1:=gy kvs []
  rw [JU] at h1
  rw [HU]; lia
 have he:∃ q,h'.get? s.heap.objs.size=some q:=let ⟨q,_,_,hq,_⟩:=dd'; ⟨q,hq⟩
 exact jN I2 (by rw [e]; exact IQ) hs he (tD hz hd (rk.merge .nil) dd')
structure M2 (X:Cx) (o:HZ) (m:Str) (apos:Pos) (e f:HZ) (cpos:Pos):Prop where
 base:attributeBase o m X.env (eval o X.env)=eval o X.env
 few:((backTo cpos (starEach [e,f] X.env)).all (fun x=>!x.1)&&(backToKw cpos (keywordEach [] X.env)).all (fun x=>x.1.isSome)
  && decide (([e,f]:List HZ).length+([]:List Keyword).length+(if ([]:List Keyword).isEmpty then 0 else 1) < 30))=true
 line:(apos.endLine == cpos.line)=true
 trees:backTo cpos (starEach [e,f] X.env)=[(false,eval e X.env),(false,eval f X.env)]
def EN (H:Hp) (a:GC):Prop:=(∃ kvs,Rd H a (.dK kvs))\/∃ kvs,Rd H a (.dT kvs)
theorem BN {X:Cx} {pins:List (GC × Obj)} {σ:St} {H:Hp} {s:Fk} {a:GC} (I:Inv X pins σ H s) (d:EN H a) :
  s.TypeIs (.ref a) "dict"/\(∀ b,GL a = .ref b->∃ ob,s.heap.get? b=some ob/\ob.dict=none)/\(a == sysModules)=false:=by
 rcases d with ⟨kvs,e⟩ | ⟨kvs,e⟩
 ·obtain ⟨_,hd,vs,_,dd⟩:=je I.hok e
  refine ⟨dd.typeIs,fun b q=>?_,hd⟩
  cases q
  obtain ⟨ob,_,_,h1,h2,_⟩:=dd
  exact ⟨ob,h1,h2.2.1⟩
 ·obtain ⟨_,hd,xs,_,dd⟩:=jB I.hok e
  refine ⟨dd.typeIs,fun b q=>?_,hd⟩
  cases q
  obtain ⟨ob,_,_,h1,h2,_⟩:=dd
  exact ⟨ob,h1,h2.2.1⟩
section
variable {X:Cx} {pins:List (GC × Obj)} {σ:St} {H:Hp} {s:Fk} {a:GC} {y d:V} {u r:Da} {o:Option V} {A:Hj} {E:Da->Fk->Prop}
theorem Ah {Q:Da->Fk->Prop} (hu:A.units+1 < cLine) (I:Inv X pins σ H s) (g:fg H a y o) (ry:RelV y u) (rd:RelV d r) (h:∀ w' s',Inv X pins σ H s'->RelV (o.getD d) w'->Q w' s') :
  wpAny (model X.prog X.w) A (call (.builtin "dict.get") [.ref a,u,r]) Q E s:=by
 rcases g with ⟨kvs,k,e,ey,l⟩ | ⟨kvs,k,b,e,ey,eb,l⟩
 ·subst ey
  obtain ⟨z,hd,vs,rel,dd⟩:=je I.hok e
  refine call_meetsIn Kh dd.typeIs LC (Ln _ _ _) (meets_dict_get_default (bu X.prog X.w) a (jj ry) hd r) ⟨_,dd.mapOf,h _ _ (I.tok _) ?_⟩
  rw [l]
  exact (rel.val k).getD rd
 ·subst ey
  cases (show u=GL b from ry)
  obtain ⟨z,hd,xs,rel,dd⟩:=jB I.hok e
  refine call_meetsIn Kh dd.typeIs LC (Ln _ _ _) (meetsH_dict_get_default (tupleKind (bu X.prog X.w)) a b hd r) ⟨KR hu,k,xs,jx I.hok eb,dd,h _ _ (I.tok _) ?_⟩
  rw [l]
  exact (rel.val k).getD rd
end
noncomputable def zP (td ty tx:TE):TE:=fun σ H Q=>td σ H fun x H1=>∃ a,x = .ref a/\EN H1 a/\ty σ H1 fun y H2=>tx σ H2 fun z H3=>∃ o,fg H3 a y o/\Q (o.getD z) H3
section
variable {X:Cx} {o e f:HZ} {apos cpos:Pos} {td ty tx:TE}
theorem vn (hu:X.A.units+1 < cLine) (ho:PE X o td) (he:PE X e ty) (hf:PE X f tx) (m:M2 X o "get" apos e f cpos):PE X (.Call (.Attribute o "get" apos) [e,f] [] cpos) (zP td ty tx):=by
 intro pins s σ H Q I h
 refine wpAny_Call_method m.base m.few m.line PySem.F.plainAttrs_dict Kh PySem.F.type_dict_get (ax (ho pins s σ H _ I h) fun u s1 ⟨x,H1,I1,rx,a,ex,d,q1⟩=>?_)
 subst ex
 obtain rfl:u=GL a:=rx
 obtain ⟨t1,t2,_⟩:=BN I1 d
 refine ⟨t1,t2,?_⟩
 rw [m.trees]
 refine J2 rfl (Kq (IB (ax (he pins s1 σ H1 _ I1 q1) fun iv s2 ⟨y,H2,I2,ry,q2⟩ =>
  IB (ax (hf pins s2 σ H2 _ I2 q2) fun fv s3 ⟨z,H3,I3,rz,ov,g,q3⟩=>IY ?_))))
 exact Ah hu I3 g ry rz fun w' s4 I4 rw'=>⟨_,H3,I4,rw',q3⟩
end
section
variable {X:Cx} {pins:List (GC × Obj)} {σ:St} {H:Hp} {s:Fk} {a:GC} {kvs:List (Key × V)} {A:Hj} {E:Da->Fk->Prop}
end
section
variable {X:Cx} {pins:List (GC × Obj)} {σ:St} {H:Hp} {s:Fk} {a:GC} {y:V} {u:Da} {A:Hj} {E:Da->Fk->Prop}
end
end L2
namespace L2
open PySem PySem.Spec PyProof.Rows
section
variable {κ:Type} [DecidableEq κ]
theorem xo {kvs:List (κ × V)} {k:κ} {v:V} (h:cQ kvs k=some v):k∈kvs.map (·.1):=by
 have q:(kvs.any fun kv=>decide (kv.1=k))=true:=by
  rw [gc,h]
  all_goals rfl
 obtain ⟨p,hp,e⟩:=IE.mp q
 exact HV.mpr ⟨p,hp,of_decide_eq_true e⟩
end
end L2
namespace Zp
open PySem PyProof.Rows
noncomputable abbrev fo (h:HY) (z TI TO T:GC) (b:Bool):Prop :=
 h.get? z=some { cls:=.type "zip",dict:=none,data:=.fields #[rawInt T,.bool b,.bool false,.ref TI,.ref TO],slots:=#[] }
section
variable {prog:GQ} {w:Hh} {A:Hj} {E:Da->Fk->Prop} {s:Fk}
theorem nF {M:Model} {a:GC} {Q:Option Obj->Fk->Prop} (h:Q (s.heap.get? a) s):wpAny M A (loadIfAlive a) Q E s:=fun _ _ _=>h
theorem kS {z TI TO T:GC} {b:Bool} {oT:Obj} {Q:Bool->Fk->Prop} (hz:fo s.heap z TI TO T b) (hT:s.heap.get? T=some oT)
  (q:∀ h',fo h' z TI TO T true->(∀ c o,c≠z->s.heap.get? c=some o->h'.get? c=some o)->h'.objs.size=s.heap.objs.size->Q false { s with heap:=h' }):wpAny (model prog w) A (Builtin.SmallTypes.ownedTupleIsFree (.ref z)) Q E s:=by
 unfold Builtin.SmallTypes.ownedTupleIsFree
 refine AC (Jj hz rfl (x:=rawInt T) rfl ?_)
 unfold rawInt
 refine AC (nF ?_)
 rw [show ((T:Nat):Int).toNat=T by lia,hT]
 rw [if_neg (by simp)]
 refine AC (Jj hz rfl (x:=.bool b) rfl ?_)
 cases b with
 | true =>
  rw [if_neg (by decide)]
  exact AC (Gc (Gc (q s.heap hz (fun c o _ e=>e) rfl)))
 | false =>
  rw [if_pos (by decide)]
  exact AC (JW hz (by simp) fun h1 hz1 hs1=>Gc (q h1 hz1 (fun c o n e=>hs1.extBut _ _ n e) hs1.1))
theorem tZ {z TI TO T i1 i2 l1 l2:GC} {k1 k2:Nat} {xs ys:Array Da} {x y:Da} {b:Bool} {oT:Obj} {Q:Da->Fk->Prop} (D:KS z TI TO i1 i2 l1 l2)
  (hz:fo s.heap z TI TO T b) (hT:s.heap.get? T=some oT) (hTI:KC s.heap TI (.ref i1) (.ref i2)) (h1:s.heap.IsListIter i1 l1 k1) (h2:s.heap.IsListIter i2 l2 k2) (bG:s.heap.IsList l1 xs) (dC:s.heap.IsList l2 ys) (hx:xs[k1]? = some x) (hy:ys[k2]? = some y)
  (hQ:∀ h',fo h' z TI TO T true->h'.IsListIter i1 l1 (k1+1)->h'.IsListIter i2 l2 (k2+1)->KC h' s.heap.objs.size x y->h'.objs.size=s.heap.objs.size+1 ->
   (∀ c o,c≠z->c≠i1->c≠i2->s.heap.get? c=some o->h'.get? c=some o)->Q (.ref s.heap.objs.size) { s with heap:=h' }) :
  wpAny (model prog w) A (Builtin.«zip.__next__» ⟨[.ref z],[]⟩) (fun fin s'=>∃ v,fin = .done (.ret v)/\Q v s') E s:=by
 show wpAny _ _ (field (.ref z) 2 >>= _) _ _ _
 refine AC (Jj hz rfl (x:=.bool false) rfl ?_)
 show wpAny _ _ (field (.ref z) 3 >>= _) _ _ _
 refine AC (Jj hz rfl (x:=.ref TI) rfl (AC (wpAny_seqItems hTI rfl ?_)))
 show wpAny _ _ (Builtin.SmallTypes.ownedTupleIsFree (.ref z) >>= _) _ _ _
 refine AC (kS hz hT fun ha hza ka sza=>?_)
 rw [if_neg (by decide)]
 simp only [KA,LV,Ju,<- Ju]
 refine AC (AC (AC (HA ?_)))
 show wpAny _ _ (Builtin.SmallTypes.nextOf (.ref i1) >>= _) _ _ _
 refine AC (J4 (h1.at fun o e=>ka _ o D.i1z e) (bG.at fun o e=>ka _ o D.l1z e) hx fun hb h1b hsb=>Gc (Gc ?_))
 refine AC (AC (HA ?_))
 show wpAny _ _ (Builtin.SmallTypes.nextOf (.ref i2) >>= _) _ _ _
 refine AC (J4 ((h2.at fun o e=>ka _ o D.i2z e).extBut hsb.extBut D.i12.symm) ((dC.at fun o e=>ka _ o D.l2z e).extBut hsb.extBut D.l2i1) hy fun hc h2c hsc=>Gc (Gc (Gc ?_)))
 refine AC (wpAny_newTuple (Gc ⟨_,rfl,?_⟩) (by show 2<=sizeLine; rw [HU]; lia))
 have szc:hc.objs.size=s.heap.objs.size:=by rw [hsc.1,hsb.1,sza]
 have up:∀ c o,hc.get? c=some o->(hc.push { cls:=.type "tuple",data:=.seq #[x,y] }).get? c=some o:=fun c o e=>FM _ e
 have hzc:fo hc z TI TO T true:=hsc.extBut _ _ D.i2z.symm (hsb.extBut _ _ D.i1z.symm hza)
 have hT8:KC (hc.push { cls:=.type "tuple",data:=.seq #[x,y] }) hc.objs.size x y:=GO _ rfl
 show Q (.ref hc.objs.size) { s with heap:=hc.push { cls:=.type "tuple",data:=.seq #[x,y] } }
 rw [szc] at hT8 |-
 exact hQ _ (up _ _ hzc) ((h1b.extBut hsc.extBut D.i12).at fun o e=>up _ o e) (h2c.at fun o e=>up _ o e) hT8 (by rw [Ih,szc]) fun c o c1 c2 c3 e=>up _ _ (hsc.extBut _ _ c3 (hsb.extBut _ _ c2 (ka _ _ c1 e)))
theorem uQ {z TI TO T i1 i2 l1 l2:GC} {k1 k2:Nat} {xs ys:Array Da} {b:Bool} {oT:Obj} {Q:PySem.Fin->Fk->Prop} (hh:A.handled=none) (D:KS z TI TO i1 i2 l1 l2)
  (hz:fo s.heap z TI TO T b) (hT:s.heap.get? T=some oT) (hTI:KC s.heap TI (.ref i1) (.ref i2)) (h1:s.heap.IsListIter i1 l1 k1) (h2:s.heap.IsListIter i2 l2 k2) (bG:s.heap.IsList l1 xs) (dC:s.heap.IsList l2 ys) (hend:xs[k1]? = none\/ys[k2]? = none)
  (hE:∀ h' e,(∀ c o,c≠z->c≠i1->c≠i2->s.heap.get? c=some o->h'.get? c=some o)->(∃ o,h'.get? e=some o/\o.cls = .type "StopIteration")->E (.ref e) { s with heap:=h' }) :
  wpAny (model prog w) A (Builtin.«zip.__next__» ⟨[.ref z],[]⟩) Q E s:=by
 show wpAny _ _ (field (.ref z) 2 >>= _) _ _ _
 refine AC (Jj hz rfl (x:=.bool false) rfl ?_)
 show wpAny _ _ (field (.ref z) 3 >>= _) _ _ _
 refine AC (Jj hz rfl (x:=.ref TI) rfl (AC (wpAny_seqItems hTI rfl ?_)))
 show wpAny _ _ (Builtin.SmallTypes.ownedTupleIsFree (.ref z) >>= _) _ _ _
 refine AC (kS hz hT fun ha hza ka sza=>?_)
 rw [if_neg (by decide)]
 simp only [KA,LV,Ju,<- Ju]
 refine AC (AC (AC (HA ?_)))
 show wpAny _ _ (Builtin.SmallTypes.nextOf (.ref i1) >>= _) _ _ _
 cases hx:xs[k1]? with
 | none =>
  exact AC (wpAny_nextOf_list_end hh (h1.at fun o e=>ka _ o D.i1z e) (bG.at fun o e=>ka _ o D.l1z e) hx fun hb e hsb he=>hE hb e (fun c o c1 c2 _ x=>hsb _ _ c2 (ka _ _ c1 x)) he)
 | some x =>
  have hy:ys[k2]? = none:=by rcases hend with h | h; rw [hx] at h; cases h; exact h
  refine AC (J4 (h1.at fun o e=>ka _ o D.i1z e) (bG.at fun o e=>ka _ o D.l1z e) hx fun hb h1b hsb=>Gc (Gc ?_))
  refine AC (AC (HA ?_))
  show wpAny _ _ (Builtin.SmallTypes.nextOf (.ref i2) >>= _) _ _ _
  exact AC (wpAny_nextOf_list_end hh ((h2.at fun o e=>ka _ o D.i2z e).extBut hsb.extBut D.i12.symm) ((dC.at fun o e=>ka _ o D.l2z e).extBut hsb.extBut D.l2i1) hy fun hc e hsc he=>hE hc e (fun c o c1 c2 c3 x=>hsc _ _ c3 (hsb.extBut _ _ c2 (ka _ _ c1 x))) he)
theorem rB {z TI TO T i1 i2 l1 l2:GC} {k1 k2:Nat} {xs ys:Array Da} {x y:Da} {b:Bool} {oT:Obj} {Q:Option Da->Fk->Prop} (D:KS z TI TO i1 i2 l1 l2)
  (hz:fo s.heap z TI TO T b) (hT:s.heap.get? T=some oT) (hTI:KC s.heap TI (.ref i1) (.ref i2)) (h1:s.heap.IsListIter i1 l1 k1) (h2:s.heap.IsListIter i2 l2 k2) (bG:s.heap.IsList l1 xs) (dC:s.heap.IsList l2 ys) (hx:xs[k1]? = some x) (hy:ys[k2]? = some y)
  (hQ:∀ h',fo h' z TI TO T true->h'.IsListIter i1 l1 (k1+1)->h'.IsListIter i2 l2 (k2+1)->KC h' s.heap.objs.size x y->h'.objs.size=s.heap.objs.size+1 ->
   (∀ c o,c≠z->c≠i1->c≠i2->s.heap.get? c=some o->h'.get? c=some o)->Q (some (.ref s.heap.objs.size)) { s with heap:=h' }) :
  wpAny (model prog w) A (pyNext (.ref z)) Q E s:=by
 have hTy:s.TypeIs (.ref z) "zip":=⟨_,hz,rfl⟩
 unfold pyNext
 exact AC (JT (Jm (name:=tz "__next__") hTy KD (IF KD hTy F.entry_zip_next
  (tZ D hz hT hTI h1 h2 bG dC hx hy fun h' a1 a2 a3 a4 a5 a6=>Gc (hQ h' a1 a2 a3 a4 a5 a6)) (F.args_zip_next_1 _))))
theorem uG {z TI TO T i1 i2 l1 l2:GC} {k1 k2:Nat} {xs ys:Array Da} {b:Bool} {oT:Obj} {Q:Option Da->Fk->Prop} (hh:A.handled=none) (D:KS z TI TO i1 i2 l1 l2)
  (hz:fo s.heap z TI TO T b) (hT:s.heap.get? T=some oT) (hTI:KC s.heap TI (.ref i1) (.ref i2)) (h1:s.heap.IsListIter i1 l1 k1) (h2:s.heap.IsListIter i2 l2 k2) (bG:s.heap.IsList l1 xs) (dC:s.heap.IsList l2 ys) (hend:xs[k1]? = none\/ys[k2]? = none)
  (hQ:∀ h',(∀ c o,c≠z->c≠i1->c≠i2->s.heap.get? c=some o->h'.get? c=some o)->Q none { s with heap:=h' }):wpAny (model prog w) A (pyNext (.ref z)) Q E s:=by
 have hTy:s.TypeIs (.ref z) "zip":=⟨_,hz,rfl⟩
 unfold pyNext
 refine AC (JT (Jm (name:=tz "__next__") hTy KD (IF KD hTy F.entry_zip_next (uQ hh D hz hT hTI h1 h2 bG dC hend fun h' e hk he=>?_) (F.args_zip_next_1 _))))
 obtain ⟨o,ho,hc⟩:=he
 exact AC (Lv (T:="StopIteration") (b:=true) ⟨o,ho,hc⟩ isSubtype_stop (Gc (hQ _ hk)))
end
end Zp
namespace Zp
open PySem PyProof.Rows
def Zs (h:HY) (z TI TO:GC) (ts:List GC):Prop:=(ts=[]/\IsZip h z TI TO .none/\∃ a b,KC h TO a b)\/∃ T b,T∈ts/\fo h z TI TO T b
structure ZSt (h:HY) (z TI TO i1 i2 l1 l2:GC) (xs ys:Array Da) (ts:List GC):Prop where
 zs:Zs h z TI TO ts
 ti:KC h TI (.ref i1) (.ref i2)
 it1:h.IsListIter i1 l1 ts.length
 it2:h.IsListIter i2 l2 ts.length
 li1:h.IsList l1 xs
 li2:h.IsList l2 ys
 tup:∀ (j:Nat) (T:GC),ts[j]? = some T->∃ x y,xs[j]? = some x/\ys[j]? = some y/\KC h T x y/\T≠z/\T≠TO/\T≠i1/\T≠i2
 nd:ts.Nodup
 tto:∃ o,h.get? TO=some o
theorem ZSt.keep {h h':HY} {z TI TO i1 i2 l1 l2:GC} {xs ys:Array Da} {ts:List GC} (Z:ZSt h z TI TO i1 i2 l1 l2 xs ys ts) (k:∀ b o,h.get? b=some o->(b=z\/b=TI\/b=TO\/b=i1\/b=i2\/b=l1\/b=l2\/b∈ts)->h'.get? b=some o):ZSt h' z TI TO i1 i2 l1 l2 xs ys ts:=by
 refine ⟨?_,k _ _ Z.ti (by simp),Z.it1.at fun o e=>k _ o e (by simp),Z.it2.at fun o e=>k _ o e (by simp),Z.li1.at fun o e=>k _ o e (by simp),Z.li2.at fun o e=>k _ o e (by simp),fun j T hj=>?_,Z.nd,let ⟨o,e⟩:=Z.tto; ⟨o,k _ _ e (by simp)⟩⟩
 ·rcases Z.zs with ⟨e,hz,a,b,ho⟩ | ⟨T,b,hT,hz⟩
  ·exact .inl ⟨e,k _ _ hz (by simp),a,b,k _ _ ho (by simp)⟩
  ·exact .inr ⟨T,b,hT,k _ _ hz (by simp)⟩
 ·obtain ⟨x,y,h1,h2,h3,h4⟩:=Z.tup j T hj
  exact ⟨x,y,h1,h2,k _ _ h3 (by simp [GR hj]),h4⟩
section
variable {prog:GQ} {w:Hh} {A:Hj} {E:Da->Fk->Prop} {s:Fk}
theorem xq {z TI TO i1 i2 l1 l2:GC} {xs ys:Array Da} {ts:List GC} {Q:Option Da->Fk->Prop} (D:KS z TI TO i1 i2 l1 l2) (Z:ZSt s.heap z TI TO i1 i2 l1 l2 xs ys ts) (lt:ts.length < min xs.size ys.size)
  (q:∀ h',ZSt h' z TI TO i1 i2 l1 l2 xs ys (ts++[s.heap.objs.size])->(∀ c o,c≠z->c≠TO->c≠i1->c≠i2->s.heap.get? c=some o->h'.get? c=some o)->Q (some (.ref s.heap.objs.size)) { s with heap:=h' }):wpAny (model prog w) A (pyNext (.ref z)) Q E s:=by
 have lx:ts.length < xs.size:=by lia
 have ly:ts.length < ys.size:=by lia
 have sx:=Ha lx
 have sy:=Ha ly
 have far:∀ {c o},s.heap.get? c=some o->s.heap.objs.size≠c:=fun e=>Jx (GE e)
 have hzl:∃ o,s.heap.get? z=some o:=by
  rcases Z.zs with ⟨_,hz,_⟩ | ⟨T,b,_,hz⟩
  ·exact ⟨_,hz⟩
  ·exact ⟨_,hz⟩
 have fin:∀ h':HY,Zs h' z TI TO (ts++[s.heap.objs.size])->h'.IsListIter i1 l1 (ts.length+1)->h'.IsListIter i2 l2 (ts.length+1)->KC h' s.heap.objs.size xs[ts.length] ys[ts.length]->(∀ c o,c≠z->c≠TO->c≠i1->c≠i2->s.heap.get? c=some o->h'.get? c=some o)->(∃ o,h'.get? TO=some o)->Q (some (.ref s.heap.objs.size)) { s with heap:=h' }:=fun h' a1 a2 a3 a4 a5 aTO=>by
  have nTO:s.heap.objs.size≠TO:=let ⟨_,e⟩:=Z.tto; far e
  refine q h' ⟨a1,a5 _ _ D.TIz D.TITO D.TIi1 D.TIi2 Z.ti,by rw [GZ]; exact a2,by rw [GZ]; exact a3,Z.li1.at fun o e=>a5 _ o D.l1z D.l1TO D.l1i1 D.l1i2 e,Z.li2.at fun o e=>a5 _ o D.l2z D.l2TO D.l2i1 D.l2i2 e,fun j T hj=>?_,?_,aTO⟩ a5
  ·by_cases e:j < ts.length
   ·rw [IV e] at hj
    obtain ⟨x,y,h1,h2,h3,n1,n2,n3,n4⟩:=Z.tup j T hj
    exact ⟨x,y,h1,h2,a5 _ _ n1 n2 n3 n4 h3,n1,n2,n3,n4⟩
   ·rw [Im (by lia)] at hj
    have ej:j=ts.length:=by
     have:=(GD.mp hj).1
     simp at this
     lia
    subst ej
    have eT:s.heap.objs.size=T:=by simpa using hj
    subst eT
    obtain ⟨o,ho⟩:=hzl
    exact ⟨_,_,sx,sy,a4,far ho,nTO,(by obtain ⟨_,e,_⟩:=Z.it1; exact far e),(by obtain ⟨_,e,_⟩:=Z.it2; exact far e)⟩
  ·refine Jd.mpr ⟨Z.nd,by simp,fun c hc d hd=>?_⟩
   have ed:d=s.heap.objs.size:=by simpa using hd
   obtain ⟨j,hj⟩:=HC hc
   obtain ⟨x,y,_,_,h3,_⟩:=Z.tup j c hj
   rw [ed]
   exact (far h3).symm
 rcases Z.zs with ⟨e,hz,a,b,ho⟩ | ⟨T,b,hT,hz⟩
 ·exact wpAny_pyNext_zip_item D hz Z.ti ho Z.it1 Z.it2 Z.li1 Z.li2 sx sy fun h' a1 a2 a3 a4 a5 a6 a7=>fin h' (.inr ⟨_,false,by simp,a1⟩) a3 a4 a5 a7 ⟨_,a2⟩
 ·obtain ⟨j,hj⟩:=HC hT
  obtain ⟨x,y,_,_,h3,_⟩:=Z.tup j T hj
  obtain ⟨o,eo⟩:=Z.tto
  exact rB D hz h3 Z.ti Z.it1 Z.it2 Z.li1 Z.li2 sx sy fun h' a1 a2 a3 a4 a5 a6=>fin h' (.inr ⟨T,true,by simp [hT],a1⟩) a2 a3 a4 (fun c o c1 _ c3 c4 e=>a6 c o c1 c3 c4 e) ⟨o,a6 _ _ D.TOz D.TOi1 D.TOi2 eo⟩
theorem CW {z TI TO i1 i2 l1 l2:GC} {xs ys:Array Da} {ts:List GC} {Q:Option Da->Fk->Prop} (hh:A.handled=none) (D:KS z TI TO i1 i2 l1 l2) (Z:ZSt s.heap z TI TO i1 i2 l1 l2 xs ys ts) (le:min xs.size ys.size<=ts.length)
  (q:∀ h',(∀ c o,c≠z->c≠TO->c≠i1->c≠i2->s.heap.get? c=some o->h'.get? c=some o)->Q none { s with heap:=h' }):wpAny (model prog w) A (pyNext (.ref z)) Q E s:=by
 have hend:xs[ts.length]? = none\/ys[ts.length]? = none:=by
  by_cases h:xs.size<=ts.length
  ·exact .inl (Io h)
  ·exact .inr (Io (by lia))
 rcases Z.zs with ⟨e,hz,a,b,ho⟩ | ⟨T,b,hT,hz⟩
 ·exact wpAny_pyNext_zip_end hh D hz Z.ti ho Z.it1 Z.it2 Z.li1 Z.li2 hend q
 ·obtain ⟨j,hj⟩:=HC hT
  obtain ⟨x,y,_,_,h3,_⟩:=Z.tup j T hj
  exact uG hh D hz h3 Z.ti Z.it1 Z.it2 Z.li1 Z.li2 hend fun h' k=>q h' fun c o c1 _ c3 c4 e=>k c o c1 c3 c4 e
end
section
variable {prog:GQ} {w:Hh} {A:Hj} {R:Mj->Fk->Prop}
theorem wO {z TI TO i1 i2 l1 l2 S:GC} {xs ys:Array Da} {res:Da} (hh:A.handled=none) (D:KS z TI TO i1 i2 l1 l2) (hS:S≠z/\S≠TI/\S≠TO/\S≠i1/\S≠i2/\S≠l1/\S≠l2) (hn:min xs.size ys.size<=1000000) :
  ∀ (k:Nat) (s:Fk) (ts:List GC) (acc:Array Da) (c:Nat),min xs.size ys.size - ts.length=k->ts.length<=min xs.size ys.size->ZSt s.heap z TI TO i1 i2 l1 l2 xs ys ts->S∉ts->s.heap.get? S=some { cls:=.type "list",dict:=none,data:=.seq acc c,slots:=#[] }->acc.toList=ts.map GL ->
  (∀ (h':HY) (ts':List GC) (acc':Array Da) (c':Nat),(∀ b o,b≠S->b≠z->b≠TO->b≠i1->b≠i2->s.heap.get? b=some o->h'.get? b=some o)->h'.get? S=some { cls:=.type "list",dict:=none,data:=.seq acc' c',slots:=#[] }->acc'.toList=ts'.map GL->ts'.length=min xs.size ys.size->ts'.Nodup->S∉ts' ->
   (∀ (j:Nat) (T:GC),ts'[j]? = some T->(∃ x y,xs[j]? = some x/\ys[j]? = some y/\KC h' T x y)/\(T∈ts\/s.heap.objs.size<=T))->R (.ok (.ret res)) { s with heap:=h' }) ->
  codeAny (model prog w) A (.builtin "list.extend.loop" ⟨[.ref S,.ref z,res],[]⟩) R s:=by
 intro k
 induction k with
 | zero =>
  intro s ts acc c hk hi Z nS hl ea q
  refine HX F.entry_extend_loop ?_
  rw [HK IM _]
  show wpAny _ A.in1 (pyNext (.ref z) >>= _) _ _ s
  refine AC (CW (A:=A.in1) hh D Z (by lia) fun h' kk=>Gc (q h' ts acc c (fun b o _ b1 b2 b3 b4 e=>kk b o b1 b2 b3 b4 e) (kk _ _ hS.1 hS.2.2.1 hS.2.2.2.1 hS.2.2.2.2.1 hl) ea (by lia) Z.nd nS fun j T hj=>?_))
  obtain ⟨x,y,h1,h2,h3,n1,n2,n3,n4⟩:=Z.tup j T hj
  exact ⟨⟨x,y,h1,h2,kk _ _ n1 n2 n3 n4 h3⟩,.inl (GR hj)⟩
 | succ k ih =>
  intro s ts acc c hk hi Z nS hl ea q
  have la:acc.size=ts.length:=by rw [<- GS,ea,FS]
  refine HX F.entry_extend_loop ?_
  rw [HK IM _]
  show wpAny _ A.in1 (pyNext (.ref z) >>= _) _ _ s
  refine AC (xq (A:=A.in1) D Z (by lia) fun h' Z' kk=>?_)
  have hl':=kk _ _ hS.1 hS.2.2.1 hS.2.2.2.1 hS.2.2.2.2.1 hl
  have nS':S≠s.heap.objs.size:=GX (GE hl)
  have nST:S∉ts++[s.heap.objs.size]:=by simp [nS,nS']
  show wpAny _ A.in1 (updateSeq S (·.push (.ref s.heap.objs.size)) >>= _) _ _ _
  have oth:∀ b o,b≠S->h'.get? b=some o->(h'.update S (Hl (·.push (.ref s.heap.objs.size)))).get? b=some o:=fun b o n e=>(Hb _ _ (Ip n)).trans e
  have Z2:ZSt (h'.update S (Hl (·.push (.ref s.heap.objs.size)))) z TI TO i1 i2 l1 l2 xs ys (ts++[s.heap.objs.size]):=Z'.keep fun b o e hb=>oth b o (fun z=>by
   subst z
   rcases hb with h | h | h | h | h | h | h | h
   ·exact hS.1 h
   ·exact hS.2.1 h
   ·exact hS.2.2.1 h
   ·exact hS.2.2.2.1 h
   ·exact hS.2.2.2.2.1 h
   ·exact hS.2.2.2.2.2.1 h
   ·exact hS.2.2.2.2.2.2 h
   ·exact nST h) e
  refine AC (Je hl' rfl (Gc ⟨IT IM _,ih { s with heap:=h'.update S (Hl (·.push (.ref s.heap.objs.size))) } (ts++[s.heap.objs.size]) (acc.push (.ref s.heap.objs.size)) _ (by rw [GZ]; show _ - (ts.length+1)=k; lia) (by rw [GZ]; show ts.length+1<=_; lia) Z2 nST (Ht _ hl' rfl) (by rw [Le,ea,G7]; rfl) fun h2 ts' acc' c' kk2 dC ea2 lt2 nd2 nS2 tu=>?_⟩)
   (by rw [la,HU]; lia) (by show (acc.push (.ref s.heap.objs.size)).size<=sizeLine+1; rw [Array.size_push,la,HU]; lia))
  refine q h2 ts' acc' c' (fun b o b0 b1 b2 b3 b4 e=>kk2 b o b0 b1 b2 b3 b4 (oth b o b0 (kk b o b1 b2 b3 b4 e))) dC ea2 lt2 nd2 nS2 fun j T hj=>?_
  obtain ⟨g1,g2⟩:=tu j T hj
  refine ⟨g1,?_⟩
  rcases g2 with g | g
  ·rcases HN.mp g with g | g
   ·exact .inl g
   ·exact .inr (by rw [show T=s.heap.objs.size by simpa using g]; exact GF _)
  ·have hsz:s.heap.objs.size<=(h'.update S (Hl (·.push (.ref s.heap.objs.size)))).objs.size:=by
    rw [JK]
    obtain ⟨x,y,_,_,h3,_⟩:=Z'.tup ts.length s.heap.objs.size (by simp)
    exact KP (GE h3)
   exact .inr (Hm hsz g)
end
end Zp
namespace Zp
open PySem PyProof.Rows
theorem xJ:typeLookup (.type "zip") "__len__" = pure none:=by rw [KG,JA]; kernel_rfl
theorem vx:typeLookup (.type "zip") "__length_hint__" = pure none:=by rw [KG,JA]; kernel_rfl
section
variable {prog:GQ} {w:Hh} {A:Hj} {E:Da->Fk->Prop} {s:Fk}
theorem uA {z:GC} {Q:Bool->Fk->Prop} (hT:s.TypeIs (.ref z) "zip") (q:Q true s):wpAny (model prog w) A (Builtin.List.listLengthHint (.ref z)) Q E s:=by
 unfold Builtin.List.listLengthHint
 refine AC (JV hT xJ ?_)
 dsimp only
 exact AC (JV hT vx (Gc q))
theorem ZSt.zip {h:HY} {z TI TO i1 i2 l1 l2:GC} {xs ys:Array Da} (Z:ZSt h z TI TO i1 i2 l1 l2 xs ys []):IsZip h z TI TO .none:=by
 rcases Z.zs with ⟨_,hz,_⟩ | ⟨T,b,hT,_⟩
 ·exact hz
 ·cases hT
theorem oM {R:Mj->Fk->Prop} {z TI TO i1 i2 l1 l2 S:GC} {xs ys:Array Da} {res:Da} {c:Nat} (hh:A.handled=none) (D:KS z TI TO i1 i2 l1 l2) (hS:S≠z/\S≠TI/\S≠TO/\S≠i1/\S≠i2/\S≠l1/\S≠l2) (hn:min xs.size ys.size<=1000000)
  (Z:ZSt s.heap z TI TO i1 i2 l1 l2 xs ys []) (hl:s.heap.get? S=some { cls:=.type "list",dict:=none,data:=.seq #[] c,slots:=#[] })
  (q:∀ (h':HY) (ts:List GC) (acc:Array Da) (c':Nat),(∀ b o,b≠S->b≠z->b≠TO->b≠i1->b≠i2->s.heap.get? b=some o->h'.get? b=some o)->h'.get? S=some { cls:=.type "list",dict:=none,data:=.seq acc c',slots:=#[] }->acc.toList=ts.map GL->ts.length=min xs.size ys.size->ts.Nodup->S∉ts ->
   (∀ (j:Nat) (T:GC),ts[j]? = some T->(∃ x y,xs[j]? = some x/\ys[j]? = some y/\KC h' T x y)/\s.heap.objs.size<=T)->R (.ok (.ret res)) { s with heap:=h' }) :
  wpAny (model prog w) A.in1 (Builtin.List.listExtendWith (.ref S) (.ref z) res) (fun fin s'=>match fin with | .done f=>R (.ok f) s' | .again c'=>c'.quiet=true/\codeAny (model prog w) A c' R s') (fun e s'=>R (.error e) s') s:=by
 have hz:=Z.zip
 have n1:Builtin.List.listSameRef (.ref S) (.ref z)=false:=by simp [Builtin.List.listSameRef,hS.1]
 have n2:(IP "zip" == IP "list")=false:=by decide
 have n3:(IP "zip" == IP "tuple")=false:=by decide
 unfold Builtin.List.listExtendWith
 refine AC (wpAny_typeOf (T:="zip") ⟨_,hz,rfl⟩ ?_)
 simp only [n1,n2,n3,Ma,Hg,if_false]
 refine AC (wpAny_pyIter_zip hz (AC (HA (uA ⟨_,hz,rfl⟩ ?_))))
 simp only [Bool.true_or,if_true]
 refine AC (wpAny_rule (AC ?_))
 show wpAny _ _ (updateSeq S (·.push .none) >>= fun _=>updateSeq S (·.pop)) _ _ _
 have dC:=Ht (Hl (·.push Hy)) hl rfl
 have fG:=Ht (Hl (·.pop)) dC rfl
 have oth:∀ b o,b≠S->s.heap.get? b=some o->((s.heap.update S (Hl (·.push Hy))).update S (Hl (·.pop))).get? b=some o:=fun b o n e=>(Hb _ _ (Ip n)).trans ((Hb _ _ (Ip n)).trans e)
 refine AC (Je hl rfl (Je dC rfl (Gc ⟨IT IM _,?_⟩) (by show 1<=sizeLine; rw [HU]; lia) (by show 0<=_; exact GG _)) (GG _) (by show 1<=_; rw [HU]; lia))
 refine wO (xs:=xs) (ys:=ys) hh D hS hn _ _ [] #[] _ rfl (GG _) (Z.keep fun b o e hb=>oth b o (fun x=>by
   subst x
   rcases hb with h | h | h | h | h | h | h | h
   ·exact hS.1 h
   ·exact hS.2.1 h
   ·exact hS.2.2.1 h
   ·exact hS.2.2.2.1 h
   ·exact hS.2.2.2.2.1 h
   ·exact hS.2.2.2.2.2.1 h
   ·exact hS.2.2.2.2.2.2 h
   ·cases h) e) (by simp) fG rfl fun h' ts acc c' k e1 e2 e3 e4 e5 e6=>q h' ts acc c' (fun b o b0 b1 b2 b3 b4 e=>k b o b0 b1 b2 b3 b4 (oth b o b0 e)) e1 e2 e3 e4 e5 fun j T hj=>?_
 obtain ⟨g1,g2⟩:=e6 j T hj
 refine ⟨g1,?_⟩
 rcases g2 with g | g
 ·cases g
 ·rw [JK,JK] at g
  exact g
theorem list_zip {Q:Da->Fk->Prop} {z TI TO i1 i2 l1 l2:GC} {xs ys:Array Da} (hh:A.handled=none) (D:KS z TI TO i1 i2 l1 l2) (hn:min xs.size ys.size<=1000000) (Z:ZSt s.heap z TI TO i1 i2 l1 l2 xs ys [])
  (q:∀ (h':HY) (ts:List GC) (acc:Array Da) (c':Nat),(∀ b o,b≠z->b≠TO->b≠i1->b≠i2->s.heap.get? b=some o->h'.get? b=some o)->h'.get? s.heap.objs.size=some { cls:=.type "list",dict:=none,data:=.seq acc c',slots:=#[] }->acc.toList=ts.map GL->ts.length=min xs.size ys.size->ts.Nodup ->
   (∀ (j:Nat) (T:GC),ts[j]? = some T->(∃ x y,xs[j]? = some x/\ys[j]? = some y/\KC h' T x y)/\s.heap.objs.size < T)->Q (.ref s.heap.objs.size) { s with heap:=h' }) :
  wpAny (model prog w) A (call (.type "list") [.ref z]) Q E s:=by
 have hz:=Z.zip
 have far:∀ {c o},s.heap.get? c=some o->s.heap.objs.size≠c:=fun e=>Jx (GE e)
 have hS:s.heap.objs.size≠z/\s.heap.objs.size≠TI/\s.heap.objs.size≠TO/\s.heap.objs.size≠i1/\s.heap.objs.size≠i2/\s.heap.objs.size≠l1/\s.heap.objs.size≠l2 :=
  ⟨far hz,far Z.ti,(let ⟨_,e⟩:=Z.tto; far e),(let ⟨_,e,_⟩:=Z.it1; far e),(let ⟨_,e,_⟩:=Z.it2; far e),(let ⟨_,e,_⟩:=Z.li1; far e),(let ⟨_,e,_⟩:=Z.li2; far e)⟩
 refine callType_codes (Q₁:=fun T s1=>T = .ref s.heap.objs.size/\s1={ s with heap:=s.heap.push { cls:=.type "list",data:=.seq #[] } }) F.called_list (F.typeCall_list_1 _) F.entry_list_init (code_list_new _ ⟨rfl,rfl⟩) fun T s1 e1=>?_
 obtain ⟨rfl,rfl⟩:=e1
 have g0:(s.heap.push { cls:=.type "list",data:=.seq #[] }).get? s.heap.objs.size=some { cls:=.type "list",data:=.seq #[] }:=GO _ rfl
 have g1:=Ht (Hl (fun _=>(#[]:Array Da))) g0 rfl
 have oth:∀ b o,s.heap.get? b=some o->((s.heap.push { cls:=.type "list",data:=.seq #[] }).update s.heap.objs.size (Hl (fun _=>(#[]:Array Da)))).get? b=some o:=fun b o e=>(Hb _ _ (far e)).trans (FM _ e)
 refine ⟨⟨_,g0,rfl⟩,F.args_list_init_2 _ _,?_⟩
 show wpAny _ _ (do let was <- Builtin.List.listItems (.ref s.heap.objs.size); Builtin.List.listUpdate (.ref s.heap.objs.size) (fun _=>#[]); letGo was.toList.reverse; Builtin.List.listExtendWith (.ref s.heap.objs.size) (.ref z) .none) _ _ _
 refine AC ?_
 unfold Builtin.List.listItems
 refine AC (wpAny_seqItems g0 rfl (Gc ?_))
 show wpAny _ _ (updateSeq s.heap.objs.size (fun _=>#[]) >>= fun _=>letGo (#[]:Array Da).toList.reverse >>= fun _=>Builtin.List.listExtendWith (.ref s.heap.objs.size) (.ref z) .none) _ _ _
 refine AC (Je g0 rfl (AC (wpAny_letGo ?_)) (GG _) (GG _))
 refine oM (s:={ s with heap:=(s.heap.push { cls:=.type "list",data:=.seq #[] }).update s.heap.objs.size (Hl (fun _=>(#[]:Array Da))) }) (A:=A.in1) hh D hS hn (Z.keep fun b o e _=>oth b o e) g1 fun h' ts acc c' k e1 e2 e3 e4 e5 e6=>⟨rfl,q h' ts acc c' (fun b o b1 b2 b3 b4 e=>k b o (Ip (far e)) b1 b2 b3 b4 (oth b o e)) e1 e2 e3 e4 fun j T hj=>?_⟩
 obtain ⟨x1,x2⟩:=e6 j T hj
 rw [JK,Ih] at x2
 exact ⟨x1,x2⟩
end
end Zp
namespace Ck
open PySem L2
theorem ki {α β:Type} {R:α->β->Prop}:∀ {as:List α} {bs:List β},as.length=bs.length->(∀ (j:Nat) a b,as[j]? = some a->bs[j]? = some b->R a b)->Ir R as bs
 | [],[],_,_=>.nil
 | a::as,b::bs,hl,h=>.cons (h 0 a b rfl rfl) (ki (by simpa using hl) fun j x y e1 e2=>h (j+1) x y (by simpa using e1) (by simpa using e2))
end Ck
namespace L2
open PySem PySem.Spec PyProof.Rows Ck
section
variable {X:Cx}
theorem ny {pins:List (GC × Obj)} {σ:St} {s:Fk} {ts:List GC} {ps:List Pair} (r:Ir (fun (T:GC) (p:Pair)=>∃ t u,KC s.heap T (.int p.1 t) (.int p.2 u)) ts ps) :
  ∀ (H:Hp),Inv X pins σ H s->(∀ T∈ts,gb X pins H T)->ts.Nodup->∃ H',Inv X pins σ H' s/\ae H H'/\b7 H' (ts.map V.ref) ps/\∀ b,b∉ts->H' b=H b:=by
 induction r with
 | nil=>exact fun H I _ _=>⟨H,I,ae.refl H,.nil,fun _ _=>rfl⟩
 | @cons T p ts ps h r ih =>
  intro H I o nd
  obtain ⟨t,u,h⟩:=h
  have oT:=o T (GY ..)
  rw [HF] at nd
  have ok:aT X.prog X.w (upd H T (.tup [.int p.1,.int p.2])) s.heap T (.tup [.int p.1,.int p.2]):=⟨sz (n:=2) (by decide),[.int p.1 t,.int p.2 u],.cons ⟨_,rfl⟩ (.cons ⟨_,rfl⟩ .nil),_,h,rfl,_,rfl⟩
  have I1:=I.trackO oT ok
  obtain ⟨H',I',s',pr,k⟩:=ih _ I1 (fun U hU=>by
   have ne:U≠T:=fun z=>nd.1 (z▸hU)
   have oU:=o U (GJ _ hU)
   exact ⟨oU.new,(av ne).trans oU.free,oU.loc,oU.cell,oU.pin⟩) nd.2
  refine ⟨H',I',(ae.new (ae.refl H) oT.free _).trans s',.cons ⟨T,rfl,s' _ _ ag⟩ pr,fun b hb=>?_⟩
  rw [k b (fun z=>hb (GJ _ z))]
  exact av fun z=>hb (by rw [z]; exact GY ..)
noncomputable def Gm (K:GM) (ta:TA):TE:=fun σ H Q=>ta σ H fun vs H1=>∃ (p q:GC) (ns ms:List Int),vs=[.ref p,.ref q]/\aq K H1 p (ns.map V.int)/\aq K H1 q (ms.map V.int)/\ns.length<=1000000/\∀ (l:GC) (H2:Hp),ae H1 H2->H1 l=none->dw H2 l (ns.zip ms)->Q (.ref l) H2
theorem wV {K:GM} {a b:HZ} {ta:TA} {p p2 pos pos2:Pos} (hK:X.K=K) (hc:X.calm=true) (hgl:Gl X "list") (hml:X.mg "list" = none) (hg:Gl X "zip") (hm:X.mg "zip" = none) (ha:PA X [a,b] ta) (hs:starEach [a,b] X.env=[(false,eval a X.env),(false,eval b X.env)]:=by rfl) (hs2:starEach [b] X.env=[(false,eval b X.env)]:=by rfl)
  (he:starEach [.Call (.Name "zip" p) [a,b] [] pos] X.env=[(false,eval (.Call (.Name "zip" p) [a,b] [] pos) X.env)]:=by rfl) :
  PE X (.Call (.Name "list" p2) [.Call (.Name "zip" p) [a,b] [] pos] [] pos2) (Gm K ta):=by
 subst hK
 intro pins s σ H Q I h
 refine HM (bX I hgl hml fu ?_ (by decide) (by decide))
 refine G9 ?_ he rfl
 rw [he]
 show wpAny _ _ (spliced ((false,eval (.Call (.Name "zip" p) [a,b] [] pos) X.env)::backTo pos2 [])) _ _ s
 refine IB (Call_ (bX I hg hm boot_zip (G9 (ax (ha pos pins s σ H _ I h) fun us s1 ⟨vs,H1,I1,r1,q1⟩=>?_) (by rw [hs,hs2]) (by rw [hs2]; rfl))))
 obtain ⟨p1,p2,ns,ms,e,l1,l2,z1,q⟩:=q1
 subst e
 obtain ⟨u1,u2,rfl,ru1,ru2⟩:=vals2 r1
 cases ru1
 cases ru2
 obtain ⟨its,rv,pl,hz⟩:=I1.list l1
 obtain ⟨jts,rw_,pm,hz2⟩:=I1.list l2
 have hi:=intsAre_of rv
 have hj:=intsAre_of rw_
 have li:=hi.length
 have lj:=hj.length
 have lt1:p1 < s1.heap.objs.size:=by obtain ⟨_,e,_⟩:=pl.isList; exact GE e
 have lt2:p2 < s1.heap.objs.size:=by obtain ⟨_,e,_⟩:=pm.isList; exact GE e
 refine call_zip_2 pl.isList pm.isList fun h2 hzz hTI hTO hi1 hi2 hsz hk=>IY ?_
 have D:=zipApart_new lt1 lt2
 have I2:Inv X pins σ H1 { s1 with heap:=h2 }:=I1.kept (t':=s1.toks) hk
 have Z:Zp.ZSt h2 (s1.heap.objs.size+4) (s1.heap.objs.size+2) (s1.heap.objs.size+3) s1.heap.objs.size (s1.heap.objs.size+1) p1 p2 its.toArray jts.toArray [] :=
  ⟨.inl ⟨rfl,hzz,_,_,hTO⟩,hTI,hi1,hi2,pl.isList.at fun o e=>hk _ o e,pm.isList.at fun o e=>hk _ o e,fun j T hj=>by simp at hj,Jp,⟨_,hTO⟩⟩
 refine Zp.list_zip (s:={ s1 with heap:=h2 }) (I.ok.hd hc) D (by simp; lia) Z fun h3 ts acc c kk hl ea lts nd tu=>?_
 have k3:∀ b o,s1.heap.get? b=some o->h3.get? b=some o:=fun b o e=>by
  have lt:=GE e
  exact kk b o (GX (GV lt (Jo _ _))) (GX (GV lt (Jo _ _))) (GX lt) (GX (GV lt (Jo _ _))) (hk b o e)
 have I3:Inv X pins σ H1 { s1 with heap:=h3 }:=I1.kept (t':=s1.toks) k3
 have our:∀ T,s1.heap.objs.size<=T->gb X pins H1 T:=fun T hT=>by
  have f:=I1.fpOk hT (I1.hok.fresh hT)
  exact ⟨IW (Hm I1.sz hT),f.1,f.2.1,f.2.2.2.2.1,f.2.2.2.2.2⟩
 have hgt:∀ T∈ts,h2.objs.size < T:=fun T hT=>by
  obtain ⟨j,hj⟩:=HC hT
  exact (tu j T hj).2
 have lz:(ns.zip ms).length=ts.length:=by rw [lts,List.length_zip]; simp; lia
 have prd:Ir (fun (T:GC) (p:Pair)=>∃ t u,KC h3 T (.int p.1 t) (.int p.2 u)) ts (ns.zip ms):=by
  refine ki lz.symm fun j T pr e1 e2=>?_
  obtain ⟨⟨x,y,hx,hy,hp⟩,_⟩:=tu j T e1
  have hx':its[j]? = some x:=by simpa using hx
  have hy':jts[j]? = some y:=by simpa using hy
  rw [List.getElem?_zip_eq_some] at e2
  obtain ⟨t,et⟩:=iq hi e2.1
  obtain ⟨u,eu⟩:=iq hj e2.2
  rw [et] at hx'
  rw [eu] at hy'
  cases hx'
  cases hy'
  exact ⟨t,u,hp⟩
 obtain ⟨H',I',s',prs,kf⟩:=ny prd H1 I3 (fun T hT=>our T (by have:=hgt T hT; lia)) nd
 have nS:h2.objs.size∉ts:=fun z=>HL _ (hgt _ z)
 have oS:=our h2.objs.size (by lia)
 have fS:H' h2.objs.size=none:=by rw [kf _ nS]; exact oS.free
 have vs:Vals (ts.map V.ref) acc.toList:=by
  rw [ea]
  have go:∀ ts:List GC,Vals (ts.map V.ref) (ts.map GL):=fun ts=>by
   induction ts with
   | nil=>exact .nil
   | cons T ts ih=>exact .cons rfl ih
  exact go ts
 have I4:=I'.trackO (o':=.lst (ts.map V.ref)) ⟨oS.new,fS,oS.loc,oS.cell,oS.pin⟩ ⟨by rw [FS,lts]; simp; exact sz (by lia),acc.toList,c,vs,hl⟩
 exact ⟨.ref h2.objs.size,_,I4,rfl,q _ _ (s'.trans (ae.new (ae.refl H') fS _)) oS.free ⟨_,ag,prs.updN fS _⟩⟩
end
end L2
namespace Ck
open PySem L2
theorem iF:∀ {r s:List Int},r.map V.int=s.map V.int->r=s
 | [],[],_=>rfl
 | a::r,b::s,h=>by
  rw [G6,G6] at h
  injection h with h1 h2
  injection h1 with h1
  rw [h1,iF h2]
noncomputable def lA (o:Option HO):Bool:=match o with | some (.lst [])=>true | _=>false
theorem kH (r:List Int):lA (some (.lst (r.map V.int)))=decide (r=[]):=by
 cases r with
 | nil=>rfl
 | cons a r=>rw [decide_eq_false (by simp)]; rfl
end Ck
namespace L2
open PySem PySem.Spec PyProof.Rows Ck
theorem lI {X:Cx} {K:GM} (hK:X.K=K):cb X (.builtin "sorted") (fun xs H Q=>∃ (p:GC) (ns:List Int),xs=[.ref p]/\aq K H p (ns.map V.int)/\ns.length < 64/\∀ (q:GC) (ms:List Int),H q=none->ms.Perm ns->ms.Pairwise (·<=·)->Q (.ref q) (upd H q (.lst (ms.map V.int)))):=by
 subst hK
 exact e8
noncomputable def EY:R2:=fun x y H Q=>∃ (a l:GC) (H0:Hp) (rs:List (List Int)),x = .ref a/\y = .ref l/\H a=some (.lst [])/\cA H0 H l rs/\Q (.bl (rs.any fun r=>decide (r=[]))) H
theorem CM {X:Cx} (hu:X.A.units+100 < cLine):bC X (compareOp .In) EY:=by
 intro pins s σ H x y u v Q I ru rv h
 obtain ⟨a,l,H0,rs,rfl,rfl,ha,⟨bs,hl,ro,nd⟩,q⟩:=h
 cases (show u=GL _ from ru)
 cases (show v=GL _ from rv)
 obtain ⟨its,r',pl,hz⟩:=I.list (aq.of hl)
 have ei:its=bs.map GL:=by
  have go:∀ (bs:List GC) (us:List Da),Vals (bs.map V.ref) us->us=bs.map GL:=fun bs=>by
   induction bs with
   | nil=>intro us h; rw [JO] at h; cases h; rfl
   | cons b bs ih =>
    intro us h
    rw [G6] at h
    cases h with
    | cons h t=>rw [ih _ t,G6]; cases (show _=GL b from h); rfl
  exact go bs its r'
 have one:∀ (b:GC) (r:List Int),H b=some (.lst (r.map V.int))->aN X.K H 1 (.ref b) (.ref a) (decide (r=[])):=fun b r hb=>by
  by_cases e:b=a
  ·subst e
   rw [ha] at hb
   have:r=[]:=by
    injection hb with hb; injection hb with hb
    exact List.map_eq_nil_iff.mp hb.symm
   rw [decide_eq_true this]
   exact aN.same
  ·have:=aN.void (K:=X.K) (n:=0) e (aq.of hb) (aq.of ha)
   have e2:decide (r.map V.int=[])=decide (r=[]):=by
    cases r<;>simp
   rw [e2] at this
   exact this
 have ex:∀ (bs:List GC) (rs:List (List Int)),aK H0 H l bs rs->∃ e:Da->Bool,(∀ y∈bs.map GL,∃ (b:GC) (r:List Int),y = .ref b/\H b=some (.lst (r.map V.int))/\e y=decide (r=[]))/\(bs.map GL).any e=rs.any fun r=>decide (r=[]):=fun bs rs ro=>by
  refine ⟨fun y=>match y with | .ref b=>lA (H b) | _=>false,?_,?_⟩
  ·intro y hy
   obtain ⟨b,hb,rfl⟩:=HV.mp hy
   obtain ⟨⟨ns,e⟩,_⟩:=ro.all b hb
   refine ⟨b,ns,rfl,e,?_⟩
   show lA (H b)=_
   rw [e,kH]
  ·induction ro with
   | nil=>rfl
   | cons h _ ih =>
    rw [G6,Jk,Jk,ih]
    congr 1
    show lA (H _)=_
    rw [h.1,kH]
 obtain ⟨e,e1,e2⟩:=ex bs rs ro
 refine SeqAt.in_listAt (items:=its.toArray) e pl.isList (fun y hy=>?_) ⟨.bl _,H,I,rfl,?_⟩
 ·have hy':y∈bs.map GL:=by rw [ei] at hy; simpa using hy
  obtain ⟨b,r,rfl,hb,e3⟩:=e1 y hy'
  rw [e3]
  exact (one b r hb).at_ (A:=X.A.in1) (by show X.A.units+1+1 < cLine; lia) I rfl rfl
 ·rw [ei,List.any_toArray,e2]
  exact q
end L2
namespace Ck
open PySem L2
theorem aN.ints {K:GM} {H:Hp} {n:Nat} {a b:GC} {r s:List Int} (ha:H a=some (.lst (r.map V.int))) (hb:H b=some (.lst (s.map V.int))):aN K H (n+1) (.ref a) (.ref b) (decide (r=s)):=by
 by_cases e:a=b
 ·subst e
  rw [ha] at hb
  have:r=s:=by
   injection hb with hb; injection hb with hb
   exact iF hb
  rw [decide_eq_true this]
  exact aN.same
 by_cases hl:r.length=s.length
 ·have h:=aN.lst (K:=K) (n:=n) (e:=fun j=>decide (r.getD j 0=s.getD j 0)) e (aq.of ha) (aq.of hb) (by simp [hl]) (fun j x y hx hy=>by
   obtain ⟨c,rfl⟩:=c6 hx
   obtain ⟨d,rfl⟩:=c6 hy
   rw [Hk] at hx hy
   have ec:r.getD j 0=c:=by
    rw [FB]
    cases h:r[j]? with
    | none=>rw [h] at hx; cases hx
    | some z=>rw [h] at hx; injection hx with hx; injection hx
   have ed:s.getD j 0=d:=by
    rw [FB]
    cases h:s[j]? with
    | none=>rw [h] at hy; cases hy
    | some z=>rw [h] at hy; injection hy with hy; injection hy
   have z:=aN.flat (K:=K) (H:=H) (n:=n) (x:=V.int c) (y:=V.int d) rfl rfl
   rw [ec,ed]
   have e3:eR (V.int c) (V.int d)=decide (c=d):=rfl
   rw [e3] at z
   exact z)
  have e2:(GK (r.map V.int).length).all (fun j=>decide (r.getD j 0=s.getD j 0))=decide (r=s):=by
   rw [HE,GW,decide_eq_true_iff]
   constructor
   ·intro h
    refine JJ hl fun k h1 h2=>?_
    have:=of_decide_eq_true (h k (GT.mpr (by simpa using h1)))
    rw [FB,FB,Do h1,Do h2] at this
    exact this
   ·intro h k _
    rw [h]
    exact decide_eq_true rfl
  rw [e2] at h
  exact h
 ·rw [decide_eq_false fun z=>hl (by rw [z])]
  exact aN.lstN e (aq.of ha) (aq.of hb) (by simpa using hl)
theorem aN.rooms {K:GM} {H0 H1 H:Hp} {a b:GC} {rs ss:List (List Int)} (h:cA H0 H a rs) (k:cA H1 H b ss) (ne:a≠b):aN K H 2 (.ref a) (.ref b) (decide (rs=ss)):=by
 obtain ⟨xs,ex,lx⟩:=h.len
 obtain ⟨ys,ey,ly⟩:=k.len
 by_cases hl:rs.length=ss.length
 ·have d:=aN.lst (K:=K) (n:=1) (e:=fun j=>decide (rs.getD j []=ss.getD j [])) ne (aq.of ex) (aq.of ey) (by lia) (fun j x y e1 e2=>by
   have hj:j < rs.length:=by rw [<- lx]; exact (GD.mp e1).1
   obtain ⟨c,f1,g1,_⟩:=h.get ex (Do hj)
   obtain ⟨d,f2,g2,_⟩:=k.get ey (Do (show j < ss.length by lia))
   rw [f1] at e1
   rw [f2] at e2
   cases e1
   cases e2
   rw [FB,FB,Do hj,Do (show j < ss.length by lia)]
   exact aN.ints g1 g2)
  have e:(GK xs.length).all (fun j=>decide (rs.getD j []=ss.getD j []))=decide (rs=ss):=by
   rw [HE,GW,decide_eq_true_iff]
   constructor
   ·intro h
    refine JJ hl fun k h1 h2=>?_
    have:=of_decide_eq_true (h k (GT.mpr (by lia)))
    rw [FB,FB,Do h1,Do h2] at this
    exact this
   ·intro h k _
    rw [h]
    exact decide_eq_true rfl
  rw [e] at d
  exact d
 ·rw [decide_eq_false fun z=>hl (by rw [z])]
  exact aN.lstN ne (aq.of ex) (aq.of ey) (by lia)
end Ck
namespace Ck
open PySem L2
noncomputable def iy (rs:List (List Int)):List Pair:=(rs.map fun r=>r.zip (r.drop 1)).flatten
noncomputable def mz (rs:List (List Int)):Bool:=decide ((∀ r∈rs,r.Pairwise (· < ·))/\(rs.map hd).Pairwise (· < ·))
noncomputable def dm (rs:List (List Int)):Bool:=rs.all (fun r=>decide (r≠[]))&&(bN rs.flatten&&(mz rs&&!cz (iy rs)))
theorem u6 {rs:List (List Int)} (h:∃ r∈rs,r=[]):dm rs=false:=by
 obtain ⟨r,hr,e⟩:=h
 unfold dm
 have:rs.all (fun r=>decide (r≠[]))=false:=List.all_eq_false.mpr ⟨r,hr,by simp [e]⟩
 rw [this,HR]
theorem ud {rs:List (List Int)} (h:bN rs.flatten=false):dm rs=false:=by
 unfold dm
 rw [h]
 simp
theorem vy {rs:List (List Int)} (hne:∀ r∈rs,r≠[]) (hE:bN rs.flatten=true):dm rs=(mz rs&&!cz (iy rs)):=by
 unfold dm
 have:rs.all (fun r=>decide (r≠[]))=true:=GW.mpr fun r hr=>decide_eq_true (hne r hr)
 rw [this,hE,HB,HB]
theorem qN {rs:List (List Int)} (hE:bN rs.flatten=true):rs.flatten.Nodup:=((eU _).mp hE).nodup_iff.mpr (rZ _)
theorem j6:∀ {rs:List (List Int)},rs.flatten.Nodup->(∀ r∈rs,r.Nodup)/\rs.Pairwise fun a b=>∀ x∈a,x∉b
 | [],_=>⟨fun r hr=>absurd hr (by simp),La⟩
 | r::rs,h=>by
  rw [I0,Jd] at h
  obtain ⟨h1,h2,h3⟩:=h
  obtain ⟨i1,i2⟩:=j6 h2
  refine ⟨fun q hq=>?_,.cons (fun q hq x hx hx'=>h3 x hx x (List.mem_flatten.mpr ⟨q,hq,hx'⟩) rfl) i2⟩
  rcases GI.mp hq with z | z
  ·rw [z]; exact h1
  ·exact i1 q z
theorem qc {rs:List (List Int)} (h:rs.flatten.Nodup) {r:List Int} (hr:r∈rs):r.Nodup:=by
 exact (j6 h).1 r hr
theorem rD {a b:List Int} (ha:a≠[]) (hb:b≠[]) (h:cy b a=false) (ne:hd a≠hd b):hd a < hd b:=by
 cases a with
 | nil=>exact absurd rfl ha
 | cons x a =>
  cases b with
  | nil=>exact absurd rfl hb
  | cons y b =>
   have ne':x≠y:=ne
   show x < y
   have h':(if y=x then cy b a else decide (y < x))=false:=h
   rw [if_neg (fun z=>ne' z.symm)] at h'
   have:=of_decide_eq_false h'
   lia
theorem l4 {a b:List Int} (ha:a≠[]) (hb:b≠[]) (h:hd a < hd b):cy b a=false:=by
 cases a with
 | nil=>exact absurd rfl ha
 | cons x a =>
  cases b with
  | nil=>exact absurd rfl hb
  | cons y b =>
   have h':x < y:=h
   show (if y=x then cy b a else decide (y < x))=false
   rw [if_neg (by lia)]
   exact decide_eq_false (by lia)
theorem uc {rs:List (List Int)} (hne:∀ r∈rs,r≠[]) (h:rs.flatten.Nodup):rs.Pairwise fun a b=>hd a≠hd b:=by
 exact (j6 h).2.imp_of_mem fun ha hb hd' e=>by
  have h1:=sH (hne _ ha)
  have h2:=sH (hne _ hb)
  rw [<- e] at h2
  exact hd' _ h1 h2
theorem tw {r:List Int} (h:r.Pairwise (·<=·)) (nd:r.Nodup):r.Pairwise (· < ·):=by
 have:=List.Pairwise.and h nd
 exact this.imp fun ⟨h1,h2⟩=>by lia
theorem va {rs ts ss:List (List Int)} (hts:Ir (fun (r q:List Int)=>q.Perm r/\q.Pairwise (·<=·)) rs ts) (hp:ss.Perm ts) (hs:ss.Pairwise fun a b=>cy b a=false) (hne:∀ r∈rs,r≠[]) (hE:bN rs.flatten=true):decide (rs=ss)=mz rs:=by
 have nd:=qN hE
 unfold mz
 rw [HE,decide_eq_true_iff,decide_eq_true_iff]
 constructor
 ·intro e
  constructor
  ·intro r hr
   have h1:r∈ts:=hp.mem_iff.mp (e▸hr)
   have go:∀ {rs ts:List (List Int)},Ir (fun (r q:List Int)=>q.Perm r/\q.Pairwise (·<=·)) rs ts->∀ q∈ts,q.Pairwise (·<=·):=by
    intro rs ts h
    induction h with
    | nil=>intro q hq; cases hq
    | cons x _ ih =>
     intro q hq
     rcases GI.mp hq with z | z
     ·rw [z]; exact x.2
     ·exact ih q z
   exact tw (go hts r h1) (qc nd hr)
  ·rw [Jb]
   rw [<- e] at hs
   exact (hs.and (uc hne nd)).imp_of_mem fun ha hb ⟨h1,h2⟩=>rD (hne _ ha) (hne _ hb) h1 h2
 ·rintro ⟨h1,h2⟩
  have et:ts=rs:=by
   have go:∀ {rs ts:List (List Int)},Ir (fun (r q:List Int)=>q.Perm r/\q.Pairwise (·<=·)) rs ts->(∀ r∈rs,r.Pairwise (· < ·))->ts=rs:=by
    intro rs ts h
    induction h with
    | nil=>intro _; rfl
    | cons x _ ih =>
     intro hr
     rw [ih fun r hr'=>hr r (GJ _ hr')]
     congr 1
     exact ID (le:=(·<=·)) (fun a b _ _ h1 h2=>Int.le_antisymm h1 h2) x.2 ((hr _ (GY ..)).imp Int.le_of_lt) x.1
   exact go hts h1
  rw [et] at hp
  rw [Jb] at h2
  have h2':rs.Pairwise fun a b=>cy b a=false:=h2.imp_of_mem fun ha hb h=>l4 (hne _ ha) (hne _ hb) h
  exact (ID (le:=fun a b=>cy b a=false) (fun a b _ _ h1 h2=>mC a b h2 h1) hs h2' hp).symm
noncomputable abbrev lst (r:List Int):Int:=r.getD (r.length - 1) 0
end Ck
namespace L2
open PySem PySem.Spec PyProof.Rows Ck
end L2
namespace Ck
open PySem L2
theorem gg {α β:Type} {R:α->β->Prop}:∀ {as cs:List α} {bs ds:List β},Ir R as bs->Ir R cs ds->Ir R (as++cs) (bs++ds)
 | _,_,_,_,.nil,h=>h
 | _,_,_,_,.cons r t,h=>.cons r (gg t h)
def ck (H:Hp) (bs:List GC) (xss:List (List V)):Prop:=Ir (fun (b:GC) (xs:List V)=>H b=some (.lst xs)) bs xss
theorem ck.same {H H':Hp} {bs:List GC} {xss:List (List V)} (h:ck H bs xss) (s:ae H H'):ck H' bs xss:=Paired.mapP h fun _ _ e=>s _ _ e
theorem ck.get {H:Hp}:∀ {bs:List GC} {xss:List (List V)},ck H bs xss->∀ {j:Nat} {v:V},(bs.map V.ref)[j]? = some v->∃ b xs,v = .ref b/\xss[j]? = some xs/\H b=some (.lst xs)
 | _,_,.nil,j,v,e=>by simp at e
 | _,_,.cons r t,0,v,e=>⟨_,_,(by simpa using e.symm),rfl,r⟩
 | _,_,.cons r t,j+1,v,e=>by
  obtain ⟨b,xs,h1,h2,h3⟩:=ck.get t (j:=j) (by simpa using e)
  exact ⟨b,xs,h1,by simpa using h2,h3⟩
theorem cA.rws {H0 H:Hp} {a:GC} {rs:List (List Int)} (h:cA H0 H a rs):∃ bs:List GC,H a=some (.lst (bs.map V.ref))/\ck H bs (rs.map fun r=>r.map V.int):=by
 obtain ⟨bs,e,r,_⟩:=h
 refine ⟨bs,e,?_⟩
 have go:∀ {bs:List GC} {rs:List (List Int)},aK H0 H a bs rs->ck H bs (rs.map fun r=>r.map V.int):=by
  intro bs rs r
  induction r with
  | nil=>exact .nil
  | cons x _ ih=>exact .cons x.1 ih
 exact go r
theorem ck.len {H:Hp} {bs:List GC} {xss:List (List V)} (h:ck H bs xss):bs.length=xss.length:=IG h
theorem ma (rs:List (List Int)):(rs.map fun r=>r.map V.int).flatten=rs.flatten.map V.int:=by
 rw [List.map_flatten]
end Ck
namespace Ck
open PySem L2
end Ck
namespace Ck
open PySem L2
end Ck
namespace Sx
open PySem PySem.SetTable
theorem sub_len:∀ {l1 l2:List Nat},l1.Nodup->(∀ x∈l1,x∈l2)->l1.length<=l2.length
 | [],l2,_,_=>GG _
 | a::l1,l2,nd,h=>by
  rw [HF] at nd
  have ha:=h a (GY ..)
  have:=sub_len (l1:=l1) (l2:=l2.erase a) nd.2 fun x hx=>(List.mem_erase_of_ne (fun e=>nd.1 (by rw [<- e]; exact hx))).mpr (h x (GJ _ hx))
  rw [List.length_erase_of_mem ha] at this
  have hp:=List.length_pos_of_mem ha
  simp only [Hq]
  lia
theorem mJ {l:List Nat} {m:Nat} (h:l.length<=m):∃ t,t<=m/\t∉l:=by
 apply JH
 intro hn
 have:=sub_len (l1:=GK (m+1)) (l2:=l) Lw fun x hx=>by
  apply JH
  intro hx'
  exact hn ⟨x,JB.mp (GT.mp hx),hx'⟩
 rw [IJ] at this
 lia
def b8 (xs:List Nat):Prop:=xs.Pairwise (· < ·)
theorem iW (xs:Array Nat) (j:Nat) (hr:b8 xs.toList):∀ (fuel lo hi:Nat),hi - lo<=fuel->lo<=hi->hi<=xs.size->(∀ i x,i < lo->xs[i]? = some x->x < j)->(∀ i x,hi<=i->xs[i]? = some x->j<=x) ->
  below.go xs j fuel lo hi<=xs.size/\(∀ i x,i < below.go xs j fuel lo hi->xs[i]? = some x->x < j)/\∀ i x,below.go xs j fuel lo hi<=i->xs[i]? = some x->j<=x
 | 0,lo,hi,hf,hl,hh,h1,h2=>by
  have e:lo=hi:=by lia
  subst e
  exact ⟨hh,h1,h2⟩
 | fuel+1,lo,hi,hf,hl,hh,h1,h2=>by
  unfold below.go
  by_cases h:lo < hi
  ·rw [if_pos h]
   have hm:(lo+hi) / 2 < xs.size:=by lia
   have gm:xs[(lo+hi) / 2]? = some xs[(lo+hi) / 2]:=Ha hm
   have gd:xs.getD ((lo+hi) / 2) j=xs[(lo+hi) / 2]:=by simp [hm]
   simp only [gd]
   have mono:∀ a b x y,a < b->xs[a]? = some x->xs[b]? = some y->x < y:=fun a b x y hab ha hb=>by
    obtain ⟨la,ea⟩:=G8.mp ha
    obtain ⟨lb,eb⟩:=G8.mp hb
    have:=Hd.mp hr a b (by simpa using la) (by simpa using lb) hab
    simp only [Ks] at this
    omega
   by_cases c:xs[(lo+hi) / 2] < j
   ·rw [if_pos c]
    refine iW xs j hr fuel _ _ (by lia) (by lia) hh (fun i x hlt hx=>?_) h2
    by_cases e:i=(lo+hi) / 2
    ·subst e; rw [gm] at hx; cases hx; exact c
    ·have:=mono i ((lo+hi) / 2) x _ (by lia) hx gm; lia
   ·rw [if_neg c]
    refine iW xs j hr fuel _ _ (by lia) (by lia) (by lia) h1 (fun i x hlt hx=>?_)
    by_cases e:i=(lo+hi) / 2
    ·subst e; rw [gm] at hx; cases hx; lia
    ·have:=mono ((lo+hi) / 2) i _ x (by lia) gm hx; lia
  ·rw [if_neg h]
   have e:lo=hi:=by lia
   subst e
   exact ⟨hh,h1,h2⟩
theorem below_at (xs:Array Nat) (j:Nat) (hr:b8 xs.toList):below xs j<=xs.size/\(∀ i x,i < below xs j->xs[i]? = some x->x < j)/\∀ i x,below xs j<=i->xs[i]? = some x->j<=x:=by
 unfold below
 refine iW xs j hr xs.size 0 xs.size (by lia) (GG _) (GF _) (fun i x hi _=>absurd hi (Iy _)) fun i x hi hx=>?_
 rw [Io hi] at hx
 cases hx
theorem qu {xs:Array Nat} {j:Nat} (hr:b8 xs.toList) (h:j∉xs.toList):(xs[below xs j]? == some j)=false:=by
 rw [beq_eq_false_iff_ne]
 intro e
 exact h (by rw [Kp]; exact Array.mem_of_getElem? e)
theorem sD {t:Ii} {j:Nat} (hr:b8 t.place.toList) (hd:t.dummies = #[]) (h:j∉t.place.toList):t.slot j = .empty:=by
 unfold Me
 simp only [qu hr h,Hg,if_false]
 have:has t.dummies j=false:=by rw [hd]; rfl
 rw [this]
 rfl
theorem jS {t:Ii} {j:Nat} (hd:t.dummies = #[]):t.slot j = .empty\/∃ i,t.slot j = .live i:=by
 unfold Me
 have:has t.dummies j=false:=by rw [hd]; rfl
 simp only [this]
 split
 ·exact .inr ⟨_,rfl⟩
 ·exact .inl rfl
theorem pX {t:Ii} {j:Nat} (hr:b8 t.place.toList) (h:t.slot j = .empty):j∉t.place.toList:=by
 intro hj
 unfold Me at h
 obtain ⟨h0,h1,h2⟩:=below_at t.place j hr
 obtain ⟨i,hi⟩:=HC hj
 have hi':t.place[i]? = some j:=by simpa using hi
 have e:below t.place j=i:=by
  rcases Nat.lt_trichotomy i (below t.place j) with z | z | z
  ·have:=h1 i j z hi'; lia
  ·exact z.symm
  ·have lt:below t.place j < t.place.size:=Nat.lt_trans z (G8.mp hi').1
   have g:=Ha lt
   have:=h2 _ _ (GF _) g
   obtain ⟨li,ei⟩:=G8.mp hi'
   have m:=Hd.mp hr _ _ (by simpa using lt) (by simpa using li) z
   simp only [Ks] at m
   lia
 simp only [e,hi',beq_self_eq_true,if_true] at h
 cases h
noncomputable def iter (m:Nat):Nat->Nat × Nat->Nat × Nat
 | 0,p=>p
 | k+1,p=>iter m k (leap m p.1 p.2)
theorem eJ (m:Nat):∀ (a b:Nat) (p:Nat × Nat),iter m (a+b) p=iter m b (iter m a p)
 | 0,b,p=>by rw [Nat.zero_add]; rfl
 | a+1,b,p=>by rw [show a+1+b=(a+b)+1 by lia]; exact eJ m a b _
theorem iZ (m:Nat):∀ (k:Nat) (p:Nat × Nat),(iter m k p).2=p.2 / 32 ^ k
 | 0,p=>by show p.2=_; simp
 | k+1,p=>by
  show (iter m k (leap m p.1 p.2)).2=_
  rw [iZ m k]
  show p.2 / 32 / 32 ^ k=_
  rw [Nat.div_div_eq_div_mul,Nat.pow_succ,Nat.mul_comm]
theorem lG (m:Nat):∀ (k:Nat) (p:Nat × Nat),p.1<=m->(iter m k p).1<=m
 | 0,p,h=>h
 | k+1,p,h=>lG m k _ (by show (p.1*5+1+p.2 / 32) % (m+1)<=m; exact JB.mp (LQ _ (Ki _)))
noncomputable def pT (m:Nat):Nat->Nat->List Nat
 | 0,_=>[]
 | k+1,i=>i::pT m k ((i*5+1) % (m+1))
theorem jD (m:Nat):∀ (k i t:Nat),t∈pT m k i->∃ n,n < k/\(iter m n (i,0)).1=t
 | k+1,i,t,h=>by
  rcases GI.mp h with rfl | h
  ·exact ⟨0,Ki _,rfl⟩
  ·obtain ⟨n,hn,e⟩:=jD m k _ t h
   exact ⟨n+1,by lia,by
    show (iter m n (leap m i 0)).1=t
    have:leap m i 0=((i*5+1) % (m+1),0):=rfl
    rw [this]; exact e⟩
def iH (m:Nat):Prop:=m=7\/m=31\/m=127
noncomputable def whole (m:Nat):Bool:=(let o:=pT m (m+1) 0; (GK (m+1)).all fun t=>o.contains t)&&decide (iter m (m+1) (0,0)=(0,0))
theorem yc:whole 7=true:=by decide +kernel
theorem uX:whole 31=true:=by decide +kernel
theorem rE:whole 127=true:=by decide +kernel
theorem iH.whole {m:Nat} (h:iH m):whole m=true:=by
 rcases h with rfl | rfl | rfl
 ·exact yc
 ·exact uX
 ·exact rE
theorem tV (m:Nat) (k i:Nat):iter m k (i,0)=((iter m k (i,0)).1,0):=by
 have:(iter m k (i,0)).2=0:=by rw [iZ]; exact Nat.zero_div _
 exact LP rfl this
theorem around {m i t:Nat} (hm:iH m) (hi:i<=m) (ht:t<=m):∃ n,n<=m/\(iter m n (i,0)).1=t:=by
 have hw:=hm.whole
 unfold Sx.whole at hw
 rw [GN,decide_eq_true_iff] at hw
 have at_:∀ s,s<=m->∃ n,n < m+1/\(iter m n (0,0)).1=s:=fun s hs=>by
  have:=GW.mp hw.1 s (GT.mpr (JB.mpr hs))
  exact jD m (m+1) 0 s (by simpa using this)
 obtain ⟨a,ha,ea⟩:=at_ i hi
 obtain ⟨b,hb,eb⟩:=at_ t ht
 have ei:iter m a (0,0)=(i,0):=by rw [tV,ea]
 by_cases c:a<=b
 ·refine ⟨b - a,by lia,?_⟩
  rw [<- ei,<- eJ,show a+(b - a)=b by lia,eb]
 ·refine ⟨b+(m+1) - a,by lia,?_⟩
  rw [<- ei,<- eJ,show a+(b+(m+1) - a)=m+1+b by lia,eJ,hw.2,eb]
theorem reach {m i x t:Nat} (hm:iH m) (hi:i<=m) (hx:x < 2 ^ 64) (ht:t<=m):∃ k,k<=13+m/\(iter m k (i,x)).1=t:=by
 have h13:(iter m 13 (i,x)).2=0:=by
  rw [iZ]
  exact Nat.div_eq_of_lt (GV hx (by decide))
 have hf:=lG m 13 (i,x) hi
 obtain ⟨n,hn,e⟩:=around hm hf ht
 refine ⟨13+n,by lia,?_⟩
 rw [eJ,<- e]
 have ep:iter m 13 (i,x)=((iter m 13 (i,x)).1,0):=by rw [<- h13]
 rw [ep]
theorem oB (h:Int):bits h < 2 ^ 64:=by
 unfold bits
 have h0:=HQ h (show (2 ^ 64:Int)≠0 by decide)
 have h1:=HD h (show (0:Int) < 2 ^ 64 by decide)
 have e:(2:Int) ^ 64=18446744073709551616:=by decide
 have e2:(2:Nat) ^ 64=18446744073709551616:=by decide
 rw [e] at h0 h1 |-
 rw [e2]
 lia
noncomputable def begin_ (m i x:Nat):Probe:={ j:=i,more:=runEnd m i - i,i:=i,perturb:=x,dummy:=none }
theorem rK {t:Ii} {hashAt:Nat->Int} {h:Int} (hd:t.dummies = #[]) (nh:∀ i,i < t.place.size->hashAt i≠h) (nl:∀ j i,t.slot j = .live i->i < t.place.size) :
  ∀ (r fuel:Nat) (p:Probe),p.more=r->p.dummy=none->p.j+r<=t.mask->r+1<=fuel->(∃ j,probe.go t hashAt h fuel p=some (.empty j none)/\t.slot j = .empty/\j<=t.mask)\/probe.go t hashAt h fuel p=probe.go t hashAt h (fuel - (r+1)) (begin_ t.mask (leap t.mask p.i p.perturb).1 (leap t.mask p.i p.perturb).2)
 | r,0,p,hr,hdm,hb,hf=>by lia
 | r,fuel+1,p,hr,hdm,hb,hf=>by
  rcases jS (t:=t) (j:=p.j) hd with e | ⟨i,e⟩
  ·refine .inl ⟨p.j,?_,e,by lia⟩
   unfold probe.go
   rw [e,hdm]
  ·have ne:(hashAt i == h)=false:=beq_eq_false_iff_ne.mpr (nh i (nl _ _ e))
   have st:probe.go t hashAt h (fuel+1) p=probe.go t hashAt h fuel (t.advance p):=by
    conv=>lhs; unfold probe.go
    rw [e]
    simp only [ne,Hg,if_false]
   rw [st]
   cases r with
   | zero =>
    refine .inr ?_
    have ea:t.advance p=begin_ t.mask (leap t.mask p.i p.perturb).1 (leap t.mask p.i p.perturb).2:=by
     unfold advance
     rw [hr,if_neg (HL _)]
     unfold begin_
     rw [hdm]
    rw [ea]
    rfl
   | succ r =>
    have ea:t.advance p={ p with j:=p.j+1,more:=r }:=by
     unfold advance
     rw [hr,if_pos (Ki _),Jt]
    rw [ea]
    rcases rK hd nh nl r fuel { p with j:=p.j+1,more:=r } rfl hdm (by show p.j+1+r<=t.mask; lia) (by lia) with z | z
    ·exact .inl z
    ·refine .inr (z.trans ?_)
     rw [show fuel+1 - (r+1+1)=fuel - (r+1) by lia]
theorem tR (m i:Nat):runEnd m i - i<=9:=by unfold runEnd; split<;>lia
theorem oW {m i:Nat} (h:i<=m):i+(runEnd m i - i)<=m:=by unfold runEnd; split<;>lia
theorem lU {t:Ii} {hashAt:Nat->Int} {h:Int} (hd:t.dummies = #[]) (nh:∀ i,i < t.place.size->hashAt i≠h) (nl:∀ j i,t.slot j = .live i->i < t.place.size) :
  ∀ (k fuel i x:Nat),i<=t.mask->t.slot (iter t.mask k (i,x)).1 = .empty->10*(k+1)<=fuel->∃ j,probe.go t hashAt h fuel (begin_ t.mask i x)=some (.empty j none)/\t.slot j = .empty/\j<=t.mask
 | 0,fuel,i,x,hi,he,hf=>by
  obtain ⟨f,rfl⟩:∃ f,fuel=f+1:=⟨fuel - 1,by lia⟩
  refine ⟨i,?_,he,hi⟩
  have he':t.slot (begin_ t.mask i x).j = .empty:=he
  unfold probe.go
  rw [he']
  rfl
 | k+1,fuel,i,x,hi,he,hf=>by
  have rl:=tR t.mask i
  rcases rK hd nh nl (runEnd t.mask i - i) fuel (begin_ t.mask i x) rfl rfl (oW hi) (by lia) with z | z
  ·exact z
  ·rw [z]
   exact lU hd nh nl k _ _ _ (by show (i*5+1+x / 32) % (t.mask+1)<=t.mask; exact JB.mp (LQ _ (Ki _))) he (by lia)
theorem lL {t:Ii} {j i:Nat} (h:t.slot j = .live i):i < t.place.size:=by
 have e:t.slot j=if (t.place[below t.place j]? == some j)=true then .live (below t.place j) else if has t.dummies j=true then .dummy else .empty:=rfl
 rw [e] at h
 by_cases c:(t.place[below t.place j]? == some j)=true
 ·rw [if_pos c] at h
  cases h
  exact (G8.mp (by simpa using c)).1
 ·rw [if_neg c] at h
  by_cases d:has t.dummies j=true
  ·rw [if_pos d] at h; cases h
  ·rw [if_neg d] at h; cases h
theorem ql {t:Ii} {hashAt:Nat->Int} {h:Int} (hm:iH t.mask) (hr:b8 t.place.toList) (hd:t.dummies = #[]) (hs:t.place.size<=t.mask) (nh:∀ i,i < t.place.size->hashAt i≠h) :
  ∃ j,t.probe hashAt h (t.probeStart h)=some (.empty j none)/\j∉t.place.toList/\j<=t.mask:=by
 obtain ⟨g,hg,ng⟩:=mJ (l:=t.place.toList) (m:=t.mask) (by simpa using hs)
 have hi:bits h % (t.mask+1)<=t.mask:=JB.mp (LQ _ (Ki _))
 obtain ⟨k,hk,ek⟩:=reach hm hi (oB h) hg
 obtain ⟨j,hj,he,jm⟩:=lU (hashAt:=hashAt) (h:=h) hd nh (fun j i e=>lL e) k (10*turns t.mask) (bits h % (t.mask+1)) (bits h) hi (by rw [ek]; exact sD hr hd ng) (by unfold turns; lia)
 exact ⟨j,hj,pX hr he,jm⟩
theorem dZ {α:Type} (xs:Array α) (p:Nat) (x:α) (hp:p<=xs.size):(insertAt xs p x).toList=xs.toList.take p++x::xs.toList.drop p:=by
 unfold insertAt
 rw [Array.toList_append,Le,LU,LU]
 simp [List.extract_eq_drop_take]
 exact Hi (by simp)
theorem iB {α:Type} (xs:List α) (p:Nat) (x:α):(xs.take p++x::xs.drop p).Perm (x::xs):=by
 have:=List.perm_middle (a:=x) (l₁:=xs.take p) (l₂:=xs.drop p)
 rwa [IS] at this
theorem qZ {xs:Array Nat} {j:Nat} (hr:b8 xs.toList) (h:j∉xs.toList):b8 (insertAt xs (below xs j) j).toList:=by
 obtain ⟨h0,h1,h2⟩:=below_at xs j hr
 rw [dZ _ _ _ h0]
 have lt:∀ x∈xs.toList.take (below xs j),x < j:=fun x hx=>by
  obtain ⟨i,hi⟩:=HC hx
  rw [List.getElem?_take] at hi
  split at hi
  ·rename_i hlt; exact h1 i x hlt (by simpa using hi)
  ·cases hi
 have gt:∀ x∈xs.toList.drop (below xs j),j < x:=fun x hx=>by
  obtain ⟨i,hi⟩:=HC hx
  rw [List.getElem?_drop] at hi
  have:=h2 (below xs j+i) x (Jo _ _) (by simpa using hi)
  have ne:x≠j:=fun e=>h (by rw [<- e]; exact GR hi)
  lia
 refine JF.mpr ⟨hr.sublist (K8 _ _),List.pairwise_cons.mpr ⟨gt,hr.sublist (List.drop_sublist _ _)⟩,fun a ha b hb=>?_⟩
 rcases GI.mp hb with rfl | hb
 ·exact lt a ha
 ·exact Nat.lt_trans (lt a ha) (gt b hb)
structure Tab (t:Ii) (n:Nat):Prop where
 msk:iH t.mask
 ris:b8 t.place.toList
 top:∀ j∈t.place.toList,j<=t.mask
 dum:t.dummies = #[]
 len:t.place.size=n
 few:t.place.size<=t.mask
theorem Tab.fresh (f mv:Nat) (led:Bool):Tab (.fresh f mv led) 0:=⟨.inl rfl,La,(fun j h=>nomatch h),rfl,rfl,GG _⟩
theorem Tab.put {t:Ii} {n j:Nat} (T:Tab t n) (hj:j∉t.place.toList) (hjm:j<=t.mask) (room:n+1<=t.mask):Tab (t.put j).1 (n+1)/\(t.put j).2=below t.place j/\(t.put j).1.plain=t.plain/\(t.put j).1.led=t.led/\(t.put j).1.mask=t.mask:=by
 have h0:=(below_at t.place j T.ris).1
 have hd:has t.dummies j=false:=by rw [T.dum]; rfl
 have el:=dZ t.place (below t.place j) j h0
 have ls:(insertAt t.place (below t.place j) j).size=n+1:=by
  rw [<- GS,el,GZ,Hw,Hq,Lq,GS,T.len]
  have:=T.len
  lia
 refine ⟨⟨T.msk,qZ T.ris hj,fun i hi=>?_,?_,ls,by show (insertAt t.place (below t.place j) j).size<=t.mask; lia⟩,rfl,rfl,rfl,rfl⟩
 ·have hi':i∈(insertAt t.place (below t.place j) j).toList:=hi
  rw [el] at hi'
  rcases GI.mp ((iB t.place.toList (below t.place j) j).mem_iff.mp hi') with rfl | hi'
  ·exact hjm
  ·exact T.top i hi'
 ·show (if has t.dummies j=true then _ else t.dummies) = #[]
  rw [hd]
  exact T.dum
theorem jH {m:Nat} {owner:Array (Option Nat)}:∀ (k fuel i x:Nat),(owner.getD (iter m k (i,x)).1 (some 0)).isNone=true->k+1<=fuel->∃ j,layClean.free m owner fuel i x=some j/\(owner.getD j (some 0)).isNone=true
 | k,0,i,x,_,hf=>by lia
 | k,fuel+1,i,x,he,hf=>by
  unfold layClean.free
  cases e:(GK (runEnd m i+1 - i)).find? fun k=>(owner.getD (i+k) (some 0)).isNone with
  | some a=>exact ⟨i+a,rfl,by have:=List.find?_some e; exact this⟩
  | none =>
   cases k with
   | zero =>
    have h0:(0:Nat)∈GK (runEnd m i+1 - i):=GT.mpr (by unfold runEnd; split<;>lia)
    have:=List.find?_eq_none.mp e 0 h0
    have he':(owner.getD i (some 0)).isNone=true:=he
    exact absurd he' (by simpa using this)
   | succ k=>exact jH k fuel _ _ he (by lia)
structure Own (m:Nat) (owner:Array (Option Nat)) (js:List Nat):Prop where
 size:owner.size=m+1
 nd:js.Nodup
 top:∀ j∈js,j<=m
 own:∀ j k:Nat,owner.getD j none=some k↔js[k]? = some j
theorem Own.start (m:Nat):Own m (Array.replicate (m+1) none) [] where
 size:=by simp
 nd:=Jp
 top:=fun j h=>nomatch h
 own:=fun j k=>by
  have e:(Array.replicate (m+1) (none:Option Nat)).getD j none=none:=by
   rw [Hv,Array.getElem?_replicate]
   split<;>rfl
  rw [e]
  simp
theorem Own.at_none {m:Nat} {owner:Array (Option Nat)} {js:List Nat} (O:Own m owner js) {j:Nat} (hj:j<=m) (h:j∉js):(owner.getD j (some 0)).isNone=true:=by
 have lt:j < owner.size:=by rw [O.size]; lia
 have e1:owner.getD j (some 0)=owner.getD j none:=by simp [lt]
 rw [e1]
 cases e:owner.getD j none with
 | none=>rfl
 | some k=>exact absurd (GR ((O.own j k).mp e)) h
theorem Own.none_at {m:Nat} {owner:Array (Option Nat)} {js:List Nat} (O:Own m owner js) {j:Nat} (h:(owner.getD j (some 0)).isNone=true):j<=m/\j∉js:=by
 have lt:j < owner.size:=by
  apply JH
  intro hn
  have:owner.getD j (some 0)=some 0:=by simp [hn]
  rw [this] at h
  cases h
 refine ⟨by rw [O.size] at lt; lia,fun hj=>?_⟩
 obtain ⟨k,hk⟩:=HC hj
 have:=(O.own j k).mpr hk
 have e1:owner.getD j (some 0)=owner.getD j none:=by simp [lt]
 rw [e1,this] at h
 cases h
theorem Own.step {m:Nat} {owner:Array (Option Nat)} {js:List Nat} (O:Own m owner js) {j:Nat} (hj:j<=m) (h:j∉js):Own m (owner.setIfInBounds j (some js.length)) (js++[j]):=by
 have lt:j < owner.size:=by rw [O.size]; lia
 refine ⟨by simp [O.size],Jd.mpr ⟨O.nd,by simp,fun a ha b hb=>by
  have:b=j:=by simpa using hb
  rw [this]; exact fun e=>h (e▸ha)⟩,fun i hi=>?_,fun i k=>?_⟩
 ·rcases HN.mp hi with hi | hi
  ·exact O.top i hi
  ·have:i=j:=by simpa using hi
   lia
 ·by_cases e:i=j
  ·subst e
   have:(owner.setIfInBounds i (some js.length)).getD i none=some js.length:=by simp [lt]
   rw [this]
   constructor
   ·intro h'
    have:js.length=k:=by simpa using h'
    rw [<- this]
    simp
   ·intro h'
    by_cases hk:k < js.length
    ·rw [IV hk] at h'
     exact absurd (GR h') h
    ·rw [Im (by lia)] at h'
     have:k - js.length=0:=by
      have:=(GD.mp h').1
      simp at this
      lia
     rw [show k=js.length by lia]
  ·have:(owner.setIfInBounds j (some js.length)).getD i none=owner.getD i none:=by
    simp only [Hv]
    rw [Array.getElem?_setIfInBounds_ne (Ip e)]
   rw [this,O.own]
   by_cases hk:k < js.length
   ·rw [IV hk]
   ·rw [Im (by lia),Ie (by lia)]
    constructor
    ·intro z; cases z
    ·intro z
     have:i=j:=by
      have l:=(GD.mp z).1
      simp at l
      rw [show k - js.length=0 by lia] at z
      simpa using z.symm
     exact absurd this e
theorem oi {m:Nat} (hm:iH m):∀ (hs:List Int) (owner:Array (Option Nat)) (js:List Nat),Own m owner js->js.length+hs.length<=m ->
  ∃ owner' js',hs.foldl (fun acc h=>(do
   let (owner,k) <- acc
   let j <- layClean.free m owner (turns m) (bits h % (m+1)) (bits h)
   pure (owner.setIfInBounds j (some k),k+1))) (some (owner,js.length))=some (owner',js'.length)/\Own m owner' js'/\js'.length=js.length+hs.length
 | [],owner,js,O,_=>⟨owner,js,rfl,O,rfl⟩
 | h::hs,owner,js,O,hl=>by
  simp only [Hq] at hl
  obtain ⟨g,hg,ng⟩:=mJ (l:=js) (m:=m) (by lia)
  have hi:bits h % (m+1)<=m:=JB.mp (LQ _ (Ki _))
  obtain ⟨k,hk,ek⟩:=reach hm hi (oB h) hg
  obtain ⟨j,hj,fj⟩:=jH (owner:=owner) k (turns m) (bits h % (m+1)) (bits h) (by rw [ek]; exact O.at_none hg ng) (by unfold turns; lia)
  obtain ⟨jm,nj⟩:=O.none_at fj
  obtain ⟨o',js',e,O',l'⟩:=oi hm hs _ _ (O.step jm nj) (by simp; lia)
  refine ⟨o',js',?_,O',by rw [l']; simp; lia⟩
  rw [List.foldl_cons,<- e]
  congr 1
  show (do let j <- layClean.free m owner (turns m) (bits h % (m+1)) (bits h); pure (owner.setIfInBounds j (some js.length),js.length+1))=_
  rw [hj]
  simp
theorem m9 {m:Nat} (hm:iH m) (hs:Array Int) (hl:hs.size<=m):∃ owner js,layClean m hs=some owner/\Own m owner js/\js.length=hs.size:=by
 obtain ⟨o',js',e,O',l'⟩:=oi hm hs.toList _ [] (Own.start m) (by simpa using hl)
 refine ⟨o',js',?_,O',by simpa using l'⟩
 unfold layClean
 rw [<- Array.foldl_toList]
 have e':=congrArg (Option.map (·.1)) e
 exact e'
noncomputable def b9 (m:Nat) (owner:Array (Option Nat)):List (Nat × Nat):=(GK (m+1)).filterMap fun j=>(owner.getD j none).map (j,·)
theorem eB {m:Nat} {owner:Array (Option Nat)} {js:List Nat} (O:Own m owner js) {j k:Nat}:(j,k)∈b9 m owner↔js[k]? = some j:=by
 unfold b9
 rw [KQ]
 constructor
 ·rintro ⟨i,hi,e⟩
  cases o:owner.getD i none with
  | none=>rw [o] at e; cases e
  | some q =>
   rw [o] at e
   have:i=j/\q=k:=by simpa using e
   rw [<- this.1,<- this.2]
   exact (O.own i q).mp o
 ·intro h
  have hj:=O.top j (GR h)
  exact ⟨j,GT.mpr (by lia),by rw [(O.own j k).mpr h]; rfl⟩
theorem gj {m:Nat} {owner:Array (Option Nat)}:((b9 m owner).map (·.1)).Sublist (GK (m+1)):=by
 unfold b9
 generalize GK (m+1)=l
 induction l with
 | nil=>exact .slnil
 | cons j l ih =>
  rw [Ib]
  cases o:owner.getD j none with
  | none=>exact ih.cons j
  | some k=>exact ih.cons₂ j
theorem t8 (n:Nat):(GK n).Pairwise (· < ·):=LA
theorem xi {l:List (Nat × Nat)} (h1:(l.map (·.1)).Nodup) (h2:∀ j j' k,(j,k)∈l->(j',k)∈l->j=j'):(l.map (·.2)).Nodup:=by
 induction l with
 | nil=>exact Jp
 | cons p l ih =>
  rw [G6,HF] at h1 |-
  refine ⟨fun z=>?_,ih h1.2 fun j j' k a b=>h2 j j' k (GJ _ a) (GJ _ b)⟩
  obtain ⟨q,hq,e⟩:=HV.mp z
  have:p.1=q.1:=h2 p.1 q.1 p.2 (GY ..) (by rw [<- e]; exact GJ _ hq)
  exact h1.1 (HV.mpr ⟨q,hq,this.symm⟩)
theorem xM {m:Nat} (hm:iH m) (f mv:Nat) (led plain:Bool) (hs:Array Int) (hl:hs.size<=m) :
  ∃ t order,SetTable.laid m f mv led plain hs=some (t,order)/\Tab t hs.size/\t.mask=m/\t.led=led/\t.plain=plain/\order.toList.Perm (GK hs.size):=by
 obtain ⟨owner,js,e,O,l⟩:=m9 hm hs hl
 have nd1:((b9 m owner).map (·.1)).Nodup:=(gj (m:=m) (owner:=owner)).nodup Lw
 have nd2:((b9 m owner).map (·.2)).Nodup:=xi nd1 fun j j' k a b=>by
  have x:=(eB O).mp a
  have y:=(eB O).mp b
  rw [x] at y
  exact Hr y
 have pm:((b9 m owner).map (·.2)).Perm (GK hs.size):=by
  refine (KO nd2 Lw).mpr fun k=>?_
  rw [HV,GT]
  constructor
  ·rintro ⟨⟨j,k'⟩,h,rfl⟩
   have:=(GD.mp ((eB O).mp h)).1
   show k' < hs.size
   lia
  ·intro h
   have g:js[k]? = some (js[k]'(by lia)):=Do (by lia)
   exact ⟨(_,k),(eB O).mpr g,rfl⟩
 have len:(b9 m owner).length=hs.size:=by have:=pm.length_eq; rwa [FS,IJ] at this
 refine ⟨{ mask:=m,place:=((b9 m owner).map (·.1)).toArray,dummies:=#[],finger:=f,led:=led,moves:=mv,plain:=plain },((b9 m owner).map (·.2)).toArray,?_,⟨hm,?_,?_,rfl,?_,?_⟩,rfl,rfl,rfl,by simpa using pm⟩
 ·unfold SetTable.laid
  rw [e]
  rfl
 ·show b8 (((b9 m owner).map (·.1)).toArray).toList
  rw [List.toList_toArray]
  exact (t8 (m+1)).sublist gj
 ·intro j hj
  have hj':j∈(((b9 m owner).map (·.1)).toArray).toList:=hj
  rw [List.toList_toArray] at hj'
  have:=GT.mp (gj.subset hj')
  show j<=m
  lia
 ·show (((b9 m owner).map (·.1)).toArray).size=hs.size
  simp [len]
 ·show (((b9 m owner).map (·.1)).toArray).size<=m
  simp [len]
  exact hl
structure Good (t:Ii) (n:Nat):Prop where
 tab:Tab t n
 lax:t.tooFull=false
theorem Good.room {t:Ii} {n:Nat} (G:Good t n):n*5 < t.mask*3:=by
 have h:=G.lax
 unfold tooFull fill at h
 rw [G.tab.dum,G.tab.len] at h
 simp at h
 lia
theorem Good.fresh (f mv:Nat) (led:Bool):Good (.fresh f mv led) 0:=⟨Tab.fresh f mv led,by unfold tooFull fill SetTable.fresh; simp⟩
theorem Tab.fits {t:Ii} {n:Nat} (T:Tab t n):(t.place.size != n || decide (t.fill > t.mask))=false:=by
 have:=T.few
 unfold fill
 rw [T.dum,T.len] at *
 simp
 lia
theorem Good.put {t:Ii} {n j:Nat} (G:Good t n) (h64:n < 64) (hj:j∉t.place.toList) (hjm:j<=t.mask) :
  Tab (t.put j).1 (n+1)/\(t.put j).2=below t.place j/\(t.put j).1.plain=t.plain/\(t.put j).1.led=t.led /\
   ((t.put j).1.tooFull=true->∀ hs:Array Int,hs.size=n+1->sizeAbove (grown (n+1))<=128/\∃ t' order,(t.put j).1.relaid hs (grown (n+1))=some (t',order)/\Good t' (n+1)/\t'.led=t.led/\t'.plain=t.plain/\order.toList.Perm (GK (n+1))):=by
 have r:=G.room
 have hm:=G.tab.msk
 obtain ⟨T,e2,e3,e4,e5⟩:=G.tab.put hj hjm (by rcases hm with e | e | e<;>lia)
 refine ⟨T,e2,e3,e4,fun hf hs hsz=>?_⟩
 have hf':t.mask*3<=(n+1)*5:=by
  unfold tooFull fill at hf
  rw [T.dum,T.len,e5] at hf
  simpa using hf
 have key:∀ m,iH m->sizeAbove (grown (n+1))=m+1->n+1<=m->(n+1)*5 < m*3->∃ t' order,(t.put j).1.relaid hs (grown (n+1))=some (t',order)/\Good t' (n+1)/\t'.led=t.led/\t'.plain=t.plain/\order.toList.Perm (GK (n+1)):=fun m mm em le lx=>by
  unfold relaid
  rw [em,Jt]
  obtain ⟨t',order,a1,a2,a3,a4,a5,a6⟩:=xM mm (t.put j).1.finger ((t.put j).1.movedTo m) (t.put j).1.led (t.put j).1.plain hs (by lia)
  rw [hsz] at a2 a6
  refine ⟨t',order,a1,⟨a2,?_⟩,a4.trans e4,a5.trans e3,a6⟩
  unfold tooFull fill
  rw [a2.dum,a2.len,a3]
  simp
  lia
 rcases hm with e | e | e
 ·have en:n=4:=by lia
  subst en
  exact ⟨by decide,key 31 (.inr (.inl rfl)) (by decide) (by decide) (by decide)⟩
 ·have en:n=18:=by lia
  subst en
  exact ⟨by decide,key 127 (.inr (.inr rfl)) (by decide) (by decide) (by decide)⟩
 ·lia
end Sx
namespace Sx
open PySem PyProof.Rows
noncomputable def bY (p:Int × Int):Int:=reduceHash (Builtin.Tuple.tupleHashOf [hashInt p.1,hashInt p.2])
noncomputable def AI:List (Int × Int):=(GK 44).flatMap fun (b:Nat)=>(GK b).map fun (a:Nat)=>((a:Int),(b:Int))
noncomputable def oC (m:Int):List (Int × Int)->Nat->Bool
 | [],_=>true
 | p::l,B=>!Nat.testBit B (bY p % m).toNat&&oC m l (B ||| 1 <<< (bY p % m).toNat)
theorem xf:oC 8247 AI 0=true:=by decide +kernel
theorem oy {m:Int}:∀ {l:List (Int × Int)} {B:Nat},oC m l B=true->∀ p∈l,Nat.testBit B (bY p % m).toNat=false
 | q::l,B,h,p,hp=>by
  unfold oC at h
  rw [GN,Bool.not_eq_true'] at h
  rcases GI.mp hp with rfl | hp
  ·exact h.1
  ·have:=oy h.2 p hp
   rw [Nat.testBit_or,JG] at this
   exact this.1
theorem ye {m:Int} {l:List (Int × Int)}:∀ {B:Nat},oC m l B=true->∀ p∈l,∀ q∈l,bY p=bY q->p=q:=by
 induction l with
 | nil=>intro B _ p hp; cases hp
 | cons r l ih =>
  intro B h p hp q hq e
  have h':(!Nat.testBit B (bY r % m).toNat&&oC m l (B ||| 1 <<< (bY r % m).toNat))=true:=h
  rw [GN] at h'
  have bit:∀ s∈l,bY s≠bY r:=fun s hs z=>by
   have:=oy h'.2 s hs
   rw [Nat.testBit_or,JG,z] at this
   have t1:=this.2
   rw [Nat.one_shiftLeft,Nat.testBit_two_pow_self] at t1
   cases t1
  rcases GI.mp hp with e1 | hp'
  ·rcases GI.mp hq with e2 | hq'
   ·rw [e1,e2]
   ·rw [e1] at e; exact absurd e.symm (bit q hq')
  ·rcases GI.mp hq with e2 | hq'
   ·rw [e2] at e; exact absurd e (bit p hp')
   ·exact ih h'.2 p hp' q hq' e
def Lo (p:Int × Int):Prop:=0<=p.1/\p.1 < p.2/\p.2 < 44
theorem Lo.mem {p:Int × Int} (h:Lo p):p∈AI:=by
 obtain ⟨h1,h2,h3⟩:=h
 unfold AI
 rw [List.mem_flatMap]
 refine ⟨p.2.toNat,GT.mpr (by lia),HV.mpr ⟨p.1.toNat,GT.mpr (by lia),?_⟩⟩
 refine LP ?_ ?_
 ·show ((p.1.toNat:Nat):Int)=p.1; lia
 ·show ((p.2.toNat:Nat):Int)=p.2; lia
theorem BD {p q:Int × Int} (hp:Lo p) (hq:Lo q) (e:bY p=bY q):p=q:=ye xf p hp.mem q hq.mem e
section
variable {prog:GQ} {w:Hh} {A:Hj} {E:Da->Fk->Prop} {s:Fk}
noncomputable abbrev eO (prog:GQ) (w:Hh) (h:HY) (T:GC) (p:Int × Int):Prop:=IsTupleKey (intKind prog w) h [p.1,p.2] T
theorem xV {h:HY} {T:GC} {p:Int × Int} {o:Obj} {n:Nat} {t u:Tok} (ho:h.get? T=some o) (hc:o.cls = .type "tuple") (hd:o.data = .seq #[.int p.1 t,.int p.2 u] n):eO prog w h T p :=
 ⟨o,_,n,ho,hc,hd,.cons (intKind_is _ _ _ _) (.cons (intKind_is _ _ _ _) .nil)⟩
theorem kL {p:Int × Int} {items:List Da} (h:ItemsAre (intKind prog w) [p.1,p.2] items):∃ t u,items=[.int p.1 t,.int p.2 u]:=by
 cases h with
 | cons h1 h =>
  cases h with
  | cons h2 h =>
   cases h
   obtain ⟨t,rfl⟩:=K3 h1
   obtain ⟨u,rfl⟩:=K3 h2
   exact ⟨t,u,rfl⟩
theorem nB {T:GC} {p:Int × Int} {Q:Bool->Fk->Prop} (hk:eO prog w s.heap T p) (q:Q true s):wpAny (model prog w) A (hashByValue 8 (.ref T)) Q E s:=by
 have hT:=hk.typeIs
 obtain ⟨o,items,n,ho,hc,hd,hi⟩:=hk
 obtain ⟨t,u,ei⟩:=kL hi
 have ea:items = #[.int p.1 t,.int p.2 u]:=by
  cases items
  simp only at ei
  rw [ei]
 subst ea
 unfold hashByValue
 refine AC (JV hT F.slot_tuple_hash.lookup ?_)
 simp only
 refine AC ?_
 unfold seqItems?
 refine AC (wpAny_load ho ?_)
 rw [hd]
 refine Gc ?_
 simp only [Kn,<- Ju,KA,LV,hashByValue,pure_bind]
 simp only [Kv,Hg,if_false,pure_bind]
 exact Gc q
structure dI (h:HY) (a:GC) (led:Bool) (es:Array (Int × Da)):Prop where
 at_:∃ o ep t,h.get? a=some o/\o.ExactSet/\o.data = .set es ep t/\Good t es.size/\t.led=led/\t.plain=true
theorem fits_of {t:Ii} {n:Nat} (T:Tab t n):t.fits n=true:=by
 have h:=T.fits
 unfold SetTable.fits
 rw [JG] at h
 rw [GN]
 refine ⟨by simpa using h.1,?_⟩
 have:=h.2
 simp at this
 simp
 lia
theorem nC {a:GC} {o:Obj} {es:Array (Int × Da)} {ep:Nat} {t:Ii} {x:Da} {h:Int} {Q:SetFound->Fk->Prop} (ho:s.heap.get? a=some o) (hd:o.data = .set es ep t) (G:Good t es.size)
  (nh:∀ e∈es.toList,e.1≠h) (q:∀ j,j∉t.place.toList->j<=t.mask->Q (.free j false) s):wpAny (model prog w) A (setSearch a x h true) Q E s:=by
 have T:=G.tab
 obtain ⟨j,hj,nj,jm⟩:=ql (t:=t) (hashAt:=fun i=>(es[i]?.map (·.1)).getD 0) (h:=h) T.msk T.ris T.dum T.few fun i hi=>by
  rw [T.len] at hi
  rw [Ha hi]
  exact nh _ (by rw [Kp]; exact Array.getElem_mem hi)
 unfold setSearch setSearchFrom
 refine AC (IK ho hd (fits_of T) ?_)
 have gw:t.gaveWay=false:=by
  unfold SetTable.gaveWay
  rcases T.msk with e | e | e<;>rw [e]<;>rfl
 simp only [gw,Hg,if_false,Lr]
 erw [hj]
 exact Gc (q j nj jm)
theorem jc {h:HY} {a:GC} {o:Obj} {es es':Array (Int × Da)} {ep:Nat} {t t':Ii} (ho:h.get? a=some o) (hd:o.data = .set es ep t):(h.update a (LR es' t')).get? a=some { o with data:=.set es' (ep+1) t' }:=by
 have:=Ht (LR es' t') ho (by rw [putSet_of es' t' hd]; rfl)
 rw [putSet_of es' t' hd] at this
 exact this
theorem iA {α:Type} {es:Array α} {order:Array Nat} (h:order.toList.Perm (GK es.size)):(order.filterMap (es[·]?)).toList.Perm es.toList:=by
 rw [Array.toList_filterMap]
 refine (h.filterMap _).trans ?_
 have:(GK es.size).filterMap (fun i=>es[i]?)=es.toList:=by
  have e:(fun i=>es[i]?)=fun i=>es.toList[i]?:=funext fun i=>Iw.symm
  rw [e,show es.size=es.toList.length from GS.symm]
  generalize es.toList=l
  induction l with
  | nil=>rfl
  | cons a l ih =>
   rw [Hq,J3,Ib]
   simp only [IH,List.filterMap_map]
   congr 1
 rw [this]
theorem vw {a:GC} {o:Obj} {es:Array (Int × Da)} {ep:Nat} {t t':Ii} {order:Array Nat} {wanted:Nat} {Q:Unit->Fk->Prop} (ho:s.heap.get? a=some o) (hd:o.data = .set es ep t) (T:Tab t es.size) (h64:es.size<=64)
  (hz:SetTable.sizeAbove wanted<=128) (hr:t.relaid (es.map (·.1)) wanted=some (t',order)) (pm:order.toList.Perm (GK es.size))
  (q:Q () { s with heap:=s.heap.update a (LR (order.filterMap (es[·]?)) t') }):wpAny (model prog w) A (setRelay a wanted) Q E s:=by
 have fp:=iA pm
 have fs:(order.filterMap (es[·]?)).size=es.size:=by rw [<- GS,fp.length_eq,GS]
 unfold setRelay
 refine AC (IK ho hd (fits_of T) ?_)
 simp only
 rw [if_neg (by rw [HU]; lia),hr]
 refine AC ?_
 show wpAny (model prog w) A (if ((order.filterMap (es[·]?)).size != es.size)=true then _ else _) _ E s
 rw [if_neg (by rw [fs]; simp)]
 refine Gc ?_
 exact wpAny_storeSet_of ho hd q (by rw [fs,HU]; lia)
theorem uk {a x:GC} {p:Int × Int} {led:Bool} {es:Array (Int × Da)} {Q:Bool->Fk->Prop} (hu:A.units < cLine) (hS:dI s.heap a led es) (hk:eO prog w s.heap x p) (nh:∀ e∈es.toList,e.1≠bY p) (h64:es.size < 64)
  (q:∀ h' es',Jv a s.heap h'->dI h' a led es'->es'.toList.Perm ((bY p,.ref x)::es.toList)->Q true { s with heap:=h',toks:=s.toks+3 }):wpAny (model prog w) A (setAdd a (.ref x)) Q E s:=by
 obtain ⟨o,ep,t,ho,hex,hd,G,el,ep1⟩:=hS.at_
 unfold setAdd
 refine HA (AC (wpAny_pyHash_tuple hu hk ?_))
 show wpAny (model prog w) A (setAddHashed a (.ref x) (bY p)) Q E { s with toks:=s.toks+3 }
 unfold setAddHashed setAddHashedIn
 refine HA (AC (IK (s:={ s with toks:=s.toks+3 }) ho hd (fits_of G.tab) ?_))
 have bs:byScan (.ref x) es=false:=rfl
 simp only [bs,Hg,if_false]
 refine AC (nC (s:={ s with toks:=s.toks+3 }) ho hd G nh fun j nj jm=>?_)
 simp only
 refine AC (IK (s:={ s with toks:=s.toks+3 }) ho hd (fits_of G.tab) ?_)
 obtain ⟨T1,e2,e3,e4,rel⟩:=G.put h64 nj jm
 obtain ⟨t1,p1,e1⟩:∃ t1 p1,t.put j=(t1,p1):=⟨_,_,rfl⟩
 rw [e1] at T1 e2 e3 e4 rel
 simp only at T1 e2 e3 e4 rel
 simp only [e1]
 have pl:t1.plain=true:=by rw [e3,ep1]
 have h0:=(below_at t.place j G.tab.ris).1
 have hp1:p1<=es.size:=by rw [e2,<- G.tab.len]; exact h0
 have el1:=dZ es p1 (bY p,GL x) hp1
 have pm1:(HS es p1 (bY p,.ref x)).toList.Perm ((bY p,.ref x)::es.toList):=by rw [el1]; exact iB _ _ _
 have sz1:(HS es p1 (bY p,.ref x)).size=es.size+1:=by rw [<- GS,pm1.length_eq,Hq,GS]
 simp only [pl,if_true]
 refine AC (nB (s:={ s with toks:=s.toks+3 }) hk ?_)
 simp only [if_true]
 refine AC (wpAny_storeSet_of (s:={ s with toks:=s.toks+3 }) ho hd ?_ (by rw [sz1,HU]; lia))
 have g1:=jc (es':=HS es p1 (bY p,.ref x)) (t':=t1) ho hd
 have sb1:=L6 s.heap a (LR (HS es p1 (bY p,.ref x)) t1)
 cases hf:t1.tooFull with
 | false =>
  simp only [LW,HB,Hg,if_false]
  refine Gc (q _ _ sb1 ⟨_,ep+1,t1,g1,hex,rfl,⟨by rw [sz1]; exact T1,hf⟩,by rw [e4,el],pl⟩ pm1)
 | true =>
  simp only [LW,HB,if_true]
  obtain ⟨z1,t',order,r1,G2,l2,pl2,po⟩:=rel hf ((HS es p1 (bY p,.ref x)).map (·.1)) (by rw [Array.size_map,sz1])
  have sz2:((HS es p1 (bY p,.ref x))).size=es.size+1:=sz1
  refine AC (vw (s:={ s with heap:=s.heap.update a (LR (HS es p1 (bY p,.ref x)) t1),toks:=s.toks+3 }) g1 rfl (by rw [sz1]; exact T1) (by lia) z1 r1 (by rw [sz1]; exact po) (Gc ?_))
  have g2:=jc (es':=order.filterMap ((HS es p1 (bY p,.ref x))[·]?)) (t':=t') g1 rfl
  have fp:=iA (es:=HS es p1 (bY p,.ref x)) (order:=order) (by rw [sz1]; exact po)
  have sz3:(order.filterMap ((HS es p1 (bY p,.ref x))[·]?)).size=es.size+1:=by rw [<- GS,fp.length_eq,GS,sz1]
  exact q _ _ (sb1.trans (L6 _ a _)) ⟨_,ep+1+1,t',g2,hex,rfl,by rw [sz3]; exact G2,by rw [l2,el],by rw [pl2,ep1]⟩ (fp.trans pm1)
end
end Sx
namespace Sx
open PySem PyProof.Rows
theorem slot_next:Slot "set_iterator" "__next__" "set_iterator.__next__" :=
 .of (owner:="set_iterator") (n:="__next__") (by rw [KG,JA]; kernel_rfl) (by decide +kernel) (by decide +kernel) (by decide +kernel)
  (by first | exact .inl (by decide +kernel) | exact .inr (by decide +kernel)) (by rw [isSubtype_type]; kernel_rfl)
theorem entry_next:entryFor table "set_iterator.__next__" = some Builtin.«set_iterator.__next__»:=entryFor_of_tree (by kernel_rfl)
theorem qX:entryFor table "set.__iter__" = some Builtin.«frozenset.__iter__» :=
 entryFor_alias (id':="frozenset.__iter__") (by kernel_rfl) rfl (by decide +kernel) (by kernel_rfl)
theorem mF:Manifest.owners.lookup (String.ofList ['r','o','t','a','r','e','t','i','_','t','e','s'].reverse)=some Manifest.sig_set_iterator:=by kernel_rfl
theorem args_next (a:Da):argsOk "set_iterator.__next__" ⟨[a],[]⟩:=by
 unfold argsOk; rw [signature?_of (id:="set_iterator.__next__") (n:=['_','_','t','x','e','n','_','_']) (o:=['r','o','t','a','r','e','t','i','_','t','e','s']) (by kernel_rfl) mF]; kernel_rfl
theorem oj {α:Type} (next:Nat->Nat):∀ (fuel k:Nat) (left:List α) (out:Array α),left.length=fuel->(Mo next fuel k left out).toList.Perm (out.toList++left)
 | 0,k,left,out,h=>by
  have:left=[]:=Jn h
  subst this
  unfold Mo
  rw [Iv]
 | fuel+1,k,left,out,h=>by
  have lt:next k % left.length < left.length:=LQ _ (by lia)
  unfold Mo
  rw [Do lt]
  simp only
  refine (oj next fuel (k+1) _ _ (by rw [List.length_eraseIdx_of_lt lt]; lia)).trans ?_
  rw [Le,Iq]
  refine List.Perm.append_left _ ?_
  rw [List.eraseIdx_eq_take_drop_succ]
  have e:=List.perm_middle (a:=left[next k % left.length]) (l₁:=left.take (next k % left.length)) (l₂:=left.drop (next k % left.length+1))
  rw [List.getElem_cons_drop,IS] at e
  exact e.symm
theorem so {α:Type} (next:Nat->Nat) (xs:Array α):(pickOrder next xs).toList.Perm xs.toList:=by
 have:=oj next xs.size 0 xs.toList #[] (by simp)
 exact this
noncomputable def bp (w:Hh):Bool:=w.params.followText "set-order"
noncomputable def wk (w:Hh) (a:GC) (ep:Nat) (es:Array (Int × Da)):Array (Int × Da):=if bp w=true then pickOrder (w.params.setOrder a ep) es else es
theorem nL (w:Hh) (a:GC) (ep:Nat) (es:Array (Int × Da)):(wk w a ep es).toList.Perm es.toList:=by
 unfold wk
 split
 ·exact so _ _
 ·exact .refl _
theorem fz (w:Hh) (a:GC) (ep:Nat) (es:Array (Int × Da)):(wk w a ep es).size=es.size:=by
 rw [<- GS,(nL w a ep es).length_eq,GS]
noncomputable abbrev xk (h:HY) (I a:GC) (slot i n ep:Nat):Prop:=h.get? I=some { cls:=.type "set_iterator",dict:=none,data:=.fields #[rawInt slot,rawInt i,.ref a,rawInt n,rawInt ep],slots:=#[] }
theorem jo (xs:Array Nat) (hr:b8 xs.toList):Jq xs 0=0:=by
 obtain ⟨h0,h1,h2⟩:=below_at xs 0 hr
 rcases Nat.eq_zero_or_pos (Jq xs 0) with z | z
 ·exact z
 ·have:=h1 0 xs[0] z (Ha (by lia))
  lia
theorem qB {xs:Array Nat} {i j:Nat} (hr:b8 xs.toList) (h:xs[i]? = some j):Jq xs (j+1)=i+1:=by
 obtain ⟨h0,h1,h2⟩:=below_at xs (j+1) hr
 obtain ⟨li,ei⟩:=G8.mp h
 have mono:∀ a b x y,a < b->xs[a]? = some x->xs[b]? = some y->x < y:=fun a b x y hab ha hb=>by
  obtain ⟨la,ea⟩:=G8.mp ha
  obtain ⟨lb,eb⟩:=G8.mp hb
  have:=Hd.mp hr a b (by simpa using la) (by simpa using lb) hab
  simp only [Ks] at this
  omega
 rcases Nat.lt_trichotomy (Jq xs (j+1)) (i+1) with z | z | z
 ·have:=h2 i j (by lia) h; lia
 ·exact z
 ·have l:i+1 < xs.size:=by lia
  have g:=Ha l
  have a1:=h1 (i+1) _ z g
  have a2:=mono i (i+1) j _ (by lia) h g
  lia
section
variable {prog:GQ} {w:Hh} {A:Hj} {E:Da->Fk->Prop} {s:Fk}
theorem fR {Q:Bool->Fk->Prop} (q:Q (bp w) s):wpAny (model prog w) A setsByText Q E s:=by
 unfold setsByText
 exact AC (Lx (Gc q))
theorem u0 {a:GC} {o:Obj} {es:Array (Int × Da)} {ep:Nat} {t:Ii} {Q:Da->Fk->Prop} (ho:s.heap.get? a=some o) (hex:o.ExactSet) (hd:o.data = .set es ep t) (T:Tab t es.size) (pl:t.plain=true)
  (q:Q (.ref s.heap.objs.size) { s with heap:=s.heap.push { cls:=.type "set_iterator",dict:=none,data:=.fields #[rawInt 0,rawInt 0,.ref a,rawInt es.size,rawInt ep],slots:=#[] } }):wpAny (model prog w) A (pyIter (.ref a)) Q E s:=by
 have hT:s.TypeIs (.ref a) "set":=⟨o,ho,hex.1⟩
 refine wpAny_pyIter_slot hT F.slot_set_iter (IF F.slot_set_iter hT qX ?_ (F.args_set_iter_1 _))
 unfold Builtin.«frozenset.__iter__» Builtin.Frozenset.slot0 slotArgs
 simp only [Ly,Kv,Hg,↓reduceIte,bind_assoc,JU,bne_self_eq_false]
 unfold Builtin.Frozenset.addrOf Builtin.Frozenset.sizeOf
 refine AC (Gc ?_)
 try dsimp only
 refine AC (Gc ?_)
 refine AC (AC (KH ho hd (fits_of T) (Gc ?_)))
 refine AC ?_
 unfold setDrawn
 refine AC (IK ho hd (fits_of T) ?_)
 refine AC (fR (Gc ?_))
 have nd:¬ ((!bp w&&(!t.plain&&decide (es.size > 1)))=true):=by rw [pl]; simp
 refine JX (fun h=>absurd h nd) (fun _=>?_)
 refine AC (Gc ?_)
 refine AC (wpAny_setEpoch_of ho hd (fits_of T) ?_)
 unfold newFields
 refine AC (Ja ?_)
 refine Gc ⟨_,rfl,"set_iterator",_,⟨_,GO _ rfl,rfl⟩,slot_next.lookup,q⟩
structure g9 (w:Hh) (h:HY) (I a:GC) (es:Array (Int × Da)) (ep:Nat) (t:Ii) (i:Nat):Prop where
 it:∃ slot,xk h I a slot i es.size ep/\(bp w=false->Jq t.place slot=i)
 st:∃ o,h.get? a=some o/\o.data = .set es ep t
theorem ox {a:GC} {o:Obj} {es:Array (Int × Da)} {ep slot i:Nat} {t:Ii} {Q:Option (Da × Nat)->Fk->Prop} (ho:s.heap.get? a=some o) (hd:o.data = .set es ep t) (T:Tab t es.size) (pl:t.plain=true) (ld:t.led = !bp w)
  (hs:bp w=false->Jq t.place slot=i)
  (q0:es.size<=i->Q none s) (q1:∀ e nx,(wk w a ep es)[i]? = some e->(bp w=false->Jq t.place nx=i+1)->Q (some (e.2,nx)) s):wpAny (model prog w) A (setNext a slot i ep) Q E s:=by
 unfold setNext
 refine AC (IK ho hd (fits_of T) ?_)
 refine AC (fR ?_)
 cases hb:bp w with
 | true =>
  simp only [if_true,bne_self_eq_false,Hg,if_false]
  refine AC ?_
  unfold setWalk
  refine AC (IK ho hd (fits_of T) ?_)
  refine AC (fR ?_)
  simp only [hb,if_true]
  refine AC (Lx (Gc (Gc ?_)))
  have ew:wk w a ep es=pickOrder (w.params.setOrder a ep) es:=by unfold wk; rw [if_pos hb]
  show Q (((pickOrder (w.params.setOrder a ep) es)[i]?).map fun e=>(e.2,slot)) s
  rw [<- ew]
  by_cases hi:i < es.size
  ·rw [Ha (show i < (wk w a ep es).size by rw [fz]; exact hi)]
   exact q1 _ slot (Ha (show i < (wk w a ep es).size by rw [fz]; exact hi)) fun z=>by rw [hb] at z; cases z
  ·rw [Io (by rw [fz]; lia)]
   exact q0 (by lia)
 | false =>
  simp only [Hg,if_false]
  have nd:¬ ((!t.plain&&decide (es.size > 1))=true):=by rw [pl]; simp
  refine JX (fun h=>absurd h nd) (fun _=>?_)
  refine AC ?_
  show wpAny (model prog w) A (if (!t.led&&!es.isEmpty)=true then _ else _) _ E s
  rw [if_neg (by rw [ld,hb]; simp)]
  refine Gc (Gc ?_)
  rw [hs hb]
  have ew:wk w a ep es=es:=by unfold wk; rw [hb,if_neg (by decide)]
  by_cases hi:i < es.size
  ·have g1:=Ha hi
   have g2:=Ha (show i < t.place.size by rw [T.len]; exact hi)
   rw [g1,g2]
   exact q1 _ _ (by rw [ew]; exact g1) fun _=>qB T.ris g2
  ·rw [Io (show es.size<=i by lia)]
   exact q0 (by lia)
theorem sG {I a:GC} {es:Array (Int × Da)} {ep i:Nat} {t:Ii} {Q:Da->Fk->Prop} (hne:a≠I) (S:g9 w s.heap I a es ep t i) (T:Tab t es.size) (pl:t.plain=true) (ld:t.led = !bp w) (hi:i < es.size)
  (q:∀ e h',(wk w a ep es)[i]? = some e->g9 w h' I a es ep t (i+1)->Jv I s.heap h'->Q e.2 { s with heap:=h' }) :
  wpAny (model prog w) A (Builtin.«set_iterator.__next__» ⟨[.ref I],[]⟩) (fun fin s'=>∃ v,fin = .done (.ret v)/\Q v s') E s:=by
 obtain ⟨⟨slot,hit,hs⟩,o,ho,hd⟩:=S
 unfold Builtin.«set_iterator.__next__» slotArgs
 simp only [Ly,Kv,Hg,↓reduceIte,JU,bne_self_eq_false,pure_bind]
 refine AC (wpAny_fieldsOf hit rfl ?_)
 show wpAny (model prog w) A (setEntries a >>= _) _ E s
 refine AC (KH ho hd (fits_of T) ?_)
 rw [if_neg (by simp)]
 show wpAny (model prog w) A (setNext a ((slot:Int)).toNat ((i:Int)).toNat ((ep:Int)).toNat >>= _) _ E s
 rw [II,II,II]
 refine AC (ox ho hd T pl ld hs (fun z=>absurd z (by lia)) fun e nx he hn=>?_)
 show wpAny (model prog w) A (setField (.ref I) 0 (rawInt nx) >>= _) _ E s
 refine AC (JW hit (by simp) fun h1 hit1 sb1=>?_)
 show wpAny (model prog w) A (setField (.ref I) 1 (rawInt ((i:Int)+1)) >>= _) _ E _
 refine AC (JW hit1 (by simp) fun h2 hit2 sb2=>?_)
 have sb:=sb1.trans sb2
 refine Gc ⟨_,rfl,q e h2 he ⟨⟨nx,?_,hn⟩,o,(sb.2 a hne).trans ho,hd⟩ sb⟩
 show h2.get? I=_
 rw [hit2]
 rfl
theorem vi {I a:GC} {es:Array (Int × Da)} {ep i:Nat} {t:Ii} {Q:PySem.Fin->Fk->Prop} (hh:A.handled=none) (S:g9 w s.heap I a es ep t i) (T:Tab t es.size) (pl:t.plain=true) (ld:t.led = !bp w) (hi:es.size<=i)
  (hE:∀ h' e,Heap.ExtBut I s.heap h'->(∃ o,h'.get? e=some o/\o.cls = .type "StopIteration")->E (.ref e) { s with heap:=h' }) :
  wpAny (model prog w) A (Builtin.«set_iterator.__next__» ⟨[.ref I],[]⟩) Q E s:=by
 obtain ⟨⟨slot,hit,hs⟩,o,ho,hd⟩:=S
 unfold Builtin.«set_iterator.__next__» slotArgs
 simp only [Ly,Kv,Hg,↓reduceIte,JU,bne_self_eq_false,pure_bind]
 refine AC (wpAny_fieldsOf hit rfl ?_)
 show wpAny (model prog w) A (setEntries a >>= _) _ E s
 refine AC (KH ho hd (fits_of T) ?_)
 rw [if_neg (by simp)]
 show wpAny (model prog w) A (setNext a ((slot:Int)).toNat ((i:Int)).toNat ((ep:Int)).toNat >>= _) _ E s
 rw [II,II,II]
 refine AC (ox ho hd T pl ld hs (fun _=>?_) fun e nx he hn=>?_)
 ·show wpAny (model prog w) A (setField (.ref I) 2 .none >>= _) _ E s
  refine AC (JW hit (by simp) fun h1 hit1 sb1=>?_)
  show wpAny _ _ (newExc (.type "StopIteration") [] >>= _) _ _ _
  refine AC ?_
  simp only [newExc,newTuple]
  refine AC (Ja ?_ (by size_fits))
  refine AC (m:=firstArgMember _ _) (wpAny_of_eq (a:=Hy) (by first | rfl | (simp only [firstArgMember]; rfl)) ?_)
  refine Ja ?_ (by size_fits)
  simp only [raiseNew]
  refine AC (wpAny_handled ?_)
  rw [hh]
  refine AC (Gc (wpAny_throw ?_))
  exact hE _ _ (fun b o hb e=>FM _ (FM _ (sb1.extBut b o hb e))) ⟨_,GO _ rfl,rfl⟩
 ·have:=(G8.mp he).1
  rw [fz] at this
  lia
theorem slot_self:Slot "set_iterator" "__iter__" "set_iterator.__iter__" :=
 .of (owner:="set_iterator") (n:="__iter__") (by rw [KG,JA]; kernel_rfl) (by decide +kernel) (by decide +kernel) (by decide +kernel)
  (by first | exact .inl (by decide +kernel) | exact .inr (by decide +kernel)) (by rw [isSubtype_type]; kernel_rfl)
theorem entry_self:entryFor table "set_iterator.__iter__" = some Builtin.«dict_keyiterator.__iter__» :=
 entryFor_alias (id':="dict_keyiterator.__iter__") (by kernel_rfl) rfl (by decide +kernel) (by kernel_rfl)
theorem args_self (a:Da):argsOk "set_iterator.__iter__" ⟨[a],[]⟩:=by
 unfold argsOk; rw [signature?_of (id:="set_iterator.__iter__") (n:=['_','_','r','e','t','i','_','_']) (o:=['r','o','t','a','r','e','t','i','_','t','e','s']) (by kernel_rfl) mF]; kernel_rfl
theorem sN (hh:A.handled=none) (I a:GC) (hne:a≠I) (es:Array (Int × Da)) (ep:Nat) (t:Ii) (T:Tab t es.size) (pl:t.plain=true) (ld:t.led = !bp w) :
  Walks prog w A I [I,a] [I] es.size (fun i v=>∃ e,(wk w a ep es)[i]? = some e/\v=e.2) (fun i h=>g9 w h I a es ep t i) where
 sub:=fun b hb=>by simp at hb; simp [hb]
 frame:=fun i h h' st hk=>by
  obtain ⟨⟨slot,hit,hs⟩,o,ho,hd⟩:=st
  exact ⟨⟨slot,hk I (by simp) _ hit,hs⟩,o,hk a (by simp) _ ho,hd⟩
 item:=fun i s Q E hi st hQ=>by
  obtain ⟨slot,hit,_⟩:=st.it
  have hT:s.TypeIs (.ref I) "set_iterator":=⟨_,hit,rfl⟩
  unfold pyNext
  refine AC (JT (Jm (name:=tz "__next__") hT slot_next (IF slot_next hT entry_next
   (sG hne st T pl ld hi fun e h' he S' sb=>Gc ?_) (args_next _))))
  exact hQ e.2 h' s.toks ⟨e,he,rfl⟩ S' fun b o hb x=>sb.extBut b o (fun z=>hb (by simp [z])) x
 done:=fun s Q E st hQ=>by
  obtain ⟨slot,hit,_⟩:=st.it
  have hT:s.TypeIs (.ref I) "set_iterator":=⟨_,hit,rfl⟩
  unfold pyNext
  refine AC (JT (Jm (name:=tz "__next__") hT slot_next (IF slot_next hT entry_next
   (vi (A:=A.in1) hh st T pl ld (GF _) fun h' e k he=>?_) (args_next _))))
  obtain ⟨o,ho,hc⟩:=he
  exact AC (Lv (T:="StopIteration") (b:=true) ⟨o,ho,hc⟩ isSubtype_stop (Gc (hQ _ s.toks fun b o hb x=>k b o (fun z=>hb (by simp [z])) x)))
 self:=fun i s Q E st hQ=>by
  obtain ⟨slot,hit,_⟩:=st.it
  have hT:s.TypeIs (.ref I) "set_iterator":=⟨_,hit,rfl⟩
  refine wpAny_pyIter_slot hT slot_self (IF slot_self hT entry_self ?_ (args_self _))
  show wpAny _ _ (ret (.ref I)) _ _ s
  exact Gc ⟨_,rfl,"set_iterator",_,hT,slot_next.lookup,hQ⟩
end
end Sx
namespace Sx
open PySem PySem.SetTable PyProof.Rows
noncomputable def Gk (m:Nat) (p:Probe):Probe :=
 if p.more > 0 then { p with j:=p.j+1,more:=p.more - 1 } else begin_ m (leap m p.i p.perturb).1 (leap m p.i p.perturb).2
noncomputable def eI (m:Nat):Nat->Probe->Probe
 | 0,p=>p
 | k+1,p=>eI m k (Gk m p)
end Sx
namespace Sx
open PySem PySem.SetTable PyProof.Rows
section
variable {prog:GQ} {w:Hh} {A:Hj} {E:Da->Fk->Prop} {s:Fk}
end
end Sx
namespace Sx
open PySem PyProof.Rows
noncomputable def el (e:GC × (Int × Int)):Int × Da:=(bY e.2,.ref e.1)
theorem jY {prog:GQ} {w:Hh} {h h':HY} {T:GC} {p:Int × Int} (k:eO prog w h T p) (e:∀ o,h.get? T=some o->h'.get? T=some o):eO prog w h' T p:=by
 obtain ⟨o,items,n,ho,r⟩:=k
 exact ⟨o,items,n,e o ho,r⟩
section
variable {prog:GQ} {w:Hh} {A:Hj} {R:Mj->Fk->Prop} {I:GC} {fp wr:List GC} {G:Array Lh->Array Lh->Prop} {n:Nat} {P:Nat->Da->Prop} {St:Nat->Fk->Prop}
theorem dI.at' {h h':HY} {a:GC} {led:Bool} {es:Array (Int × Da)} (S:dI h a led es) (e:∀ o,h.get? a=some o->h'.get? a=some o):dI h' a led es:=by
 obtain ⟨o,ep,t,ho,r⟩:=S.at_
 exact ⟨o,ep,t,e o ho,r⟩
theorem mQ (W:WalksS prog w A.in1 I fp wr G n P St) (S:GC) (hSf:S∉fp) (hu:A.in1.units < cLine) (led:Bool) (Tp:List (GC × (Int × Int))) (hn:Tp.length=n) (hval:∀ i v,P i v->∃ e,Tp[i]? = some e/\v = .ref e.1)
  (hT:∀ e∈Tp,e.1≠S/\e.1∉wr) (lo:∀ e∈Tp,Lo e.2) (nd:(Tp.map (·.2)).Nodup) (n64:n<=64) :
  ∀ (k i:Nat) (s:Fk) (es:Array (Int × Da)),n - i=k->i<=n->St i s->(∀ e∈Tp,eO prog w s.heap e.1 e.2)->dI s.heap S led es->es.toList.Perm ((Tp.take i).map el) ->
   (∀ s' es',Moved (S::wr) G s s'->dI s'.heap S led es'->es'.toList.Perm (Tp.map el)->R (.ok (.ret .none)) s') ->
   codeAny (model prog w) A (.builtin "set.update.loop" ⟨[.ref S,.ref I],[]⟩) R s:=by
 have hSw:S∉wr:=fun h=>hSf (W.sub _ h)
 have hsub:∀ b∈wr,b∈S::wr:=fun b hb=>GJ _ hb
 intro k
 induction k with
 | zero =>
  intro i s es hk hi hst hP hS hp hR
  have hin:i=n:=by lia
  subst hin
  refine HX F.entry_set_update_loop ?_
  rw [HK JY _]
  show wpAny _ A.in1 (pyNext (.ref I) >>= _) _ _ s
  refine AC (W.done s _ _ hst fun s' hm=>?_)
  show wpAny _ A.in1 (ret Hy) _ _ s'
  rw [Hi (by lia)] at hp
  exact Gc (hR s' es (hm.mono hsub) (hS.at' fun o e=>hm.heap S _ hSw e) hp)
 | succ k ih =>
  intro i s es hk hi hst hP hS hp hR
  have hlt:i < n:=by lia
  refine HX F.entry_set_update_loop ?_
  rw [HK JY _]
  show wpAny _ A.in1 (pyNext (.ref I) >>= _) _ _ s
  refine AC (W.item i s _ _ hlt hst fun v s' hv hst' hm=>?_)
  obtain ⟨e,he,rfl⟩:=hval i v hv
  have em:=GR he
  have hS':dI s'.heap S led es:=hS.at' fun o x=>hm.heap S _ hSw x
  have hP':∀ f∈Tp,eO prog w s'.heap f.1 f.2:=fun f hf=>jY (hP f hf) fun o x=>hm.heap _ _ (hT f hf).2 x
  have les:es.size=i:=by rw [<- GS,hp.length_eq,FS,Hw]; lia
  have nh:∀ x∈es.toList,x.1≠bY e.2:=fun x hx z=>by
   obtain ⟨f,hf,rfl⟩:=HV.mp (hp.mem_iff.mp hx)
   have z':bY f.2=bY e.2:=z
   have fm:=List.mem_of_mem_take hf
   have ef:=BD (lo f fm) (lo e em) z'
   obtain ⟨j,hj⟩:=HC hf
   have hji:j < i:=by
    have:=(GD.mp hj).1
    rw [Hw] at this
    lia
   rw [IZ hji] at hj
   have g1:(Tp.map (·.2))[j]? = some f.2:=by rw [Hk,hj]; rfl
   have g2:(Tp.map (·.2))[i]? = some e.2:=by rw [Hk,he]; rfl
   rw [ef] at g1
   have:=(Lc (by rw [FS]; lia) nd).mp (g1.trans g2.symm)
   lia
  show wpAny _ A.in1 (holding [GL e.1] (setAdd S (.ref e.1)) >>= _) _ _ s'
  refine AC (HA (uk hu hS' (hP' e em) nh (by lia) fun h' es' sb S2 p2=>?_))
  refine Gc ⟨IT JY _,ih (i+1) _ es' (by lia) hlt (W.frame _ s' _ _ hst' (Jo _ _) fun b hb o x=>?_) (fun f hf=>jY (hP' f hf) fun o x=>(sb.2 _ (hT f hf).1).trans x) S2 ?_ fun s'' es'' hm'' S'' p''=>?_⟩
  ·rw [sb.2 b (fun h:b=S=>hSf (by rw [<- h]; exact hb))]; exact x
  ·rw [Hu,he,G7]
   exact (p2.trans (List.Perm.cons _ hp)).trans (List.perm_append_singleton (el e) _).symm
  ·refine hR s'' es'' (Moved.trans W.gtrans ((hm.mono hsub).then_heap (Jo _ _) fun b o hb x=>?_) hm'') S'' p''
   rw [sb.2 b (fun h:b=S=>hb (by rw [h]; exact GY))]; exact x
end
section
variable {prog:GQ} {w:Hh} {A:Hj} {E:Da->Fk->Prop} {s:Fk}
theorem xY (a:Da) {Q₁:Da->Fk->Prop} (h:Q₁ (.ref s.heap.objs.size) { s with heap:=s.heap.push { cls:=.type "set",dict:=none,data:=.set #[] 0 (.fresh 0 0 (!bp w)) } }) :
  codeAny (model prog w) A (.call (.builtin "set.__new__") ⟨[.type "set",a],[]⟩) (wants Q₁ E) s:=by
 refine codeAny_of_tree ?_
 show wpAny _ A.in1 (do checkBuiltinCall "set.__new__" ⟨[.type "set",a],[]⟩; again (.builtin "set.__new__" ⟨[.type "set",a],[]⟩)) _ _ s
 refine AC (wpAny_of_eq (F.newCall_set_1 a) (Gc ⟨IT F.plain_set_new _,HX F.entry_set_new ?_⟩))
 rw [HK F.plain_set_new _]
 unfold Builtin.«set.__new__» Builtin.Frozenset.newClass
 have hsub:=sub_set_self
 obtain ⟨hp,g,d,tk,os⟩:=s
 dsimp only
 wp_walk
 refine Lx (Gc ?_)
 dsimp only
 simp only [newObj]
 refine AC (wpAny_alloc (Gc ?_))
 exact Gc h
theorem jL {l:GC} {items:Array Da} {Tp:List (GC × (Int × Int))} {Q:Da->Fk->Prop} (hh:A.handled=none) (hu:A.units+10 < cLine) (hl:s.heap.IsList l items) (hi:items.toList=Tp.map fun e=>.ref e.1)
  (hP:∀ e∈Tp,eO prog w s.heap e.1 e.2) (lo:∀ e∈Tp,Lo e.2) (nd:(Tp.map (·.2)).Nodup) (n64:Tp.length<=64)
  (h:∀ (h':HY) (tk:Nat) (es:Array (Int × Da)),dI h' s.heap.objs.size (!bp w) es->es.toList.Perm (Tp.map el)->(∀ b o,b < s.heap.objs.size->s.heap.get? b=some o->h'.get? b=some o)->Q (.ref s.heap.objs.size) { s with heap:=h',toks:=tk }) :
  wpAny (model prog w) A (call (.type "set") [.ref l]) Q E s:=by
 obtain ⟨c,tl,hmro⟩:=JC.mro
 have hmade:=JC.made
 have hsub:=JC.sub
 refine LN (codeAny_of_tree ?_)
 show wpAny _ _ (callAny (.type "set") _) _ _ _
 refine Gc ⟨Code.quiet_builtin _ (by decide +kernel),HX F.entry_type_call ?_⟩
 rw [Around.under_plain (weight_type_call_type "set" [.ref l] []) rfl]
 have h1:=JC.notType
 have h2:=JC.canCreate
 have hct:=F.typeCall_set_1 (.ref l)
 repeat (any_goals (first | assumption | wp_step))
 refine Jy (xY (.ref l) (E:=E) (Q₁:=fun obj s₁=>obj = .ref s.heap.objs.size/\s₁={ s with heap:=s.heap.push { cls:=.type "set",dict:=none,data:=.set #[] 0 (.fresh 0 0 (!bp w)) } }) ⟨rfl,rfl⟩) fun r s₁ hr=>?_
 cases r with
 | error e=>exact hr
 | ok fl =>
  cases fl with
  | ret obj =>
   obtain ⟨rfl,rfl⟩:=hr
   have hS:(s.heap.push { cls:=.type "set",dict:=none,data:=.set #[] 0 (.fresh 0 0 (!bp w)) }).get? s.heap.objs.size=some { cls:=.type "set",dict:=none,data:=.set #[] 0 (.fresh 0 0 (!bp w)) }:=GO _ rfl
   have hT:Shared.TypeIs { s with heap:=s.heap.push { cls:=.type "set",dict:=none,data:=.set #[] 0 (.fresh 0 0 (!bp w)) } } (.ref s.heap.objs.size) "set":=⟨_,hS,rfl⟩
   have hli:=JC.init.lookup
   have hbi:=JC.init.bind (.ref s.heap.objs.size)
   repeat (any_goals (first | assumption | wp_step))
   refine Jy (Kr (R:=wants (fun r s₂=>r = .none/\∃ h' tk es,s₂={ s with heap:=h',toks:=tk }/\dI h' s.heap.objs.size (!bp w) es/\es.toList.Perm (Tp.map el) /\
     (∀ b o,b < s.heap.objs.size->s.heap.get? b=some o->h'.get? b=some o)) E) JC.init.plain F.entry_set_init (check_set_init_1 hT ?_)) fun r₂ s₂ hr₂=>?_
   ·obtain ⟨ol,hol,hcl,nl,hdl⟩:=hl
    obtain ⟨ocls,odict,odata,oslots⟩:=ol
    simp only at hcl hdl
    subst hcl; subst hdl
    have hol':(s.heap.push { cls:=.type "set",dict:=none,data:=.set #[] 0 (.fresh 0 0 (!bp w)) }).get? l=some { cls:=.type "list",dict:=odict,data:=.seq items nl,slots:=oslots }:=FM _ hol
    have hsls:=F.sub_list_set
    have hslf:=F.sub_list_frozenset
    have hne:(IP "list" == IP "dict")=false:=by decide
    have bG:(s.heap.push { cls:=.type "set",dict:=none,data:=.set #[] 0 (.fresh 0 0 (!bp w)) }).IsList l items:=⟨_,hol',rfl,nl,rfl⟩
    unfold Builtin.«set.__init__» noKeywords Builtin.Frozenset.updateFrom
    generalize hPI:pyIter=PI
    wp_walk
    subst hPI
    refine K6 bG ?_
    refine AC (wpAny_runValue ?_)
    have hlS:l < s.heap.objs.size:=GE hol
    have hh3:A.in1.in1.in1.handled=none:=by simp [hh]
    have hneI:l≠(s.heap.push { cls:=.type "set",dict:=none,data:=.set #[] 0 (.fresh 0 0 (!bp w)) }).objs.size:=by
     rw [Ih]; exact GX (Jc hlS)
    have hSf:s.heap.objs.size∉[(s.heap.push { cls:=.type "set",dict:=none,data:=.set #[] 0 (.fresh 0 0 (!bp w)) }).objs.size,l]:=by
     rw [Ih]; simp only [GI,IC,Ko,or_false,not_or]
     exact ⟨GX (Km _),Jx hlS⟩
    have hlt:∀ e∈Tp,e.1 < s.heap.objs.size:=fun e he=>by
     obtain ⟨o,_,_,ho,_⟩:=hP e he
     exact GE ho
    have hsz:items.size=Tp.length:=by rw [<- GS,hi,FS]
    refine mQ (R:=_) ((Walks.list hh3 _ l hneI items).toS) s.heap.objs.size hSf ?hu (!bp w) Tp hsz.symm (fun i v hv=>?hval) (fun e he=>⟨GX (hlt e he),?hw⟩) lo nd (by lia) (items.size - 0) 0 _ #[] (by lia) (GG _)
     ⟨⟨_,GO _ rfl,rfl,rfl⟩,(bG.push _)⟩ (fun e he=>jY (hP e he) fun o x=>FM _ (FM _ x)) ?hS0 (List.Perm.refl _) ?hR
    case hu=>simp only [Around.in1_units]; lia
    case hval =>
     have e1:items.toList[i]? = some v:=by rw [Iw]; exact hv
     rw [hi,Hk] at e1
     cases g:Tp[i]? with
     | none=>rw [g] at e1; cases e1
     | some e=>rw [g] at e1; exact ⟨e,rfl,(Hr e1).symm⟩
    case hw =>
     rw [Ih]
     simp only [IC]
     exact GX (Jc (hlt e he))
    case hS0 =>
     exact ⟨_,0,_,FM _ hS,⟨rfl,rfl,rfl⟩,rfl,Good.fresh 0 0 _,rfl,rfl⟩
    case hR =>
     intro s' es' hm hS' hp'
     obtain ⟨h',g',d',tk',os'⟩:=s'
     have eg:g'=s.gens:=hm.gens
     have ed:d'=s.drawn:=hm.drawn
     have eo:os'=s.os:=hm.os
     subst eg; subst ed; subst eo
     show wpAny _ _ _ _ _ _
     refine Gc ?_
     show wpAny _ _ (ret Hy) _ _ _
     refine Gc ⟨rfl,h',tk',es',rfl,hS',hp',fun b o hb e=>?_⟩
     have hb1:b≠s.heap.objs.size:=GX hb
     have hb2:b≠(s.heap.push { cls:=.type "set",dict:=none,data:=.set #[] 0 (.fresh 0 0 (!bp w)) }).objs.size:=by
      rw [Ih]; exact GX (Jc hb)
     exact hm.heap b o (by simp only [GI,IC,Ko,or_false,not_or]; exact ⟨hb1,hb2⟩) (FM _ (FM _ e))
   ·cases r₂ with
    | error e=>exact hr₂
    | ok fl₂ =>
     cases fl₂ with
     | ret r =>
      obtain ⟨rfl,h',tk,es,rfl,hS',hp',hk'⟩:=hr₂
      repeat (any_goals (first | assumption | wp_step))
      exact h _ _ _ hS' hp' hk'
     | _=>exact hr₂.elim
  | _=>exact hr.elim
end
end Sx
namespace Sx
open PySem PyProof.Rows
section
variable {prog:GQ} {w:Hh} {A:Hj} {E:Da->Fk->Prop} {s:Fk}
theorem uw {a:GC} {o:Obj} {Q:Bool->Fk->Prop} (ho:s.heap.get? a=some o) (hc:o.cls = .type "set") (q:Q false s):wpAny (model prog w) A (Builtin.List.listLengthHint (.ref a)) Q E s:=by
 have hT:s.TypeIs (.ref a) "set":=⟨o,ho,hc⟩
 unfold Builtin.List.listLengthHint
 refine AC (JV hT F.slot_set_len.lookup ?_)
 generalize hid:("set.__len__" : String)=id0
 wp_delta
 rw [show splitId id0=some ("set","__len__") from by subst hid; decide +kernel]
 subst hid
 refine AC (Lv (T:="set") (b:=true) hT (by rw [isSubtype_type]; kernel_rfl) ?_)
 refine JX (fun hab=>absurd hab (by decide)) (fun _=>?_)
 refine JX (fun _=>?_) (fun hab=>absurd (by decide +kernel) hab)
 refine AC (wpAny_typeOf hT (Gc ?_))
 exact q
theorem nq {a:GC} {o:Obj} {es:Array (Int × Da)} {ep:Nat} {t:Ii} {Q:List Da->Fk->Prop} (hh:A.handled=none) (ho:s.heap.get? a=some o) (hex:o.ExactSet) (hd:o.data = .set es ep t) (T:Tab t es.size) (pl:t.plain=true) (ld:t.led = !bp w) (h64:es.size<=64)
  (q:∀ h' tk,(∀ b o,s.heap.get? b=some o->h'.get? b=some o)->Q ((wk w a ep es).toList.map (·.2)) { s with heap:=h',toks:=tk }):wpAny (model prog w) A (collect (.ref a)) Q E s:=by
 have lta:a < s.heap.objs.size:=GE ho
 have hz:es.size<=sizeLine:=by rw [HU]; lia
 unfold collect
 refine AC (wpAny_runValue (HX F.entry_proto_collect ?_))
 rw [HK F.plain_proto_collect _]
 show wpAny _ A.in1 (newList [] >>= fun l=>again (.builtin "list.__iadd__" ⟨[l,.ref a],[]⟩)) _ _ s
 refine AC (Ja ?_)
 refine Gc ⟨IT F.plain_list_iadd _,HX F.entry_list_iadd ?_⟩
 rw [HK F.plain_list_iadd _]
 have ho1:(s.heap.push { cls:=.type "list",data:=.seq ([]:List Da).toArray }).get? a=some o:=FM _ ho
 have hS1:(s.heap.push { cls:=.type "list",data:=.seq ([]:List Da).toArray }).get? s.heap.objs.size=some { cls:=.type "list",data:=.seq ([]:List Da).toArray }:=GO _ rfl
 have sz1:(s.heap.push { cls:=.type "list",data:=.seq ([]:List Da).toArray }).objs.size=s.heap.objs.size+1:=Ih ..
 have keep1:∀ b o,s.heap.get? b=some o->(s.heap.push { cls:=.type "list",data:=.seq ([]:List Da).toArray }).get? b=some o:=fun b o e=>FM _ e
 show wpAny _ A.in1 (Builtin.List.listExtendWith (.ref s.heap.objs.size) (.ref a) (.ref s.heap.objs.size)) _ _ _
 generalize s.heap.push { cls:=.type "list",data:=.seq ([]:List Da).toArray }=h1 at ho1 hS1 sz1 keep1 |-
 unfold Builtin.List.listExtendWith
 refine AC (wpAny_typeOf (T:="set") ⟨o,ho1,hex.1⟩ ?_)
 have e1:Builtin.List.listSameRef (.ref s.heap.objs.size) (.ref a)=false:=by simp [Builtin.List.listSameRef]; exact Jx lta
 have e2:(IP "set" == IP "list")=false:=by decide
 have e3:(IP "set" == IP "tuple")=false:=by decide
 simp only [e1,e2,e3,Ma,Hg,if_false]
 refine AC (u0 (s:={ s with heap:=h1 }) ho1 hex hd T pl ?_)
 have hI:(h1.push { cls:=.type "set_iterator",dict:=none,data:=.fields #[rawInt 0,rawInt 0,.ref a,rawInt es.size,rawInt ep],slots:=#[] }).get? h1.objs.size=some _:=GO _ rfl
 have up:∀ b o,h1.get? b=some o->(h1.push { cls:=.type "set_iterator",dict:=none,data:=.fields #[rawInt 0,rawInt 0,.ref a,rawInt es.size,rawInt ep],slots:=#[] }).get? b=some o:=fun b o e=>FM _ e
 have sz2:(h1.push { cls:=.type "set_iterator",dict:=none,data:=.fields #[rawInt 0,rawInt 0,.ref a,rawInt es.size,rawInt ep],slots:=#[] }).objs.size=h1.objs.size+1:=Ih ..
 have ho2:=up _ _ ho1
 have hS2:=up _ _ hS1
 show wpAny _ A.in1 (holding [.ref h1.objs.size] (Builtin.List.listLengthHint (.ref a)) >>= _) _ _ { s with heap:=h1.push { cls:=.type "set_iterator",dict:=none,data:=.fields #[rawInt 0,rawInt 0,.ref a,rawInt es.size,rawInt ep],slots:=#[] } }
 generalize h1.push { cls:=.type "set_iterator",dict:=none,data:=.fields #[rawInt 0,rawInt 0,.ref a,rawInt es.size,rawInt ep],slots:=#[] }=h2 at hI up sz2 ho2 hS2 |-
 refine AC (HA (uw (s:={ s with heap:=h2 }) ho2 hex.1 ?_))
 have nSI:s.heap.objs.size≠h1.objs.size:=by rw [sz1]; exact GX (Km _)
 have naI:a≠h1.objs.size:=by rw [sz1]; exact GX (Jc lta)
 have naS:a≠s.heap.objs.size:=GX lta
 have W:=(sN (prog:=prog) (w:=w) (A:=A.in1) hh h1.objs.size a naI es ep t T pl ld).toS
 have key:∀ (h:HY) (c:Nat) (tk:Nat),g9 w h h1.objs.size a es ep t 0->(∀ b o,b≠s.heap.objs.size->h2.get? b=some o->h.get? b=some o)->h.get? s.heap.objs.size=some { cls:=.type "list",data:=.seq #[] c } ->
   codeAny (model prog w) A (.builtin "list.extend.loop" ⟨[.ref s.heap.objs.size,.ref h1.objs.size,.ref s.heap.objs.size],[]⟩) (fun r s'=>match r with | .ok (.ret v)=>wpAny (model prog w) A (match v with | .ref a=>(load a >>= fun o=>match o.data with | .seq xs _=>pure xs.toList | _=>unsupported "internal:collect") | _=>unsupported "internal:collect") Q E s' | .ok _=>False | .error e=>E e s') { s with heap:=h,toks:=tk }:=by
  intro h c tk on kp hS
  refine codeAny_extend_loopS W hz s.heap.objs.size (by simp only [GI,Ko,or_false,not_or]; exact ⟨nSI,Ip naS⟩) _ es.size 0 _ #[] c rfl (GG _) on hS (ItemsOf.nil _) fun s' acc' c' hm hS' hacc=>?_
  rw [Moved.eq_with hm]
  show wpAny _ A (load s.heap.objs.size >>= _) _ _ _
  refine AC (wpAny_load hS' (Gc ?_))
  have ea:acc'.toList=(wk w a ep es).toList.map (·.2):=by
   refine List.ext_getElem? fun j=>?_
   by_cases hj:j < es.size
   ·have lj:j < acc'.size:=by rw [hacc.1]; exact hj
    have g:=hacc.2 j acc'[j] (Ha lj)
    obtain ⟨e,he,ev⟩:=g
    rw [Iw,Ha lj,Hk,Iw,he,ev]
    rfl
   ·rw [Ie (by rw [GS,hacc.1]; lia),Ie (by rw [FS,GS,fz]; lia)]
  rw [ea]
  refine q _ _ fun b o e=>?_
  have lb:=GE e
  exact hm.heap b o (by simp only [GI,Ko,or_false,not_or]; exact ⟨GX lb,by rw [sz1]; exact GX (Jc lb)⟩) (kp b o (GX lb) (up b o (keep1 b o e)))
 have on2:g9 w h2 h1.objs.size a es ep t 0:=⟨⟨0,hI,fun _=>jo _ T.ris⟩,o,ho2,hd⟩
 refine JX (fun _=>?_) (fun _=>Gc ⟨IT IM _,key h2 0 _ on2 (fun b o _ e=>e) hS2⟩)
 refine AC (wpAny_rule ?_)
 refine AC ?_
 show wpAny _ _ (updateSeq s.heap.objs.size (·.push .none) >>= fun _=>updateSeq s.heap.objs.size (·.pop)) _ _ _
 have hS3:=Ht (Hl (·.push Hy)) hS2 rfl
 have hS4:=Ht (Hl (·.pop)) hS3 rfl
 have oth:∀ b o,b≠s.heap.objs.size->h2.get? b=some o->((h2.update s.heap.objs.size (Hl (·.push Hy))).update s.heap.objs.size (Hl (·.pop))).get? b=some o:=fun b o hb e=>(Hb _ _ (Ip hb)).trans ((Hb _ _ (Ip hb)).trans e)
 refine AC (Je (s:={ s with heap:=h2 }) hS2 rfl (Je hS3 rfl (Gc ⟨IT IM _,key _ _ _ ⟨⟨0,oth _ _ (Ip nSI) hI,fun _=>jo _ T.ris⟩,o,oth _ _ naS ho2,hd⟩ oth hS4⟩) (by show 1<=sizeLine; rw [HU]; lia) (by show 0<=_; exact GG _)) (GG _) (by show 1<=_; rw [HU]; lia))
end
end Sx
namespace Ck
open PySem L2 Sx
theorem md {α β:Type} {f:α->β} {L M:List β} (h:L.Perm M):∀ T:List α,M=T.map f->∃ T':List α,T'.Perm T/\L=T'.map f:=by
 induction h with
 | nil=>intro T e; exact ⟨T,.refl _,e⟩
 | @cons x l1 l2 _ ih =>
  intro T e
  cases T with
  | nil=>cases e
  | cons a T =>
   rw [G6,List.cons.injEq] at e
   obtain ⟨T',p,e'⟩:=ih T e.2
   exact ⟨a::T',.cons a p,by rw [G6,<- e',<- e.1]⟩
 | @swap x y l =>
  intro T e
  match T,e with
  | a::b::T,e =>
   simp only [G6,List.cons.injEq] at e
   exact ⟨b::a::T,.swap a b T,by simp only [G6,<- e.1,<- e.2.1,<- e.2.2]⟩
 | trans _ _ ih1 ih2 =>
  intro T e
  obtain ⟨T1,p1,e1⟩:=ih2 T e
  obtain ⟨T2,p2,e2⟩:=ih1 T1 e1
  exact ⟨T2,p2.trans p1,e2⟩
end Ck
namespace L2
open PySem PySem.Spec PyProof.Rows Ck Sx
section
variable {X:Cx}
theorem kl {pins:List (GC × Obj)} {σ:St} {H:Hp} {s:Fk} (I:Inv X pins σ H s):∀ {us:List V} {ps:List Pair} {vs:List Da},b7 H us ps->Vals us vs ->
  ∃ Tp:List (GC × Pair),us=Tp.map (fun e=>V.ref e.1)/\vs=Tp.map (fun e=>GL e.1)/\Tp.map (·.2)=ps/\∀ e∈Tp,H e.1=some (.tup [.int e.2.1,.int e.2.2])/\eO X.prog X.w s.heap e.1 e.2
 | _,_,_,.nil,.nil=>⟨[],rfl,rfl,rfl,fun e h=>by cases h⟩
 | _,_,_,.cons (b:=p) r t,.cons rv tv=>by
  obtain ⟨a,rfl,ha⟩:=r
  cases rv
  obtain ⟨Tp,e1,e2,e3,e4⟩:=kl I t tv
  obtain ⟨its,r',tu,_⟩:=I.tuple (bQ.of ha)
  refine ⟨(a,p)::Tp,by rw [e1]; rfl,by rw [e2]; rfl,by rw [<- e3]; rfl,fun e he=>?_⟩
  rcases GI.mp he with rfl | he
  ·refine ⟨ha,?_⟩
   cases r' with
   | cons x1 r2 =>
    cases r2 with
    | cons x2 r3 =>
     cases r3
     obtain ⟨t1,rfl⟩:=x1
     obtain ⟨t2,rfl⟩:=x2
     obtain ⟨o,ho,hc,n,hd⟩:=tu
     exact xV ho hc hd
  ·exact e4 e he
theorem xS:bootBuiltins "set" = some (.type "set"):=by decide +kernel
theorem i5 {h:HY} {prog:GQ} {w:Hh}:∀ {Tp:List (GC × Pair)},(∀ e∈Tp,eO prog w h e.1 e.2)->fN h (Tp.map fun e=>GL e.1) (Tp.map (·.2))
 | [],_=>.nil
 | e::Tp,hP=>by
  refine .cons ?_ (i5 fun f hf=>hP f (GJ _ hf))
  obtain ⟨o,items,n,ho,hc,hd,hi⟩:=hP e (GY ..)
  obtain ⟨t,u,ei⟩:=kL hi
  have ea:items = #[.int e.2.1 t,.int e.2.2 u]:=by
   cases items
   simp only at ei
   rw [ei]
  subst ea
  exact ⟨e.1,t,u,rfl,o,ho,hc,n,hd⟩
noncomputable def FQ (ta:TA):TE:=fun σ H Q=>ta σ H fun vs H1=>∃ (l:GC) (ps:List Pair),vs=[.ref l]/\dw H1 l ps/\ps.Nodup/\(∀ p∈ps,Lo p)/\ps.length < 64 /\
 ∀ (q:GC) (qs:List Pair) (H':Hp),ae H1 H'->H1 q=none->dw H' q qs->qs.Perm ps->qs.Pairwise cx->Q (.ref q) H'
theorem qH {a:HZ} {ta:TA} {p p2 pos pos2:Pos} (hc:X.calm=true) (hu:X.A.units+100 < cLine) (hgl:Gl X "sorted") (hml:X.mg "sorted" = none) (hg:Gl X "set") (hm:X.mg "set" = none) (ha:PA X [a] ta) (hs:starEach [a] X.env=[(false,eval a X.env)]:=by rfl)
  (he:starEach [.Call (.Name "set" p) [a] [] pos] X.env=[(false,eval (.Call (.Name "set" p) [a] [] pos) X.env)]:=by rfl) :
  PE X (.Call (.Name "sorted" p2) [.Call (.Name "set" p) [a] [] pos] [] pos2) (FQ ta):=by
 intro pins s σ H Q I h
 refine HM (bX I hgl hml dk ?_ (by decide) (by decide))
 refine Ke ?_ he rfl
 rw [he]
 show wpAny _ _ (spliced ((false,eval (.Call (.Name "set" p) [a] [] pos) X.env)::backTo pos2 [])) _ _ s
 refine IB (Call_ (bX I hg hm xS (G9 (ax (ha pos pins s σ H _ I h) fun us s1 ⟨vs,H1,I1,r1,q1⟩=>?_) hs rfl)))
 obtain ⟨l,ps,e,⟨ws,hl,pr⟩,nd,lo,h64,q⟩:=q1
 subst e
 obtain ⟨u,rfl,ru⟩:=vals1 r1
 cases ru
 obtain ⟨its,r',pl,hz⟩:=I1.list (aq.of hl)
 obtain ⟨Tp,e1,e2,e3,e4⟩:=kl I1 pr r'
 have lT:Tp.length=ps.length:=by rw [<- e3,FS]
 refine jL (I.ok.hd hc) (show X.A.units+10 < cLine by lia) pl.isList (Tp:=Tp) (by simpa using e2) (fun e he=>(e4 e he).2) (fun e he=>lo e.2 (by rw [<- e3]; exact HV.mpr ⟨e,he,rfl⟩)) (by rw [e3]; exact nd) (by lia) fun h' tk es S pm kp=>IY ?_
 obtain ⟨o,ep,t,ho,hex,hd,G,ld,plain⟩:=S.at_
 have les:es.size=Tp.length:=by rw [<- GS,pm.length_eq,FS]
 refine K0 kind_sorted plain_sorted entry_sorted (args_sorted1 _) ?_
 unfold Builtin.«sorted»
 refine AC (m:=checkCount "sorted" 1 1 _) (Gc (AC (nq (s:={ s1 with heap:=h',toks:=tk }) (A:=X.A.in1) (I.ok.hd hc) ho hex hd G.tab plain ld (by lia) fun h2 tk2 kp2=>?_)))
 obtain ⟨Tq,pq,eq⟩:=md ((nL X.w s1.heap.objs.size ep es).trans pm) Tp rfl
 have ev:(wk X.w s1.heap.objs.size ep es).toList.map (·.2)=Tq.map fun e=>GL e.1:=by
  rw [eq,Iz]
  rfl
 rw [ev]
 have lq:Tq.length=Tp.length:=pq.length_eq
 have lv:(Tq.map fun e=>GL e.1).length=Tq.length:=FS _
 have keep:∀ b o,s1.heap.get? b=some o->h2.get? b=some o:=fun b o e=>kp2 b o (kp b o (GE e) e)
 refine AC (wpAny_newList ?_ (by rw [lv,HU]; lia))
 have hoL:(h2.push (seqObj "list" (Tq.map fun e=>GL e.1).toArray 0)).get? h2.objs.size=some (seqObj "list" (Tq.map fun e=>GL e.1).toArray 0):=GO _ rfl
 have up:∀ b o,h2.get? b=some o->(h2.push (seqObj "list" (Tq.map fun e=>GL e.1).toArray 0)).get? b=some o:=fun b o e=>FM _ e
 show wpAny _ _ _ _ _ { s1 with heap:=h2.push (seqObj "list" (Tq.map fun e=>GL e.1).toArray 0),toks:=tk2 }
 have hPq:∀ e∈Tq,eO X.prog X.w s1.heap e.1 e.2:=fun e he=>(e4 e (pq.mem_iff.mp he)).2
 have pv:=i5 hPq
 have hz2:s1.heap.objs.size<=h2.objs.size:=KP (GE (kp2 _ _ ho))
 refine AC (HA (IF slot_list_sort ⟨_,hoL,rfl⟩ entry_list_sort (mL (s:={ s1 with heap:=h2.push (seqObj "list" (Tq.map fun e=>GL e.1).toArray 0),toks:=tk2 }) (zU (Tq.map (·.2))) hoL (by rw [lv]; lia)
  (fun h6 old h2'=>wF (s1:={ s1 with heap:=h6,toks:=tk2 }) (pv.mono fun b o e=>old b o (fun z=>by
   have lt:=GE (keep b o e)
   rw [z] at lt
   exact HL _ lt) (up b o (keep b o e))) h2') fun g ok ri=>⟨_,rfl,?_⟩) (args_list_sort _)))
 refine Gc ⟨_,rfl,?_⟩
 obtain ⟨e,hat⟩:=sortedHeap_at (out:=(c5 (Tq.map fun e=>GL e.1) g).toArray) hoL
 have hb:∀ i∈g.toList,i < Tq.length:=fun i hi=>by
  have:=GT.mp (ok.mem_iff.mp hi)
  rwa [lv] at this
 have lg:g.toList.length=Tq.length:=by rw [ok.length_eq,IJ,lv]
 have rq:Vals (Tq.map fun e=>V.ref e.1) (Tq.map fun e=>GL e.1):=by
  clear hoL up hPq pv eq ev pq lq lv ok ri hat hb lg
  induction Tq with
  | nil=>exact .nil
  | cons a T ih=>exact .cons rfl ih
 have prq:b7 H1 (Tq.map fun e=>V.ref e.1) (Tq.map (·.2)):=by
  have all:∀ e∈Tq,H1 e.1=some (.tup [.int e.2.1,.int e.2.2]):=fun e he=>(e4 e (pq.mem_iff.mp he)).1
  clear hoL up hPq pv eq ev pq lq lv ok ri hat hb lg rq
  induction Tq with
  | nil=>exact .nil
  | cons a T ih=>exact .cons ⟨a.1,rfl,all a (GY ..)⟩ (ih fun e he=>all e (GJ _ he))
 have vs2:Vals (g.toList.map fun i=>(Tq.map fun e=>V.ref e.1).getD i V.non) (c5 (Tq.map fun e=>GL e.1) g):=cF rq V.non Hy g.toList (fun i hi=>by rw [FS]; exact hb i hi)
 have pr2:b7 H1 (g.toList.map fun i=>(Tq.map fun e=>V.ref e.1).getD i V.non) (g.toList.map fun i=>(Tq.map (·.2)).getD i (0,0)):=cF prq V.non (0,0) g.toList (fun i hi=>by rw [FS]; exact hb i hi)
 have fr:H1 h2.objs.size=none:=I1.hok.fresh hz2
 have sz2:(g.toList.map fun i=>(Tq.map fun e=>V.ref e.1).getD i V.non).length<=sizeLine:=by rw [FS,lg]; exact sz (by lia)
 refine ⟨.ref h2.objs.size,_,I1.laid (t':=tk2) (o:=.lst (g.toList.map fun i=>(Tq.map fun e=>V.ref e.1).getD i V.non)) (fun b u x=>?_) hz2 ⟨sz2,c5 (Tq.map fun e=>GL e.1) g,e,vs2,by simpa [seqObj] using hat⟩,rfl,?_⟩
 ·have lt:=GE (keep b u x)
  rw [sortedHeap_old (GX lt) (GE (up b u (keep b u x)))]
  exact up b u (keep b u x)
 have pmq:(Tq.map (·.2)).Perm ps:=by rw [<- e3]; exact pq.map _
 refine q _ _ _ (ae.new (ae.refl H1) fr _) fr ⟨_,ag,pr2.updN fr _⟩ ((eS (0,0) (Tq.map (·.2)) (by rw [FS,<- lv]; exact ok)).trans pmq) ?_
 rw [Jb]
 have gs:g.size=Tq.length:=by rw [<- lg]; simp
 refine Hd.mpr fun i j hi hj hij=>?_
 have:=ri i j (by lia) (by rw [lv,<- gs]; simpa using hj)
 rw [gG] at this
 unfold gA at this
 simpa [show i < g.size by simpa using hi,show j < g.size by simpa using hj] using this
end
end L2
namespace Sx
open PySem PyProof.Rows
section
variable {prog:GQ} {w:Hh} {A:Hj} {E:Da->Fk->Prop} {s:Fk}
end
section
variable {prog:GQ} {w:Hh} {A:Hj} {R:Mj->Fk->Prop} {I:GC} {fp wr:List GC} {G:Array Lh->Array Lh->Prop} {n:Nat} {P:Nat->Da->Prop} {St:Nat->Fk->Prop}
end
section
variable {prog:GQ} {w:Hh} {A:Hj} {E:Da->Fk->Prop} {s:Fk}
end
end Sx
namespace L2
open PySem PySem.Spec PyProof.Rows Ck Sx
section
variable {X:Cx}
end
end L2
namespace Ck
open PySem L2
def Ct (c:Int) (p:Pair):Prop:=0<=p.1/\p.1+1 < p.2/\p.2 < c/\¬ (p.1=0/\p.2=c - 1)
noncomputable def nm (x y:Int):Pair:=if x < y then (x,y) else (y,x)
end Ck
namespace Ck
open PySem L2
noncomputable def fc (c:Int) (p:Pair):Bool:=decide (0<=p.1)&&(decide (p.1 < p.2 - 1)&&(decide (p.2 < c)&&!(decide (p.1=0)&&decide (p.2=c - 1))))
noncomputable def stC (c:Int) (ps:List Pair) (k:Nat):Bool:=fc c (ps.getD k (0,0))&&(decide (k=0) || du (ps.getD (k - 1) (0,0)) (ps.getD k (0,0)))
noncomputable def gZ (c:Int) (n:Nat):Bool:=decide (2<=c)&&decide ((n:Int)=if c - 3 > 0 then c - 3 else 0)
noncomputable def jn (c:Int) (ps:List Pair):Bool:=gZ c ps.length&&((GK ps.length).all (stC c ps)&&!cz ps)
theorem Fo {c:Int} {p:Pair}:fc c p=true↔Ct c p:=by
 unfold fc Ct
 simp only [GN,decide_eq_true_iff,Bool.not_eq_true',LH,decide_eq_false_iff_not]
 lia
theorem yQ {c:Int} {ps:List Pair} (h:gZ c ps.length=false):jn c ps=false:=by
 unfold jn
 rw [h,HR]
theorem tJ {p q r:Pair} (h1:du p q=true) (h2:du q r=true):du p r=true:=by
 unfold du at *
 simp only [JZ,GN,decide_eq_true_iff] at *
 lia
theorem sS {p q:Pair} (h:du p q=true):cx p q/\p≠q:=by
 unfold du at h
 unfold cx
 simp only [JZ,GN,decide_eq_true_iff] at h
 refine ⟨by lia,fun e=>?_⟩
 subst e
 lia
theorem BJ {p q:Pair} (h:cx p q) (n:p≠q):du p q=true:=by
 unfold du
 unfold cx at h
 simp only [JZ,GN,decide_eq_true_iff]
 by_cases e:p.1=q.1
 ·by_cases e2:p.2=q.2
  ·exact absurd (LP e e2) n
  ·lia
 ·lia
theorem yk {c:Int} {ps:List Pair} (h:(GK ps.length).all (stC c ps)=true):ps.Pairwise fun p q=>du p q=true:=by
 have st:∀ k,0 < k->k < ps.length->du (ps.getD (k - 1) (0,0)) (ps.getD k (0,0))=true:=fun k h0 hk=>by
  have:=GW.mp h k (GT.mpr hk)
  unfold stC at this
  rw [GN,JZ,decide_eq_true_iff] at this
  rcases this.2 with z | z
  ·lia
  ·exact z
 have all:∀ j i,i < j->j < ps.length->du (ps.getD i (0,0)) (ps.getD j (0,0))=true:=by
  intro j
  induction j with
  | zero=>intro i hi; lia
  | succ j ih =>
   intro i hi hj
   have s:=st (j+1) (by lia) hj
   rw [Jt] at s
   by_cases e:i=j
   ·rw [e]; exact s
   ·exact tJ (ih i (by lia) (by lia)) s
 refine Hd.mpr fun i j hi hj hij=>?_
 have:=all j i hij hj
 rw [FB,FB,Do hi,Do hj] at this
 exact this
theorem xu {c:Int} {ps qs:List Pair} (nd:qs.Nodup) (mm:∀ x,x∈qs↔x∈ps) (rs:qs.Pairwise cx) (ne:ps≠qs):jn c ps=false:=by
 cases h:jn c ps with
 | false=>rfl
 | true =>
  unfold jn at h
  rw [GN,GN] at h
  have r:=yk h.2.1
  have n2:ps.Nodup:=r.imp fun z=>(sS z).2
  have pm:ps.Perm qs:=(KO n2 nd).mpr fun x=>(mm x).symm
  exact absurd (uK (r.imp fun z=>(sS z).1) rs pm) ne
theorem ug {c:Int} {ps:List Pair} (nd:ps.Nodup) (rs:ps.Pairwise cx) (l:gZ c ps.length=true):jn c ps=(!cz ps&&ps.all (fc c)):=by
 have e:(GK ps.length).all (stC c ps)=ps.all (fc c):=by
  rw [HE,GW,GW]
  constructor
  ·intro h p hp
   obtain ⟨k,hk⟩:=HC hp
   have:=h k (GT.mpr (GD.mp hk).1)
   unfold stC at this
   rw [GN,FB,hk] at this
   exact this.1
  ·intro h k hk
   have hk:=GT.mp hk
   unfold stC
   rw [GN,JZ,decide_eq_true_iff]
   refine ⟨?_,?_⟩
   ·rw [FB,Do hk]
    exact h _ (JI hk)
   ·by_cases z:k=0
    ·exact .inl z
    ·refine .inr ?_
     have k1:k - 1 < ps.length:=by lia
     rw [FB,FB,Do hk,Do k1]
     exact BJ (Hd.mp rs _ _ k1 hk (by lia)) (Hd.mp nd _ _ k1 hk (by lia))
 unfold jn
 rw [l,e,HB,Bool.and_comm]
end Ck
namespace Ck
open PySem L2
noncomputable def one (n k:Nat):Nat:=if 0 < k/\0 < n then 1 else 0
end Ck
namespace Dk
open PySem PyProof.Rows
section
variable {prog:GQ} {w:Hh} {K:Type} [DecidableEq K] {knd:KeyKind prog w K} {A:Hj} {E:Da->Fk->Prop} {s:Fk}
end
end Dk
namespace L2
open PySem PySem.Spec PyProof.Rows
end L2
namespace L2
open PySem PySem.Spec PyProof.Rows
theorem og (k:Str):∀ ns:List Str,ns.any (· == k)=decide (k∈ns)
 | []=>by simp
 | n::ns=>by
  rw [Jk,og k ns]
  by_cases h:n=k
  ·subst h; simp
  ·have h':¬ k=n:=fun z=>h z.symm
   simp [h,h']
theorem kM {X:Cx}:bC X (compareOp .NotIn) (fun x y H Q=>∃ (k:Str) (p:GC) (ys:List Str),x = .str k/\y = .ref p/\aq X.K H p (ys.map V.str)/\Q (.bl (!decide (k∈ys))) H):=by
 intro pins s σ H x y u v Q I ru rv h
 obtain ⟨k,p,ys,rfl,rfl,hl,q⟩:=h
 obtain ⟨t,rfl⟩:=(show ∃ t,u=Kx k t from ru)
 cases rv
 obtain ⟨its,r',pl,hz⟩:=I.list hl
 refine notin_list_strs pl.isList (i4 r') ⟨.bl _,H,I,rfl,?_⟩
 rw [og]; exact q
end L2
namespace Ck
open PySem L2
theorem iz:∀ (more kvs:List (Key × V)),((kvs++more).map (·.1)).Nodup->dO kvs more=kvs++more
 | [],kvs,_=>by rw [Iv]; rfl
 | p::more,kvs,h=>by
  have hn:cQ kvs p.1=none:=by
   cases e:cQ kvs p.1 with
   | none=>rfl
   | some v =>
    exfalso
    have hm:=xo e
    rw [G7,G6] at h
    exact (Jd.mp h).2.2 _ hm _ (GY ..) rfl
  show dO (putK kvs p.1 p.2) more=_
  rw [uV _ hn,iz more _ (by rw [Iq]; exact h),Iq]
  rfl
theorem sd {ys:List Str} (h:ys.Nodup):(ys.map (LY:Str->Key)).Nodup:=by
 induction ys with
 | nil=>exact .nil
 | cons y ys ih =>
  rw [HF] at h
  rw [G6,HF]
  exact ⟨fun z=>by obtain ⟨a,b,c⟩:=HV.mp z; cases c; exact h.1 b,ih h.2⟩
def cP (H:Hp) (x:V) (f:Str × GC × Int):Prop:=∃ a dx fs,x = .ref a/\H a=some (.ins f.2.1 dx fs)/\bO fs f.1 f.2.2
theorem cP.same {H H':Hp} {x:V} {f:Str × GC × Int} (h:cP H x f) (s:ae H H'):cP H' x f:=by
 obtain ⟨a,dx,fs,h1,h2,h3⟩:=h
 exact ⟨a,dx,fs,h1,s _ _ h2,h3⟩
theorem bz {H H':Hp} {xs:List V} {fm:List (Str × GC × Int)} (h:Ir (cP H) xs fm) (s:ae H H'):Ir (cP H') xs fm:=by
 induction h with
 | nil=>exact .nil
 | cons h _ ih=>exact .cons (h.same s) ih
theorem cE {H:Hp} {xs ys:List V} {fm gm:List (Str × GC × Int)} (h:Ir (cP H) xs fm) (g:Ir (cP H) ys gm):Ir (cP H) (xs++ys) (fm++gm):=by
 induction h with
 | nil=>exact g
 | cons h _ ih=>exact .cons h ih
theorem yh {H:Hp} {xs:List V} {fm:List (Str × GC × Int)} (h:Ir (cP H) xs fm) {i:Nat} {x:V} (hx:xs[i]? = some x):∃ f,fm[i]? = some f/\cP H x f:=by
 induction h generalizing i with
 | nil=>cases hx
 | @cons y f ys fs h _ ih =>
  cases i with
  | zero=>simp only [IH,Mg] at hx; subst hx; exact ⟨f,rfl,h⟩
  | succ i=>rw [Lp] at hx; obtain ⟨g,g1,g2⟩:=ih hx; exact ⟨g,by rw [Lp]; exact g1,g2⟩
end Ck
namespace L2
open PySem PySem.Spec PyProof.Rows Ck
section
variable {X:Cx}
end
end L2
namespace Ck
open PySem L2
end Ck
namespace Ck
open PySem L2
end Ck
namespace L2
open PySem PySem.Spec PyProof.Rows Ck
end L2
namespace L2
open PySem PySem.Spec PyProof.Rows Ck
end L2
namespace Ck
open PySem L2
end Ck
namespace Ck
open PySem L2
end Ck
namespace Dt
open PySem PyProof.Rows
section
variable {prog:GQ} {w:Hh} {A:Hj} {E:Da->Fk->Prop} {s:Fk}
def At (h:HY) (d:GC) (es:Array Jz) (ep:Nat):Prop:=∃ o,h.get? d=some o/\o.ExactDict/\o.data = .dict es ep
end
end Dt
namespace L2
open PySem PySem.Spec PyProof.Rows
end L2
namespace L2
open PySem
end L2
namespace Ck
open PySem L2
noncomputable def kk (p:Pair):List Key:=[.inl p.1,.inl p.2]
end Ck
namespace Ck
open PySem L2
end Ck
namespace L2
open PySem PySem.Spec PyProof.Rows
section
variable {X:Cx}
end
section
variable {X:Cx}
end
end L2
namespace Ck
open PySem L2
end Ck
namespace Ck
open PySem L2
end Ck
namespace Ck
open PySem L2
end Ck
namespace Ck
open PySem L2
end Ck
namespace Ck
open PySem L2
end Ck
namespace L2
open PySem PySem.Spec PyProof.Rows
section
variable {X:Cx}
end
end L2
namespace Ck
open PySem L2
inductive gx (H:Hp):List V->List (Option Bt)->Prop
 | nil:gx H [] []
 | tree {v:V} {t:Bt} {xs:List V} {ts:List (Option Bt)} (h:Tw H v t) (r:gx H xs ts):gx H (v::xs) (some t::ts)
 | sign {xs:List V} {ts:List (Option Bt)} (r:gx H xs ts):gx H (.str (tz ")")::xs) (none::ts)
end Ck
namespace Ck
open PySem L2
end Ck
namespace L2
open PySem PySem.Spec
variable {X:Cx}
noncomputable def El (K:GM):V->List V->Hp->VK->Prop:=fun x vs H Q=>nX x vs H Q\/wc K x vs H Q
theorem yg:jw X "list.extend" (El X.K):=fun pins s σ H x vs v us Q I rx rv h =>
 h.elim (tI pins s σ H x vs v us Q I rx rv) (xw pins s σ H x vs v us Q I rx rv)
end L2
namespace Ck
open PySem L2
end Ck
namespace L2
open PySem PySem.Spec PyProof.Rows
noncomputable def pick {α:Type} (d:α):List α->Nat->α
 | [],_=>d
 | a::_,0=>a
 | _::r,n+1=>pick d r n
theorem four {p:Nat->Prop} (a:p 0) (b:p 1) (c:p 2) (d:p 3):∀ i,i<=3->p i
 | 0,_=>a
 | 1,_=>b
 | 2,_=>c
 | 3,_=>d
 | n+4,h=>absurd h (by lia)
section
variable {X:Cx} {C f:Nat->GC} {fd:Nat->Hz} {ps:List Str} {sp:Nat->Sp} {m:Str} {apos pos:Pos} {o e:HZ} {es:List HZ} {ta:TE} {t:TA} {j k:Nat}
end
theorem aH {N P:List Str} {sc:KI} (h1:sc.kind = .function:=by rfl) (h2:sc.isCoroutine=false:=by rfl) (h3:sc.isGenerator=false:=by rfl) (h4:N.Nodup:=by decide +kernel) (h5:N.take P.length=P:=by rfl)
  (h6:∀ x∈P,sc.names.lookup x=some .local\/sc.names.lookup x=some .cell:=by decide +kernel) (h7:∀ y∈sc.names,y.2≠.free:=by decide +kernel):ao N P sc:=⟨h1,h2,h3,h4,h5,h6,h7⟩
structure A6 (K:GM) (mg:Str->Option Da) (x:Str) (st:Il) (f:GC) (fd:Hz):Prop where
 F:aF K x x st f fd
 m:mg x=some (.ref f)
section
variable {P:GQ} {w:Hh} {K:GM} {mg:Str->Option Da} {base:HY} {x q:Str} {st:Il} {f:GC} {fd:Hz} {N ps:List Str} {k:Nat} {sp:Sp}
theorem bw (F:aF K x q st f fd) (b:∀ (kV doc pm:Da) (an:Option GC) (cdv ct:Da) (us:List Da),us.length=ps.length->bindArgs (Mn x q (cq st) (bJ st) (ai st) .none kV doc pm an cdv ct) ⟨us,[]⟩=pure (ps.zip us)) (ok:bj P w K mg base jK k f fd ps sp):dj P w K mg base ps k sp f fd:=⟨ok.up,F.binds b⟩
theorem Fu (F:aF K x q st f fd) (b:∀ (kV doc pm:Da) (an:Option GC) (cdv ct:Da) (us:List Da),us.length=ps.length->bindArgs (Mn x q (cq st) (bJ st) (ai st) .none kV doc pm an cdv ct) ⟨us,[]⟩=pure (ps.zip us)) (ok:bj P w K mg base (dR P w) k f fd ps sp):dj P w K mg base ps k sp f fd:=⟨ok,F.binds b⟩
theorem bV (F:A6 K mg x st f fd) (b:∀ (kV doc pm:Da) (an:Option GC) (cdv ct:Da) (us:List Da),us.length=ps.length->bindArgs (Mn x x (cq st) (bJ st) (ai st) .none kV doc pm an cdv ct) ⟨us,[]⟩=pure (ps.zip us)) (ok:bj P w K mg base jK k f fd ps sp):Def P w K mg base x ps k sp f fd:=⟨ok.up,F.F.binds b,F.F.kp,F.m⟩
theorem Bk (F:A6 K mg x st f fd) (b:∀ (kV doc pm:Da) (an:Option GC) (cdv ct:Da) (us:List Da),us.length=ps.length->bindArgs (Mn x x (cq st) (bJ st) (ai st) .none kV doc pm an cdv ct) ⟨us,[]⟩=pure (ps.zip us)) (ok:bj P w K mg base (dR P w) k f fd ps sp):Def P w K mg base x ps k sp f fd:=⟨ok,F.F.binds b,F.F.kp,F.m⟩
end
theorem vO {P:List Da->Prop} (h:P []):∀ us:List Da,us.length=0->P us
 | [],_=>h
 | _::_,e=>nomatch e
theorem v8 {n:Nat} {P:List Da->Prop} (h:∀ (a:Da) (us:List Da),us.length=n->P (a::us)):∀ us:List Da,us.length=n+1->P us
 | a::us,e=>h a us (Nat.succ.inj e)
 | [],e=>nomatch e
theorem bB {P:List Da->Prop} (h:∀ a:Da,P [a]):∀ us:List Da,us.length=1->P us:=v8 fun a=>vO (h a)
theorem cB {P:List Da->Prop} (h:∀ a b:Da,P [a,b]):∀ us:List Da,us.length=2->P us:=v8 fun a=>bB (h a)
theorem jt {P:List Da->Prop} (h:∀ a b c:Da,P [a,b,c]):∀ us:List Da,us.length=3->P us:=v8 fun a=>cB (h a)
theorem Gn {P:List Da->Prop} (h:∀ a b c d:Da,P [a,b,c,d]):∀ us:List Da,us.length=4->P us:=v8 fun a=>jt (h a)
end L2
namespace L2
open PySem
theorem dA {P:GQ} {w:Hh} {K:GM} {mg:Str->Option Da} {base:HY} {ps:List Str} {j k:Nat} {sp:Sp} {f:GC} {fd:Hz} (d:dj P w K mg base ps j sp f fd) (h:j<=k:=by decide):dj P w K mg base ps k sp f fd:=⟨d.ok.mono h,d.b⟩
end L2
namespace L2
open PySem
end L2
namespace L2
open PySem
end L2
namespace L2
open PySem
end L2
namespace Ck
open PySem L2
end Ck
namespace L2
open PySem PySem.Spec PyProof.Rows
end L2
namespace Ck
open PySem L2
theorem AL:∀ y∈([")(","(","(x","())(","( )","()()((("]:List Str),c8 0 y.cps.toList=false:=by decide +kernel
theorem Cq:∀ rs∈([[1],[0,1,0],[0,2],[-1],[0,0,3],[0,1,2,1]]:List (List Int)),gP 0 0 rs=false:=by decide
theorem BR:∀ ps∈([[(0,2),(1,3)],[(1,2),(0,3)],[(0,0)],[(1,2)],[(0,3),(2,1)],[(0,1),(1,2)]]:List (List Pair)),dy ps=false:=by decide
theorem z6:∀ rs∈([[[0,2],[1,3]],[[]],[[1],[0]],[[1,0]],[[0],[2]],[[0,1],[1]]]:List (List (List Int))),dm rs=false:=by decide
theorem yx:∀ p∈([(5,[(0,2),(1,3)]),(5,[(1,4),(1,3)]),(4,[]),(4,[(0,1)]),(4,[(0,3)]),(1,[])]:List (Int × List Pair)),jn p.1 p.2=false:=by decide
theorem Cp:∀ ns∈([[2,0,1],[0,0],[1],[0,2],[3,0,1,2],[-1]]:List (List Int)),lH ns=false:=by decide
theorem CK:∀ ns∈([[3],[-1],[0,4],[4,0],[0,-1],[10 ^ 59]]:List (List Int)),EI ns=false:=by decide +kernel
theorem zo:∀ ns∈([[],[1],[2,1],[0,3],[0,-1],[2,3,2,0]]:List (List Int)),jG ns=false:=by decide
theorem A0:∀ ns∈([[],[1],[1,1],[0,2],[-1,0],[2,0,2]]:List (List Int)),fZ ns=false:=by decide
end Ck
namespace L2
open PySem PySem.Spec PyProof.Rows
noncomputable def bc (p:Nat->Prop):Nat->Prop
 | 0=>True
 | n+1=>bc p n/\p n
theorem bc.get {p:Nat->Prop}:∀ {n:Nat},bc p n->∀ i,i < n->p i
 | 0,_,i,h=>absurd h (Iy i)
 | n+1,⟨a,b⟩,i,h=>if e:i=n then e▸b else a.get i (by lia)
noncomputable def lM (M:Nat) (C:Nat->GC) (m:Str) (sp:Nat->Sp) (E:XK) (ta:TE) (t:TA):TE:=fun σ H Q=>∃ i,i < M/\ip (C i) m (sp i) [] E ta t σ H Q
section
variable {X:Cx} {M:Nat} {C f:Nat->GC} {fd:Nat->Hz} {ps:List Str} {sp:Nat->Sp} {m:Str} {apos pos:Pos} {o e:HZ} {es:List HZ} {ta:TE} {t:TA} {j k:Nat}
theorem lN {pl:Sem Bool} (ho:PE X o ta) (c:∀ i,i < M->Cls X.K (C i)) (hm:∀ i,i < M->Meth X.K (C i) m (f i)) (D:∀ i,i < M->dj X.prog X.w X.K X.mg X.base ps j (sp i) (f i) (fd i)) (hr:aQ k X.A) (ha:PA X (e::es) t) (hjk:j<=k:=by decide)
  (hst:starEach (e::es) X.env=(false,eval e X.env)::starEach es X.env:=by rfl) (hpl:(backTo pos (starEach es X.env)).any (·.1)=false:=by rfl)
  (ht:eval (.Call (.Attribute o m apos) (e::es) [] pos) X.env=(do
   let ov <- eval o X.env
   standAt apos.atName
   let (f,first) <- holding [ov] (getMethod ov m pl)
   callWith pos f first (backTo pos (starEach (e::es) X.env)) (backToKw pos (keywordEach [] X.env))):=by rfl) :
  PE X (.Call (.Attribute o m apos) (e::es) [] pos) (lM M C m sp E0 ta t):=fun pins s σ H Q I ⟨i,hi,h⟩=>wx ho (c i hi) (hm i hi) (D i hi) hr ha hjk hst hpl ht pins s σ H Q I h
theorem FA {pl:Sem Bool} (ho:PE X o ta) (c:∀ i,i < M->Cls X.K (C i)) (hm:∀ i,i < M->Meth X.K (C i) m (f i)) (D:∀ i,i < M->dj X.prog X.w X.K X.mg X.base ps j (sp i) (f i) (fd i)) (hr:aQ k X.A) (hjk:j<=k:=by decide)
  (ht:eval (.Call (.Attribute o m apos) [] [] pos) X.env=(do
   let ov <- eval o X.env
   standAt apos.atName
   let (f,first) <- holding [ov] (getMethod ov m pl)
   callWith pos f first (backTo pos (starEach [] X.env)) (backToKw pos (keywordEach [] X.env))):=by rfl) :
  PE X (.Call (.Attribute o m apos) [] [] pos) (lM M C m sp E0 ta gk):=fun pins s σ H Q I ⟨i,hi,h⟩=>yP ho (c i hi) (hm i hi) (D i hi) hr hjk ht pins s σ H Q I h
theorem Fw {E:XK} (T:kh X E) {pl:Sem Bool} (ho:PE X o ta) (c:∀ i,i < M->Cls X.K (C i)) (hm:∀ i,i < M->Meth X.K (C i) m (f i)) (D:∀ i,i < M->dj X.prog X.w X.K X.mg X.base ps j (sp i) (f i) (fd i)) (hr:aQ k X.A) (ha:PA X (e::es) t) (hjk:j<=k:=by decide)
  (hst:starEach (e::es) X.env=(false,eval e X.env)::starEach es X.env:=by rfl) (hpl:(backTo pos (starEach es X.env)).any (·.1)=false:=by rfl)
  (ht:eval (.Call (.Attribute o m apos) (e::es) [] pos) X.env=(do
   let ov <- eval o X.env
   standAt apos.atName
   let (f,first) <- holding [ov] (getMethod ov m pl)
   callWith pos f first (backTo pos (starEach (e::es) X.env)) (backToKw pos (keywordEach [] X.env))):=by rfl) :
  PE X (.Call (.Attribute o m apos) (e::es) [] pos) (lM M C m sp E ta t):=fun pins s σ H Q I ⟨i,hi,h⟩=>zd T ho (c i hi) (hm i hi) (D i hi) hr ha hjk hst hpl ht pins s σ H Q I h
end
end L2
namespace Ck
open PySem L2
inductive Lt where
 | int (i:Int)
 | str (s:Str)
 | lst (l:List Lt)
 | tup (l:List Lt)
mutual
noncomputable def Rp (H0 H:Hp):Lt->V->Prop
 | .int i,v=>v = .int i
 | .str s,v=>v = .str s
 | .lst ts,v=>∃ a xs,v = .ref a/\H0 a=none/\H a=some (.lst xs)/\aJ H0 H ts xs
 | .tup ts,v=>∃ a xs,v = .ref a/\H0 a=none/\H a=some (.tup xs)/\aJ H0 H ts xs
noncomputable def aJ (H0 H:Hp):List Lt->List V->Prop
 | [],xs=>xs=[]
 | t::ts,xs=>∃ v vs,xs=v::vs/\Rp H0 H t v/\aJ H0 H ts vs
end
mutual
theorem Rp.mono {H0 H1 H H':Hp} (f:∀ a,H0 a=none->H1 a=none) (s:∀ a xs,H a=some (.lst xs)->H' a=some (.lst xs)) (s':∀ a xs,H a=some (.tup xs)->H' a=some (.tup xs)):∀ (t:Lt) {v:V},Rp H0 H t v->Rp H1 H' t v
 | .int i,v,h=>by unfold Rp at h |-; exact h
 | .str i,v,h=>by unfold Rp at h |-; exact h
 | .lst ts,v,h=>by
  unfold Rp at h |-
  obtain ⟨a,xs,e,h0,ha,r⟩:=h
  exact ⟨a,xs,e,f _ h0,s _ _ ha,aJ.mono f s s' ts r⟩
 | .tup ts,v,h=>by
  unfold Rp at h |-
  obtain ⟨a,xs,e,h0,ha,r⟩:=h
  exact ⟨a,xs,e,f _ h0,s' _ _ ha,aJ.mono f s s' ts r⟩
theorem aJ.mono {H0 H1 H H':Hp} (f:∀ a,H0 a=none->H1 a=none) (s:∀ a xs,H a=some (.lst xs)->H' a=some (.lst xs)) (s':∀ a xs,H a=some (.tup xs)->H' a=some (.tup xs)):∀ (ts:List Lt) {xs:List V},aJ H0 H ts xs->aJ H1 H' ts xs
 | [],xs,h=>by unfold aJ at h |-; exact h
 | t::ts,xs,h=>by
  unfold aJ at h |-
  obtain ⟨v,vs,e,r,rs⟩:=h
  exact ⟨v,vs,e,Rp.mono f s s' t r,aJ.mono f s s' ts rs⟩
end
theorem Rp.same {H0 H H':Hp} {t:Lt} {v:V} (h:Rp H0 H t v) (s:ae H H'):Rp H0 H' t v:=Rp.mono (fun _ z=>z) (fun _ _=>s _ _) (fun _ _=>s _ _) t h
theorem aJ.same {H0 H H':Hp} {t:List Lt} {v:List V} (h:aJ H0 H t v) (s:ae H H'):aJ H0 H' t v:=aJ.mono (fun _ z=>z) (fun _ _=>s _ _) (fun _ _=>s _ _) t h
theorem Rp.since {H0 H1 H:Hp} {t:Lt} {v:V} (h:Rp H0 H t v) (s:ae H1 H0):Rp H1 H t v:=Rp.mono (fun _ z=>s.free z) (fun _ _ z=>z) (fun _ _ z=>z) t h
theorem aJ.since {H0 H1 H:Hp} {t:List Lt} {v:List V} (h:aJ H0 H t v) (s:ae H1 H0):aJ H1 H t v:=aJ.mono (fun _ z=>s.free z) (fun _ _ z=>z) (fun _ _ z=>z) t h
noncomputable abbrev R0 (H:Hp) (t:Lt) (v:V):Prop:=Rp (fun _=>none) H t v
theorem Rp.any {H0 H:Hp} {t:Lt} {v:V} (h:Rp H0 H t v):R0 H t v:=Rp.mono (fun _ _=>rfl) (fun _ _ z=>z) (fun _ _ z=>z) t h
theorem Rp.updD {H0 H:Hp} {t:Lt} {v:V} {p:GC} {kvs:List (Key × V)} {o:HO} (h:Rp H0 H t v) (hp:H p=some (.dK kvs)):Rp H0 (upd H p o) t v :=
 Rp.mono (fun _ z=>z) (fun _ _ z=>(av (hJ z hp (fun y=>by cases y))).trans z) (fun _ _ z=>(av (hJ z hp (fun y=>by cases y))).trans z) t h
theorem aJ.length {H0 H:Hp}:∀ {ts:List Lt} {xs:List V},aJ H0 H ts xs->xs.length=ts.length
 | [],xs,h=>by unfold aJ at h; rw [h]; rfl
 | t::ts,xs,h=>by
  unfold aJ at h
  obtain ⟨v,vs,rfl,_,rs⟩:=h
  rw [Hq,Hq,aJ.length rs]
theorem aJ.get {H0 H:Hp}:∀ {ts:List Lt} {xs:List V},aJ H0 H ts xs->∀ {j:Nat} {t:Lt},ts[j]? = some t->∃ x,xs[j]? = some x/\Rp H0 H t x
 | [],xs,h,j,x,e=>by cases e
 | t::ts,xs,h,j,x,e=>by
  unfold aJ at h
  obtain ⟨v,vs,rfl,r,rs⟩:=h
  cases j with
  | zero =>
   have:t=x:=by simpa using e
   subst this
   exact ⟨v,rfl,r⟩
  | succ j=>exact aJ.get rs (by simpa using e)
theorem aJ.get' {H0 H:Hp}:∀ {ts:List Lt} {xs:List V},aJ H0 H ts xs->∀ {j:Nat} {x:V},xs[j]? = some x->∃ t,ts[j]? = some t/\Rp H0 H t x
 | [],xs,h,j,x,e=>by unfold aJ at h; rw [h] at e; cases e
 | t::ts,xs,h,j,x,e=>by
  unfold aJ at h
  obtain ⟨v,vs,rfl,r,rs⟩:=h
  cases j with
  | zero =>
   have:v=x:=by simpa using e
   subst this
   exact ⟨t,rfl,r⟩
  | succ j=>exact aJ.get' rs (by simpa using e)
noncomputable def fK (f:HZ->Option Lt):List HZ->Option (List Lt)
 | []=>some []
 | e::es=>match f e,fK f es with
  | some t,some ts=>some (t::ts)
  | _,_=>none
noncomputable def litOf:Nat->HZ->Option Lt
 | 0,_=>none
 | n+1,e=>match e with
  | .Constant (.int i) _ _=>some (.int i)
  | .Constant (.str x) _ _=>some (.str x)
  | .BinOp (.Constant (.int i) _ _) .Sub (.Constant (.int j) _ _) _=>some (.int (i - j))
  | .BinOp (.Constant (.int i) _ _) .Pow (.Constant (.int j) _ _) _=>if 0<=j/\j<=1000/\i.natAbs < 1000 then some (.int (i ^ j.toNat)) else none
  | .List es _=>match fK (litOf n) es with
   | some ts=>if ts.length<=1000 then some (.lst ts) else none
   | none=>none
  | .Tuple es _ _=>match fK (litOf n) es with
   | some ts=>if ts.length<=1000 then some (.tup ts) else none
   | none=>none
  | _=>none
noncomputable def vh (t:Lt):TE:=fun _ H Q=>∀ (v:V) (H':Hp),ae H H'->Rp H H' t v->Q v H'
noncomputable def Dy (ts:List Lt):TA:=fun _ H Q=>∀ (xs:List V) (H':Hp),ae H H'->aJ H H' ts xs->Q xs H'
theorem eD {X:Cx} {e:HZ} {t u:TE} (h:PE X e t) (k:∀ σ H Q,u σ H Q->t σ H Q):PE X e u:=fun pins s σ H Q I z=>h pins s σ H Q I (k σ H Q z)
theorem oa {X:Cx} {e:List HZ} {t u:TA} (h:PA X e t) (k:∀ σ H Q,u σ H Q->t σ H Q):PA X e u:=fun pos pins s σ H Q I z=>h pos pins s σ H Q I (k σ H Q z)
theorem uf {n:Nat} {e:HZ} {t:Lt} {es:List HZ} {env:Env} (h:litOf n e=some t):starEach (e::es) env=(false,eval e env)::starEach es env:=by
 cases n with
 | zero=>cases h
 | succ n=>cases e with
  | Starred _ _=>cases h
  | _=>rfl
theorem kg {X:Cx} {n:Nat} (ih:∀ e t,litOf n e=some t->PE X e (vh t)):∀ (es:List HZ) (ts:List Lt),fK (litOf n) es=some ts->PA X es (Dy ts)
 | [],ts,h=>by
  cases h
  exact oa af fun σ H Q z=>z [] H (ae.refl H) rfl
 | e::es,ts,h=>by
  unfold fK at h
  cases h1:litOf n e with
  | none=>rw [h1] at h; cases h
  | some t =>
   cases h2:fK (litOf n) es with
   | none=>rw [h1,h2] at h; cases h
   | some us =>
    rw [h1,h2] at h
    cases h
    refine oa (aa (ih e t h1) (kg ih es us h2) (uf h1)) fun σ H Q z v H1 s1 r1 xs H2 s2 r2=>z (v::xs) H2 (s1.trans s2) ?_
    unfold aJ
    exact ⟨v,xs,rfl,r1.same s2,r2.since s1⟩
theorem i9 {X:Cx}:∀ (n:Nat) (e:HZ) (t:Lt),litOf n e=some t->PE X e (vh t)
 | 0,e,t,h=>by cases h
 | n+1,e,t,h=>by
  unfold litOf at h
  split at h
  ·cases h
   exact eD ak fun σ H Q z=>z _ H (ae.refl H) (by unfold Rp; rfl)
  ·cases h
   exact eD aw fun σ H Q z=>z _ H (ae.refl H) (by unfold Rp; rfl)
  ·cases h
   exact eD (au dc ak ak) fun σ H Q z=>⟨_,_,rfl,rfl,z _ H (ae.refl H) (by unfold Rp; rfl)⟩
  ·split at h
   ·rename_i i a b j c d f g
    cases h
    exact eD (au Ay ak ak) fun σ H Q z=>⟨_,_,rfl,rfl,⟨g.1,by have:=g.2.1; lia,by have:=g.2.2; lia⟩,z _ H (ae.refl H) (by unfold Rp; rfl)⟩
   ·cases h
  ·split at h
   ·rename_i ts hts
    split at h
    ·rename_i hl
     cases h
     refine eD (aR (kg (fun e t=>i9 n e t) _ _ hts)) fun σ H Q z xs H1 s1 r1=>?_
     refine ⟨by rw [r1.length]; exact sz (by lia),fun p hp=>z _ _ (ae.new s1 hp _) ?_⟩
     unfold Rp
     exact ⟨p,xs,rfl,s1.free hp,ag,r1.same (ae.new (ae.refl _) hp _)⟩
    ·cases h
   ·cases h
  ·split at h
   ·rename_i ts hts
    split at h
    ·rename_i hl
     cases h
     refine eD (cL (kg (fun e t=>i9 n e t) _ _ hts)) fun σ H Q z xs H1 s1 r1=>?_
     refine ⟨by rw [r1.length]; exact sz (by lia),fun p hp=>z _ _ (ae.new s1 hp _) ?_⟩
     unfold Rp
     exact ⟨p,xs,rfl,s1.free hp,ag,r1.same (ae.new (ae.refl _) hp _)⟩
    ·cases h
   ·cases h
  ·cases h
end Ck
namespace Ck
open PySem L2
theorem rR {n:Nat} {e:HZ} {t:Lt} {tg:Option HZ} {l:Nat} {env:Env} (h:litOf n e=some t):swapsWith e tg l env=pure false:=by
 cases n with
 | zero=>cases h
 | succ n=>cases e with
  | ListComp _ _ _ _=>cases h
  | SetComp _ _ _ _=>cases h
  | DictComp _ _ _ _ _=>cases h
  | _=>rfl
theorem yj {X:Cx} {o i value:HZ} {pos pos':Pos} {td ty:TE} (n:Nat) (t:Lt) (hu:X.A.units+1 < cLine) (ho:PE X o td) (hi:PE X i ty) (hv:litOf n value=some t):PS X (.Assign [.Subscript o i pos'] value pos) (wI td ty (vh t)) :=
 xG hu ho hi (i9 n value t hv) (rR hv)
end Ck
namespace Ck
open PySem L2
mutual
noncomputable def iD:Lt->Nat
 | .int _=>0
 | .str _=>0
 | .lst ts=>lQ ts+1
 | .tup ts=>lQ ts+1
noncomputable def lQ:List Lt->Nat
 | []=>0
 | t::ts=>max (iD t) (lQ ts)
end
theorem iV:∀ {ts:List Lt} {j:Nat} {t:Lt},ts[j]? = some t->iD t<=lQ ts
 | [],j,t,e=>by cases e
 | s::ts,j,t,e=>by
  unfold lQ
  cases j with
  | zero =>
   have:s=t:=by simpa using e
   subst this
   exact Nat.le_max_left _ _
  | succ j=>exact Hm (iV (by simpa using e)) (Nat.le_max_right _ _)
theorem xQ (i:Int):eR (.int i) (.int i)=true:=by show (i == i)=true; exact beq_self_eq_true i
theorem xN (i:Str):eR (.str i) (.str i)=true:=by show (i == i)=true; exact beq_self_eq_true i
theorem aN.flatT {K:GM} {H:Hp} {n:Nat} {x y:V} (fx:dB x=true) (fy:dB y=true) (e:eR x y=true):aN K H n x y true:=e▸aN.flat fx fy
theorem Rp.eqD {K:GM} {H0 H:Hp} (s:ae H0 H):∀ (n:Nat) (t:Lt) {v u:V},iD t<=n->R0 H0 t v->Rp H0 H t u->aN K H n v u true
 | n,.int i,v,u,_,h,k=>by
  unfold R0 Rp at h
  unfold Rp at k
  rw [h,k]
  exact aN.flatT rfl rfl (xQ i)
 | n,.str i,v,u,_,h,k=>by
  unfold R0 Rp at h
  unfold Rp at k
  rw [h,k]
  exact aN.flatT rfl rfl (xN i)
 | 0,.lst ts,v,u,hd,h,k=>absurd hd (by unfold iD; lia)
 | 0,.tup ts,v,u,hd,h,k=>absurd hd (by unfold iD; lia)
 | n+1,.lst ts,v,u,hd,h,k=>by
  unfold R0 Rp at h
  unfold Rp at k
  unfold iD at hd
  obtain ⟨a,xs,rfl,_,ha,r⟩:=h
  obtain ⟨b,ys,rfl,hb0,hb,r'⟩:=k
  refine aN.lstT (az ha hb0) (aq.of (s _ _ ha)) (aq.of hb) (by rw [r.length,r'.length]) fun j x y hx hy=>?_
  obtain ⟨t,ht,rt⟩:=r.get' hx
  obtain ⟨t',ht',rt'⟩:=r'.get' hy
  rw [ht] at ht'
  cases ht'
  exact Rp.eqD s n t (Hm (iV ht) (by lia)) rt rt'
 | n+1,.tup ts,v,u,hd,h,k=>by
  unfold R0 Rp at h
  unfold Rp at k
  unfold iD at hd
  obtain ⟨a,xs,rfl,_,ha,r⟩:=h
  obtain ⟨b,ys,rfl,hb0,hb,r'⟩:=k
  refine aN.tupT (az ha hb0) (bQ.of (s _ _ ha)) (bQ.of hb) (by rw [r.length,r'.length]) fun j x y hx hy=>?_
  obtain ⟨t,ht,rt⟩:=r.get' hx
  obtain ⟨t',ht',rt'⟩:=r'.get' hy
  rw [ht] at ht'
  cases ht'
  exact Rp.eqD s n t (Hm (iV ht) (by lia)) rt rt'
theorem zX {K:GM} {H0 H:Hp} {t:Lt} {v u:V} {Q:VK} (s:ae H0 H) (hd:iD t<=100) (h:R0 H0 t v) (k:Rp H0 H t u) (q:Q (.bl false) H):EE v u H Q\/ve K true v u H Q:=by
 have d:=Rp.eqD (K:=K) s 100 t hd h k
 cases t with
 | int i =>
  unfold R0 Rp at h
  unfold Rp at k
  rw [h,k]
  exact .inl ⟨rfl,by rw [decide_eq_true rfl]; exact q⟩
 | str i =>
  unfold R0 Rp at h
  unfold Rp at k
  rw [h,k]
  exact .inl ⟨rfl,by rw [decide_eq_true rfl]; exact q⟩
 | lst ts =>
  unfold R0 Rp at h
  unfold Rp at k
  obtain ⟨a,xs,rfl,_,ha,r⟩:=h
  obtain ⟨b,ys,rfl,hb0,hb,r'⟩:=k
  exact .inr ⟨100,true,by decide,d,⟨a,b,rfl,rfl,az ha hb0⟩,q⟩
 | tup ts =>
  unfold R0 Rp at h
  unfold Rp at k
  obtain ⟨a,xs,rfl,_,ha,r⟩:=h
  obtain ⟨b,ys,rfl,hb0,hb,r'⟩:=k
  exact .inr ⟨100,true,by decide,d,⟨a,b,rfl,rfl,az ha hb0⟩,q⟩
noncomputable def bE (ns:List Int):Lt:=.lst (ns.map .int)
noncomputable def zG (p:Pair):Lt:=.tup [.int p.1,.int p.2]
noncomputable def jQ (ps:List Pair):Lt:=.lst (ps.map zG)
noncomputable def lO (rs:List (List Int)):Lt:=.lst (rs.map bE)
theorem jR {H0 H:Hp}:∀ {ns:List Int} {xs:List V},aJ H0 H (ns.map .int) xs->xs=ns.map V.int
 | [],xs,h=>by unfold Kc aJ at h; rw [h]; rfl
 | n::ns,xs,h=>by
  unfold Kc aJ at h
  obtain ⟨v,vs,rfl,r,rs⟩:=h
  unfold Rp at r
  rw [r,jR rs]
  rfl
theorem bW {H0 H:Hp} {ns:List Int} {v:V} (h:Rp H0 H (bE ns) v):∃ p,v = .ref p/\H0 p=none/\H p=some (.lst (ns.map V.int)):=by
 unfold bE Rp at h
 obtain ⟨a,xs,rfl,h0,ha,r⟩:=h
 rw [jR r] at ha
 exact ⟨a,rfl,h0,ha⟩
theorem jW {H0 H:Hp} {ns:List Int} {p:GC} (h0:H0 p=none) (h:H p=some (.lst (ns.map V.int))):Rp H0 H (bE ns) (.ref p):=by
 unfold bE Rp
 refine ⟨p,_,rfl,h0,h,?_⟩
 clear h
 induction ns with
 | nil=>unfold Kc aJ; rfl
 | cons n ns ih=>unfold Kc aJ; exact ⟨_,_,rfl,by unfold Rp; rfl,ih⟩
theorem sC {H0 H:Hp}:∀ {ps:List Pair} {xs:List V},aJ H0 H (ps.map zG) xs->b7 H xs ps
 | [],xs,h=>by unfold Kc aJ at h; rw [h]; exact .nil
 | p::ps,xs,h=>by
  unfold Kc aJ at h
  obtain ⟨v,vs,rfl,r,rs⟩:=h
  unfold zG Rp at r
  obtain ⟨a,ys,rfl,_,ha,l⟩:=r
  have e:ys=[p.1,p.2].map V.int:=jR (H0:=H0) (H:=H) l
  rw [e] at ha
  exact .cons ⟨a,rfl,ha⟩ (sC rs)
theorem lX {H0 H:Hp} {ps:List Pair} {v:V} (h:Rp H0 H (jQ ps) v):∃ p,v = .ref p/\dw H p ps:=by
 unfold jQ Rp at h
 obtain ⟨a,xs,rfl,h0,ha,r⟩:=h
 exact ⟨a,rfl,xs,ha,sC r⟩
theorem sM {H0 H:Hp} {a:GC} {zs:List V} (ha:H a=some (.lst zs)) (hz:∀ ns:List Int,zs≠ns.map V.int):∀ {rs:List (List Int)} {xs:List V},aJ H0 H (rs.map bE) xs->∃ bs:List GC,xs=bs.map V.ref/\aK (fun _=>none) H a bs rs
 | [],xs,h=>by unfold Kc aJ at h; rw [h]; exact ⟨[],rfl,.nil⟩
 | r::rs,xs,h=>by
  unfold Kc aJ at h
  obtain ⟨v,vs,rfl,p,k⟩:=h
  obtain ⟨bs,rfl,ro⟩:=sM ha hz k
  obtain ⟨b,rfl,_,hb⟩:=bW p
  exact ⟨b::bs,rfl,.cons ⟨hb,rfl,hJ hb ha fun z=>hz r (by injection z with z; exact z.symm)⟩ ro⟩
theorem iG {H:Hp} {a:GC}:∀ {bs:List GC} {rs:List (List Int)},aK (fun _=>none) H a bs rs->rs.Nodup->bs.Nodup
 | _,_,.nil,_=>Jp
 | _,_,.cons (a:=b) (l₁:=bs) r ro,h=>by
  rw [HF] at h
  refine HF.mpr ⟨fun z=>h.1 ?_,iG ro h.2⟩
  clear h
  induction ro with
  | nil=>cases z
  | cons q _ ih =>
   rcases GI.mp z with e | e
   ·subst e
    have e2:=r.1.symm.trans q.1
    injection e2 with e2
    injection e2 with e2
    rw [List.map_inj_right (fun x y e=>by injection e)] at e2
    rw [e2]
    exact GY ..
   ·exact GJ _ (ih e)
theorem sT {H0 H:Hp} {rs:List (List Int)} {v:V} (h:Rp H0 H (lO rs) v) (nd:rs.Nodup):∃ p,v = .ref p/\cA (fun _=>none) H p rs:=by
 unfold lO Rp at h
 obtain ⟨a,xs,rfl,h0,ha,r⟩:=h
 cases rs with
 | nil =>
  unfold Kc aJ at r
  rw [r] at ha
  exact ⟨a,rfl,cA.nil ha⟩
 | cons q qs =>
  have hz:∀ ns:List Int,xs≠ns.map V.int:=fun ns z=>by
   unfold Kc aJ at r
   obtain ⟨v,vs,rfl,p,k⟩:=r
   obtain ⟨b,rfl,_,hb⟩:=bW p
   cases ns with
   | nil=>cases z
   | cons n ns=>injection z with z _; cases z
  obtain ⟨bs,rfl,ro⟩:=sM ha hz r
  exact ⟨a,rfl,bs,ha,ro,iG ro nd⟩
noncomputable def gq:List Str:=["brackets","stairs","twins","bows","rooms","floor","turns","codes","trees","cars"]
noncomputable def wd (i:Nat):Str:=pick "" gq i
noncomputable def bo (i:Nat):Int:=if i < 7 then 0 else 1
noncomputable def Ci:List Str:=[")(","(","(x","())(","( )","()()((("]
noncomputable def By:List (List Int):=[[1],[0,1,0],[0,2],[-1],[0,0,3],[0,1,2,1]]
noncomputable def uZ:List (List Pair):=[[(0,2),(1,3)],[(1,2),(0,3)],[(0,0)],[(1,2)],[(0,3),(2,1)],[(0,1),(1,2)]]
noncomputable def oG:List (List (List Int)):=[[[0,2],[1,3]],[[]],[[1],[0]],[[1,0]],[[0],[2]],[[0,1],[1]]]
noncomputable def mY:List (Int × List Pair):=[(5,[(0,2),(1,3)]),(5,[(1,4),(1,3)]),(4,[]),(4,[(0,1)]),(4,[(0,3)]),(1,[])]
noncomputable def ur:List (List Int):=[[2,0,1],[0,0],[1],[0,2],[3,0,1,2],[-1]]
noncomputable def uB:List (List Int):=[[3],[-1],[0,4],[4,0],[0,-1],[10 ^ 59]]
noncomputable def vC:List (List Int):=[[],[1],[2,1],[0,3],[0,-1],[2,3,2,0]]
noncomputable def vK:List (List Int):=[[],[1],[1,1],[0,2],[-1,0],[2,0,2]]
noncomputable def rQ (p:Int × List Pair):Lt:=.tup [.int p.1,jQ p.2]
noncomputable def cR (i:Nat):List Lt:=pick [] [Ci.map .str,By.map bE,[],uZ.map jQ,oG.map lO,mY.map rQ,ur.map bE,uB.map bE,vC.map bE,vK.map bE] i
noncomputable def dv (i:Nat):Lt:=pick (.int 0) [.str "",bE [],.tup [],jQ [],lO [],rQ (2,[]),bE [],bE [],bE [0],bE [0]] i
def IsT (i:Nat) (H:Hp) (v:V) (b:Bool):Prop:=match i with
 | 0=>∃ y:Str,v = .str y/\c8 0 y.cps.toList=b
 | 1=>∃ (p:GC) (rs:List Int),v = .ref p/\H p=some (.lst (rs.map V.int))/\gP 0 0 rs=b
 | 2=>true=b
 | 3=>∃ (l:GC) (ps:List Pair),v = .ref l/\dw H l ps/\ps.length<=20/\dy ps=b
 | 4=>∃ (l:GC) (H0:Hp) (rs:List (List Int)),v = .ref l/\cA H0 H l rs/\rs.length<=20/\rs.flatten.length < 64/\(∀ r∈rs,r.length < 64)/\dm rs=b
 | 5=>∃ (t l:GC) (c:Int) (ps:List Pair),v = .ref t/\H t=some (.tup [.int c,.ref l])/\dw H l ps/\ps.length<=20/\ps.Nodup/\(∀ p∈ps,Sx.Lo p)/\jn c ps=b
 | 6=>∃ (l:GC) (ns:List Int),v = .ref l/\H l=some (.lst (ns.map V.int))/\ns.length < 64/\lH ns=b
 | 7=>∃ (l:GC) (ns:List Int),v = .ref l/\H l=some (.lst (ns.map V.int))/\ns.length < 64/\EI ns=b
 | 8=>∃ (l:GC) (ns:List Int),v = .ref l/\H l=some (.lst (ns.map V.int))/\ns.length < 64/\jG ns=b
 | _=>∃ (l:GC) (ns:List Int),v = .ref l/\H l=some (.lst (ns.map V.int))/\ns.length < 64/\fZ ns=b
theorem qy {H0 H:Hp} {c:Int} {ps:List Pair} {v:V} (h:Rp H0 H (rQ (c,ps)) v):∃ t l,v = .ref t/\H t=some (.tup [.int c,.ref l])/\dw H l ps:=by
 unfold rQ Rp at h
 obtain ⟨t,xs,rfl,_,ht,r⟩:=h
 unfold aJ at r
 obtain ⟨v1,vs1,rfl,r1,r⟩:=r
 unfold aJ at r
 obtain ⟨v2,vs2,rfl,r2,r⟩:=r
 unfold aJ at r
 subst r
 unfold Rp at r1
 subst r1
 obtain ⟨l,rfl,hl⟩:=lX r2
 exact ⟨t,l,rfl,ht,hl⟩
theorem get_map {α:Type} {f:α->Lt} {l:List α} {j:Nat} {t:Lt} (h:(l.map f)[j]? = some t):∃ a∈l,t=f a:=by
 obtain ⟨a,ha,rfl⟩:=HV.mp (GR h)
 exact ⟨a,ha,rfl⟩
theorem w6 {H0 H:Hp} {i j:Nat} {t:Lt} {v:V} (ht:(cR i)[j]? = some t) (h:Rp H0 H t v):IsT i H v false:=by
 match i,ht with
 | 0,ht =>
  obtain ⟨y,hy,rfl⟩:=get_map (f:=Lt.str) (l:=Ci) ht
  unfold Rp at h
  exact ⟨y,h,AL y hy⟩
 | 1,ht =>
  obtain ⟨y,hy,rfl⟩:=get_map (f:=bE) (l:=By) ht
  obtain ⟨p,e,_,hp⟩:=bW h
  exact ⟨p,y,e,hp,Cq y hy⟩
 | 2,ht=>cases ht
 | 3,ht =>
  obtain ⟨y,hy,rfl⟩:=get_map (f:=jQ) (l:=uZ) ht
  obtain ⟨p,e,hp⟩:=lX h
  exact ⟨p,y,e,hp,(by decide:∀ y∈uZ,y.length<=20) y hy,BR y hy⟩
 | 4,ht =>
  obtain ⟨y,hy,rfl⟩:=get_map (f:=lO) (l:=oG) ht
  obtain ⟨p,e,hp⟩:=sT h ((by decide:∀ y∈oG,y.Nodup) y hy)
  have b:=(by decide:∀ y∈oG,y.length<=20/\y.flatten.length < 64/\∀ r∈y,r.length < 64) y hy
  exact ⟨p,_,y,e,hp,b.1,b.2.1,b.2.2,z6 y hy⟩
 | 5,ht =>
  obtain ⟨y,hy,rfl⟩:=get_map (f:=rQ) (l:=mY) ht
  obtain ⟨p,l,e,hp,hl⟩:=qy h
  exact ⟨p,l,y.1,y.2,e,hp,hl,(by decide:∀ y∈mY,y.2.length<=20) y hy,(by decide:∀ y∈mY,y.2.Nodup) y hy,fun x hx=>(by unfold Sx.Lo; decide:∀ y∈mY,∀ p∈y.2,Sx.Lo p) y hy x hx,yx y hy⟩
 | 6,ht =>
  obtain ⟨y,hy,rfl⟩:=get_map (f:=bE) (l:=ur) ht
  obtain ⟨p,e,_,hp⟩:=bW h
  exact ⟨p,y,e,hp,(by decide:∀ y∈ur,y.length < 64) y hy,Cp y hy⟩
 | 7,ht =>
  obtain ⟨y,hy,rfl⟩:=get_map (f:=bE) (l:=uB) ht
  obtain ⟨p,e,_,hp⟩:=bW h
  exact ⟨p,y,e,hp,(by decide:∀ y∈uB,y.length < 64) y hy,CK y hy⟩
 | 8,ht =>
  obtain ⟨y,hy,rfl⟩:=get_map (f:=bE) (l:=vC) ht
  obtain ⟨p,e,_,hp⟩:=bW h
  exact ⟨p,y,e,hp,(by decide:∀ y∈vC,y.length < 64) y hy,zo y hy⟩
 | 9,ht =>
  obtain ⟨y,hy,rfl⟩:=get_map (f:=bE) (l:=vK) ht
  obtain ⟨p,e,_,hp⟩:=bW h
  exact ⟨p,y,e,hp,(by decide:∀ y∈vK,y.length < 64) y hy,A0 y hy⟩
 | n+10,ht=>cases ht
theorem uu {H0 H:Hp} {i:Nat} {v:V} (hi:i < 10) (h:Rp H0 H (dv i) v):IsT i H v true:=by
 match i,hi,h with
 | 0,_,h =>
  have h:v = .str "":=by unfold dv at h; simpa [pick,Rp] using h
  exact ⟨_,h,rfl⟩
 | 1,_,h=>obtain ⟨p,e,_,hp⟩:=bW (ns:=[]) h; exact ⟨p,[],e,hp,rfl⟩
 | 2,_,h=>exact rfl
 | 3,_,h=>obtain ⟨p,e,hp⟩:=lX (ps:=[]) h; exact ⟨p,[],e,hp,by decide,by decide⟩
 | 4,_,h=>obtain ⟨p,e,hp⟩:=sT (rs:=[]) h Jp; exact ⟨p,_,[],e,hp,by decide,by decide,by decide,by decide⟩
 | 5,_,h=>obtain ⟨p,l,e,hp,hl⟩:=qy h; exact ⟨p,l,2,[],e,hp,hl,by decide,Jp,(fun x hx=>by cases hx),by decide⟩
 | 6,_,h=>obtain ⟨p,e,_,hp⟩:=bW (ns:=[]) h; exact ⟨p,[],e,hp,by decide,by decide⟩
 | 7,_,h=>obtain ⟨p,e,_,hp⟩:=bW (ns:=[]) h; exact ⟨p,[],e,hp,by decide,by decide⟩
 | 8,_,h=>obtain ⟨p,e,_,hp⟩:=bW (ns:=[0]) h; exact ⟨p,[0],e,hp,by decide,by decide⟩
 | 9,_,h=>obtain ⟨p,e,_,hp⟩:=bW (ns:=[0]) h; exact ⟨p,[0],e,hp,by decide,by decide⟩
def jC (H0 H:Hp) (p:GC) (ws:List (Str × List Lt)):Prop:=∃ kvs,H p=some (.dK kvs)/\Ir (fun (kv:Key × V) (w:Str × List Lt)=>kv.1 = .inr w.1/\Rp H0 H (.lst w.2) kv.2) kvs ws
theorem jC.keys {H0 H:Hp} {p:GC}:∀ {kvs:List (Key × V)} {ws:List (Str × List Lt)},Ir (fun (kv:Key × V) (w:Str × List Lt)=>kv.1 = .inr w.1/\Rp H0 H (.lst w.2) kv.2) kvs ws->∀ {k:Str},k∉ws.map (·.1)->(kvs.any fun kv=>decide (kv.1 = .inr k))=false
 | _,_,.nil,k,h=>rfl
 | _,_,.cons r t,k,h=>by
  rw [G6,GI,not_or] at h
  rw [Jk,jC.keys (p:=p) t h.2,r.1,decide_eq_false (fun z=>h.1 (by injection z with z; exact z.symm))]
  rfl
theorem jC.put {H0 H H1:Hp} {p:GC} {ws:List (Str × List Lt)} (h:jC H0 H p ws) (s:ae H H1) (s0:ae H0 H) {k:Str} (nk:k∉ws.map (·.1)) (hl:ws.length<=100) {t:List Lt} {v:V} (r:Rp H H1 (.lst t) v) (h0:H0 p=none) :
  ∃ H2,jX H1 p (.str k) v H2/\ae H0 H2/\jC H0 H2 p (ws++[(k,t)]):=by
 obtain ⟨kvs,hp,pr⟩:=h
 have hp1:=s _ _ hp
 have e:putK kvs (.inr k) v=kvs++[(.inr k,v)]:=by
  unfold putK
  rw [jC.keys (p:=p) pr nk,if_neg (by decide)]
 refine ⟨_,jX.k (k:=.inr k) hp1 (by rw [IG pr]; exact sA (by lia)),((s0.trans s).upd h0 _),?_⟩
 rw [e]
 refine ⟨_,ag,gg (Paired.mapP pr fun kv w z=>⟨z.1,(z.2.same s).updD hp1⟩) (.cons ⟨rfl,((r.since s0).updD hp1)⟩ .nil)⟩
theorem jC.at {H0 H:Hp} {p:GC} {ws:List (Str × List Lt)} (h:jC H0 H p ws) {k:Str} {t:List Lt} (hk:ws.lookup k=some t):∃ v,fg H p (.str k) (some v)/\Rp H0 H (.lst t) v:=by
 obtain ⟨kvs,hp,pr⟩:=h
 have:∃ v,cQ kvs (.inr k:Key)=some v/\Rp H0 H (.lst t) v:=by
  clear hp
  induction pr with
  | nil=>cases hk
  | @cons kv w _ _ r _ ih =>
   obtain ⟨w1,w2⟩:=w
   rw [Lu] at hk
   unfold cQ
   rw [Jf]
   cases e:(k == w1) with
   | true =>
    rw [e] at hk
    cases hk
    have e':k=w1:=by simpa using e
    subst e'
    rw [r.1]
    refine ⟨kv.2,?_,r.2⟩
    rw [decide_eq_true rfl]
    rfl
   | false =>
    rw [e] at hk
    have e':¬ kv.1 = .inr k:=by rw [r.1]; intro z; injection z with z; have z:w1=k:=z; rw [z] at e; simp at e
    rw [decide_eq_false e']
    exact ih hk
 obtain ⟨v,hv,r⟩:=this
 exact ⟨v,hv▸fg.k (k:=.inr k) hp,r⟩
end Ck
namespace L2
open PySem PySem.Spec PyProof.Rows
end L2
namespace L2
open PySem PySem.Spec PyProof.Rows
end L2
namespace L2
open PySem PySem.Spec PyProof.Rows PySem.Builtin PySem.Builtin.Str
end L2
namespace L2
open PySem PySem.Spec PyProof.Rows
noncomputable def xB:V->List V->Hp->VK->Prop:=fun x vs H Q=>∃ z y,x = .str z/\vs=[.str y]/\Q (.bl (K1 z y)) H
theorem sR {X:Cx}:jw X "str.startswith" xB:=by
 intro pins s σ H x xs v us Q I rx rs h
 obtain ⟨z,y,rfl,rfl,q⟩:=h
 obtain ⟨t,rfl⟩:=rx
 obtain ⟨u,rfl,t',rfl⟩:=vals1 rs
 exact SC.startswith ⟨.bl (K1 z y),H,I,rfl,q⟩
noncomputable def yR:V->List V->Hp->VK->Prop:=fun x vs H Q=>∃ z,x = .str z/\vs=[]/\z.length<=5592405/\Q (.str (Txt.upper z)) H
theorem uF {X:Cx}:jw X "str.upper" yR:=by
 intro pins s σ H x xs v us Q I rx rs h
 obtain ⟨z,rfl,rfl,hz,q⟩:=h
 obtain ⟨t,rfl⟩:=rx
 cases rs
 exact SCL.upper hz fun _=>⟨.str (Txt.upper z),H,I.tok _,⟨_,rfl⟩,q⟩
end L2
namespace L2
open PySem PySem.Spec PyProof.Rows PySem.W
noncomputable def EH:List Str:=["KinError","NoSize","NoNumber","NoThing","NoFamily","NoWay","Apart","NoMark","NoText","Broken"]
noncomputable def uD (K:LS) (is:List Nat) (er:Nat->GC):Bool :=
 is.all fun i=>excIn K (er i) vP "ValueError.__new__"&&(qo K (er i)&&(exmOne K (.ref (er i)) (.ref (er 0)) == some true&&(kitOne K (.ref (er i)) (.type "ValueError") == some true &&
  [1,2,3,4,5,6,7,8,9].all fun j=>kitOne K (.ref (er i)) (.ref (er j)) == some (decide (i=j)))))
structure AU (K:LS) (mg:Str->Option Da) (is:List Nat) (er:Nat->GC):Prop where
 m:∀ i,i < 10->mg (pick "" EH i)=some (.ref (er i))
 x:∀ i∈is,pQ K (er i)
 k:∀ i∈is,dX K (er i)
 c:∀ i∈is,exmOne K (.ref (er i)) (.ref (er 0))=some true
 v:∀ i∈is,kitOne K (.ref (er i)) (.type "ValueError")=some true
 d:∀ i∈is,∀ j∈[1,2,3,4,5,6,7,8,9],i≠j->kitOne K (.ref (er i)) (.ref (er j))=some false
 e:∀ i∈is,i∈[1,2,3,4,5,6,7,8,9]->kitOne K (.ref (er i)) (.ref (er i))=some true
theorem xl {K:LS} {mg:Str->Option Da} {is:List Nat} {er:Nat->GC} (h:uD K is er=true) (m:∀ i,i < 10->mg (pick "" EH i)=some (.ref (er i))):AU K mg is er:=by
 unfold uD at h
 rw [GW] at h
 have g:∀ i∈is,excIn K (er i) vP "ValueError.__new__" = true/\qo K (er i)=true/\exmOne K (.ref (er i)) (.ref (er 0))=some true/\kitOne K (.ref (er i)) (.type "ValueError")=some true/\∀ j∈[1,2,3,4,5,6,7,8,9],kitOne K (.ref (er i)) (.ref (er j))=some (decide (i=j)):=fun i hi=>by
  have q:=h i hi
  rw [GN,GN,GN,GN,beq_iff_eq,beq_iff_eq,GW] at q
  exact ⟨q.1,q.2.1,q.2.2.1,q.2.2.2.1,fun j hj=>beq_iff_eq.mp (q.2.2.2.2 j hj)⟩
 exact ⟨m,fun i hi=>(g i hi).1,fun i hi=>xa (g i hi).2.1,fun i hi=>(g i hi).2.2.1,fun i hi=>(g i hi).2.2.2.1,fun i hi j hj ne=>by rw [(g i hi).2.2.2.2 j hj,decide_eq_false ne],fun i hi hi'=>by rw [(g i hi).2.2.2.2 i hi',decide_eq_true rfl]⟩
structure uh (P:GQ) (w:Hh) (K:GM) (mg:Str->Option Da) (base:HY) (ps:List Str) (k:Nat) (sp:Sp) (f:GC) (fd:Hz):Prop where
 ok:bj P w K mg base (dR P w) k f fd ps sp
 b:Binds K fd ps []
 kp:W.keepIn K (.ref f)=true
theorem Def.v {P:GQ} {w:Hh} {K:GM} {mg:Str->Option Da} {base:HY} {x:Str} {ps:List Str} {j k:Nat} {sp sp':Sp} {f:GC} {fd:Hz} (d:Def P w K mg base x ps j sp f fd) (h:∀ vs H Q E,sp' vs H Q E->sp vs H Q E) (hj:j<=k:=by decide):uh P w K mg base ps k sp' f fd:=⟨(d.ok.imp h).mono hj,d.b,d.kp⟩
theorem fh {P:GQ} {w:Hh} {K:GM} {mg:Str->Option Da} {base:HY} {ps:List Str} {j k:Nat} {sp sp':Sp} {f:GC} {fd:Hz} (d:dj P w K mg base ps j sp f fd) (h:∀ vs H Q E,sp' vs H Q E->sp vs H Q E) (hj:j<=k:=by decide):dj P w K mg base ps k sp' f fd:=⟨(d.ok.imp h).mono hj,d.b⟩
section
variable {X:Cx} {M:Nat} {f:Nat->GC} {fd:Nat->Hz} {ps:List Str} {sp:Nat->Sp} {p pos:Pos} {a b e:HZ} {es:List HZ} {tc:TE} {t:TA} {j k:Nat}
noncomputable def Aq (M:Nat) (f:Nat->GC) (sp:Nat->Sp) (E:XK) (tc:TE) (t:TA):TE:=fun σ H Q=>tc σ H fun v H1=>∃ i,i < M/\v = .ref (f i)/\t σ H1 fun vs H2=>sp i vs H2 Q E
theorem zN {E:XK} (T:kh X E) (hc:PE X (.Subscript a b p) tc) (D:∀ i,i < M->uh X.prog X.w X.K X.mg X.base ps j (sp i) (f i) (fd i)) (hr:aQ k X.A) (ha:PA X (e::es) t) (hjk:j<=k:=by decide)
  (he:starEach (e::es) X.env=(false,eval e X.env)::starEach es X.env:=by rfl) (hpl:(backTo pos (starEach es X.env)).any (·.1)=false:=by rfl) :
  PE X (.Call (.Subscript a b p) (e::es) [] pos) (Aq M f sp E tc t):=by
 intro pins s σ H Q I h
 show wpAny (model X.prog X.w) X.A (eval (.Subscript a b p) X.env >>= fun fv=>callWith pos fv [] (backTo pos (starEach (e::es) X.env)) (backToKw pos (keywordEach [] X.env))) _ _ _
 refine AC (ax (hc pins s σ H _ I h) fun u s1 ⟨v,H1,I1,rv,i,hi,ev,q⟩=>?_)
 subst ev
 obtain rfl:u=GL (f i):=rv
 refine W.callWith_K (first:=[]) (h₀:=X.base) I1.ok.mod.kin (D i hi).kp (ax (ha pos pins s1 σ H1 _ I1 q) fun us s2 ⟨vs,H2,I2,r,q2⟩=>⟨I2.kIn,?_⟩) he hpl
 have q3:sp i (vs++[]) H2 Q E:=by rw [Iv]; exact q2
 exact fA (D i hi).ok (hr.mono hjk) (D i hi).b .nil T.pass I2 r q3
end
end L2
namespace Ck
open PySem L2
theorem join_one (b y:Str):Txt.join b [y]=y:=rfl
theorem IsT.same {i:Nat} {H H':Hp} {v:V} {b:Bool} (h:IsT i H v b) (s:ae H H'):IsT i H' v b:=by
 unfold IsT at h |-
 split at h
 ·exact h
 ·obtain ⟨p,rs,e,hp,r⟩:=h; exact ⟨p,rs,e,s _ _ hp,r⟩
 ·exact h
 ·obtain ⟨p,rs,e,hp,r⟩:=h; exact ⟨p,rs,e,hp.same s,r⟩
 ·obtain ⟨p,H0,rs,e,hp,r⟩:=h; exact ⟨p,H0,rs,e,hp.same s,r⟩
 ·obtain ⟨t,l,c,ps,e,ht,hp,r⟩:=h; exact ⟨t,l,c,ps,e,s _ _ ht,hp.same s,r⟩
 ·obtain ⟨p,rs,e,hp,r⟩:=h; exact ⟨p,rs,e,s _ _ hp,r⟩
 ·obtain ⟨p,rs,e,hp,r⟩:=h; exact ⟨p,rs,e,s _ _ hp,r⟩
 ·obtain ⟨p,rs,e,hp,r⟩:=h; exact ⟨p,rs,e,s _ _ hp,r⟩
 ·obtain ⟨p,rs,e,hp,r⟩:=h; exact ⟨p,rs,e,s _ _ hp,r⟩
theorem cM {H H1:Hp} {x dx C:GC} {fs:List (Str × V)} {w:Str} {l:Int} (nx:H x=none) (ndx:H dx=none) (e:H1=upd (upd (upd H dx (.own x)) x (.ins C dx [])) x (.ins C dx fs)) (f:bO fs w l):ae H H1/\Ir (cP H1) [.ref x] [(w,C,l)] :=
 ⟨by rw [e]; exact ((ae.new (ae.refl H) ndx _).upd nx _).upd nx _,.cons ⟨x,dx,fs,rfl,by rw [e]; exact ag,f⟩ .nil⟩
theorem le_app {x y:Str} {a b:Nat} (hx:x.length<=a) (hy:y.length<=b):(x++y).length<=a+b:=by
 have:(x++y).length=x.length+y.length:=by
  show (x.cps++y.cps).size=x.cps.size+y.cps.size
  exact Array.size_append
 rw [this]
 exact LX hx hy
theorem dg {x y a b:Nat} (hx:x<=a) (hy:y<=b) (h:a+b<=1000):x+y<=sizeLine:=Hm (LX hx hy) (Hm h (by decide))
theorem tP (i:Nat) (hi:i < 10) (s:Str):K1 (wd i++tz " "++s) (wd i++tz " ")=true:=by
 rw [W.KAf.starts_left (GF _)]
 exact bc.get (n:=10) (p:=fun i=>K1 (wd i++tz " ") (wd i++tz " ")=true) (by simp only [bc]; decide +kernel) i hi
end Ck
namespace Ck
open PySem L2
noncomputable def iu (v:HZ):Option (List Lt):=match litOf 8 v with
 | some (.lst t)=>some t
 | _=>none
noncomputable def hZ:Il->Option (Str × List Lt)
 | .Assign [.Name x _] (.Dict [some (.Constant (.str k) _ _)] [v] _) _=>if x = "_law_some" then (iu v).map fun t=>(k,t) else none
 | _=>none
noncomputable def qz:Il->Option (Str × List Lt)
 | .Assign [.Subscript (.Name x _) (.Constant (.str k) _ _) _] v _=>if x = "_law_some" then (iu v).map fun t=>(k,t) else none
 | _=>none
noncomputable def wJ:Il->Bool
 | .Return (some (.Subscript (.Subscript (.Name x _) (.Name y _) _) (.BinOp (.Name z _) .Mod (.Constant (.int n) _ _) _) _)) _=>decide (x = "_law_some")&&(decide (y = "_law_word")&&(decide (z = "_law_draw")&&decide (n=6)))
 | _=>false
noncomputable def eQ:List Il->Option (List (Str × List Lt))
 | []=>none
 | s::r=>if wJ s=true/\r=[] then some [] else match qz s,eQ r with
  | some w,some ws=>some (w::ws)
  | _,_=>none
noncomputable def BV:List Il->Option (List (Str × List Lt))
 | []=>none
 | s::r=>match hZ s,eQ r with
  | some w,some ws=>some (w::ws)
  | _,_=>none
structure EB (X:Cx):Prop where
 nd:X.N.Nodup
 n0:X.N[(0:Nat)]? = some ("_law_word" : Str)
 n1:X.N[(1:Nat)]? = some ("_law_draw" : Str)
 n2:X.N[(2:Nat)]? = some ("_law_some" : Str)
 v0:kO X.env.scope "_law_word"
 v1:kO X.env.scope "_law_draw"
 v2:kO X.env.scope "_law_some"
 lc:Loc X.env.scope "_law_some"
 lf:X.fn "_law_some" = true\/X.env.scope.names.lookup ("_law_some" : Str)=some .local
 hu:X.A.units+1 < cLine
theorem iN {X:Cx} {b:List Il} {t u:TS} (h:c7 X b t) (k:∀ D σ H,u D σ H->t D σ H):c7 X b u:=fun pins s σ H D I z=>h pins s σ H D I (k D σ H z)
noncomputable def D4 (ws:List (Str × List Lt)):TS:=fun D σ H=>∃ (H0:Hp) (p:GC) (ws0:List (Str × List Lt)) (w:Str) (d:Int) (ts:List Lt) (t0:Lt),σ[0]? = some (some (.str w))/\σ[1]? = some (some (.int d))/\σ[2]? = some (some (.ref p))/\ae H0 H/\H0 p=none/\jC H0 H p ws0/\((ws0++ws).map (·.1)).Nodup/\(ws0++ws).length<=100 /\
 (ws0++ws).lookup w=some ts/\ts[(d % 6).toNat]? = some t0/\∀ (v:V) (H':Hp),ae H0 H'->Rp H0 H' t0 v->D.rt v H'
theorem DX {H0 H:Hp} {ts:List Lt} {v:V} (h:Rp H0 H (.lst ts) v) {k:Int} {t:Lt} (k0:0<=k) (ht:ts[k.toNat]? = some t):∃ w,(∃ b xs,v = .ref b/\H b=some (.lst xs)/\eV xs k=some w)/\Rp H0 H t w:=by
 unfold Rp at h
 obtain ⟨b,xs,rfl,_,hb,r⟩:=h
 obtain ⟨w,hw,rw'⟩:=r.get ht
 refine ⟨w,⟨b,xs,rfl,hb,?_⟩,rw'⟩
 obtain ⟨j,rfl⟩:∃ j:Nat,k=(j:Int):=⟨_,(Int.toNat_of_nonneg k0).symm⟩
 exact g7 hw
theorem jf {v:HZ} {t:List Lt} (h:iu v=some t):litOf 8 v=some (.lst t):=by
 unfold iu at h
 split at h
 ·rename_i e
  cases h
  exact e
 ·cases h
theorem nZ {X:Cx} (A:EB X):∀ (b:List Il) (ws:List (Str × List Lt)),eQ b=some ws->c7 X b (D4 ws)
 | [],ws,h=>by cases h
 | s::r,ws,h=>by
  unfold eQ at h
  split at h
  ·rename_i c
   cases h
   obtain ⟨c,rfl⟩:=c
   unfold wJ at c
   split at c
   ·rename_i x p1 y p2 p3 z p4 n k p5 p6 p7 p8
    simp only [GN,decide_eq_true_iff] at c
    obtain ⟨rfl,rfl,rfl,rfl⟩:=c
    refine iN (ah (ar (a8 aZ (xb A.hu (gL A.n2 A.v2) (gL A.n0 A.v0) (fun _ _=>rfl)) (au bg (gL A.n1 A.v1) ak) (fun _ _=>rfl)))) fun D σ H z=>?_
    obtain ⟨H0,p,ws0,w,d,ts,t0,e0,e1,e2,s0,hp,dl,nd,ln,lk,ht,q⟩:=z
    rw [Iv] at lk
    obtain ⟨v,gv,rv⟩:=dl.at lk
    obtain ⟨u,⟨b,xs,rfl,hb,ex⟩,ru⟩:=DX rv (k:=d % 6) (HQ d (by decide)) ht
    exact ⟨_,e2,_,e0,p,_,rfl,gv,_,e1,_,_,rfl,rfl,pm (by decide),b,_,_,_,rfl,rfl,aq.of hb,ex,q _ _ s0 ru⟩
   ·cases c
  ·cases h1:qz s with
   | none=>rw [h1] at h; cases h
   | some w1 =>
    cases h2:eQ r with
    | none=>rw [h1,h2] at h; cases h
    | some ws1 =>
     rw [h1,h2] at h
     cases h
     have ih:=nZ A r ws1 h2
     unfold qz at h1
     split at h1
     ·rename_i x p1 k k1 p2 p3 v p4 hz9
      split at h1
      ·rename_i e
       subst e
       cases hv:iu v with
       | none=>rw [hv] at h1; cases h1
       | some t =>
        rw [hv] at h1
        cases h1
        refine iN (aj (yj 8 (.lst t) A.hu (gL A.n2 A.v2) aw (jf hv)) ih) fun D σ H z=>?_
        obtain ⟨H0,p,ws0,w,d,ts,t0,e0,e1,e2,s0,hp,dl,nd,ln,lk,ht,q⟩:=z
        refine fun u H1 s1 r1=>⟨_,e2,?_⟩
        have nk:k∉ws0.map (·.1):=fun z=>by
         rw [G7,G6] at nd
         exact (Jd.mp nd).2.2 k z k (GY ..) rfl
        have l0:ws0.length<=100:=by rw [GZ] at ln; lia
        obtain ⟨H2,pu,k2,d2⟩:=dl.put s1 s0 nk l0 r1 hp
        exact ⟨p,H2,rfl,pu,H0,p,_,w,d,ts,t0,e0,e1,e2,k2,hp,d2,by rw [Iq]; exact nd,by rw [Iq]; exact ln,by rw [Iq]; exact lk,ht,q⟩
      ·cases h1
     ·cases h1
noncomputable def Gd (ws:List (Str × List Lt)):TS:=fun D σ H=>∃ (w:Str) (d:Int) (ts:List Lt) (t0:Lt),σ=[some (.str w),some (.int d),none]/\(ws.map (·.1)).Nodup/\ws.length<=100/\ws.lookup w=some ts/\ts[(d % 6).toNat]? = some t0/\∀ (v:V) (H':Hp),ae H H'->Rp H H' t0 v->D.rt v H'
theorem wZ {X:Cx} (A:EB X) {b:List Il} {ws:List (Str × List Lt)} (h:BV b=some ws):c7 X b (Gd ws):=by
 cases b with
 | nil=>cases h
 | cons s r =>
  have h:(match hZ s,eQ r with | some w,some ws=>some (w::ws) | _,_=>none)=some ws:=h
  cases h1:hZ s with
  | none=>rw [h1] at h; cases h
  | some w1 =>
   cases h2:eQ r with
   | none=>rw [h1,h2] at h; cases h
   | some ws1 =>
    rw [h1,h2] at h
    cases h
    have ih:=nZ A r ws1 h2
    unfold hZ at h1
    split at h1
    ·rename_i x p1 k k1 p2 v p3 p4
     split at h1
     ·rename_i e
      subst e
      cases hv:iu v with
      | none=>rw [hv] at h1; cases h1
      | some t =>
       rw [hv] at h1
       cases h1
       refine iN (aj (aB A.nd A.n2 A.lc (oA (dG aw (i9 8 v (.lst t) (jf hv)) nO) rfl rfl (List.cons_ne_nil _ _) (by show 1<=15; decide)) rfl A.lf) ih) fun D σ H z=>?_
       obtain ⟨w,d,ts,t0,rfl,nd,ln,lk,ht,q⟩:=z
       refine fun p hp u H1 s1 r1=>⟨s1 _ _ ag,[(.inr k,u)],rfl,(by show 1<=15; decide),?_⟩
       have s0:=(ae.new (ae.refl H) hp (.dK [])).trans s1
       exact ⟨H,p,[(k,t)],w,d,ts,t0,rfl,rfl,rfl,s0.upd hp _,hp,⟨_,ag,.cons ⟨rfl,(r1.since (ae.new (ae.refl H) hp (.dK []))).updD (s1 _ _ ag)⟩ .nil⟩,nd,ln,lk,ht,q⟩
     ·cases h1
    ·cases h1
end Ck
namespace Ck
open PySem PySem.W PySem.Calls PyProof.Rows
noncomputable def n8 {α:Type} (p q:GQ) (loose:List Str) (Xt:Fk->Bool) (Yf:Fk->α) (h0:HY) (s:Fk) :=
 ((staticsOk (importedModules p.main.body) h0 s.heap&&namesBound p s.heap&&gensDone s&&laidKept h0 s.heap),
  openSeen q loose (importedModules p.main.body) Xt true s,Yf s)
theorem qG {p q:GQ} {loose:List Str} {Xt:Fk->Bool} {α:Type} {Yf:Fk->α} {Ya:Hh->α} {N M m:Nat} {H:Ia->HY} {gs:Array Lh} {dr:Drawn} {tk:Nat} {an:Option Da}
  (o:∀ w:Hh,(fencedOpening treeTable p w N).map (fun s=>(s.heap,s.gens,s.drawn,s.toks))=some (H w.params,gs,dr,tk))
  (z:∀ w:Hh,((H w.params).isNs mainGlobals&&gs.size == 0,(H w.params).objs.size,(H w.params).nsMap mainGlobals "__annotations__")=(true,m,an))
  (r:∀ (w:Hh) (os:K2),∃ e,topRun treeTable p w m an M ⟨H w.params,gs,dr,tk,os⟩ (topStub p)=some e/\n8 p q loose Xt Yf (H w.params) e=(true,openGood q loose,Ya w))
  (le:M<=N):LeftO p q loose Xt Yf Ya N:=by
 intro w
 have ow:=o w
 cases hf:fencedOpening treeTable p w N with
 | none=>rw [hf] at ow; cases ow
 | some s =>
  rw [hf] at ow
  have os:=Hr ow
  have e1:s.heap=H w.params:=congrArg Mb os
  have e2:s.gens=gs:=congrArg (fun x=>x.2.1) os
  have e3:s.drawn=dr:=congrArg (fun x=>x.2.2.1) os
  have e4:s.toks=tk:=congrArg (fun x=>x.2.2.2) os
  obtain ⟨e,run,look⟩:=r w s.os
  have hs:s=⟨H w.params,gs,dr,tk,s.os⟩:=by rw [<- e1,<- e2,<- e3,<- e4]
  have run':=topRun_mono (N - M) _ _ _ _ run
  rw [Nat.add_sub_cancel' le] at run'
  have zw:=z w
  have z1:=congrArg Mb zw
  have z2:=congrArg (fun x=>x.2.1) zw
  have z3:=congrArg (fun x=>x.2.2) zw
  dsimp only at z1 z2 z3
  have l1:=congrArg Mb look
  have l2:=congrArg Prod.snd look
  have tf:topFrom treeTable p w N s=some e:=by
   rw [hs]
   unfold topFrom
   dsimp only
   rw [z1,z2,z3,run']
   unfold n8 at l1
   dsimp only at l1
   dsimp only [Option.bind]
   rw [l1]
  unfold openEnds
  rw [hf,Option.bind_some,tf]
  exact congrArg some l2
noncomputable def alive (o:Obj):Option Obj:=match o with
 | ⟨_,_,.freed,_⟩=>none
 | o=>some o
noncomputable def dN:List Obj->List Bool->List (Option Obj)
 | _,[]=>[]
 | [],true::m=>none::dN [] m
 | [],false::m=>dN [] m
 | o::os,true::m=>alive o::dN os m
 | _::os,false::m=>dN os m
noncomputable def gH:List Bool->Nat->List Nat
 | [],_=>[]
 | true::m,i=>i::gH m (i+1)
 | false::m,i=>gH m (i+1)
theorem j7:∀ (m:List Bool) (os:List Obj) (pre:List Obj),dN os m=(gH m pre.length).map fun a=>(pre++os)[a]?.bind alive
 | [],os,pre=>by cases os<;>rfl
 | b::m,[],pre=>by
  have k:=j7 m [] (pre++[default])
  rw [GZ,Kf] at k
  have e:∀ i,pre.length < i->((pre++[(default:Obj)])++[])[i]?.bind alive=(pre++[])[i]?.bind alive:=fun i hi=>by
   rw [Ie (by simp; lia),Ie (by simp; lia)]
  have lt:∀ (m:List Bool) (n i:Nat),i∈gH m n->n<=i:=by
   intro m
   induction m with
   | nil=>intro n i h; cases h
   | cons b m ih=>intro n i h; cases b with
    | true =>
     rcases GI.1 h with h | h
     ·lia
     ·have:=ih _ _ h; lia
    | false=>have:=ih _ _ h; lia
  have k':dN [] m=(gH m (pre.length+1)).map fun a=>(pre++[])[a]?.bind alive:=by
   rw [k]; exact JM fun i hi=>e i (lt _ _ _ hi)
  cases b with
  | true=>show none::dN [] m=_::_; rw [k']; congr 1; simp
  | false=>exact k'
 | b::m,o::os,pre=>by
  have k:=j7 m os (pre++[o])
  rw [GZ,Kf,Iq,List.singleton_append] at k
  cases b with
  | true=>show alive o::dN os m=_::_; rw [k]; congr 1; simp
  | false=>exact k
theorem tY (h:HY) (a:GC):h.get? a=h.objs.toList[a]?.bind alive:=by
 unfold Heap.get?
 rw [Iw]
 cases h.objs[a]? with
 | none=>rfl
 | some o=>obtain ⟨c,d,x,s⟩:=o; cases x<;>rfl
theorem ym {m:List Bool} {as:List GC} (e:as=gH m 0) (h:HY):as.map h.get? = dN h.objs.toList m:=by
 rw [j7 m h.objs.toList [],e]
 exact JM fun a _=>tY h a
section
variable {tb:String->Option Builtin} {p:GQ} {w:Hh} {m:Nat} {an:Option Da} {env:Env} {q:Pos}
noncomputable def j8 {β:Type} (tb:String->Option Builtin) (p:GQ) (w:Hh) (m:Nat) (an:Option Da) (q:Pos) (c:Code) (n4:Nat) (L:Fk->β) (r:Flow × SharedT × Code × Pos):Flow × Code × Option β :=
 (r.1,r.2.2.1,(topRun tb p w m an n4 r.2.1.abs ⟨doneF .next,c,r.2.2.2,[topFrame q]⟩).map L)
theorem wL {β:Type} {L:Fk->β} {b:List Il} {c:Code} {k n1 n2 n3 n4 n5:Nat} {S0 Sa:Fk} {Sb Sc:SharedT} {pos0 pos1 pos2:Pos} {z:β} (hc:c = .body b env)
  (h1:topGo tb p w m an n1 S0 (topStub p)=some (Sa,⟨denote tb c,c,pos0,[topFrame q]⟩))
  (h2:segRun tb p w m an 1 n2 Sa (blockOf b env c pos0 [topFrame q])=some (.next,Sb.abs,c,pos1))
  (h3:segRunT tb p w m an 1 n3 Sb (piecesOf (b.take k) env c pos1 [topFrame q])=some (.next,Sc,c,pos2))
  (h4:(segRunT tb p w m an 1 n5 Sc (piecesOf (b.drop k) env c pos2 [topFrame q])).map (j8 tb p w m an q c n4 L)=some (.next,c,some z)) :
  ∃ e,topRun tb p w m an (n1+(n2+(n3+(n5+n4)))) S0 (topStub p)=some e/\L e=z:=by
 cases hr:segRunT tb p w m an 1 n5 Sc (piecesOf (b.drop k) env c pos2 [topFrame q]) with
 | none=>rw [hr] at h4; cases h4
 | some x =>
  obtain ⟨f,s,d,ps⟩:=x
  rw [hr] at h4
  have h4:=Hr h4
  unfold j8 at h4
  have a1:f = .next:=congrArg Mb h4
  have a2:d=c:=congrArg (fun x=>x.2.1) h4
  have a3:=congrArg (fun x=>x.2.2) h4
  dsimp only at a3
  subst a1 a2 hc
  cases ht:topRun tb p w m an n4 s.abs ⟨doneF .next,.body b env,ps,[topFrame q]⟩ with
  | none=>rw [ht] at a3; cases a3
  | some e =>
   rw [ht] at a3
   have k2:=piece_app (rest:=[]) (segRun_of hr) (piece_nil ht)
   rw [Iv] at k2
   have k1:=piece_app (segRun_of h3) k2
   rw [IS] at k1
   exact ⟨e,go_top h1 (piece_block h2 k1),Hr a3⟩
end
end Ck
namespace Ck
open PySem L2
noncomputable def top (i:Nat):Il:=PySem.Challenge.pw_countkin_k62_written_refuses.main.body.getD i (.Pass ⟨0,0,0,0⟩)
set_option genInjectivity false in
structure aD where
 C:Nat->GC
 f:Nat->GC
 fd:Nat->Hz
 F:Nat->GC
 u_NOTHING:Da
 u_GREATEST_SIZE:Da
structure y6 (K:GM) (mg:Str->Option Da) (ca:aD):Prop where
 oR:mg "Brackets" = some (.ref (ca.C 0))
 vb:mg "Stairs" = some (.ref (ca.C 1))
 xW:mg "Twins" = some (.ref (ca.C 2))
 yT:mg "Bows" = some (.ref (ca.C 3))
 xP:mg "Rooms" = some (.ref (ca.C 4))
 vJ:mg "Floors" = some (.ref (ca.C 5))
 yi:mg "Turns" = some (.ref (ca.C 6))
 xR:mg "Codes" = some (.ref (ca.C 7))
 yf:mg "Trees" = some (.ref (ca.C 8))
 B9:mg "Cars" = some (.ref (ca.C 9))
 bP:mg "SplitFamily" = some (.ref (ca.C 10))
 mG:mg "Family" = some (.ref (ca.C 11))
 eL:mg "RingFamily" = some (.ref (ca.C 12))
 c4:∀ i,i < 10->Cls K (ca.C i)
 mtW_thing_of:∀ i,i < 10->Meth K (ca.C i) "thing_of" (ca.f 80)
 mtW_refuse_other:∀ i,i < 10->Meth K (ca.C i) "refuse_other" (ca.f 40)
 mtW_is_one:∀ i,i < 10->Meth K (ca.C i) "is_one" (ca.f (pick 0 [22,23,24,28,30,32,34,35,37,38] i))
 mtW_many:∀ i,i < 10->Meth K (ca.C i) "many" (ca.f 61)
 mtW_unchecked_thing:∀ i,i < 10->Meth K (ca.C i) "unchecked_thing" (ca.f (pick 0 [72,72,72,72,72,72,72,78,78,78] i))
 mtW_unchecked_many:∀ i,i < 10->Meth K (ca.C i) "unchecked_many" (ca.f (pick 0 [57,57,57,57,57,57,57,59,59,59] i))
 mtV_thing_by_parts:∀ i,i < 7->Meth K (ca.C i) "thing_by_parts" (ca.f 70)
 mtV_bare:∀ i,i < 7->Meth K (ca.C i) "bare" (ca.f (pick 0 [62,63,64,65,66,67,68] i))
 mtR_of_code:∀ i,i < 3->Meth K (ca.C (i+7)) "of_code" (ca.f (pick 0 [73,74,75] i))
 na4_least:∀ i,i < 10->NoAttr K (ca.C i) "least"
 na4_word:∀ i,i < 10->NoAttr K (ca.C i) "word"
 mk_Turns:Mk K (ca.C 6) (ca.f 7)
 mk_Floors:Mk K (ca.C 5) (ca.f 8)
 mk_Rooms:Mk K (ca.C 4) (ca.f 9)
 mk_Bows:Mk K (ca.C 3) (ca.f 10)
 mk_Twins:Mk K (ca.C 2) (ca.f 11)
 mk_Stairs:Mk K (ca.C 1) (ca.f 12)
 mk_Brackets:Mk K (ca.C 0) (ca.f 13)
 mk_Cars:Mk K (ca.C 9) (ca.f 16)
 mk_Trees:Mk K (ca.C 8) (ca.f 17)
 mk_Codes:Mk K (ca.C 7) (ca.f 18)
 cm_SplitFamily___init___W:ClsM K (ca.C 10) "__init__" (ca.f 6)
 cm_Family___init___W:ClsM K (ca.C 11) "__init__" (ca.f 5)
 cm_RingFamily___init___W:ClsM K (ca.C 12) "__init__" (ca.f 15)
 m3:mg "read_floor" = some (.ref (ca.F 0))
 mO:mg "read_rooms" = some (.ref (ca.F 1))
 m8:mg "read_bows" = some (.ref (ca.F 2))
 mD:mg "read_twins" = some (.ref (ca.F 3))
 jb:mg "read_brackets" = some (.ref (ca.F 4))
 jT:mg "read_numbers" = some (.ref (ca.F 5))
 cV:mg "len" = none
 cm:mg "range" = none
 vV:mg "max" = none
 fk:mg "enumerate" = none
 dE:mg "sorted" = none
 gC:mg "list" = none
 hW:mg "all" = none
 Ea:mg "zip" = none
 Es:mg "set" = none
 wH:mg "min" = none
 rg:mg "str" = none
 bb:mg "isinstance" = none
 mU:mg "ValueError" = none
 DB:mg "sum" = none
 km:mg "NOTHING" = some ca.u_NOTHING/\RelV (.str "-") ca.u_NOTHING
 eZ:mg "GREATEST_SIZE" = some ca.u_GREATEST_SIZE/\RelV (.int 40) ca.u_GREATEST_SIZE
noncomputable abbrev oK:Il:=top 86
theorem ze:ao [] [] (ai oK):=aH
noncomputable abbrev qT:Il:=top 84
theorem Ao:ao ["_law_script","_law_k"] ["_law_script","_law_k"] (ai qT):=aH
noncomputable abbrev qQ:Il:=top 85
theorem c9:ao ["_law_script","_law_turn","_law_many","_law_cells","_law_found","_law_left","_law_k","_law_at","_law_place","_law_number"] ["_law_script","_law_turn","_law_many"] (ai qQ):=aH
noncomputable abbrev oE:Il:=top 87
theorem l7:ao ["_law_draw","_law_some"] ["_law_draw"] (ai oE):=aH
noncomputable abbrev oN:Il:=top 88
theorem jI:ao ["_law_script","_law_turn","_law_text_here","_law_draws_here","_law_at","_law_sign_here"] ["_law_script","_law_turn","_law_text_here"] (ai oN):=aH
noncomputable abbrev u5:Il:=inClass (top 18) 0
theorem Ef:ao ["self","word","least"] ["self","word","least"] (ai u5):=aH
noncomputable abbrev uz:Il:=inClass (top 19) 0
theorem Eg:ao ["self","word"] ["self","word"] (ai uz):=aH
noncomputable abbrev qL:Il:=inClass (top 50) 0
theorem Bg:ao ["self"] ["self"] (ai qL):=aH
noncomputable abbrev qb:Il:=inClass (top 33) 0
theorem AH:ao ["self"] ["self"] (ai qb):=aH
noncomputable abbrev oO:Il:=inClass (top 47) 0
theorem B8:ao ["self"] ["self"] (ai oO):=aH
noncomputable abbrev qw:Il:=inClass (top 46) 0
theorem yt:ao ["self"] ["self"] (ai qw):=aH
noncomputable abbrev pD:Il:=inClass (top 41) 0
theorem AD:ao ["self"] ["self"] (ai pD):=aH
noncomputable abbrev qi:Il:=inClass (top 39) 0
theorem Cb:ao ["self"] ["self"] (ai qi):=aH
noncomputable abbrev vo:Il:=inClass (top 38) 0
theorem Ej:ao ["self"] ["self"] (ai vo):=aH
noncomputable abbrev qD:Il:=top 53
theorem zu:ao [] [] (ai qD):=aH
noncomputable abbrev vA:Il:=inClass (top 21) 0
theorem Dx:ao ["self","word"] ["self","word"] (ai vA):=aH
noncomputable abbrev pG:Il:=inClass (top 25) 0
theorem A7:ao ["self"] ["self"] (ai pG):=aH
noncomputable abbrev qA:Il:=inClass (top 43) 0
theorem Cy:ao ["self"] ["self"] (ai qA):=aH
noncomputable abbrev pP:Il:=inClass (top 23) 0
theorem zx:ao ["self"] ["self"] (ai pP):=aH
noncomputable abbrev pF:Il:=top 54
theorem Di:ao [] [] (ai pF):=aH
noncomputable abbrev p9:Il:=top 55
theorem rO:ao ["word","family"] ["word"] (ai p9):=aH
noncomputable abbrev pb:Il:=top 36
theorem gF:ao ["text","depth","sign"] ["text"] (ai pb):=aH
noncomputable abbrev pj:Il:=inClass (top 38) 2
theorem zE:ao ["self","thing"] ["self","thing"] (ai pj):=aH
noncomputable abbrev qS:Il:=inClass (top 39) 2
theorem gD:ao ["self","thing","ahead","place","number"] ["self","thing"] (ai qS):=aH
noncomputable abbrev oF:Il:=inClass (top 41) 2
theorem BU:ao ["self","thing"] ["self","thing"] (ai oF):=aH
noncomputable abbrev pW:Il:=top 30
theorem Bv:ao ["numbers"] ["numbers"] (ai pW):=aH
noncomputable abbrev qO:Il:=top 29
theorem mj:ao ["rows","found","row"] ["rows"] (ai qO):=aH
noncomputable abbrev pA:Il:=top 31
theorem gz:ao ["pairs","a","b","c","d"] ["pairs"] (ai pA):=aH
noncomputable abbrev oP:Il:=inClass (top 46) 2
theorem B5:ao ["self","thing"] ["self","thing"] (ai oP):=aH
noncomputable abbrev oY:Il:=top 48
theorem CD:ao ["rooms"] ["rooms"] (ai oY):=aH
noncomputable abbrev qd:Il:=inClass (top 47) 2
theorem B6:ao ["self","thing"] ["self","thing"] (ai qd):=aH
noncomputable abbrev qe:Il:=top 34
theorem Bx:ao ["corners","a","b"] ["corners","a","b"] (ai qe):=aH
noncomputable abbrev ph:Il:=inClass (top 33) 2
theorem mf:ao ["self","thing","corners","cuts"] ["self","thing"] (ai ph):=aH
noncomputable abbrev pK:Il:=top 51
theorem gT:ao ["numbers","stack","put","number"] ["numbers"] (ai pK):=aH
noncomputable abbrev qr:Il:=inClass (top 50) 2
theorem y3:ao ["self","thing"] ["self","thing"] (ai qr):=aH
noncomputable abbrev qI:Il:=inClass (top 23) 2
theorem sk:ao ["self","thing","size"] ["self","thing"] (ai qI):=aH
noncomputable abbrev pd:Il:=top 44
theorem ja:ao ["elders","knot","reached","step"] ["elders","knot"] (ai pd):=aH
noncomputable abbrev qf:Il:=inClass (top 43) 2
theorem tW:ao ["self","thing","size"] ["self","thing"] (ai qf):=aH
noncomputable abbrev o7:Il:=inClass (top 25) 2
theorem An:ao ["self","thing"] ["self","thing"] (ai o7):=aH
noncomputable abbrev uH:Il:=inClass (top 18) 7
theorem Et:ao ["self","thing"] ["self","thing"] (ai uH):=aH
noncomputable abbrev qY:Il:=top 62
theorem Br:ao ["texts","between"] ["texts","between"] (ai qY):=aH
noncomputable abbrev qk:Il:=top 66
theorem Dh:ao ["thing"] ["thing"] (ai qk):=aH
noncomputable abbrev oQ:Il:=top 78
theorem Bp:ao ["thing"] ["thing"] (ai oQ):=aH
noncomputable abbrev qj:Il:=top 68
theorem Aa:ao ["a","b"] ["a","b"] (ai qj):=aH
noncomputable abbrev oJ:Il:=top 70
theorem Dj:ao ["thing"] ["thing"] (ai oJ):=aH
noncomputable abbrev rh:Il:=top 72
theorem y9:ao ["room"] ["room"] (ai rh):=aH
noncomputable abbrev pE:Il:=top 74
theorem A1:ao ["thing"] ["thing"] (ai pE):=aH
noncomputable abbrev pk:Il:=top 76
theorem zt:ao ["thing"] ["thing"] (ai pk):=aH
noncomputable abbrev qU:Il:=top 64
theorem yM:ao ["thing"] ["thing"] (ai qU):=aH
noncomputable abbrev qg:Il:=top 81
theorem tS:ao ["word","forms"] ["word"] (ai qg):=aH
noncomputable abbrev ra:Il:=top 82
theorem Dg:ao ["word","thing"] ["word","thing"] (ai ra):=aH
noncomputable abbrev oI:Il:=top 90
theorem sF:ao ["_law_error","_law_found"] ["_law_error"] (ai oI):=aH
noncomputable abbrev qv:Il:=top 91
theorem jF:ao ["_law_word","_law_thing","_law_caught","e"] ["_law_word","_law_thing"] (ai qv):=aH
noncomputable abbrev jv:Il:=top 89
theorem sQ:ao ["_law_word","_law_draw","_law_some"] ["_law_word","_law_draw"] (ai jv):=aH
noncomputable abbrev qW:Il:=top 4
theorem i8:ao ["size","share","k"] ["size"] (ai qW):=aH
noncomputable abbrev uq:Il:=inClass (top 19) 4
theorem Dz:ao ["self","size"] ["self","size"] (ai uq):=aH
noncomputable abbrev oX:Il:=top 5
theorem jJ:ao ["size","product","factor"] ["size"] (ai oX):=aH
noncomputable abbrev vL:Il:=inClass (top 21) 3
theorem Em:ao ["self","size"] ["self","size"] (ai vL):=aH
noncomputable abbrev qt:Il:=inClass (top 18) 6
theorem Ap:ao ["self","size"] ["self","size"] (ai qt):=aH
noncomputable abbrev pB:Il:=inClass (top 38) 3
theorem Cw:ao ["self"] ["self"] (ai pB):=aH
noncomputable abbrev qM:Il:=inClass (top 39) 3
theorem Co:ao ["self"] ["self"] (ai qM):=aH
noncomputable abbrev qp:Il:=inClass (top 41) 3
theorem Bs:ao ["self"] ["self"] (ai qp):=aH
noncomputable abbrev qP:Il:=inClass (top 46) 3
theorem Dq:ao ["self"] ["self"] (ai qP):=aH
noncomputable abbrev qq:Il:=inClass (top 47) 3
theorem zB:ao ["self"] ["self"] (ai qq):=aH
noncomputable abbrev pH:Il:=inClass (top 33) 3
theorem zi:ao ["self"] ["self"] (ai pH):=aH
noncomputable abbrev pJ:Il:=inClass (top 50) 3
theorem AG:ao ["self"] ["self"] (ai pJ):=aH
noncomputable abbrev vD:Il:=inClass (top 19) 8
theorem Ee:ao ["self","counts","size","number","left_size","rest","right_size","left","right"] ["self","counts","size","number"] (ai vD):=aH
noncomputable abbrev pU:Il:=top 3
theorem mS:ao ["most","found","k"] ["most"] (ai pU):=aH
noncomputable abbrev uR:Il:=inClass (top 19) 6
theorem Ed:ao ["self","size","number"] ["self","size","number"] (ai uR):=aH
noncomputable abbrev oV:Il:=inClass (top 23) 4
theorem BP:ao ["self","code"] ["self","code"] (ai oV):=aH
noncomputable abbrev pR:Il:=inClass (top 43) 4
theorem eP:ao ["self","code","written","there","elders","place","elder","taken"] ["self","code"] (ai pR):=aH
noncomputable abbrev pI:Il:=inClass (top 25) 4
theorem gO:ao ["self","code","ring","wishes","step"] ["self","code"] (ai pI):=aH
noncomputable abbrev rb:Il:=top 22
theorem gS:ao ["number","base","length","figures","rest","place"] ["number","base","length"] (ai rb):=aH
noncomputable abbrev vI:Il:=inClass (top 21) 5
theorem DO:ao ["self","size","number"] ["self","size","number"] (ai vI):=aH
noncomputable abbrev qC:Il:=inClass (top 18) 9
theorem tN:ao ["self","size","number","most"] ["self","size","number"] (ai qC):=aH
noncomputable abbrev g8:Il:=top 92
theorem fB:ao ["_law_script","_law_good","_law_word","_law_handed","_law_kin","_law_line"] ["_law_script"] (ai g8):=aH
noncomputable def a9 (K:GM) (ca:aD) (i:Nat):Sp:=fun vs H Q _=>∃ (x:GC) (v:V) (b:Bool),vs=[.ref x,v]/\IsT i H v b/\∀ H',ae H H'->Q (.bl b) H'
def EC (i:Nat) (H:Hp) (v:V):Prop:=match i with
 | 0=>v = .str ""
 | 1=>∃ p,v = .ref p/\H p=some (.tup [])
 | 2=>∃ p,v = .ref p/\H p=some (.lst [])
 | 3=>∃ p,v = .ref p/\H p=some (.lst [])
 | 4=>∃ t p,v = .ref t/\H t=some (.tup [.int 2,.ref p])/\H p=some (.lst [])
 | _=>∃ p ns,v = .ref p/\H p=some (.lst (ns.map V.int))/\(ns=[]\/ns=[0])
noncomputable def fm (i:Nat):Nat:=pick 0 [0,5,1,2,3,4,5,5,5,5] i
theorem t7 {H0 H:Hp} {v:V} (h:Rp H0 H (.lst []) v):∃ p,v = .ref p/\H p=some (.lst []):=by
 unfold Rp aJ at h
 obtain ⟨p,xs,e,_,hp,rfl⟩:=h
 exact ⟨p,e,hp⟩
theorem xT {H:Hp} {i:Nat} {v:V} (hi:i < 10) (h:R0 H (dv i) v):EC (fm i) H v:=by
 have ig:∀ ns:List Int,(ns=[]\/ns=[0])->Rp (fun _=>none) H (bE ns) v->∃ p ns,v = .ref p/\H p=some (.lst (ns.map V.int))/\(ns=[]\/ns=[0]):=fun ns hn h=>by
  obtain ⟨p,e,_,hp⟩:=bW h
  exact ⟨p,ns,e,hp,hn⟩
 match i,hi,h with
 | 0,_,h =>
  have h:Rp (fun _=>none) H (.str "") v:=h
  unfold Rp at h
  exact h
 | 1,_,h=>exact ig [] (.inl rfl) h
 | 2,_,h =>
  have h:Rp (fun _=>none) H (.tup []) v:=h
  unfold Rp aJ at h
  obtain ⟨p,xs,e,_,hp,rfl⟩:=h
  exact ⟨p,e,hp⟩
 | 3,_,h=>exact t7 h
 | 4,_,h=>exact t7 h
 | 5,_,h =>
  obtain ⟨t,l,e,ht,⟨xs,hl,pr⟩⟩:=qy (ps:=[]) h
  cases pr
  exact ⟨t,l,e,ht,hl⟩
 | 6,_,h=>exact ig [] (.inl rfl) h
 | 7,_,h=>exact ig [] (.inl rfl) h
 | 8,_,h=>exact ig [0] (.inr rfl) h
 | 9,_,h=>exact ig [0] (.inr rfl) h
noncomputable def cg (K:GM) (ca:aD) (i:Nat):Sp:=fun vs H Q _=>∃ (v:V),vs=[v]/\EC i H v/\∀ (s:Str) (H':Hp),s.length<=1000->ae H H'->Q (.str s) H'
noncomputable def cI (K:GM) (ca:aD) (i:Nat):Sp:=fun vs H Q _=>∃ (x:GC),vs=[.ref x,.int (bo i)]/\∀ H',ae H H'->Q (.int 1) H'
noncomputable def cf (K:GM) (ca:aD) (i:Nat):Sp:=fun vs H Q _=>∃ x:GC,vs=[.ref x]/\∀ (v:V) (H':Hp),ae H H'->Rp H H' (dv i) v->Q v H'
noncomputable def di (K:GM) (ca:aD) (i:Nat):Sp:=fun vs H Q _=>∃ (x dx:GC) (fs:List (Str × V)) (w:Str) (l:GC),vs=[.ref x,.ref l]/\H x=some (.ins (ca.C (i+7)) dx fs)/\bO fs w 1/\H l=some (.lst [])/\∀ (v:V) (H':Hp),ae H H'->Rp H H' (dv (i+7)) v->Q v H'
noncomputable def fE (K:GM) (ca:aD) (i:Nat):Sp:=fun vs H Q _=>∃ (x dx:GC) (fs:List (Str × V)) (w:Str),vs=[.ref x,.int (bo i),.int 0]/\H x=some (.ins (ca.C i) dx fs)/\bO fs w (bo i)/\∀ (v:V) (H':Hp),ae H H'->Rp H H' (dv i) v->Q v H'
noncomputable def AE (K:GM) (ca:aD):Sp:=fun vs H Q _=>vs=[]/\∀ (p:GC) (H':Hp),ae H H'->H p=none->H' p=some (.lst (gq.map V.str))->Q (.ref p) H'
noncomputable def yA (K:GM) (_:aD):Sp:=fun vs H Q _=>∃ (a:GC) (ns:List Int) (k:Int),vs=[.ref a,.int k]/\aq K H a (ns.map V.int)/\0<=k/\Q (.int (ns.getD k.toNat 0)) H
noncomputable def CH (K:GM) (_:aD):Sp:=fun vs H Q _=>∃ (a:GC) (ns:List Int) (t m:Int),vs=[.ref a,.int t,.int m]/\aq K H a (ns.map V.int)/\ns.length<=63/\0<=t/\t<=1000/\0<=m/\m<=1000 /\
 ∀ (p:GC) (xs:List Int) (H':Hp),ae H H'->H p=none->H' p=some (.lst (xs.map V.int))->xs.length=m.toNat->(∀ x∈xs,0<=x/\x < 2147483587)->Q (.ref p) H'
theorem DS:((tz " !\"#$&'()*+,-./0123456789:;<=>?@ABCDEFGHIJKLMNOPQRSTUVWXYZ[\\]^_`")++(tz "abcdefghijklmnopqrstuvwxyz{|}~")).length=94:=by decide +kernel
noncomputable def yy (K:GM) (_:aD):Sp:=fun vs H Q _=>∃ (n:Int),vs=[.int n]/\∀ x:Str,x.length<=1->Q (.str x) H
theorem wX (a b c d:Str) (i:Int):∃ y:Str,eV [V.str a,V.str b,V.str c,V.str d] (i % 4)=some (.str y):=by
 have a0:=HQ i (show (4:Int)≠0 by decide)
 have a1:=HD i (show (0:Int) < 4 by decide)
 rcases (by lia:i % 4=0\/i % 4=1\/i % 4=2\/i % 4=3) with e | e | e | e<;>rw [e]
 ·exact ⟨a,rfl⟩
 ·exact ⟨b,rfl⟩
 ·exact ⟨c,rfl⟩
 ·exact ⟨d,rfl⟩
noncomputable def De (K:GM) (_:aD):Sp:=fun vs H Q _=>∃ (a:GC) (ns:List Int) (t:Int) (x:Str),vs=[.ref a,.int t,.str x]/\aq K H a (ns.map V.int)/\ns.length<=63/\0<=t/\t<=1000/\x.length<=100/\∀ (y:Str) (H':Hp),ae H H'->Q (.str y) H'
noncomputable def Er (_:GM) (ca:aD):Sp:=fun vs H Q _=>∃ (fw:Nat),fw < 10/\∃ (x dx:GC) (w:Str) (l:Int),vs=[.ref x,.str w,.int l]/\H x=some (.ins (ca.C fw) dx [])/\∀ (fs:List (Str × V)) (H':Hp),H'=upd H x (.ins (ca.C fw) dx fs)->bO fs w l->Q .non H'
noncomputable def D3 (_:GM) (ca:aD):Sp:=fun vs H Q _=>∃ (fw:Nat),fw < 10/\∃ (x dx:GC) (w:Str),vs=[.ref x,.str w]/\H x=some (.ins (ca.C fw) dx [])/\∀ (fs:List (Str × V)) (H':Hp),H'=upd H x (.ins (ca.C fw) dx fs)->bO fs w 0->Q .non H'
noncomputable def Ca (_:GM) (ca:aD):Sp:=fun vs H Q _=>∃ x dx,vs=[.ref x]/\H x=some (.ins (ca.C 6) dx [])/\∀ (fs:List (Str × V)) (H':Hp),H'=upd H x (.ins (ca.C 6) dx fs)->bO fs (wd 6) (bo 6)->Q .non H'
noncomputable def zT (_:GM) (ca:aD):Sp:=fun vs H Q _=>∃ x dx,vs=[.ref x]/\H x=some (.ins (ca.C 5) dx [])/\∀ (fs:List (Str × V)) (H':Hp),H'=upd H x (.ins (ca.C 5) dx fs)->bO fs (wd 5) (bo 5)->Q .non H'
noncomputable def yZ (_:GM) (ca:aD):Sp:=fun vs H Q _=>∃ x dx,vs=[.ref x]/\H x=some (.ins (ca.C 4) dx [])/\∀ (fs:List (Str × V)) (H':Hp),H'=upd H x (.ins (ca.C 4) dx fs)->bO fs (wd 4) (bo 4)->Q .non H'
noncomputable def CC (_:GM) (ca:aD):Sp:=fun vs H Q _=>∃ x dx,vs=[.ref x]/\H x=some (.ins (ca.C 3) dx [])/\∀ (fs:List (Str × V)) (H':Hp),H'=upd H x (.ins (ca.C 3) dx fs)->bO fs (wd 3) (bo 3)->Q .non H'
noncomputable def BL (_:GM) (ca:aD):Sp:=fun vs H Q _=>∃ x dx,vs=[.ref x]/\H x=some (.ins (ca.C 2) dx [])/\∀ (fs:List (Str × V)) (H':Hp),H'=upd H x (.ins (ca.C 2) dx fs)->bO fs (wd 2) (bo 2)->Q .non H'
noncomputable def Cr (_:GM) (ca:aD):Sp:=fun vs H Q _=>∃ x dx,vs=[.ref x]/\H x=some (.ins (ca.C 1) dx [])/\∀ (fs:List (Str × V)) (H':Hp),H'=upd H x (.ins (ca.C 1) dx fs)->bO fs (wd 1) (bo 1)->Q .non H'
noncomputable def DN (_:GM) (ca:aD):Sp:=fun vs H Q _=>∃ x dx,vs=[.ref x]/\H x=some (.ins (ca.C 0) dx [])/\∀ (fs:List (Str × V)) (H':Hp),H'=upd H x (.ins (ca.C 0) dx fs)->bO fs (wd 0) (bo 0)->Q .non H'
noncomputable def zk (ca:aD):List (Str × GC × Int):=[(wd 0,ca.C 0,bo 0),(wd 1,ca.C 1,bo 1),(wd 2,ca.C 2,bo 2),(wd 3,ca.C 3,bo 3),(wd 4,ca.C 4,bo 4),(wd 5,ca.C 5,bo 5),(wd 6,ca.C 6,bo 6)]
noncomputable def zY (K:GM) (ca:aD):Sp:=fun vs H Q _=>vs=[]/\∀ (p:GC) (xs:List V) (H':Hp),ae H H'->H p=none->H' p=some (.lst xs)->Ir (cP H') xs (zk ca)->Q (.ref p) H'
noncomputable def Ey (_:GM) (ca:aD):Sp:=fun vs H Q _=>∃ (fw:Nat),fw < 10/\∃ (x dx:GC) (w:Str),vs=[.ref x,.str w]/\H x=some (.ins (ca.C fw) dx [])/\∀ (fs:List (Str × V)) (H':Hp),H'=upd H x (.ins (ca.C fw) dx fs)->bO fs w 1->Q .non H'
noncomputable def AR (_:GM) (ca:aD):Sp:=fun vs H Q _=>∃ x dx,vs=[.ref x]/\H x=some (.ins (ca.C 9) dx [])/\∀ (fs:List (Str × V)) (H':Hp),H'=upd H x (.ins (ca.C 9) dx fs)->bO fs (wd 9) (bo 9)->Q .non H'
noncomputable def B0 (_:GM) (ca:aD):Sp:=fun vs H Q _=>∃ x dx,vs=[.ref x]/\H x=some (.ins (ca.C 8) dx [])/\∀ (fs:List (Str × V)) (H':Hp),H'=upd H x (.ins (ca.C 8) dx fs)->bO fs (wd 8) (bo 8)->Q .non H'
noncomputable def CY (_:GM) (ca:aD):Sp:=fun vs H Q _=>∃ x dx,vs=[.ref x]/\H x=some (.ins (ca.C 7) dx [])/\∀ (fs:List (Str × V)) (H':Hp),H'=upd H x (.ins (ca.C 7) dx fs)->bO fs (wd 7) (bo 7)->Q .non H'
noncomputable def Dn (ca:aD):List (Str × GC × Int):=[(wd 7,ca.C 7,bo 7),(wd 8,ca.C 8,bo 8),(wd 9,ca.C 9,bo 9)]
noncomputable def Bm (K:GM) (ca:aD):Sp:=fun vs H Q _=>vs=[]/\∀ (p:GC) (xs:List V) (H':Hp),ae H H'->H p=none->H' p=some (.lst xs)->Ir (cP H') xs (Dn ca)->Q (.ref p) H'
noncomputable def Cc (ca:aD):List (Str × GC × Int):=zk ca++Dn ca
theorem wR (ca:aD):∀ i,i < 10->(Cc ca)[i]? = some (wd i,ca.C i,bo i):=bc.get (n:=10) ⟨⟨⟨⟨⟨⟨⟨⟨⟨⟨trivial,rfl⟩,rfl⟩,rfl⟩,rfl⟩,rfl⟩,rfl⟩,rfl⟩,rfl⟩,rfl⟩,rfl⟩
theorem lB:∀ i,i < 10->gq[i]? = some (wd i):=bc.get (n:=10) ⟨⟨⟨⟨⟨⟨⟨⟨⟨⟨trivial,rfl⟩,rfl⟩,rfl⟩,rfl⟩,rfl⟩,rfl⟩,rfl⟩,rfl⟩,rfl⟩,rfl⟩
theorem zV:gq.Nodup:=by decide +kernel
theorem tX {i j:Nat} (hi:i < 10) (hj:j < 10) (e:wd i=wd j):i=j:=by
 have a:=lB i hi
 have b:=lB j hj
 rw [e,<- b] at a
 exact (Lc (by exact hi) zV).mp a
noncomputable def CJ (K:GM) (ca:aD) (er:Nat->GC):Sp:=fun vs H Q E=>∃ (w:Str),vs=[.str w]/\((∃ i,i < 10/\w=wd i/\∀ (x dx:GC) (fs:List (Str × V)) (H':Hp),ae H H'->H' x=some (.ins (ca.C i) dx fs)->bO fs (wd i) (bo i)->Q (.ref x) H')\/(w∉gq/\∀ H',ae H H'->E (.ref (er 4)) none H'))
noncomputable def zK (_:GM) (_:aD):Sp:=fun vs H Q _=>∃ x:Str,vs=[.str x]/\Q (.bl (c8 0 x.cps.toList)) H
noncomputable def zp (K:GM) (ca:aD):Sp:=a9 K ca 0
noncomputable def zg (K:GM) (ca:aD):Sp:=a9 K ca 1
noncomputable def AX (K:GM) (ca:aD):Sp:=a9 K ca 2
noncomputable def zC (K:GM) (_:aD):Sp:=fun vs H Q _=>∃ (l:GC) (ns:List Int),vs=[.ref l]/\H l=some (.lst (ns.map V.int))/\ns.length < 64/\∀ H',ae H H'->Q (.bl (bN ns)) H'
noncomputable def BI (K:GM) (_:aD):Sp:=fun vs H Q _=>∃ (l:GC),vs=[.ref l]/\((∃ (ps:List Pair),dw H l ps/\ps.length<=1000/\∀ (p:GC) (H':Hp),ae H H'->H p=none->H' p=some (.lst ((bD ps).map V.int))->Q (.ref p) H')\/(∃ (bs:List GC) (xss:List (List V)),H l=some (.lst (bs.map V.ref))/\ck H bs xss/\xss.flatten.length<=1000/\∀ (p:GC) (H':Hp),ae H H'->H p=none->H' p=some (.lst xss.flatten)->Q (.ref p) H'))
noncomputable def Dr (K:GM) (_:aD):Sp:=fun vs H Q _=>∃ (l:GC) (ps:List Pair),vs=[.ref l]/\dw H l ps/\Q (.bl (cz ps)) H
noncomputable def zA (K:GM) (ca:aD):Sp:=a9 K ca 3
noncomputable def yC (K:GM) (_:aD):Sp:=fun vs H Q _=>∃ (l:GC) (H0:Hp) (rs:List (List Int)),vs=[.ref l]/\cA H0 H l rs/\rs.length<=100/\rs.flatten.length<=1000/\∀ (p:GC) (H':Hp),ae H H'->H p=none->dw H' p (iy rs)->Q (.ref p) H'
noncomputable def Au (K:GM) (ca:aD):Sp:=a9 K ca 4
noncomputable def zJ (K:GM) (_:aD):Sp:=fun vs H Q _=>∃ (c a b:Int),vs=[.int c,.int a,.int b]/\∀ H',ae H H'->Q (.bl (fc c (a,b))) H'
noncomputable def yI (K:GM) (ca:aD):Sp:=a9 K ca 5
noncomputable def AQ (K:GM) (_:aD):Sp:=fun vs H Q _=>∃ (l:GC) (ns:List Int),vs=[.ref l]/\H l=some (.lst (ns.map V.int))/\ns.length < 64/\bN ns=true/\∀ H',ae H H'->Q (.bl (iP ns)) H'
noncomputable def Am (K:GM) (ca:aD):Sp:=a9 K ca 6
noncomputable def Cf (K:GM) (ca:aD):Sp:=a9 K ca 7
noncomputable def CT (K:GM) (_:aD):Sp:=fun vs H Q _=>∃ (l:GC) (es:List Int) (r:Int),vs=[.ref l,.int r]/\aq K H l (es.map V.int)/\es.length<=1000/\inR es=true/\0<=r/\r<=(es.length:Int)/\Q (.bl (decide (gR es es.length r=0))) H
noncomputable def zh (K:GM) (ca:aD):Sp:=a9 K ca 8
noncomputable def yY (K:GM) (ca:aD):Sp:=a9 K ca 9
noncomputable def DH (K:GM) (ca:aD) (er:Nat->GC):Sp:=fun vs H Q E=>∃ (fw:Nat),fw < 10/\∃ (x dx:GC) (fs:List (Str × V)) (w:Str) (l:Int) (v:V) (b:Bool),vs=[.ref x,v]/\H x=some (.ins (ca.C fw) dx fs)/\bO fs w l/\IsT fw H v b/\(b=true->∀ H',ae H H'->Q .non H')/\(b=false->∀ H',ae H H'->E (.ref (er 3)) none H')
noncomputable def BG (K:GM) (ca:aD):Sp:=fun vs H Q _=>∃ (l:GC) (xs:List Str) (b:Str),vs=[.ref l,.str b]/\H l=some (.lst (xs.map V.str))/\xs.length<=1/\(∀ x∈xs,x.length<=100)/\b.length<=1/\∀ (s:Str) (H':Hp),s.length<=1000->ae H H'->Q (.str s) H'
noncomputable def Bw (K:GM) (ca:aD):Sp:=cg K ca 0
noncomputable def yq (K:GM) (ca:aD):Sp:=cg K ca 1
noncomputable def A3 (K:GM) (ca:aD):Sp:=fun vs _ _ _=>∃ a b:V,vs=[a,b]/\False
noncomputable def AO (K:GM) (ca:aD):Sp:=cg K ca 2
noncomputable def zq (K:GM) (ca:aD):Sp:=fun vs _ _ _=>∃ a:V,vs=[a]/\False
noncomputable def Cz (K:GM) (ca:aD):Sp:=cg K ca 3
noncomputable def Bf (K:GM) (ca:aD):Sp:=cg K ca 4
noncomputable def Ax (K:GM) (ca:aD):Sp:=cg K ca 5
noncomputable def AA (K:GM) (ca:aD):Sp:=fun vs H Q _=>∃ (i:Nat),vs=[.str (wd i)]/\i < 10/\∀ (p r:GC) (H':Hp),ae H H'->H' p=some (.tup [.ref (ca.f (pick 0 [42,43,45,47,48,49] (fm i))),.ref r])->Q (.ref p) H'
theorem mK:∀ i,i < 10->(wd i).length<=100:=bc.get (n:=10) (by simp only [bc]; decide +kernel)
theorem Eb:∀ i,i < 10->fm i < 6:=bc.get (n:=10) (by simp only [bc]; decide +kernel)
noncomputable def AJ (K:GM) (ca:aD) (er:Nat->GC):Sp:=fun vs H Q E=>∃ (w:Str) (v:V),vs=[.str w,v]/\((w∉gq/\∀ H',ae H H'->E (.ref (er 4)) none H')\/(∃ i,i < 10/\w=wd i/\IsT i H v false/\∀ H',ae H H'->E (.ref (er 3)) none H')\/(∃ i,i < 10/\w=wd i/\R0 H (dv i) v/\∀ (s:Str) (H':Hp),ae H H'->Q (.str (wd i++tz " "++s)) H'))
noncomputable def As (_:GM) (_:aD) (er:Nat->GC):Sp:=fun vs H Q _=>∃ (e:GC) (n:Nat) (t:Str),vs=[.ref e]/\H e=some (dY e (.ref (er n)))/\((n=4/\t=tz "family")\/(n=3/\t=tz "thing")) /\
 ∀ (p:GC) (H':Hp),ae H H'->H p=none->H' p=some (.lst [.str t])->Q (.ref p) H'
noncomputable def yB (K:GM) (ca:aD) (er:Nat->GC):Sp:=fun vs H Q _=>∃ (w:Str) (v:V) (t:Str),vs=[.str w,v]/\((w∉gq/\t=tz "family")\/(t=tz "thing"/\∃ i,i < 10/\w=wd i/\IsT i H v false)) /\
 ∀ (p:GC) (H':Hp),ae H H'->H p=none->H' p=some (.lst [.str t])->Q (.ref p) H'
noncomputable def EJ:List (Str × List Lt):=[(wd 0,cR 0),(wd 1,cR 1),(wd 3,cR 3),(wd 4,cR 4),(wd 5,cR 5),(wd 6,cR 6),(wd 7,cR 7),(wd 8,cR 8),(wd 9,cR 9)]
theorem wK:∀ i,i < 10->i≠2->EJ.lookup (wd i)=some (cR i):=bc.get (n:=10) ⟨⟨⟨⟨⟨⟨⟨⟨⟨⟨trivial,fun _=>rfl⟩,fun _=>rfl⟩,fun z=>absurd rfl z⟩,fun _=>rfl⟩,fun _=>rfl⟩,fun _=>rfl⟩,fun _=>rfl⟩,fun _=>rfl⟩,fun _=>rfl⟩,fun _=>rfl⟩
theorem vm:∀ i,i < 10->i≠2->(cR i).length=6:=bc.get (n:=10) ⟨⟨⟨⟨⟨⟨⟨⟨⟨⟨trivial,fun _=>rfl⟩,fun _=>rfl⟩,fun z=>absurd rfl z⟩,fun _=>rfl⟩,fun _=>rfl⟩,fun _=>rfl⟩,fun _=>rfl⟩,fun _=>rfl⟩,fun _=>rfl⟩,fun _=>rfl⟩
theorem wQ:BV (bJ jv)=some EJ:=by kernel_rfl
noncomputable def B3 (K:GM) (ca:aD):Sp:=fun vs H Q _=>∃ (i:Nat) (d:Int),vs=[.str (wd i),.int d]/\i < 10/\i≠2/\∀ (t:Lt) (v:V) (H':Hp),(cR i)[(d % 6).toNat]? = some t->ae H H'->Rp H H' t v->Q v H'
noncomputable def Dd (K:GM) (_:aD):Sp:=fun vs H Q _=>vs=[.int 0]/\Q (.int 1) H
noncomputable def DU (K:GM) (ca:aD):Sp:=cI K ca 0
noncomputable def zZ (K:GM) (_:aD):Sp:=fun vs H Q _=>vs=[.int 1]/\∀ H',ae H H'->Q (.int 1) H'
noncomputable def Eo (K:GM) (ca:aD):Sp:=cI K ca 7
theorem xm (i:Nat):0<=bo i/\bo i<=1:=by unfold bo; split<;>decide
noncomputable def BX (K:GM) (ca:aD):Sp:=fun vs H Q _=>∃ (fw:Nat),fw < 10/\∃ (x dx:GC) (fs:List (Str × V)) (w:Str),vs=[.ref x,.int (bo fw)]/\H x=some (.ins (ca.C fw) dx fs)/\bO fs w (bo fw)/\∀ H',ae H H'->Q (.int 1) H'
noncomputable def Dp (K:GM) (ca:aD):Sp:=cf K ca 0
noncomputable def CS (K:GM) (ca:aD):Sp:=cf K ca 1
noncomputable def Cv (K:GM) (ca:aD):Sp:=cf K ca 2
noncomputable def BQ (K:GM) (ca:aD):Sp:=cf K ca 3
noncomputable def A4 (K:GM) (ca:aD):Sp:=cf K ca 4
noncomputable def AK (K:GM) (ca:aD):Sp:=cf K ca 5
noncomputable def Be (K:GM) (ca:aD):Sp:=cf K ca 6
noncomputable def Eu (K:GM) (ca:aD):Sp:=fun vs H Q _=>∃ (fw:Nat),fw < 7/\∃ (x dx:GC) (fs:List (Str × V)) (w:Str) (c:V),vs=[.ref x,c,.int 0,.int 0]/\H x=some (.ins (ca.C fw) dx fs)/\bO fs w 0/\∀ (v:V) (H':Hp),ae H H'->Rp H H' (dv fw) v->Q v H'
noncomputable def Ar (K:GM) (_:aD):Sp:=fun vs H Q _=>vs=[.int 0]/\∀ (p:GC) (H':Hp),ae H H'->Q (.ref p) H'
noncomputable def DD (K:GM) (ca:aD):Sp:=fun vs H Q _=>∃ (fw:Nat),fw < 7/\∃ (x dx:GC) (fs:List (Str × V)) (w:Str),vs=[.ref x,.int 0,.int 0]/\H x=some (.ins (ca.C fw) dx fs)/\bO fs w 0/\∀ (v:V) (H':Hp),ae H H'->Rp H H' (dv fw) v->Q v H'
noncomputable def AS (K:GM) (ca:aD):Sp:=di K ca 0
noncomputable def Bo (K:GM) (ca:aD):Sp:=di K ca 1
noncomputable def z0 (K:GM) (ca:aD):Sp:=di K ca 2
noncomputable def Aj (K:GM) (_:aD):Sp:=fun vs H Q _=>vs=[.int 0,.int 2,.int 0]/\∀ (p:GC) (H':Hp),ae H H'->H' p=some (.lst [])->Q (.ref p) H'
noncomputable def D5 (K:GM) (ca:aD):Sp:=fun vs H Q _=>∃ (fw:Nat),fw < 3/\∃ (x dx:GC) (fs:List (Str × V)) (w:Str),vs=[.ref x,.int 1,.int 0]/\H x=some (.ins (ca.C (fw+7)) dx fs)/\bO fs w 1/\∀ (v:V) (H':Hp),ae H H'->Rp H H' (dv (fw+7)) v->Q v H'
noncomputable def yK (K:GM) (ca:aD):Sp:=fun vs H Q _=>∃ (fw:Nat),fw < 10/\∃ (x dx:GC) (fs:List (Str × V)) (w:Str),vs=[.ref x,.int (bo fw),.int 0]/\H x=some (.ins (ca.C fw) dx fs)/\bO fs w (bo fw)/\∀ (v:V) (H':Hp),ae H H'->Rp H H' (dv fw) v->Q v H'
theorem w8 (c:Int):∃ i:Nat,i < 10/\eV (gq.map V.str) (c % 10)=some (.str (wd i)):=by
 have a0:=HQ c (show (10:Int)≠0 by decide)
 have a1:=HD c (show (0:Int) < 10 by decide)
 generalize c % 10=k at a0 a1 |-
 obtain ⟨j,rfl⟩:∃ j:Nat,k=(j:Int):=⟨_,(Int.toNat_of_nonneg a0).symm⟩
 have hj:j < 10:=by lia
 refine ⟨j,hj,g7 ?_⟩
 rw [Hk,lB j hj]
 rfl
theorem yF {i:Nat} (hi:i < 10) (h:i≠2):¬ V.str (wd i)=V.str (tz "twins"):=fun z=>h (tX hi (by decide) (by injection z))
theorem vf {i j:Nat} {t:Lt} (h:(cR i)[j]? = some t):iD t<=100:=by
 have key:∀ i,i < 10->∀ t∈cR i,iD t<=100:=bc.get (n:=10) (by simp only [bc]; exact ⟨⟨⟨⟨⟨⟨⟨⟨⟨⟨trivial,by decide⟩,by decide⟩,by decide⟩,by decide⟩,by decide⟩,by decide⟩,by decide⟩,by decide⟩,by decide⟩,by decide⟩)
 by_cases hi:i < 10
 ·exact key i hi t (GR h)
 ·have e:cR i=[]:=by
   match i,hi with
   | n+10,_=>rfl
  rw [e] at h
  cases h
noncomputable def AB (K:GM) (ca:aD):Sp:=fun vs H Q _=>∃ (a:GC) (ns:List Int),vs=[.ref a]/\aq K H a (ns.map V.int)/\ns.length<=63/\∀ H',Q (.bl true) H'
section
variable (P:GQ) (w:Hh) (K:GM) (mg:Str->Option Da) (base:HY) (ca:aD) (er:Nat->GC)
noncomputable abbrev Dm (n:Nat) (ps:List Str) (k:Nat) (sp:Sp):Prop:=dj P w K mg base ps k sp (ca.f n) (ca.fd n)
noncomputable abbrev Df (n:Nat) (x:Str) (ps:List Str) (k:Nat) (sp:Sp):Prop:=Def P w K mg base x ps k sp (ca.f n) (ca.fd n)
noncomputable abbrev Dv (n:Nat) (ps:List Str) (k:Nat) (sp:Sp):Prop:=uh P w K mg base ps k sp (ca.f n) (ca.fd n)
noncomputable def DL:List Prop:=[Df P w K mg base ca 0 "_law_words" [] 1 (AE K ca),Df P w K mg base ca 1 "_law_cell_at" ["_law_script","_law_k"] 1 (yA K ca),Df P w K mg base ca 2 "_law_draws" ["_law_script","_law_turn","_law_many"] 1 (CH K ca),Df P w K mg base ca 3 "_law_sign" ["_law_draw"] 1 (yy K ca),Df P w K mg base ca 4 "_law_text" ["_law_script","_law_turn","_law_text_here"] 2 (De K ca),Dm P w K mg base ca 5 ["self","word","least"] 1 (Er K ca),Dm P w K mg base ca 6 ["self","word"] 3 (D3 K ca),Dm P w K mg base ca 7 ["self"] 5 (Ca K ca),Dm P w K mg base ca 8 ["self"] 5 (zT K ca),Dm P w K mg base ca 9 ["self"] 5 (yZ K ca),Dm P w K mg base ca 10 ["self"] 5 (CC K ca),Dm P w K mg base ca 11 ["self"] 5 (BL K ca),Dm P w K mg base ca 12 ["self"] 5 (Cr K ca),Dm P w K mg base ca 13 ["self"] 5 (DN K ca),Df P w K mg base ca 14 "split_families" [] 7 (zY K ca),Dm P w K mg base ca 15 ["self","word"] 3 (Ey K ca),Dm P w K mg base ca 16 ["self"] 5 (AR K ca),Dm P w K mg base ca 17 ["self"] 5 (B0 K ca),Dm P w K mg base ca 18 ["self"] 5 (CY K ca),Df P w K mg base ca 19 "ring_families" [] 7 (Bm K ca),Df P w K mg base ca 20 "family_of" ["word"] 8 (CJ K ca er),Df P w K mg base ca 21 "closes" ["text"] 1 (zK K ca),Dm P w K mg base ca 22 ["self","thing"] 2 (zp K ca),Dm P w K mg base ca 23 ["self","thing"] 1 (zg K ca),Dm P w K mg base ca 24 ["self","thing"] 1 (AX K ca),Df P w K mg base ca 25 "each_once" ["numbers"] 1 (zC K ca),Df P w K mg base ca 26 "flat" ["rows"] 1 (BI K ca),Df P w K mg base ca 27 "any_cross" ["pairs"] 1 (Dr K ca),Dm P w K mg base ca 28 ["self","thing"] 2 (zA K ca),Df P w K mg base ca 29 "neighbours" ["rooms"] 2 (yC K ca),Dm P w K mg base ca 30 ["self","thing"] 3 (Au K ca),Df P w K mg base ca 31 "may_be_cut" ["corners","a","b"] 1 (zJ K ca),Dm P w K mg base ca 32 ["self","thing"] 2 (yI K ca),Df P w K mg base ca 33 "comes_off_a_stack" ["numbers"] 1 (AQ K ca),Dm P w K mg base ca 34 ["self","thing"] 2 (Am K ca),Dm P w K mg base ca 35 ["self","thing"] 1 (Cf K ca),Df P w K mg base ca 36 "comes_to_0" ["elders","knot"] 1 (CT K ca),Dm P w K mg base ca 37 ["self","thing"] 2 (zh K ca),Dm P w K mg base ca 38 ["self","thing"] 1 (yY K ca),∀ i,i < 10->Dm P w K mg base ca (pick 0 [22,23,24,28,30,32,34,35,37,38] i) ["self","thing"] 3 (a9 K ca i),Dm P w K mg base ca 40 ["self","thing"] 4 (DH K ca er),Df P w K mg base ca 41 "written_row" ["texts","between"] 1 (BG K ca),Df P w K mg base ca 42 "written_brackets" ["thing"] 2 (Bw K ca),Df P w K mg base ca 43 "written_twins" ["thing"] 1 (yq K ca),Df P w K mg base ca 44 "written_pair" ["a","b"] 1 (A3 K ca),Df P w K mg base ca 45 "written_bows" ["thing"] 2 (AO K ca),Df P w K mg base ca 46 "written_room" ["room"] 1 (zq K ca),Df P w K mg base ca 47 "written_rooms" ["thing"] 2 (Cz K ca),Df P w K mg base ca 48 "written_floor" ["thing"] 2 (Bf K ca),Df P w K mg base ca 49 "written_numbers" ["thing"] 2 (Ax K ca),∀ i,i < 6->Dv P w K mg base ca (pick 0 [42,43,45,47,48,49] i) ["thing"] 2 (cg K ca i),Df P w K mg base ca 51 "form_of" ["word"] 3 (AA K ca),Df P w K mg base ca 52 "written" ["word","thing"] 9 (AJ K ca er),Df P w K mg base ca 53 "_law_classes" ["_law_error"] 1 (As K ca er),Df P w K mg base ca 54 "_law_refused" ["_law_word","_law_thing"] 10 (yB K ca er),Df P w K mg base ca 55 "_law_amiss" ["_law_word","_law_draw"] 1 (B3 K ca),Df P w K mg base ca 56 "by_rule" ["size"] 1 (Dd K ca),Dm P w K mg base ca 57 ["self","size"] 2 (DU K ca),Df P w K mg base ca 58 "ring_many" ["size"] 1 (zZ K ca),Dm P w K mg base ca 59 ["self","size"] 2 (Eo K ca),∀ i,i < 10->Dm P w K mg base ca (pick 0 [57,57,57,57,57,57,57,59,59,59] i) ["self","size"] 2 (cI K ca i),Dm P w K mg base ca 61 ["self","size"] 3 (BX K ca),Dm P w K mg base ca 62 ["self"] 1 (Dp K ca),Dm P w K mg base ca 63 ["self"] 1 (CS K ca),Dm P w K mg base ca 64 ["self"] 1 (Cv K ca),Dm P w K mg base ca 65 ["self"] 1 (BQ K ca),Dm P w K mg base ca 66 ["self"] 1 (A4 K ca),Dm P w K mg base ca 67 ["self"] 1 (AK K ca),Dm P w K mg base ca 68 ["self"] 1 (Be K ca),∀ i,i < 7->Dm P w K mg base ca (pick 0 [62,63,64,65,66,67,68] i) ["self"] 1 (cf K ca i),Dm P w K mg base ca 70 ["self","counts","size","number"] 2 (Eu K ca),Df P w K mg base ca 71 "shares" ["most"] 1 (Ar K ca),Dm P w K mg base ca 72 ["self","size","number"] 3 (DD K ca),Dm P w K mg base ca 73 ["self","code"] 1 (AS K ca),Dm P w K mg base ca 74 ["self","code"] 1 (Bo K ca),Dm P w K mg base ca 75 ["self","code"] 2 (z0 K ca),∀ i,i < 3->Dm P w K mg base ca (pick 0 [73,74,75] i) ["self","code"] 2 (di K ca i),Df P w K mg base ca 77 "number_figures" ["number","base","length"] 1 (Aj K ca),Dm P w K mg base ca 78 ["self","size","number"] 3 (D5 K ca),∀ i,i < 10->Dm P w K mg base ca (pick 0 [72,72,72,72,72,72,72,78,78,78] i) ["self","size","number"] 3 (fE K ca i),Dm P w K mg base ca 80 ["self","size","number"] 4 (yK K ca)]
def D (n:Nat):Prop:=pick True (DL P w K mg base ca er) n
def Al (k:Nat):Prop:=∀ j,j < k->D P w K mg base ca er j
end
section
variable {P:GQ} {w:Hh} {K:GM} {mg:Str->Option Da} {base:HY} {ca:aD} {er:Nat->GC}
theorem Al.g {k:Nat} (h:Al P w K mg base ca er k) (j:Nat) (hj:j < k:=by decide):D P w K mg base ca er j:=h j hj
theorem Al.s {k:Nat} (h:Al P w K mg base ca er k) (d:D P w K mg base ca er k):Al P w K mg base ca er (k+1):=fun j hj=>if e:j=k then e▸d else h j (by lia)
noncomputable abbrev br (K:GM) (ca:aD) (n:Nat) (x q:Str) (s:Il):Prop:=aF K x q s (ca.f n) (ca.fd n)
noncomputable abbrev Fg (K:GM) (mg:Str->Option Da) (ca:aD) (n:Nat) (x:Str) (s:Il):Prop:=A6 K mg x s (ca.f n) (ca.fd n)
variable (CA:y6 K mg ca)
include CA
theorem FY:Al P w K mg base ca er 0:=fun _ h=>absurd h (Iy _)
variable (EO:AU K mg [3,4] er)
include EO
theorem yN (aL:Al P w K mg base ca er 0) (F:Fg K mg ca 0 "_law_words" oK):D P w K mg base ca er 0:=by
 refine bV F (fun _ _ _ _ _ _=>vO rfl) (F.F.ok ze (fun vs H Q E h=>?_) (fun cZ AZ oZ sZ H vs Q E hr h=>?_))
 ·obtain ⟨rfl,q⟩:=h
  rfl
 obtain ⟨rfl,q⟩:=h
 refine ⟨_,ah (ar (aR (aa aw (aa aw (aa aw (aa aw (aa aw (aa aw (aa aw (aa aw (aa aw (aa aw af)))))))))))),?_⟩
 exact ⟨(by show 10<=sizeLine; decide),fun p hp=>q p _ (ae.new (ae.refl H) hp _) hp ag⟩
theorem yw (aL:Al P w K mg base ca er 1) (F:Fg K mg ca 1 "_law_cell_at" qT):D P w K mg base ca er 1:=by
 refine bV F (fun _ _ _ _ _ _=>cB fun _ _=>rfl) (F.F.ok Ao (fun vs H Q E h=>?_) (fun cZ AZ oZ sZ H vs Q E hr h=>?_))
 ·obtain ⟨a,ns,k,rfl,hS,h0,q⟩:=h
  rfl
 obtain ⟨a,ns,k,rfl,hS,h0,q⟩:=h
 refine ⟨_,aj (aO (aC dh (pv 1) (ay ba rfl CA.cV cu (aa (pv 0) af)) (aE _)) (ah (ar (a8 aZ (pv 0) (pv 1) (fun _ _=>rfl)))) aG)
  (ah (ar ak)),?_⟩
 have hl:(ns.map V.int).length=ns.length:=FS _
 refine ⟨_,rfl,_,rfl,a,_,rfl,.inl hS,_,_,rfl,rfl,_,rfl,fV (fun c=>?_) (fun c=>?_)⟩
 ·have c':k < (((ns.map V.int).length:Nat):Int):=of_decide_eq_true c
  rw [hl] at c'
  exact ⟨_,rfl,_,rfl,a,_,_,_,rfl,rfl,hS,eE h0 c',q⟩
 ·have c':¬ k < (((ns.map V.int).length:Nat):Int):=of_decide_eq_false (Lb.mpr c)
  rw [hl] at c'
  have e:ns.getD k.toNat 0=0:=by rw [FB,Ie (by lia)]; rfl
  rw [e] at q
  exact q
theorem zW (aL:Al P w K mg base ca er 2) (F:Fg K mg ca 2 "_law_draws" qQ):D P w K mg base ca er 2:=by
 refine bV F (fun _ _ _ _ _ _=>jt fun _ _ _=>rfl) (F.F.ok c9 (fun vs H Q E h=>?_) (fun cZ AZ oZ sZ H vs Q E hr h=>?_))
 ·obtain ⟨a,ns,t,m,rfl,hS,h63,t0,t1,m0,m1,q⟩:=h
  rfl
 obtain ⟨a,ns,t,m,rfl,hS,h63,t0,t1,m0,m1,q⟩:=h
 refine ⟨_,aj (aB (i:=3) c9.nd rfl (Hc rfl) (au jd (cH nM (pv 0) cX (cW ak)) (aR (aa (pv 1) af))))
  (aj (aB (i:=4) c9.nd rfl (Hc rfl) (aR af))
  (aj (aO (aC cY (au bg (au eN (a8 aZ (pv 3) ak (fun _ _=>rfl)) ak) ak) ak (aE _)) (aj (ju (i:=5) c9.nd rfl (Hc rfl) rfl rfl (aY (pv 3)) rfl rfl rfl rfl (N:=["_law_cell"]) (.own .nil) (fun _ _ _ _ _ _=>(aA (i:=0) (by show HJ (["_law_cell"]:List Str); decide +kernel) rfl (Hc rfl))) (fun _ _ _ _ _ _=>bx) (fun _ _ _ _ _ _=>(au eN (pv 0) ak)))
  (aj (bR Hs rfl (cS rfl CA.cm (aa (au bt (pv 1) (pv 2)) af)) (aA (i:=6) c9.nd rfl (Hc rfl)) (aj (aB (i:=7) c9.nd rfl (Hc rfl) (au bg (pv 6) (ay ba rfl CA.cV cu (aa (pv 5) af))))
  (aj (aO (aC v3 (pv 6) (pv 1) (aE _)) (ah (aP (cG Hf Hn Ho bM (pv 4) (aa (au bg (a8 aZ (pv 5) (pv 7) (fun _ _=>rfl)) ak) af)))) aG)
  (ah (mh (au eN (a8 aZ (pv 5) (pv 7) (fun _ _=>rfl)) ak) (mq (pv 5) (pv 7) set_list))))))
  (ah (ar (pv 4))))) aG)
  (aj (bR Hs rfl (cS rfl CA.cm (aa (pv 2) af)) (aA (i:=6) c9.nd rfl (Hc rfl)) (aj (aB (i:=8) c9.nd rfl (Hc rfl) (au bt (au de (au de (au bt (pv 6) (pv 1)) (au bt (pv 6) (pv 1))) ak) ak))
  (aj (aB (i:=9) c9.nd rfl (Hc rfl) (au bg (au de (au bt (au bg (a8 aZ (pv 3) (au bg (pv 6) (ay ba rfl CA.cV cu (aa (pv 3) af))) (fun _ _=>rfl)) ak) (pv 8)) ak) ak))
  (aj (aB (i:=9) c9.nd rfl (Hc rfl) (au bg (au bt (au de (pv 9) (pv 9)) (au de ak (pv 6))) ak))
  (ah (aP (cG Hf Hn Ho bM (pv 4) (aa (au bg (au de (pv 9) (pv 9)) ak) af))))))))
  (ah (ar (pv 4)))))),?_⟩
 have M:∀ x:Int,0<=x % 2147483587/\x % 2147483587 < 2147483587:=fun x=>⟨HQ x (by decide),HD x (by decide)⟩
 refine ⟨_,rfl,_,rfl,a,_,rfl,hS,fun p1 hp1=>⟨_,rfl,(by show 1<=sizeLine; decide),fun p2 hp2=>?_⟩⟩
 have n12:p1≠p2:=az ag hp2
 have s1:=ae.new (ae.refl H) hp1 (.lst (dU (ns.map V.int) none (some 63)))
 have s2:=ae.new s1 hp2 (.lst [.int t])
 have lc:(dD ns none (some 63)).length<=63:=Hm (ni _ _ _) h63
 refine ⟨p1,p2,_,_,rfl,rfl,(av n12).trans ag,ag,?_,fun pc hpc=>?_⟩
 ·rw [iJ,FS]; exact sz (by simp; lia)
 have s3:=ae.new s2 hpc (.lst (dU (ns.map V.int) none (some 63)++[.int t]))
 have ecs:dU (ns.map V.int) none (some 63)++[.int t]=(dD ns none (some 63)++[t]).map V.int:=by rw [iJ,G7]; rfl
 have lcs:1<=(dD ns none (some 63)++[t]).length/\(dD ns none (some 63)++[t]).length<=64:=by rw [GZ]; constructor<;>simp<;>lia
 rw [ecs] at s3 |-
 generalize hH3:upd (upd (upd H p1 (.lst (dU (ns.map V.int) none (some 63)))) p2 (.lst [.int t])) pc (.lst ((dD ns none (some 63)++[t]).map V.int))=H3 at s3 |-
 have hc3:H3 pc=some (.lst ((dD ns none (some 63)++[t]).map V.int)):=by rw [<- hH3]; exact ag
 generalize dD ns none (some 63)++[t]=cs at hc3 lcs |-
 refine ⟨GG _,fun pf hpf=>?_⟩
 have s4:=ae.new s3 hpf (.lst [])
 have fpf:H pf=none:=s3.free hpf
 have ncf:pc≠pf:=az hc3 hpf
 have hc4:upd H3 pf (.lst []) pc=some (.lst (cs.map V.int)):=(av ncf).trans hc3
 have hf4:upd H3 pf (.lst []) pf=some (.lst (([]:List Int).map V.int)):=ag
 generalize upd H3 pf (.lst [])=H4 at s4 hc4 hf4 |-
 have at0:=eE (ns:=cs) (i:=0) (by decide) (by lia)
 have lm:(cs.map V.int).length=cs.length:=FS _
 refine ⟨_,rfl,pc,_,_,_,rfl,rfl,aq.of hc4,at0,_,_,rfl,rfl,⟨by decide,by decide +kernel⟩,_,_,rfl,rfl,pm (by decide),rfl,_,rfl,fV (fun _=>?_) (fun _=>?_)⟩
 ·refine ⟨_,rfl,pc,rfl,⟨_,aq.of hc4⟩,fun D hD=>eX (fun v=>match v with | .int c=>.int (c / 100000) | v=>v) (by rw [lm]; exact sz (by lia)) (aq.of hc4) hD (fun i x H' R R0 hx hb hR=>?_) ?_⟩
  ·obtain ⟨c,rfl⟩:=c6 hx
   exact ⟨Ext.set rfl,gI (aW ⟨_,rfl,_,_,rfl,rfl,⟨by decide,by decide +kernel⟩,hR⟩)⟩
  ·have fD:H D=none:=s4.free hD
   have nfD:pf≠D:=az hf4 hD
   have el:(cs.map V.int).map (fun v=>match v with | .int c=>V.int (c / 100000) | v=>v)=(cs.map (· / 100000)).map V.int:=by rw [Iz,Iz]; rfl
   rw [el]
   refine ⟨_,rfl,_,rfl,_,_,rfl,rfl,_,rfl,by lia,by lia,dQ (lo:=0) (n:=(t+m).toNat) (fun i σ H'=>∃ (o1 o2 o3 o4:Option V) (ls fs:List Int),σ=[some (.ref a),some (.int t),some (.int m),some (.ref pc),some (.ref pf),some (.ref D),o1,o2,o3,o4]/\ae H H'/\H' D=some (.lst (ls.map V.int))/\ls.length=cs.length/\H' pf=some (.lst (fs.map V.int))/\fs.length=i - t.toNat/\∀ x∈fs,0<=x/\x < 2147483587)
    ⟨_,_,_,_,_,[],rfl,ae.new s4 hD _,ag,by simp,(av nfD).trans hf4,by simp,by simp⟩ ?_ ?_⟩
   ·rintro i σ H5 hi ⟨o1,o2,o3,o4,ls,fs,rfl,sm,hl,ll,hf,lf,bf⟩
    have lml:(ls.map V.int).length=ls.length:=FS _
    have pos:(0:Int) < (((ls.map V.int).length:Nat):Int):=by rw [lml]; lia
    have k0:=HQ ((0:Int)+(i:Int)) (show (((ls.map V.int).length:Nat):Int)≠0 by lia)
    have k1:=HD ((0:Int)+(i:Int)) pos
    refine ⟨_,rfl,_,rfl,D,_,rfl,.inl (aq.of hl),_,_,rfl,rfl,pos,?_⟩
    try dsimp only
    generalize ((0:Int)+(i:Int)) % (((ls.map V.int).length:Nat):Int)=k at k0 k1 |-
    rw [lml] at k1
    have atk:=eE (ns:=ls) (i:=k) k0 k1
    refine ⟨_,rfl,_,rfl,_,_,rfl,rfl,_,rfl,fV (fun c=>?_) (fun c=>?_)⟩
    ·have c':t<=(0:Int)+(i:Int):=of_decide_eq_true c
     refine ⟨_,rfl,.inl ⟨rfl,_,aq.of hf⟩,_,rfl,_,rfl,D,_,_,_,rfl,rfl,aq.of hl,atk,_,_,rfl,rfl,pm (by decide),pf,_,_,rfl,rfl,hf,by rw [FS]; exact sA (by lia),?_⟩
     have wy:upd H5 pf (.lst (fs.map V.int++[.int (ls.getD k.toNat 0 % 2147483587)])) D=some (.lst (ls.map V.int)):=(av (Ip nfD)).trans hl
     refine ⟨_,rfl,_,rfl,D,_,_,_,rfl,rfl,aq.of wy,atk,_,_,rfl,rfl,⟨by decide,by decide +kernel⟩,_,rfl,_,rfl,D,_,_,_,rfl,rfl,wy,om k0 (by rw [lml]; exact k1),?_⟩
     refine ⟨_,_,_,_,ls.set k.toNat (ls.getD k.toNat 0 / 2147483587),fs++[ls.getD k.toNat 0 % 2147483587],rfl,(sm.upd fpf _).upd fD _,?_,by simpa using ll,?_,by simp [lf]; lia,?_⟩
     ·rw [ag,List.map_set]
     ·rw [av nfD,ag,G7]; rfl
     ·intro x hx
      rcases HN.mp hx with z | z
      ·exact bf x z
      ·have:x=ls.getD k.toNat 0 % 2147483587:=by simpa using z
       rw [this]; exact M _
    ·have c':¬ t<=(0:Int)+(i:Int):=of_decide_eq_false (Lb.mpr c)
     refine ⟨_,rfl,_,rfl,D,_,_,_,rfl,rfl,aq.of hl,atk,_,_,rfl,rfl,⟨by decide,by decide +kernel⟩,_,rfl,_,rfl,D,_,_,_,rfl,rfl,hl,om k0 (by rw [lml]; exact k1),?_⟩
     refine ⟨_,_,_,_,ls.set k.toNat (ls.getD k.toNat 0 / 2147483587),fs,rfl,sm.upd fD _,?_,by simpa using ll,(av nfD).trans hf,by lia,bf⟩
     rw [ag,List.map_set]
   ·rintro σ H5 ⟨o1,o2,o3,o4,ls,fs,rfl,sm,hl,ll,hf,lf,bf⟩
    exact ⟨_,rfl,q pf fs H5 sm fpf hf (by lia) bf⟩
 ·refine ⟨_,rfl,_,rfl,by lia,by lia,dQ (lo:=0) (n:=m.toNat) (fun i σ H'=>∃ (o1 o2 o3 o4 o5:Option V) (fs:List Int),σ=[some (.ref a),some (.int t),some (.int m),some (.ref pc),some (.ref pf),o1,o2,o3,o4,o5]/\ae H H'/\H' pc=some (.lst (cs.map V.int))/\H' pf=some (.lst (fs.map V.int))/\fs.length=i/\∀ x∈fs,0<=x/\x < 2147483587)
   ⟨_,_,_,_,_,[],rfl,s4,hc4,hf4,rfl,by simp⟩ ?_ ?_⟩
  ·rintro i σ H5 hi ⟨o1,o2,o3,o4,o5,fs,rfl,sm,hc,hf,lf,bf⟩
   have pos:(0:Int) < (((cs.map V.int).length:Nat):Int):=by rw [lm]; lia
   have k0:=HQ ((0:Int)+(i:Int)) (show (((cs.map V.int).length:Nat):Int)≠0 by lia)
   have k1:=HD ((0:Int)+(i:Int)) pos
   have atk:=eE (ns:=cs) (i:=((0:Int)+(i:Int)) % (((cs.map V.int).length:Nat):Int)) k0 (by rw [<- lm]; exact k1)
   refine ⟨_,rfl,_,rfl,_,_,rfl,rfl,_,rfl,_,rfl,_,_,rfl,rfl,_,_,rfl,rfl,.inl ⟨by lia,by lia⟩,_,_,rfl,rfl,.inr ⟨by decide,by decide⟩,_,_,rfl,rfl,?_⟩
   refine ⟨_,rfl,_,rfl,_,rfl,pc,_,rfl,.inl (aq.of hc),_,_,rfl,rfl,pos,pc,_,_,_,rfl,rfl,aq.of hc,atk,_,_,rfl,rfl,pm (by decide),_,rfl,_,_,rfl,rfl,_,_,rfl,rfl,.inr ⟨by decide,by decide⟩,_,_,rfl,rfl,pm (by decide),?_⟩
   try dsimp only
   generalize hnu:(cs.getD (((0:Int)+(i:Int)) % (((cs.map V.int).length:Nat):Int)).toNat 0 % 2147483647+(((0:Int)+(i:Int)+t)*((0:Int)+(i:Int)+t)*7919+104729))*48271 % 2147483647=nu
   have b0:0<=nu:=by rw [<- hnu]; exact HQ _ (by decide)
   have b1:nu < 2147483647:=by rw [<- hnu]; exact HD _ (by decide)
   refine ⟨_,rfl,_,rfl,_,_,rfl,rfl,.inl ⟨by lia,by lia⟩,_,rfl,_,_,rfl,rfl,.inl ⟨by decide,by decide⟩,_,_,rfl,rfl,_,_,rfl,rfl,pm (by decide),?_⟩
   try dsimp only
   generalize hnv:(nu*nu+69621*((0:Int)+(i:Int))) % 2147483629=nv
   have d0:0<=nv:=by rw [<- hnv]; exact HQ _ (by decide)
   have d1:nv < 2147483629:=by rw [<- hnv]; exact HD _ (by decide)
   refine ⟨_,rfl,.inl ⟨rfl,_,aq.of hf⟩,_,rfl,_,rfl,_,_,rfl,rfl,.inl ⟨by lia,by lia⟩,_,_,rfl,rfl,pm (by decide),pf,_,_,rfl,rfl,hf,by rw [FS]; exact sA (by lia),?_⟩
   refine ⟨_,_,_,_,_,fs++[nv*nv % 2147483587],rfl,sm.upd fpf _,(av ncf).trans hc,?_,by simp [lf],?_⟩
   ·rw [ag,G7]; rfl
   ·intro y hy
    rcases HN.mp hy with z | z
    ·exact bf y z
    ·have:y=nv*nv % 2147483587:=by simpa using z
     rw [this]; exact M _
  ·rintro σ H5 ⟨o1,o2,o3,o4,o5,fs,rfl,sm,hc,hf,lf,bf⟩
   exact ⟨_,rfl,q pf fs H5 sm fpf hf lf bf⟩
theorem Bn (aL:Al P w K mg base ca er 3) (F:Fg K mg ca 3 "_law_sign" oE):D P w K mg base ca er 3:=by
 refine bV F (fun _ _ _ _ _ _=>bB fun _=>rfl) (F.F.ok l7 (fun vs H Q E h=>?_) (fun cZ AZ oZ sZ H vs Q E hr h=>?_))
 ·obtain ⟨n,rfl,q⟩:=h
  rfl
 obtain ⟨n,rfl,q⟩:=h
 refine ⟨_,aj (aB (i:=1) l7.nd rfl (Hc rfl) aw)
  (aj (aB (i:=1) l7.nd rfl (Hc rfl) (au bq (pv 1) aw))
  (ah (ar (a8 Cm (pv 1) (au bg (pv 0) (ay g5 rfl CA.cV cu (aa (pv 1) af))) (fun _ _=>rfl))))),?_⟩
 have z:1000<=sizeLine:=by decide
 have e:=DS
 refine ⟨_,rfl,_,_,rfl,rfl,by decide +kernel,?_⟩
 generalize (tz " !\"#$&'()*+,-./0123456789:;<=>?@ABCDEFGHIJKLMNOPQRSTUVWXYZ[\\]^_`")++(tz "abcdefghijklmnopqrstuvwxyz{|}~")=x0 at e |-
 have b0:=HQ n (show ((x0.length:Nat):Int)≠0 by lia)
 have b1:=HD n (show (0:Int) < ((x0.length:Nat):Int) by lia)
 refine ⟨_,rfl,_,rfl,_,rfl,x0,rfl,by lia,_,_,rfl,rfl,by lia,?_⟩
 have lx:=xI x0
 have hc:x0.cps.toList[(n % ((x0.length:Nat):Int)).toNat]? = some (x0.cps.toList[(n % ((x0.length:Nat):Int)).toNat]'(by lia)):=Do _
 exact ⟨x0,_,_,rfl,rfl,by lia,xA b0 hc,q _ (by show 1<=1; decide)⟩
theorem yv (aL:Al P w K mg base ca er 4) (F:Fg K mg ca 4 "_law_text" oN):D P w K mg base ca er 4:=by
 refine bV F (fun _ _ _ _ _ _=>jt fun _ _ _=>rfl) (F.F.ok jI (fun vs H Q E h=>?_) (fun cZ AZ oZ sZ H vs Q E hr h=>?_))
 ·obtain ⟨a,ns,t,x,rfl,hS,h63,t0,t1,lx,q⟩:=h
  rfl
 obtain ⟨a,ns,t,x,rfl,hS,h63,t0,t1,lx,q⟩:=h
 refine ⟨_,aj (aB (i:=3) jI.nd rfl (Ls rfl) (aI (aL.g 2) hr (aa (pv 0) (aa (pv 1) (aa ak af)))))
  (aj (aB (i:=4) jI.nd rfl (Hc rfl) (au bg (a8 aZ (pv 3) ak (fun _ _=>rfl)) (ay (kN rfl) rfl CA.vV sW (aa (ay g5 rfl CA.cV cu (aa (pv 2) af)) (aa ak af)))))
  (aj (aB (i:=5) jI.nd rfl (Hc rfl) (aI (aL.g 3) hr (aa (a8 aZ (pv 3) ak (fun _ _=>rfl)) af)))
  (aj (aO (aC cY (au bg (a8 aZ (pv 3) ak (fun _ _=>rfl)) ak) ak (aE _)) (ah (ar (au bq (au bq (cH ft (pv 2) cX (cW (pv 4))) (pv 5)) (cH ft (pv 2) (cW (pv 4)) cX)))) aG)
  (aj (aO (aC cY (au bg (a8 aZ (pv 3) ak (fun _ _=>rfl)) ak) ak (aE _)) (ah (ar (au bq (cH ft (pv 2) cX (cW (pv 4))) (cH ft (pv 2) (cW (au bt (pv 4) ak)) cX)))) aG)
  (aj (aO (aC cY (au bg (a8 aZ (pv 3) ak (fun _ _=>rfl)) ak) ak (aE _)) (ah (ar (au bq (au bq (cH ft (pv 2) cX (cW (pv 4))) (pv 5)) (cH ft (pv 2) (cW (au bt (pv 4) ak)) cX)))) aG)
  (aj (aO (aC cY (au bg (a8 aZ (pv 3) ak (fun _ _=>rfl)) ak) ak (aE _)) (ah (ar (cG Js LJ LK nP aw (aa (bI rfl (cS rfl CA.cm (aa (au bg (a8 aZ (pv 3) ak (fun _ _=>rfl)) ak) af)) rfl rfl rfl rfl (N:=["_law_k","_law_draws_here"]) (.own (.cap (j:=3) rfl rfl rfl .nil)) (fun _ _ _ _ _ _=>(aA (i:=0) (by show HJ (["_law_k","_law_draws_here"]:List Str); decide +kernel) rfl (Hc rfl))) (fun _ _ _ _ _ _=>bx) (fun _ _ _ _ _ _=>(aI (aL.g 3) hr (aa (a8 (iS (K:=K) rfl) (pv 1) (au bt ak (pv 0)) (fun _ _=>rfl)) af)))) af)))) aG)
  (aj (aO (aC cY (au bg (a8 aZ (pv 3) ak (fun _ _=>rfl)) ak) ak (aE _)) (ah (ar (a8 aZ (aR (aa (au bq (pv 2) aw) (aa (au bq aw (pv 2)) (aa (tj Js PySem.F.slot_str_upper PySem.F.type_str_upper uF (pv 2)) (aa (au bq (pv 2) (pv 2)) af))))) (au bg (a8 aZ (pv 3) ak (fun _ _=>rfl)) ak) (fun _ _=>rfl)))) aG)
  (ah (ar (pv 2)))))))))),?_⟩
 have z:1000<=sizeLine:=by decide
 have lz:x.length<=sizeLine:=by lia
 have sl:∀ lo hi,(Txt.slice x lo hi).length<=100:=fun lo hi=>Hm (Txt.slice_le x lo hi) lx
 refine ⟨_,rfl,_,rfl,a,ns,t,64,rfl,hS,h63,t0,t1,by decide,by decide,fun p xs H1 s1 f1 h1 l1 b1=>?_⟩
 have l64:xs.length=64:=l1
 have hp:=aq.of (K:=K) h1
 have at_:∀ i:Int,0<=i->i < 64->eV (xs.map V.int) i=some (.int (xs.getD i.toNat 0)):=fun i h0 h9=>eE (ns:=xs) h0 (by lia)
 have mx:(0:Int) < (if (1:Int) > ((x.length:Nat):Int) then 1 else ((x.length:Nat):Int)):=by split<;>lia
 refine ⟨_,rfl,p,_,_,_,rfl,rfl,hp,at_ 0 (by decide) (by decide),_,rfl,x,rfl,lz,_,_,rfl,_,_,rfl,rfl,mx,?_⟩
 try dsimp only
 generalize xs.getD (0:Int).toNat 0 % (if (1:Int) > ((x.length:Nat):Int) then 1 else ((x.length:Nat):Int))=k
 refine ⟨_,rfl,p,_,_,_,rfl,rfl,hp,at_ 1 (by decide) (by decide),_,rfl,fun y ly=>?_⟩
 refine ⟨_,rfl,p,_,_,_,rfl,rfl,hp,at_ 2 (by decide) (by decide),_,_,rfl,rfl,pm (by decide),rfl,_,rfl,fV (fun _=>?_) (fun _=>?_)⟩
 ·have l1:=sl none (some k)
  have l2:=sl (some k) none
  exact ⟨_,rfl,_,rfl,_,rfl,x,rfl,lz,_,rfl,_,_,rfl,rfl,dg l1 ly (by decide),_,rfl,_,rfl,_,rfl,x,rfl,lz,_,_,rfl,rfl,dg (le_app l1 ly) l2 (by decide),q _ _ s1⟩
 refine ⟨_,rfl,p,_,_,_,rfl,rfl,hp,at_ 2 (by decide) (by decide),_,_,rfl,rfl,pm (by decide),rfl,_,rfl,fV (fun _=>?_) (fun _=>?_)⟩
 ·have l1:=sl none (some k)
  have l2:=sl (some (k+1)) none
  exact ⟨_,rfl,_,rfl,_,rfl,x,rfl,lz,_,rfl,_,rfl,_,_,rfl,rfl,_,rfl,x,rfl,lz,_,_,rfl,rfl,dg l1 l2 (by decide),q _ _ s1⟩
 refine ⟨_,rfl,p,_,_,_,rfl,rfl,hp,at_ 2 (by decide) (by decide),_,_,rfl,rfl,pm (by decide),rfl,_,rfl,fV (fun _=>?_) (fun _=>?_)⟩
 ·have l1:=sl none (some k)
  have l2:=sl (some (k+1)) none
  exact ⟨_,rfl,_,rfl,_,rfl,x,rfl,lz,_,rfl,_,_,rfl,rfl,dg l1 ly (by decide),_,rfl,_,rfl,_,_,rfl,rfl,_,rfl,x,rfl,lz,_,_,rfl,rfl,dg (le_app l1 ly) l2 (by decide),q _ _ s1⟩
 refine ⟨_,rfl,p,_,_,_,rfl,rfl,hp,at_ 2 (by decide) (by decide),_,_,rfl,rfl,pm (by decide),rfl,_,rfl,fV (fun _=>?_) (fun _=>?_)⟩
 ·have m0:=HQ (xs.getD (3:Int).toNat 0) (show (61:Int)≠0 by decide)
  have m1:=HD (xs.getD (3:Int).toNat 0) (show (0:Int) < 61 by decide)
  refine ⟨rfl,_,rfl,p,_,_,_,rfl,rfl,hp,at_ 3 (by decide) (by decide),_,_,rfl,rfl,pm (by decide),_,rfl,by lia,by lia,?_⟩
  try dsimp only
  generalize xs.getD (3:Int).toNat 0 % 61=m at m0 m1 |-
  intro D hD
  refine m6 (lo:=0) (n:=m.toNat) (fun i ys H'=>ae H1 H'/\H' D=some (.lst ys)/\∃ zs:List Str,ys=zs.map V.str/\(zs.map (·.length)).sum<=i/\zs.length=i) (sz (by lia)) ⟨ae.new (ae.refl H1) hD _,ag,[],rfl,GF _,rfl⟩ (fun i ys H' _ h=>?_) ?_ ?_
  ·obtain ⟨_,_,zs,rfl,_,lz⟩:=h
   rw [FS,lz]; exact GF _
  ·rintro i ys H2 R R0 hi ⟨s2,hD2,zs,rfl,lzs,ln⟩ hR hR0
   refine ⟨Ext.set rfl,gI (aW ⟨_,rfl,_,rfl,_,_,rfl,rfl,p,_,_,_,rfl,rfl,aq.of (s2 _ _ h1),at_ _ (by lia) (by lia),_,rfl,fun y1 ly1=>?_⟩)⟩
   refine hR _ _ hD2 ⟨s2.upd hD _,ag,zs++[y1],by rw [G7]; rfl,?_,by rw [GZ,ln]; rfl⟩
   rw [G7,List.sum_append]
   show _+(y1.length+0)<=_
   lia
  ·rintro ys H2 ⟨s2,hD2,zs,rfl,lzs,ln⟩
   refine ⟨_,D,zs,rfl,rfl,aq.of hD2,?_,q _ _ (s1.trans s2)⟩
   rw [show (tz "").length=0 by decide +kernel]
   lia
 refine ⟨_,rfl,p,_,_,_,rfl,rfl,hp,at_ 2 (by decide) (by decide),_,_,rfl,rfl,pm (by decide),rfl,_,rfl,fV (fun _=>?_) (fun _=>⟨_,rfl,q _ _ s1⟩)⟩
 have g:K9 (tz " ")<=1:=by decide +kernel
 refine ⟨_,rfl,_,_,rfl,rfl,dg lx g (by decide),_,rfl,_,_,rfl,rfl,dg g lx (by decide),_,rfl,rfl,x,rfl,rfl,by lia,_,rfl,_,rfl,_,_,rfl,rfl,dg lx lx (by decide),(by show 4<=sizeLine; decide),fun d hd=>?_⟩
 obtain ⟨y4,e4⟩:=wX (x++tz " ") (tz " "++x) (Txt.upper x) (x++x) (xs.getD (3:Int).toNat 0)
 have k1:=ae.new (ae.refl H1) hd (.lst [.str (x++tz " "),.str (tz " "++x),.str (Txt.upper x),.str (x++x)])
 exact ⟨_,rfl,p,_,_,_,rfl,rfl,aq.of (k1 _ _ h1),at_ 3 (by decide) (by decide),_,_,rfl,rfl,pm (by decide),d,_,_,_,rfl,rfl,aq.of ag,e4,q _ _ (s1.trans k1)⟩
theorem DY (aL:Al P w K mg base ca er 5) (F:br K ca 5 "__init__" "Family.__init__" u5):D P w K mg base ca er 5:=by
 refine bw F (fun _ _ _ _ _ _=>jt fun _ _ _=>rfl) (F.ok Ef (fun vs H Q E h=>?_) (fun cZ AZ oZ sZ H vs Q E hr h=>?_))
 ·obtain ⟨fw,hf,x,dx,w,l,rfl,hx,q⟩:=h
  rfl
 obtain ⟨fw,hf,x,dx,w,l,rfl,hx,q⟩:=h
 refine ⟨_,aj (sE (pv 0) (pv 1) rfl)
  (ah (sE (pv 0) (pv 2) rfl)),?_⟩
 refine ⟨_,rfl,_,rfl,x,(ca.C fw),dx,_,rfl,hx,(CA.c4 fw hf),(CA.na4_word fw hf),(by show 0 < 1000; decide),?_⟩
 refine ⟨_,rfl,_,rfl,x,(ca.C fw),dx,_,rfl,ag,(CA.c4 fw hf),(CA.na4_least fw hf),(by show 1 < 1000; decide),?_⟩
 exact q _ _ jM (xg w l)
theorem D7 (aL:Al P w K mg base ca er 6) (F:br K ca 6 "__init__" "SplitFamily.__init__" uz):D P w K mg base ca er 6:=by
 refine bw F (fun _ _ _ _ _ _=>cB fun _ _=>rfl) (F.ok Eg (fun vs H Q E h=>?_) (fun cZ AZ oZ sZ H vs Q E hr h=>?_))
 ·obtain ⟨fw,hf,x,dx,w,rfl,hx,q⟩:=h
  rfl
 obtain ⟨fw,hf,x,dx,w,rfl,hx,q⟩:=h
 refine ⟨_,ah (aP (ee CA.mG CA.cm_Family___init___W (aL.g 5) hr (aa (pv 0) (aa (pv 1) (aa ak af))))),?_⟩
 exact ⟨_,rfl,_,rfl,fw,hf,x,dx,w,0,rfl,hx,fun fs H' e f=>q fs H' e f⟩
theorem A2 (aL:Al P w K mg base ca er 7) (F:br K ca 7 "__init__" "Turns.__init__" qL):D P w K mg base ca er 7:=by
 refine bw F (fun _ _ _ _ _ _=>bB fun _=>rfl) (F.ok Bg (fun vs H Q E h=>?_) (fun cZ AZ oZ sZ H vs Q E hr h=>?_))
 ·obtain ⟨x,dx,rfl,hx,q⟩:=h
  rfl
 obtain ⟨x,dx,rfl,hx,q⟩:=h
 refine ⟨_,ah (aP (ee CA.bP CA.cm_SplitFamily___init___W (aL.g 6) hr (aa (pv 0) (aa aw af)))),?_⟩
 exact ⟨_,rfl,6,by decide,x,dx,_,rfl,hx,fun fs H' e f=>q fs H' e f⟩
theorem zj (aL:Al P w K mg base ca er 8) (F:br K ca 8 "__init__" "Floors.__init__" qb):D P w K mg base ca er 8:=by
 refine bw F (fun _ _ _ _ _ _=>bB fun _=>rfl) (F.ok AH (fun vs H Q E h=>?_) (fun cZ AZ oZ sZ H vs Q E hr h=>?_))
 ·obtain ⟨x,dx,rfl,hx,q⟩:=h
  rfl
 obtain ⟨x,dx,rfl,hx,q⟩:=h
 refine ⟨_,ah (aP (ee CA.bP CA.cm_SplitFamily___init___W (aL.g 6) hr (aa (pv 0) (aa aw af)))),?_⟩
 exact ⟨_,rfl,5,by decide,x,dx,_,rfl,hx,fun fs H' e f=>q fs H' e f⟩
theorem Ai (aL:Al P w K mg base ca er 9) (F:br K ca 9 "__init__" "Rooms.__init__" oO):D P w K mg base ca er 9:=by
 refine bw F (fun _ _ _ _ _ _=>bB fun _=>rfl) (F.ok B8 (fun vs H Q E h=>?_) (fun cZ AZ oZ sZ H vs Q E hr h=>?_))
 ·obtain ⟨x,dx,rfl,hx,q⟩:=h
  rfl
 obtain ⟨x,dx,rfl,hx,q⟩:=h
 refine ⟨_,ah (aP (ee CA.bP CA.cm_SplitFamily___init___W (aL.g 6) hr (aa (pv 0) (aa aw af)))),?_⟩
 exact ⟨_,rfl,4,by decide,x,dx,_,rfl,hx,fun fs H' e f=>q fs H' e f⟩
theorem BK (aL:Al P w K mg base ca er 10) (F:br K ca 10 "__init__" "Bows.__init__" qw):D P w K mg base ca er 10:=by
 refine bw F (fun _ _ _ _ _ _=>bB fun _=>rfl) (F.ok yt (fun vs H Q E h=>?_) (fun cZ AZ oZ sZ H vs Q E hr h=>?_))
 ·obtain ⟨x,dx,rfl,hx,q⟩:=h
  rfl
 obtain ⟨x,dx,rfl,hx,q⟩:=h
 refine ⟨_,ah (aP (ee CA.bP CA.cm_SplitFamily___init___W (aL.g 6) hr (aa (pv 0) (aa aw af)))),?_⟩
 exact ⟨_,rfl,3,by decide,x,dx,_,rfl,hx,fun fs H' e f=>q fs H' e f⟩
theorem yU (aL:Al P w K mg base ca er 11) (F:br K ca 11 "__init__" "Twins.__init__" pD):D P w K mg base ca er 11:=by
 refine bw F (fun _ _ _ _ _ _=>bB fun _=>rfl) (F.ok AD (fun vs H Q E h=>?_) (fun cZ AZ oZ sZ H vs Q E hr h=>?_))
 ·obtain ⟨x,dx,rfl,hx,q⟩:=h
  rfl
 obtain ⟨x,dx,rfl,hx,q⟩:=h
 refine ⟨_,ah (aP (ee CA.bP CA.cm_SplitFamily___init___W (aL.g 6) hr (aa (pv 0) (aa aw af)))),?_⟩
 exact ⟨_,rfl,2,by decide,x,dx,_,rfl,hx,fun fs H' e f=>q fs H' e f⟩
theorem zD (aL:Al P w K mg base ca er 12) (F:br K ca 12 "__init__" "Stairs.__init__" qi):D P w K mg base ca er 12:=by
 refine bw F (fun _ _ _ _ _ _=>bB fun _=>rfl) (F.ok Cb (fun vs H Q E h=>?_) (fun cZ AZ oZ sZ H vs Q E hr h=>?_))
 ·obtain ⟨x,dx,rfl,hx,q⟩:=h
  rfl
 obtain ⟨x,dx,rfl,hx,q⟩:=h
 refine ⟨_,ah (aP (ee CA.bP CA.cm_SplitFamily___init___W (aL.g 6) hr (aa (pv 0) (aa aw af)))),?_⟩
 exact ⟨_,rfl,1,by decide,x,dx,_,rfl,hx,fun fs H' e f=>q fs H' e f⟩
theorem D6 (aL:Al P w K mg base ca er 13) (F:br K ca 13 "__init__" "Brackets.__init__" vo):D P w K mg base ca er 13:=by
 refine bw F (fun _ _ _ _ _ _=>bB fun _=>rfl) (F.ok Ej (fun vs H Q E h=>?_) (fun cZ AZ oZ sZ H vs Q E hr h=>?_))
 ·obtain ⟨x,dx,rfl,hx,q⟩:=h
  rfl
 obtain ⟨x,dx,rfl,hx,q⟩:=h
 refine ⟨_,ah (aP (ee CA.bP CA.cm_SplitFamily___init___W (aL.g 6) hr (aa (pv 0) (aa aw af)))),?_⟩
 exact ⟨_,rfl,0,by decide,x,dx,_,rfl,hx,fun fs H' e f=>q fs H' e f⟩
theorem yE (aL:Al P w K mg base ca er 14) (F:Fg K mg ca 14 "split_families" qD):D P w K mg base ca er 14:=by
 refine bV F (fun _ _ _ _ _ _=>vO rfl) (F.F.ok zu (fun vs H Q E h=>?_) (fun cZ AZ oZ sZ H vs Q E hr h=>?_))
 ·obtain ⟨rfl,q⟩:=h
  rfl
 obtain ⟨rfl,q⟩:=h
 refine ⟨_,ah (ar (aR (aa (df CA.mk_Brackets CA.oR (aL.g 13) hr) (aa (df CA.mk_Stairs CA.vb (aL.g 12) hr) (aa (df CA.mk_Twins CA.xW (aL.g 11) hr) (aa (df CA.mk_Bows CA.yT (aL.g 10) hr) (aa (df CA.mk_Rooms CA.xP (aL.g 9) hr) (aa (df CA.mk_Floors CA.vJ (aL.g 8) hr) (aa (df CA.mk_Turns CA.yi (aL.g 7) hr) af))))))))),?_⟩
 intro x0 dx0 nx0 ndx0 nex0
 refine ⟨x0,dx0,rfl,ag,fun fs0 H1 e0 fl0=>⟨rfl,?_⟩⟩
 obtain ⟨s0,pr0⟩:=cM nx0 ndx0 e0 fl0
 clear e0
 have t0:=s0
 have pp0:=pr0
 intro x1 dx1 nx1 ndx1 nex1
 refine ⟨x1,dx1,rfl,ag,fun fs1 H2 e1 fl1=>⟨rfl,?_⟩⟩
 obtain ⟨s1,pr1⟩:=cM nx1 ndx1 e1 fl1
 clear e1
 have t1:=t0.trans s1
 have pp1:=cE (bz pp0 s1) pr1
 clear pp0
 intro x2 dx2 nx2 ndx2 nex2
 refine ⟨x2,dx2,rfl,ag,fun fs2 H3 e2 fl2=>⟨rfl,?_⟩⟩
 obtain ⟨s2,pr2⟩:=cM nx2 ndx2 e2 fl2
 clear e2
 have t2:=t1.trans s2
 have pp2:=cE (bz pp1 s2) pr2
 clear pp1
 intro x3 dx3 nx3 ndx3 nex3
 refine ⟨x3,dx3,rfl,ag,fun fs3 H4 e3 fl3=>⟨rfl,?_⟩⟩
 obtain ⟨s3,pr3⟩:=cM nx3 ndx3 e3 fl3
 clear e3
 have t3:=t2.trans s3
 have pp3:=cE (bz pp2 s3) pr3
 clear pp2
 intro x4 dx4 nx4 ndx4 nex4
 refine ⟨x4,dx4,rfl,ag,fun fs4 H5 e4 fl4=>⟨rfl,?_⟩⟩
 obtain ⟨s4,pr4⟩:=cM nx4 ndx4 e4 fl4
 clear e4
 have t4:=t3.trans s4
 have pp4:=cE (bz pp3 s4) pr4
 clear pp3
 intro x5 dx5 nx5 ndx5 nex5
 refine ⟨x5,dx5,rfl,ag,fun fs5 H6 e5 fl5=>⟨rfl,?_⟩⟩
 obtain ⟨s5,pr5⟩:=cM nx5 ndx5 e5 fl5
 clear e5
 have t5:=t4.trans s5
 have pp5:=cE (bz pp4 s5) pr5
 clear pp4
 intro x6 dx6 nx6 ndx6 nex6
 refine ⟨x6,dx6,rfl,ag,fun fs6 H7 e6 fl6=>⟨rfl,?_⟩⟩
 obtain ⟨s6,pr6⟩:=cM nx6 ndx6 e6 fl6
 clear e6
 have t6:=t5.trans s6
 have pp6:=cE (bz pp5 s6) pr6
 clear pp5
 refine ⟨(by show 7<=sizeLine; decide),fun p hp=>?_⟩
 exact q p _ _ (ae.new t6 hp _) (t6.free hp) ag (bz pp6 (ae.new (ae.refl _) hp _))
theorem DP (aL:Al P w K mg base ca er 15) (F:br K ca 15 "__init__" "RingFamily.__init__" vA):D P w K mg base ca er 15:=by
 refine bw F (fun _ _ _ _ _ _=>cB fun _ _=>rfl) (F.ok Dx (fun vs H Q E h=>?_) (fun cZ AZ oZ sZ H vs Q E hr h=>?_))
 ·obtain ⟨fw,hf,x,dx,w,rfl,hx,q⟩:=h
  rfl
 obtain ⟨fw,hf,x,dx,w,rfl,hx,q⟩:=h
 refine ⟨_,ah (aP (ee CA.mG CA.cm_Family___init___W (aL.g 5) hr (aa (pv 0) (aa (pv 1) (aa ak af))))),?_⟩
 exact ⟨_,rfl,_,rfl,fw,hf,x,dx,w,1,rfl,hx,fun fs H' e f=>q fs H' e f⟩
theorem zL (aL:Al P w K mg base ca er 16) (F:br K ca 16 "__init__" "Cars.__init__" pG):D P w K mg base ca er 16:=by
 refine bw F (fun _ _ _ _ _ _=>bB fun _=>rfl) (F.ok A7 (fun vs H Q E h=>?_) (fun cZ AZ oZ sZ H vs Q E hr h=>?_))
 ·obtain ⟨x,dx,rfl,hx,q⟩:=h
  rfl
 obtain ⟨x,dx,rfl,hx,q⟩:=h
 refine ⟨_,ah (aP (ee CA.eL CA.cm_RingFamily___init___W (aL.g 15) hr (aa (pv 0) (aa aw af)))),?_⟩
 exact ⟨_,rfl,9,by decide,x,dx,_,rfl,hx,fun fs H' e f=>q fs H' e f⟩
theorem zl (aL:Al P w K mg base ca er 17) (F:br K ca 17 "__init__" "Trees.__init__" qA):D P w K mg base ca er 17:=by
 refine bw F (fun _ _ _ _ _ _=>bB fun _=>rfl) (F.ok Cy (fun vs H Q E h=>?_) (fun cZ AZ oZ sZ H vs Q E hr h=>?_))
 ·obtain ⟨x,dx,rfl,hx,q⟩:=h
  rfl
 obtain ⟨x,dx,rfl,hx,q⟩:=h
 refine ⟨_,ah (aP (ee CA.eL CA.cm_RingFamily___init___W (aL.g 15) hr (aa (pv 0) (aa aw af)))),?_⟩
 exact ⟨_,rfl,8,by decide,x,dx,_,rfl,hx,fun fs H' e f=>q fs H' e f⟩
theorem zz (aL:Al P w K mg base ca er 18) (F:br K ca 18 "__init__" "Codes.__init__" pP):D P w K mg base ca er 18:=by
 refine bw F (fun _ _ _ _ _ _=>bB fun _=>rfl) (F.ok zx (fun vs H Q E h=>?_) (fun cZ AZ oZ sZ H vs Q E hr h=>?_))
 ·obtain ⟨x,dx,rfl,hx,q⟩:=h
  rfl
 obtain ⟨x,dx,rfl,hx,q⟩:=h
 refine ⟨_,ah (aP (ee CA.eL CA.cm_RingFamily___init___W (aL.g 15) hr (aa (pv 0) (aa aw af)))),?_⟩
 exact ⟨_,rfl,7,by decide,x,dx,_,rfl,hx,fun fs H' e f=>q fs H' e f⟩
theorem yD (aL:Al P w K mg base ca er 19) (F:Fg K mg ca 19 "ring_families" pF):D P w K mg base ca er 19:=by
 refine bV F (fun _ _ _ _ _ _=>vO rfl) (F.F.ok Di (fun vs H Q E h=>?_) (fun cZ AZ oZ sZ H vs Q E hr h=>?_))
 ·obtain ⟨rfl,q⟩:=h
  rfl
 obtain ⟨rfl,q⟩:=h
 refine ⟨_,ah (ar (aR (aa (df CA.mk_Codes CA.xR (aL.g 18) hr) (aa (df CA.mk_Trees CA.yf (aL.g 17) hr) (aa (df CA.mk_Cars CA.B9 (aL.g 16) hr) af))))),?_⟩
 intro x0 dx0 nx0 ndx0 nex0
 refine ⟨x0,dx0,rfl,ag,fun fs0 H1 e0 fl0=>⟨rfl,?_⟩⟩
 obtain ⟨s0,pr0⟩:=cM nx0 ndx0 e0 fl0
 clear e0
 have t0:=s0
 have pp0:=pr0
 intro x1 dx1 nx1 ndx1 nex1
 refine ⟨x1,dx1,rfl,ag,fun fs1 H2 e1 fl1=>⟨rfl,?_⟩⟩
 obtain ⟨s1,pr1⟩:=cM nx1 ndx1 e1 fl1
 clear e1
 have t1:=t0.trans s1
 have pp1:=cE (bz pp0 s1) pr1
 clear pp0
 intro x2 dx2 nx2 ndx2 nex2
 refine ⟨x2,dx2,rfl,ag,fun fs2 H3 e2 fl2=>⟨rfl,?_⟩⟩
 obtain ⟨s2,pr2⟩:=cM nx2 ndx2 e2 fl2
 clear e2
 have t2:=t1.trans s2
 have pp2:=cE (bz pp1 s2) pr2
 clear pp1
 refine ⟨(by show 3<=sizeLine; decide),fun p hp=>?_⟩
 exact q p _ _ (ae.new t2 hp _) (t2.free hp) ag (bz pp2 (ae.new (ae.refl _) hp _))
theorem Cg (aL:Al P w K mg base ca er 20) (F:Fg K mg ca 20 "family_of" p9):D P w K mg base ca er 20:=by
 refine Bk F (fun _ _ _ _ _ _=>bB fun _=>rfl) (F.F.okE rO (fun vs H Q E h=>?_) (fun cZ AZ oZ sZ H vs Q E hr h=>?_))
 ·obtain ⟨w,rfl,q⟩:=h
  rfl
 obtain ⟨w,rfl,q⟩:=h
 refine ⟨_,aj (bR PassesOwn.leaving rfl (aY (au jd (gK (aL.g 14) hr) (gK (aL.g 19) hr))) (aA (i:=1) rO.nd rfl (Hc rfl)) (ah (aO (aC cY (lP (pv 1) rfl) (pv 0) (aE _)) (ah (ar (pv 1))) aG)))
  (ah (mP fI (EO.x 4 (by decide)) rfl (EO.m 4 (by decide)) (aa aw af))),?_⟩
 refine ⟨rfl,fun p1 xs1 H1 s1 f1 h1 pr1=>⟨rfl,fun p2 xs2 H2 s2 f2 h2 pr2=>?_⟩⟩
 have e2:=pr2.length
 have e1:=pr1.length
 refine ⟨p1,p2,xs1,xs2,rfl,rfl,s2 _ _ h1,h2,(by rw [e1,e2]; show 10<=sizeLine; decide),fun pc hpc=>?_⟩
 have s3:=ae.new (ae.refl H2) hpc (.lst (xs1++xs2))
 have pr:Ir (cP (upd H2 pc (.lst (xs1++xs2)))) (xs1++xs2) (Cc ca):=cE (bz pr1 (s2.trans s3)) (bz pr2 s3)
 have hc:upd H2 pc (.lst (xs1++xs2)) pc=some (.lst (xs1++xs2)):=ag
 have s4:=(s1.trans s2).trans s3
 generalize upd H2 pc (.lst (xs1++xs2))=H3 at s4 pr hc |-
 have l:=pr.length
 have l10:(xs1++xs2).length=10:=l
 refine ⟨pc,rfl,⟨_,aq.of hc⟩,cT (xs:=xs1++xs2) (fun i σ H'=>∃ (o1:Option V),σ=[some (.str w),o1]/\H3=H'/\∀ j,j < i->j < 10->wd j≠w) ⟨_,rfl,rfl,fun j hj=>absurd hj (Iy _)⟩ (fun i σ H' _ h=>by obtain ⟨_,_,e,_⟩:=h; rw [<- e]; exact aq.of hc) ?_ ?_⟩
 ·rintro i v σ H' hv ⟨o1,rfl,rfl,hij⟩
  have hi:i < 10:=by have:=(GD.mp hv).1; lia
  obtain ⟨g,hg,x,dx,fs,rfl,hx,fl⟩:=yh pr hv
  rw [wR ca i hi] at hg
  cases hg
  refine ⟨_,rfl,x,_,dx,fs,_,rfl,hx,CA.c4 i hi,CA.na4_word i hi,fl.word,_,rfl,rfl,_,rfl,?_⟩
  by_cases e:wd i=w
  ·refine cw (congrArg V.str e) ⟨_,rfl,?_⟩
   rcases q with ⟨j,hj,ej,q⟩ | ⟨nw,_⟩
   ·have:i=j:=tX hi hj (e.trans ej)
    subst this
    exact q x dx fs H3 s4 hx fl
   ·exact absurd (e▸GR (lB i hi)) nw
  ·refine b6 (fun z=>e (by injection z)) ⟨_,rfl,rfl,fun j hj h10=>?_⟩
   by_cases ej:j=i
   ·rw [ej]; exact e
   ·exact hij j (by lia) h10
 ·rintro σ H' ⟨o1,rfl,rfl,hij⟩
  rcases q with ⟨j,hj,ej,_⟩ | ⟨_,q⟩
  ·exact absurd ej.symm (hij j (by lia) hj)
  ·exact ⟨sz (n:=1) (by decide),q H3 s4⟩
theorem CP (aL:Al P w K mg base ca er 21) (F:Fg K mg ca 21 "closes" pb):D P w K mg base ca er 21:=by
 refine bV F (fun _ _ _ _ _ _=>bB fun _=>rfl) (F.F.ok gF (fun vs H Q E h=>?_) (fun cZ AZ oZ sZ H vs Q E hr h=>?_))
 ·obtain ⟨x,rfl,q⟩:=h
  rfl
 obtain ⟨x,rfl,q⟩:=h
 refine ⟨_,aj (aB (i:=1) gF.nd rfl (Hc rfl) ak)
  (aj (bR Hs rfl (BH (pv 0)) (aA (i:=2) gF.nd rfl (Hc rfl)) (ah (aO (aC cY (pv 2) aw (aE _)) (ah (lJ (i:=1) gF.nd rfl (Hc rfl) ak rG)) (ah (aO (PW.pt (mW (aC cY (pv 2) aw (aE _)) (jP (aC lC (pv 1) ak (aE _))))) (ah (lJ (i:=1) gF.nd rfl (Hc rfl) ak zS)) (ah (ar cc)))))))
  (ah (ar (dq cY (pv 1) ak (aE _))))),?_⟩
 have fin:∀ b,c8 0 x.cps.toList=b->Q (.bl b) H:=fun b h=>by rw [<- h]; exact q
 refine ⟨_,rfl,x,rfl,wW (x:=x) (fun i σ H'=>H'=H/\∃ (o:Option V) (d:Nat),σ=[some (.str x),some (.int d),o]/\c8 0 x.cps.toList=c8 d (x.cps.toList.drop i)) ⟨rfl,none,0,rfl,rfl⟩ ?_ ?_⟩
 ·rintro i c σ H' hc ⟨rfl,o,d,rfl,e⟩
  rw [uC hc] at e
  refine ⟨_,rfl,rfl,_,rfl,Az (D1 c) ?_⟩
  by_cases h1:c=40
  ·refine cw h1 ⟨_,rfl,_,_,rfl,rfl,rfl,_,d+1,rfl,?_⟩
   rw [e,h1,Bc]
  ·refine b6 h1 ⟨_,rfl,rfl,_,rfl,Az (Ez c) ?_⟩
   by_cases h2:c=41
   ·refine cw h2 ⟨_,rfl,_,_,rfl,rfl,_,rfl,?_⟩
    cases d with
    | zero=>exact aS (fin false (by rw [e,h2,tE]))
    | succ d =>
     refine cw (by lia) ⟨_,rfl,_,_,rfl,rfl,rfl,some (.str ⟨#[c]⟩),d,?_,?_⟩
     ·show [some (V.str x),some (V.int (((d+1:Nat):Int) - 1)),some (V.str ⟨#[c]⟩)]=_
      rw [show ((d+1:Nat):Int) - 1=(d:Int) by lia]
     ·rw [e,h2,vF]
   ·exact b6 h2 (aS (fin false (by rw [e,rT h1 h2])))
 ·rintro σ H' ⟨rfl,o,d,rfl,e⟩
  refine ⟨_,rfl,rfl,fin _ ?_⟩
  rw [e,vH,xy]
  cases d with
  | zero=>rfl
  | succ d=>exact (decide_eq_false fun z=>by injection z with z; lia).symm
theorem zr (aL:Al P w K mg base ca er 22) (F:br K ca 22 "is_one" "Brackets.is_one" pj):D P w K mg base ca er 22:=by
 refine bw F (fun _ _ _ _ _ _=>cB fun _ _=>rfl) (F.ok zE (fun vs H Q E h=>?_) (fun cZ AZ oZ sZ H vs Q E hr h=>?_))
 ·obtain ⟨x,v,b,rfl,th,q⟩:=h
  rfl
 obtain ⟨x,v,b,rfl,th,q⟩:=h
 refine ⟨_,ah (ar (aI (aL.g 21) hr (aa (pv 1) af))),?_⟩
 obtain ⟨t,rfl,rfl⟩:=th
 have q:Q (.bl (c8 0 t.cps.toList)) H:=q _ (ae.refl H)
 exact ⟨_,rfl,t,rfl,q⟩
theorem Ac (aL:Al P w K mg base ca er 23) (F:br K ca 23 "is_one" "Stairs.is_one" qS):D P w K mg base ca er 23:=by
 refine bw F (fun _ _ _ _ _ _=>cB fun _ _=>rfl) (F.ok gD (fun vs H Q E h=>?_) (fun cZ AZ oZ sZ H vs Q E hr h=>?_))
 ·obtain ⟨x,v,b,rfl,th,q⟩:=h
  rfl
 obtain ⟨x,v,b,rfl,th,q⟩:=h
 refine ⟨_,aj (aB (i:=2) gD.nd rfl (Hc rfl) ak)
  (aj (bR Hs rfl (kd rfl CA.fk (aa (pv 1) af)) (g4 rfl (aX (aA (i:=3) gD.nd rfl (Hc rfl)) (aX (aA (i:=4) gD.nd rfl (Hc rfl)) cU))) (aj (aO (PW.pt (cJ (aC dh (pv 4) (pv 2) (aE _)) (cn (aC lC (pv 4) (pv 3) (aE _))))) (ah (ar cc)) aG)
  (ah (aB (i:=2) gD.nd rfl (Hc rfl) (pv 4)))))
  (ah (ar cc))),?_⟩
 obtain ⟨l,ns,rfl,hl,rfl⟩:=th
 have hl:=aq.of (K:=K) hl
 have lm:(ns.map V.int).length=ns.length:=FS _
 refine ⟨_,rfl,l,rfl,⟨_,hl⟩,mB (xs:=ns.map V.int) (fun i σ H'=>∃ (o1 o2:Option V) (a:Int),σ=[some (.ref x),some (.ref l),some (.int a),o1,o2]/\ae H H'/\gP 0 0 ns=gP i a (ns.drop i)) ⟨_,_,0,rfl,ae.refl H,rfl⟩ (fun i σ H' _ h=>h.choose_spec.choose_spec.choose_spec.2.1.seq hl) ?_ ?_⟩
 ·rintro i v σ H' T hv ⟨o1,o2,a,rfl,sm,e⟩ hT
  obtain ⟨c,rfl⟩:=c6 hv
  have hc:ns[i]? = some c:=by
   rw [Hk] at hv
   cases h:ns[i]? with
   | none=>rw [h] at hv; cases hv
   | some d=>rw [h] at hv; injection hv with hv; injection hv with hv; rw [hv]
  have hi:i < ns.length:=(GD.mp hc).1
  have ed:ns.drop i=c::ns.drop (i+1):=by
   rw [vN hi,FB,hc]; rfl
  rw [ed] at e
  have sm':=ae.new sm hT (.tup [.int (i:Int),.int c])
  refine ⟨T,_,rfl,bQ.of ag,rfl,_,_,rfl,_,_,rfl,rfl,?_⟩
  refine ⟨_,rfl,_,rfl,_,_,rfl,rfl,_,rfl,?_⟩
  by_cases h1:c < a
  ·refine cw h1 (aW ?_)
   rw [nY (.inl h1)] at e
   rw [e] at q
   exact q _ sm'
  refine b6 h1 ⟨_,rfl,_,rfl,_,_,rfl,rfl,_,rfl,?_⟩
  by_cases h2:(i:Int) < c
  ·refine cw h2 ?_
   rw [nY (.inr h2)] at e
   rw [e] at q
   exact q _ sm'
  ·refine b6 h2 ⟨_,rfl,?_⟩
   rw [Bd (by lia)] at e
   exact ⟨_,_,c,rfl,sm',e⟩
 ·rintro σ H' ⟨o1,o2,a,rfl,sm,e⟩
  rw [lm,List.drop_length,xj] at e
  rw [e] at q
  exact q _ sm
theorem Aw (aL:Al P w K mg base ca er 24) (F:br K ca 24 "is_one" "Twins.is_one" oF):D P w K mg base ca er 24:=by
 refine bw F (fun _ _ _ _ _ _=>cB fun _ _=>rfl) (F.ok BU (fun vs H Q E h=>?_) (fun cZ AZ oZ sZ H vs Q E hr h=>?_))
 ·obtain ⟨x,v,b,rfl,th,q⟩:=h
  rfl
 obtain ⟨x,v,b,rfl,th,q⟩:=h
 refine ⟨_,ah (ar cc),?_⟩
 have th:true=b:=th
 subst th
 exact q _ (ae.refl H)
theorem BS (aL:Al P w K mg base ca er 25) (F:Fg K mg ca 25 "each_once" pW):D P w K mg base ca er 25:=by
 refine bV F (fun _ _ _ _ _ _=>bB fun _=>rfl) (F.F.ok Bv (fun vs H Q E h=>?_) (fun cZ AZ oZ sZ H vs Q E hr h=>?_))
 ·obtain ⟨l,ns,rfl,hl,h64,q⟩:=h
  rfl
 obtain ⟨l,ns,rfl,hl,h64,q⟩:=h
 refine ⟨_,ah (ar (dq (fW (ou hr)) (ay e8 rfl CA.dE dk (aa (pv 0) af)) (z7 rfl rfl CA.gC rfl CA.cm (aa (ay ba rfl CA.cV cu (aa (pv 0) af)) af)) (aE _))),?_⟩
 have lm:(ns.map V.int).length=ns.length:=FS _
 refine ⟨_,rfl,l,ns,rfl,aq.of hl,h64,fun ps ms hps hp hs=>?_⟩
 have s1:=ae.new (ae.refl H) hps (.lst (ms.map V.int))
 have hm1:upd H ps (.lst (ms.map V.int)) ps=some (.lst (ms.map V.int)):=ag
 generalize upd H ps (.lst (ms.map V.int))=H1 at s1 hm1 |-
 refine ⟨_,rfl,l,_,rfl,.inl (aq.of (s1 _ _ hl)),_,rfl,by lia,by lia,by lia,fun pr hpr=>?_⟩
 have s2:=ae.new (ae.refl H1) hpr (.lst (dz 0 (((ns.map V.int).length:Nat):Int).toNat))
 refine ⟨ps,pr,_,_,rfl,rfl,aq.of (s2 _ _ hm1),aq.of ag,gE ms,?_,?_⟩
 ·rw [kq]; exact gE _
 have e:fL (ms.map V.int) (dz 0 (((ns.map V.int).length:Nat):Int).toNat)=bN ns:=by
  rw [kq,mw,lR hp hs,show (((ns.map V.int).length:Nat):Int).toNat=ns.length by lia]
 have last:∀ b:Bool,b=bN ns->Q (.bl b) (upd H1 pr (.lst (dz 0 (((ns.map V.int).length:Nat):Int).toNat))):=fun b z=>by rw [z]; exact q _ (s1.trans s2)
 exact last _ e
theorem zR (aL:Al P w K mg base ca er 26) (F:Fg K mg ca 26 "flat" qO):D P w K mg base ca er 26:=by
 refine bV F (fun _ _ _ _ _ _=>bB fun _=>rfl) (F.F.ok mj (fun vs H Q E h=>?_) (fun cZ AZ oZ sZ H vs Q E hr h=>?_))
 ·obtain ⟨l,rfl,hor⟩:=h
  rfl
 obtain ⟨l,rfl,hor⟩:=h
 refine ⟨_,aj (aB (i:=1) mj.nd rfl (Hc rfl) (aR af))
  (aj (bR Hs rfl (aY (pv 0)) (aA (i:=2) mj.nd rfl (Hc rfl)) (ah (aP (cG Hf PySem.F.slot_list_extend PySem.F.type_list_extend yg (pv 1) (aa (pv 2) af)))))
  (ah (ar (pv 1)))),?_⟩
 rcases hor with ⟨ps,hl,hz,q⟩ | ⟨bs,xss,hl,rw_,hz,q⟩
 ·obtain ⟨xs,el,lxs,pr⟩:=hl.len
  refine ⟨GG _,fun pf hpf=>?_⟩
  have s1:=ae.new (ae.refl H) hpf (.lst [])
  refine ⟨_,rfl,l,rfl,⟨_,aq.of (s1 _ _ el)⟩,cT (xs:=xs) (fun i σ H'=>∃ (o1:Option V),σ=[some (.ref l),some (.ref pf),o1]/\ae H H'/\H' pf=some (.lst ((bD (ps.take i)).map V.int))) ⟨_,rfl,s1,ag⟩ (fun i σ H' _ h=>aq.of (h.choose_spec.2.1 _ _ el)) ?_ ?_⟩
  ·rintro i v σ H2 hv ⟨o1,rfl,sm,hf⟩
   obtain ⟨pp,tt,hpp,rfl,htt⟩:=pr.get hv
   have hz2:((bD (ps.take i)).map V.int).length<=2000:=by
    rw [FS,gM,Hw]
    lia
   refine ⟨_,rfl,.inl ⟨rfl,_,aq.of hf⟩,_,rfl,.inr ⟨pf,tt,_,_,rfl,rfl,hf,bQ.of (sm _ _ htt),(by show _+2<=_; exact sz (by lia)),?_⟩⟩
   refine ⟨_,rfl,sm.upd hpf _,?_⟩
   rw [ag,Hu,hpp,kJ,G7]
   rfl
  ·rintro σ H2 ⟨o1,rfl,sm,hf⟩
   rw [Hi (by lia)] at hf
   exact ⟨_,rfl,q pf H2 sm hpf hf⟩
 ·have lb:=rw_.len
  refine ⟨GG _,fun pf hpf=>?_⟩
  have s1:=ae.new (ae.refl H) hpf (.lst [])
  refine ⟨_,rfl,l,rfl,⟨_,aq.of (s1 _ _ hl)⟩,cT (xs:=bs.map V.ref) (fun i σ H'=>∃ (o1:Option V),σ=[some (.ref l),some (.ref pf),o1]/\ae H H'/\H' pf=some (.lst (xss.take i).flatten)) ⟨_,rfl,s1,ag⟩ (fun i σ H' _ h=>aq.of (h.choose_spec.2.1 _ _ hl)) ?_ ?_⟩
  ·rintro i v σ H2 hv ⟨o1,rfl,sm,hf⟩
   obtain ⟨b,xs,rfl,hx,hb⟩:=rw_.get hv
   have et:(xss.take (i+1)).flatten=(xss.take i).flatten++xs:=by
    rw [Hu,hx,JN]
    simp
   have hz2:(xss.take i).flatten.length+xs.length<=1000:=by
    have h1:(xss.take (i+1)).flatten.length<=xss.flatten.length:=by
     conv=>rhs; rw [<- IS (i+1) xss,JN,GZ]
     lia
    rw [et,GZ] at h1
    lia
   have nb:b≠pf:=az hb hpf
   refine ⟨_,rfl,.inl ⟨rfl,_,aq.of hf⟩,_,rfl,.inl ⟨pf,b,_,_,rfl,rfl,hf,sm _ _ hb,sz (by lia),?_⟩⟩
   exact ⟨_,rfl,sm.upd hpf _,by rw [ag,et]⟩
  ·rintro σ H2 ⟨o1,rfl,sm,hf⟩
   rw [Hi (by rw [FS]; lia)] at hf
   exact ⟨_,rfl,q pf H2 sm hpf hf⟩
theorem zm (aL:Al P w K mg base ca er 27) (F:Fg K mg ca 27 "any_cross" pA):D P w K mg base ca er 27:=by
 refine bV F (fun _ _ _ _ _ _=>bB fun _=>rfl) (F.F.ok gz (fun vs H Q E h=>?_) (fun cZ AZ oZ sZ H vs Q E hr h=>?_))
 ·obtain ⟨l,ps,rfl,hl,q⟩:=h
  rfl
 obtain ⟨l,ps,rfl,hl,q⟩:=h
 refine ⟨_,aj (bR Hs rfl (aY (pv 0)) (g4 rfl (aX (aA (i:=1) gz.nd rfl (Hc rfl)) (aX (aA (i:=2) gz.nd rfl (Hc rfl)) cU))) (ah (bR Hs rfl (aY (pv 0)) (g4 rfl (aX (aA (i:=3) gz.nd rfl (Hc rfl)) (aX (aA (i:=4) gz.nd rfl (Hc rfl)) cU))) (ah (aO (Bz dh dh dh (pv 1) (pv 3) (pv 2) (pv 4)) (ah (ar cc)) aG)))))
  (ah (ar cc)),?_⟩
 obtain ⟨xs,el,lxs,pr⟩:=hl.len
 refine ⟨_,rfl,l,rfl,⟨_,aq.of el⟩,cT (xs:=xs) (fun i σ H'=>∃ (o1 o2 o3 o4:Option V),σ=[some (.ref l),o1,o2,o3,o4]/\H=H'/\∀ p∈ps.take i,ps.any (ff p)=false) ⟨_,_,_,_,rfl,rfl,by simp⟩ (fun i σ H' _ h=>by obtain ⟨_,_,_,_,_,rfl,_⟩:=h; exact aq.of el) ?_ ?_⟩
 ·rintro i v σ H2 hv ⟨o1,o2,o3,o4,rfl,rfl,al⟩
  obtain ⟨pp,tt,hpp,rfl,htt⟩:=pr.get hv
  refine ⟨tt,_,rfl,bQ.of htt,rfl,_,_,rfl,_,_,rfl,rfl,?_⟩
  refine ⟨_,rfl,l,rfl,⟨_,aq.of el⟩,cT (xs:=xs) (fun j σ H'=>∃ (o3 o4:Option V),σ=[some (.ref l),some (.int pp.1),some (.int pp.2),o3,o4]/\H=H'/\∀ r∈ps.take j,ff pp r=false) ⟨_,_,rfl,rfl,by simp⟩ (fun i σ H' _ h=>by obtain ⟨_,_,_,rfl,_⟩:=h; exact aq.of el) ?_ ?_⟩
  ·rintro j v σ H3 hv ⟨o3,o4,rfl,rfl,al2⟩
   obtain ⟨rr,t2,hrr,rfl,ht2⟩:=pr.get hv
   refine ⟨t2,_,rfl,bQ.of ht2,rfl,_,_,rfl,_,_,rfl,rfl,?_⟩
   have next:ff pp rr=false->∀ r∈ps.take (j+1),ff pp r=false:=fun hc r hr=>by
    rw [Hu,hrr] at hr
    rcases HN.mp hr with z | z
    ·exact al2 r z
    ·have:r=rr:=by simpa using z
     rw [this]; exact hc
   refine ⟨_,rfl,_,rfl,_,_,rfl,rfl,_,rfl,?_⟩
   by_cases c1:pp.1 < rr.1
   ·refine cw c1 ⟨_,rfl,_,_,rfl,rfl,_,rfl,?_⟩
    by_cases c2:rr.1 < pp.2
    ·refine cw c2 ⟨_,rfl,_,_,rfl,rfl,_,rfl,?_⟩
     by_cases c3:pp.2 < rr.2
     ·refine cw c3 ?_
      have:cz ps=true:=pY.mpr ⟨pp,GR hpp,rr,GR hrr,c1,c2,c3⟩
      rw [this] at q
      exact q
     ·exact b6 c3 ⟨_,_,rfl,rfl,next (by unfold ff; simp [c3])⟩
    ·exact b6 c2 ⟨_,rfl,aS ⟨_,_,rfl,rfl,next (by unfold ff; simp [c2])⟩⟩
   ·exact b6 c1 ⟨_,rfl,aS ⟨_,_,rfl,rfl,next (by unfold ff; simp [c1])⟩⟩
  ·rintro σ H3 ⟨o3,o4,rfl,rfl,al2⟩
   rw [Hi (by lia)] at al2
   refine ⟨_,_,_,_,rfl,rfl,fun p hp=>?_⟩
   rw [Hu,hpp] at hp
   rcases HN.mp hp with z | z
   ·exact al p z
   ·have:p=pp:=by simpa using z
    rw [this,J5]
    intro r hr
    rw [al2 r hr]
    decide
 ·rintro σ H2 ⟨o1,o2,o3,o4,rfl,rfl,al⟩
  rw [Hi (by lia)] at al
  have:cz ps=false:=by
   unfold cz
   rw [J5]
   intro p hp
   rw [al p hp]
   decide
  rw [this] at q
  exact q
theorem AW (aL:Al P w K mg base ca er 28) (F:br K ca 28 "is_one" "Bows.is_one" oP):D P w K mg base ca er 28:=by
 refine bw F (fun _ _ _ _ _ _=>cB fun _ _=>rfl) (F.ok B5 (fun vs H Q E h=>?_) (fun cZ AZ oZ sZ H vs Q E hr h=>?_))
 ·obtain ⟨x,v,b,rfl,th,q⟩:=h
  rfl
 obtain ⟨x,v,b,rfl,th,q⟩:=h
 refine ⟨_,aj (aO (PW.pt (cJ (fP (bS (aI (aL.g 25) hr (aa (aI (aL.g 26) hr (aa (pv 1) af)) af)))) (cn (aC (i7 (eC hr)) (pv 1) (ay my rfl CA.dE dk (aa (pv 1) af)) (aE _))))) (ah (ar cc)) aG)
  (ah (ar (fJ (ay (dJ rfl) rfl CA.hW fC (aa (bI rfl (aY (pv 1)) rfl rfl rfl rfl (N:=["a","b"]) (.own (.own .nil)) (fun _ _ _ _ _ _=>(fM (K:=K) (n:=2) rfl rfl (aX (aA (i:=0) (by show HJ (["a","b"]:List Str); decide +kernel) rfl (Hc rfl)) (aX (aA (i:=1) (by show HJ (["a","b"]:List Str); decide +kernel) rfl (Hc rfl)) cU)))) (fun _ _ _ _ _ _=>bx) (fun _ _ _ _ _ _=>(dq dh (pv 0) (pv 1) (aE _)))) af)) (gQ (tm (aI (aL.g 27) hr (aa (pv 1) af))))))),?_⟩
 obtain ⟨l,ps,rfl,hl,hz,rfl⟩:=th
 refine ⟨_,rfl,l,rfl,.inl ⟨ps,hl,by lia,fun pf H1 s1 f1 h1=>⟨pf,_,rfl,h1,by rw [gM]; lia,fun H2 s2=>⟨_,rfl,?_⟩⟩⟩⟩
 have s12:=s1.trans s2
 have dC:=hl.same s12
 cases hE:bN (bD ps) with
 | false =>
  rw [tG hE] at q
  exact aW (aW (q _ s12))
 | true =>
  refine aS ⟨_,rfl,_,rfl,l,ps,rfl,dC,by lia,fun pq qs H3 s3 f3 h3 hp hs=>?_⟩
  have s13:=s12.trans s3
  have fG:=hl.same s13
  have ne:l≠pq:=by
   obtain ⟨_,e,_⟩:=dC
   exact az e f3
  refine ⟨2,_,by decide,aN.prs ne fG h3,⟨l,pq,rfl,rfl,ne⟩,_,rfl,?_⟩
  by_cases e:ps=qs
  ·rw [m7 hp hs hE e] at q
   obtain ⟨xs,el,lxs,pr⟩:=fG.len
   rw [decide_eq_true e]
   refine aS ⟨_,rfl,l,rfl,⟨_,aq.of el⟩,fun D hD=>cD (xs:=xs) (fun i ys H'=>ae H3 H'/\H' D=some (.lst ys)/\ys=((ps.take i).map fun p=>decide (p.1 < p.2)).map V.bl/\i<=ps.length) (sz (by lia)) ⟨ae.new (ae.refl H3) hD _,ag,rfl,GG _⟩ (fun i ys H' hi h=>⟨aq.of (h.1 _ _ el),?_⟩) (fun i x ys H' R R0 hx h r r0=>?_) (fun ys H' h=>?_)⟩
   ·rw [h.2.2.1]
    simp
    lia
   ·obtain ⟨sm,hy,ey,hi⟩:=h
    obtain ⟨pp,tt,hpp,rfl,htt⟩:=pr.get hx
    have hlt:i < ps.length:=(GD.mp hpp).1
    refine ⟨tt,_,rfl,bQ.of (sm _ _ htt),rfl,_,_,rfl,_,_,rfl,rfl,(Ext.set rfl).trans (Ext.set rfl),gI (aW ⟨_,rfl,_,rfl,_,_,rfl,rfl,?_⟩)⟩
    refine r _ _ hy ⟨sm.upd hD _,ag,?_,hlt⟩
    rw [Hu,hpp,G7,G7,<- ey]
    rfl
   ·obtain ⟨sm,hy,ey,hi⟩:=h
    rw [Hi (by lia)] at ey
    have ha:(((ps.map fun p=>decide (p.1 < p.2)).map V.bl).length)=ps.length:=by simp
    rw [ey] at hy
    refine ⟨D,_,rfl,aq.of hy,_,rfl,?_⟩
    have e2:((ps.map fun p=>decide (p.1 < p.2)).all id)=ps.all fun p=>decide (p.1 < p.2):=by rw [JP]; rfl
    rw [e2]
    cases hA:ps.all fun p=>decide (p.1 < p.2) with
    | false =>
     rw [hA,HR] at q
     exact aS (q _ (s13.trans sm))
    | true =>
     rw [hA,HB] at q
     exact aW ⟨_,rfl,l,ps,rfl,fG.same sm,_,rfl,q _ (s13.trans sm)⟩
  ·rw [qa hp hs hE e] at q
   rw [decide_eq_false e]
   exact aW (q _ s13)
theorem y8 (aL:Al P w K mg base ca er 29) (F:Fg K mg ca 29 "neighbours" oY):D P w K mg base ca er 29:=by
 refine bV F (fun _ _ _ _ _ _=>bB fun _=>rfl) (F.F.ok CD (fun vs H Q E h=>?_) (fun cZ AZ oZ sZ H vs Q E hr h=>?_))
 ·obtain ⟨l,H0,rs,rfl,hl,hz,hz2,q⟩:=h
  rfl
 obtain ⟨l,H0,rs,rfl,hl,hz,hz2,q⟩:=h
 refine ⟨_,ah (ar (aI (aL.g 26) hr (aa (bI rfl (aY (pv 0)) rfl rfl rfl rfl (N:=["room"]) (.own .nil) (fun _ _ _ _ _ _=>(aA (i:=0) (by show HJ (["room"]:List Str); decide +kernel) rfl (Hc rfl))) (fun _ _ _ _ _ _=>bx) (fun _ _ _ _ _ _=>(wV (K:=K) rfl rfl rfl CA.gC rfl CA.Ea (aa (pv 0) (aa (cH (l3 (K:=K) rfl) (pv 0) (cW ak) cX) af))))) af))),?_⟩
 obtain ⟨xs,el,lxs⟩:=hl.len
 refine ⟨_,rfl,l,rfl,⟨_,aq.of el⟩,fun D hD=>cD (xs:=xs) (fun k ys H'=>∃ (bs:List GC) (xss:List (List V)),ae H H'/\H' D=some (.lst ys)/\ys=bs.map V.ref/\ck H' bs xss/\(∀ b∈bs,b≠D)/\b7 H' xss.flatten (iy (rs.take k))/\k<=rs.length/\bs.length=k) (sz (by lia)) ⟨[],[],ae.new (ae.refl H) hD _,ag,rfl,.nil,fun b hb=>absurd hb (by simp),.nil,GG _,rfl⟩ (fun k ys H' hk h=>?_) (fun k v ys H' R R0 hx h r r0=>?_) (fun ys H' h=>?_)⟩
 ·obtain ⟨bs,xss,sm,_,rfl,_,_,_,_,lb⟩:=h
  exact ⟨aq.of (sm _ _ el),by rw [FS]; lia⟩
 ·obtain ⟨bs,xss,sm,hy,rfl,rws,nD,pr,hk,lb⟩:=h
  obtain ⟨b,ns,rfl,hn,hb,_⟩:=hl.at el hx
  have hlt:k < rs.length:=(GD.mp hn).1
  have hb2:=sm _ _ hb
  have ln:ns.length<=rs.flatten.length:=len_one rs ns (GR hn)
  refine ⟨Ext.set rfl,gI (aW ⟨_,rfl,_,rfl,_,rfl,b,_,rfl,aq.of hb2,fun ps hps=>?_⟩)⟩
  have s3:=ae.new (ae.refl H') hps (.lst (dU (ns.map V.int) (some 1) none))
  have e1:dU (ns.map V.int) (some 1) none=(ns.drop 1).map V.int:=by rw [iJ,tU]
  refine ⟨b,ps,ns,ns.drop 1,rfl,aq.of (s3 _ _ hb2),aq.of (by rw [ag,e1]),by lia,fun pz H3 s4 f4 h4=>?_⟩
  have s5:=s3.trans s4
  obtain ⟨zs,ez,lz,pz4⟩:=h4.len
  have hy5:=s5 _ _ hy
  have nz:pz≠D:=fun z=>by
   rw [z] at f4
   rw [s3 _ _ hy] at f4
   cases f4
  refine r _ _ hy5 ⟨bs++[pz],xss++[zs],(sm.trans s5).upd hD _,ag,by rw [G7]; rfl,?_,?_,?_,hlt,by rw [GZ]; show bs.length+1=k+1; lia⟩
  ·have up:∀ {c:GC} {ws:List V},c≠D->H3 c=some (.lst ws)->upd H3 D (.lst (bs.map V.ref++[.ref pz])) c=some (.lst ws):=fun n e=>(av n).trans e
   have go:∀ {bs:List GC} {xss:List (List V)},ck H' bs xss->(∀ b∈bs,b≠D)->ck (upd H3 D (.lst (bs.map V.ref++[.ref pz]))) bs xss->True:=fun _ _ _=>trivial
   have rws5:=rws.same s5
   have g:∀ {cs:List GC} {wss:List (List V)},ck H3 cs wss->(∀ c∈cs,c≠D)->ck (upd H3 D (.lst (bs.map V.ref++[.ref pz]))) (cs++[pz]) (wss++[zs]):=by
    intro cs wss h hc
    induction h with
    | nil=>exact .cons (up nz ez) .nil
    | cons x _ ih=>exact .cons (up (hc _ (by simp)) x) (ih fun c hc'=>hc c (by simp [hc']))
   exact g rws5 nD
  ·intro c hc
   rcases HN.mp hc with z | z
   ·exact nD c z
   ·rw [show c=pz by simpa using z]; exact nz
  ·have e2:iy (rs.take (k+1))=iy (rs.take k)++ns.zip (ns.drop 1):=by
    unfold iy
    rw [Hu,hn,G7,JN]
    simp
   rw [e2,JN]
   have p1:=(pr.same s5).app pz4
   rw [show ([zs]:List (List V)).flatten=zs by simp]
   exact p1.updL hy5 _
 ·obtain ⟨bs,xss,sm,hy,rfl,rws,nD,pr,hk,lb⟩:=h
  rw [Hi (by lia)] at pr
  have lf:(iy rs).length<=rs.flatten.length:=by
   unfold iy
   rw [List.length_flatten,List.length_flatten,Iz]
   have go:∀ rs:List (List Int),(rs.map (List.length ∘ fun r=>r.zip (r.drop 1))).sum<=(rs.map List.length).sum:=fun rs=>by
    induction rs with
    | nil=>exact GF _
    | cons r rs ih =>
     rw [G6,G6,List.sum_cons,List.sum_cons]
     have:(r.zip (r.drop 1)).length<=r.length:=by rw [List.length_zip]; exact Nat.min_le_left _ _
     show (r.zip (r.drop 1)).length+_<=_
     lia
   exact go rs
  refine ⟨D,rfl,.inr ⟨bs,xss,hy,rws,by rw [pr.length]; lia,fun pf H3 s3 f3 h3=>q pf H3 (sm.trans s3) (sm.free f3) ⟨_,h3,pr.same s3⟩⟩⟩
theorem Ag (aL:Al P w K mg base ca er 30) (F:br K ca 30 "is_one" "Rooms.is_one" qd):D P w K mg base ca er 30:=by
 refine bw F (fun _ _ _ _ _ _=>cB fun _ _=>rfl) (F.ok B6 (fun vs H Q E h=>?_) (fun cZ AZ oZ sZ H vs Q E hr h=>?_))
 ·obtain ⟨x,v,b,rfl,th,q⟩:=h
  rfl
 obtain ⟨x,v,b,rfl,th,q⟩:=h
 refine ⟨_,aj (aO (PW.pt (cJ (aC (CM (eC hr)) (aR af) (pv 1) (by rfl)) (cn (fP (bS (aI (aL.g 25) hr (aa (aI (aL.g 26) hr (aa (pv 1) af)) af))))))) (ah (ar cc)) aG)
  (ah (ar (fJ (dq (rS (eC hr)) (pv 1) (ay (mH (eC hr)) rfl CA.dE dk (aa (bI rfl (aY (pv 1)) rfl rfl rfl rfl (N:=["room"]) (.own .nil) (fun _ _ _ _ _ _=>(aA (i:=0) (by show HJ (["room"]:List Str); decide +kernel) rfl (Hc rfl))) (fun _ _ _ _ _ _=>bx) (fun _ _ _ _ _ _=>(ay (lI (K:=K) rfl) rfl CA.dE dk (aa (pv 0) af)))) af)) (aE _)) (gQ (tm (aI (aL.g 27) hr (aa (aI (aL.g 29) hr (aa (pv 1) af)) af))))))),?_⟩
 obtain ⟨l,H0,rs,rfl,hl,hz,hz2,hz1,rfl⟩:=th
 refine ⟨GG _,fun pe hpe=>?_⟩
 have s1:=ae.new (ae.refl H) hpe (.lst [])
 have bG:=hl.same s1
 have he1:upd H pe (.lst []) pe=some (.lst []):=ag
 generalize upd H pe (.lst [])=H1 at s1 bG he1 |-
 refine ⟨_,rfl,pe,l,H0,rs,rfl,rfl,he1,bG,_,rfl,?_⟩
 cases hv:rs.any fun r=>decide (r=[]) with
 | true =>
  obtain ⟨r,hr,e⟩:=IE.mp hv
  rw [u6 ⟨r,hr,of_decide_eq_true e⟩] at q
  exact aW (aW (q _ s1))
 | false =>
  have hne:∀ r∈rs,r≠[]:=fun r hr e=>by
   have:=J5.mp hv r hr
   exact this (decide_eq_true e)
  obtain ⟨bs,el,rws⟩:=bG.rws
  refine aS ⟨_,rfl,l,rfl,.inr ⟨bs,_,el,rws,by rw [ma,FS]; lia,fun pf H2 s2 f2 h2=>?_⟩⟩
  rw [ma] at h2
  refine ⟨pf,rs.flatten,rfl,h2,hz2,fun H3 s3=>⟨_,rfl,?_⟩⟩
  have s13:=s1.trans (s2.trans s3)
  have fG:=hl.same s13
  cases hE:bN rs.flatten with
  | false =>
   rw [ud hE] at q
   exact aW (q _ s13)
  | true =>
   rw [vy hne hE] at q
   obtain ⟨xs,ex,lxs⟩:=fG.len
   refine aS ⟨_,rfl,_,rfl,l,rfl,⟨_,aq.of ex⟩,fun D hD=>cD (xs:=xs) (fun k ys H'=>∃ ts:List (List Int),ae H3 H'/\H' D=some (.lst ys)/\cA H3 H' D ts/\Ir (fun (r t:List Int)=>t.Perm r/\t.Pairwise (·<=·)) (rs.take k) ts/\k<=rs.length) (sz (by lia)) ⟨[],ae.new (ae.refl H3) hD _,ag,cA.nil ag,.nil,GG _⟩ (fun k ys H' hk h=>?_) (fun k v ys H' R R0 hx h r r0=>?_) (fun ys H' h=>?_)⟩
   ·obtain ⟨ts,sm,hy,lt,pt,hk'⟩:=h
    obtain ⟨us,eu,lu⟩:=lt.len
    rw [hy] at eu
    cases eu
    refine ⟨aq.of (sm _ _ ex),?_⟩
    rw [lu,<- IG pt,Hw]
    lia
   ·obtain ⟨ts,sm,hy,lt,pt,hk'⟩:=h
    obtain ⟨b,ns,rfl,hn,hb,_⟩:=fG.at ex hx
    have hlt:k < rs.length:=(GD.mp hn).1
    refine ⟨Ext.set rfl,gI (aW ⟨_,rfl,b,ns,rfl,aq.of (sm _ _ hb),hz1 ns (GR hn),fun c ms hc hp hs=>?_⟩)⟩
    have k9:=ae.new (ae.refl H') hc (.lst (ms.map V.int))
    refine r _ _ (k9 _ _ hy) ⟨ts++[ms],(sm.trans k9).upd hD _,ag,lt.push hy k9 hc ag (sm.free hc),?_,hlt⟩
    rw [Hu,hn]
    exact gg pt (.cons ⟨hp,hs⟩ .nil)
   ·obtain ⟨ts,sm,hy,lt,pt,hk'⟩:=h
    rw [Hi (by lia)] at pt
    have ltl:=IG pt
    refine ⟨D,_,ts,rfl,lt,by lia,fun pq ss H5 s5 f5 l5 hp hs _=>?_⟩
    have s15:=s13.trans (sm.trans s5)
    have wg:=hl.same s15
    have ne:l≠pq:=by
     obtain ⟨_,e,_⟩:=fG.same sm
     exact az e f5
    refine ⟨2,_,by decide,aN.rooms wg l5 ne,⟨l,pq,rfl,rfl,ne⟩,_,rfl,?_⟩
    rw [va pt hp hs hne hE]
    cases hR:mz rs with
    | false =>
     rw [hR,HR] at q
     exact aS (q _ s15)
    | true =>
     rw [hR,HB] at q
     exact aW ⟨_,rfl,l,H0,rs,rfl,wg,by lia,by lia,fun pn H6 s6 f6 h6=>⟨pn,iy rs,rfl,h6,_,rfl,q _ (s15.trans s6)⟩⟩
theorem Cj (aL:Al P w K mg base ca er 31) (F:Fg K mg ca 31 "may_be_cut" qe):D P w K mg base ca er 31:=by
 refine bV F (fun _ _ _ _ _ _=>jt fun _ _ _=>rfl) (F.F.ok Bx (fun vs H Q E h=>?_) (fun cZ AZ oZ sZ H vs Q E hr h=>?_))
 ·obtain ⟨c,a,b,rfl,q⟩:=h
  rfl
 obtain ⟨c,a,b,rfl,q⟩:=h
 refine ⟨_,ah (ar (fJ (iI fX dh ak (pv 1) (au dc (pv 2) ak)) (fJ (dq dh (pv 2) (pv 0) (aE _)) (gQ (dq (i7 (eC hr)) (cL (aa (pv 1) (aa (pv 2) af))) (cL (aa ak (aa (au dc (pv 0) ak) af))) (aE _)))))),?_⟩
 unfold fc at q
 dsimp only at q
 refine ⟨_,rfl,_,_,rfl,rfl,_,rfl,?_⟩
 by_cases c1:0<=a
 ·rw [decide_eq_true c1,HB] at q
  refine cw c1 ⟨_,rfl,_,_,rfl,rfl,_,_,rfl,rfl,_,rfl,?_⟩
  by_cases c2:a < b - 1
  ·rw [decide_eq_true c2,HB] at q
   refine cw c2 ⟨_,rfl,_,rfl,_,_,rfl,rfl,_,rfl,?_⟩
   by_cases c3:b < c
   ·rw [decide_eq_true c3,HB] at q
    refine cw c3 ⟨_,rfl,_,rfl,(by show 2<=sizeLine; decide),fun t1 ht1=>⟨_,rfl,_,_,rfl,rfl,(by show 2<=sizeLine; decide),fun t2 ht2=>?_⟩⟩
    have n12:t1≠t2:=az ag ht2
    have h1:=(av (o:=.tup [.int 0,.int (c - 1)]) n12).trans (ag (H:=H) (a:=t1) (o:=.tup [.int a,.int b]))
    have s2:=ae.new (ae.new (ae.refl H) ht1 (.tup [.int a,.int b])) ht2 (.tup [.int 0,.int (c - 1)])
    exact ⟨1,_,by decide,aN.two n12 h1 ag,⟨t1,t2,rfl,rfl,n12⟩,q _ s2⟩
   ·rw [decide_eq_false c3] at q
    exact b6 c3 (q H (ae.refl H))
  ·rw [decide_eq_false c2,HR] at q
   exact b6 c2 (q H (ae.refl H))
 ·rw [decide_eq_false c1,HR] at q
  exact b6 c1 ⟨_,rfl,aS (q H (ae.refl H))⟩
theorem CN (aL:Al P w K mg base ca er 32) (F:br K ca 32 "is_one" "Floors.is_one" ph):D P w K mg base ca er 32:=by
 refine bw F (fun _ _ _ _ _ _=>cB fun _ _=>rfl) (F.ok mf (fun vs H Q E h=>?_) (fun cZ AZ oZ sZ H vs Q E hr h=>?_))
 ·obtain ⟨x,v,b,rfl,th,q⟩:=h
  rfl
 obtain ⟨x,v,b,rfl,th,q⟩:=h
 refine ⟨_,aj (aB (i:=2) mf.nd rfl (Ls rfl) (a8 gU (pv 1) ak (fun _ _=>rfl)))
  (aj (aB (i:=3) mf.nd rfl (Hc rfl) (a8 gU (pv 1) ak (fun _ _=>rfl)))
  (aj (aO (PW.pt (cJ (aC dh (pv 2) ak (aE _)) (cn (aC lE (ay ba rfl CA.cV cu (aa (pv 3) af)) (ay (kN rfl) rfl CA.vV sW (aa ak (aa (au dc (pv 2) ak) af))) (aE _))))) (ah (ar cc)) aG)
  (aj (aO (PW.pt (cJ (aC (i7 (eC hr)) (pv 3) (qH rfl (eC hr) rfl CA.dE rfl CA.Es (aa (pv 3) af)) (aE _)) (cn (bS (aI (aL.g 27) hr (aa (pv 3) af)))))) (ah (ar cc)) aG)
  (ah (ar (ay (dJ rfl) rfl CA.hW fC (aa (bI rfl (aY (pv 3)) rfl rfl rfl rfl (N:=["a","b","corners"]) (.own (.own (.cap (j:=2) rfl rfl rfl .nil))) (fun _ _ _ _ _ _=>(fM (K:=K) (n:=2) rfl rfl (aX (aA (i:=0) (by show HJ (["a","b","corners"]:List Str); decide +kernel) rfl (Hc rfl)) (aX (aA (i:=1) (by show HJ (["a","b","corners"]:List Str); decide +kernel) rfl (Hc rfl)) cU)))) (fun _ _ _ _ _ _=>bx) (fun _ _ _ _ _ _=>(aI (aL.g 31) hr (aa (pv 2) (aa (pv 0) (aa (pv 1) af)))))) af))))))),?_⟩
 obtain ⟨t,l,c,ps,rfl,ht,hl,h60,nd0,lo0,rfl⟩:=th
 obtain ⟨xs,el,lxs,pr⟩:=hl.len
 have nolen:gZ c ps.length=false->Q (.bl false) H:=fun z=>by
  have:=q H (ae.refl H)
  rw [yQ z] at this
  exact this
 refine ⟨_,rfl,t,_,_,_,rfl,rfl,bQ.of ht,rfl,_,rfl,t,_,_,_,rfl,rfl,bQ.of ht,rfl,?_⟩
 refine ⟨_,rfl,_,_,rfl,rfl,_,rfl,?_⟩
 by_cases c1:c < 2
 ·exact cw c1 (aW (nolen (by unfold gZ; rw [decide_eq_false (by lia),HR])))
 refine b6 c1 ⟨_,rfl,l,_,rfl,.inl (aq.of el),_,rfl,_,_,rfl,rfl,_,_,rfl,rfl,_,rfl,?_⟩
 by_cases c2:((xs.length:Nat):Int)=if c - 3 > 0 then c - 3 else 0
 case neg =>
  refine g6 (ne_int c2) (nolen ?_)
  unfold gZ
  rw [decide_eq_false (show ¬ ((ps.length:Nat):Int)=_ by rw [<- lxs]; exact c2),KZ]
 have lb:gZ c ps.length=true:=by
  unfold gZ
  rw [GN,decide_eq_true_iff,decide_eq_true_iff]
  exact ⟨by lia,by rw [<- lxs]; exact c2⟩
 refine jr (congrArg V.int c2) ⟨_,rfl,_,rfl,l,ps,rfl,hl,nd0,lo0,by lia,fun pq qs H1 s1 f1 h1 pmm rs=>?_⟩
 have nd:=pmm.nodup_iff.mpr nd0
 have mm:=fun x=>pmm.mem_iff (a:=x)
 have bG:=hl.same s1
 have ne:l≠pq:=az el f1
 refine ⟨2,_,by decide,aN.prs ne bG h1,⟨l,pq,rfl,rfl,ne⟩,_,rfl,?_⟩
 by_cases e:ps=qs
 case neg =>
  rw [xu nd mm rs e] at q
  rw [decide_eq_false e]
  exact aW (aW (q _ s1))
 rw [decide_eq_true e]
 subst e
 rw [ug nd rs lb] at q
 refine aS ⟨_,rfl,l,ps,rfl,bG,_,rfl,?_⟩
 cases hc:cz ps with
 | true =>
  rw [hc,Kv,HR] at q
  exact aW (q _ s1)
 | false =>
  rw [hc,LW,HB] at q
  refine aS ⟨_,rfl,l,rfl,⟨_,aq.of (s1 _ _ el)⟩,fun D hD=>cD (xs:=xs) (fun i ys H'=>ae H1 H'/\H' D=some (.lst ys)/\ys=((ps.take i).map fun p=>fc c p).map V.bl/\i<=ps.length) (sz (by lia)) ⟨ae.new (ae.refl H1) hD _,ag,rfl,GG _⟩ (fun i ys H' hi h=>⟨aq.of (h.1 _ _ (s1 _ _ el)),?_⟩) (fun i y ys H' R R0 hx h r r0=>?_) (fun ys H' h=>?_)⟩
  ·rw [h.2.2.1,FS,FS,Hw]
   lia
  ·obtain ⟨sm,hy,ey,hi⟩:=h
   obtain ⟨pp,tt,hpp,rfl,htt⟩:=(pr.same s1).get hx
   have hlt:i < ps.length:=(GD.mp hpp).1
   refine ⟨tt,_,rfl,bQ.of (sm _ _ htt),rfl,_,_,rfl,_,_,rfl,rfl,(Ext.set rfl).trans (Ext.set rfl),gI (aW ?_)⟩
   refine ⟨_,rfl,_,rfl,_,rfl,c,pp.1,pp.2,rfl,fun H3 s3=>r _ _ (s3 _ _ hy) ⟨(sm.trans s3).upd hD _,ag,?_,hlt⟩⟩
   rw [Hu,hpp,G7,G7,<- ey]
   rfl
  ·obtain ⟨sm,hy,ey,hi⟩:=h
   rw [Hi (by lia)] at ey
   rw [ey] at hy
   refine ⟨D,_,rfl,aq.of hy,?_⟩
   have e2:((ps.map fun p=>fc c p).all id)=ps.all (fc c):=by rw [JP]; rfl
   rw [e2]
   exact q _ (s1.trans sm)
theorem Av (aL:Al P w K mg base ca er 33) (F:Fg K mg ca 33 "comes_off_a_stack" pK):D P w K mg base ca er 33:=by
 refine bV F (fun _ _ _ _ _ _=>bB fun _=>rfl) (F.F.ok gT (fun vs H Q E h=>?_) (fun cZ AZ oZ sZ H vs Q E hr h=>?_))
 ·obtain ⟨l,row,rfl,hl,h64,hB,q⟩:=h
  rfl
 obtain ⟨l,row,rfl,hl,h64,hB,q⟩:=h
 refine ⟨_,aj (aB (i:=1) gT.nd rfl (Hc rfl) (aR af))
  (aj (aB (i:=2) gT.nd rfl (Hc rfl) ak)
  (aj (bR Hs rfl (aY (pv 0)) (aA (i:=3) gT.nd rfl (Hc rfl)) (aj (ml Hs (aC fX (pv 2) (pv 3) (aE _)) (aj (aP (cG Hf Hn Ho bM (pv 1) (aa (pv 2) af)))
  (ah (lJ (i:=2) gT.nd rfl (Hc rfl) ak rG))))
  (ah (aO (aC lE (tj Hf PySem.F.slot_list_pop PySem.F.type_list_pop yX (pv 1)) (pv 3) (aE _)) (ah (ar cc)) aG))))
  (ah (ar cc)))),?_⟩
 have hperm:=(eU row).mp hB
 have lm:(row.map V.int).length=row.length:=FS _
 refine ⟨GG _,fun ps hps=>?_⟩
 have s1:=ae.new (ae.refl H) hps (.lst [])
 have hs1:upd H ps (.lst []) ps=some (.lst ((stk row 0 0).map V.int)):=ag
 generalize upd H ps (.lst [])=H1 at s1 hs1 |-
 refine ⟨_,rfl,l,rfl,⟨_,aq.of (s1 _ _ hl)⟩,cT (xs:=row.map V.int) (fun i σ H'=>∃ (o1:Option V) (p:Nat),σ=[some (.ref l),some (.ref ps),some (.int p),o1]/\ae H H'/\H' ps=some (.lst ((stk row i p).map V.int))/\Off row i p/\p<=100) ⟨_,0,rfl,s1,hs1,Off.start row,by lia⟩ (fun i σ H' _ h=>aq.of (h.choose_spec.choose_spec.2.1 _ _ hl)) ?_ ?_⟩
 ·rintro i v σ H2 hv ⟨o1,p,rfl,sm,hst,off,p100⟩
  obtain ⟨x,rfl⟩:=c6 hv
  have hx:row[i]? = some x:=by
   rw [Hk] at hv
   cases h:row[i]? with
   | none=>rw [h] at hv; cases hv
   | some d=>rw [h] at hv; injection hv with hv; injection hv with hv; rw [hv]
  have hi:i < row.length:=(GD.mp hx).1
  have xr:=iw.mp (hperm.mem_iff.mp (GR hx))
  refine ⟨fun m σ H'=>∃ (d:Nat),σ=[some (.ref l),some (.ref ps),some (.int ((p+d:Nat):Int)),some (.int x)]/\ae H H'/\H' ps=some (.lst ((stk row i (p+d)).map V.int))/\m=(x+1 - (p:Int) - (d:Int)).toNat/\(d=0\/((p+d:Nat):Int)<=x+1),⟨_,0,rfl,sm,hst,rfl,.inl rfl⟩,?_⟩
  rintro m σ H3 ⟨d,rfl,sm3,hst3,hm,hd⟩
  have lst:∀ k p:Nat,((stk row k p).map V.int).length<=p:=fun k p=>by
   rw [FS]
   unfold stk
   exact Hm (List.length_filter_le _ _) (by rw [xZ]; exact GF _)
  refine ⟨_,rfl,_,rfl,_,_,rfl,rfl,_,rfl,?_⟩
  by_cases hle:((p+d:Nat):Int)<=x
  ·refine cw hle ⟨fun σ' H'=>σ'=[some (.ref l),some (.ref ps),some (.int ((p+d:Nat)+1:Int)),some (.int x)]/\ae H H'/\H' ps=some (.lst ((stk row i (p+d+1)).map V.int)),?_,?_⟩
   ·rintro σ' H' ⟨rfl,a1,a2⟩
    exact ⟨(x+1 - (p:Int) - ((d+1:Nat):Int)).toNat,by lia,d+1,by rw [show ((p+d:Nat):Int)+1=((p+(d+1):Nat):Int) by lia],a1,a2,rfl,.inr (by lia)⟩
   ·have hn:((p+d:Nat):Int)∉row.take i:=fun z=>by have:=off.below _ z; lia
    have:=lst i (p+d)
    refine ⟨_,rfl,.inl ⟨rfl,_,aq.of hst3⟩,_,rfl,ps,_,_,rfl,rfl,hst3,sA (by lia),?_⟩
    refine ⟨_,rfl,_,_,rfl,rfl,rfl,sm3.upd hps _,?_⟩
    rw [ag,vM hn,G7]
    rfl
  ·have hp':(((p+d:Nat):Nat):Int)=if (p:Int)<=x then x+1 else (p:Int):=by
    split<;>lia
   obtain ⟨l0,t,el,good,bad⟩:=off.step hperm hx hp'
   have lt:=lst i (p+d)
   rw [el] at hst3 lt
   have hlast:((l0++[t]).map V.int)[((l0++[t]).map V.int).length - 1]? = some (.int t):=by
    rw [FS,GZ,G7]
    show (l0.map V.int++[V.int t])[l0.length+1 - 1]? = _
    rw [Jt,Im (by simp)]
    simp
   have hdl:((l0++[t]).map V.int).dropLast=l0.map V.int:=by rw [G7]; exact List.dropLast_concat
   refine b6 hle ⟨_,rfl,.inl ⟨rfl,_,aq.of hst3⟩,ps,_,_,rfl,rfl,hst3,hlast,?_⟩
   rw [hdl]
   refine ⟨_,rfl,rfl,_,rfl,?_⟩
   by_cases e:t=x
   ·obtain ⟨g1,g2⟩:=good e
    refine jr (by rw [e]) ⟨_,p+d,rfl,sm3.upd hps _,by rw [ag,g1],g2,by lia⟩
   ·refine g6 (ne_int e) ?_
    have:=pV hi (bad e)
    rw [this] at q
    exact q _ (sm3.upd hps _)
 ·rintro σ H2 ⟨o1,p,rfl,sm,hst,off,_⟩
  have:iP row=true:=tq fun k hk=>off.fine k (by rw [lm]; exact hk)
  rw [this] at q
  exact q _ sm
theorem Ak (aL:Al P w K mg base ca er 34) (F:br K ca 34 "is_one" "Turns.is_one" qr):D P w K mg base ca er 34:=by
 refine bw F (fun _ _ _ _ _ _=>cB fun _ _=>rfl) (F.ok y3 (fun vs H Q E h=>?_) (fun cZ AZ oZ sZ H vs Q E hr h=>?_))
 ·obtain ⟨x,v,b,rfl,th,q⟩:=h
  rfl
 obtain ⟨x,v,b,rfl,th,q⟩:=h
 refine ⟨_,ah (ar (fJ (aI (aL.g 25) hr (aa (pv 1) af)) (gQ (aI (aL.g 33) hr (aa (pv 1) af))))),?_⟩
 obtain ⟨l,ns,rfl,hl,h64,rfl⟩:=th
 refine ⟨_,rfl,l,ns,rfl,hl,by lia,fun H1 s1=>⟨_,rfl,?_⟩⟩
 unfold lH at q
 cases hB:bN ns with
 | false =>
  rw [hB,HR] at q
  exact aS (q _ s1)
 | true =>
  rw [hB,HB] at q
  exact aW ⟨_,rfl,l,ns,rfl,s1 _ _ hl,h64,hB,fun H2 s2=>q _ (s1.trans s2)⟩
theorem z8 (aL:Al P w K mg base ca er 35) (F:br K ca 35 "is_one" "Codes.is_one" qI):D P w K mg base ca er 35:=by
 refine bw F (fun _ _ _ _ _ _=>cB fun _ _=>rfl) (F.ok sk (fun vs H Q E h=>?_) (fun cZ AZ oZ sZ H vs Q E hr h=>?_))
 ·obtain ⟨x,v,b,rfl,th,q⟩:=h
  rfl
 obtain ⟨x,v,b,rfl,th,q⟩:=h
 refine ⟨_,aj (aB (i:=2) sk.nd rfl (Ls rfl) (au bt (ay ba rfl CA.cV cu (aa (pv 1) af)) ak))
  (ah (ar (ay (dJ rfl) rfl CA.hW fC (aa (bI rfl (aY (pv 1)) rfl rfl rfl rfl (N:=["number","size"]) (.own (.cap (j:=2) rfl rfl rfl .nil)) (fun _ _ _ _ _ _=>(aA (i:=0) (by show HJ (["number","size"]:List Str); decide +kernel) rfl (Hc rfl))) (fun _ _ _ _ _ _=>bx) (fun _ _ _ _ _ _=>(iI fX fX ak (pv 0) (pv 1)))) af)))),?_⟩
 obtain ⟨l,cs,rfl,hl,hz,rfl⟩:=th
 have lm:(cs.map V.int).length=cs.length:=FS _
 refine ⟨_,rfl,l,_,rfl,.inl (aq.of hl),_,_,rfl,rfl,?_⟩
 try dsimp only
 rw [lm]
 refine ⟨_,rfl,l,rfl,⟨_,aq.of hl⟩,fun D hD=>eX (fun v=>match v with | .int c=>.bl (decide (0<=c)&&decide (c<=(cs.length:Int)+1)) | v=>v) (by rw [lm]; exact sz (by lia)) (aq.of hl) hD (fun i v H' R R0 hx hb hR=>?_) ?_⟩
 ·obtain ⟨c,rfl⟩:=c6 hx
  refine ⟨Ext.set rfl,gI (aW ⟨_,rfl,_,_,rfl,rfl,_,rfl,?_⟩)⟩
  by_cases h0:0<=c
  ·refine cw h0 ⟨_,rfl,_,_,rfl,rfl,?_⟩
   have hR':R (.bl (decide (0<=c)&&decide (c<=(cs.length:Int)+1))) H':=hR
   rw [decide_eq_true h0,HB] at hR'
   exact hR'
  ·refine b6 h0 ?_
   have hR':R (.bl (decide (0<=c)&&decide (c<=(cs.length:Int)+1))) H':=hR
   rw [decide_eq_false h0,HR] at hR'
   exact hR'
 have em:(cs.map V.int).map (fun v=>match v with | .int c=>.bl (decide (0<=c)&&decide (c<=(cs.length:Int)+1)) | v=>v)=(cs.map fun c=>decide (0<=c)&&decide (c<=(cs.length:Int)+1)).map V.bl:=by rw [Iz,Iz]; rfl
 rw [em]
 refine ⟨D,_,rfl,aq.of ag,?_⟩
 have ea:(cs.map fun c=>decide (0<=c)&&decide (c<=(cs.length:Int)+1)).all id=cs.all fun c=>decide (0<=c)&&decide (c<=(cs.length:Int)+1):=by rw [JP]; rfl
 rw [ea]
 exact q _ (ae.new (ae.refl H) hD _)
theorem zc (aL:Al P w K mg base ca er 36) (F:Fg K mg ca 36 "comes_to_0" pd):D P w K mg base ca er 36:=by
 refine bV F (fun _ _ _ _ _ _=>cB fun _ _=>rfl) (F.F.ok ja (fun vs H Q E h=>?_) (fun cZ AZ oZ sZ H vs Q E hr h=>?_))
 ·obtain ⟨l,es,r,rfl,hl,hz,hin,r0,r1,q⟩:=h
  rfl
 obtain ⟨l,es,r,rfl,hl,hz,hin,r0,r1,q⟩:=h
 refine ⟨_,aj (aB (i:=2) ja.nd rfl (Hc rfl) (pv 1))
  (aj (bR Hs rfl (cS rfl CA.cm (aa (ay ba rfl CA.cV cu (aa (pv 0) af)) af)) (aA (i:=3) ja.nd rfl (Hc rfl)) (ah (aO (aC lC (pv 2) ak (aE _)) (ah (aB (i:=2) ja.nd rfl (Hc rfl) (a8 aZ (pv 0) (au dc (pv 2) ak) (fun _ _=>rfl)))) aG)))
  (ah (ar (dq cY (pv 2) ak (aE _))))),?_⟩
 have lm:(es.map V.int).length=es.length:=FS _
 refine ⟨_,rfl,_,rfl,l,_,rfl,.inl hl,_,rfl,by lia,by lia,dQ (lo:=0) (n:=(((es.map V.int).length:Nat):Int).toNat) (fun i σ H'=>∃ (o:Option V),σ=[some (.ref l),some (.int r),some (.int (gR es i r)),o]/\H=H') ⟨_,rfl,rfl⟩ ?_ ?_⟩
 ·rintro i σ H' hi ⟨o,rfl,rfl⟩
  have b:=tQ hin i r0 r1
  have es1:=mM es i r
  generalize gR es i r=u at b es1
  refine ⟨_,rfl,_,_,rfl,rfl,_,rfl,?_⟩
  by_cases hu:0 < u
  ·have at1:=eE (ns:=es) (i:=u - 1) (by lia) (by lia)
   refine cw hu ⟨_,rfl,_,rfl,_,_,rfl,rfl,l,_,_,_,rfl,rfl,hl,at1,?_⟩
   have e:eI es u=es.getD (u - 1).toNat 0:=by unfold eI; rw [if_pos hu]
   rw [<- e,<- es1]
   exact ⟨_,rfl,rfl⟩
  ·refine b6 hu ?_
   have e:eI es u=u:=by unfold eI; rw [if_neg hu]
   rw [e] at es1
   rw [<- es1]
   exact ⟨_,rfl,rfl⟩
 ·rintro σ H' ⟨o,rfl,rfl⟩
  refine ⟨_,rfl,rfl,?_⟩
  rw [show (((es.map V.int).length:Nat):Int).toNat=es.length by lia,ir]
  exact q
theorem AN (aL:Al P w K mg base ca er 37) (F:br K ca 37 "is_one" "Trees.is_one" qf):D P w K mg base ca er 37:=by
 refine bw F (fun _ _ _ _ _ _=>cB fun _ _=>rfl) (F.ok tW (fun vs H Q E h=>?_) (fun cZ AZ oZ sZ H vs Q E hr h=>?_))
 ·obtain ⟨x,v,b,rfl,th,q⟩:=h
  rfl
 obtain ⟨x,v,b,rfl,th,q⟩:=h
 refine ⟨_,aj (aB (i:=2) tW.nd rfl (Ls rfl) (ay ba rfl CA.cV cu (aa (pv 1) af)))
  (aj (aO (PW.pt (cJ (aC cY (pv 2) ak (aE _)) (cn (fP (bS (ay (dJ rfl) rfl CA.hW fC (aa (bI rfl (aY (pv 1)) rfl rfl rfl rfl (N:=["elder","size"]) (.own (.cap (j:=2) rfl rfl rfl .nil)) (fun _ _ _ _ _ _=>(aA (i:=0) (by show HJ (["elder","size"]:List Str); decide +kernel) rfl (Hc rfl))) (fun _ _ _ _ _ _=>bx) (fun _ _ _ _ _ _=>(iI fX fX ak (pv 0) (pv 1)))) af))))))) (ah (ar cc)) aG)
  (ah (ar (ay (dJ rfl) rfl CA.hW fC (aa (bI rfl (r8 rfl CA.cm (aa ak (aa (au bt (pv 2) ak) af))) rfl rfl rfl rfl (N:=["knot","thing"]) (.own (.cap (j:=1) rfl rfl rfl .nil)) (fun _ _ _ _ _ _=>(aA (i:=0) (by show HJ (["knot","thing"]:List Str); decide +kernel) rfl (Hc rfl))) (fun _ _ _ _ _ _=>bx) (fun _ _ _ _ _ _=>(aI (aL.g 36) hr (aa (pv 1) (aa (pv 0) af))))) af))))),?_⟩
 obtain ⟨l,es,rfl,hl,hz,rfl⟩:=th
 have hz:es.length<=1000:=by lia
 have lm:(es.map V.int).length=es.length:=FS _
 refine ⟨_,rfl,l,_,rfl,.inl (aq.of hl),?_⟩
 rw [lm]
 refine ⟨_,rfl,rfl,_,rfl,?_⟩
 by_cases hn:es=[]
 ·subst hn
  exact cw rfl (aW (q _ (ae.refl H)))
 have hpos:0 < es.length:=List.length_pos_iff.mpr hn
 refine b6 (ne_int (by lia)) ?_
 refine ⟨_,rfl,l,rfl,⟨_,aq.of hl⟩,fun D hD=>eX (fun v=>match v with | .int c=>.bl (decide (0<=c)&&decide (c<=(es.length:Int))) | v=>v) (by rw [lm]; exact sz (by lia)) (aq.of hl) hD (fun i v H' R R0 hx hb hR=>?_) ?_⟩
 ·obtain ⟨c,rfl⟩:=c6 hx
  refine ⟨Ext.set rfl,gI (aW ⟨_,rfl,_,_,rfl,rfl,_,rfl,?_⟩)⟩
  by_cases h0:0<=c
  ·refine cw h0 ⟨_,rfl,_,_,rfl,rfl,?_⟩
   have hR':R (.bl (decide (0<=c)&&decide (c<=(es.length:Int)))) H':=hR
   rw [decide_eq_true h0,HB] at hR'
   exact hR'
  ·refine b6 h0 ?_
   have hR':R (.bl (decide (0<=c)&&decide (c<=(es.length:Int)))) H':=hR
   rw [decide_eq_false h0,HR] at hR'
   exact hR'
 have em:(es.map V.int).map (fun v=>match v with | .int c=>.bl (decide (0<=c)&&decide (c<=(es.length:Int))) | v=>v)=(es.map fun c=>decide (0<=c)&&decide (c<=(es.length:Int))).map V.bl:=by rw [Iz,Iz]; rfl
 rw [em]
 have s1:=ae.new (ae.refl H) hD (.lst ((es.map fun c=>decide (0<=c)&&decide (c<=(es.length:Int))).map V.bl))
 refine ⟨D,_,rfl,aq.of ag,_,rfl,?_⟩
 have ea:(es.map fun c=>decide (0<=c)&&decide (c<=(es.length:Int))).all id=inR es:=by rw [JP]; rfl
 rw [ea]
 rw [nG hn] at q
 cases hin:inR es with
 | false =>
  rw [hin,HR] at q
  exact aW (q _ s1)
 | true =>
  rw [hin,HB] at q
  refine aS ?_
  generalize upd H D (.lst ((es.map fun c=>decide (0<=c)&&decide (c<=(es.length:Int))).map V.bl))=H1 at s1 |-
  have bG:=s1 _ _ hl
  refine ⟨_,rfl,_,_,rfl,rfl,_,_,rfl,⟨by decide,by decide,by lia,by lia⟩,fun D2 hD2=>pO (lo:=1) (n:=((es.length:Int)+1 - 1).toNat) (fun (i:Nat)=>.bl (kK es i)) (sz (by lia)) (fun i H' R R0 hi hb hR=>?_) ?_⟩
  ·have nD:l≠D2:=az bG hD2
   have fG:=(hb l nD).trans bG
   refine ⟨Ext.set rfl,gI (aW ⟨_,rfl,_,rfl,l,es,_,rfl,aq.of fG,hz,hin,by lia,by lia,?_⟩)⟩
   unfold kK at hR
   rw [show (1:Int)+(i:Int)=(i:Int)+1 by lia]
   exact hR
  ·have em2:(GK ((es.length:Int)+1 - 1).toNat).map (fun (i:Nat)=>V.bl (kK es i))=((GK es.length).map (kK es)).map V.bl:=by rw [Iz,show ((es.length:Int)+1 - 1).toNat=es.length by lia]; rfl
   rw [em2]
   refine ⟨D2,_,rfl,aq.of ag,?_⟩
   have ea2:((GK es.length).map (kK es)).all id=(GK es.length).all (kK es):=by rw [JP]; rfl
   rw [ea2]
   exact q _ (ae.new s1 hD2 _)
theorem B2 (aL:Al P w K mg base ca er 38) (F:br K ca 38 "is_one" "Cars.is_one" o7):D P w K mg base ca er 38:=by
 refine bw F (fun _ _ _ _ _ _=>cB fun _ _=>rfl) (F.ok An (fun vs H Q E h=>?_) (fun cZ AZ oZ sZ H vs Q E hr h=>?_))
 ·obtain ⟨x,v,b,rfl,th,q⟩:=h
  rfl
 obtain ⟨x,v,b,rfl,th,q⟩:=h
 refine ⟨_,aj (aO (PW.pt (cJ (aC (fW (ou hr)) (pv 1) (aR af) (aE _)) (cn (aC dh (ay (kY rfl) rfl CA.wH t9 (aa (pv 1) af)) ak (aE _))))) (ah (ar cc)) aG)
  (ah (ar (ay (dJ rfl) rfl CA.hW fC (aa (bI rfl (kd rfl CA.fk (aa (ay e8 rfl CA.dE dk (aa (pv 1) af)) af)) rfl rfl rfl rfl (N:=["place","wish"]) (.own (.own .nil)) (fun _ _ _ _ _ _=>(fM (K:=K) (n:=2) rfl rfl (aX (aA (i:=0) (by show HJ (["place","wish"]:List Str); decide +kernel) rfl (Hc rfl)) (aX (aA (i:=1) (by show HJ (["place","wish"]:List Str); decide +kernel) rfl (Hc rfl)) cU)))) (fun _ _ _ _ _ _=>bx) (fun _ _ _ _ _ _=>(dq fX (pv 1) (pv 0) (aE _)))) af)))),?_⟩
 obtain ⟨l,ns,rfl,hl,h64,rfl⟩:=th
 have hl:=aq.of (K:=K) hl
 refine ⟨_,rfl,GG _,fun pe hpe=>?_⟩
 have s1:=ae.new (ae.refl H) hpe (.lst [])
 have bG:=s1.seq hl
 have he1:upd H pe (.lst []) pe=some (.lst []):=ag
 generalize upd H pe (.lst [])=H1 at s1 bG he1 |-
 by_cases hne:ns=[]
 ·subst hne
  exact ⟨l,pe,_,_,rfl,rfl,bG,aq.of he1,rfl,rfl,_,rfl,aW (aW (q _ s1))⟩
 refine ⟨l,pe,_,_,rfl,rfl,bG,aq.of he1,gE ns,rfl,_,rfl,fV (fun c=>?_) (fun _=>⟨_,rfl,l,ns,rfl,bG,hne,fun m hm hall=>?_⟩)⟩
 ·cases ns with
  | nil=>exact absurd rfl hne
  | cons n ns=>exact absurd c (by intro z; cases z)
 refine ⟨_,_,rfl,rfl,_,rfl,?_⟩
 by_cases m0:m < 0
 ·refine cw m0 ?_
  rw [sP hm m0] at q
  exact q _ s1
 refine b6 m0 ?_
 have hpos:∀ x∈ns,0<=x:=fun x hx=>by have:=hall x hx; lia
 refine ⟨_,rfl,l,ns,rfl,bG,h64,fun ps ms hps hp hs=>?_⟩
 have s2:=ae.new s1 hps (.lst (ms.map V.int))
 have hm2:upd H1 ps (.lst (ms.map V.int)) ps=some (.lst (ms.map V.int)):=ag
 generalize upd H1 ps (.lst (ms.map V.int))=H2 at s2 hm2 |-
 have lm:(ms.map V.int).length=ms.length:=FS _
 have lms:=hp.length_eq
 refine ⟨ps,rfl,⟨_,aq.of hm2⟩,fun D hD=>sJ (xs:=ms.map V.int) (fun i ys H'=>ae H2 H'/\H' D=some (.lst ys)/\ys=((GK i).map fun (k:Nat)=>decide (ms.getD k 0<=(k:Int))).map V.bl) (by rw [lm]; exact sz (by lia)) ⟨ae.new (ae.refl H2) hD _,ag,rfl⟩ (fun i ys H' hi h=>⟨aq.of (h.1 _ _ hm2),?_⟩) (fun i v ys H' T R R0 hx h hT r r0=>?_) (fun ys H' h=>?_)⟩
 ·rw [h.2.2]; simp
 ·obtain ⟨sm,hy,ey⟩:=h
  obtain ⟨c,rfl⟩:=c6 hx
  have hc:ms.getD i 0=c:=by
   rw [Hk] at hx
   rw [FB]
   cases h:ms[i]? with
   | none=>rw [h] at hx; cases hx
   | some d=>rw [h] at hx; injection hx with hx; injection hx with hx
  have nT:D≠T:=az hy hT
  have hy1:=(av (o:=.tup [.int (i:Int),.int c]) nT).trans hy
  refine ⟨T,_,rfl,bQ.of ag,rfl,_,_,rfl,_,_,rfl,rfl,(Ext.set rfl).trans (Ext.set rfl),gI (aW ?_)⟩
  refine ⟨_,rfl,_,rfl,_,_,rfl,rfl,?_⟩
  refine r _ _ hy1 ⟨(ae.new sm hT _).upd hD _,ag,?_⟩
  rw [ey,JS,G7,G7,<- hc]
  rfl
 ·obtain ⟨sm,hy,ey⟩:=h
  subst ey
  refine ⟨D,_,rfl,aq.of hy,?_⟩
  rw [lm,mR hne hpos hp hs]
  exact q _ (s2.trans sm)
theorem Dw (aL:Al P w K mg base ca er 40) (F:br K ca 40 "refuse_other" "Family.refuse_other" uH):D P w K mg base ca er 40:=by
 refine Fu F (fun _ _ _ _ _ _=>cB fun _ _=>rfl) (F.okE Et (fun vs H Q E h=>?_) (fun cZ AZ oZ sZ H vs Q E hr h=>?_))
 ·obtain ⟨fw,hf,x,dx,fs,w,l,v,b,rfl,hx,fl,th,q,q'⟩:=h
  rfl
 obtain ⟨fw,hf,x,dx,fs,w,l,v,b,rfl,hx,fl,th,q,q'⟩:=h
 refine ⟨_,ah (aO (fP (bS (lN (M:=10) (pv 0) CA.c4 CA.mtW_is_one (aL.g 39) hr (aa (pv 1) af)))) (ah (mP fI (EO.x 3 (by decide)) rfl (EO.m 3 (by decide)) (aa aw af))) aG),?_⟩
 cases b
 ·exact ⟨fw,hf,_,rfl,x,dx,fs,rfl,hx,fl.no "is_one" (by decide) (by decide),_,rfl,x,v,false,rfl,th,fun H1 s1=>⟨_,rfl,aW ⟨sz (n:=1) (by decide),q' rfl H1 s1⟩⟩⟩
 ·exact ⟨fw,hf,_,rfl,x,dx,fs,rfl,hx,fl.no "is_one" (by decide) (by decide),_,rfl,x,v,true,rfl,th,fun H1 s1=>⟨_,rfl,aS (q rfl H1 s1)⟩⟩
theorem AF (aL:Al P w K mg base ca er 41) (F:Fg K mg ca 41 "written_row" qY):D P w K mg base ca er 41:=by
 refine bV F (fun _ _ _ _ _ _=>cB fun _ _=>rfl) (F.F.ok Br (fun vs H Q E h=>?_) (fun cZ AZ oZ sZ H vs Q E hr h=>?_))
 ·obtain ⟨l,xs,b,rfl,hl,hx,hb,hbl,q⟩:=h
  rfl
 obtain ⟨l,xs,b,rfl,hl,hx,hb,hbl,q⟩:=h
 refine ⟨_,aj (aO (aC (fW (ou hr)) (pv 0) (aR af) (aE _)) (ah (ar (aU (v:=.str "-") rfl CA.km.1 CA.km.2))) aG)
  (ah (ar (cG Js LJ LK nP (pv 1) (aa (pv 0) af)))),?_⟩
 refine ⟨_,rfl,GG _,fun pe hpe=>?_⟩
 have s1:=ae.new (ae.refl H) hpe (.lst [])
 have bG:=s1 _ _ hl
 have he1:upd H pe (.lst []) pe=some (.lst []):=ag
 generalize upd H pe (.lst [])=H1 at s1 bG he1 |-
 match xs,hx,hb,bG with
 | [],_,_,bG=>exact ⟨l,pe,_,_,rfl,rfl,aq.of bG,aq.of he1,rfl,rfl,_,rfl,aW (q _ _ (by decide +kernel) s1)⟩
 | [y],_,hb,bG =>
  have ly:=hb y (GY ..)
  refine ⟨l,pe,_,_,rfl,rfl,aq.of bG,aq.of he1,rfl,rfl,_,rfl,aS ⟨_,rfl,rfl,_,rfl,_,l,[y],rfl,rfl,aq.of bG,?_,q _ _ ?_ s1⟩⟩
  ·show y.length+0+1*b.length<=16777216
   lia
  ·have:(Txt.join b [y]).length=y.length:=by rw [join_one]
   lia
theorem Cu (aL:Al P w K mg base ca er 42) (F:Fg K mg ca 42 "written_brackets" qk):D P w K mg base ca er 42:=by
 refine bV F (fun _ _ _ _ _ _=>bB fun _=>rfl) (F.F.ok Dh (fun vs H Q E h=>?_) (fun cZ AZ oZ sZ H vs Q E hr h=>?_))
 ·obtain ⟨v,rfl,th,q⟩:=h
  rfl
 obtain ⟨v,rfl,th,q⟩:=h
 refine ⟨_,ah (ar (aI (aL.g 41) hr (aa (eY (qx rfl) rfl CA.gC fu (aa (pv 0) af)) (aa aw af)))),?_⟩
 have th:v = .str "":=th
 subst th
 refine ⟨_,rfl,_,rfl,by decide +kernel,fun p hp=>?_⟩
 have s1:=ae.new (ae.refl H) hp (.lst (([]:List Str).map V.str))
 exact ⟨p,[],_,rfl,ag,by decide,by decide,by decide +kernel,fun s H' ls s'=>q s H' ls (s1.trans s')⟩
theorem Bu (aL:Al P w K mg base ca er 43) (F:Fg K mg ca 43 "written_twins" oQ):D P w K mg base ca er 43:=by
 refine bV F (fun _ _ _ _ _ _=>bB fun _=>rfl) (F.F.ok Bp (fun vs H Q E h=>?_) (fun cZ AZ oZ sZ H vs Q E hr h=>?_))
 ·obtain ⟨v,rfl,th,q⟩:=h
  rfl
 obtain ⟨v,rfl,th,q⟩:=h
 refine ⟨_,aj (aO (aC (rS (eC hr)) (pv 0) (cL af) (aE _)) (ah (ar aw)) aG)
  eW,?_⟩
 obtain ⟨p,rfl,hp⟩:=th
 refine ⟨_,rfl,GG _,fun pe hpe=>?_⟩
 have s1:=ae.new (ae.refl H) hpe (.tup [])
 have ne:p≠pe:=az hp hpe
 exact ⟨1,true,by decide,aN.tupT ne (bQ.of (s1 _ _ hp)) (bQ.of ag) rfl (fun j x y hx _=>by cases hx),⟨p,pe,rfl,rfl,ne⟩,_,rfl,aW (q _ _ (by decide +kernel) s1)⟩
theorem zQ (aL:Al P w K mg base ca er 44) (F:Fg K mg ca 44 "written_pair" qj):D P w K mg base ca er 44:=by
 refine bV F (fun _ _ _ _ _ _=>cB fun _ _=>rfl) (F.F.ok Aa (fun vs H Q E h=>?_) (fun cZ AZ oZ sZ H vs Q E hr h=>?_))
 ·obtain ⟨a,b,rfl,q⟩:=h
  rfl
 obtain ⟨a,b,rfl,q⟩:=h
 refine ⟨_,eW,?_⟩
 exact q.elim
theorem Cn (aL:Al P w K mg base ca er 45) (F:Fg K mg ca 45 "written_bows" oJ):D P w K mg base ca er 45:=by
 refine bV F (fun _ _ _ _ _ _=>bB fun _=>rfl) (F.F.ok Dj (fun vs H Q E h=>?_) (fun cZ AZ oZ sZ H vs Q E hr h=>?_))
 ·obtain ⟨v,rfl,th,q⟩:=h
  rfl
 obtain ⟨v,rfl,th,q⟩:=h
 refine ⟨_,ah (ar (aI (aL.g 41) hr (aa (bI rfl (aY (pv 0)) rfl rfl rfl rfl (N:=["a","b"]) (.own (.own .nil)) (fun _ _ _ _ _ _=>(fM (K:=K) (n:=2) rfl rfl (aX (aA (i:=0) (by show HJ (["a","b"]:List Str); decide +kernel) rfl (Hc rfl)) (aX (aA (i:=1) (by show HJ (["a","b"]:List Str); decide +kernel) rfl (Hc rfl)) cU)))) (fun _ _ _ _ _ _=>bx) (fun _ _ _ _ _ _=>(aI (aL.g 44) hr (aa (pv 0) (aa (pv 1) af))))) (aa aw af)))),?_⟩
 obtain ⟨p,rfl,hp⟩:=th
 refine ⟨_,rfl,p,rfl,⟨_,aq.of hp⟩,fun D hD=>cD (xs:=([]:List V)) (fun i ys H'=>ae H H'/\H' D=some (.lst ys)/\ys=[]) (GG _) ⟨ae.new (ae.refl H) hD _,ag,rfl⟩ (fun i ys H' hi h=>⟨aq.of (h.1 _ _ hp),by rw [h.2.2]; exact GG _⟩) (fun i x ys H' R R0 hx h r r0=>by cases hx) (fun ys H' h=>?_)⟩
 obtain ⟨s1,hy,rfl⟩:=h
 exact ⟨D,[],_,rfl,hy,by decide,by decide,by decide +kernel,fun s H2 ls s'=>q s H2 ls (s1.trans s')⟩
theorem zf (aL:Al P w K mg base ca er 46) (F:Fg K mg ca 46 "written_room" rh):D P w K mg base ca er 46:=by
 refine bV F (fun _ _ _ _ _ _=>bB fun _=>rfl) (F.F.ok y9 (fun vs H Q E h=>?_) (fun cZ AZ oZ sZ H vs Q E hr h=>?_))
 ·obtain ⟨a,rfl,q⟩:=h
  rfl
 obtain ⟨a,rfl,q⟩:=h
 refine ⟨_,eW,?_⟩
 exact q.elim
theorem y0 (aL:Al P w K mg base ca er 47) (F:Fg K mg ca 47 "written_rooms" pE):D P w K mg base ca er 47:=by
 refine bV F (fun _ _ _ _ _ _=>bB fun _=>rfl) (F.F.ok A1 (fun vs H Q E h=>?_) (fun cZ AZ oZ sZ H vs Q E hr h=>?_))
 ·obtain ⟨v,rfl,th,q⟩:=h
  rfl
 obtain ⟨v,rfl,th,q⟩:=h
 refine ⟨_,ah (ar (aI (aL.g 41) hr (aa (bI rfl (aY (pv 0)) rfl rfl rfl rfl (N:=["room"]) (.own .nil) (fun _ _ _ _ _ _=>(aA (i:=0) (by show HJ (["room"]:List Str); decide +kernel) rfl (Hc rfl))) (fun _ _ _ _ _ _=>bx) (fun _ _ _ _ _ _=>(aI (aL.g 46) hr (aa (pv 0) af)))) (aa aw af)))),?_⟩
 obtain ⟨p,rfl,hp⟩:=th
 refine ⟨_,rfl,p,rfl,⟨_,aq.of hp⟩,fun D hD=>cD (xs:=([]:List V)) (fun i ys H'=>ae H H'/\H' D=some (.lst ys)/\ys=[]) (GG _) ⟨ae.new (ae.refl H) hD _,ag,rfl⟩ (fun i ys H' hi h=>⟨aq.of (h.1 _ _ hp),by rw [h.2.2]; exact GG _⟩) (fun i x ys H' R R0 hx h r r0=>by cases hx) (fun ys H' h=>?_)⟩
 obtain ⟨s1,hy,rfl⟩:=h
 exact ⟨D,[],_,rfl,hy,by decide,by decide,by decide +kernel,fun s H2 ls s'=>q s H2 ls (s1.trans s')⟩
theorem Ad (aL:Al P w K mg base ca er 48) (F:Fg K mg ca 48 "written_floor" pk):D P w K mg base ca er 48:=by
 refine bV F (fun _ _ _ _ _ _=>bB fun _=>rfl) (F.F.ok zt (fun vs H Q E h=>?_) (fun cZ AZ oZ sZ H vs Q E hr h=>?_))
 ·obtain ⟨v,rfl,th,q⟩:=h
  rfl
 obtain ⟨v,rfl,th,q⟩:=h
 refine ⟨_,ah (ar (aI (aL.g 41) hr (aa (au jd (aR (aa (eY gW rfl CA.rg lW (aa (a8 gU (pv 0) ak (fun _ _=>rfl)) af)) af)) (bI rfl (aY (a8 gU (pv 0) ak (fun _ _=>rfl))) rfl rfl rfl rfl (N:=["a","b"]) (.own (.own .nil)) (fun _ _ _ _ _ _=>(fM (K:=K) (n:=2) rfl rfl (aX (aA (i:=0) (by show HJ (["a","b"]:List Str); decide +kernel) rfl (Hc rfl)) (aX (aA (i:=1) (by show HJ (["a","b"]:List Str); decide +kernel) rfl (Hc rfl)) cU)))) (fun _ _ _ _ _ _=>bx) (fun _ _ _ _ _ _=>(aI (aL.g 44) hr (aa (pv 0) (aa (pv 1) af)))))) (aa aw af)))),?_⟩
 obtain ⟨t,p,rfl,ht,hp⟩:=th
 refine ⟨_,rfl,t,_,_,_,rfl,rfl,bQ.of ht,rfl,_,rfl,by decide +kernel,(by show 1<=sizeLine; decide),fun p1 hp1=>?_⟩
 have k1:=ae.new (ae.refl H) hp1 (.lst [.str (toString (2:Int))])
 have h1:upd H p1 (.lst [.str (toString (2:Int))]) p1=some (.lst [.str (toString (2:Int))]):=ag
 generalize upd H p1 (.lst [.str (toString (2:Int))])=H1 at k1 h1 |-
 refine ⟨_,rfl,t,_,_,_,rfl,rfl,bQ.of (k1 _ _ ht),rfl,p,rfl,⟨_,aq.of (k1 _ _ hp)⟩,fun D hD=>cD (xs:=([]:List V)) (fun i ys H'=>ae H1 H'/\H' D=some (.lst ys)/\ys=[]) (GG _) ⟨ae.new (ae.refl H1) hD _,ag,rfl⟩ (fun i ys H' hi h=>⟨aq.of (h.1 _ _ (k1 _ _ hp)),by rw [h.2.2]; exact GG _⟩) (fun i x ys H' R R0 hx h r r0=>by cases hx) (fun ys H' h=>?_)⟩
 obtain ⟨s2,hy,rfl⟩:=h
 refine ⟨p1,D,_,_,rfl,rfl,s2 _ _ h1,hy,(by show 1<=sizeLine; decide),fun pc hpc=>?_⟩
 have s3:=ae.new (ae.refl H') hpc (.lst [.str (toString (2:Int))])
 exact ⟨pc,[(toString (2:Int):Str)],_,rfl,ag,by decide,fun x hx=>by rw [IC.mp hx]; decide +kernel,by decide +kernel,fun s H2 ls s'=>q s H2 ls (((k1.trans s2).trans s3).trans s')⟩
theorem CZ (aL:Al P w K mg base ca er 49) (F:Fg K mg ca 49 "written_numbers" qU):D P w K mg base ca er 49:=by
 refine bV F (fun _ _ _ _ _ _=>bB fun _=>rfl) (F.F.ok yM (fun vs H Q E h=>?_) (fun cZ AZ oZ sZ H vs Q E hr h=>?_))
 ·obtain ⟨v,rfl,th,q⟩:=h
  rfl
 obtain ⟨v,rfl,th,q⟩:=h
 refine ⟨_,ah (ar (aI (aL.g 41) hr (aa (bI rfl (aY (pv 0)) rfl rfl rfl rfl (N:=["number"]) (.own .nil) (fun _ _ _ _ _ _=>(aA (i:=0) (by show HJ (["number"]:List Str); decide +kernel) rfl (Hc rfl))) (fun _ _ _ _ _ _=>bx) (fun _ _ _ _ _ _=>(eY gW rfl CA.rg lW (aa (pv 0) af)))) (aa aw af)))),?_⟩
 obtain ⟨p,ns,rfl,hp,hn⟩:=th
 have l1:ns.length<=1:=by rcases hn with rfl | rfl<;>decide
 have lm:(ns.map V.int).length=ns.length:=FS _
 refine ⟨_,rfl,p,rfl,⟨_,aq.of hp⟩,fun D hD=>eX (fun v=>match v with | .int c=>.str (toString c) | v=>v) (by rw [lm]; exact sz (by lia)) (aq.of hp) hD (fun i x H' R R0 hx hb hR=>?_) ?_⟩
 ·obtain ⟨c,rfl⟩:=c6 hx
  have c0:c=0:=by
   rcases hn with rfl | rfl
   ·cases hx
   ·have:=GR hx
    simpa using this
  subst c0
  exact ⟨Ext.set rfl,gI (aW ⟨_,rfl,_,rfl,by decide +kernel,hR⟩)⟩
 ·have s1:=ae.new (ae.refl H) hD (.lst ((ns.map V.int).map fun v=>match v with | .int c=>V.str (toString c) | v=>v))
  refine ⟨D,ns.map fun c=>toString c,_,rfl,by rw [ag,Iz,Iz]; rfl,by rw [FS]; exact l1,fun x hx=>?_,by decide +kernel,fun s H2 ls s'=>q s H2 ls (s1.trans s')⟩
  rcases hn with rfl | rfl
  ·cases hx
  ·have:x=toString (0:Int):=by simpa using hx
   rw [this]; decide +kernel
theorem zH (aL:Al P w K mg base ca er 51) (F:Fg K mg ca 51 "form_of" qg):D P w K mg base ca er 51:=by
 refine bV F (fun _ _ _ _ _ _=>bB fun _=>rfl) (F.F.ok tS (fun vs H Q E h=>?_) (fun cZ AZ oZ sZ H vs Q E hr h=>?_))
 ·obtain ⟨i,rfl,hi,q⟩:=h
  rfl
 obtain ⟨i,rfl,hi,q⟩:=h
 refine ⟨_,aj (aB (i:=1) tS.nd rfl (Hc rfl) (oA (dG aw (cL (aa (aU (v:=.ref (ca.f 42)) rfl (Def.m (aL.g 42)) rfl) (aa (aU (v:=.ref (ca.F 4)) rfl CA.jb rfl) af))) (dG aw (cL (aa (aU (v:=.ref (ca.f 43)) rfl (Def.m (aL.g 43)) rfl) (aa (aU (v:=.ref (ca.F 3)) rfl CA.mD rfl) af))) (dG aw (cL (aa (aU (v:=.ref (ca.f 45)) rfl (Def.m (aL.g 45)) rfl) (aa (aU (v:=.ref (ca.F 2)) rfl CA.m8 rfl) af))) (dG aw (cL (aa (aU (v:=.ref (ca.f 47)) rfl (Def.m (aL.g 47)) rfl) (aa (aU (v:=.ref (ca.F 1)) rfl CA.mO rfl) af))) (dG aw (cL (aa (aU (v:=.ref (ca.f 48)) rfl (Def.m (aL.g 48)) rfl) (aa (aU (v:=.ref (ca.F 0)) rfl CA.m3 rfl) af))) nO))))) rfl rfl (List.cons_ne_nil _ _) (Nat.le_of_ble_eq_true rfl)))
  (ah (ar (vn (EM hr) (pv 1) (pv 0) (cL (aa (aU (v:=.ref (ca.f 49)) rfl (Def.m (aL.g 49)) rfl) (aa (aU (v:=.ref (ca.F 5)) rfl CA.jT rfl) af))) ⟨rfl,rfl,rfl,rfl⟩))),?_⟩
 have mk:∀ {H1:Hp} {p:GC} (o:HO),H1 p=none->ae H1 (upd H1 p o)/\upd H1 p o p=some o:=fun o h=>⟨ae.new (ae.refl _) h o,ag⟩
 refine fun d hd=>⟨(by show 2<=sizeLine; decide),fun t0 h0=>⟨(by show 2<=sizeLine; decide),fun t1 h1=>⟨(by show 2<=sizeLine; decide),fun t2 h2=>⟨(by show 2<=sizeLine; decide),fun t3 h3=>⟨(by show 2<=sizeLine; decide),fun t4 h4=>?_⟩⟩⟩⟩⟩
 obtain ⟨k,ed⟩:=mk (.dK []) hd
 obtain ⟨k0,e0⟩:=mk (.tup [.ref (ca.f 42),.ref (ca.F 4)]) h0
 obtain ⟨k1,e1⟩:=mk (.tup [.ref (ca.f 43),.ref (ca.F 3)]) h1
 obtain ⟨k2,e2⟩:=mk (.tup [.ref (ca.f 45),.ref (ca.F 2)]) h2
 obtain ⟨k3,e3⟩:=mk (.tup [.ref (ca.f 47),.ref (ca.F 1)]) h3
 obtain ⟨k4,e4⟩:=mk (.tup [.ref (ca.f 48),.ref (ca.F 0)]) h4
 have e3:=k4 _ _ e3
 have k34:=k3.trans k4
 have e2:=k34 _ _ e2
 have k24:=k2.trans k34
 have e1:=k24 _ _ e1
 have k14:=k1.trans k24
 have e0:=k14 _ _ e0
 have ks:=k0.trans k14
 have ed:=ks _ _ ed
 have kk:=k.trans ks
 clear k k0 k1 k2 k3 k4 k34 k24 k14 ks h0 h1 h2 h3 h4
 generalize upd (upd (upd (upd (upd (upd H d (.dK [])) t0 (.tup [.ref (ca.f 42),.ref (ca.F 4)])) t1 (.tup [.ref (ca.f 43),.ref (ca.F 3)])) t2 (.tup [.ref (ca.f 45),.ref (ca.F 2)])) t3 (.tup [.ref (ca.f 47),.ref (ca.F 1)])) t4 (.tup [.ref (ca.f 48),.ref (ca.F 0)])=H1 at e0 e1 e2 e3 e4 ed kk |-
 refine ⟨ed,[((.inr (tz "brackets"):Key),V.ref t0),((.inr (tz "twins"):Key),V.ref t1),((.inr (tz "bows"):Key),V.ref t2),((.inr (tz "rooms"):Key),V.ref t3),((.inr (tz "floor"):Key),V.ref t4)],rfl,(by show 5<=15; decide),?_⟩
 have em:dO [] [((.inr (tz "brackets"):Key),V.ref t0),((.inr (tz "twins"):Key),V.ref t1),((.inr (tz "bows"):Key),V.ref t2),((.inr (tz "rooms"):Key),V.ref t3),((.inr (tz "floor"):Key),V.ref t4)]=[((.inr (tz "brackets"):Key),V.ref t0),((.inr (tz "twins"):Key),V.ref t1),((.inr (tz "bows"):Key),V.ref t2),((.inr (tz "rooms"):Key),V.ref t3),((.inr (tz "floor"):Key),V.ref t4)]:=iz _ [] (sd (ys:=[tz "brackets",tz "twins",tz "bows",tz "rooms",tz "floor"]) (by decide +kernel))
 rw [em]
 clear em
 have tn:∀ {t:GC} {l:List V} (o:HO),H1 t=some (.tup l)->upd H1 d o t=some (.tup l):=fun o h=>(av (hJ h ed (fun z=>by cases z))).trans h
 have j0:=tn (.dK [((.inr (tz "brackets"):Key),V.ref t0),((.inr (tz "twins"):Key),V.ref t1),((.inr (tz "bows"):Key),V.ref t2),((.inr (tz "rooms"):Key),V.ref t3),((.inr (tz "floor"):Key),V.ref t4)]) e0
 have j1:=tn (.dK [((.inr (tz "brackets"):Key),V.ref t0),((.inr (tz "twins"):Key),V.ref t1),((.inr (tz "bows"):Key),V.ref t2),((.inr (tz "rooms"):Key),V.ref t3),((.inr (tz "floor"):Key),V.ref t4)]) e1
 have j2:=tn (.dK [((.inr (tz "brackets"):Key),V.ref t0),((.inr (tz "twins"):Key),V.ref t1),((.inr (tz "bows"):Key),V.ref t2),((.inr (tz "rooms"):Key),V.ref t3),((.inr (tz "floor"):Key),V.ref t4)]) e2
 have j3:=tn (.dK [((.inr (tz "brackets"):Key),V.ref t0),((.inr (tz "twins"):Key),V.ref t1),((.inr (tz "bows"):Key),V.ref t2),((.inr (tz "rooms"):Key),V.ref t3),((.inr (tz "floor"):Key),V.ref t4)]) e3
 have j4:=tn (.dK [((.inr (tz "brackets"):Key),V.ref t0),((.inr (tz "twins"):Key),V.ref t1),((.inr (tz "bows"):Key),V.ref t2),((.inr (tz "rooms"):Key),V.ref t3),((.inr (tz "floor"):Key),V.ref t4)]) e4
 have k9:=kk.upd hd (.dK [((.inr (tz "brackets"):Key),V.ref t0),((.inr (tz "twins"):Key),V.ref t1),((.inr (tz "bows"):Key),V.ref t2),((.inr (tz "rooms"):Key),V.ref t3),((.inr (tz "floor"):Key),V.ref t4)])
 have hd9:=ag (H:=H1) (a:=d) (o:=.dK [((.inr (tz "brackets"):Key),V.ref t0),((.inr (tz "twins"):Key),V.ref t1),((.inr (tz "bows"):Key),V.ref t2),((.inr (tz "rooms"):Key),V.ref t3),((.inr (tz "floor"):Key),V.ref t4)])
 clear kk ed e0 e1 e2 e3 e4 tn
 generalize upd H1 d (.dK [((.inr (tz "brackets"):Key),V.ref t0),((.inr (tz "twins"):Key),V.ref t1),((.inr (tz "bows"):Key),V.ref t2),((.inr (tz "rooms"):Key),V.ref t3),((.inr (tz "floor"):Key),V.ref t4)])=H2 at j0 j1 j2 j3 j4 k9 hd9 |-
 refine ⟨_,rfl,d,rfl,.inl ⟨_,.inl hd9⟩,_,rfl,(by show 2<=sizeLine; decide),fun tn hn=>?_⟩
 obtain ⟨kn,en⟩:=mk (.tup [.ref (ca.f 49),.ref (ca.F 5)]) hn
 have gn:=fun w=>fg.k (k:=.inr w) (kn _ _ hd9)
 have kz:=k9.trans kn
 match i,hi with
 | 0,_=>exact ⟨_,gn _,q t0 _ _ kz (kn _ _ j0)⟩
 | 1,_=>exact ⟨_,gn _,q tn _ _ kz en⟩
 | 2,_=>exact ⟨_,gn _,q t1 _ _ kz (kn _ _ j1)⟩
 | 3,_=>exact ⟨_,gn _,q t2 _ _ kz (kn _ _ j2)⟩
 | 4,_=>exact ⟨_,gn _,q t3 _ _ kz (kn _ _ j3)⟩
 | 5,_=>exact ⟨_,gn _,q t4 _ _ kz (kn _ _ j4)⟩
 | 6,_=>exact ⟨_,gn _,q tn _ _ kz en⟩
 | 7,_=>exact ⟨_,gn _,q tn _ _ kz en⟩
 | 8,_=>exact ⟨_,gn _,q tn _ _ kz en⟩
 | 9,_=>exact ⟨_,gn _,q tn _ _ kz en⟩
theorem B4 (aL:Al P w K mg base ca er 52) (F:Fg K mg ca 52 "written" ra):D P w K mg base ca er 52:=by
 refine Bk F (fun _ _ _ _ _ _=>cB fun _ _=>rfl) (F.F.okE Dg (fun vs H Q E h=>?_) (fun cZ AZ oZ sZ H vs Q E hr h=>?_))
 ·obtain ⟨w,v,rfl,q⟩:=h
  rfl
 obtain ⟨w,v,rfl,q⟩:=h
 refine ⟨_,aj (aP (Fw fI (M:=10) (AV fI (aL.g 20) hr (aa (pv 0) af)) CA.c4 CA.mtW_refuse_other (fun _ _=>(aL.g 40)) hr (aa (pv 1) af)))
  (ah (ar (au bq (au bq (pv 0) aw) (zN fI (a8 gU (aI (aL.g 51) hr (aa (pv 0) af)) ak (fun _ _=>rfl)) (aL.g 50) hr (aa (pv 1) af))))),?_⟩
 rcases q with ⟨nw,q⟩ | ⟨i,hi,rfl,bad,q⟩ | ⟨i,hi,rfl,good,q⟩
 ·exact ⟨0,by decide,_,rfl,w,rfl,.inr ⟨nw,q⟩⟩
 ·exact ⟨i,hi,_,rfl,wd i,rfl,.inl ⟨i,hi,rfl,fun x dx fs H1 s1 hx fl=>⟨x,dx,fs,rfl,hx,fl.no "refuse_other" (by decide) (by decide),_,rfl,i,hi,x,dx,fs,_,_,v,false,rfl,hx,fl,bad.same s1,nofun,fun _ H2 s2=>q H2 (s1.trans s2)⟩⟩⟩
 ·refine ⟨i,hi,_,rfl,wd i,rfl,.inl ⟨i,hi,rfl,fun x dx fs H1 s1 hx fl=>⟨x,dx,fs,rfl,hx,fl.no "refuse_other" (by decide) (by decide),_,rfl,i,hi,x,dx,fs,_,_,v,true,rfl,hx,fl,uu hi (Rp.same good s1),fun _ H2 s2=>?_,nofun⟩⟩⟩
  have k2:=s1.trans s2
  have lw:=mK i hi
  have g:K9 (tz " ")<=1:=by decide +kernel
  refine ⟨_,rfl,_,_,rfl,rfl,dg lw g (by decide),_,rfl,i,rfl,hi,fun p r H3 s3 hp=>⟨p,_,_,_,rfl,rfl,bQ.of hp,rfl,fm i,Eb i hi,rfl,_,rfl,v,rfl,xT hi (Rp.same good (k2.trans s3)),fun s H4 ls s4=>?_⟩⟩
  exact ⟨_,_,rfl,rfl,Hm (LX (le_app lw g) ls) (by decide),q s H4 ((k2.trans s3).trans s4)⟩
theorem A8 (aL:Al P w K mg base ca er 53) (F:Fg K mg ca 53 "_law_classes" oI):D P w K mg base ca er 53:=by
 refine bV F (fun _ _ _ _ _ _=>bB fun _=>rfl) (F.F.ok sF (fun vs H Q E h=>?_) (fun cZ AZ oZ sZ H vs Q E hr h=>?_))
 ·obtain ⟨e,n,t,rfl,he,ht,q⟩:=h
  rfl
 obtain ⟨e,n,t,rfl,he,ht,q⟩:=h
 refine ⟨_,aj (aB (i:=1) sF.nd rfl (Hc rfl) (aR af))
  (aj (aO (bS (ay (bh) rfl CA.bb aV (aa (pv 0) (aa (aU (v:=.ref (er 4)) rfl (EO.m 4 (by decide)) rfl) af)))) (ah (aP (cG Hf Hn Ho bM (pv 1) (aa aw af)))) aG)
  (aj (aO (bS (ay (bh) rfl CA.bb aV (aa (pv 0) (aa (aU (v:=.ref (er 3)) rfl (EO.m 3 (by decide)) rfl) af)))) (ah (aP (cG Hf Hn Ho bM (pv 1) (aa aw af)))) aG)
  (aj (aO (PW.pt (cJ (bS (ay (bh) rfl CA.bb aV (aa (pv 0) (aa (aU (v:=.ref (er 1)) rfl (EO.m 1 (by decide)) rfl) af)))) (cJ (bS (ay (bh) rfl CA.bb aV (aa (pv 0) (aa (aU (v:=.ref (er 2)) rfl (EO.m 2 (by decide)) rfl) af)))) (cn (bS (ay (bh) rfl CA.bb aV (aa (pv 0) (aa (aU (v:=.ref (er 5)) rfl (EO.m 5 (by decide)) rfl) af)))))))) (ah (aP (cG Hf Hn Ho bM (pv 1) (aa aw af)))) aG)
  (aj (aO (PW.pt (cJ (bS (ay (bh) rfl CA.bb aV (aa (pv 0) (aa (aU (v:=.ref (er 6)) rfl (EO.m 6 (by decide)) rfl) af)))) (cJ (bS (ay (bh) rfl CA.bb aV (aa (pv 0) (aa (aU (v:=.ref (er 9)) rfl (EO.m 9 (by decide)) rfl) af)))) (cn (bS (ay (bh) rfl CA.bb aV (aa (pv 0) (aa (aU (v:=.ref (er 8)) rfl (EO.m 8 (by decide)) rfl) af)))))))) (ah (aP (cG Hf Hn Ho bM (pv 1) (aa aw af)))) aG)
  (aj (aO (PW.pt (cJ (bS (ay (bh) rfl CA.bb aV (aa (pv 0) (aa (aU (v:=.ref (er 7)) rfl (EO.m 7 (by decide)) rfl) af)))) (cn (fP (bS (ay (bh) rfl CA.bb aV (aa (pv 0) (aa (n9 (v:=.ty "ValueError") rfl CA.mU lr rfl) af)))))))) (ah (aP (cG Hf Hn Ho bM (pv 1) (aa aw af)))) aG)
  (ah (ar (pv 1)))))))),?_⟩
 refine ⟨GG _,fun p hp=>?_⟩
 have s1:=ae.new (ae.refl H) hp (.lst [])
 have he1:upd H p (.lst []) e=some (dY e (.ref (er n))):=s1 _ _ he
 have nep:e≠p:=az he hp
 have he2:∀ o,upd (upd H p (.lst [])) p o e=some (dY e (.ref (er n))):=fun o=>(av nep).trans he1
 have s2:∀ o,ae H (upd (upd H p (.lst [])) p o):=fun o=>s1.upd hp o
 have l0:([]:List V).length < sizeLine:=sA (n:=0) (by decide)
 rcases ht with ⟨rfl,rfl⟩ | ⟨rfl,rfl⟩
 ·have ek:=EO.k 4 (by decide)
  have ed:=EO.d 4 (by decide)
  refine ⟨_,rfl,e,_,_,_,_,rfl,bH,he1,ek,EO.e 4 (by decide) (by decide),_,rfl,aW ⟨_,rfl,.inl ⟨rfl,_,aq.of ag⟩,p,_,_,rfl,rfl,ag,l0,?_⟩⟩
  refine ⟨_,rfl,e,_,_,_,_,rfl,bH,he2 _,ek,ed 3 (by decide) (by decide),_,rfl,aS ?_⟩
  refine ⟨_,rfl,e,_,_,_,_,rfl,bH,he2 _,ek,ed 1 (by decide) (by decide),_,rfl,aS ⟨_,rfl,e,_,_,_,_,rfl,bH,he2 _,ek,ed 2 (by decide) (by decide),_,rfl,aS ⟨_,rfl,e,_,_,_,_,rfl,bH,he2 _,ek,ed 5 (by decide) (by decide),_,rfl,aS ?_⟩⟩⟩
  refine ⟨_,rfl,e,_,_,_,_,rfl,bH,he2 _,ek,ed 6 (by decide) (by decide),_,rfl,aS ⟨_,rfl,e,_,_,_,_,rfl,bH,he2 _,ek,ed 9 (by decide) (by decide),_,rfl,aS ⟨_,rfl,e,_,_,_,_,rfl,bH,he2 _,ek,ed 8 (by decide) (by decide),_,rfl,aS ?_⟩⟩⟩
  exact ⟨_,rfl,e,_,_,_,_,rfl,bH,he2 _,ek,ed 7 (by decide) (by decide),_,rfl,aS ⟨_,rfl,e,_,_,_,_,rfl,qJ,he2 _,ek,EO.v 4 (by decide),_,rfl,aS ⟨_,rfl,q p _ (s2 _) hp ag⟩⟩⟩
 ·have ek:=EO.k 3 (by decide)
  have ed:=EO.d 3 (by decide)
  refine ⟨_,rfl,e,_,_,_,_,rfl,bH,he1,ek,ed 4 (by decide) (by decide),_,rfl,aS ?_⟩
  refine ⟨_,rfl,e,_,_,_,_,rfl,bH,he1,ek,EO.e 3 (by decide) (by decide),_,rfl,aW ⟨_,rfl,.inl ⟨rfl,_,aq.of ag⟩,p,_,_,rfl,rfl,ag,l0,?_⟩⟩
  refine ⟨_,rfl,e,_,_,_,_,rfl,bH,he2 _,ek,ed 1 (by decide) (by decide),_,rfl,aS ⟨_,rfl,e,_,_,_,_,rfl,bH,he2 _,ek,ed 2 (by decide) (by decide),_,rfl,aS ⟨_,rfl,e,_,_,_,_,rfl,bH,he2 _,ek,ed 5 (by decide) (by decide),_,rfl,aS ?_⟩⟩⟩
  refine ⟨_,rfl,e,_,_,_,_,rfl,bH,he2 _,ek,ed 6 (by decide) (by decide),_,rfl,aS ⟨_,rfl,e,_,_,_,_,rfl,bH,he2 _,ek,ed 9 (by decide) (by decide),_,rfl,aS ⟨_,rfl,e,_,_,_,_,rfl,bH,he2 _,ek,ed 8 (by decide) (by decide),_,rfl,aS ?_⟩⟩⟩
  exact ⟨_,rfl,e,_,_,_,_,rfl,bH,he2 _,ek,ed 7 (by decide) (by decide),_,rfl,aS ⟨_,rfl,e,_,_,_,_,rfl,qJ,he2 _,ek,EO.v 3 (by decide),_,rfl,aS ⟨_,rfl,q p _ (s2 _) hp ag⟩⟩⟩
theorem Ab (aL:Al P w K mg base ca er 54) (F:Fg K mg ca 54 "_law_refused" qv):D P w K mg base ca er 54:=by
 refine bV F (fun _ _ _ _ _ _=>cB fun _ _=>rfl) (F.F.ok jF (fun vs H Q E h=>?_) (fun cZ AZ oZ sZ H vs Q E hr h=>?_))
 ·obtain ⟨w,v,t,rfl,ht,q⟩:=h
  rfl
 obtain ⟨w,v,t,rfl,ht,q⟩:=h
 refine ⟨_,aj (aB (i:=2) jF.nd rfl (Hc rfl) Bj)
  (aj (u9 (i:=3) rfl rfl rfl jF.nd rfl rfl rfl (EO.m 0 (by decide)) (xx (aL.g 52) hr (fun _ _=>(aa (pv 0) (aa (pv 1) af)))) (fun _=>(ah (aB (i:=2) jF.nd rfl (Hc rfl) (pv 3)))))
  (ah (ar (aI (aL.g 53) hr (aa (pv 2) af))))),?_⟩
 rcases ht with ⟨nw,rfl⟩ | ⟨rfl,i,hi,rfl,bad⟩
 ·refine ⟨_,rfl,_,rfl,w,v,rfl,.inl ⟨nw,fun H1 s1=>⟨(EO.c 4 (by decide)),fun e he=>⟨_,rfl,?_⟩⟩⟩⟩
  refine ⟨_,rfl,e,4,_,rfl,ag,.inl ⟨rfl,rfl⟩,fun p H' sm fp hp=>?_⟩
  have s2:=ae.new s1 he (dY e (.ref (er 4)))
  exact q p H' (s2.trans sm) (s2.free fp) hp
 ·refine ⟨_,rfl,_,rfl,_,v,rfl,.inr (.inl ⟨i,hi,rfl,bad,fun H1 s1=>⟨(EO.c 3 (by decide)),fun e he=>⟨_,rfl,?_⟩⟩⟩)⟩
  refine ⟨_,rfl,e,3,_,rfl,ag,.inr ⟨rfl,rfl⟩,fun p H' sm fp hp=>?_⟩
  have s2:=ae.new s1 he (dY e (.ref (er 3)))
  exact q p H' (s2.trans sm) (s2.free fp) hp
theorem BO (aL:Al P w K mg base ca er 55) (F:Fg K mg ca 55 "_law_amiss" jv):D P w K mg base ca er 55:=by
 refine bV F (fun _ _ _ _ _ _=>cB fun _ _=>rfl) (F.F.ok sQ (fun vs H Q E h=>?_) (fun cZ AZ oZ sZ H vs Q E hr h=>?_))
 ·obtain ⟨i,d,rfl,hi,hn,q⟩:=h
  rfl
 obtain ⟨i,d,rfl,hi,hn,q⟩:=h
 have hb:=wQ
 generalize bJ jv=bZ at hb |-
 refine ⟨_,wZ ⟨sQ.nd,rfl,rfl,rfl,Hc rfl,Hc rfl,Hc rfl,Hc rfl,Ls rfl,EM hr⟩ hb,?_⟩
 have m0:=HQ d (show (6:Int)≠0 by decide)
 have m1:=HD d (show (0:Int) < 6 by decide)
 obtain ⟨t,ht⟩:∃ t,(cR i)[(d % 6).toNat]? = some t:=⟨_,Do (by rw [vm i hi hn]; lia)⟩
 exact ⟨wd i,d,_,t,rfl,by decide +kernel,by decide,wK i hi hn,ht,fun v H'=>q t v H' ht⟩
theorem yz (aL:Al P w K mg base ca er 56) (F:Fg K mg ca 56 "by_rule" qW):D P w K mg base ca er 56:=by
 refine bV F (fun _ _ _ _ _ _=>bB fun _=>rfl) (F.F.ok i8 (fun vs H Q E h=>?_) (fun cZ AZ oZ sZ H vs Q E hr h=>?_))
 ·obtain ⟨rfl,q⟩:=h
  rfl
 obtain ⟨rfl,q⟩:=h
 refine ⟨_,aj (aB (i:=1) i8.nd rfl (Hc rfl) ak)
  (aj (bR Hs rfl (cS rfl CA.cm (aa (pv 0) af)) (aA (i:=2) i8.nd rfl (Hc rfl)) (ah (aB (i:=1) i8.nd rfl (Hc rfl) (au eN (au de (pv 1) (au bt (au de ak (pv 2)) ak)) (au bt (pv 2) ak)))))
  (ah (ar (pv 1)))),?_⟩
 refine ⟨_,rfl,0,rfl,by decide,by decide,dQ (lo:=0) (n:=(0:Int).toNat) (fun i σ H'=>H'=H/\∃ o,σ=[some (.int 0),some (.int 1),o]) ⟨rfl,_,rfl⟩ (fun i σ H' hi=>absurd hi (Iy _)) ?_⟩
 rintro σ H' ⟨rfl,o,rfl⟩
 exact ⟨_,rfl,q⟩
theorem DR (aL:Al P w K mg base ca er 57) (F:br K ca 57 "unchecked_many" "SplitFamily.unchecked_many" uq):D P w K mg base ca er 57:=by
 refine bw F (fun _ _ _ _ _ _=>cB fun _ _=>rfl) (F.ok Dz (fun vs H Q E h=>?_) (fun cZ AZ oZ sZ H vs Q E hr h=>?_))
 ·obtain ⟨x,rfl,q⟩:=h
  rfl
 obtain ⟨x,rfl,q⟩:=h
 refine ⟨_,ah (ar (aI (aL.g 56) hr (aa (pv 1) af))),?_⟩
 exact ⟨_,rfl,rfl,q _ (ae.refl H)⟩
theorem Bq (aL:Al P w K mg base ca er 58) (F:Fg K mg ca 58 "ring_many" oX):D P w K mg base ca er 58:=by
 refine bV F (fun _ _ _ _ _ _=>bB fun _=>rfl) (F.F.ok jJ (fun vs H Q E h=>?_) (fun cZ AZ oZ sZ H vs Q E hr h=>?_))
 ·obtain ⟨rfl,q⟩:=h
  rfl
 obtain ⟨rfl,q⟩:=h
 refine ⟨_,aj (aB (i:=1) jJ.nd rfl (Hc rfl) ak)
  (aj (bR Hs rfl (aY (au me (aR (aa (au bt (pv 0) ak) af)) (au dc (pv 0) ak))) (aA (i:=2) jJ.nd rfl (Hc rfl)) (ah (aB (i:=1) jJ.nd rfl (Hc rfl) (au de (pv 1) (pv 2)))))
  (ah (ar (pv 1)))),?_⟩
 refine ⟨_,rfl,_,_,rfl,rfl,(by show 1<=sizeLine; decide),fun p0 hp0=>⟨_,rfl,_,_,rfl,rfl,p0,_,_,rfl,rfl,ag,by decide,by decide,GG _,fun p1 hp1=>⟨p1,rfl,⟨_,aq.of ag⟩,?_⟩⟩⟩
 have s1:=ae.new (ae.new (ae.refl H) hp0 (.lst [.int (1+1)])) hp1 (.lst [])
 refine cT (xs:=[]) (fun i σ H'=>∃ o,σ=[some (.int 1),some (.int 1),o]/\ae H H'/\H' p1=some (.lst [])) ⟨_,rfl,s1,ag⟩ (fun i σ H' _ h=>aq.of h.choose_spec.2.2) (fun i v σ H' hv=>by cases hv) ?_
 rintro σ H' ⟨o,rfl,s,_⟩
 exact ⟨_,rfl,q H' s⟩
theorem DA (aL:Al P w K mg base ca er 59) (F:br K ca 59 "unchecked_many" "RingFamily.unchecked_many" vL):D P w K mg base ca er 59:=by
 refine bw F (fun _ _ _ _ _ _=>cB fun _ _=>rfl) (F.ok Em (fun vs H Q E h=>?_) (fun cZ AZ oZ sZ H vs Q E hr h=>?_))
 ·obtain ⟨x,rfl,q⟩:=h
  rfl
 obtain ⟨x,rfl,q⟩:=h
 refine ⟨_,ah (ar (aI (aL.g 58) hr (aa (pv 1) af))),?_⟩
 exact ⟨_,rfl,rfl,fun H1 s1=>q H1 s1⟩
theorem Ae (aL:Al P w K mg base ca er 61) (F:br K ca 61 "many" "Family.many" qt):D P w K mg base ca er 61:=by
 refine bw F (fun _ _ _ _ _ _=>cB fun _ _=>rfl) (F.ok Ap (fun vs H Q E h=>?_) (fun cZ AZ oZ sZ H vs Q E hr h=>?_))
 ·obtain ⟨fw,hf,x,dx,fs,w,rfl,hx,fl,q⟩:=h
  rfl
 obtain ⟨fw,hf,x,dx,fs,w,rfl,hx,fl,q⟩:=h
 refine ⟨_,aj (aO (PW.pt (cJ (aC dh (pv 1) (lP (pv 0) rfl) (aE _)) (cn (aC lC (pv 1) (aU (v:=.int 40) rfl CA.eZ.1 CA.eZ.2) (aE _))))) (ah l8) aG)
  (ah (ar (lN (M:=10) (pv 0) CA.c4 CA.mtW_unchecked_many (aL.g 60) hr (aa (pv 1) af)))),?_⟩
 have b:=xm fw
 refine ⟨_,rfl,_,rfl,x,_,dx,fs,_,rfl,hx,(CA.c4 fw hf),(CA.na4_least fw hf),fl.least,_,_,rfl,rfl,_,rfl,b6 (by lia) ⟨_,rfl,_,_,rfl,rfl,_,rfl,b6 (by lia) ?_⟩⟩
 exact ⟨fw,hf,_,rfl,x,dx,fs,rfl,hx,fl.no "unchecked_many" (by decide) (by decide),_,rfl,x,rfl,q⟩
theorem yW (aL:Al P w K mg base ca er 62) (F:br K ca 62 "bare" "Brackets.bare" pB):D P w K mg base ca er 62:=by
 refine bw F (fun _ _ _ _ _ _=>bB fun _=>rfl) (F.ok Cw (fun vs H Q E h=>?_) (fun cZ AZ oZ sZ H vs Q E hr h=>?_))
 ·obtain ⟨x,rfl,q⟩:=h
  rfl
 obtain ⟨x,rfl,q⟩:=h
 refine ⟨_,ah (ar aw),?_⟩
 exact q _ _ (ae.refl H) (by show Rp H H (.str "") (.str ""); unfold Rp; rfl)
theorem yL (aL:Al P w K mg base ca er 63) (F:br K ca 63 "bare" "Stairs.bare" qM):D P w K mg base ca er 63:=by
 refine bw F (fun _ _ _ _ _ _=>bB fun _=>rfl) (F.ok Co (fun vs H Q E h=>?_) (fun cZ AZ oZ sZ H vs Q E hr h=>?_))
 ·obtain ⟨x,rfl,q⟩:=h
  rfl
 obtain ⟨x,rfl,q⟩:=h
 refine ⟨_,ah (ar (aR af)),?_⟩
 exact ⟨GG _,fun p hp=>q _ _ (ae.new (ae.refl H) hp _) (by show Rp H _ (.lst []) _; unfold Rp aJ; exact ⟨p,[],rfl,hp,ag,rfl⟩)⟩
theorem yH (aL:Al P w K mg base ca er 64) (F:br K ca 64 "bare" "Twins.bare" qp):D P w K mg base ca er 64:=by
 refine bw F (fun _ _ _ _ _ _=>bB fun _=>rfl) (F.ok Bs (fun vs H Q E h=>?_) (fun cZ AZ oZ sZ H vs Q E hr h=>?_))
 ·obtain ⟨x,rfl,q⟩:=h
  rfl
 obtain ⟨x,rfl,q⟩:=h
 refine ⟨_,ah (ar (cL af)),?_⟩
 exact ⟨GG _,fun p hp=>q _ _ (ae.new (ae.refl H) hp _) (by show Rp H _ (.tup []) _; unfold Rp aJ; exact ⟨p,[],rfl,hp,ag,rfl⟩)⟩
theorem A9 (aL:Al P w K mg base ca er 65) (F:br K ca 65 "bare" "Bows.bare" qP):D P w K mg base ca er 65:=by
 refine bw F (fun _ _ _ _ _ _=>bB fun _=>rfl) (F.ok Dq (fun vs H Q E h=>?_) (fun cZ AZ oZ sZ H vs Q E hr h=>?_))
 ·obtain ⟨x,rfl,q⟩:=h
  rfl
 obtain ⟨x,rfl,q⟩:=h
 refine ⟨_,ah (ar (aR af)),?_⟩
 exact ⟨GG _,fun p hp=>q _ _ (ae.new (ae.refl H) hp _) (by show Rp H _ (.lst []) _; unfold Rp aJ; exact ⟨p,[],rfl,hp,ag,rfl⟩)⟩
theorem BC (aL:Al P w K mg base ca er 66) (F:br K ca 66 "bare" "Rooms.bare" qq):D P w K mg base ca er 66:=by
 refine bw F (fun _ _ _ _ _ _=>bB fun _=>rfl) (F.ok zB (fun vs H Q E h=>?_) (fun cZ AZ oZ sZ H vs Q E hr h=>?_))
 ·obtain ⟨x,rfl,q⟩:=h
  rfl
 obtain ⟨x,rfl,q⟩:=h
 refine ⟨_,ah (ar (aR af)),?_⟩
 exact ⟨GG _,fun p hp=>q _ _ (ae.new (ae.refl H) hp _) (by show Rp H _ (.lst []) _; unfold Rp aJ; exact ⟨p,[],rfl,hp,ag,rfl⟩)⟩
theorem Dc (aL:Al P w K mg base ca er 67) (F:br K ca 67 "bare" "Floors.bare" pH):D P w K mg base ca er 67:=by
 refine bw F (fun _ _ _ _ _ _=>bB fun _=>rfl) (F.ok zi (fun vs H Q E h=>?_) (fun cZ AZ oZ sZ H vs Q E hr h=>?_))
 ·obtain ⟨x,rfl,q⟩:=h
  rfl
 obtain ⟨x,rfl,q⟩:=h
 refine ⟨_,ah (ar (cL (aa ak (aa (aR af) af)))),?_⟩
 refine ⟨GG _,fun p hp=>⟨(by show 2<=sizeLine; decide),fun t ht=>?_⟩⟩
 have s1:=ae.new (ae.refl H) hp (.lst [])
 have s2:=ae.new (ae.refl _) ht (.tup [.int 2,.ref p])
 refine q _ _ (s1.trans s2) ?_
 show Rp H _ (.tup [.int 2,.lst []]) _
 unfold Rp
 refine ⟨t,_,rfl,s1.free ht,ag,?_⟩
 unfold aJ
 refine ⟨_,_,rfl,by unfold Rp; rfl,?_⟩
 unfold aJ
 refine ⟨_,_,rfl,?_,by unfold aJ; rfl⟩
 unfold Rp aJ
 exact ⟨p,[],rfl,hp,s2 _ _ ag,rfl⟩
theorem BW (aL:Al P w K mg base ca er 68) (F:br K ca 68 "bare" "Turns.bare" pJ):D P w K mg base ca er 68:=by
 refine bw F (fun _ _ _ _ _ _=>bB fun _=>rfl) (F.ok AG (fun vs H Q E h=>?_) (fun cZ AZ oZ sZ H vs Q E hr h=>?_))
 ·obtain ⟨x,rfl,q⟩:=h
  rfl
 obtain ⟨x,rfl,q⟩:=h
 refine ⟨_,ah (ar (aR af)),?_⟩
 exact ⟨GG _,fun p hp=>q _ _ (ae.new (ae.refl H) hp _) (by show Rp H _ (.lst []) _; unfold Rp aJ; exact ⟨p,[],rfl,hp,ag,rfl⟩)⟩
theorem En (aL:Al P w K mg base ca er 70) (F:br K ca 70 "thing_by_parts" "SplitFamily.thing_by_parts" vD):D P w K mg base ca er 70:=by
 refine bw F (fun _ _ _ _ _ _=>Gn fun _ _ _ _=>rfl) (F.ok Ee (fun vs H Q E h=>?_) (fun cZ AZ oZ sZ H vs Q E hr h=>?_))
 ·obtain ⟨fw,hf,x,dx,fs,w,c,rfl,hx,fl,q⟩:=h
  rfl
 obtain ⟨fw,hf,x,dx,fs,w,c,rfl,hx,fl,q⟩:=h
 refine ⟨_,aj (aO (aC cY (pv 2) ak (aE _)) (ah (ar (FA (M:=7) (pv 0) (fun i hi=>CA.c4 i (by lia)) CA.mtV_bare (aL.g 69) hr))) aG)
  eW,?_⟩
 exact ⟨_,rfl,rfl,_,rfl,cw rfl ⟨fw,hf,_,rfl,x,dx,fs,rfl,hx,fl.no "bare" (by decide) (by decide),x,rfl,fun v H1 s1 r=>q v H1 s1 r⟩⟩
theorem yu (aL:Al P w K mg base ca er 71) (F:Fg K mg ca 71 "shares" pU):D P w K mg base ca er 71:=by
 refine bV F (fun _ _ _ _ _ _=>bB fun _=>rfl) (F.F.ok mS (fun vs H Q E h=>?_) (fun cZ AZ oZ sZ H vs Q E hr h=>?_))
 ·obtain ⟨rfl,q⟩:=h
  rfl
 obtain ⟨rfl,q⟩:=h
 refine ⟨_,aj (aB (i:=1) mS.nd rfl (Ls rfl) (aR (aa ak af)))
  (aj (bR Hs rfl (cS rfl CA.cm (aa (pv 0) af)) (aA (i:=2) mS.nd rfl (Ls rfl)) (ah (aP (cG Hf Hn Ho bM (pv 1) (aa (ay (u4 rfl) rfl CA.DB BZ (aa (bI rfl (cS rfl CA.cm (aa (au bt (pv 2) ak) af)) rfl rfl rfl rfl (N:=["j","found","k"]) (.own (.cap (j:=1) rfl rfl rfl (.cap (j:=2) rfl rfl rfl .nil))) (fun _ _ _ _ _ _=>(aA (i:=0) (by show HJ (["j","found","k"]:List Str); decide +kernel) rfl (Hc rfl))) (fun _ _ _ _ _ _=>bx) (fun _ _ _ _ _ _=>(au de (a8 (iS (K:=K) rfl) (pv 1) (pv 0) (fun _ _=>rfl)) (a8 (iS (K:=K) rfl) (pv 1) (au dc (pv 2) (pv 0)) (fun _ _=>rfl))))) af)) af)))))
  (ah (ar (pv 1)))),?_⟩
 refine ⟨(by show 1<=sizeLine; decide),fun p hp=>⟨_,rfl,0,rfl,by decide,by decide,dQ (lo:=0) (n:=(0:Int).toNat) (fun i σ H'=>∃ o,σ=[some (.int 0),some (.ref p),o]/\ae H H') ⟨_,rfl,ae.new (ae.refl H) hp _⟩ (fun i σ H' hi=>absurd hi (Iy _)) ?_⟩⟩
 rintro σ H' ⟨o,rfl,s⟩
 exact ⟨_,rfl,q p H' s⟩
theorem DE (aL:Al P w K mg base ca er 72) (F:br K ca 72 "unchecked_thing" "SplitFamily.unchecked_thing" uR):D P w K mg base ca er 72:=by
 refine bw F (fun _ _ _ _ _ _=>jt fun _ _ _=>rfl) (F.ok Ed (fun vs H Q E h=>?_) (fun cZ AZ oZ sZ H vs Q E hr h=>?_))
 ·obtain ⟨fw,hf,x,dx,fs,w,rfl,hx,fl,q⟩:=h
  rfl
 obtain ⟨fw,hf,x,dx,fs,w,rfl,hx,fl,q⟩:=h
 refine ⟨_,ah (ar (lN (M:=7) (pv 0) (fun i hi=>CA.c4 i (by lia)) CA.mtV_thing_by_parts (fun _ _=>(aL.g 70)) hr (aa (aI (aL.g 71) hr (aa (pv 1) af)) (aa (pv 1) (aa (pv 2) af))))),?_⟩
 refine ⟨fw,hf,_,rfl,x,dx,fs,rfl,hx,fl.no "thing_by_parts" (by decide) (by decide),_,rfl,rfl,fun pc H1 s1=>?_⟩
 exact ⟨_,rfl,_,rfl,fw,hf,x,dx,fs,w,.ref pc,rfl,s1 _ _ hx,fl,fun v H' s r=>q v H' (s1.trans s) (r.since s1)⟩
theorem yG (aL:Al P w K mg base ca er 73) (F:br K ca 73 "of_code" "Codes.of_code" oV):D P w K mg base ca er 73:=by
 refine bw F (fun _ _ _ _ _ _=>cB fun _ _=>rfl) (F.ok BP (fun vs H Q E h=>?_) (fun cZ AZ oZ sZ H vs Q E hr h=>?_))
 ·obtain ⟨x,dx,fs,w,l,rfl,hx,fl,hl,q⟩:=h
  rfl
 obtain ⟨x,dx,fs,w,l,rfl,hx,fl,hl,q⟩:=h
 refine ⟨_,ah (ar (eY mV rfl CA.gC fu (aa (pv 1) af))),?_⟩
 exact ⟨_,rfl,l,_,rfl,.inl (aq.of hl),fun p hp=>q _ _ (ae.new (ae.refl H) hp _) (jW (ns:=[]) hp ag)⟩
theorem AM (aL:Al P w K mg base ca er 74) (F:br K ca 74 "of_code" "Trees.of_code" pR):D P w K mg base ca er 74:=by
 refine bw F (fun _ _ _ _ _ _=>cB fun _ _=>rfl) (F.ok eP (fun vs H Q E h=>?_) (fun cZ AZ oZ sZ H vs Q E hr h=>?_))
 ·obtain ⟨x,dx,fs,w,l,rfl,hx,fl,hl,q⟩:=h
  rfl
 obtain ⟨x,dx,fs,w,l,rfl,hx,fl,hl,q⟩:=h
 refine ⟨_,aj (aB (i:=2) eP.nd rfl (Ls rfl) (au jd (pv 1) (aR (aa ak af))))
  (aj (aB (i:=3) eP.nd rfl (Hc rfl) (BF rfl rfl CA.gC rfl CA.cm (aa ak (aa (au bt (ay ba rfl CA.cV cu (aa (pv 2) af)) ak) af))))
  (aj (aB (i:=4) eP.nd rfl (Hc rfl) (au me (aR (aa ak af)) (ay ba rfl CA.cV cu (aa (pv 2) af))))
  (aj (bR Hs rfl (kd rfl CA.fk (aa (pv 2) af)) (g4 rfl (aX (aA (i:=5) eP.nd rfl (Ls rfl)) (aX (aA (i:=6) eP.nd rfl (Hc rfl)) cU))) (aj (aB (i:=7) eP.nd rfl (Hc rfl) (ay (kY rfl) rfl CA.wH t9 (aa (bI rfl (aY (pv 3)) rfl rfl rfl rfl (N:=["knot","written","place"]) (.own (.cap (j:=2) rfl rfl rfl (.cap (j:=5) rfl rfl rfl .nil))) (fun _ _ _ _ _ _=>(aA (i:=0) (by show HJ (["knot","written","place"]:List Str); decide +kernel) rfl (Hc rfl))) (fun _ _ _ _ _ _=>(xc (aC (ua (K:=K) rfl) (pv 0) (cH (l3 (K:=K) rfl) (pv 1) (cW (pv 2)) cX) (by rfl)))) (fun _ _ _ _ _ _=>(pv 0))) af)))
  (aj (mh (pv 6) (mq (pv 4) (au dc (pv 7) ak) set_list))
  (ah (aP (cG Hf PySem.F.slot_list_remove PySem.F.type_list_remove tT (pv 3) (aa (pv 7) af)))))))
  (ah (ar (pv 4)))))),?_⟩
 refine ⟨_,rfl,(by show 1<=sizeLine; decide),fun p0 hp0=>?_⟩
 have s1:=ae.new (ae.refl H) hp0 (.lst [.int 0])
 refine ⟨l,p0,_,_,rfl,rfl,s1 _ _ hl,ag,(by show 1<=sizeLine; decide),fun pw hpw=>?_⟩
 have s2:=ae.new s1 hpw (.lst [.int 0])
 have hw2:upd (upd H p0 (.lst [.int 0])) pw (.lst [.int 0]) pw=some (.lst [.int 0]):=ag
 show _
 refine ⟨_,rfl,pw,_,rfl,.inl (aq.of hw2),_,_,rfl,rfl,_,_,rfl,⟨by decide,by decide,by decide,by decide⟩,by decide,fun pt hpt=>?_⟩
 have k3:=ae.new (ae.refl _) hpt (.lst [.int 1])
 have ht3:=ag (H:=upd (upd H p0 (.lst [.int 0])) pw (.lst [.int 0])) (a:=pt) (o:=.lst [.int 1])
 have hw3:=k3 _ _ hw2
 have s3:=s2.trans k3
 have fpt:H pt=none:=s2.free hpt
 have nwt:pw≠pt:=az hw2 hpt
 show _
 refine ⟨(by show 1<=sizeLine; decide),fun q0 hq0=>?_⟩
 have k4:=ae.new (ae.refl _) hq0 (.lst [.int 0])
 refine ⟨_,rfl,pw,_,rfl,.inl (aq.of (k4 _ _ hw3)),q0,_,_,rfl,rfl,ag,by decide,by decide,(by show 1<=sizeLine; decide),fun pe hpe=>?_⟩
 have k5:=k4.trans (ae.new (ae.refl _) hpe (.lst [.int 0]))
 have s5:=s3.trans k5
 have fpe:H pe=none:=(s3.trans k4).free hpe
 have nwe:pw≠pe:=az (k4 _ _ hw3) hpe
 have nte:pt≠pe:=az (k4 _ _ ht3) hpe
 refine ⟨_,rfl,pw,rfl,⟨_,aq.of (k5 _ _ hw3)⟩,mB (xs:=[.int 0]) (fun i σ H'=>∃ (o1 o2 o3:Option V),σ=[some (.ref x),some (.ref l),some (.ref pw),some (.ref pt),some (.ref pe),o1,o2,o3]/\ae H H'/\H' pw=some (.lst [.int 0])/\(i=0->H' pt=some (.lst ([1].map V.int)))/\H' pe=some (.lst ([0].map V.int)))
  ⟨_,_,_,rfl,s5,k5 _ _ hw3,fun _=>k5 _ _ ht3,ag⟩ (fun i σ H' _ h=>by obtain ⟨_,_,_,_,_,hw,_⟩:=h; exact aq.of hw) ?_ ?_⟩
 ·rintro i v σ H6 U hv ⟨o1,o2,o3,rfl,sm,hw6,ht6,he6⟩ hU
  match i,hv,ht6 with
  | 0,hv,ht6 =>
   cases hv
   have ht6:=ht6 rfl
   have k7:=ae.new (ae.refl H6) hU (.tup [.int ((0:Nat):Int),.int 0])
   refine ⟨U,_,rfl,bQ.of ag,rfl,_,_,rfl,_,_,rfl,rfl,?_⟩
   have hw7:=k7 _ _ hw6
   have ht7:=k7 _ _ ht6
   have he7:=k7 _ _ he6
   have s7:=sm.trans k7
   generalize upd H6 U (.tup [.int ((0:Nat):Int),.int 0])=H7 at hw7 ht7 he7 s7 |-
   refine ⟨_,rfl,pt,rfl,⟨_,aq.of ht7⟩,fun D hD=>cD (xs:=[.int 1]) (fun j ys H'=>ae H7 H'/\H' D=some (.lst ys)/\ys=[V.int 1].take j) (sz (n:=1) (by decide)) ⟨ae.new (ae.refl H7) hD _,ag,rfl⟩ (fun j ys H' hj h=>⟨aq.of (h.1 _ _ ht7),by rw [h.2.2,Hw]; exact Nat.min_le_left _ _⟩) (fun j u ys H' R R0 hu h r r0=>?_) (fun ys H' h=>?_)⟩
   ·obtain ⟨sj,hy,ey⟩:=h
    match j,hu,ey with
    | 0,hu,ey =>
     cases hu
     refine ⟨Ext.set rfl,_,rfl,_,rfl,_,rfl,_,rfl,pw,_,rfl,aq.of (sj _ _ hw7),fun c2 hc2=>?_⟩
     have hy2:=(av (o:=.lst [.int 0]) (az hy hc2)).trans hy
     have sj2:=ae.new sj hc2 (.lst [.int 0])
     exact ⟨1,c2,[0],rfl,rfl,aq.of ag,_,rfl,g6 (by decide) ⟨_,rfl,r _ _ hy2 ⟨sj2.upd hD _,ag,by rw [ey]; rfl⟩⟩⟩
    | j+1,hu,_=>cases hu
   ·obtain ⟨s8,hy,ey⟩:=h
    have hy:H' D=some (.lst ([1].map V.int)):=by rw [hy,ey]; rfl
    refine ⟨D,[1],rfl,aq.of hy,by decide,fun t ht _=>?_⟩
    have et:t=1:=by simpa using ht
    subst et
    have he8:=s8 _ _ he7
    have ht8:=s8 _ _ ht7
    refine ⟨_,rfl,_,rfl,_,rfl,_,_,rfl,rfl,pe,_,_,_,rfl,rfl,he8,rfl,?_⟩
    have ht9:=(av (o:=.lst [.int 0]) nte).trans ht8
    have s9:=s7.trans s8
    refine ⟨_,rfl,.inl ⟨rfl,_,aq.of ht9⟩,_,rfl,pt,[1],1,rfl,rfl,ht9,by decide,?_⟩
    exact ⟨_,_,_,rfl,(s9.upd fpe _).upd fpt _,(av nwt).trans ((av nwe).trans (s8 _ _ hw7)),nofun,(av (Ip nte)).trans ag⟩
  | i+1,hv,_=>cases hv
 ·rintro σ H6 ⟨o1,o2,o3,rfl,sm,_,_,he6⟩
  exact ⟨_,rfl,q _ _ sm (jW (ns:=[0]) fpe he6)⟩
theorem zy (aL:Al P w K mg base ca er 75) (F:br K ca 75 "of_code" "Cars.of_code" pI):D P w K mg base ca er 75:=by
 refine bw F (fun _ _ _ _ _ _=>cB fun _ _=>rfl) (F.ok gO (fun vs H Q E h=>?_) (fun cZ AZ oZ sZ H vs Q E hr h=>?_))
 ·obtain ⟨x,dx,fs,w,l,rfl,hx,fl,hl,q⟩:=h
  rfl
 obtain ⟨x,dx,fs,w,l,rfl,hx,fl,hl,q⟩:=h
 refine ⟨_,aj (aB (i:=2) gO.nd rfl (Ls rfl) (au bt (ay ba rfl CA.cV cu (aa (pv 1) af)) ak))
  (aj (aB (i:=3) gO.nd rfl (Hc rfl) (aR (aa ak af)))
  (aj (bR Hs rfl (aY (pv 1)) (aA (i:=4) gO.nd rfl (Hc rfl)) (ah (aP (cG Hf Hn Ho bM (pv 3) (aa (au bg (au bt (a8 aZ (pv 3) (qm lS ak) (fun _ _=>rfl)) (pv 4)) (pv 2)) af)))))
  (aj (ml Hs (fP (bS (wx (pv 0) (CA.c4 9 (by decide)) (CA.mtW_is_one 9 (by decide)) (aL.g 38) hr (aa (pv 3) af)))) (ah (ju (i:=3) gO.nd rfl (Hc rfl) rfl rfl (aY (pv 3)) rfl rfl rfl rfl (N:=["wish","ring"]) (.own (.cap (j:=2) rfl rfl rfl .nil)) (fun _ _ _ _ _ _=>(aA (i:=0) (by show HJ (["wish","ring"]:List Str); decide +kernel) rfl (Hc rfl))) (fun _ _ _ _ _ _=>bx) (fun _ _ _ _ _ _=>(au bg (au bt (pv 0) ak) (pv 1))))))
  (ah (ar (pv 3)))))),?_⟩
 refine ⟨_,rfl,l,_,rfl,.inl (aq.of hl),_,_,rfl,rfl,(by show 1<=sizeLine; decide),fun pw hpw=>?_⟩
 have s1:=ae.new (ae.refl H) hpw (.lst [.int 0])
 refine ⟨_,rfl,l,rfl,⟨_,aq.of (s1 _ _ hl)⟩,cT (xs:=[]) (fun i σ H'=>∃ (o1:Option V) (r:Int),σ=[some (.ref x),some (.ref l),some (.int r),some (.ref pw),o1]/\ae H H'/\H' pw=some (.lst ([0].map V.int))) ⟨_,_,rfl,s1,ag⟩ (fun i σ H' _ h=>by obtain ⟨_,_,_,sm,_⟩:=h; exact aq.of (sm _ _ hl)) (fun i v σ H' hv=>by cases hv) ?_⟩
 rintro σ H2 ⟨o1,r,rfl,sm,hw⟩
 refine ⟨fun m σ H'=>σ=[some (.ref x),some (.ref l),some (.int r),some (.ref pw),o1]/\ae H H'/\H' pw=some (.lst ([0].map V.int)),⟨0,rfl,sm,hw⟩,?_⟩
 rintro m σ H3 ⟨rfl,s3,h3⟩
 exact ⟨_,rfl,x,dx,fs,rfl,s3 _ _ hx,fl.no "is_one" (by decide) (by decide),_,rfl,x,.ref pw,true,rfl,⟨pw,[0],rfl,h3,by decide,by decide⟩,fun H4 s4=>⟨_,rfl,aS ⟨_,rfl,q _ _ (s3.trans s4) (jW (ns:=[0]) hpw (s4 _ _ h3))⟩⟩⟩
theorem Cd (aL:Al P w K mg base ca er 77) (F:Fg K mg ca 77 "number_figures" rb):D P w K mg base ca er 77:=by
 refine bV F (fun _ _ _ _ _ _=>jt fun _ _ _=>rfl) (F.F.ok gS (fun vs H Q E h=>?_) (fun cZ AZ oZ sZ H vs Q E hr h=>?_))
 ·obtain ⟨rfl,q⟩:=h
  rfl
 obtain ⟨rfl,q⟩:=h
 refine ⟨_,aj (aB (i:=3) gS.nd rfl (Hc rfl) (au me (aR (aa ak af)) (pv 2)))
  (aj (aB (i:=4) gS.nd rfl (Hc rfl) (pv 0))
  (aj (bR Hs rfl (xX rfl CA.cm (aa (au dc (pv 2) ak) (aa (qm lS ak) (aa (qm lS ak) af)))) (aA (i:=5) gS.nd rfl (Hc rfl)) (aj (mh (au bg (pv 4) (pv 1)) (mq (pv 3) (pv 5) set_list))
  (ah (aB (i:=4) gS.nd rfl (Hc rfl) (au eN (pv 4) (pv 1))))))
  (ah (ar (pv 3))))),?_⟩
 refine ⟨(by show 1<=sizeLine; decide),fun p0 hp0=>⟨_,rfl,p0,_,_,rfl,rfl,ag,by decide,by decide,GG _,fun p1 hp1=>?_⟩⟩
 have s1:=ae.new (ae.new (ae.refl H) hp0 (.lst [.int 0])) hp1 (.lst [])
 refine ⟨_,rfl,_,rfl,_,_,rfl,rfl,_,rfl,_,rfl,_,_,rfl,⟨by decide,by decide,by decide,by decide⟩,uY (lo:=0 - 1) (n:=(0 - 1 - (-1:Int)).toNat) (fun i σ H'=>∃ (o:Option V),σ=[some (.int 0),some (.int 2),some (.int 0),some (.ref p1),some (.int 0),o]/\ae H H'/\H' p1=some (.lst [])) ⟨_,rfl,s1,ag⟩ (fun i σ H' hi=>absurd hi (Iy _)) ?_⟩
 rintro σ H' ⟨o,rfl,s,h⟩
 exact ⟨_,rfl,q p1 H' s h⟩
theorem Ei (aL:Al P w K mg base ca er 78) (F:br K ca 78 "unchecked_thing" "RingFamily.unchecked_thing" vI):D P w K mg base ca er 78:=by
 refine bw F (fun _ _ _ _ _ _=>jt fun _ _ _=>rfl) (F.ok DO (fun vs H Q E h=>?_) (fun cZ AZ oZ sZ H vs Q E hr h=>?_))
 ·obtain ⟨fw,hf,x,dx,fs,w,rfl,hx,fl,q⟩:=h
  rfl
 obtain ⟨fw,hf,x,dx,fs,w,rfl,hx,fl,q⟩:=h
 refine ⟨_,ah (ar (lN (M:=3) (pv 0) (fun i hi=>CA.c4 (i+7) (by lia)) CA.mtR_of_code (aL.g 76) hr (aa (aI (aL.g 77) hr (aa (pv 2) (aa (au bt (pv 1) ak) (aa (au dc (pv 1) ak) af)))) af))),?_⟩
 refine ⟨fw,hf,_,rfl,x,dx,fs,rfl,hx,fl.no "of_code" (by decide) (by decide),_,rfl,_,rfl,_,_,rfl,rfl,_,rfl,_,_,rfl,rfl,rfl,fun p H1 s1 h1=>?_⟩
 exact ⟨x,dx,fs,w,p,rfl,s1 _ _ hx,fl,h1,fun v H2 s2 r=>q v H2 (s1.trans s2) (r.since s1)⟩
theorem CQ (aL:Al P w K mg base ca er 80) (F:br K ca 80 "thing_of" "Family.thing_of" qC):D P w K mg base ca er 80:=by
 refine bw F (fun _ _ _ _ _ _=>jt fun _ _ _=>rfl) (F.ok tN (fun vs H Q E h=>?_) (fun cZ AZ oZ sZ H vs Q E hr h=>?_))
 ·obtain ⟨fw,hf,x,dx,fs,w,rfl,hx,fl,q⟩:=h
  rfl
 obtain ⟨fw,hf,x,dx,fs,w,rfl,hx,fl,q⟩:=h
 refine ⟨_,aj (aB (i:=3) tN.nd rfl (Hc rfl) (lN (M:=10) (pv 0) CA.c4 CA.mtW_many (fun _ _=>(aL.g 61)) hr (aa (pv 1) af)))
  (aj (aO (PW.pt (cJ (aC dh (pv 2) ak (aE _)) (cn (aC v3 (pv 2) (pv 3) (aE _))))) (ah l8) aG)
  (ah (ar (lN (M:=10) (pv 0) CA.c4 CA.mtW_unchecked_thing (aL.g 79) hr (aa (pv 1) (aa (pv 2) af)))))),?_⟩
 refine ⟨fw,hf,_,rfl,x,dx,fs,rfl,hx,fl.no "many" (by decide) (by decide),_,rfl,fw,hf,x,dx,fs,w,rfl,hx,fl,fun H1 s1=>?_⟩
 refine ⟨_,rfl,_,_,rfl,rfl,_,rfl,b6 (by decide) ⟨_,rfl,_,rfl,_,_,rfl,rfl,_,rfl,b6 (by decide) ?_⟩⟩
 exact ⟨fw,hf,_,rfl,x,dx,fs,rfl,s1 _ _ hx,fl.no "unchecked_thing" (by decide) (by decide),_,rfl,_,rfl,x,dx,fs,w,rfl,s1 _ _ hx,fl,fun v H2 s2 r=>q v H2 (s1.trans s2) (r.since s1)⟩
theorem B1 (aL:Al P w K mg base ca er 81) (F:br K ca 81 "law" "law" g8):bj P w K mg base jK 11 (ca.f 81) (ca.fd 81) ["_law_script"] (AB K ca):=by
 refine F.ok fB (fun vs H Q E h=>?_) (fun cZ AZ oZ sZ H vs Q E hr h=>?_)
 ·obtain ⟨a,ns,rfl,hS,h63,q⟩:=h
  rfl
 obtain ⟨a,ns,rfl,hS,h63,q⟩:=h
 refine ⟨_,aj (aB (i:=1) fB.nd rfl (Hc rfl) (a8 aZ (gK (aL.g 0) hr) (au bg (aI (aL.g 1) hr (aa (pv 0) (aa ak af))) ak) (fun _ _=>rfl)))
  (aj (aB (i:=2) fB.nd rfl (Hc rfl) (aI (aL.g 4) hr (aa (pv 0) (aa ak (aa (pv 1) af)))))
  (j5 (aO (PW.pt (mW (aC kM (pv 2) (gK (aL.g 0) hr) (by rfl)) (jP (aC (gp (ou hr)) (aI (aL.g 54) hr (aa (pv 2) (aa (aR af) af))) (aR (aa aw af)) (aE _))))) (ah (ar cc)) aG)
  (j5 (aO (aC lE (pv 1) aw (aE _)) (aj (aB (i:=3) fB.nd rfl (Hc rfl) (aI (aL.g 55) hr (aa (pv 1) (aa (aI (aL.g 1) hr (aa (pv 0) (aa ak af))) af))))
  (j5 (aO (PW.pt (mW (aC kM (pv 2) (gK (aL.g 0) hr) (by rfl)) (jP (aC (gp (ou hr)) (aI (aL.g 54) hr (aa (pv 2) (aa (pv 3) af))) (aR (aa aw af)) (aE _))))) (ah (ar cc)) aG)
  (ah (aO (PW.pt (cJ (aC (gp (ou hr)) (aI (aL.g 54) hr (aa (pv 1) (aa (pv 3) af))) (aR (aa aw af)) (aE _)) (cn (aC (lE.or (i7 (eC hr))) (pv 3) (aI (aL.g 55) hr (aa (pv 1) (aa (aI (aL.g 1) hr (aa (pv 0) (aa ak af))) af))) (aE _))))) (ah (ar cc)) aG)))) aG)
  (aj (aB (i:=4) fB.nd rfl (Hc rfl) (aI (aL.g 20) hr (aa (pv 1) af)))
  (aj (aB (i:=5) fB.nd rfl (Hc rfl) (aI (aL.g 52) hr (aa (pv 1) (aa (lN (M:=10) (pv 4) CA.c4 CA.mtW_thing_of (fun _ _=>(aL.g 80)) hr (aa (lP (pv 4) rfl) (aa ak af))) af))))
  (ah (ar (fJ (ay nt rfl CA.bb aV (aa (pv 5) (aa (n9 (v:=.ty "str") rfl CA.rg lW rfl) af))) (gQ (cG Js PySem.F.slot_str_startswith PySem.F.type_str_startswith sR (pv 5) (aa (au bq (pv 1) aw) af))))))))))),?_⟩
 obtain ⟨i,hi,ei⟩:=w8 (ns.getD (0:Int).toNat 0)
 refine ⟨rfl,fun p1 H1 s1 f1 h1=>⟨_,rfl,a,ns,0,rfl,s1.seq hS,by decide,_,_,rfl,rfl,pm (by decide),p1,_,_,_,rfl,rfl,aq.of h1,ei,?_⟩⟩
 have hS1:=s1.seq hS
 clear s1 hS h1 f1
 refine ⟨_,rfl,_,rfl,a,ns,2,wd i,rfl,hS1,h63,by decide,by decide,mK i hi,fun y H2 s2=>?_⟩
 have hS2:=s2.seq hS1
 clear s2 hS1
 refine ⟨fun σ H'=>∃ o4 o5 o6,σ=[some (.ref a),some (.str (wd i)),some (.str y),o4,o5,o6]/\aq K H' a (ns.map V.int),?_,?_⟩
 ·refine ⟨_,rfl,rfl,fun p3 H3 s3 f3 h3=>⟨y,p3,gq,rfl,rfl,aq.of h3,_,rfl,?_⟩⟩
  have hS3:=s3.seq hS2
  by_cases hw:y∈gq
  ·exact jr hw ⟨_,_,_,rfl,hS3⟩
  ·exact g6 hw ⟨_,rfl,GG _,fun pe hpe=>⟨y,.ref pe,_,rfl,.inl ⟨hw,rfl⟩,fun p4 H4 s4 f4 h4=>kc h4 fun H5 s5=>⟨_,rfl,aS ⟨_,_,_,rfl,(s4.trans s5).seq ((ae.new (ae.refl _) hpe _).seq hS3)⟩⟩⟩⟩
 rintro σ H4 ⟨o4,o5,o6,rfl,hS4⟩
 clear hS2
 refine ⟨fun σ H'=>∃ o4 o5 o6,σ=[some (.ref a),some (.str (wd i)),some (.str y),o4,o5,o6]/\aq K H' a (ns.map V.int),?_,?_⟩
 ·refine ⟨_,rfl,rfl,_,rfl,?_⟩
  by_cases h2:i=2
  ·exact jr (by rw [h2]; rfl) ⟨_,_,_,rfl,hS4⟩
  refine g6 (yF hi h2) ⟨_,rfl,_,rfl,a,ns,1,rfl,hS4,by decide,i,_,rfl,hi,h2,fun t v H5 ht s5 r5=>?_⟩
  refine ⟨fun σ H'=>∃ o5 o6,σ=[some (.ref a),some (.str (wd i)),some (.str y),some v,o5,o6]/\ae H5 H',?_,?_⟩
  ·refine ⟨_,rfl,rfl,fun p3 H3 s3 f3 h3=>⟨y,p3,gq,rfl,rfl,aq.of h3,_,rfl,?_⟩⟩
   by_cases hw:y∈gq
   ·exact jr hw ⟨_,_,rfl,s3⟩
   ·exact g6 hw ⟨_,rfl,_,rfl,y,v,_,rfl,.inl ⟨hw,rfl⟩,fun p4 H4 s4 f4 h4=>kc h4 fun H6 s6=>⟨_,rfl,aS ⟨_,_,rfl,s3.trans (s4.trans s6)⟩⟩⟩
  ·rintro σ H6 ⟨o5,o6,rfl,s6⟩
   have rv:=r5.any.same s6
   refine ⟨_,rfl,_,rfl,wd i,v,_,rfl,.inr ⟨rfl,i,hi,rfl,w6 ht rv⟩,fun p7 H7 s7 f7 h7=>kc h7 fun H8 s8=>⟨_,rfl,aS ?_⟩⟩
   have k8:=s7.trans s8
   have hS8:=(s5.trans (s6.trans k8)).seq hS4
   refine ⟨_,rfl,_,rfl,_,rfl,a,ns,1,rfl,hS8,by decide,i,_,rfl,hi,h2,fun t' u H9 ht' s9 r9=>?_⟩
   cases ht.symm.trans ht'
   exact zX s9 (vf ht) (rv.same k8) r9 ⟨_,rfl,aS ⟨_,_,_,rfl,s9.seq hS8⟩⟩
 rintro σ H5 ⟨o4,o5,o6,rfl,hS5⟩
 refine ⟨_,rfl,wd i,rfl,.inl ⟨i,hi,rfl,fun x dx fs H6 s6 hx fl=>?_⟩⟩
 refine ⟨_,rfl,i,hi,_,rfl,x,dx,fs,rfl,hx,fl.no "thing_of" (by decide) (by decide),_,rfl,x,_,dx,fs,_,rfl,hx,CA.c4 i hi,CA.na4_least i hi,fl.least,i,hi,x,dx,fs,_,rfl,hx,fl,fun v H7 s7 r7=>?_⟩
 refine ⟨wd i,v,rfl,.inr (.inr ⟨i,hi,rfl,r7.any,fun s H8 s8=>?_⟩)⟩
 have g:K9 (tz " ")<=1:=by decide +kernel
 refine ⟨_,rfl,_,_,_,_,_,rfl,qJ,.str _,m5,_,rfl,aW ⟨_,rfl,rfl,_,rfl,_,_,rfl,rfl,dg (mK i hi) g (by decide),_,_,rfl,rfl,?_⟩⟩
 rw [tP i hi s]
 exact q _
end
noncomputable abbrev Gb (K:GM) (x:Str) (a:GC):Prop:=Kt K mainGlobals x=some (some (.ref a))
noncomputable def BM (K:GM):Sp:=fun vs H Q _=>∃ (a:GC) (ns:List Int),vs=[.ref a]/\aq K H a (ns.map V.int)/\ns.length<=63/\∀ H',Q (.bl true) H'
theorem all_mk {l:W.OpenLaw} {w:Hh} {K:GM} {h:HY} {mg:Str->Option Da} {fa:GC} (X:K.In h) (G:h.Ns mainGlobals mg) (hfa:mg "law" = some (.ref fa)) {C0 C1 C2 C3 C4 C5 C6 C7 C8 C9 C10 C11 C12 f0 f1 f2 f3 f4 f5 f6 f7 f8 f9 f10 f11 f12 f13 f14 f15 f16 f17 f18 f19 f20 f21 f22 f23 f24 f25 f26 f27 f28 f29 f30 f31 f32 f33 f34 f35 f36 f37 f38 f40 f41 f42 f43 f44 f45 f46 f47 f48 f49 f51 f52 f53 f54 f55 f56 f57 f58 f59 f61 f62 f63 f64 f65 f66 f67 f68 f70 f71 f72 f73 f74 f75 f77 f78 f80 f81 G0 G1 G2 G3 G4 G5:GC} {d0 d1 d2 d3 d4 d5 d6 d7 d8 d9 d10 d11 d12 d13 d14 d15 d16 d17 d18 d19 d20 d21 d22 d23 d24 d25 d26 d27 d28 d29 d30 d31 d32 d33 d34 d35 d36 d37 d38 d40 d41 d42 d43 d44 d45 d46 d47 d48 d49 d51 d52 d53 d54 d55 d56 d57 d58 d59 d61 d62 d63 d64 d65 d66 d67 d68 d70 d71 d72 d73 d74 d75 d77 d78 d80 d81:Hz} {t_NOTHING:Tok} {t_GREATEST_SIZE:Tok}
  (nA:Gb K "Brackets" C0)
  (rW:Gb K "Stairs" C1)
  (uP:Gb K "Twins" C2)
  (wU:Gb K "Bows" C3)
  (uT:Gb K "Rooms" C4)
  (tM:Gb K "Floors" C5)
  (uo:Gb K "Turns" C6)
  (vE:Gb K "Codes" C7)
  (vt:Gb K "Trees" C8)
  (wN:Gb K "Cars" C9)
  (jO:Gb K "SplitFamily" C10)
  (sV:Gb K "Family" C11)
  (lh:Gb K "RingFamily" C12)
  (c4_0:Cls K C0)
  (c4_1:Cls K C1)
  (c4_2:Cls K C2)
  (c4_3:Cls K C3)
  (c4_4:Cls K C4)
  (c4_5:Cls K C5)
  (c4_6:Cls K C6)
  (c4_7:Cls K C7)
  (c4_8:Cls K C8)
  (c4_9:Cls K C9)
  (q0_thing_of:Meth K C0 "thing_of" f80)
  (q1_thing_of:Meth K C1 "thing_of" f80)
  (q2_thing_of:Meth K C2 "thing_of" f80)
  (q3_thing_of:Meth K C3 "thing_of" f80)
  (q4_thing_of:Meth K C4 "thing_of" f80)
  (q5_thing_of:Meth K C5 "thing_of" f80)
  (q6_thing_of:Meth K C6 "thing_of" f80)
  (q7_thing_of:Meth K C7 "thing_of" f80)
  (q8_thing_of:Meth K C8 "thing_of" f80)
  (q9_thing_of:Meth K C9 "thing_of" f80)
  (q0_refuse_other:Meth K C0 "refuse_other" f40)
  (q1_refuse_other:Meth K C1 "refuse_other" f40)
  (q2_refuse_other:Meth K C2 "refuse_other" f40)
  (q3_refuse_other:Meth K C3 "refuse_other" f40)
  (q4_refuse_other:Meth K C4 "refuse_other" f40)
  (q5_refuse_other:Meth K C5 "refuse_other" f40)
  (q6_refuse_other:Meth K C6 "refuse_other" f40)
  (q7_refuse_other:Meth K C7 "refuse_other" f40)
  (q8_refuse_other:Meth K C8 "refuse_other" f40)
  (q9_refuse_other:Meth K C9 "refuse_other" f40)
  (q0_is_one:Meth K C0 "is_one" f22)
  (q1_is_one:Meth K C1 "is_one" f23)
  (q2_is_one:Meth K C2 "is_one" f24)
  (q3_is_one:Meth K C3 "is_one" f28)
  (q4_is_one:Meth K C4 "is_one" f30)
  (q5_is_one:Meth K C5 "is_one" f32)
  (q6_is_one:Meth K C6 "is_one" f34)
  (q7_is_one:Meth K C7 "is_one" f35)
  (q8_is_one:Meth K C8 "is_one" f37)
  (q9_is_one:Meth K C9 "is_one" f38)
  (q0_many:Meth K C0 "many" f61)
  (q1_many:Meth K C1 "many" f61)
  (q2_many:Meth K C2 "many" f61)
  (q3_many:Meth K C3 "many" f61)
  (q4_many:Meth K C4 "many" f61)
  (q5_many:Meth K C5 "many" f61)
  (q6_many:Meth K C6 "many" f61)
  (q7_many:Meth K C7 "many" f61)
  (q8_many:Meth K C8 "many" f61)
  (q9_many:Meth K C9 "many" f61)
  (q0_unchecked_thing:Meth K C0 "unchecked_thing" f72)
  (q1_unchecked_thing:Meth K C1 "unchecked_thing" f72)
  (q2_unchecked_thing:Meth K C2 "unchecked_thing" f72)
  (q3_unchecked_thing:Meth K C3 "unchecked_thing" f72)
  (q4_unchecked_thing:Meth K C4 "unchecked_thing" f72)
  (q5_unchecked_thing:Meth K C5 "unchecked_thing" f72)
  (q6_unchecked_thing:Meth K C6 "unchecked_thing" f72)
  (q7_unchecked_thing:Meth K C7 "unchecked_thing" f78)
  (q8_unchecked_thing:Meth K C8 "unchecked_thing" f78)
  (q9_unchecked_thing:Meth K C9 "unchecked_thing" f78)
  (q0_unchecked_many:Meth K C0 "unchecked_many" f57)
  (q1_unchecked_many:Meth K C1 "unchecked_many" f57)
  (q2_unchecked_many:Meth K C2 "unchecked_many" f57)
  (q3_unchecked_many:Meth K C3 "unchecked_many" f57)
  (q4_unchecked_many:Meth K C4 "unchecked_many" f57)
  (q5_unchecked_many:Meth K C5 "unchecked_many" f57)
  (q6_unchecked_many:Meth K C6 "unchecked_many" f57)
  (q7_unchecked_many:Meth K C7 "unchecked_many" f59)
  (q8_unchecked_many:Meth K C8 "unchecked_many" f59)
  (q9_unchecked_many:Meth K C9 "unchecked_many" f59)
  (q0_thing_by_parts:Meth K C0 "thing_by_parts" f70)
  (q1_thing_by_parts:Meth K C1 "thing_by_parts" f70)
  (q2_thing_by_parts:Meth K C2 "thing_by_parts" f70)
  (q3_thing_by_parts:Meth K C3 "thing_by_parts" f70)
  (q4_thing_by_parts:Meth K C4 "thing_by_parts" f70)
  (q5_thing_by_parts:Meth K C5 "thing_by_parts" f70)
  (q6_thing_by_parts:Meth K C6 "thing_by_parts" f70)
  (q0_bare:Meth K C0 "bare" f62)
  (q1_bare:Meth K C1 "bare" f63)
  (q2_bare:Meth K C2 "bare" f64)
  (q3_bare:Meth K C3 "bare" f65)
  (q4_bare:Meth K C4 "bare" f66)
  (q5_bare:Meth K C5 "bare" f67)
  (q6_bare:Meth K C6 "bare" f68)
  (q0_of_code:Meth K C7 "of_code" f73)
  (q1_of_code:Meth K C8 "of_code" f74)
  (q2_of_code:Meth K C9 "of_code" f75)
  (n0_least:NoAttr K C0 "least")
  (n1_least:NoAttr K C1 "least")
  (n2_least:NoAttr K C2 "least")
  (n3_least:NoAttr K C3 "least")
  (n4_least:NoAttr K C4 "least")
  (n5_least:NoAttr K C5 "least")
  (n6_least:NoAttr K C6 "least")
  (n7_least:NoAttr K C7 "least")
  (n8_least:NoAttr K C8 "least")
  (n9_least:NoAttr K C9 "least")
  (n0_word:NoAttr K C0 "word")
  (n1_word:NoAttr K C1 "word")
  (n2_word:NoAttr K C2 "word")
  (n3_word:NoAttr K C3 "word")
  (n4_word:NoAttr K C4 "word")
  (n5_word:NoAttr K C5 "word")
  (n6_word:NoAttr K C6 "word")
  (n7_word:NoAttr K C7 "word")
  (n8_word:NoAttr K C8 "word")
  (n9_word:NoAttr K C9 "word")
  (mk_Turns:Mk K C6 f7)
  (mk_Floors:Mk K C5 f8)
  (mk_Rooms:Mk K C4 f9)
  (mk_Bows:Mk K C3 f10)
  (mk_Twins:Mk K C2 f11)
  (mk_Stairs:Mk K C1 f12)
  (mk_Brackets:Mk K C0 f13)
  (mk_Cars:Mk K C9 f16)
  (mk_Trees:Mk K C8 f17)
  (mk_Codes:Mk K C7 f18)
  (cm_SplitFamily___init__:ClsM K C10 "__init__" f6)
  (cm_Family___init__:ClsM K C11 "__init__" f5)
  (cm_RingFamily___init__:ClsM K C12 "__init__" f15)
  (ng_read_floor:Gb K "read_floor" G0)
  (ng_read_rooms:Gb K "read_rooms" G1)
  (ng_read_bows:Gb K "read_bows" G2)
  (ng_read_twins:Gb K "read_twins" G3)
  (ng_read_brackets:Gb K "read_brackets" G4)
  (ng_read_numbers:Gb K "read_numbers" G5)
  (z_len:Kt K mainGlobals "len" = some none)
  (z_range:Kt K mainGlobals "range" = some none)
  (z_max:Kt K mainGlobals "max" = some none)
  (z_enumerate:Kt K mainGlobals "enumerate" = some none)
  (z_sorted:Kt K mainGlobals "sorted" = some none)
  (z_list:Kt K mainGlobals "list" = some none)
  (z_all:Kt K mainGlobals "all" = some none)
  (z_zip:Kt K mainGlobals "zip" = some none)
  (z_set:Kt K mainGlobals "set" = some none)
  (z_min:Kt K mainGlobals "min" = some none)
  (z_str:Kt K mainGlobals "str" = some none)
  (z_isinstance:Kt K mainGlobals "isinstance" = some none)
  (z_ValueError:Kt K mainGlobals "ValueError" = some none)
  (z_sum:Kt K mainGlobals "sum" = some none)
  (y_NOTHING:Kt K mainGlobals "NOTHING" = some (some (Kx "-" t_NOTHING)))
  (y_GREATEST_SIZE:Kt K mainGlobals "GREATEST_SIZE" = some (some (Kw 40 t_GREATEST_SIZE)))
  {v7 vU vS wu wq wA vR wG vY vT:GC}
  (Gy:Gb K "KinError" v7)
  (FL:Gb K "NoSize" vU)
  (FT:Gb K "NoNumber" vS)
  (Gu:Gb K "NoThing" wu)
  (Gi:Gb K "NoFamily" wq)
  (FK:Gb K "NoWay" wA)
  (FV:Gb K "Apart" vR)
  (Gp:Gb K "NoMark" wG)
  (Gf:Gb K "NoText" vY)
  (FU:Gb K "Broken" vT)
  (t_err:uD K [3,4] (pick 0 [v7,vU,vS,wu,wq,wA,vR,wG,vY,vT])=true)
  (a0:Gb K "_law_words" f0)
  (F0:aF K "_law_words" "_law_words" oK f0 d0)
  (a1:Gb K "_law_cell_at" f1)
  (F1:aF K "_law_cell_at" "_law_cell_at" qT f1 d1)
  (a2:Gb K "_law_draws" f2)
  (F2:aF K "_law_draws" "_law_draws" qQ f2 d2)
  (a3:Gb K "_law_sign" f3)
  (F3:aF K "_law_sign" "_law_sign" oE f3 d3)
  (a4:Gb K "_law_text" f4)
  (F4:aF K "_law_text" "_law_text" oN f4 d4)
  (F5:aF K "__init__" "Family.__init__" u5 f5 d5)
  (F6:aF K "__init__" "SplitFamily.__init__" uz f6 d6)
  (F7:aF K "__init__" "Turns.__init__" qL f7 d7)
  (F8:aF K "__init__" "Floors.__init__" qb f8 d8)
  (F9:aF K "__init__" "Rooms.__init__" oO f9 d9)
  (F10:aF K "__init__" "Bows.__init__" qw f10 d10)
  (F11:aF K "__init__" "Twins.__init__" pD f11 d11)
  (F12:aF K "__init__" "Stairs.__init__" qi f12 d12)
  (F13:aF K "__init__" "Brackets.__init__" vo f13 d13)
  (a14:Gb K "split_families" f14)
  (F14:aF K "split_families" "split_families" qD f14 d14)
  (F15:aF K "__init__" "RingFamily.__init__" vA f15 d15)
  (F16:aF K "__init__" "Cars.__init__" pG f16 d16)
  (F17:aF K "__init__" "Trees.__init__" qA f17 d17)
  (F18:aF K "__init__" "Codes.__init__" pP f18 d18)
  (a19:Gb K "ring_families" f19)
  (F19:aF K "ring_families" "ring_families" pF f19 d19)
  (a20:Gb K "family_of" f20)
  (F20:aF K "family_of" "family_of" p9 f20 d20)
  (a21:Gb K "closes" f21)
  (F21:aF K "closes" "closes" pb f21 d21)
  (F22:aF K "is_one" "Brackets.is_one" pj f22 d22)
  (F23:aF K "is_one" "Stairs.is_one" qS f23 d23)
  (F24:aF K "is_one" "Twins.is_one" oF f24 d24)
  (a25:Gb K "each_once" f25)
  (F25:aF K "each_once" "each_once" pW f25 d25)
  (a26:Gb K "flat" f26)
  (F26:aF K "flat" "flat" qO f26 d26)
  (a27:Gb K "any_cross" f27)
  (F27:aF K "any_cross" "any_cross" pA f27 d27)
  (F28:aF K "is_one" "Bows.is_one" oP f28 d28)
  (a29:Gb K "neighbours" f29)
  (F29:aF K "neighbours" "neighbours" oY f29 d29)
  (F30:aF K "is_one" "Rooms.is_one" qd f30 d30)
  (a31:Gb K "may_be_cut" f31)
  (F31:aF K "may_be_cut" "may_be_cut" qe f31 d31)
  (F32:aF K "is_one" "Floors.is_one" ph f32 d32)
  (a33:Gb K "comes_off_a_stack" f33)
  (F33:aF K "comes_off_a_stack" "comes_off_a_stack" pK f33 d33)
  (F34:aF K "is_one" "Turns.is_one" qr f34 d34)
  (F35:aF K "is_one" "Codes.is_one" qI f35 d35)
  (a36:Gb K "comes_to_0" f36)
  (F36:aF K "comes_to_0" "comes_to_0" pd f36 d36)
  (F37:aF K "is_one" "Trees.is_one" qf f37 d37)
  (F38:aF K "is_one" "Cars.is_one" o7 f38 d38)
  (F40:aF K "refuse_other" "Family.refuse_other" uH f40 d40)
  (a41:Gb K "written_row" f41)
  (F41:aF K "written_row" "written_row" qY f41 d41)
  (a42:Gb K "written_brackets" f42)
  (F42:aF K "written_brackets" "written_brackets" qk f42 d42)
  (a43:Gb K "written_twins" f43)
  (F43:aF K "written_twins" "written_twins" oQ f43 d43)
  (a44:Gb K "written_pair" f44)
  (F44:aF K "written_pair" "written_pair" qj f44 d44)
  (a45:Gb K "written_bows" f45)
  (F45:aF K "written_bows" "written_bows" oJ f45 d45)
  (a46:Gb K "written_room" f46)
  (F46:aF K "written_room" "written_room" rh f46 d46)
  (a47:Gb K "written_rooms" f47)
  (F47:aF K "written_rooms" "written_rooms" pE f47 d47)
  (a48:Gb K "written_floor" f48)
  (F48:aF K "written_floor" "written_floor" pk f48 d48)
  (a49:Gb K "written_numbers" f49)
  (F49:aF K "written_numbers" "written_numbers" qU f49 d49)
  (a51:Gb K "form_of" f51)
  (F51:aF K "form_of" "form_of" qg f51 d51)
  (a52:Gb K "written" f52)
  (F52:aF K "written" "written" ra f52 d52)
  (a53:Gb K "_law_classes" f53)
  (F53:aF K "_law_classes" "_law_classes" oI f53 d53)
  (a54:Gb K "_law_refused" f54)
  (F54:aF K "_law_refused" "_law_refused" qv f54 d54)
  (a55:Gb K "_law_amiss" f55)
  (F55:aF K "_law_amiss" "_law_amiss" jv f55 d55)
  (a56:Gb K "by_rule" f56)
  (F56:aF K "by_rule" "by_rule" qW f56 d56)
  (F57:aF K "unchecked_many" "SplitFamily.unchecked_many" uq f57 d57)
  (a58:Gb K "ring_many" f58)
  (F58:aF K "ring_many" "ring_many" oX f58 d58)
  (F59:aF K "unchecked_many" "RingFamily.unchecked_many" vL f59 d59)
  (F61:aF K "many" "Family.many" qt f61 d61)
  (F62:aF K "bare" "Brackets.bare" pB f62 d62)
  (F63:aF K "bare" "Stairs.bare" qM f63 d63)
  (F64:aF K "bare" "Twins.bare" qp f64 d64)
  (F65:aF K "bare" "Bows.bare" qP f65 d65)
  (F66:aF K "bare" "Rooms.bare" qq f66 d66)
  (F67:aF K "bare" "Floors.bare" pH f67 d67)
  (F68:aF K "bare" "Turns.bare" pJ f68 d68)
  (F70:aF K "thing_by_parts" "SplitFamily.thing_by_parts" vD f70 d70)
  (a71:Gb K "shares" f71)
  (F71:aF K "shares" "shares" pU f71 d71)
  (F72:aF K "unchecked_thing" "SplitFamily.unchecked_thing" uR f72 d72)
  (F73:aF K "of_code" "Codes.of_code" oV f73 d73)
  (F74:aF K "of_code" "Trees.of_code" pR f74 d74)
  (F75:aF K "of_code" "Cars.of_code" pI f75 d75)
  (a77:Gb K "number_figures" f77)
  (F77:aF K "number_figures" "number_figures" rb f77 d77)
  (F78:aF K "unchecked_thing" "RingFamily.unchecked_thing" vI f78 d78)
  (F80:aF K "thing_of" "Family.thing_of" qC f80 d80)
  (a81:Gb K "law" f81)
  (F81:aF K "law" "law" g8 f81 d81) :
  ∃ fd:Hz,(∀ (s:Fk) (v:Da),BindsTo s fd ⟨[v],[]⟩ [("_law_script",v)])/\∀ base:HY,K.In base->base.Ns mainGlobals mg->bj l.prog w K mg base jK 11 fa fd ["_law_script"] (BM K):=by
 have e:=hfa.symm.trans (He X G a81)
 cases e
 have CA:y6 K mg ⟨pick 0 [C0,C1,C2,C3,C4,C5,C6,C7,C8,C9,C10,C11,C12],pick 0 [f0,f1,f2,f3,f4,f5,f6,f7,f8,f9,f10,f11,f12,f13,f14,f15,f16,f17,f18,f19,f20,f21,f22,f23,f24,f25,f26,f27,f28,f29,f30,f31,f32,f33,f34,f35,f36,f37,f38,0,f40,f41,f42,f43,f44,f45,f46,f47,f48,f49,0,f51,f52,f53,f54,f55,f56,f57,f58,f59,0,f61,f62,f63,f64,f65,f66,f67,f68,0,f70,f71,f72,f73,f74,f75,0,f77,f78,0,f80,fa],pick d0 [d0,d1,d2,d3,d4,d5,d6,d7,d8,d9,d10,d11,d12,d13,d14,d15,d16,d17,d18,d19,d20,d21,d22,d23,d24,d25,d26,d27,d28,d29,d30,d31,d32,d33,d34,d35,d36,d37,d38,d0,d40,d41,d42,d43,d44,d45,d46,d47,d48,d49,d0,d51,d52,d53,d54,d55,d56,d57,d58,d59,d0,d61,d62,d63,d64,d65,d66,d67,d68,d0,d70,d71,d72,d73,d74,d75,d0,d77,d78,d0,d80,d81],pick 0 [G0,G1,G2,G3,G4,G5],Kx "-" t_NOTHING,Kw 40 t_GREATEST_SIZE⟩:=⟨He X G nA,He X G rW,He X G uP,He X G wU,He X G uT,He X G tM,He X G uo,He X G vE,He X G vt,He X G wN,He X G jO,He X G sV,He X G lh,(bc.get (n:=10) ⟨⟨⟨⟨⟨⟨⟨⟨⟨⟨trivial,c4_0⟩,c4_1⟩,c4_2⟩,c4_3⟩,c4_4⟩,c4_5⟩,c4_6⟩,c4_7⟩,c4_8⟩,c4_9⟩),(bc.get (n:=10) ⟨⟨⟨⟨⟨⟨⟨⟨⟨⟨trivial,q0_thing_of⟩,q1_thing_of⟩,q2_thing_of⟩,q3_thing_of⟩,q4_thing_of⟩,q5_thing_of⟩,q6_thing_of⟩,q7_thing_of⟩,q8_thing_of⟩,q9_thing_of⟩),(bc.get (n:=10) ⟨⟨⟨⟨⟨⟨⟨⟨⟨⟨trivial,q0_refuse_other⟩,q1_refuse_other⟩,q2_refuse_other⟩,q3_refuse_other⟩,q4_refuse_other⟩,q5_refuse_other⟩,q6_refuse_other⟩,q7_refuse_other⟩,q8_refuse_other⟩,q9_refuse_other⟩),(bc.get (n:=10) ⟨⟨⟨⟨⟨⟨⟨⟨⟨⟨trivial,q0_is_one⟩,q1_is_one⟩,q2_is_one⟩,q3_is_one⟩,q4_is_one⟩,q5_is_one⟩,q6_is_one⟩,q7_is_one⟩,q8_is_one⟩,q9_is_one⟩),(bc.get (n:=10) ⟨⟨⟨⟨⟨⟨⟨⟨⟨⟨trivial,q0_many⟩,q1_many⟩,q2_many⟩,q3_many⟩,q4_many⟩,q5_many⟩,q6_many⟩,q7_many⟩,q8_many⟩,q9_many⟩),(bc.get (n:=10) ⟨⟨⟨⟨⟨⟨⟨⟨⟨⟨trivial,q0_unchecked_thing⟩,q1_unchecked_thing⟩,q2_unchecked_thing⟩,q3_unchecked_thing⟩,q4_unchecked_thing⟩,q5_unchecked_thing⟩,q6_unchecked_thing⟩,q7_unchecked_thing⟩,q8_unchecked_thing⟩,q9_unchecked_thing⟩),(bc.get (n:=10) ⟨⟨⟨⟨⟨⟨⟨⟨⟨⟨trivial,q0_unchecked_many⟩,q1_unchecked_many⟩,q2_unchecked_many⟩,q3_unchecked_many⟩,q4_unchecked_many⟩,q5_unchecked_many⟩,q6_unchecked_many⟩,q7_unchecked_many⟩,q8_unchecked_many⟩,q9_unchecked_many⟩),(bc.get (n:=7) ⟨⟨⟨⟨⟨⟨⟨trivial,q0_thing_by_parts⟩,q1_thing_by_parts⟩,q2_thing_by_parts⟩,q3_thing_by_parts⟩,q4_thing_by_parts⟩,q5_thing_by_parts⟩,q6_thing_by_parts⟩),(bc.get (n:=7) ⟨⟨⟨⟨⟨⟨⟨trivial,q0_bare⟩,q1_bare⟩,q2_bare⟩,q3_bare⟩,q4_bare⟩,q5_bare⟩,q6_bare⟩),(bc.get (n:=3) ⟨⟨⟨trivial,q0_of_code⟩,q1_of_code⟩,q2_of_code⟩),(bc.get (n:=10) ⟨⟨⟨⟨⟨⟨⟨⟨⟨⟨trivial,n0_least⟩,n1_least⟩,n2_least⟩,n3_least⟩,n4_least⟩,n5_least⟩,n6_least⟩,n7_least⟩,n8_least⟩,n9_least⟩),(bc.get (n:=10) ⟨⟨⟨⟨⟨⟨⟨⟨⟨⟨trivial,n0_word⟩,n1_word⟩,n2_word⟩,n3_word⟩,n4_word⟩,n5_word⟩,n6_word⟩,n7_word⟩,n8_word⟩,n9_word⟩),mk_Turns,mk_Floors,mk_Rooms,mk_Bows,mk_Twins,mk_Stairs,mk_Brackets,mk_Cars,mk_Trees,mk_Codes,cm_SplitFamily___init__,cm_Family___init__,cm_RingFamily___init__,He X G ng_read_floor,He X G ng_read_rooms,He X G ng_read_bows,He X G ng_read_twins,He X G ng_read_brackets,He X G ng_read_numbers,Ig X G z_len,Ig X G z_range,Ig X G z_max,Ig X G z_enumerate,Ig X G z_sorted,Ig X G z_list,Ig X G z_all,Ig X G z_zip,Ig X G z_set,Ig X G z_min,Ig X G z_str,Ig X G z_isinstance,Ig X G z_ValueError,Ig X G z_sum,⟨He X G y_NOTHING,⟨_,rfl⟩⟩,⟨He X G y_GREATEST_SIZE,⟨_,rfl⟩⟩⟩
 have EO:AU K mg [3,4] (pick 0 [v7,vU,vS,wu,wq,wA,vR,wG,vY,vT]):=xl t_err (bc.get (n:=10) ⟨⟨⟨⟨⟨⟨⟨⟨⟨⟨trivial,(He X G Gy)⟩,(He X G FL)⟩,(He X G FT)⟩,(He X G Gu)⟩,(He X G Gi)⟩,(He X G FK)⟩,(He X G FV)⟩,(He X G Gp)⟩,(He X G Gf)⟩,(He X G FU)⟩)
 obtain ⟨oc,od,kV,doc,pm,an,cdv,ct,osl,e,lk,hcd⟩:=F81.ex
 subst e
 refine ⟨Mn "law" "law" (cq g8) (bJ g8) (ai g8) .none kV doc pm an cdv ct,fun s v=>.of_eq rfl,fun base kb _=>?_⟩
 have a:=FY (P:=l.prog) (w:=w) (base:=base) (er:=(pick 0 [v7,vU,vS,wu,wq,wA,vR,wG,vY,vT])) CA
 have a:=a.s (yN CA EO a ⟨F0,He X G a0⟩)
 have a:=a.s (yw CA EO a ⟨F1,He X G a1⟩)
 have a:=a.s (zW CA EO a ⟨F2,He X G a2⟩)
 have a:=a.s (Bn CA EO a ⟨F3,He X G a3⟩)
 have a:=a.s (yv CA EO a ⟨F4,He X G a4⟩)
 have a:=a.s (DY CA EO a F5)
 have a:=a.s (D7 CA EO a F6)
 have a:=a.s (A2 CA EO a F7)
 have a:=a.s (zj CA EO a F8)
 have a:=a.s (Ai CA EO a F9)
 have a:=a.s (BK CA EO a F10)
 have a:=a.s (yU CA EO a F11)
 have a:=a.s (zD CA EO a F12)
 have a:=a.s (D6 CA EO a F13)
 have a:=a.s (yE CA EO a ⟨F14,He X G a14⟩)
 have a:=a.s (DP CA EO a F15)
 have a:=a.s (zL CA EO a F16)
 have a:=a.s (zl CA EO a F17)
 have a:=a.s (zz CA EO a F18)
 have a:=a.s (yD CA EO a ⟨F19,He X G a19⟩)
 have a:=a.s (Cg CA EO a ⟨F20,He X G a20⟩)
 have a:=a.s (CP CA EO a ⟨F21,He X G a21⟩)
 have a:=a.s (zr CA EO a F22)
 have a:=a.s (Ac CA EO a F23)
 have a:=a.s (Aw CA EO a F24)
 have a:=a.s (BS CA EO a ⟨F25,He X G a25⟩)
 have a:=a.s (zR CA EO a ⟨F26,He X G a26⟩)
 have a:=a.s (zm CA EO a ⟨F27,He X G a27⟩)
 have a:=a.s (AW CA EO a F28)
 have a:=a.s (y8 CA EO a ⟨F29,He X G a29⟩)
 have a:=a.s (Ag CA EO a F30)
 have a:=a.s (Cj CA EO a ⟨F31,He X G a31⟩)
 have a:=a.s (CN CA EO a F32)
 have a:=a.s (Av CA EO a ⟨F33,He X G a33⟩)
 have a:=a.s (Ak CA EO a F34)
 have a:=a.s (z8 CA EO a F35)
 have a:=a.s (zc CA EO a ⟨F36,He X G a36⟩)
 have a:=a.s (AN CA EO a F37)
 have a:=a.s (B2 CA EO a F38)
 have a:=a.s (bc.get (n:=10) ⟨⟨⟨⟨⟨⟨⟨⟨⟨⟨trivial,(dA (a.g 22))⟩,(dA (a.g 23))⟩,(dA (a.g 24))⟩,(dA (a.g 28))⟩,(a.g 30)⟩,(dA (a.g 32))⟩,(dA (a.g 34))⟩,(dA (a.g 35))⟩,(dA (a.g 37))⟩,(dA (a.g 38))⟩)
 have a:=a.s (Dw CA EO a F40)
 have a:=a.s (AF CA EO a ⟨F41,He X G a41⟩)
 have a:=a.s (Cu CA EO a ⟨F42,He X G a42⟩)
 have a:=a.s (Bu CA EO a ⟨F43,He X G a43⟩)
 have a:=a.s (zQ CA EO a ⟨F44,He X G a44⟩)
 have a:=a.s (Cn CA EO a ⟨F45,He X G a45⟩)
 have a:=a.s (zf CA EO a ⟨F46,He X G a46⟩)
 have a:=a.s (y0 CA EO a ⟨F47,He X G a47⟩)
 have a:=a.s (Ad CA EO a ⟨F48,He X G a48⟩)
 have a:=a.s (CZ CA EO a ⟨F49,He X G a49⟩)
 have a:=a.s (bc.get (n:=6) ⟨⟨⟨⟨⟨⟨trivial,(Def.v (a.g 42) fun _ _ _ _ z=>z)⟩,(Def.v (a.g 43) fun _ _ _ _ z=>z)⟩,(Def.v (a.g 45) fun _ _ _ _ z=>z)⟩,(Def.v (a.g 47) fun _ _ _ _ z=>z)⟩,(Def.v (a.g 48) fun _ _ _ _ z=>z)⟩,(Def.v (a.g 49) fun _ _ _ _ z=>z)⟩)
 have a:=a.s (zH CA EO a ⟨F51,He X G a51⟩)
 have a:=a.s (B4 CA EO a ⟨F52,He X G a52⟩)
 have a:=a.s (A8 CA EO a ⟨F53,He X G a53⟩)
 have a:=a.s (Ab CA EO a ⟨F54,He X G a54⟩)
 have a:=a.s (BO CA EO a ⟨F55,He X G a55⟩)
 have a:=a.s (yz CA EO a ⟨F56,He X G a56⟩)
 have a:=a.s (DR CA EO a F57)
 have a:=a.s (Bq CA EO a ⟨F58,He X G a58⟩)
 have a:=a.s (DA CA EO a F59)
 have a:=a.s (bc.get (n:=10) ⟨⟨⟨⟨⟨⟨⟨⟨⟨⟨trivial,(a.g 57)⟩,(a.g 57)⟩,(a.g 57)⟩,(a.g 57)⟩,(a.g 57)⟩,(a.g 57)⟩,(a.g 57)⟩,(a.g 59)⟩,(a.g 59)⟩,(a.g 59)⟩)
 have a:=a.s (Ae CA EO a F61)
 have a:=a.s (yW CA EO a F62)
 have a:=a.s (yL CA EO a F63)
 have a:=a.s (yH CA EO a F64)
 have a:=a.s (A9 CA EO a F65)
 have a:=a.s (BC CA EO a F66)
 have a:=a.s (Dc CA EO a F67)
 have a:=a.s (BW CA EO a F68)
 have a:=a.s (bc.get (n:=7) ⟨⟨⟨⟨⟨⟨⟨trivial,(a.g 62)⟩,(a.g 63)⟩,(a.g 64)⟩,(a.g 65)⟩,(a.g 66)⟩,(a.g 67)⟩,(a.g 68)⟩)
 have a:=a.s (En CA EO a F70)
 have a:=a.s (yu CA EO a ⟨F71,He X G a71⟩)
 have a:=a.s (DE CA EO a F72)
 have a:=a.s (yG CA EO a F73)
 have a:=a.s (AM CA EO a F74)
 have a:=a.s (zy CA EO a F75)
 have a:=a.s (bc.get (n:=3) ⟨⟨⟨trivial,(dA (a.g 73))⟩,(dA (a.g 74))⟩,(a.g 75)⟩)
 have a:=a.s (Cd CA EO a ⟨F77,He X G a77⟩)
 have a:=a.s (Ei CA EO a F78)
 have a:=a.s (bc.get (n:=10) ⟨⟨⟨⟨⟨⟨⟨⟨⟨⟨trivial,(fh (a.g 72) (fun vs H Q E ⟨x,dx,fs,w,e,hx,fl,q⟩=>⟨0,by decide,x,dx,fs,w,e,hx,fl,q⟩))⟩,(fh (a.g 72) (fun vs H Q E ⟨x,dx,fs,w,e,hx,fl,q⟩=>⟨1,by decide,x,dx,fs,w,e,hx,fl,q⟩))⟩,(fh (a.g 72) (fun vs H Q E ⟨x,dx,fs,w,e,hx,fl,q⟩=>⟨2,by decide,x,dx,fs,w,e,hx,fl,q⟩))⟩,(fh (a.g 72) (fun vs H Q E ⟨x,dx,fs,w,e,hx,fl,q⟩=>⟨3,by decide,x,dx,fs,w,e,hx,fl,q⟩))⟩,(fh (a.g 72) (fun vs H Q E ⟨x,dx,fs,w,e,hx,fl,q⟩=>⟨4,by decide,x,dx,fs,w,e,hx,fl,q⟩))⟩,(fh (a.g 72) (fun vs H Q E ⟨x,dx,fs,w,e,hx,fl,q⟩=>⟨5,by decide,x,dx,fs,w,e,hx,fl,q⟩))⟩,(fh (a.g 72) (fun vs H Q E ⟨x,dx,fs,w,e,hx,fl,q⟩=>⟨6,by decide,x,dx,fs,w,e,hx,fl,q⟩))⟩,(fh (a.g 78) (fun vs H Q E ⟨x,dx,fs,w,e,hx,fl,q⟩=>⟨0,by decide,x,dx,fs,w,e,hx,fl,q⟩))⟩,(fh (a.g 78) (fun vs H Q E ⟨x,dx,fs,w,e,hx,fl,q⟩=>⟨1,by decide,x,dx,fs,w,e,hx,fl,q⟩))⟩,(fh (a.g 78) (fun vs H Q E ⟨x,dx,fs,w,e,hx,fl,q⟩=>⟨2,by decide,x,dx,fs,w,e,hx,fl,q⟩))⟩)
 have a:=a.s (CQ CA EO a F80)
 exact B1 CA EO a F81
theorem walk {l:W.OpenLaw} {q:GQ} {loose:List Str} {XP:(Str->Option Da)->HY->Prop} {YP:Hh->HY->Prop} {d:DefRec} {K:Ia->GM} (hn:l.most=some 63) (hdf:d.params.defaults=[])
  (hY:∀ (w:Hh) (h:HY),YP w h->(K w.params).In h)
  (F:∀ (w:Hh) (mg:Str->Option Da) (fa:GC) (h:HY),(K w.params).In h->h.Ns mainGlobals mg->mg d.name=some (.ref fa) ->
   ∃ fd:Hz,(∀ (s:Fk) (u:Da),BindsTo s fd ⟨[u],[]⟩ [("_law_script",u)])/\∀ base:HY,(K w.params).In base->base.Ns mainGlobals mg->bj l.prog w (K w.params) mg base jK 11 fa fd ["_law_script"] (BM (K w.params))) :
  W.WalkO q loose XP YP l.row.toRowW d [] (fun f vs=>PySem.call f vs) :=
 L2.walk_of (n:=63) (k:=11) (x:="_law_script") (CX:=fun _=>jK) (sp:=fun w=>BM (K w.params)) hn (by decide) hdf ⟨rfl,by decide,by decide⟩ hY F (fun _ _ a ns hl _ hS=>⟨a,ns,rfl,hS,hl,fun _=>rfl⟩) fun _ _ _ _ _ z=>z
end Ck
open L2
namespace Ck
open PySem PySem.W PySem.Calls PyProof.Rows
noncomputable def hB:List Il:=behindTheImports PySem.Challenge.pw_countkin_k62_written_refuses
noncomputable def hE:Env:={ scope:=PySem.Challenge.pw_countkin_k62_written_refuses.main.scope,locals:=mainNs,globals:=mainNs,cells:=[],code:=(.ref 13),frame:=some 14 }
noncomputable def hC:Code:=.body hB hE
noncomputable def kU:Obj:=⟨.type "tuple",none,.seq #[] 0,#[]⟩
noncomputable def kV (a:Array Da):Obj:=⟨.type "tuple",none,.seq a 0,#[]⟩
noncomputable def kW:Obj:=⟨.none,none,.fields #[],#[]⟩
noncomputable def kG (a b:Str) (s:Il):Obj:=⟨.none,none,.func { (fnOf a b (cq s) (bJ s) (ai s) .none .none .none .none none .none .none) with globals:=0 },#[]⟩
noncomputable def kB (a:String) (n:GC):Obj:=⟨.type "builtin_function_or_method",none,.fields #[.builtin a,.ref n],#[]⟩
noncomputable def kD (P:Ia) (x:Str) (n:Tok) (v:Da):Jz:=⟨PyData.keyHash P x,.str x n,v⟩
noncomputable def kF (a b:Str) (s:Il) (m:Str) (n:Tok) (c:GC):Obj:=⟨.type "function",none,.func (fnOf a b (cq s) (bJ s) (ai s) .none .none .none (.str m n) none (.ref c) .none),#[]⟩
noncomputable def kC (a b:Str) (t:Nat) (l n:Int) (r q x y z w:Da) (e:Nat):Obj:=⟨.type "code",none,.fields #[.str a t,.str b (t+1),.str "/claim/cut.py" (t+2),.int l 0,.int n 0,.int 0 0,.int 0 0,.int 3 0,r,.bool true,.int 181 0,q,x,y,z,w,.int (Int.ofNat e) 0,.int l 0,.str "/claim/cut.py" (e+1)],#[]⟩
noncomputable def hTree (P:Ia):BT:=(.node (boot_o_0 P) (.node (boot_o_1 P) (.node (boot_o_3 P) (.node (boot_o_7 P) .nil .nil) (.node ⟨(.type "tuple"),none,(.seq #[] 0),#[]⟩ .nil .nil)) (.node (boot_o_5 P) (.node (boot_o_9 P) .nil .nil) (.node ⟨(.type "code"),none,(.fields #[(.str "<module>" 182),(.str "<module>" 183),(.str "/claim/cut.py" 184),(.int 1 0),(.int 0 0),(.int 0 0),(.int 0 0),(.int 0 0),(.ref 11),(.bool false),(.int 181 0),(.ref 12),.none,.none,.none,.none,(.int 185 0),(.int 1 0),(.str "/claim/cut.py" 186)]),#[]⟩ .nil .nil))) (.node (boot_o_2 P) (.node (boot_o_4 P) (.node (boot_o_8 P) .nil .nil) (.node ⟨.none,none,(.fields #[]),#[]⟩ .nil .nil)) (.node (boot_o_6 P) (.node (boot_o_10 P) .nil .nil) (.node ⟨(.type "frame"),none,.plain,#[(some (.ref 13)),(some (.ref 3)),(some (.ref 3)),none,(some (.str "__main__" 164)),none,(some (.ref 0))]⟩ .nil .nil))))
noncomputable def hS (w:Hh) (os:K2):SharedT:=⟨hTree w.params,15,({}:Life),Array.mk [],⟨0,0,0,0⟩,187,os⟩
noncomputable def hQ:GQ:={ PySem.Challenge.pw_countkin_k62_written_refuses with main:={ PySem.Challenge.pw_countkin_k62_written_refuses.main with body:=[top 92] } }
noncomputable def Gr:List Str:=tz "_law_sign"::tz "_law_text"::tz "_law_amiss"::tz "_law_classes"::tz "_law_refused"::[]
noncomputable def wy:List Str:=tz "read_rooms"::tz "written_floor"::tz "read_floor"::tz "written_twins"::tz "read_twins"::tz "form_of"::tz "written"::tz "_law_cell_at"::tz "_law_draws"::tz "_law_words"::Gr
noncomputable def wg:List Str:=tz "read_numbers"::tz "written_brackets"::tz "read_brackets"::tz "written_pair"::tz "read_pair"::tz "written_bows"::tz "read_bows"::tz "written_room"::tz "read_room"::tz "written_rooms"::wy
noncomputable def Gh:List Str:=tz "ring_families"::tz "family_of"::tz "NOTHING"::tz "FIGURES"::tz "MOST_FIGURES"::tz "writes_number"::tz "read_number"::tz "written_row"::tz "read_row"::tz "written_numbers"::wg
noncomputable def fG:List Str:=tz "Stairs"::tz "Twins"::tz "Trees"::tz "comes_to_0"::tz "Bows"::tz "Rooms"::tz "neighbours"::tz "Turns"::tz "comes_off_a_stack"::tz "split_families"::Gh
noncomputable def dC:List Str:=tz "Cars"::tz "raised_by"::tz "pairs_raised_by"::tz "flat"::tz "each_once"::tz "any_cross"::tz "Floors"::tz "may_be_cut"::tz "closes"::tz "Brackets"::fG
noncomputable def bG:List Str:=tz "NoWay"::tz "Apart"::tz "NoMark"::tz "NoText"::tz "Broken"::tz "Family"::tz "SplitFamily"::tz "RingFamily"::tz "number_figures"::tz "Codes"::dC
noncomputable def FJ:List Str:=tz "_wall"::tz "GREATEST_SIZE"::tz "shares"::tz "by_rule"::tz "ring_many"::tz "KinError"::tz "NoSize"::tz "NoNumber"::tz "NoThing"::tz "NoFamily"::bG
noncomputable def hL:List Str:=FJ
noncomputable def hK:Ia->LS:=fun P=>(nat_lit 2,⟨.none,none,(.dict #[] 0),#[]⟩)::(nat_lit 3,⟨(.type "dict"),none,(.dict (JQ (kD P "__name__" 165 (.str "law_countkin_k62_written_refuses" 1566)::kD P "__doc__" 166 .none::kD P "__package__" 167 .none::kD P "__loader__" 168 (.builtin "__main__.__loader__#opaque")::kD P "__spec__" 169 .none::kD P "__annotations__" 170 (.ref 6)::kD P "__builtins__" 171 (.ref 4)::kD P "__file__" 173 (.str "/claim/cut.py" 172)::kD P "__cached__" 174 .none::kD P "_wall" 193 (.ref 21)::kD P "GREATEST_SIZE" 197 (.int 40 196)::kD P "shares" 203 (.ref 26)::kD P "by_rule" 212 (.ref 33)::kD P "ring_many" 221 (.ref 40)::kD P "KinError" 241 (.ref 50)::kD P "NoSize" 257 (.ref 63)::kD P "NoNumber" 273 (.ref 75)::kD P "NoThing" 289 (.ref 87)::kD P "NoFamily" 305 (.ref 99)::kD P "NoWay" 321 (.ref 111)::kD P "Apart" 337 (.ref 123)::kD P "NoMark" 353 (.ref 135)::kD P "NoText" 369 (.ref 147)::kD P "Broken" 394 (.ref 166)::kD P "Family" 510 (.ref 255)::kD P "SplitFamily" 607 (.ref 332)::kD P "RingFamily" 674 (.ref 386)::kD P "number_figures" 686 (.ref 395)::kD P "Codes" 739 (.ref 438)::kD P "Cars" 792 (.ref 481)::kD P "raised_by" 800 (.ref 488)::kD P "pairs_raised_by" 806 (.ref 493)::kD P "flat" 815 (.ref 500)::kD P "each_once" 822 (.ref 507)::kD P "any_cross" 833 (.ref 514)::kD P "Floors" 899 (.ref 564)::kD P "may_be_cut" 908 (.ref 573)::kD P "closes" 919 (.ref 580)::kD P "Brackets" 984 (.ref 632)::kD P "Stairs" 1050 (.ref 686)::kD P "Twins" 1118 (.ref 740)::kD P "Trees" 1171 (.ref 783)::kD P "comes_to_0" 1181 (.ref 792)::kD P "Bows" 1245 (.ref 842)::kD P "Rooms" 1301 (.ref 890)::kD P "neighbours" 1307 (.ref 897)::kD P "Turns" 1372 (.ref 949)::kD P "comes_off_a_stack" 1382 (.ref 958)::kD P "split_families" 1390 (.ref 965)::kD P "ring_families" 1396 (.ref 972)::kD P "family_of" 1404 (.ref 979)::kD P "NOTHING" 1408 (.str "-" 1407)::kD P "FIGURES" 1410 (.str "0123456789" 1409)::kD P "MOST_FIGURES" 1412 (.int 3 1411)::kD P "writes_number" 1418 (.ref 984)::kD P "read_number" 1425 (.ref 991)::kD P "written_row" 1433 (.ref 998)::kD P "read_row" 1441 (.ref 1005)::kD P "written_numbers" 1447 (.ref 1010)::kD P "read_numbers" 1453 (.ref 1015)::kD P "written_brackets" 1460 (.ref 1022)::kD P "read_brackets" 1466 (.ref 1027)::kD P "written_pair" 1474 (.ref 1034)::kD P "read_pair" 1482 (.ref 1041)::kD P "written_bows" 1488 (.ref 1046)::kD P "read_bows" 1494 (.ref 1051)::kD P "written_room" 1500 (.ref 1056)::kD P "read_room" 1506 (.ref 1061)::kD P "written_rooms" 1512 (.ref 1066)::kD P "read_rooms" 1518 (.ref 1071)::kD P "written_floor" 1524 (.ref 1076)::kD P "read_floor" 1530 (.ref 1081)::kD P "written_twins" 1537 (.ref 1088)::kD P "read_twins" 1547 (.ref 1095)::kD P "form_of" 1557 (.ref 1102)::kD P "written" 1565 (.ref 1109)::kD P "_law_cell_at" 1575 (.ref 1116)::kD P "_law_draws" 1581 (.ref 1121)::kD P "_law_words" 1587 (.ref 1128)::kD P "_law_sign" 1595 (.ref 1135)::kD P "_law_text" 1601 (.ref 1140)::kD P "_law_amiss" 1610 (.ref 1147)::kD P "_law_classes" 1618 (.ref 1154)::kD P "_law_refused" 1628 (.ref 1161)::kD P "law" 1640 (.ref 1168)::[])) 85),#[]⟩)::(nat_lit 25,(kC "shares" "shares" 198 6 1 (.ref 22) (.ref 23) .none .none .none (.ref 24) 201))::(nat_lit 26,(kF "shares" "shares" (top 3) "countkin.counts" 194 25))::(nat_lit 32,(kC "by_rule" "by_rule" 204 11 1 (.ref 27) (.ref 28) .none (.ref 29) (.ref 30) (.ref 31) 210))::(nat_lit 33,(kF "by_rule" "by_rule" (top 4) "countkin.counts" 194 32))::(nat_lit 39,(kC "ring_many" "ring_many" 213 16 1 (.ref 34) (.ref 35) .none (.ref 36) (.ref 37) (.ref 38) 219))::(nat_lit 40,(kF "ring_many" "ring_many" (top 5) "countkin.counts" 194 39))::(nat_lit 49,⟨(.type "dict"),none,(.dict #[kD P "__module__" 231 (.str "countkin.errors" 222),kD P "__firstlineno__" 235 (.int 22 234),kD P "__static_attributes__" 236 (.ref 48),kD P "__weakref__" 238 (.ref 51),kD P "__doc__" 239 .none] 3),#[]⟩)::(nat_lit 50,⟨(.type "type"),none,(.cls ⟨"KinError",[(.type "ValueError")],[(.ref 50),(.type "ValueError"),(.type "Exception"),(.type "BaseException"),(.type "object")],49,"KinError",true,[],[(.ref 63),(.ref 75),(.ref 87),(.ref 99),(.ref 111),(.ref 123),(.ref 135),(.ref 147),(.ref 166)],false,none,false⟩),#[(some (.ref 41)),none,(some (.str "KinError" 224)),(some (.str "KinError" 232)),(some (.builtin "ValueError.__new__")),(some (.bool true))]⟩)::(nat_lit 51,⟨(.type "getset_descriptor"),none,(.fields #[(.str "__weakref__" 237),(.ref 50),(.builtin "ExceptionGroup.__weakref__"),.none]),#[]⟩)::(nat_lit 62,⟨(.type "dict"),none,(.dict #[kD P "__module__" 249 (.str "countkin.errors" 222),kD P "__firstlineno__" 253 (.int 24 252),kD P "__static_attributes__" 254 (.ref 61),kD P "__doc__" 255 .none] 2),#[]⟩)::(nat_lit 63,⟨(.type "type"),none,(.cls ⟨"NoSize",[(.ref 50)],[(.ref 63),(.ref 50),(.type "ValueError"),(.type "Exception"),(.type "BaseException"),(.type "object")],62,"NoSize",true,[],[],false,none,false⟩),#[(some (.ref 54)),none,(some (.str "NoSize" 242)),(some (.str "NoSize" 250)),(some (.builtin "ValueError.__new__")),(some (.bool true))]⟩)::(nat_lit 74,⟨(.type "dict"),none,(.dict #[kD P "__module__" 265 (.str "countkin.errors" 222),kD P "__firstlineno__" 269 (.int 26 268),kD P "__static_attributes__" 270 (.ref 73),kD P "__doc__" 271 .none] 2),#[]⟩)::(nat_lit 75,⟨(.type "type"),none,(.cls ⟨"NoNumber",[(.ref 50)],[(.ref 75),(.ref 50),(.type "ValueError"),(.type "Exception"),(.type "BaseException"),(.type "object")],74,"NoNumber",true,[],[],false,none,false⟩),#[(some (.ref 66)),none,(some (.str "NoNumber" 258)),(some (.str "NoNumber" 266)),(some (.builtin "ValueError.__new__")),(some (.bool true))]⟩)::(nat_lit 86,⟨(.type "dict"),none,(.dict #[kD P "__module__" 281 (.str "countkin.errors" 222),kD P "__firstlineno__" 285 (.int 28 284),kD P "__static_attributes__" 286 (.ref 85),kD P "__doc__" 287 .none] 2),#[]⟩)::(nat_lit 87,⟨(.type "type"),none,(.cls ⟨"NoThing",[(.ref 50)],[(.ref 87),(.ref 50),(.type "ValueError"),(.type "Exception"),(.type "BaseException"),(.type "object")],86,"NoThing",true,[],[],false,none,false⟩),#[(some (.ref 78)),none,(some (.str "NoThing" 274)),(some (.str "NoThing" 282)),(some (.builtin "ValueError.__new__")),(some (.bool true))]⟩)::(nat_lit 98,⟨(.type "dict"),none,(.dict #[kD P "__module__" 297 (.str "countkin.errors" 222),kD P "__firstlineno__" 301 (.int 30 300),kD P "__static_attributes__" 302 (.ref 97),kD P "__doc__" 303 .none] 2),#[]⟩)::(nat_lit 99,⟨(.type "type"),none,(.cls ⟨"NoFamily",[(.ref 50)],[(.ref 99),(.ref 50),(.type "ValueError"),(.type "Exception"),(.type "BaseException"),(.type "object")],98,"NoFamily",true,[],[],false,none,false⟩),#[(some (.ref 90)),none,(some (.str "NoFamily" 290)),(some (.str "NoFamily" 298)),(some (.builtin "ValueError.__new__")),(some (.bool true))]⟩)::(nat_lit 110,⟨(.type "dict"),none,(.dict #[kD P "__module__" 313 (.str "countkin.errors" 222),kD P "__firstlineno__" 317 (.int 32 316),kD P "__static_attributes__" 318 (.ref 109),kD P "__doc__" 319 .none] 2),#[]⟩)::(nat_lit 111,⟨(.type "type"),none,(.cls ⟨"NoWay",[(.ref 50)],[(.ref 111),(.ref 50),(.type "ValueError"),(.type "Exception"),(.type "BaseException"),(.type "object")],110,"NoWay",true,[],[],false,none,false⟩),#[(some (.ref 102)),none,(some (.str "NoWay" 306)),(some (.str "NoWay" 314)),(some (.builtin "ValueError.__new__")),(some (.bool true))]⟩)::(nat_lit 122,⟨(.type "dict"),none,(.dict #[kD P "__module__" 329 (.str "countkin.errors" 222),kD P "__firstlineno__" 333 (.int 34 332),kD P "__static_attributes__" 334 (.ref 121),kD P "__doc__" 335 .none] 2),#[]⟩)::(nat_lit 123,⟨(.type "type"),none,(.cls ⟨"Apart",[(.ref 50)],[(.ref 123),(.ref 50),(.type "ValueError"),(.type "Exception"),(.type "BaseException"),(.type "object")],122,"Apart",true,[],[],false,none,false⟩),#[(some (.ref 114)),none,(some (.str "Apart" 322)),(some (.str "Apart" 330)),(some (.builtin "ValueError.__new__")),(some (.bool true))]⟩)::(nat_lit 134,⟨(.type "dict"),none,(.dict #[kD P "__module__" 345 (.str "countkin.errors" 222),kD P "__firstlineno__" 349 (.int 36 348),kD P "__static_attributes__" 350 (.ref 133),kD P "__doc__" 351 .none] 2),#[]⟩)::(nat_lit 135,⟨(.type "type"),none,(.cls ⟨"NoMark",[(.ref 50)],[(.ref 135),(.ref 50),(.type "ValueError"),(.type "Exception"),(.type "BaseException"),(.type "object")],134,"NoMark",true,[],[],false,none,false⟩),#[(some (.ref 126)),none,(some (.str "NoMark" 338)),(some (.str "NoMark" 346)),(some (.builtin "ValueError.__new__")),(some (.bool true))]⟩)::(nat_lit 146,⟨(.type "dict"),none,(.dict #[kD P "__module__" 361 (.str "countkin.errors" 222),kD P "__firstlineno__" 365 (.int 38 364),kD P "__static_attributes__" 366 (.ref 145),kD P "__doc__" 367 .none] 2),#[]⟩)::(nat_lit 147,⟨(.type "type"),none,(.cls ⟨"NoText",[(.ref 50)],[(.ref 147),(.ref 50),(.type "ValueError"),(.type "Exception"),(.type "BaseException"),(.type "object")],146,"NoText",true,[],[],false,none,false⟩),#[(some (.ref 138)),none,(some (.str "NoText" 354)),(some (.str "NoText" 362)),(some (.builtin "ValueError.__new__")),(some (.bool true))]⟩)::(nat_lit 165,⟨(.type "dict"),none,(.dict #[kD P "__module__" 377 (.str "countkin.errors" 222),kD P "__firstlineno__" 381 (.int 40 380),kD P "__init__" 389 (.ref 163),kD P "__static_attributes__" 391 (.ref 164),kD P "__doc__" 392 .none] 2),#[]⟩)::(nat_lit 166,⟨(.type "type"),none,(.cls ⟨"Broken",[(.ref 50)],[(.ref 166),(.ref 50),(.type "ValueError"),(.type "Exception"),(.type "BaseException"),(.type "object")],165,"Broken",true,[],[],false,none,false⟩),#[(some (.ref 150)),none,(some (.str "Broken" 370)),(some (.str "Broken" 378)),(some (.builtin "ValueError.__new__")),(some (.bool true))]⟩)::(nat_lit 181,(kC "__init__" "Family.__init__" 409 48 3 (.ref 176) (.ref 177) .none (.ref 178) (.ref 179) (.ref 180) 415))::(nat_lit 182,(kF "__init__" "Family.__init__" (inClass (top 18) 0) "countkin.kin" 395 181))::(nat_lit 223,(kC "many" "Family.many" 459 67 2 (.ref 218) (.ref 219) .none (.ref 220) (.ref 221) (.ref 222) 464))::(nat_lit 224,(kF "many" "Family.many" (inClass (top 18) 6) "countkin.kin" 395 223))::(nat_lit 230,(kC "refuse_other" "Family.refuse_other" 467 72 2 (.ref 225) (.ref 226) .none (.ref 227) (.ref 228) (.ref 229) 472))::(nat_lit 231,(kF "refuse_other" "Family.refuse_other" (inClass (top 18) 7) "countkin.kin" 395 230))::(nat_lit 244,(kC "thing_of" "Family.thing_of" 483 79 3 (.ref 239) (.ref 240) .none (.ref 241) (.ref 242) (.ref 243) 490))::(nat_lit 245,(kF "thing_of" "Family.thing_of" (inClass (top 18) 9) "countkin.kin" 395 244))::(nat_lit 254,⟨(.type "dict"),none,(.dict #[kD P "__module__" 404 (.str "countkin.kin" 395),kD P "__firstlineno__" 408 (.int 46 407),kD P "__init__" 417 (.ref 182),kD P "size_of" 425 (.ref 189),kD P "is_one" 433 (.ref 196),kD P "unchecked_many" 441 (.ref 203),kD P "unchecked_number" 449 (.ref 210),kD P "unchecked_thing" 458 (.ref 217),kD P "many" 466 (.ref 224),kD P "refuse_other" 474 (.ref 231),kD P "number_of" 482 (.ref 238),kD P "thing_of" 492 (.ref 245),kD P "next_of" 500 (.ref 252),kD P "__static_attributes__" 503 (.ref 253),kD P "__dict__" 505 (.ref 256),kD P "__weakref__" 507 (.ref 257),kD P "__doc__" 508 .none] 4),#[]⟩)::(nat_lit 255,⟨(.type "type"),none,(.cls ⟨"Family",[(.type "object")],[(.ref 255),(.type "object")],254,"Family",true,[],[(.ref 332),(.ref 386)],false,none,false⟩),#[none,none,(some (.str "Family" 397)),(some (.str "Family" 405)),(some (.builtin "object.__new__")),(some (.bool true))]⟩)::(nat_lit 256,⟨(.type "getset_descriptor"),none,(.fields #[(.str "__dict__" 504),(.ref 255),(.builtin "function.__dict__"),(.builtin "function.__dict__#set")]),#[]⟩)::(nat_lit 257,⟨(.type "getset_descriptor"),none,(.fields #[(.str "__weakref__" 506),(.ref 255),(.builtin "ExceptionGroup.__weakref__"),.none]),#[]⟩)::(nat_lit 272,(kC "__init__" "SplitFamily.__init__" 523 89 2 (.ref 267) (.ref 268) .none (.ref 269) (.ref 270) (.ref 271) 528))::(nat_lit 273,(kF "__init__" "SplitFamily.__init__" (inClass (top 19) 0) "countkin.kin" 395 272))::(nat_lit 300,(kC "unchecked_many" "SplitFamily.unchecked_many" 555 101 2 (.ref 295) (.ref 296) .none (.ref 297) (.ref 298) (.ref 299) 560))::(nat_lit 301,(kF "unchecked_many" "SplitFamily.unchecked_many" (inClass (top 19) 4) "countkin.kin" 395 300))::(nat_lit 314,(kC "unchecked_thing" "SplitFamily.unchecked_thing" 571 107 3 (.ref 309) (.ref 310) .none (.ref 311) (.ref 312) (.ref 313) 577))::(nat_lit 315,(kF "unchecked_thing" "SplitFamily.unchecked_thing" (inClass (top 19) 6) "countkin.kin" 395 314))::(nat_lit 328,(kC "thing_by_parts" "SplitFamily.thing_by_parts" 589 113 4 (.ref 323) (.ref 324) .none (.ref 325) (.ref 326) (.ref 327) 601))::(nat_lit 329,(kF "thing_by_parts" "SplitFamily.thing_by_parts" (inClass (top 19) 8) "countkin.kin" 395 328))::(nat_lit 331,⟨(.type "dict"),none,(.dict #[kD P "__module__" 518 (.str "countkin.kin" 395),kD P "__firstlineno__" 522 (.int 87 521),kD P "__init__" 530 (.ref 273),kD P "bare" 537 (.ref 280),kD P "parted" 545 (.ref 287),kD P "joined" 554 (.ref 294),kD P "unchecked_many" 562 (.ref 301),kD P "unchecked_number" 570 (.ref 308),kD P "unchecked_thing" 579 (.ref 315),kD P "number_by_parts" 588 (.ref 322),kD P "thing_by_parts" 603 (.ref 329),kD P "__static_attributes__" 604 (.ref 330),kD P "__doc__" 605 .none] 2),#[]⟩)::(nat_lit 332,⟨(.type "type"),none,(.cls ⟨"SplitFamily",[(.ref 255)],[(.ref 332),(.ref 255),(.type "object")],331,"SplitFamily",true,[],[(.ref 564),(.ref 632),(.ref 686),(.ref 740),(.ref 842),(.ref 890),(.ref 949)],false,none,false⟩),#[(some (.ref 260)),none,(some (.str "SplitFamily" 511)),(some (.str "SplitFamily" 519)),(some (.builtin "object.__new__")),(some (.bool true))]⟩)::(nat_lit 347,(kC "__init__" "RingFamily.__init__" 622 128 2 (.ref 342) (.ref 343) .none (.ref 344) (.ref 345) (.ref 346) 627))::(nat_lit 348,(kF "__init__" "RingFamily.__init__" (inClass (top 21) 0) "countkin.ring" 608 347))::(nat_lit 368,(kC "unchecked_many" "RingFamily.unchecked_many" 646 137 2 (.ref 363) (.ref 364) .none (.ref 365) (.ref 366) (.ref 367) 651))::(nat_lit 369,(kF "unchecked_many" "RingFamily.unchecked_many" (inClass (top 21) 3) "countkin.ring" 608 368))::(nat_lit 382,(kC "unchecked_thing" "RingFamily.unchecked_thing" 662 143 3 (.ref 377) (.ref 378) .none (.ref 379) (.ref 380) (.ref 381) 668))::(nat_lit 383,(kF "unchecked_thing" "RingFamily.unchecked_thing" (inClass (top 21) 5) "countkin.ring" 608 382))::(nat_lit 385,⟨(.type "dict"),none,(.dict #[kD P "__module__" 617 (.str "countkin.ring" 608),kD P "__firstlineno__" 621 (.int 126 620),kD P "__init__" 629 (.ref 348),kD P "code_of" 637 (.ref 355),kD P "of_code" 645 (.ref 362),kD P "unchecked_many" 653 (.ref 369),kD P "unchecked_number" 661 (.ref 376),kD P "unchecked_thing" 670 (.ref 383),kD P "__static_attributes__" 671 (.ref 384),kD P "__doc__" 672 .none] 2),#[]⟩)::(nat_lit 386,⟨(.type "type"),none,(.cls ⟨"RingFamily",[(.ref 255)],[(.ref 386),(.ref 255),(.type "object")],385,"RingFamily",true,[],[(.ref 438),(.ref 481),(.ref 783)],false,none,false⟩),#[(some (.ref 335)),none,(some (.str "RingFamily" 610)),(some (.str "RingFamily" 618)),(some (.builtin "object.__new__")),(some (.bool true))]⟩)::(nat_lit 394,(kC "number_figures" "number_figures" 675 145 3 (.ref 389) (.ref 390) .none (.ref 391) (.ref 392) (.ref 393) 684))::(nat_lit 395,(kF "number_figures" "number_figures" (top 22) "countkin.ring" 608 394))::(nat_lit 408,(kC "__init__" "Codes.__init__" 699 154 1 (.ref 403) (.ref 404) .none (.ref 405) (.ref 406) (.ref 407) 703))::(nat_lit 409,(kF "__init__" "Codes.__init__" (inClass (top 23) 0) "countkin.ring" 608 408))::(nat_lit 420,(kC "is_one" "Codes.is_one" 714 160 2 (.ref 417) (.ref 418) .none .none .none (.ref 419) 717))::(nat_lit 421,(kF "is_one" "Codes.is_one" (inClass (top 23) 2) "countkin.ring" 608 420))::(nat_lit 434,(kC "of_code" "Codes.of_code" 728 167 2 (.ref 429) (.ref 430) .none (.ref 431) (.ref 432) (.ref 433) 733))::(nat_lit 435,(kF "of_code" "Codes.of_code" (inClass (top 23) 4) "countkin.ring" 608 434))::(nat_lit 437,⟨(.type "dict"),none,(.dict #[kD P "__module__" 694 (.str "countkin.ring" 608),kD P "__firstlineno__" 698 (.int 152 697),kD P "__init__" 705 (.ref 409),kD P "size_of" 713 (.ref 416),kD P "is_one" 719 (.ref 421),kD P "code_of" 727 (.ref 428),kD P "of_code" 735 (.ref 435),kD P "__static_attributes__" 736 (.ref 436),kD P "__doc__" 737 .none] 2),#[]⟩)::(nat_lit 438,⟨(.type "type"),none,(.cls ⟨"Codes",[(.ref 386)],[(.ref 438),(.ref 386),(.ref 255),(.type "object")],437,"Codes",true,[],[],false,none,false⟩),#[(some (.ref 396)),none,(some (.str "Codes" 687)),(some (.str "Codes" 695)),(some (.builtin "object.__new__")),(some (.bool true))]⟩)::(nat_lit 453,(kC "__init__" "Cars.__init__" 754 172 1 (.ref 448) (.ref 449) .none (.ref 450) (.ref 451) (.ref 452) 758))::(nat_lit 454,(kF "__init__" "Cars.__init__" (inClass (top 25) 0) "countkin.cars" 740 453))::(nat_lit 465,(kC "is_one" "Cars.is_one" 769 178 2 (.ref 462) (.ref 463) .none .none .none (.ref 464) 772))::(nat_lit 466,(kF "is_one" "Cars.is_one" (inClass (top 25) 2) "countkin.cars" 740 465))::(nat_lit 477,(kC "of_code" "Cars.of_code" 783 186 2 (.ref 474) (.ref 475) .none .none .none (.ref 476) 786))::(nat_lit 478,(kF "of_code" "Cars.of_code" (inClass (top 25) 4) "countkin.cars" 740 477))::(nat_lit 480,⟨(.type "dict"),none,(.dict #[kD P "__module__" 749 (.str "countkin.cars" 740),kD P "__firstlineno__" 753 (.int 170 752),kD P "__init__" 760 (.ref 454),kD P "size_of" 768 (.ref 461),kD P "is_one" 774 (.ref 466),kD P "code_of" 782 (.ref 473),kD P "of_code" 788 (.ref 478),kD P "__static_attributes__" 789 (.ref 479),kD P "__doc__" 790 .none] 2),#[]⟩)::(nat_lit 481,⟨(.type "type"),none,(.cls ⟨"Cars",[(.ref 386)],[(.ref 481),(.ref 386),(.ref 255),(.type "object")],480,"Cars",true,[],[],false,none,false⟩),#[(some (.ref 441)),none,(some (.str "Cars" 742)),(some (.str "Cars" 750)),(some (.builtin "object.__new__")),(some (.bool true))]⟩)::(nat_lit 499,(kC "flat" "flat" 807 199 1 (.ref 494) (.ref 495) .none (.ref 496) (.ref 497) (.ref 498) 813))::(nat_lit 500,(kF "flat" "flat" (top 29) "countkin.common" 793 499))::(nat_lit 506,(kC "each_once" "each_once" 816 204 1 (.ref 501) (.ref 502) .none (.ref 503) (.ref 504) (.ref 505) 820))::(nat_lit 507,(kF "each_once" "each_once" (top 30) "countkin.common" 793 506))::(nat_lit 513,(kC "any_cross" "any_cross" 823 206 1 (.ref 508) (.ref 509) .none (.ref 510) (.ref 511) (.ref 512) 831))::(nat_lit 514,(kF "any_cross" "any_cross" (top 31) "countkin.common" 793 513))::(nat_lit 527,(kC "__init__" "Floors.__init__" 848 215 1 (.ref 522) (.ref 523) .none (.ref 524) (.ref 525) (.ref 526) 852))::(nat_lit 528,(kF "__init__" "Floors.__init__" (inClass (top 33) 0) "countkin.floors" 834 527))::(nat_lit 539,(kC "is_one" "Floors.is_one" 863 221 2 (.ref 536) (.ref 537) .none .none .none (.ref 538) 866))::(nat_lit 540,(kF "is_one" "Floors.is_one" (inClass (top 33) 2) "countkin.floors" 834 539))::(nat_lit 546,(kC "bare" "Floors.bare" 869 230 1 (.ref 541) (.ref 542) .none (.ref 543) (.ref 544) (.ref 545) 873))::(nat_lit 547,(kF "bare" "Floors.bare" (inClass (top 33) 3) "countkin.floors" 834 546))::(nat_lit 563,⟨(.type "dict"),none,(.dict #[kD P "__module__" 843 (.str "countkin.floors" 834),kD P "__firstlineno__" 847 (.int 213 846),kD P "__init__" 854 (.ref 528),kD P "size_of" 862 (.ref 535),kD P "is_one" 868 (.ref 540),kD P "bare" 875 (.ref 547),kD P "parted" 883 (.ref 554),kD P "joined" 895 (.ref 561),kD P "__static_attributes__" 896 (.ref 562),kD P "__doc__" 897 .none] 2),#[]⟩)::(nat_lit 564,⟨(.type "type"),none,(.cls ⟨"Floors",[(.ref 332)],[(.ref 564),(.ref 332),(.ref 255),(.type "object")],563,"Floors",true,[],[],false,none,false⟩),#[(some (.ref 515)),none,(some (.str "Floors" 836)),(some (.str "Floors" 844)),(some (.builtin "object.__new__")),(some (.bool true))]⟩)::(nat_lit 572,(kC "may_be_cut" "may_be_cut" 900 245 3 (.ref 567) (.ref 568) .none (.ref 569) (.ref 570) (.ref 571) 906))::(nat_lit 573,(kF "may_be_cut" "may_be_cut" (top 34) "countkin.floors" 834 572))::(nat_lit 579,(kC "closes" "closes" 911 248 1 (.ref 574) (.ref 575) .none (.ref 576) (.ref 577) (.ref 578) 917))::(nat_lit 580,(kF "closes" "closes" (top 36) "countkin.steps" 909 579))::(nat_lit 593,(kC "__init__" "Brackets.__init__" 934 261 1 (.ref 588) (.ref 589) .none (.ref 590) (.ref 591) (.ref 592) 938))::(nat_lit 594,(kF "__init__" "Brackets.__init__" (inClass (top 38) 0) "countkin.signs" 920 593))::(nat_lit 607,(kC "is_one" "Brackets.is_one" 949 267 2 (.ref 602) (.ref 603) .none (.ref 604) (.ref 605) (.ref 606) 954))::(nat_lit 608,(kF "is_one" "Brackets.is_one" (inClass (top 38) 2) "countkin.signs" 920 607))::(nat_lit 614,(kC "bare" "Brackets.bare" 957 270 1 (.ref 609) (.ref 610) .none (.ref 611) (.ref 612) (.ref 613) 961))::(nat_lit 615,(kF "bare" "Brackets.bare" (inClass (top 38) 3) "countkin.signs" 920 614))::(nat_lit 631,⟨(.type "dict"),none,(.dict #[kD P "__module__" 929 (.str "countkin.signs" 920),kD P "__firstlineno__" 933 (.int 259 932),kD P "__init__" 940 (.ref 594),kD P "size_of" 948 (.ref 601),kD P "is_one" 956 (.ref 608),kD P "bare" 963 (.ref 615),kD P "parted" 971 (.ref 622),kD P "joined" 980 (.ref 629),kD P "__static_attributes__" 981 (.ref 630),kD P "__doc__" 982 .none] 2),#[]⟩)::(nat_lit 632,⟨(.type "type"),none,(.cls ⟨"Brackets",[(.ref 332)],[(.ref 632),(.ref 332),(.ref 255),(.type "object")],631,"Brackets",true,[],[],false,none,false⟩),#[(some (.ref 581)),none,(some (.str "Brackets" 922)),(some (.str "Brackets" 930)),(some (.builtin "object.__new__")),(some (.bool true))]⟩)::(nat_lit 647,(kC "__init__" "Stairs.__init__" 997 280 1 (.ref 642) (.ref 643) .none (.ref 644) (.ref 645) (.ref 646) 1001))::(nat_lit 648,(kF "__init__" "Stairs.__init__" (inClass (top 39) 0) "countkin.signs" 920 647))::(nat_lit 661,(kC "is_one" "Stairs.is_one" 1012 286 2 (.ref 656) (.ref 657) .none (.ref 658) (.ref 659) (.ref 660) 1020))::(nat_lit 662,(kF "is_one" "Stairs.is_one" (inClass (top 39) 2) "countkin.signs" 920 661))::(nat_lit 668,(kC "bare" "Stairs.bare" 1023 294 1 (.ref 663) (.ref 664) .none (.ref 665) (.ref 666) (.ref 667) 1027))::(nat_lit 669,(kF "bare" "Stairs.bare" (inClass (top 39) 3) "countkin.signs" 920 668))::(nat_lit 685,⟨(.type "dict"),none,(.dict #[kD P "__module__" 992 (.str "countkin.signs" 920),kD P "__firstlineno__" 996 (.int 278 995),kD P "__init__" 1003 (.ref 648),kD P "size_of" 1011 (.ref 655),kD P "is_one" 1022 (.ref 662),kD P "bare" 1029 (.ref 669),kD P "parted" 1037 (.ref 676),kD P "joined" 1046 (.ref 683),kD P "__static_attributes__" 1047 (.ref 684),kD P "__doc__" 1048 .none] 2),#[]⟩)::(nat_lit 686,⟨(.type "type"),none,(.cls ⟨"Stairs",[(.ref 332)],[(.ref 686),(.ref 332),(.ref 255),(.type "object")],685,"Stairs",true,[],[],false,none,false⟩),#[(some (.ref 635)),none,(some (.str "Stairs" 985)),(some (.str "Stairs" 993)),(some (.builtin "object.__new__")),(some (.bool true))]⟩)::(nat_lit 701,(kC "__init__" "Twins.__init__" 1065 305 1 (.ref 696) (.ref 697) .none (.ref 698) (.ref 699) (.ref 700) 1069))::(nat_lit 702,(kF "__init__" "Twins.__init__" (inClass (top 41) 0) "countkin.twigs" 1051 701))::(nat_lit 715,(kC "is_one" "Twins.is_one" 1083 318 2 (.ref 710) (.ref 711) .none (.ref 712) (.ref 713) (.ref 714) 1088))::(nat_lit 716,(kF "is_one" "Twins.is_one" (inClass (top 41) 2) "countkin.twigs" 1051 715))::(nat_lit 722,(kC "bare" "Twins.bare" 1091 321 1 (.ref 717) (.ref 718) .none (.ref 719) (.ref 720) (.ref 721) 1095))::(nat_lit 723,(kF "bare" "Twins.bare" (inClass (top 41) 3) "countkin.twigs" 1051 722))::(nat_lit 739,⟨(.type "dict"),none,(.dict #[kD P "__module__" 1060 (.str "countkin.twigs" 1051),kD P "__firstlineno__" 1064 (.int 303 1063),kD P "__init__" 1071 (.ref 702),kD P "size_of" 1082 (.ref 709),kD P "is_one" 1090 (.ref 716),kD P "bare" 1097 (.ref 723),kD P "parted" 1105 (.ref 730),kD P "joined" 1114 (.ref 737),kD P "__static_attributes__" 1115 (.ref 738),kD P "__doc__" 1116 .none] 2),#[]⟩)::(nat_lit 740,⟨(.type "type"),none,(.cls ⟨"Twins",[(.ref 332)],[(.ref 740),(.ref 332),(.ref 255),(.type "object")],739,"Twins",true,[],[],false,none,false⟩),#[(some (.ref 689)),none,(some (.str "Twins" 1053)),(some (.str "Twins" 1061)),(some (.builtin "object.__new__")),(some (.bool true))]⟩)::(nat_lit 755,(kC "__init__" "Trees.__init__" 1133 332 1 (.ref 750) (.ref 751) .none (.ref 752) (.ref 753) (.ref 754) 1137))::(nat_lit 756,(kF "__init__" "Trees.__init__" (inClass (top 43) 0) "countkin.elders" 1119 755))::(nat_lit 767,(kC "is_one" "Trees.is_one" 1148 338 2 (.ref 764) (.ref 765) .none .none .none (.ref 766) 1151))::(nat_lit 768,(kF "is_one" "Trees.is_one" (inClass (top 43) 2) "countkin.elders" 1119 767))::(nat_lit 779,(kC "of_code" "Trees.of_code" 1162 347 2 (.ref 776) (.ref 777) .none .none .none (.ref 778) 1165))::(nat_lit 780,(kF "of_code" "Trees.of_code" (inClass (top 43) 4) "countkin.elders" 1119 779))::(nat_lit 782,⟨(.type "dict"),none,(.dict #[kD P "__module__" 1128 (.str "countkin.elders" 1119),kD P "__firstlineno__" 1132 (.int 330 1131),kD P "__init__" 1139 (.ref 756),kD P "size_of" 1147 (.ref 763),kD P "is_one" 1153 (.ref 768),kD P "code_of" 1161 (.ref 775),kD P "of_code" 1167 (.ref 780),kD P "__static_attributes__" 1168 (.ref 781),kD P "__doc__" 1169 .none] 2),#[]⟩)::(nat_lit 783,⟨(.type "type"),none,(.cls ⟨"Trees",[(.ref 386)],[(.ref 783),(.ref 386),(.ref 255),(.type "object")],782,"Trees",true,[],[],false,none,false⟩),#[(some (.ref 743)),none,(some (.str "Trees" 1121)),(some (.str "Trees" 1129)),(some (.builtin "object.__new__")),(some (.bool true))]⟩)::(nat_lit 791,(kC "comes_to_0" "comes_to_0" 1172 356 2 (.ref 786) (.ref 787) .none (.ref 788) (.ref 789) (.ref 790) 1179))::(nat_lit 792,(kF "comes_to_0" "comes_to_0" (top 44) "countkin.elders" 1119 791))::(nat_lit 805,(kC "__init__" "Bows.__init__" 1196 365 1 (.ref 800) (.ref 801) .none (.ref 802) (.ref 803) (.ref 804) 1200))::(nat_lit 806,(kF "__init__" "Bows.__init__" (inClass (top 46) 0) "countkin.bends" 1182 805))::(nat_lit 817,(kC "is_one" "Bows.is_one" 1211 371 2 (.ref 814) (.ref 815) .none .none .none (.ref 816) 1214))::(nat_lit 818,(kF "is_one" "Bows.is_one" (inClass (top 46) 2) "countkin.bends" 1182 817))::(nat_lit 824,(kC "bare" "Bows.bare" 1217 376 1 (.ref 819) (.ref 820) .none (.ref 821) (.ref 822) (.ref 823) 1221))::(nat_lit 825,(kF "bare" "Bows.bare" (inClass (top 46) 3) "countkin.bends" 1182 824))::(nat_lit 841,⟨(.type "dict"),none,(.dict #[kD P "__module__" 1191 (.str "countkin.bends" 1182),kD P "__firstlineno__" 1195 (.int 363 1194),kD P "__init__" 1202 (.ref 806),kD P "size_of" 1210 (.ref 813),kD P "is_one" 1216 (.ref 818),kD P "bare" 1223 (.ref 825),kD P "parted" 1231 (.ref 832),kD P "joined" 1241 (.ref 839),kD P "__static_attributes__" 1242 (.ref 840),kD P "__doc__" 1243 .none] 2),#[]⟩)::(nat_lit 842,⟨(.type "type"),none,(.cls ⟨"Bows",[(.ref 332)],[(.ref 842),(.ref 332),(.ref 255),(.type "object")],841,"Bows",true,[],[],false,none,false⟩),#[(some (.ref 793)),none,(some (.str "Bows" 1184)),(some (.str "Bows" 1192)),(some (.builtin "object.__new__")),(some (.bool true))]⟩)::(nat_lit 857,(kC "__init__" "Rooms.__init__" 1258 387 1 (.ref 852) (.ref 853) .none (.ref 854) (.ref 855) (.ref 856) 1262))::(nat_lit 858,(kF "__init__" "Rooms.__init__" (inClass (top 47) 0) "countkin.bends" 1182 857))::(nat_lit 867,(kC "is_one" "Rooms.is_one" 1271 393 2 (.ref 864) (.ref 865) .none .none .none (.ref 866) 1274))::(nat_lit 868,(kF "is_one" "Rooms.is_one" (inClass (top 47) 2) "countkin.bends" 1182 867))::(nat_lit 874,(kC "bare" "Rooms.bare" 1277 398 1 (.ref 869) (.ref 870) .none (.ref 871) (.ref 872) (.ref 873) 1281))::(nat_lit 875,(kF "bare" "Rooms.bare" (inClass (top 47) 3) "countkin.bends" 1182 874))::(nat_lit 889,⟨(.type "dict"),none,(.dict #[kD P "__module__" 1253 (.str "countkin.bends" 1182),kD P "__firstlineno__" 1257 (.int 385 1256),kD P "__init__" 1264 (.ref 858),kD P "size_of" 1270 (.ref 863),kD P "is_one" 1276 (.ref 868),kD P "bare" 1283 (.ref 875),kD P "parted" 1291 (.ref 882),kD P "joined" 1297 (.ref 887),kD P "__static_attributes__" 1298 (.ref 888),kD P "__doc__" 1299 .none] 2),#[]⟩)::(nat_lit 890,⟨(.type "type"),none,(.cls ⟨"Rooms",[(.ref 332)],[(.ref 890),(.ref 332),(.ref 255),(.type "object")],889,"Rooms",true,[],[],false,none,false⟩),#[(some (.ref 845)),none,(some (.str "Rooms" 1246)),(some (.str "Rooms" 1254)),(some (.builtin "object.__new__")),(some (.bool true))]⟩)::(nat_lit 896,(kC "neighbours" "neighbours" 1302 414 1 (.ref 893) (.ref 894) .none .none .none (.ref 895) 1305))::(nat_lit 897,(kF "neighbours" "neighbours" (top 48) "countkin.bends" 1182 896))::(nat_lit 910,(kC "__init__" "Turns.__init__" 1322 419 1 (.ref 905) (.ref 906) .none (.ref 907) (.ref 908) (.ref 909) 1326))::(nat_lit 911,(kF "__init__" "Turns.__init__" (inClass (top 50) 0) "countkin.rows" 1308 910))::(nat_lit 924,(kC "is_one" "Turns.is_one" 1337 425 2 (.ref 919) (.ref 920) .none (.ref 921) (.ref 922) (.ref 923) 1342))::(nat_lit 925,(kF "is_one" "Turns.is_one" (inClass (top 50) 2) "countkin.rows" 1308 924))::(nat_lit 931,(kC "bare" "Turns.bare" 1345 428 1 (.ref 926) (.ref 927) .none (.ref 928) (.ref 929) (.ref 930) 1349))::(nat_lit 932,(kF "bare" "Turns.bare" (inClass (top 50) 3) "countkin.rows" 1308 931))::(nat_lit 948,⟨(.type "dict"),none,(.dict #[kD P "__module__" 1317 (.str "countkin.rows" 1308),kD P "__firstlineno__" 1321 (.int 417 1320),kD P "__init__" 1328 (.ref 911),kD P "size_of" 1336 (.ref 918),kD P "is_one" 1344 (.ref 925),kD P "bare" 1351 (.ref 932),kD P "parted" 1359 (.ref 939),kD P "joined" 1368 (.ref 946),kD P "__static_attributes__" 1369 (.ref 947),kD P "__doc__" 1370 .none] 2),#[]⟩)::(nat_lit 949,⟨(.type "type"),none,(.cls ⟨"Turns",[(.ref 332)],[(.ref 949),(.ref 332),(.ref 255),(.type "object")],948,"Turns",true,[],[],false,none,false⟩),#[(some (.ref 898)),none,(some (.str "Turns" 1310)),(some (.str "Turns" 1318)),(some (.builtin "object.__new__")),(some (.bool true))]⟩)::(nat_lit 957,(kC "comes_off_a_stack" "comes_off_a_stack" 1373 436 1 (.ref 952) (.ref 953) .none (.ref 954) (.ref 955) (.ref 956) 1380))::(nat_lit 958,(kF "comes_off_a_stack" "comes_off_a_stack" (top 51) "countkin.rows" 1308 957))::(nat_lit 964,(kC "split_families" "split_families" 1385 447 0 (.ref 959) (.ref 960) .none (.ref 961) (.ref 962) (.ref 963) 1388))::(nat_lit 965,(kF "split_families" "split_families" (top 53) "countkin.names" 1383 964))::(nat_lit 971,(kC "ring_families" "ring_families" 1391 449 0 (.ref 966) (.ref 967) .none (.ref 968) (.ref 969) (.ref 970) 1394))::(nat_lit 972,(kF "ring_families" "ring_families" (top 54) "countkin.names" 1383 971))::(nat_lit 978,(kC "family_of" "family_of" 1397 451 1 (.ref 973) (.ref 974) .none (.ref 975) (.ref 976) (.ref 977) 1402))::(nat_lit 979,(kF "family_of" "family_of" (top 55) "countkin.names" 1383 978))::(nat_lit 997,(kC "written_row" "written_row" 1426 468 2 (.ref 992) (.ref 993) .none (.ref 994) (.ref 995) (.ref 996) 1431))::(nat_lit 998,(kF "written_row" "written_row" (top 62) "countkin.forms" 1405 997))::(nat_lit 1009,(kC "written_numbers" "written_numbers" 1442 476 1 (.ref 1006) (.ref 1007) .none .none .none (.ref 1008) 1445))::(nat_lit 1010,(kF "written_numbers" "written_numbers" (top 64) "countkin.forms" 1405 1009))::(nat_lit 1014,(kC "read_numbers" "read_numbers" 1448 478 1 (.ref 1011) (.ref 1012) .none .none .none (.ref 1013) 1451))::(nat_lit 1015,(kF "read_numbers" "read_numbers" (top 65) "countkin.forms" 1405 1014))::(nat_lit 1021,(kC "written_brackets" "written_brackets" 1454 480 1 (.ref 1016) (.ref 1017) .none (.ref 1018) (.ref 1019) (.ref 1020) 1458))::(nat_lit 1022,(kF "written_brackets" "written_brackets" (top 66) "countkin.forms" 1405 1021))::(nat_lit 1026,(kC "read_brackets" "read_brackets" 1461 482 1 (.ref 1023) (.ref 1024) .none .none .none (.ref 1025) 1464))::(nat_lit 1027,(kF "read_brackets" "read_brackets" (top 67) "countkin.forms" 1405 1026))::(nat_lit 1033,(kC "written_pair" "written_pair" 1467 488 2 (.ref 1028) (.ref 1029) .none (.ref 1030) (.ref 1031) (.ref 1032) 1472))::(nat_lit 1034,(kF "written_pair" "written_pair" (top 68) "countkin.forms" 1405 1033))::(nat_lit 1045,(kC "written_bows" "written_bows" 1483 495 1 (.ref 1042) (.ref 1043) .none .none .none (.ref 1044) 1486))::(nat_lit 1046,(kF "written_bows" "written_bows" (top 70) "countkin.forms" 1405 1045))::(nat_lit 1050,(kC "read_bows" "read_bows" 1489 497 1 (.ref 1047) (.ref 1048) .none .none .none (.ref 1049) 1492))::(nat_lit 1051,(kF "read_bows" "read_bows" (top 71) "countkin.forms" 1405 1050))::(nat_lit 1055,(kC "written_room" "written_room" 1495 499 1 (.ref 1052) (.ref 1053) .none .none .none (.ref 1054) 1498))::(nat_lit 1056,(kF "written_room" "written_room" (top 72) "countkin.forms" 1405 1055))::(nat_lit 1065,(kC "written_rooms" "written_rooms" 1507 503 1 (.ref 1062) (.ref 1063) .none .none .none (.ref 1064) 1510))::(nat_lit 1066,(kF "written_rooms" "written_rooms" (top 74) "countkin.forms" 1405 1065))::(nat_lit 1070,(kC "read_rooms" "read_rooms" 1513 505 1 (.ref 1067) (.ref 1068) .none .none .none (.ref 1069) 1516))::(nat_lit 1071,(kF "read_rooms" "read_rooms" (top 75) "countkin.forms" 1405 1070))::(nat_lit 1075,(kC "written_floor" "written_floor" 1519 507 1 (.ref 1072) (.ref 1073) .none .none .none (.ref 1074) 1522))::(nat_lit 1076,(kF "written_floor" "written_floor" (top 76) "countkin.forms" 1405 1075))::(nat_lit 1080,(kC "read_floor" "read_floor" 1525 509 1 (.ref 1077) (.ref 1078) .none .none .none (.ref 1079) 1528))::(nat_lit 1081,(kF "read_floor" "read_floor" (top 77) "countkin.forms" 1405 1080))::(nat_lit 1087,(kC "written_twins" "written_twins" 1531 512 1 (.ref 1082) (.ref 1083) .none (.ref 1084) (.ref 1085) (.ref 1086) 1535))::(nat_lit 1088,(kF "written_twins" "written_twins" (top 78) "countkin.forms" 1405 1087))::(nat_lit 1094,(kC "read_twins" "read_twins" 1538 516 1 (.ref 1089) (.ref 1090) .none (.ref 1091) (.ref 1092) (.ref 1093) 1545))::(nat_lit 1095,(kF "read_twins" "read_twins" (top 79) "countkin.forms" 1405 1094))::(nat_lit 1101,(kC "form_of" "form_of" 1550 532 1 (.ref 1096) (.ref 1097) .none (.ref 1098) (.ref 1099) (.ref 1100) 1555))::(nat_lit 1102,(kF "form_of" "form_of" (top 81) "countkin.texts" 1548 1101))::(nat_lit 1108,(kC "written" "written" 1558 535 2 (.ref 1103) (.ref 1104) .none (.ref 1105) (.ref 1106) (.ref 1107) 1563))::(nat_lit 1109,(kF "written" "written" (top 82) "countkin.texts" 1548 1108))::(nat_lit 1115,(kC "_law_cell_at" "_law_cell_at" 1568 539 2 (.ref 1110) (.ref 1111) .none (.ref 1112) (.ref 1113) (.ref 1114) 1573))::(nat_lit 1116,(kF "_law_cell_at" "_law_cell_at" (top 84) "law_countkin_k62_written_refuses" 1566 1115))::(nat_lit 1120,(kC "_law_draws" "_law_draws" 1576 543 3 (.ref 1117) (.ref 1118) .none .none .none (.ref 1119) 1579))::(nat_lit 1121,(kF "_law_draws" "_law_draws" (top 85) "law_countkin_k62_written_refuses" 1566 1120))::(nat_lit 1127,(kC "_law_words" "_law_words" 1582 560 0 (.ref 1122) (.ref 1123) .none (.ref 1124) (.ref 1125) (.ref 1126) 1585))::(nat_lit 1128,(kF "_law_words" "_law_words" (top 86) "law_countkin_k62_written_refuses" 1566 1127))::(nat_lit 1134,(kC "_law_sign" "_law_sign" 1588 562 1 (.ref 1129) (.ref 1130) .none (.ref 1131) (.ref 1132) (.ref 1133) 1593))::(nat_lit 1135,(kF "_law_sign" "_law_sign" (top 87) "law_countkin_k62_written_refuses" 1566 1134))::(nat_lit 1139,(kC "_law_text" "_law_text" 1596 566 3 (.ref 1136) (.ref 1137) .none .none .none (.ref 1138) 1599))::(nat_lit 1140,(kF "_law_text" "_law_text" (top 88) "law_countkin_k62_written_refuses" 1566 1139))::(nat_lit 1146,(kC "_law_amiss" "_law_amiss" 1602 581 2 (.ref 1141) (.ref 1142) .none (.ref 1143) (.ref 1144) (.ref 1145) 1608))::(nat_lit 1147,(kF "_law_amiss" "_law_amiss" (top 89) "law_countkin_k62_written_refuses" 1566 1146))::(nat_lit 1153,(kC "_law_classes" "_law_classes" 1611 592 1 (.ref 1148) (.ref 1149) .none (.ref 1150) (.ref 1151) (.ref 1152) 1616))::(nat_lit 1154,(kF "_law_classes" "_law_classes" (top 90) "law_countkin_k62_written_refuses" 1566 1153))::(nat_lit 1160,(kC "_law_refused" "_law_refused" 1619 605 2 (.ref 1155) (.ref 1156) .none (.ref 1157) (.ref 1158) (.ref 1159) 1626))::(nat_lit 1161,(kF "_law_refused" "_law_refused" (top 91) "law_countkin_k62_written_refuses" 1566 1160))::(nat_lit 1167,(kC "law" "law" 1629 612 1 (.ref 1162) (.ref 1163) .none (.ref 1164) (.ref 1165) (.ref 1166) 1638))::(nat_lit 1168,(kF "law" "law" (top 92) "law_countkin_k62_written_refuses" 1566 1167))::[]
noncomputable def BA (P:Ia):List Jz:=kD P "_law_text" 1601 (.ref 1140)::kD P "_law_amiss" 1610 (.ref 1147)::kD P "_law_classes" 1618 (.ref 1154)::kD P "_law_refused" 1628 (.ref 1161)::kD P "law" 1640 (.ref 1168)::[]
noncomputable def yV (P:Ia):List Jz:=kD P "written_floor" 1524 (.ref 1076)::kD P "read_floor" 1530 (.ref 1081)::kD P "written_twins" 1537 (.ref 1088)::kD P "read_twins" 1547 (.ref 1095)::kD P "form_of" 1557 (.ref 1102)::kD P "written" 1565 (.ref 1109)::kD P "_law_cell_at" 1575 (.ref 1116)::kD P "_law_draws" 1581 (.ref 1121)::kD P "_law_words" 1587 (.ref 1128)::kD P "_law_sign" 1595 (.ref 1135)::BA P
noncomputable def CF (P:Ia):List Jz:=kD P "written_brackets" 1460 (.ref 1022)::kD P "read_brackets" 1466 (.ref 1027)::kD P "written_pair" 1474 (.ref 1034)::kD P "read_pair" 1482 (.ref 1041)::kD P "written_bows" 1488 (.ref 1046)::kD P "read_bows" 1494 (.ref 1051)::kD P "written_room" 1500 (.ref 1056)::kD P "read_room" 1506 (.ref 1061)::kD P "written_rooms" 1512 (.ref 1066)::kD P "read_rooms" 1518 (.ref 1071)::yV P
noncomputable def z9 (P:Ia):List Jz:=kD P "family_of" 1404 (.ref 979)::kD P "NOTHING" 1408 (.str "-" 1407)::kD P "FIGURES" 1410 (.str "0123456789" 1409)::kD P "MOST_FIGURES" 1412 (.int 3 1411)::kD P "writes_number" 1418 (.ref 984)::kD P "read_number" 1425 (.ref 991)::kD P "written_row" 1433 (.ref 998)::kD P "read_row" 1441 (.ref 1005)::kD P "written_numbers" 1447 (.ref 1010)::kD P "read_numbers" 1453 (.ref 1015)::CF P
noncomputable def CV (P:Ia):List Jz:=kD P "Twins" 1118 (.ref 740)::kD P "Trees" 1171 (.ref 783)::kD P "comes_to_0" 1181 (.ref 792)::kD P "Bows" 1245 (.ref 842)::kD P "Rooms" 1301 (.ref 890)::kD P "neighbours" 1307 (.ref 897)::kD P "Turns" 1372 (.ref 949)::kD P "comes_off_a_stack" 1382 (.ref 958)::kD P "split_families" 1390 (.ref 965)::kD P "ring_families" 1396 (.ref 972)::z9 P
noncomputable def yJ (P:Ia):List Jz:=kD P "raised_by" 800 (.ref 488)::kD P "pairs_raised_by" 806 (.ref 493)::kD P "flat" 815 (.ref 500)::kD P "each_once" 822 (.ref 507)::kD P "any_cross" 833 (.ref 514)::kD P "Floors" 899 (.ref 564)::kD P "may_be_cut" 908 (.ref 573)::kD P "closes" 919 (.ref 580)::kD P "Brackets" 984 (.ref 632)::kD P "Stairs" 1050 (.ref 686)::CV P
noncomputable def CL (P:Ia):List Jz:=kD P "Apart" 337 (.ref 123)::kD P "NoMark" 353 (.ref 135)::kD P "NoText" 369 (.ref 147)::kD P "Broken" 394 (.ref 166)::kD P "Family" 510 (.ref 255)::kD P "SplitFamily" 607 (.ref 332)::kD P "RingFamily" 674 (.ref 386)::kD P "number_figures" 686 (.ref 395)::kD P "Codes" 739 (.ref 438)::kD P "Cars" 792 (.ref 481)::yJ P
noncomputable def CO (P:Ia):List Jz:=kD P "GREATEST_SIZE" 197 (.int 40 196)::kD P "shares" 203 (.ref 26)::kD P "by_rule" 212 (.ref 33)::kD P "ring_many" 221 (.ref 40)::kD P "KinError" 241 (.ref 50)::kD P "NoSize" 257 (.ref 63)::kD P "NoNumber" 273 (.ref 75)::kD P "NoThing" 289 (.ref 87)::kD P "NoFamily" 305 (.ref 99)::kD P "NoWay" 321 (.ref 111)::CL P
noncomputable def zO (P:Ia):List Jz:=kD P "__name__" 165 (.str "law_countkin_k62_written_refuses" 1566)::kD P "__doc__" 166 .none::kD P "__package__" 167 .none::kD P "__loader__" 168 (.builtin "__main__.__loader__#opaque")::kD P "__spec__" 169 .none::kD P "__annotations__" 170 (.ref 6)::kD P "__builtins__" 171 (.ref 4)::kD P "__file__" 173 (.str "/claim/cut.py" 172)::kD P "__cached__" 174 .none::kD P "_wall" 193 (.ref 21)::CO P
noncomputable def Fh (P:Ia):LS:=(nat_lit 1154,(kF "_law_classes" "_law_classes" (top 90) "law_countkin_k62_written_refuses" 1566 1153))::(nat_lit 1160,(kC "_law_refused" "_law_refused" 1619 605 2 (.ref 1155) (.ref 1156) .none (.ref 1157) (.ref 1158) (.ref 1159) 1626))::(nat_lit 1161,(kF "_law_refused" "_law_refused" (top 91) "law_countkin_k62_written_refuses" 1566 1160))::(nat_lit 1167,(kC "law" "law" 1629 612 1 (.ref 1162) (.ref 1163) .none (.ref 1164) (.ref 1165) (.ref 1166) 1638))::(nat_lit 1168,(kF "law" "law" (top 92) "law_countkin_k62_written_refuses" 1566 1167))::[]
noncomputable def FC (P:Ia):LS:=(nat_lit 1121,(kF "_law_draws" "_law_draws" (top 85) "law_countkin_k62_written_refuses" 1566 1120))::(nat_lit 1127,(kC "_law_words" "_law_words" 1582 560 0 (.ref 1122) (.ref 1123) .none (.ref 1124) (.ref 1125) (.ref 1126) 1585))::(nat_lit 1128,(kF "_law_words" "_law_words" (top 86) "law_countkin_k62_written_refuses" 1566 1127))::(nat_lit 1134,(kC "_law_sign" "_law_sign" 1588 562 1 (.ref 1129) (.ref 1130) .none (.ref 1131) (.ref 1132) (.ref 1133) 1593))::(nat_lit 1135,(kF "_law_sign" "_law_sign" (top 87) "law_countkin_k62_written_refuses" 1566 1134))::(nat_lit 1139,(kC "_law_text" "_law_text" 1596 566 3 (.ref 1136) (.ref 1137) .none .none .none (.ref 1138) 1599))::(nat_lit 1140,(kF "_law_text" "_law_text" (top 88) "law_countkin_k62_written_refuses" 1566 1139))::(nat_lit 1146,(kC "_law_amiss" "_law_amiss" 1602 581 2 (.ref 1141) (.ref 1142) .none (.ref 1143) (.ref 1144) (.ref 1145) 1608))::(nat_lit 1147,(kF "_law_amiss" "_law_amiss" (top 89) "law_countkin_k62_written_refuses" 1566 1146))::(nat_lit 1153,(kC "_law_classes" "_law_classes" 1611 592 1 (.ref 1148) (.ref 1149) .none (.ref 1150) (.ref 1151) (.ref 1152) 1616))::Fh P
noncomputable def Fq (P:Ia):LS:=(nat_lit 1088,(kF "written_twins" "written_twins" (top 78) "countkin.forms" 1405 1087))::(nat_lit 1094,(kC "read_twins" "read_twins" 1538 516 1 (.ref 1089) (.ref 1090) .none (.ref 1091) (.ref 1092) (.ref 1093) 1545))::(nat_lit 1095,(kF "read_twins" "read_twins" (top 79) "countkin.forms" 1405 1094))::(nat_lit 1101,(kC "form_of" "form_of" 1550 532 1 (.ref 1096) (.ref 1097) .none (.ref 1098) (.ref 1099) (.ref 1100) 1555))::(nat_lit 1102,(kF "form_of" "form_of" (top 81) "countkin.texts" 1548 1101))::(nat_lit 1108,(kC "written" "written" 1558 535 2 (.ref 1103) (.ref 1104) .none (.ref 1105) (.ref 1106) (.ref 1107) 1563))::(nat_lit 1109,(kF "written" "written" (top 82) "countkin.texts" 1548 1108))::(nat_lit 1115,(kC "_law_cell_at" "_law_cell_at" 1568 539 2 (.ref 1110) (.ref 1111) .none (.ref 1112) (.ref 1113) (.ref 1114) 1573))::(nat_lit 1116,(kF "_law_cell_at" "_law_cell_at" (top 84) "law_countkin_k62_written_refuses" 1566 1115))::(nat_lit 1120,(kC "_law_draws" "_law_draws" 1576 543 3 (.ref 1117) (.ref 1118) .none .none .none (.ref 1119) 1579))::FC P
noncomputable def Ft (P:Ia):LS:=(nat_lit 1056,(kF "written_room" "written_room" (top 72) "countkin.forms" 1405 1055))::(nat_lit 1065,(kC "written_rooms" "written_rooms" 1507 503 1 (.ref 1062) (.ref 1063) .none .none .none (.ref 1064) 1510))::(nat_lit 1066,(kF "written_rooms" "written_rooms" (top 74) "countkin.forms" 1405 1065))::(nat_lit 1070,(kC "read_rooms" "read_rooms" 1513 505 1 (.ref 1067) (.ref 1068) .none .none .none (.ref 1069) 1516))::(nat_lit 1071,(kF "read_rooms" "read_rooms" (top 75) "countkin.forms" 1405 1070))::(nat_lit 1075,(kC "written_floor" "written_floor" 1519 507 1 (.ref 1072) (.ref 1073) .none .none .none (.ref 1074) 1522))::(nat_lit 1076,(kF "written_floor" "written_floor" (top 76) "countkin.forms" 1405 1075))::(nat_lit 1080,(kC "read_floor" "read_floor" 1525 509 1 (.ref 1077) (.ref 1078) .none .none .none (.ref 1079) 1528))::(nat_lit 1081,(kF "read_floor" "read_floor" (top 77) "countkin.forms" 1405 1080))::(nat_lit 1087,(kC "written_twins" "written_twins" 1531 512 1 (.ref 1082) (.ref 1083) .none (.ref 1084) (.ref 1085) (.ref 1086) 1535))::Fq P
noncomputable def Fx (P:Ia):LS:=(nat_lit 1022,(kF "written_brackets" "written_brackets" (top 66) "countkin.forms" 1405 1021))::(nat_lit 1026,(kC "read_brackets" "read_brackets" 1461 482 1 (.ref 1023) (.ref 1024) .none .none .none (.ref 1025) 1464))::(nat_lit 1027,(kF "read_brackets" "read_brackets" (top 67) "countkin.forms" 1405 1026))::(nat_lit 1033,(kC "written_pair" "written_pair" 1467 488 2 (.ref 1028) (.ref 1029) .none (.ref 1030) (.ref 1031) (.ref 1032) 1472))::(nat_lit 1034,(kF "written_pair" "written_pair" (top 68) "countkin.forms" 1405 1033))::(nat_lit 1045,(kC "written_bows" "written_bows" 1483 495 1 (.ref 1042) (.ref 1043) .none .none .none (.ref 1044) 1486))::(nat_lit 1046,(kF "written_bows" "written_bows" (top 70) "countkin.forms" 1405 1045))::(nat_lit 1050,(kC "read_bows" "read_bows" 1489 497 1 (.ref 1047) (.ref 1048) .none .none .none (.ref 1049) 1492))::(nat_lit 1051,(kF "read_bows" "read_bows" (top 71) "countkin.forms" 1405 1050))::(nat_lit 1055,(kC "written_room" "written_room" 1495 499 1 (.ref 1052) (.ref 1053) .none .none .none (.ref 1054) 1498))::Ft P
noncomputable def Fe (P:Ia):LS:=(nat_lit 972,(kF "ring_families" "ring_families" (top 54) "countkin.names" 1383 971))::(nat_lit 978,(kC "family_of" "family_of" 1397 451 1 (.ref 973) (.ref 974) .none (.ref 975) (.ref 976) (.ref 977) 1402))::(nat_lit 979,(kF "family_of" "family_of" (top 55) "countkin.names" 1383 978))::(nat_lit 997,(kC "written_row" "written_row" 1426 468 2 (.ref 992) (.ref 993) .none (.ref 994) (.ref 995) (.ref 996) 1431))::(nat_lit 998,(kF "written_row" "written_row" (top 62) "countkin.forms" 1405 997))::(nat_lit 1009,(kC "written_numbers" "written_numbers" 1442 476 1 (.ref 1006) (.ref 1007) .none .none .none (.ref 1008) 1445))::(nat_lit 1010,(kF "written_numbers" "written_numbers" (top 64) "countkin.forms" 1405 1009))::(nat_lit 1014,(kC "read_numbers" "read_numbers" 1448 478 1 (.ref 1011) (.ref 1012) .none .none .none (.ref 1013) 1451))::(nat_lit 1015,(kF "read_numbers" "read_numbers" (top 65) "countkin.forms" 1405 1014))::(nat_lit 1021,(kC "written_brackets" "written_brackets" 1454 480 1 (.ref 1016) (.ref 1017) .none (.ref 1018) (.ref 1019) (.ref 1020) 1458))::Fx P
noncomputable def E6 (P:Ia):LS:=(nat_lit 925,(kF "is_one" "Turns.is_one" (inClass (top 50) 2) "countkin.rows" 1308 924))::(nat_lit 931,(kC "bare" "Turns.bare" 1345 428 1 (.ref 926) (.ref 927) .none (.ref 928) (.ref 929) (.ref 930) 1349))::(nat_lit 932,(kF "bare" "Turns.bare" (inClass (top 50) 3) "countkin.rows" 1308 931))::(nat_lit 948,⟨(.type "dict"),none,(.dict #[kD P "__module__" 1317 (.str "countkin.rows" 1308),kD P "__firstlineno__" 1321 (.int 417 1320),kD P "__init__" 1328 (.ref 911),kD P "size_of" 1336 (.ref 918),kD P "is_one" 1344 (.ref 925),kD P "bare" 1351 (.ref 932),kD P "parted" 1359 (.ref 939),kD P "joined" 1368 (.ref 946),kD P "__static_attributes__" 1369 (.ref 947),kD P "__doc__" 1370 .none] 2),#[]⟩)::(nat_lit 949,⟨(.type "type"),none,(.cls ⟨"Turns",[(.ref 332)],[(.ref 949),(.ref 332),(.ref 255),(.type "object")],948,"Turns",true,[],[],false,none,false⟩),#[(some (.ref 898)),none,(some (.str "Turns" 1310)),(some (.str "Turns" 1318)),(some (.builtin "object.__new__")),(some (.bool true))]⟩)::(nat_lit 957,(kC "comes_off_a_stack" "comes_off_a_stack" 1373 436 1 (.ref 952) (.ref 953) .none (.ref 954) (.ref 955) (.ref 956) 1380))::(nat_lit 958,(kF "comes_off_a_stack" "comes_off_a_stack" (top 51) "countkin.rows" 1308 957))::(nat_lit 964,(kC "split_families" "split_families" 1385 447 0 (.ref 959) (.ref 960) .none (.ref 961) (.ref 962) (.ref 963) 1388))::(nat_lit 965,(kF "split_families" "split_families" (top 53) "countkin.names" 1383 964))::(nat_lit 971,(kC "ring_families" "ring_families" 1391 449 0 (.ref 966) (.ref 967) .none (.ref 968) (.ref 969) (.ref 970) 1394))::Fe P
noncomputable def FE (P:Ia):LS:=(nat_lit 868,(kF "is_one" "Rooms.is_one" (inClass (top 47) 2) "countkin.bends" 1182 867))::(nat_lit 874,(kC "bare" "Rooms.bare" 1277 398 1 (.ref 869) (.ref 870) .none (.ref 871) (.ref 872) (.ref 873) 1281))::(nat_lit 875,(kF "bare" "Rooms.bare" (inClass (top 47) 3) "countkin.bends" 1182 874))::(nat_lit 889,⟨(.type "dict"),none,(.dict #[kD P "__module__" 1253 (.str "countkin.bends" 1182),kD P "__firstlineno__" 1257 (.int 385 1256),kD P "__init__" 1264 (.ref 858),kD P "size_of" 1270 (.ref 863),kD P "is_one" 1276 (.ref 868),kD P "bare" 1283 (.ref 875),kD P "parted" 1291 (.ref 882),kD P "joined" 1297 (.ref 887),kD P "__static_attributes__" 1298 (.ref 888),kD P "__doc__" 1299 .none] 2),#[]⟩)::(nat_lit 890,⟨(.type "type"),none,(.cls ⟨"Rooms",[(.ref 332)],[(.ref 890),(.ref 332),(.ref 255),(.type "object")],889,"Rooms",true,[],[],false,none,false⟩),#[(some (.ref 845)),none,(some (.str "Rooms" 1246)),(some (.str "Rooms" 1254)),(some (.builtin "object.__new__")),(some (.bool true))]⟩)::(nat_lit 896,(kC "neighbours" "neighbours" 1302 414 1 (.ref 893) (.ref 894) .none .none .none (.ref 895) 1305))::(nat_lit 897,(kF "neighbours" "neighbours" (top 48) "countkin.bends" 1182 896))::(nat_lit 910,(kC "__init__" "Turns.__init__" 1322 419 1 (.ref 905) (.ref 906) .none (.ref 907) (.ref 908) (.ref 909) 1326))::(nat_lit 911,(kF "__init__" "Turns.__init__" (inClass (top 50) 0) "countkin.rows" 1308 910))::(nat_lit 924,(kC "is_one" "Turns.is_one" 1337 425 2 (.ref 919) (.ref 920) .none (.ref 921) (.ref 922) (.ref 923) 1342))::E6 P
noncomputable def E9 (P:Ia):LS:=(nat_lit 806,(kF "__init__" "Bows.__init__" (inClass (top 46) 0) "countkin.bends" 1182 805))::(nat_lit 817,(kC "is_one" "Bows.is_one" 1211 371 2 (.ref 814) (.ref 815) .none .none .none (.ref 816) 1214))::(nat_lit 818,(kF "is_one" "Bows.is_one" (inClass (top 46) 2) "countkin.bends" 1182 817))::(nat_lit 824,(kC "bare" "Bows.bare" 1217 376 1 (.ref 819) (.ref 820) .none (.ref 821) (.ref 822) (.ref 823) 1221))::(nat_lit 825,(kF "bare" "Bows.bare" (inClass (top 46) 3) "countkin.bends" 1182 824))::(nat_lit 841,⟨(.type "dict"),none,(.dict #[kD P "__module__" 1191 (.str "countkin.bends" 1182),kD P "__firstlineno__" 1195 (.int 363 1194),kD P "__init__" 1202 (.ref 806),kD P "size_of" 1210 (.ref 813),kD P "is_one" 1216 (.ref 818),kD P "bare" 1223 (.ref 825),kD P "parted" 1231 (.ref 832),kD P "joined" 1241 (.ref 839),kD P "__static_attributes__" 1242 (.ref 840),kD P "__doc__" 1243 .none] 2),#[]⟩)::(nat_lit 842,⟨(.type "type"),none,(.cls ⟨"Bows",[(.ref 332)],[(.ref 842),(.ref 332),(.ref 255),(.type "object")],841,"Bows",true,[],[],false,none,false⟩),#[(some (.ref 793)),none,(some (.str "Bows" 1184)),(some (.str "Bows" 1192)),(some (.builtin "object.__new__")),(some (.bool true))]⟩)::(nat_lit 857,(kC "__init__" "Rooms.__init__" 1258 387 1 (.ref 852) (.ref 853) .none (.ref 854) (.ref 855) (.ref 856) 1262))::(nat_lit 858,(kF "__init__" "Rooms.__init__" (inClass (top 47) 0) "countkin.bends" 1182 857))::(nat_lit 867,(kC "is_one" "Rooms.is_one" 1271 393 2 (.ref 864) (.ref 865) .none .none .none (.ref 866) 1274))::FE P
noncomputable def EW (P:Ia):LS:=(nat_lit 756,(kF "__init__" "Trees.__init__" (inClass (top 43) 0) "countkin.elders" 1119 755))::(nat_lit 767,(kC "is_one" "Trees.is_one" 1148 338 2 (.ref 764) (.ref 765) .none .none .none (.ref 766) 1151))::(nat_lit 768,(kF "is_one" "Trees.is_one" (inClass (top 43) 2) "countkin.elders" 1119 767))::(nat_lit 779,(kC "of_code" "Trees.of_code" 1162 347 2 (.ref 776) (.ref 777) .none .none .none (.ref 778) 1165))::(nat_lit 780,(kF "of_code" "Trees.of_code" (inClass (top 43) 4) "countkin.elders" 1119 779))::(nat_lit 782,⟨(.type "dict"),none,(.dict #[kD P "__module__" 1128 (.str "countkin.elders" 1119),kD P "__firstlineno__" 1132 (.int 330 1131),kD P "__init__" 1139 (.ref 756),kD P "size_of" 1147 (.ref 763),kD P "is_one" 1153 (.ref 768),kD P "code_of" 1161 (.ref 775),kD P "of_code" 1167 (.ref 780),kD P "__static_attributes__" 1168 (.ref 781),kD P "__doc__" 1169 .none] 2),#[]⟩)::(nat_lit 783,⟨(.type "type"),none,(.cls ⟨"Trees",[(.ref 386)],[(.ref 783),(.ref 386),(.ref 255),(.type "object")],782,"Trees",true,[],[],false,none,false⟩),#[(some (.ref 743)),none,(some (.str "Trees" 1121)),(some (.str "Trees" 1129)),(some (.builtin "object.__new__")),(some (.bool true))]⟩)::(nat_lit 791,(kC "comes_to_0" "comes_to_0" 1172 356 2 (.ref 786) (.ref 787) .none (.ref 788) (.ref 789) (.ref 790) 1179))::(nat_lit 792,(kF "comes_to_0" "comes_to_0" (top 44) "countkin.elders" 1119 791))::(nat_lit 805,(kC "__init__" "Bows.__init__" 1196 365 1 (.ref 800) (.ref 801) .none (.ref 802) (.ref 803) (.ref 804) 1200))::E9 P
noncomputable def Fy (P:Ia):LS:=(nat_lit 686,⟨(.type "type"),none,(.cls ⟨"Stairs",[(.ref 332)],[(.ref 686),(.ref 332),(.ref 255),(.type "object")],685,"Stairs",true,[],[],false,none,false⟩),#[(some (.ref 635)),none,(some (.str "Stairs" 985)),(some (.str "Stairs" 993)),(some (.builtin "object.__new__")),(some (.bool true))]⟩)::(nat_lit 701,(kC "__init__" "Twins.__init__" 1065 305 1 (.ref 696) (.ref 697) .none (.ref 698) (.ref 699) (.ref 700) 1069))::(nat_lit 702,(kF "__init__" "Twins.__init__" (inClass (top 41) 0) "countkin.twigs" 1051 701))::(nat_lit 715,(kC "is_one" "Twins.is_one" 1083 318 2 (.ref 710) (.ref 711) .none (.ref 712) (.ref 713) (.ref 714) 1088))::(nat_lit 716,(kF "is_one" "Twins.is_one" (inClass (top 41) 2) "countkin.twigs" 1051 715))::(nat_lit 722,(kC "bare" "Twins.bare" 1091 321 1 (.ref 717) (.ref 718) .none (.ref 719) (.ref 720) (.ref 721) 1095))::(nat_lit 723,(kF "bare" "Twins.bare" (inClass (top 41) 3) "countkin.twigs" 1051 722))::(nat_lit 739,⟨(.type "dict"),none,(.dict #[kD P "__module__" 1060 (.str "countkin.twigs" 1051),kD P "__firstlineno__" 1064 (.int 303 1063),kD P "__init__" 1071 (.ref 702),kD P "size_of" 1082 (.ref 709),kD P "is_one" 1090 (.ref 716),kD P "bare" 1097 (.ref 723),kD P "parted" 1105 (.ref 730),kD P "joined" 1114 (.ref 737),kD P "__static_attributes__" 1115 (.ref 738),kD P "__doc__" 1116 .none] 2),#[]⟩)::(nat_lit 740,⟨(.type "type"),none,(.cls ⟨"Twins",[(.ref 332)],[(.ref 740),(.ref 332),(.ref 255),(.type "object")],739,"Twins",true,[],[],false,none,false⟩),#[(some (.ref 689)),none,(some (.str "Twins" 1053)),(some (.str "Twins" 1061)),(some (.builtin "object.__new__")),(some (.bool true))]⟩)::(nat_lit 755,(kC "__init__" "Trees.__init__" 1133 332 1 (.ref 750) (.ref 751) .none (.ref 752) (.ref 753) (.ref 754) 1137))::EW P
noncomputable def Fn (P:Ia):LS:=(nat_lit 615,(kF "bare" "Brackets.bare" (inClass (top 38) 3) "countkin.signs" 920 614))::(nat_lit 631,⟨(.type "dict"),none,(.dict #[kD P "__module__" 929 (.str "countkin.signs" 920),kD P "__firstlineno__" 933 (.int 259 932),kD P "__init__" 940 (.ref 594),kD P "size_of" 948 (.ref 601),kD P "is_one" 956 (.ref 608),kD P "bare" 963 (.ref 615),kD P "parted" 971 (.ref 622),kD P "joined" 980 (.ref 629),kD P "__static_attributes__" 981 (.ref 630),kD P "__doc__" 982 .none] 2),#[]⟩)::(nat_lit 632,⟨(.type "type"),none,(.cls ⟨"Brackets",[(.ref 332)],[(.ref 632),(.ref 332),(.ref 255),(.type "object")],631,"Brackets",true,[],[],false,none,false⟩),#[(some (.ref 581)),none,(some (.str "Brackets" 922)),(some (.str "Brackets" 930)),(some (.builtin "object.__new__")),(some (.bool true))]⟩)::(nat_lit 647,(kC "__init__" "Stairs.__init__" 997 280 1 (.ref 642) (.ref 643) .none (.ref 644) (.ref 645) (.ref 646) 1001))::(nat_lit 648,(kF "__init__" "Stairs.__init__" (inClass (top 39) 0) "countkin.signs" 920 647))::(nat_lit 661,(kC "is_one" "Stairs.is_one" 1012 286 2 (.ref 656) (.ref 657) .none (.ref 658) (.ref 659) (.ref 660) 1020))::(nat_lit 662,(kF "is_one" "Stairs.is_one" (inClass (top 39) 2) "countkin.signs" 920 661))::(nat_lit 668,(kC "bare" "Stairs.bare" 1023 294 1 (.ref 663) (.ref 664) .none (.ref 665) (.ref 666) (.ref 667) 1027))::(nat_lit 669,(kF "bare" "Stairs.bare" (inClass (top 39) 3) "countkin.signs" 920 668))::(nat_lit 685,⟨(.type "dict"),none,(.dict #[kD P "__module__" 992 (.str "countkin.signs" 920),kD P "__firstlineno__" 996 (.int 278 995),kD P "__init__" 1003 (.ref 648),kD P "size_of" 1011 (.ref 655),kD P "is_one" 1022 (.ref 662),kD P "bare" 1029 (.ref 669),kD P "parted" 1037 (.ref 676),kD P "joined" 1046 (.ref 683),kD P "__static_attributes__" 1047 (.ref 684),kD P "__doc__" 1048 .none] 2),#[]⟩)::Fy P
noncomputable def FR (P:Ia):LS:=(nat_lit 564,⟨(.type "type"),none,(.cls ⟨"Floors",[(.ref 332)],[(.ref 564),(.ref 332),(.ref 255),(.type "object")],563,"Floors",true,[],[],false,none,false⟩),#[(some (.ref 515)),none,(some (.str "Floors" 836)),(some (.str "Floors" 844)),(some (.builtin "object.__new__")),(some (.bool true))]⟩)::(nat_lit 572,(kC "may_be_cut" "may_be_cut" 900 245 3 (.ref 567) (.ref 568) .none (.ref 569) (.ref 570) (.ref 571) 906))::(nat_lit 573,(kF "may_be_cut" "may_be_cut" (top 34) "countkin.floors" 834 572))::(nat_lit 579,(kC "closes" "closes" 911 248 1 (.ref 574) (.ref 575) .none (.ref 576) (.ref 577) (.ref 578) 917))::(nat_lit 580,(kF "closes" "closes" (top 36) "countkin.steps" 909 579))::(nat_lit 593,(kC "__init__" "Brackets.__init__" 934 261 1 (.ref 588) (.ref 589) .none (.ref 590) (.ref 591) (.ref 592) 938))::(nat_lit 594,(kF "__init__" "Brackets.__init__" (inClass (top 38) 0) "countkin.signs" 920 593))::(nat_lit 607,(kC "is_one" "Brackets.is_one" 949 267 2 (.ref 602) (.ref 603) .none (.ref 604) (.ref 605) (.ref 606) 954))::(nat_lit 608,(kF "is_one" "Brackets.is_one" (inClass (top 38) 2) "countkin.signs" 920 607))::(nat_lit 614,(kC "bare" "Brackets.bare" 957 270 1 (.ref 609) (.ref 610) .none (.ref 611) (.ref 612) (.ref 613) 961))::Fn P
noncomputable def FX (P:Ia):LS:=(nat_lit 507,(kF "each_once" "each_once" (top 30) "countkin.common" 793 506))::(nat_lit 513,(kC "any_cross" "any_cross" 823 206 1 (.ref 508) (.ref 509) .none (.ref 510) (.ref 511) (.ref 512) 831))::(nat_lit 514,(kF "any_cross" "any_cross" (top 31) "countkin.common" 793 513))::(nat_lit 527,(kC "__init__" "Floors.__init__" 848 215 1 (.ref 522) (.ref 523) .none (.ref 524) (.ref 525) (.ref 526) 852))::(nat_lit 528,(kF "__init__" "Floors.__init__" (inClass (top 33) 0) "countkin.floors" 834 527))::(nat_lit 539,(kC "is_one" "Floors.is_one" 863 221 2 (.ref 536) (.ref 537) .none .none .none (.ref 538) 866))::(nat_lit 540,(kF "is_one" "Floors.is_one" (inClass (top 33) 2) "countkin.floors" 834 539))::(nat_lit 546,(kC "bare" "Floors.bare" 869 230 1 (.ref 541) (.ref 542) .none (.ref 543) (.ref 544) (.ref 545) 873))::(nat_lit 547,(kF "bare" "Floors.bare" (inClass (top 33) 3) "countkin.floors" 834 546))::(nat_lit 563,⟨(.type "dict"),none,(.dict #[kD P "__module__" 843 (.str "countkin.floors" 834),kD P "__firstlineno__" 847 (.int 213 846),kD P "__init__" 854 (.ref 528),kD P "size_of" 862 (.ref 535),kD P "is_one" 868 (.ref 540),kD P "bare" 875 (.ref 547),kD P "parted" 883 (.ref 554),kD P "joined" 895 (.ref 561),kD P "__static_attributes__" 896 (.ref 562),kD P "__doc__" 897 .none] 2),#[]⟩)::FR P
noncomputable def Ga (P:Ia):LS:=(nat_lit 454,(kF "__init__" "Cars.__init__" (inClass (top 25) 0) "countkin.cars" 740 453))::(nat_lit 465,(kC "is_one" "Cars.is_one" 769 178 2 (.ref 462) (.ref 463) .none .none .none (.ref 464) 772))::(nat_lit 466,(kF "is_one" "Cars.is_one" (inClass (top 25) 2) "countkin.cars" 740 465))::(nat_lit 477,(kC "of_code" "Cars.of_code" 783 186 2 (.ref 474) (.ref 475) .none .none .none (.ref 476) 786))::(nat_lit 478,(kF "of_code" "Cars.of_code" (inClass (top 25) 4) "countkin.cars" 740 477))::(nat_lit 480,⟨(.type "dict"),none,(.dict #[kD P "__module__" 749 (.str "countkin.cars" 740),kD P "__firstlineno__" 753 (.int 170 752),kD P "__init__" 760 (.ref 454),kD P "size_of" 768 (.ref 461),kD P "is_one" 774 (.ref 466),kD P "code_of" 782 (.ref 473),kD P "of_code" 788 (.ref 478),kD P "__static_attributes__" 789 (.ref 479),kD P "__doc__" 790 .none] 2),#[]⟩)::(nat_lit 481,⟨(.type "type"),none,(.cls ⟨"Cars",[(.ref 386)],[(.ref 481),(.ref 386),(.ref 255),(.type "object")],480,"Cars",true,[],[],false,none,false⟩),#[(some (.ref 441)),none,(some (.str "Cars" 742)),(some (.str "Cars" 750)),(some (.builtin "object.__new__")),(some (.bool true))]⟩)::(nat_lit 499,(kC "flat" "flat" 807 199 1 (.ref 494) (.ref 495) .none (.ref 496) (.ref 497) (.ref 498) 813))::(nat_lit 500,(kF "flat" "flat" (top 29) "countkin.common" 793 499))::(nat_lit 506,(kC "each_once" "each_once" 816 204 1 (.ref 501) (.ref 502) .none (.ref 503) (.ref 504) (.ref 505) 820))::FX P
noncomputable def Gv (P:Ia):LS:=(nat_lit 395,(kF "number_figures" "number_figures" (top 22) "countkin.ring" 608 394))::(nat_lit 408,(kC "__init__" "Codes.__init__" 699 154 1 (.ref 403) (.ref 404) .none (.ref 405) (.ref 406) (.ref 407) 703))::(nat_lit 409,(kF "__init__" "Codes.__init__" (inClass (top 23) 0) "countkin.ring" 608 408))::(nat_lit 420,(kC "is_one" "Codes.is_one" 714 160 2 (.ref 417) (.ref 418) .none .none .none (.ref 419) 717))::(nat_lit 421,(kF "is_one" "Codes.is_one" (inClass (top 23) 2) "countkin.ring" 608 420))::(nat_lit 434,(kC "of_code" "Codes.of_code" 728 167 2 (.ref 429) (.ref 430) .none (.ref 431) (.ref 432) (.ref 433) 733))::(nat_lit 435,(kF "of_code" "Codes.of_code" (inClass (top 23) 4) "countkin.ring" 608 434))::(nat_lit 437,⟨(.type "dict"),none,(.dict #[kD P "__module__" 694 (.str "countkin.ring" 608),kD P "__firstlineno__" 698 (.int 152 697),kD P "__init__" 705 (.ref 409),kD P "size_of" 713 (.ref 416),kD P "is_one" 719 (.ref 421),kD P "code_of" 727 (.ref 428),kD P "of_code" 735 (.ref 435),kD P "__static_attributes__" 736 (.ref 436),kD P "__doc__" 737 .none] 2),#[]⟩)::(nat_lit 438,⟨(.type "type"),none,(.cls ⟨"Codes",[(.ref 386)],[(.ref 438),(.ref 386),(.ref 255),(.type "object")],437,"Codes",true,[],[],false,none,false⟩),#[(some (.ref 396)),none,(some (.str "Codes" 687)),(some (.str "Codes" 695)),(some (.builtin "object.__new__")),(some (.bool true))]⟩)::(nat_lit 453,(kC "__init__" "Cars.__init__" 754 172 1 (.ref 448) (.ref 449) .none (.ref 450) (.ref 451) (.ref 452) 758))::Ga P
noncomputable def Ge (P:Ia):LS:=(nat_lit 332,⟨(.type "type"),none,(.cls ⟨"SplitFamily",[(.ref 255)],[(.ref 332),(.ref 255),(.type "object")],331,"SplitFamily",true,[],[(.ref 564),(.ref 632),(.ref 686),(.ref 740),(.ref 842),(.ref 890),(.ref 949)],false,none,false⟩),#[(some (.ref 260)),none,(some (.str "SplitFamily" 511)),(some (.str "SplitFamily" 519)),(some (.builtin "object.__new__")),(some (.bool true))]⟩)::(nat_lit 347,(kC "__init__" "RingFamily.__init__" 622 128 2 (.ref 342) (.ref 343) .none (.ref 344) (.ref 345) (.ref 346) 627))::(nat_lit 348,(kF "__init__" "RingFamily.__init__" (inClass (top 21) 0) "countkin.ring" 608 347))::(nat_lit 368,(kC "unchecked_many" "RingFamily.unchecked_many" 646 137 2 (.ref 363) (.ref 364) .none (.ref 365) (.ref 366) (.ref 367) 651))::(nat_lit 369,(kF "unchecked_many" "RingFamily.unchecked_many" (inClass (top 21) 3) "countkin.ring" 608 368))::(nat_lit 382,(kC "unchecked_thing" "RingFamily.unchecked_thing" 662 143 3 (.ref 377) (.ref 378) .none (.ref 379) (.ref 380) (.ref 381) 668))::(nat_lit 383,(kF "unchecked_thing" "RingFamily.unchecked_thing" (inClass (top 21) 5) "countkin.ring" 608 382))::(nat_lit 385,⟨(.type "dict"),none,(.dict #[kD P "__module__" 617 (.str "countkin.ring" 608),kD P "__firstlineno__" 621 (.int 126 620),kD P "__init__" 629 (.ref 348),kD P "code_of" 637 (.ref 355),kD P "of_code" 645 (.ref 362),kD P "unchecked_many" 653 (.ref 369),kD P "unchecked_number" 661 (.ref 376),kD P "unchecked_thing" 670 (.ref 383),kD P "__static_attributes__" 671 (.ref 384),kD P "__doc__" 672 .none] 2),#[]⟩)::(nat_lit 386,⟨(.type "type"),none,(.cls ⟨"RingFamily",[(.ref 255)],[(.ref 386),(.ref 255),(.type "object")],385,"RingFamily",true,[],[(.ref 438),(.ref 481),(.ref 783)],false,none,false⟩),#[(some (.ref 335)),none,(some (.str "RingFamily" 610)),(some (.str "RingFamily" 618)),(some (.builtin "object.__new__")),(some (.bool true))]⟩)::(nat_lit 394,(kC "number_figures" "number_figures" 675 145 3 (.ref 389) (.ref 390) .none (.ref 391) (.ref 392) (.ref 393) 684))::Gv P
noncomputable def FN (P:Ia):LS:=(nat_lit 257,⟨(.type "getset_descriptor"),none,(.fields #[(.str "__weakref__" 506),(.ref 255),(.builtin "ExceptionGroup.__weakref__"),.none]),#[]⟩)::(nat_lit 272,(kC "__init__" "SplitFamily.__init__" 523 89 2 (.ref 267) (.ref 268) .none (.ref 269) (.ref 270) (.ref 271) 528))::(nat_lit 273,(kF "__init__" "SplitFamily.__init__" (inClass (top 19) 0) "countkin.kin" 395 272))::(nat_lit 300,(kC "unchecked_many" "SplitFamily.unchecked_many" 555 101 2 (.ref 295) (.ref 296) .none (.ref 297) (.ref 298) (.ref 299) 560))::(nat_lit 301,(kF "unchecked_many" "SplitFamily.unchecked_many" (inClass (top 19) 4) "countkin.kin" 395 300))::(nat_lit 314,(kC "unchecked_thing" "SplitFamily.unchecked_thing" 571 107 3 (.ref 309) (.ref 310) .none (.ref 311) (.ref 312) (.ref 313) 577))::(nat_lit 315,(kF "unchecked_thing" "SplitFamily.unchecked_thing" (inClass (top 19) 6) "countkin.kin" 395 314))::(nat_lit 328,(kC "thing_by_parts" "SplitFamily.thing_by_parts" 589 113 4 (.ref 323) (.ref 324) .none (.ref 325) (.ref 326) (.ref 327) 601))::(nat_lit 329,(kF "thing_by_parts" "SplitFamily.thing_by_parts" (inClass (top 19) 8) "countkin.kin" 395 328))::(nat_lit 331,⟨(.type "dict"),none,(.dict #[kD P "__module__" 518 (.str "countkin.kin" 395),kD P "__firstlineno__" 522 (.int 87 521),kD P "__init__" 530 (.ref 273),kD P "bare" 537 (.ref 280),kD P "parted" 545 (.ref 287),kD P "joined" 554 (.ref 294),kD P "unchecked_many" 562 (.ref 301),kD P "unchecked_number" 570 (.ref 308),kD P "unchecked_thing" 579 (.ref 315),kD P "number_by_parts" 588 (.ref 322),kD P "thing_by_parts" 603 (.ref 329),kD P "__static_attributes__" 604 (.ref 330),kD P "__doc__" 605 .none] 2),#[]⟩)::Ge P
noncomputable def Gx (P:Ia):LS:=(nat_lit 182,(kF "__init__" "Family.__init__" (inClass (top 18) 0) "countkin.kin" 395 181))::(nat_lit 223,(kC "many" "Family.many" 459 67 2 (.ref 218) (.ref 219) .none (.ref 220) (.ref 221) (.ref 222) 464))::(nat_lit 224,(kF "many" "Family.many" (inClass (top 18) 6) "countkin.kin" 395 223))::(nat_lit 230,(kC "refuse_other" "Family.refuse_other" 467 72 2 (.ref 225) (.ref 226) .none (.ref 227) (.ref 228) (.ref 229) 472))::(nat_lit 231,(kF "refuse_other" "Family.refuse_other" (inClass (top 18) 7) "countkin.kin" 395 230))::(nat_lit 244,(kC "thing_of" "Family.thing_of" 483 79 3 (.ref 239) (.ref 240) .none (.ref 241) (.ref 242) (.ref 243) 490))::(nat_lit 245,(kF "thing_of" "Family.thing_of" (inClass (top 18) 9) "countkin.kin" 395 244))::(nat_lit 254,⟨(.type "dict"),none,(.dict #[kD P "__module__" 404 (.str "countkin.kin" 395),kD P "__firstlineno__" 408 (.int 46 407),kD P "__init__" 417 (.ref 182),kD P "size_of" 425 (.ref 189),kD P "is_one" 433 (.ref 196),kD P "unchecked_many" 441 (.ref 203),kD P "unchecked_number" 449 (.ref 210),kD P "unchecked_thing" 458 (.ref 217),kD P "many" 466 (.ref 224),kD P "refuse_other" 474 (.ref 231),kD P "number_of" 482 (.ref 238),kD P "thing_of" 492 (.ref 245),kD P "next_of" 500 (.ref 252),kD P "__static_attributes__" 503 (.ref 253),kD P "__dict__" 505 (.ref 256),kD P "__weakref__" 507 (.ref 257),kD P "__doc__" 508 .none] 4),#[]⟩)::(nat_lit 255,⟨(.type "type"),none,(.cls ⟨"Family",[(.type "object")],[(.ref 255),(.type "object")],254,"Family",true,[],[(.ref 332),(.ref 386)],false,none,false⟩),#[none,none,(some (.str "Family" 397)),(some (.str "Family" 405)),(some (.builtin "object.__new__")),(some (.bool true))]⟩)::(nat_lit 256,⟨(.type "getset_descriptor"),none,(.fields #[(.str "__dict__" 504),(.ref 255),(.builtin "function.__dict__"),(.builtin "function.__dict__#set")]),#[]⟩)::FN P
noncomputable def FZ (P:Ia):LS:=(nat_lit 111,⟨(.type "type"),none,(.cls ⟨"NoWay",[(.ref 50)],[(.ref 111),(.ref 50),(.type "ValueError"),(.type "Exception"),(.type "BaseException"),(.type "object")],110,"NoWay",true,[],[],false,none,false⟩),#[(some (.ref 102)),none,(some (.str "NoWay" 306)),(some (.str "NoWay" 314)),(some (.builtin "ValueError.__new__")),(some (.bool true))]⟩)::(nat_lit 122,⟨(.type "dict"),none,(.dict #[kD P "__module__" 329 (.str "countkin.errors" 222),kD P "__firstlineno__" 333 (.int 34 332),kD P "__static_attributes__" 334 (.ref 121),kD P "__doc__" 335 .none] 2),#[]⟩)::(nat_lit 123,⟨(.type "type"),none,(.cls ⟨"Apart",[(.ref 50)],[(.ref 123),(.ref 50),(.type "ValueError"),(.type "Exception"),(.type "BaseException"),(.type "object")],122,"Apart",true,[],[],false,none,false⟩),#[(some (.ref 114)),none,(some (.str "Apart" 322)),(some (.str "Apart" 330)),(some (.builtin "ValueError.__new__")),(some (.bool true))]⟩)::(nat_lit 134,⟨(.type "dict"),none,(.dict #[kD P "__module__" 345 (.str "countkin.errors" 222),kD P "__firstlineno__" 349 (.int 36 348),kD P "__static_attributes__" 350 (.ref 133),kD P "__doc__" 351 .none] 2),#[]⟩)::(nat_lit 135,⟨(.type "type"),none,(.cls ⟨"NoMark",[(.ref 50)],[(.ref 135),(.ref 50),(.type "ValueError"),(.type "Exception"),(.type "BaseException"),(.type "object")],134,"NoMark",true,[],[],false,none,false⟩),#[(some (.ref 126)),none,(some (.str "NoMark" 338)),(some (.str "NoMark" 346)),(some (.builtin "ValueError.__new__")),(some (.bool true))]⟩)::(nat_lit 146,⟨(.type "dict"),none,(.dict #[kD P "__module__" 361 (.str "countkin.errors" 222),kD P "__firstlineno__" 365 (.int 38 364),kD P "__static_attributes__" 366 (.ref 145),kD P "__doc__" 367 .none] 2),#[]⟩)::(nat_lit 147,⟨(.type "type"),none,(.cls ⟨"NoText",[(.ref 50)],[(.ref 147),(.ref 50),(.type "ValueError"),(.type "Exception"),(.type "BaseException"),(.type "object")],146,"NoText",true,[],[],false,none,false⟩),#[(some (.ref 138)),none,(some (.str "NoText" 354)),(some (.str "NoText" 362)),(some (.builtin "ValueError.__new__")),(some (.bool true))]⟩)::(nat_lit 165,⟨(.type "dict"),none,(.dict #[kD P "__module__" 377 (.str "countkin.errors" 222),kD P "__firstlineno__" 381 (.int 40 380),kD P "__init__" 389 (.ref 163),kD P "__static_attributes__" 391 (.ref 164),kD P "__doc__" 392 .none] 2),#[]⟩)::(nat_lit 166,⟨(.type "type"),none,(.cls ⟨"Broken",[(.ref 50)],[(.ref 166),(.ref 50),(.type "ValueError"),(.type "Exception"),(.type "BaseException"),(.type "object")],165,"Broken",true,[],[],false,none,false⟩),#[(some (.ref 150)),none,(some (.str "Broken" 370)),(some (.str "Broken" 378)),(some (.builtin "ValueError.__new__")),(some (.bool true))]⟩)::(nat_lit 181,(kC "__init__" "Family.__init__" 409 48 3 (.ref 176) (.ref 177) .none (.ref 178) (.ref 179) (.ref 180) 415))::Gx P
noncomputable def Bh (P:Ia):LS:=(nat_lit 51,⟨(.type "getset_descriptor"),none,(.fields #[(.str "__weakref__" 237),(.ref 50),(.builtin "ExceptionGroup.__weakref__"),.none]),#[]⟩)::(nat_lit 62,⟨(.type "dict"),none,(.dict #[kD P "__module__" 249 (.str "countkin.errors" 222),kD P "__firstlineno__" 253 (.int 24 252),kD P "__static_attributes__" 254 (.ref 61),kD P "__doc__" 255 .none] 2),#[]⟩)::(nat_lit 63,⟨(.type "type"),none,(.cls ⟨"NoSize",[(.ref 50)],[(.ref 63),(.ref 50),(.type "ValueError"),(.type "Exception"),(.type "BaseException"),(.type "object")],62,"NoSize",true,[],[],false,none,false⟩),#[(some (.ref 54)),none,(some (.str "NoSize" 242)),(some (.str "NoSize" 250)),(some (.builtin "ValueError.__new__")),(some (.bool true))]⟩)::(nat_lit 74,⟨(.type "dict"),none,(.dict #[kD P "__module__" 265 (.str "countkin.errors" 222),kD P "__firstlineno__" 269 (.int 26 268),kD P "__static_attributes__" 270 (.ref 73),kD P "__doc__" 271 .none] 2),#[]⟩)::(nat_lit 75,⟨(.type "type"),none,(.cls ⟨"NoNumber",[(.ref 50)],[(.ref 75),(.ref 50),(.type "ValueError"),(.type "Exception"),(.type "BaseException"),(.type "object")],74,"NoNumber",true,[],[],false,none,false⟩),#[(some (.ref 66)),none,(some (.str "NoNumber" 258)),(some (.str "NoNumber" 266)),(some (.builtin "ValueError.__new__")),(some (.bool true))]⟩)::(nat_lit 86,⟨(.type "dict"),none,(.dict #[kD P "__module__" 281 (.str "countkin.errors" 222),kD P "__firstlineno__" 285 (.int 28 284),kD P "__static_attributes__" 286 (.ref 85),kD P "__doc__" 287 .none] 2),#[]⟩)::(nat_lit 87,⟨(.type "type"),none,(.cls ⟨"NoThing",[(.ref 50)],[(.ref 87),(.ref 50),(.type "ValueError"),(.type "Exception"),(.type "BaseException"),(.type "object")],86,"NoThing",true,[],[],false,none,false⟩),#[(some (.ref 78)),none,(some (.str "NoThing" 274)),(some (.str "NoThing" 282)),(some (.builtin "ValueError.__new__")),(some (.bool true))]⟩)::(nat_lit 98,⟨(.type "dict"),none,(.dict #[kD P "__module__" 297 (.str "countkin.errors" 222),kD P "__firstlineno__" 301 (.int 30 300),kD P "__static_attributes__" 302 (.ref 97),kD P "__doc__" 303 .none] 2),#[]⟩)::(nat_lit 99,⟨(.type "type"),none,(.cls ⟨"NoFamily",[(.ref 50)],[(.ref 99),(.ref 50),(.type "ValueError"),(.type "Exception"),(.type "BaseException"),(.type "object")],98,"NoFamily",true,[],[],false,none,false⟩),#[(some (.ref 90)),none,(some (.str "NoFamily" 290)),(some (.str "NoFamily" 298)),(some (.builtin "ValueError.__new__")),(some (.bool true))]⟩)::(nat_lit 110,⟨(.type "dict"),none,(.dict #[kD P "__module__" 313 (.str "countkin.errors" 222),kD P "__firstlineno__" 317 (.int 32 316),kD P "__static_attributes__" 318 (.ref 109),kD P "__doc__" 319 .none] 2),#[]⟩)::FZ P
noncomputable def FO (P:Ia):LS:=(nat_lit 2,⟨.none,none,(.dict #[] 0),#[]⟩)::(nat_lit 3,⟨(.type "dict"),none,(.dict (JQ (zO P)) 85),#[]⟩)::(nat_lit 25,(kC "shares" "shares" 198 6 1 (.ref 22) (.ref 23) .none .none .none (.ref 24) 201))::(nat_lit 26,(kF "shares" "shares" (top 3) "countkin.counts" 194 25))::(nat_lit 32,(kC "by_rule" "by_rule" 204 11 1 (.ref 27) (.ref 28) .none (.ref 29) (.ref 30) (.ref 31) 210))::(nat_lit 33,(kF "by_rule" "by_rule" (top 4) "countkin.counts" 194 32))::(nat_lit 39,(kC "ring_many" "ring_many" 213 16 1 (.ref 34) (.ref 35) .none (.ref 36) (.ref 37) (.ref 38) 219))::(nat_lit 40,(kF "ring_many" "ring_many" (top 5) "countkin.counts" 194 39))::(nat_lit 49,⟨(.type "dict"),none,(.dict #[kD P "__module__" 231 (.str "countkin.errors" 222),kD P "__firstlineno__" 235 (.int 22 234),kD P "__static_attributes__" 236 (.ref 48),kD P "__weakref__" 238 (.ref 51),kD P "__doc__" 239 .none] 3),#[]⟩)::(nat_lit 50,⟨(.type "type"),none,(.cls ⟨"KinError",[(.type "ValueError")],[(.ref 50),(.type "ValueError"),(.type "Exception"),(.type "BaseException"),(.type "object")],49,"KinError",true,[],[(.ref 63),(.ref 75),(.ref 87),(.ref 99),(.ref 111),(.ref 123),(.ref 135),(.ref 147),(.ref 166)],false,none,false⟩),#[(some (.ref 41)),none,(some (.str "KinError" 224)),(some (.str "KinError" 232)),(some (.builtin "ValueError.__new__")),(some (.bool true))]⟩)::Bh P
noncomputable def hKs:Ia->LS:=fun P=>FO P
noncomputable def bT:Bool:=true
noncomputable def bF:Bool:=false
noncomputable def hM:List Bool:=(bF::bF::bT::bT::bF::bF::bF::bF::bF::bF::bF::bF::bF::bF::bF::bF::bF::bF::bF::bF::bF::bF::bF::bF::bF::bT::bT::bF::bF::bF::bF::bF::bT::bT::bF::bF::bF::bF::bF::bT::bT::bF::bF::bF::bF::bF::bF::bF::bF::bT::bT::bT::bF::bF::bF::bF::bF::bF::bF::bF::bF::bF::bT::bT::bF::bF::bF::bF::bF::bF::bF::bF::bF::bF::bT::bT::bF::bF::bF::bF::bF::bF::bF::bF::bF::bF::bT::bT::bF::bF::bF::bF::bF::bF::bF::bF::bF::bF::bT::bT::bF::bF::bF::bF::bF::bF::bF::bF::bF::bF::bT::bT::bF::bF::bF::bF::bF::bF::bF::bF::bF::bF::bT::bT::bF::bF::bF::bF::bF::bF::bF::bF::bF::bF::bT::bT::bF::bF::bF::bF::bF::bF::bF::bF::bF::bF::bT::bT::bF::bF::bF::bF::bF::bF::bF::bF::bF::bF::bF::bF::bF::bF::bF::bF::bF::bT::bT::bF::bF::bF::bF::bF::bF::bF::bF::bF::bF::bF::bF::bF::bF::bT::bT::bF::bF::bF::bF::bF::bF::bF::bF::bF::bF::bF::bF::bF::bF::bF::bF::bF::bF::bF::bF::bF::bF::bF::bF::bF::bF::bF::bF::bF::bF::bF::bF::bF::bF::bF::bF::bF::bF::bF::bF::bT::bT::bF::bF::bF::bF::bF::bT::bT::bF::bF::bF::bF::bF::bF::bF::bF::bF::bF::bF::bF::bT::bT::bF::bF::bF::bF::bF::bF::bF::bF::bT::bT::bT::bT::bF::bF::bF::bF::bF::bF::bF::bF::bF::bF::bF::bF::bF::bF::bT::bT::bF::bF::bF::bF::bF::bF::bF::bF::bF::bF::bF::bF::bF::bF::bF::bF::bF::bF::bF::bF::bF::bF::bF::bF::bF::bF::bT::bT::bF::bF::bF::bF::bF::bF::bF::bF::bF::bF::bF::bF::bT::bT::bF::bF::bF::bF::bF::bF::bF::bF::bF::bF::bF::bF::bT::bT::bF::bT::bT::bF::bF::bF::bF::bF::bF::bF::bF::bF::bF::bF::bF::bF::bF::bT::bT::bF::bF::bF::bF::bF::bF::bF::bF::bF::bF::bF::bF::bF::bF::bF::bF::bF::bF::bF::bT::bT::bF::bF::bF::bF::bF::bF::bF::bF::bF::bF::bF::bF::bT::bT::bF::bT::bT::bF::bF::bF::bF::bF::bF::bF::bT::bT::bF::bF::bF::bF::bF::bF::bF::bF::bF::bF::bF::bF::bT::bT::bF::bF::bF::bF::bF::bF::bF::bF::bF::bF::bT::bT::bF::bF::bF::bF::bF::bF::bF::bF::bF::bF::bF::bF::bT::bT::bF::bT::bT::bF::bF::bF::bF::bF::bF::bF::bF::bF::bF::bF::bF::bF::bF::bT::bT::bF::bF::bF::bF::bF::bF::bF::bF::bF::bF::bT::bT::bF::bF::bF::bF::bF::bF::bF::bF::bF::bF::bT::bT::bF::bT::bT::bF::bF::bF::bF::bF::bF::bF::bF::bF::bF::bF::bF::bF::bF::bF::bF::bF::bT::bT::bF::bF::bF::bF::bF::bT::bT::bF::bF::bF::bF::bF::bT::bT::bF::bF::bF::bF::bF::bF::bF::bF::bF::bF::bF::bF::bT::bT::bF::bF::bF::bF::bF::bF::bF::bF::bF::bF::bT::bT::bF::bF::bF::bF::bF::bT::bT::bF::bF::bF::bF::bF::bF::bF::bF::bF::bF::bF::bF::bF::bF::bF::bT::bT::bF::bF::bF::bF::bF::bF::bF::bT::bT::bF::bF::bF::bF::bF::bT::bT::bF::bF::bF::bF::bF::bF::bF::bF::bF::bF::bF::bF::bT::bT::bF::bF::bF::bF::bF::bF::bF::bF::bF::bF::bF::bF::bT::bT::bF::bF::bF::bF::bF::bT::bT::bF::bF::bF::bF::bF::bF::bF::bF::bF::bF::bF::bF::bF::bF::bF::bT::bT::bF::bF::bF::bF::bF::bF::bF::bF::bF::bF::bF::bF::bF::bF::bT::bT::bF::bF::bF::bF::bF::bF::bF::bF::bF::bF::bF::bF::bT::bT::bF::bF::bF::bF::bF::bT::bT::bF::bF::bF::bF::bF::bF::bF::bF::bF::bF::bF::bF::bF::bF::bF::bT::bT::bF::bF::bF::bF::bF::bF::bF::bF::bF::bF::bF::bF::bF::bF::bT::bT::bF::bF::bF::bF::bF::bF::bF::bF::bF::bF::bF::bF::bT::bT::bF::bF::bF::bF::bF::bT::bT::bF::bF::bF::bF::bF::bF::bF::bF::bF::bF::bF::bF::bF::bF::bF::bT::bT::bF::bF::bF::bF::bF::bF::bF::bF::bF::bF::bF::bF::bF::bF::bT::bT::bF::bF::bF::bF::bF::bF::bF::bF::bF::bF::bT::bT::bF::bF::bF::bF::bF::bF::bF::bF::bF::bF::bT::bT::bF::bT::bT::bF::bF::bF::bF::bF::bF::bF::bT::bT::bF::bF::bF::bF::bF::bF::bF::bF::bF::bF::bF::bF::bT::bT::bF::bF::bF::bF::bF::bF::bF::bF::bF::bF::bT::bT::bF::bF::bF::bF::bF::bT::bT::bF::bF::bF::bF::bF::bF::bF::bF::bF::bF::bF::bF::bF::bF::bF::bT::bT::bF::bF::bF::bF::bF::bF::bF::bF::bF::bF::bF::bF::bF::bF::bT::bT::bF::bF::bF::bF::bF::bF::bF::bF::bT::bT::bF::bF::bF::bF::bF::bT::bT::bF::bF::bF::bF::bF::bF::bF::bF::bF::bF::bF::bF::bF::bT::bT::bF::bF::bF::bF::bF::bT::bT::bF::bF::bF::bF::bF::bF::bF::bF::bF::bF::bF::bF::bT::bT::bF::bF::bF::bF::bF::bF::bF::bF::bF::bF::bF::bF::bT::bT::bF::bF::bF::bF::bF::bT::bT::bF::bF::bF::bF::bF::bF::bF::bF::bF::bF::bF::bF::bF::bF::bF::bT::bT::bF::bF::bF::bF::bF::bF::bF::bT::bT::bF::bF::bF::bF::bF::bT::bT::bF::bF::bF::bF::bF::bT::bT::bF::bF::bF::bF::bF::bT::bT::bF::bF::bF::bF::bF::bF::bF::bF::bF::bF::bF::bF::bF::bF::bF::bF::bF::bT::bT::bF::bF::bF::bF::bF::bF::bF::bF::bF::bF::bT::bT::bF::bF::bF::bT::bT::bF::bF::bF::bF::bF::bT::bT::bF::bF::bF::bT::bT::bF::bF::bF::bF::bF::bT::bT::bF::bF::bF::bF::bF::bF::bF::bF::bF::bF::bT::bT::bF::bF::bF::bT::bT::bF::bF::bF::bT::bT::bF::bF::bF::bF::bF::bF::bF::bF::bT::bT::bF::bF::bF::bT::bT::bF::bF::bF::bT::bT::bF::bF::bF::bT::bT::bF::bF::bF::bF::bF::bT::bT::bF::bF::bF::bF::bF::bT::bT::bF::bF::bF::bF::bF::bT::bT::bF::bF::bF::bF::bF::bT::bT::bF::bF::bF::bF::bF::bT::bT::bF::bF::bF::bT::bT::bF::bF::bF::bF::bF::bT::bT::bF::bF::bF::bF::bF::bT::bT::bF::bF::bF::bT::bT::bF::bF::bF::bF::bF::bT::bT::bF::bF::bF::bF::bF::bT::bT::bF::bF::bF::bF::bF::bT::bT::bF::bF::bF::bF::bF::bT::bT::[])
noncomputable def hA:List GC:=gH hM 0
theorem hAM:hA=gH hM 0:=rfl
noncomputable abbrev hX:Fk->Bool:=(fun s=>xlAt hQ [] s&&recOk (RowW.records (OpenRow.toRowW (OpenLaw.row PySem.Challenge.rw_countkin_k62_written_refuses))) s)
theorem hKA:∀ P:Ia,hA=(hK P).map (·.1):=fun _=>by kernel_rfl
noncomputable abbrev hH:Hook:=kHook hK hA hKA
noncomputable def hLook (P:Ia) (s:Fk):=((staticsOk (importedModules PySem.Challenge.pw_countkin_k62_written_refuses.main.body) (LL P) s.heap&&namesBound PySem.Challenge.pw_countkin_k62_written_refuses s.heap&&gensDone s&&laidKept (LL P) s.heap),openSeen hQ hL (importedModules PySem.Challenge.pw_countkin_k62_written_refuses.main.body) hX true s,dN s.heap.objs.toList hM)
noncomputable def hPreF (w:Hh) (os:K2):=topGo treeTable PySem.Challenge.pw_countkin_k62_written_refuses w 11 (some (.ref 6)) 12 ⟨LL w.params,Array.mk [],boot_drawn,boot_toks,os⟩ (topStub PySem.Challenge.pw_countkin_k62_written_refuses)
noncomputable def hPreG (w:Hh) (os:K2):Option (Fk × Thread):=some ((hS w os).abs,⟨denote treeTable hC,hC,⟨0,0,0,0⟩,[topFrame ⟨0,0,0,0⟩]⟩)
noncomputable def hBlkF (w:Hh) (os:K2):=segRun treeTable PySem.Challenge.pw_countkin_k62_written_refuses w 11 (some (.ref 6)) 1 1 (hS w os).abs (blockOf hB hE hC ⟨0,0,0,0⟩ [topFrame ⟨0,0,0,0⟩])
noncomputable def hBlkG (w:Hh) (os:K2):Option (Flow × Fk × Code × Pos):=some (.next,(hS w os).abs,hC,⟨0,0,0,0⟩)
noncomputable def hTree2 (P:Ia):BT:=(.node (boot_o_0 P) (.node (boot_o_1 P) (.node ⟨(.type "dict"),none,(.dict #[kD P "__name__" 165 (.str "countkin.signs" 920),kD P "__doc__" 166 .none,kD P "__package__" 167 .none,kD P "__loader__" 168 (.builtin "__main__.__loader__#opaque"),kD P "__spec__" 169 .none,kD P "__annotations__" 170 (.ref 6),kD P "__builtins__" 171 (.ref 4),kD P "__file__" 173 (.str "/claim/cut.py" 172),kD P "__cached__" 174 .none,kD P "_wall" 193 (.ref 21),kD P "GREATEST_SIZE" 197 (.int 40 196),kD P "shares" 203 (.ref 26),kD P "by_rule" 212 (.ref 33),kD P "ring_many" 221 (.ref 40),kD P "KinError" 241 (.ref 50),kD P "NoSize" 257 (.ref 63),kD P "NoNumber" 273 (.ref 75),kD P "NoThing" 289 (.ref 87),kD P "NoFamily" 305 (.ref 99),kD P "NoWay" 321 (.ref 111),kD P "Apart" 337 (.ref 123),kD P "NoMark" 353 (.ref 135),kD P "NoText" 369 (.ref 147),kD P "Broken" 394 (.ref 166),kD P "Family" 510 (.ref 255),kD P "SplitFamily" 607 (.ref 332),kD P "RingFamily" 674 (.ref 386),kD P "number_figures" 686 (.ref 395),kD P "Codes" 739 (.ref 438),kD P "Cars" 792 (.ref 481),kD P "raised_by" 800 (.ref 488),kD P "pairs_raised_by" 806 (.ref 493),kD P "flat" 815 (.ref 500),kD P "each_once" 822 (.ref 507),kD P "any_cross" 833 (.ref 514),kD P "Floors" 899 (.ref 564),kD P "may_be_cut" 908 (.ref 573),kD P "closes" 919 (.ref 580),kD P "Brackets" 984 (.ref 632)] 39),#[]⟩ (.node (boot_o_7 P) (.node kU (.node (kG "by_rule" "by_rule" (top 4)) (.node ⟨(.type "type"),none,(.cls ⟨"NoSize",[(.ref 50)],[(.ref 63),(.ref 50),(.type "ValueError"),(.type "Exception"),(.type "BaseException"),(.type "object")],62,"NoSize",true,[],[],false,none,false⟩),#[(some (.ref 54)),none,(some (.str "NoSize" 242)),(some (.str "NoSize" 250)),(some (.builtin "ValueError.__new__")),(some (.bool true))]⟩ (.node ⟨(.type "builtin_function_or_method"),none,(.fields #[(.builtin "type.__prepare__"),(.type "type")]),#[]⟩ (.node ⟨(.type "type"),none,(.cls ⟨"Family",[(.type "object")],[(.ref 255),(.type "object")],254,"Family",true,[],[(.ref 332),(.ref 386)],false,none,false⟩),#[none,none,(some (.str "Family" 397)),(some (.str "Family" 405)),(some (.builtin "object.__new__")),(some (.bool true))]⟩ (.node kU .nil .nil) .nil) (.node (kF "unchecked_thing" "RingFamily.unchecked_thing" (inClass (top 21) 5) "countkin.ring" 608 382) .nil .nil)) (.node kW (.node kU (.node kW .nil .nil) .nil) (.node ⟨(.type "frame"),none,.plain,#[(some (.ref 446)),(some (.ref 3)),(some (.ref 443)),none,(some (.str "countkin.cars" 740)),none,(some (.ref 0))]⟩ .nil .nil))) (.node ⟨(.type "code"),none,(.fields #[(.str "NoFamily" 292),(.str "NoFamily" 293),(.str "/claim/cut.py" 294),(.int 30 0),(.int 0 0),(.int 0 0),(.int 0 0),(.int 0 0),(.ref 93),(.bool false),(.int 181 0),(.ref 94),.none,.none,.none,.none,(.int 295 0),(.int 30 0),(.str "/claim/cut.py" 296)]),#[]⟩ (.node (kV #[(.str "self" 385),(.str "place" 386)]) (.node (kF "parted" "SplitFamily.parted" (inClass (top 19) 2) "countkin.kin" 395 286) (.node (kV #[(.str "self" 872)]) .nil .nil) .nil) (.node (kC "size_of" "Codes.size_of" 706 157 2 (.ref 410) (.ref 411) .none (.ref 412) (.ref 413) (.ref 414) 711) .nil .nil)) (.node (kC "many" "Family.many" 459 67 2 (.ref 218) (.ref 219) .none (.ref 220) (.ref 221) (.ref 222) 464) (.node (kV #[(.str "self" 633),(.str "thing" 634)]) (.node (kC "is_one" "Brackets.is_one" 949 267 2 (.ref 602) (.ref 603) .none (.ref 604) (.ref 605) (.ref 606) 954) .nil .nil) .nil) (.node kU .nil .nil)))) (.node ⟨(.type "frame"),none,.plain,#[(some (.ref 46)),(some (.ref 3)),(some (.ref 43)),none,(some (.str "countkin.errors" 222)),none,(some (.ref 0))]⟩ (.node ⟨(.type "builtin_function_or_method"),none,(.fields #[(.builtin "type.__prepare__"),(.type "type")]),#[]⟩ (.node ⟨(.type "code"),none,(.fields #[(.str "NoText" 356),(.str "NoText" 357),(.str "/claim/cut.py" 358),(.int 38 0),(.int 0 0),(.int 0 0),(.int 0 0),(.int 0 0),(.ref 141),(.bool false),(.int 181 0),(.ref 142),.none,.none,.none,.none,(.int 359 0),(.int 38 0),(.str "/claim/cut.py" 360)]),#[]⟩ (.node (kG "__init__" "SplitFamily.__init__" (inClass (top 19) 0)) (.node (kC "__init__" "Floors.__init__" 848 215 1 (.ref 522) (.ref 523) .none (.ref 524) (.ref 525) (.ref 526) 852) .nil .nil) .nil) (.node kU .nil .nil)) (.node kU (.node (kV #[(.ref 255)]) (.node kU .nil .nil) .nil) (.node kW .nil .nil))) (.node ⟨(.type "type"),none,(.cls ⟨"NoWay",[(.ref 50)],[(.ref 111),(.ref 50),(.type "ValueError"),(.type "Exception"),(.type "BaseException"),(.type "object")],110,"NoWay",true,[],[],false,none,false⟩),#[(some (.ref 102)),none,(some (.str "NoWay" 306)),(some (.str "NoWay" 314)),(some (.builtin "ValueError.__new__")),(some (.bool true))]⟩ (.node ⟨(.type "frame"),none,.plain,#[(some (.ref 174)),(some (.ref 3)),(some (.ref 171)),none,(some (.str "countkin.kin" 395)),none,(some (.ref 0))]⟩ (.node kW (.node (kG "joined" "Floors.joined" (inClass (top 33) 5)) .nil .nil) .nil) (.node (kV #[(.str "self" 731),(.str "code" 732)]) .nil .nil)) (.node kU (.node (kG "unchecked_many" "RingFamily.unchecked_many" (inClass (top 21) 3)) (.node kU .nil .nil) .nil) (.node kW .nil .nil))))) (.node kW (.node (kC "ring_many" "ring_many" 213 16 1 (.ref 34) (.ref 35) .none (.ref 36) (.ref 37) (.ref 38) 219) (.node ⟨(.type "code"),none,(.fields #[(.str "NoNumber" 260),(.str "NoNumber" 261),(.str "/claim/cut.py" 262),(.int 26 0),(.int 0 0),(.int 0 0),(.int 0 0),(.int 0 0),(.ref 69),(.bool false),(.int 181 0),(.ref 70),.none,.none,.none,.none,(.int 263 0),(.int 26 0),(.str "/claim/cut.py" 264)]),#[]⟩ (.node ⟨(.type "type"),none,(.cls ⟨"NoMark",[(.ref 50)],[(.ref 135),(.ref 50),(.type "ValueError"),(.type "Exception"),(.type "BaseException"),(.type "object")],134,"NoMark",true,[],[],false,none,false⟩),#[(some (.ref 126)),none,(some (.str "NoMark" 338)),(some (.str "NoMark" 346)),(some (.builtin "ValueError.__new__")),(some (.bool true))]⟩ (.node kU (.node ⟨.none,none,(.fields #[(.int 215 0),(.int 4 0),(.ref 527),(.int 218 0),(.int 4 0),(.ref 534),(.int 221 0),(.int 4 0),(.ref 539),(.int 230 0),(.int 4 0),(.ref 546),(.int 233 0),(.int 4 0),(.ref 553),(.int 236 0),(.int 4 0),(.ref 560)]),#[]⟩ .nil .nil) .nil) (.node (kV #[(.str "number" 678),(.str "base" 679),(.str "length" 680),(.str "figures" 681),(.str "rest" 682),(.str "place" 683)]) .nil .nil)) (.node (kV #[(.str "self" 437),(.str "size" 438)]) (.node (kG "thing_by_parts" "SplitFamily.thing_by_parts" (inClass (top 19) 8)) (.node ⟨(.type "dict"),none,(.dict #[kD P "__module__" 929 (.str "countkin.signs" 920),kD P "__qualname__" 931 (.str "Brackets" 930),kD P "__firstlineno__" 933 (.int 259 932),kD P "__init__" 940 (.ref 594),kD P "size_of" 948 (.ref 601),kD P "is_one" 956 (.ref 608),kD P "bare" 963 (.ref 615),kD P "parted" 971 (.ref 622),kD P "joined" 980 (.ref 629),kD P "__static_attributes__" 981 (.ref 630)] 10),#[]⟩ .nil .nil) .nil) (.node kU .nil .nil))) (.node ⟨(.type "builtin_function_or_method"),none,(.fields #[(.builtin "type.__prepare__"),(.type "type")]),#[]⟩ (.node ⟨(.type "super"),none,(.fields #[(.ref 166),(.ref 166),(.ref 166)]),#[]⟩ (.node kU (.node kU .nil .nil) .nil) (.node kW .nil .nil)) (.node (kF "refuse_other" "Family.refuse_other" (inClass (top 18) 7) "countkin.kin" 395 230) (.node kU (.node (kF "bare" "Brackets.bare" (inClass (top 38) 3) "countkin.signs" 920 614) .nil .nil) .nil) (.node (kC "raised_by" "raised_by" 795 195 2 (.ref 484) (.ref 485) .none .none .none (.ref 486) 798) .nil .nil)))) (.node ⟨(.type "builtin_function_or_method"),none,(.fields #[(.builtin "type.__prepare__"),(.type "type")]),#[]⟩ (.node ⟨(.type "type"),none,(.cls ⟨"NoThing",[(.ref 50)],[(.ref 87),(.ref 50),(.type "ValueError"),(.type "Exception"),(.type "BaseException"),(.type "object")],86,"NoThing",true,[],[],false,none,false⟩),#[(some (.ref 78)),none,(some (.str "NoThing" 274)),(some (.str "NoThing" 282)),(some (.builtin "ValueError.__new__")),(some (.bool true))]⟩ (.node ⟨(.type "builtin_function_or_method"),none,(.fields #[(.builtin "type.__prepare__"),(.type "type")]),#[]⟩ (.node (kC "bare" "SplitFamily.bare" 531 92 1 (.ref 274) (.ref 275) .none (.ref 276) (.ref 277) (.ref 278) 535) (.node (kF "size_of" "Floors.size_of" (inClass (top 33) 1) "countkin.floors" 834 534) .nil .nil) .nil) (.node (kG "__init__" "Codes.__init__" (inClass (top 23) 0)) .nil .nil)) (.node (kG "unchecked_thing" "Family.unchecked_thing" (inClass (top 18) 5)) (.node kW (.node (kG "size_of" "Brackets.size_of" (inClass (top 38) 1)) .nil .nil) .nil) (.node (kG "code_of" "Cars.code_of" (inClass (top 25) 3)) .nil .nil))) (.node ⟨(.type "code"),none,(.fields #[(.str "Apart" 324),(.str "Apart" 325),(.str "/claim/cut.py" 326),(.int 34 0),(.int 0 0),(.int 0 0),(.int 0 0),(.int 0 0),(.ref 117),(.bool false),(.int 181 0),(.ref 118),.none,.none,.none,.none,(.int 327 0),(.int 34 0),(.str "/claim/cut.py" 328)]),#[]⟩ (.node kU (.node (kV #[(.str "self" 574),(.str "size" 575),(.str "number" 576)]) (.node kU .nil .nil) .nil) (.node ⟨(.type "super"),none,(.fields #[(.ref 438),(.ref 438),(.ref 438)]),#[]⟩ .nil .nil)) (.node kW (.node (kC "unchecked_number" "RingFamily.unchecked_number" 654 140 2 (.ref 370) (.ref 371) .none (.ref 372) (.ref 373) (.ref 374) 659) (.node ⟨(.type "dict"),none,(.dict #[kD P "__module__" 929 (.str "countkin.signs" 920),kD P "__firstlineno__" 933 (.int 259 932),kD P "__init__" 940 (.ref 594),kD P "size_of" 948 (.ref 601),kD P "is_one" 956 (.ref 608),kD P "bare" 963 (.ref 615),kD P "parted" 971 (.ref 622),kD P "joined" 980 (.ref 629),kD P "__static_attributes__" 981 (.ref 630),kD P "__doc__" 982 .none] 2),#[]⟩ .nil .nil) .nil) (.node (kV #[(.str "numbers" 819)]) .nil .nil)))))) (.node kU (.node (kG "_wall" "_wall" (top 0)) (.node kW (.node ⟨(.type "builtin_function_or_method"),none,(.fields #[(.builtin "type.__prepare__"),(.type "type")]),#[]⟩ (.node ⟨(.type "code"),none,(.fields #[(.str "NoMark" 340),(.str "NoMark" 341),(.str "/claim/cut.py" 342),(.int 36 0),(.int 0 0),(.int 0 0),(.int 0 0),(.int 0 0),(.ref 129),(.bool false),(.int 181 0),(.ref 130),.none,.none,.none,.none,(.int 343 0),(.int 36 0),(.str "/claim/cut.py" 344)]),#[]⟩ (.node (kB "object.__init_subclass__" 255) (.node (kV #[(.ref 332)]) .nil .nil) .nil) (.node ⟨(.type "super"),none,(.fields #[(.ref 386),(.ref 386),(.ref 386)]),#[]⟩ .nil .nil)) (.node (kC "is_one" "Family.is_one" 426 55 2 (.ref 190) (.ref 191) .none (.ref 192) (.ref 193) (.ref 194) 431) (.node kU (.node (kC "closes" "closes" 911 248 1 (.ref 574) (.ref 575) .none (.ref 576) (.ref 577) (.ref 578) 917) .nil .nil) .nil) (.node kU .nil .nil))) (.node ⟨(.type "type"),none,(.cls ⟨"NoFamily",[(.ref 50)],[(.ref 99),(.ref 50),(.type "ValueError"),(.type "Exception"),(.type "BaseException"),(.type "object")],98,"NoFamily",true,[],[],false,none,false⟩),#[(some (.ref 90)),none,(some (.str "NoFamily" 290)),(some (.str "NoFamily" 298)),(some (.builtin "ValueError.__new__")),(some (.bool true))]⟩ (.node (kF "__init__" "Broken.__init__" (inClass (top 16) 0) "countkin.errors" 222 162) (.node kU (.node (kF "bare" "Floors.bare" (inClass (top 33) 3) "countkin.floors" 834 546) .nil .nil) .nil) (.node (kG "is_one" "Codes.is_one" (inClass (top 23) 2)) .nil .nil)) (.node (kV #[(.str "self" 470),(.str "thing" 471)]) (.node (kF "code_of" "RingFamily.code_of" (inClass (top 21) 1) "countkin.ring" 608 354) (.node (kV #[(.str "self" 960)]) .nil .nil) .nil) (.node (kB "object.__init_subclass__" 481) .nil .nil)))) (.node ⟨(.type "getset_descriptor"),none,(.fields #[(.str "__weakref__" 237),(.ref 50),(.builtin "ExceptionGroup.__weakref__"),.none]),#[]⟩ (.node ⟨(.type "code"),none,(.fields #[(.str "NoThing" 276),(.str "NoThing" 277),(.str "/claim/cut.py" 278),(.int 28 0),(.int 0 0),(.int 0 0),(.int 0 0),(.int 0 0),(.ref 81),(.bool false),(.int 181 0),(.ref 82),.none,.none,.none,.none,(.int 279 0),(.int 28 0),(.str "/claim/cut.py" 280)]),#[]⟩ (.node ⟨(.type "type"),none,(.cls ⟨"NoText",[(.ref 50)],[(.ref 147),(.ref 50),(.type "ValueError"),(.type "Exception"),(.type "BaseException"),(.type "object")],146,"NoText",true,[],[],false,none,false⟩),#[(some (.ref 138)),none,(some (.str "NoText" 354)),(some (.str "NoText" 362)),(some (.builtin "ValueError.__new__")),(some (.bool true))]⟩ (.node kW (.node (kV #[(.str "self" 858),(.str "thing" 859)]) .nil .nil) .nil) (.node kU .nil .nil)) (.node kU (.node ⟨.none,none,(.fields #[(.int 128 0),(.int 4 0),(.ref 347),(.int 131 0),(.int 4 0),(.ref 354),(.int 134 0),(.int 4 0),(.ref 361),(.int 137 0),(.int 4 0),(.ref 368),(.int 140 0),(.int 4 0),(.ref 375),(.int 143 0),(.int 4 0),(.ref 382)]),#[]⟩ (.node kU .nil .nil) .nil) (.node kU .nil .nil))) (.node ⟨(.type "builtin_function_or_method"),none,(.fields #[(.builtin "type.__prepare__"),(.type "type")]),#[]⟩ (.node kU (.node (kC "unchecked_number" "SplitFamily.unchecked_number" 563 104 2 (.ref 302) (.ref 303) .none (.ref 304) (.ref 305) (.ref 306) 568) (.node ⟨(.type "dict"),none,(.dict #[kD P "__module__" 843 (.str "countkin.floors" 834),kD P "__firstlineno__" 847 (.int 213 846),kD P "__init__" 854 (.ref 528),kD P "size_of" 862 (.ref 535),kD P "is_one" 868 (.ref 540),kD P "bare" 875 (.ref 547),kD P "parted" 883 (.ref 554),kD P "joined" 895 (.ref 561),kD P "__static_attributes__" 896 (.ref 562),kD P "__doc__" 897 .none] 2),#[]⟩ .nil .nil) .nil) (.node (kF "of_code" "Codes.of_code" (inClass (top 23) 4) "countkin.ring" 608 434) .nil .nil)) (.node (kG "thing_of" "Family.thing_of" (inClass (top 18) 9)) (.node kW (.node (kG "joined" "Brackets.joined" (inClass (top 38) 5)) .nil .nil) .nil) (.node (kC "flat" "flat" 807 199 1 (.ref 494) (.ref 495) .none (.ref 496) (.ref 497) (.ref 498) 813) .nil .nil))))) (.node kU (.node ⟨(.type "dict"),none,(.dict #[kD P "__module__" 231 (.str "countkin.errors" 222),kD P "__qualname__" 233 (.str "KinError" 232),kD P "__firstlineno__" 235 (.int 22 234),kD P "__static_attributes__" 236 (.ref 48)] 4),#[]⟩ (.node ⟨(.type "type"),none,(.cls ⟨"NoNumber",[(.ref 50)],[(.ref 75),(.ref 50),(.type "ValueError"),(.type "Exception"),(.type "BaseException"),(.type "object")],74,"NoNumber",true,[],[],false,none,false⟩),#[(some (.ref 66)),none,(some (.str "NoNumber" 258)),(some (.str "NoNumber" 266)),(some (.builtin "ValueError.__new__")),(some (.bool true))]⟩ (.node ⟨(.type "builtin_function_or_method"),none,(.fields #[(.builtin "type.__prepare__"),(.type "type")]),#[]⟩ (.node kU (.node kW .nil .nil) .nil) (.node (kF "number_figures" "number_figures" (top 22) "countkin.ring" 608 394) .nil .nil)) (.node (kF "unchecked_many" "Family.unchecked_many" (inClass (top 18) 3) "countkin.kin" 395 202) (.node ⟨(.type "dict"),none,(.dict #[kD P "__module__" 518 (.str "countkin.kin" 395),kD P "__firstlineno__" 522 (.int 87 521),kD P "__init__" 530 (.ref 273),kD P "bare" 537 (.ref 280),kD P "parted" 545 (.ref 287),kD P "joined" 554 (.ref 294),kD P "unchecked_many" 562 (.ref 301),kD P "unchecked_number" 570 (.ref 308),kD P "unchecked_thing" 579 (.ref 315),kD P "number_by_parts" 588 (.ref 322),kD P "thing_by_parts" 603 (.ref 329),kD P "__static_attributes__" 604 (.ref 330),kD P "__doc__" 605 .none] 2),#[]⟩ (.node ⟨(.type "frame"),none,.plain,#[(some (.ref 586)),(some (.ref 3)),(some (.ref 583)),none,(some (.str "countkin.signs" 920)),none,(some (.ref 0))]⟩ .nil .nil) .nil) (.node (kG "size_of" "Cars.size_of" (inClass (top 25) 1)) .nil .nil))) (.node ⟨(.type "code"),none,(.fields #[(.str "NoWay" 308),(.str "NoWay" 309),(.str "/claim/cut.py" 310),(.int 32 0),(.int 0 0),(.int 0 0),(.int 0 0),(.int 0 0),(.ref 105),(.bool false),(.int 181 0),(.ref 106),.none,.none,.none,.none,(.int 311 0),(.int 32 0),(.str "/claim/cut.py" 312)]),#[]⟩ (.node ⟨(.type "dict"),none,(.dict #[kD P "__module__" 404 (.str "countkin.kin" 395),kD P "__qualname__" 406 (.str "Family" 405),kD P "__firstlineno__" 408 (.int 46 407),kD P "__init__" 417 (.ref 182),kD P "size_of" 425 (.ref 189),kD P "is_one" 433 (.ref 196),kD P "unchecked_many" 441 (.ref 203),kD P "unchecked_number" 449 (.ref 210),kD P "unchecked_thing" 458 (.ref 217),kD P "many" 466 (.ref 224),kD P "refuse_other" 474 (.ref 231),kD P "number_of" 482 (.ref 238),kD P "thing_of" 492 (.ref 245),kD P "next_of" 500 (.ref 252),kD P "__static_attributes__" 503 (.ref 253)] 15),#[]⟩ (.node (kG "unchecked_many" "SplitFamily.unchecked_many" (inClass (top 19) 4)) (.node kU .nil .nil) .nil) (.node (kC "code_of" "Codes.code_of" 720 164 2 (.ref 422) (.ref 423) .none (.ref 424) (.ref 425) (.ref 426) 725) .nil .nil)) (.node kU (.node kU (.node kU .nil .nil) .nil) (.node (kG "pairs_raised_by" "pairs_raised_by" (top 28)) .nil .nil)))) (.node ⟨(.type "code"),none,(.fields #[(.str "NoSize" 244),(.str "NoSize" 245),(.str "/claim/cut.py" 246),(.int 24 0),(.int 0 0),(.int 0 0),(.int 0 0),(.int 0 0),(.ref 57),(.bool false),(.int 181 0),(.ref 58),.none,.none,.none,.none,(.int 247 0),(.int 24 0),(.str "/claim/cut.py" 248)]),#[]⟩ (.node ⟨(.type "builtin_function_or_method"),none,(.fields #[(.builtin "type.__prepare__"),(.type "type")]),#[]⟩ (.node ⟨(.type "code"),none,(.fields #[(.str "Broken" 372),(.str "Broken" 373),(.str "/claim/cut.py" 374),(.int 40 0),(.int 0 0),(.int 0 0),(.int 0 0),(.int 0 0),(.ref 153),(.bool false),(.int 181 0),(.ref 154),.none,.none,.none,.none,(.int 375 0),(.int 40 0),(.str "/claim/cut.py" 376)]),#[]⟩ (.node (kV #[(.str "self" 541),(.str "thing" 542)]) (.node (kC "is_one" "Floors.is_one" 863 221 2 (.ref 536) (.ref 537) .none .none .none (.ref 538) 866) .nil .nil) .nil) (.node kW .nil .nil)) (.node kW (.node (kC "__init__" "RingFamily.__init__" 622 128 2 (.ref 342) (.ref 343) .none (.ref 344) (.ref 345) (.ref 346) 627) (.node kW .nil .nil) .nil) (.node kW .nil .nil))) (.node ⟨(.type "type"),none,(.cls ⟨"Apart",[(.ref 50)],[(.ref 123),(.ref 50),(.type "ValueError"),(.type "Exception"),(.type "BaseException"),(.type "object")],122,"Apart",true,[],[],false,none,false⟩),#[(some (.ref 114)),none,(some (.str "Apart" 322)),(some (.str "Apart" 330)),(some (.builtin "ValueError.__new__")),(some (.bool true))]⟩ (.node (kG "size_of" "Family.size_of" (inClass (top 18) 1)) (.node (kF "unchecked_thing" "SplitFamily.unchecked_thing" (inClass (top 19) 6) "countkin.kin" 395 314) (.node (kG "may_be_cut" "may_be_cut" (top 34)) .nil .nil) .nil) (.node ⟨(.type "dict"),none,(.dict #[kD P "__module__" 749 (.str "countkin.cars" 740),kD P "__qualname__" 751 (.str "Cars" 750),kD P "__firstlineno__" 753 (.int 170 752),kD P "__init__" 760 (.ref 454),kD P "size_of" 768 (.ref 461),kD P "is_one" 774 (.ref 466),kD P "code_of" 782 (.ref 473),kD P "of_code" 788 (.ref 478),kD P "__static_attributes__" 789 (.ref 479)] 9),#[]⟩ .nil .nil)) (.node (kC "next_of" "Family.next_of" 493 85 2 (.ref 246) (.ref 247) .none (.ref 248) (.ref 249) (.ref 250) 498) (.node (kV #[(.str "self" 665),(.str "size" 666),(.str "number" 667)]) .nil .nil) (.node (kF "each_once" "each_once" (top 30) "countkin.common" 793 506) .nil .nil))))))) (.node (boot_o_5 P) (.node (boot_o_9 P) (.node (kV #[(.str "k" 190)]) (.node (kF "by_rule" "by_rule" (top 4) "countkin.counts" 194 32) (.node (kB "object.__init_subclass__" 63) (.node kU (.node ⟨(.type "getset_descriptor"),none,(.fields #[(.str "__weakref__" 506),(.ref 255),(.builtin "ExceptionGroup.__weakref__"),.none]),#[]⟩ (.node (kC "any_cross" "any_cross" 823 206 1 (.ref 508) (.ref 509) .none (.ref 510) (.ref 511) (.ref 512) 831) .nil .nil) .nil) (.node ⟨(.type "dict"),none,(.dict #[kD P "__module__" 617 (.str "countkin.ring" 608),kD P "__firstlineno__" 621 (.int 126 620),kD P "__init__" 629 (.ref 348),kD P "code_of" 637 (.ref 355),kD P "of_code" 645 (.ref 362),kD P "unchecked_many" 653 (.ref 369),kD P "unchecked_number" 661 (.ref 376),kD P "unchecked_thing" 670 (.ref 383),kD P "__static_attributes__" 671 (.ref 384),kD P "__doc__" 672 .none] 2),#[]⟩ .nil .nil)) (.node kU (.node (kC "number_by_parts" "SplitFamily.number_by_parts" 580 110 3 (.ref 316) (.ref 317) .none (.ref 318) (.ref 319) (.ref 320) 586) (.node kU .nil .nil) .nil) (.node kW .nil .nil))) (.node kU (.node (kG "__init__" "Broken.__init__" (inClass (top 16) 0)) (.node kW (.node (kG "bare" "Floors.bare" (inClass (top 33) 3)) .nil .nil) .nil) (.node kU .nil .nil)) (.node kU (.node (kG "code_of" "RingFamily.code_of" (inClass (top 21) 1)) (.node kU .nil .nil) .nil) (.node ⟨(.type "type"),none,(.cls ⟨"Cars",[(.ref 386)],[(.ref 481),(.ref 386),(.ref 255),(.type "object")],480,"Cars",true,[],[],false,none,false⟩),#[(some (.ref 441)),none,(some (.str "Cars" 742)),(some (.str "Cars" 750)),(some (.builtin "object.__new__")),(some (.bool true))]⟩ .nil .nil)))) (.node ⟨(.type "dict"),none,(.dict #[kD P "__module__" 231 (.str "countkin.errors" 222),kD P "__firstlineno__" 235 (.int 22 234),kD P "__static_attributes__" 236 (.ref 48),kD P "__weakref__" 238 (.ref 51),kD P "__doc__" 239 .none] 3),#[]⟩ (.node kU (.node kU (.node (kF "__init__" "SplitFamily.__init__" (inClass (top 19) 0) "countkin.kin" 395 272) (.node kU .nil .nil) .nil) (.node ⟨(.type "code"),none,(.fields #[(.str "Codes" 689),(.str "Codes" 690),(.str "/claim/cut.py" 691),(.int 152 0),(.int 0 0),(.int 0 0),(.int 0 0),(.int 0 0),(.ref 399),(.bool false),(.int 181 0),(.ref 400),.none,.none,.none,.none,(.int 692 0),(.int 152 0),(.str "/claim/cut.py" 693)]),#[]⟩ .nil .nil)) (.node (kC "unchecked_number" "Family.unchecked_number" 442 61 2 (.ref 204) (.ref 205) .none (.ref 206) (.ref 207) (.ref 208) 447) (.node ⟨(.type "dict"),none,(.dict #[kD P "__module__" 617 (.str "countkin.ring" 608),kD P "__qualname__" 619 (.str "RingFamily" 618),kD P "__firstlineno__" 621 (.int 126 620),kD P "__init__" 629 (.ref 348),kD P "code_of" 637 (.ref 355),kD P "of_code" 645 (.ref 362),kD P "unchecked_many" 653 (.ref 369),kD P "unchecked_number" 661 (.ref 376),kD P "unchecked_thing" 670 (.ref 383),kD P "__static_attributes__" 671 (.ref 384)] 10),#[]⟩ (.node (kC "__init__" "Brackets.__init__" 934 261 1 (.ref 588) (.ref 589) .none (.ref 590) (.ref 591) (.ref 592) 938) .nil .nil) .nil) (.node (kC "is_one" "Cars.is_one" 769 178 2 (.ref 462) (.ref 463) .none .none .none (.ref 464) 772) .nil .nil))) (.node (kB "object.__init_subclass__" 111) (.node kW (.node kU (.node (kF "joined" "Floors.joined" (inClass (top 33) 5) "countkin.floors" 834 560) .nil .nil) .nil) (.node (kG "of_code" "Codes.of_code" (inClass (top 23) 4)) .nil .nil)) (.node (kV #[(.str "self" 486),(.str "size" 487),(.str "number" 488),(.str "most" 489)]) (.node (kF "unchecked_many" "RingFamily.unchecked_many" (inClass (top 21) 3) "countkin.ring" 608 368) (.node (kV #[(.str "self" 975),(.str "left" 976),(.str "right" 977)]) .nil .nil) .nil) (.node kU .nil .nil))))) (.node (kC "shares" "shares" 198 6 1 (.ref 22) (.ref 23) .none .none .none (.ref 24) 201) (.node (kV #[(.type "ValueError")]) (.node kU (.node (kB "object.__init_subclass__" 135) (.node ⟨(.type "code"),none,(.fields #[(.str "SplitFamily" 513),(.str "SplitFamily" 514),(.str "/claim/cut.py" 515),(.int 87 0),(.int 0 0),(.int 0 0),(.int 0 0),(.int 0 0),(.ref 263),(.bool false),(.int 181 0),(.ref 264),.none,.none,.none,.none,(.int 516 0),(.int 87 0),(.str "/claim/cut.py" 517)]),#[]⟩ (.node ⟨(.type "frame"),none,.plain,#[(some (.ref 520)),(some (.ref 3)),(some (.ref 517)),none,(some (.str "countkin.floors" 834)),none,(some (.ref 0))]⟩ .nil .nil) .nil) (.node (kG "number_figures" "number_figures" (top 22)) .nil .nil)) (.node (kG "unchecked_many" "Family.unchecked_many" (inClass (top 18) 3)) (.node (kF "thing_by_parts" "SplitFamily.thing_by_parts" (inClass (top 19) 8) "countkin.kin" 395 328) (.node ⟨.none,none,(.fields #[(.int 261 0),(.int 4 0),(.ref 593),(.int 264 0),(.int 4 0),(.ref 600),(.int 267 0),(.int 4 0),(.ref 607),(.int 270 0),(.int 4 0),(.ref 614),(.int 273 0),(.int 4 0),(.ref 621),(.int 276 0),(.int 4 0),(.ref 628)]),#[]⟩ .nil .nil) .nil) (.node (kV #[(.str "self" 764),(.str "thing" 765)]) .nil .nil))) (.node kU (.node kU (.node (kV #[(.str "self" 558),(.str "size" 559)]) (.node (kC "parted" "Floors.parted" 876 233 2 (.ref 548) (.ref 549) .none (.ref 550) (.ref 551) (.ref 552) 881) .nil .nil) .nil) (.node kU .nil .nil)) (.node kW (.node (kC "of_code" "RingFamily.of_code" 638 134 2 (.ref 356) (.ref 357) .none (.ref 358) (.ref 359) (.ref 360) 643) (.node kW .nil .nil) .nil) (.node kU .nil .nil)))) (.node kU (.node (kB "object.__init_subclass__" 87) (.node kU (.node kU (.node kW .nil .nil) .nil) (.node (kF "__init__" "Codes.__init__" (inClass (top 23) 0) "countkin.ring" 608 408) .nil .nil)) (.node (kF "unchecked_thing" "Family.unchecked_thing" (inClass (top 18) 5) "countkin.kin" 395 216) (.node kU (.node (kF "size_of" "Brackets.size_of" (inClass (top 38) 1) "countkin.signs" 920 600) .nil .nil) .nil) (.node (kF "code_of" "Cars.code_of" (inClass (top 25) 3) "countkin.cars" 740 472) .nil .nil))) (.node kU (.node (kV #[(.str "self" 421),(.str "thing" 422)]) (.node (kG "unchecked_thing" "SplitFamily.unchecked_thing" (inClass (top 19) 6)) (.node (kV #[(.str "corners" 903),(.str "a" 904),(.str "b" 905)]) .nil .nil) .nil) (.node (kV #[(.ref 386)]) .nil .nil)) (.node kU (.node kU (.node ⟨(.type "super"),none,(.fields #[(.ref 632),(.ref 632),(.ref 632)]),#[]⟩ .nil .nil) .nil) (.node (kG "each_once" "each_once" (top 30)) .nil .nil)))))) (.node ⟨(.type "code"),none,(.fields #[(.str "<module>" 182),(.str "<module>" 183),(.str "/claim/cut.py" 184),(.int 1 0),(.int 0 0),(.int 0 0),(.int 0 0),(.int 0 0),(.ref 11),(.bool false),(.int 181 0),(.ref 12),.none,.none,.none,.none,(.int 185 0),(.int 1 0),(.str "/claim/cut.py" 186)]),#[]⟩ (.node (kF "_wall" "_wall" (top 0) "__main__" 164 20) (.node kU (.node kU (.node kU (.node ⟨(.type "builtin_function_or_method"),none,(.fields #[(.builtin "type.__prepare__"),(.type "type")]),#[]⟩ (.node ⟨(.type "dict"),none,(.dict #[kD P "__module__" 843 (.str "countkin.floors" 834),kD P "__qualname__" 845 (.str "Floors" 844),kD P "__firstlineno__" 847 (.int 213 846),kD P "__init__" 854 (.ref 528),kD P "size_of" 862 (.ref 535),kD P "is_one" 868 (.ref 540),kD P "bare" 875 (.ref 547),kD P "parted" 883 (.ref 554),kD P "joined" 895 (.ref 561),kD P "__static_attributes__" 896 (.ref 562)] 10),#[]⟩ .nil .nil) .nil) (.node kU .nil .nil)) (.node kU (.node (kV #[(.str "self" 592),(.str "counts" 593),(.str "size" 594),(.str "number" 595),(.str "left_size" 596),(.str "rest" 597),(.str "right_size" 598),(.str "left" 599),(.str "right" 600)]) (.node (kV #[(.ref 332)]) .nil .nil) .nil) (.node (kC "__init__" "Cars.__init__" 754 172 1 (.ref 448) (.ref 449) .none (.ref 450) (.ref 451) (.ref 452) 758) .nil .nil))) (.node (kB "object.__init_subclass__" 99) (.node ⟨(.type "dict"),none,(.dict #[kD P "__module__" 377 (.str "countkin.errors" 222),kD P "__firstlineno__" 381 (.int 40 380),kD P "__init__" 389 (.ref 163),kD P "__static_attributes__" 391 (.ref 164),kD P "__doc__" 392 .none] 2),#[]⟩ (.node (kC "joined" "SplitFamily.joined" 546 98 3 (.ref 288) (.ref 289) .none (.ref 290) (.ref 291) (.ref 292) 552) (.node kW .nil .nil) .nil) (.node (kF "is_one" "Codes.is_one" (inClass (top 23) 2) "countkin.ring" 608 420) .nil .nil)) (.node (kG "refuse_other" "Family.refuse_other" (inClass (top 18) 7)) (.node kW (.node (kG "bare" "Brackets.bare" (inClass (top 38) 3)) .nil .nil) .nil) (.node kW .nil .nil)))) (.node (kB "object.__init_subclass__" 50) (.node kU (.node (kB "object.__init_subclass__" 147) (.node kU (.node (kG "size_of" "Floors.size_of" (inClass (top 33) 1)) .nil .nil) .nil) (.node (kV #[(.str "self" 702)]) .nil .nil)) (.node (kV #[(.str "self" 453),(.str "size" 454),(.str "number" 455)]) (.node ⟨(.type "frame"),none,.plain,#[(some (.ref 340)),(some (.ref 3)),(some (.ref 337)),none,(some (.str "countkin.ring" 608)),none,(some (.ref 0))]⟩ (.node (kV #[(.str "self" 944),(.str "thing" 945)]) .nil .nil) .nil) (.node (kV #[(.str "self" 778),(.str "thing" 779)]) .nil .nil))) (.node kU (.node (kC "__init__" "Family.__init__" 409 48 3 (.ref 176) (.ref 177) .none (.ref 178) (.ref 179) (.ref 180) 415) (.node kU (.node ⟨(.type "super"),none,(.fields #[(.ref 564),(.ref 564),(.ref 564)]),#[]⟩ .nil .nil) .nil) (.node ⟨(.type "dict"),none,(.dict #[kD P "__module__" 694 (.str "countkin.ring" 608),kD P "__firstlineno__" 698 (.int 152 697),kD P "__init__" 705 (.ref 409),kD P "size_of" 713 (.ref 416),kD P "is_one" 719 (.ref 421),kD P "code_of" 727 (.ref 428),kD P "of_code" 735 (.ref 435),kD P "__static_attributes__" 736 (.ref 436),kD P "__doc__" 737 .none] 2),#[]⟩ .nil .nil)) (.node (kF "thing_of" "Family.thing_of" (inClass (top 18) 9) "countkin.kin" 395 244) (.node kU (.node (kF "joined" "Brackets.joined" (inClass (top 38) 5) "countkin.signs" 920 628) .nil .nil) .nil) (.node kU .nil .nil))))) (.node (kV #[(.str "size" 207),(.str "share" 208),(.str "k" 209)]) (.node kW (.node (kB "object.__init_subclass__" 75) (.node kU (.node (kV #[(.str "self" 526),(.str "word" 527)]) (.node kU .nil .nil) .nil) (.node ⟨(.type "builtin_function_or_method"),none,(.fields #[(.builtin "type.__prepare__"),(.type "type")]),#[]⟩ .nil .nil)) (.node kW (.node ⟨(.type "super"),none,(.fields #[(.ref 332),(.ref 332),(.ref 332)]),#[]⟩ (.node kW .nil .nil) .nil) (.node (kF "size_of" "Cars.size_of" (inClass (top 25) 1) "countkin.cars" 740 460) .nil .nil))) (.node kU (.node ⟨.none,none,(.fields #[(.int 48 0),(.int 4 0),(.ref 181),(.int 52 0),(.int 4 0),(.ref 188),(.int 55 0),(.int 4 0),(.ref 195),(.int 58 0),(.int 4 0),(.ref 202),(.int 61 0),(.int 4 0),(.ref 209),(.int 64 0),(.int 4 0),(.ref 216),(.int 67 0),(.int 4 0),(.ref 223),(.int 72 0),(.int 4 0),(.ref 230),(.int 76 0),(.int 4 0),(.ref 237),(.int 79 0),(.int 4 0),(.ref 244),(.int 85 0),(.int 4 0),(.ref 251)]),#[]⟩ (.node (kF "unchecked_many" "SplitFamily.unchecked_many" (inClass (top 19) 4) "countkin.kin" 395 300) (.node (kV #[(.str "self" 887),(.str "left" 888),(.str "right" 889),(.str "third" 890),(.str "last" 891),(.str "cuts" 892)]) .nil .nil) .nil) (.node kU .nil .nil)) (.node (kC "number_of" "Family.number_of" 475 76 2 (.ref 232) (.ref 233) .none (.ref 234) (.ref 235) (.ref 236) 480) (.node (kV #[(.str "self" 649),(.str "size" 650)]) (.node (kC "parted" "Brackets.parted" 964 273 2 (.ref 616) (.ref 617) .none (.ref 618) (.ref 619) (.ref 620) 969) .nil .nil) .nil) (.node (kF "pairs_raised_by" "pairs_raised_by" (top 28) "countkin.common" 793 492) .nil .nil)))) (.node kU (.node kU (.node kU (.node (kG "parted" "SplitFamily.parted" (inClass (top 19) 2)) (.node kU .nil .nil) .nil) (.node kU .nil .nil)) (.node kU (.node kU (.node kU .nil .nil) .nil) (.node (kC "of_code" "Cars.of_code" 783 186 2 (.ref 474) (.ref 475) .none .none .none (.ref 476) 786) .nil .nil))) (.node (kB "object.__init_subclass__" 123) (.node (kF "size_of" "Family.size_of" (inClass (top 18) 1) "countkin.kin" 395 188) (.node kW (.node (kF "may_be_cut" "may_be_cut" (top 34) "countkin.floors" 834 572) .nil .nil) .nil) (.node ⟨.none,none,(.fields #[(.int 172 0),(.int 4 0),(.ref 453),(.int 175 0),(.int 4 0),(.ref 460),(.int 178 0),(.int 4 0),(.ref 465),(.int 183 0),(.int 4 0),(.ref 472),(.int 186 0),(.int 4 0),(.ref 477)]),#[]⟩ .nil .nil)) (.node (kV #[(.str "least" 501),(.str "word" 502)]) (.node (kG "unchecked_thing" "RingFamily.unchecked_thing" (inClass (top 21) 5)) .nil .nil) (.node kW .nil .nil)))))))) (.node (boot_o_2 P) (.node (boot_o_4 P) (.node (boot_o_8 P) (.node kW (.node (kC "by_rule" "by_rule" 204 11 1 (.ref 27) (.ref 28) .none (.ref 29) (.ref 30) (.ref 31) 210) (.node ⟨(.type "super"),none,(.fields #[(.ref 63),(.ref 63),(.ref 63)]),#[]⟩ (.node ⟨(.type "dict"),none,(.dict #[kD P "__module__" 345 (.str "countkin.errors" 222),kD P "__qualname__" 347 (.str "NoMark" 346),kD P "__firstlineno__" 349 (.int 36 348),kD P "__static_attributes__" 350 (.ref 133)] 4),#[]⟩ (.node ⟨(.type "getset_descriptor"),none,(.fields #[(.str "__dict__" 504),(.ref 255),(.builtin "function.__dict__"),(.builtin "function.__dict__#set")]),#[]⟩ (.node (kG "any_cross" "any_cross" (top 31)) .nil .nil) .nil) (.node kU .nil .nil)) (.node (kV #[(.str "self" 429),(.str "thing" 430)]) (.node (kG "number_by_parts" "SplitFamily.number_by_parts" (inClass (top 19) 7)) (.node (kV #[(.str "text" 914),(.str "depth" 915),(.str "sign" 916)]) .nil .nil) .nil) (.node kU .nil .nil))) (.node ⟨(.type "frame"),none,.plain,#[(some (.ref 95)),(some (.ref 3)),(some (.ref 92)),none,(some (.str "countkin.errors" 222)),none,(some (.ref 0))]⟩ (.node kU (.node kU (.node kU .nil .nil) .nil) (.node (kF "size_of" "Codes.size_of" (inClass (top 23) 1) "countkin.ring" 608 415) .nil .nil)) (.node (kF "many" "Family.many" (inClass (top 18) 6) "countkin.kin" 395 223) (.node kU (.node (kF "is_one" "Brackets.is_one" (inClass (top 38) 2) "countkin.signs" 920 607) .nil .nil) .nil) (.node ⟨(.type "dict"),none,(.dict #[kD P "__module__" 749 (.str "countkin.cars" 740),kD P "__firstlineno__" 753 (.int 170 752),kD P "__init__" 760 (.ref 454),kD P "size_of" 768 (.ref 461),kD P "is_one" 774 (.ref 466),kD P "code_of" 782 (.ref 473),kD P "of_code" 788 (.ref 478),kD P "__static_attributes__" 789 (.ref 479),kD P "__doc__" 790 .none] 2),#[]⟩ .nil .nil)))) (.node kU (.node ⟨(.type "dict"),none,(.dict #[kD P "__module__" 281 (.str "countkin.errors" 222),kD P "__qualname__" 283 (.str "NoThing" 282),kD P "__firstlineno__" 285 (.int 28 284),kD P "__static_attributes__" 286 (.ref 85)] 4),#[]⟩ (.node ⟨(.type "frame"),none,.plain,#[(some (.ref 143)),(some (.ref 3)),(some (.ref 140)),none,(some (.str "countkin.errors" 222)),none,(some (.ref 0))]⟩ (.node (kC "__init__" "SplitFamily.__init__" 523 89 2 (.ref 267) (.ref 268) .none (.ref 269) (.ref 270) (.ref 271) 528) (.node (kF "__init__" "Floors.__init__" (inClass (top 33) 0) "countkin.floors" 834 527) .nil .nil) .nil) (.node ⟨.none,none,(.fields #[(.int 154 0),(.int 4 0),(.ref 408),(.int 157 0),(.int 4 0),(.ref 415),(.int 160 0),(.int 4 0),(.ref 420),(.int 164 0),(.int 4 0),(.ref 427),(.int 167 0),(.int 4 0),(.ref 434)]),#[]⟩ .nil .nil)) (.node (kG "unchecked_number" "Family.unchecked_number" (inClass (top 18) 4)) (.node ⟨(.type "builtin_function_or_method"),none,(.fields #[(.builtin "type.__prepare__"),(.type "type")]),#[]⟩ (.node (kG "__init__" "Brackets.__init__" (inClass (top 38) 0)) .nil .nil) .nil) (.node (kG "is_one" "Cars.is_one" (inClass (top 25) 2)) .nil .nil))) (.node ⟨(.type "super"),none,(.fields #[(.ref 111),(.ref 111),(.ref 111)]),#[]⟩ (.node kU (.node (kV #[(.str "self" 566),(.str "thing" 567)]) (.node (kC "joined" "Floors.joined" 884 236 3 (.ref 555) (.ref 556) .none (.ref 557) (.ref 558) (.ref 559) 893) .nil .nil) .nil) (.node kU .nil .nil)) (.node kW (.node (kC "unchecked_many" "RingFamily.unchecked_many" 646 137 2 (.ref 363) (.ref 364) .none (.ref 365) (.ref 366) (.ref 367) 651) (.node kW .nil .nil) .nil) (.node (kV #[(.str "rows" 810),(.str "found" 811),(.str "row" 812)]) .nil .nil))))) (.node (kG "shares" "shares" (top 3)) (.node (kF "ring_many" "ring_many" (top 5) "countkin.counts" 194 39) (.node ⟨(.type "frame"),none,.plain,#[(some (.ref 71)),(some (.ref 3)),(some (.ref 68)),none,(some (.str "countkin.errors" 222)),none,(some (.ref 0))]⟩ (.node ⟨(.type "super"),none,(.fields #[(.ref 135),(.ref 135),(.ref 135)]),#[]⟩ (.node ⟨.none,none,(.fields #[(.int 89 0),(.int 4 0),(.ref 272),(.int 92 0),(.int 4 0),(.ref 279),(.int 95 0),(.int 4 0),(.ref 286),(.int 98 0),(.int 4 0),(.ref 293),(.int 101 0),(.int 4 0),(.ref 300),(.int 104 0),(.int 4 0),(.ref 307),(.int 107 0),(.int 4 0),(.ref 314),(.int 110 0),(.int 4 0),(.ref 321),(.int 113 0),(.int 4 0),(.ref 328)]),#[]⟩ (.node ⟨(.type "code"),none,(.fields #[(.str "Floors" 838),(.str "Floors" 839),(.str "/claim/cut.py" 840),(.int 213 0),(.int 0 0),(.int 0 0),(.int 0 0),(.int 0 0),(.ref 518),(.bool false),(.int 181 0),(.ref 519),.none,.none,.none,.none,(.int 841 0),(.int 213 0),(.str "/claim/cut.py" 842)]),#[]⟩ .nil .nil) .nil) (.node kU .nil .nil)) (.node kU (.node (kC "thing_by_parts" "SplitFamily.thing_by_parts" 589 113 4 (.ref 323) (.ref 324) .none (.ref 325) (.ref 326) (.ref 327) 601) (.node kU .nil .nil) .nil) (.node kW .nil .nil))) (.node ⟨(.type "dict"),none,(.dict #[kD P "__module__" 313 (.str "countkin.errors" 222),kD P "__qualname__" 315 (.str "NoWay" 314),kD P "__firstlineno__" 317 (.int 32 316),kD P "__static_attributes__" 318 (.ref 109)] 4),#[]⟩ (.node (kB "object.__init_subclass__" 166) (.node kW (.node (kG "parted" "Floors.parted" (inClass (top 33) 4)) .nil .nil) .nil) (.node (kV #[(.str "self" 723),(.str "thing" 724)]) .nil .nil)) (.node kU (.node (kG "of_code" "RingFamily.of_code" (inClass (top 21) 2)) (.node kU .nil .nil) .nil) (.node (kF "raised_by" "raised_by" (top 27) "countkin.common" 793 487) .nil .nil)))) (.node ⟨(.type "dict"),none,(.dict #[kD P "__module__" 249 (.str "countkin.errors" 222),kD P "__qualname__" 251 (.str "NoSize" 250),kD P "__firstlineno__" 253 (.int 24 252),kD P "__static_attributes__" 254 (.ref 61)] 4),#[]⟩ (.node ⟨(.type "super"),none,(.fields #[(.ref 87),(.ref 87),(.ref 87)]),#[]⟩ (.node ⟨(.type "dict"),none,(.dict #[kD P "__module__" 377 (.str "countkin.errors" 222),kD P "__qualname__" 379 (.str "Broken" 378),kD P "__firstlineno__" 381 (.int 40 380),kD P "__init__" 389 (.ref 163),kD P "__static_attributes__" 391 (.ref 164)] 5),#[]⟩ (.node (kF "bare" "SplitFamily.bare" (inClass (top 19) 1) "countkin.kin" 395 279) (.node kU .nil .nil) .nil) (.node (kC "__init__" "Codes.__init__" 699 154 1 (.ref 403) (.ref 404) .none (.ref 405) (.ref 406) (.ref 407) 703) .nil .nil)) (.node (kC "unchecked_thing" "Family.unchecked_thing" 450 64 3 (.ref 211) (.ref 212) .none (.ref 213) (.ref 214) (.ref 215) 456) (.node (kV #[(.str "self" 625),(.str "word" 626)]) (.node (kC "size_of" "Brackets.size_of" 941 264 2 (.ref 595) (.ref 596) .none (.ref 597) (.ref 598) (.ref 599) 946) .nil .nil) .nil) (.node (kC "code_of" "Cars.code_of" 775 183 2 (.ref 467) (.ref 468) .none (.ref 469) (.ref 470) (.ref 471) 780) .nil .nil))) (.node ⟨(.type "frame"),none,.plain,#[(some (.ref 119)),(some (.ref 3)),(some (.ref 116)),none,(some (.str "countkin.errors" 222)),none,(some (.ref 0))]⟩ (.node kW (.node kU (.node kW .nil .nil) .nil) (.node (kB "object.__init_subclass__" 438) .nil .nil)) (.node (kV #[(.str "self" 496),(.str "thing" 497)]) (.node (kF "unchecked_number" "RingFamily.unchecked_number" (inClass (top 21) 4) "countkin.ring" 608 375) (.node ⟨(.type "type"),none,(.cls ⟨"Brackets",[(.ref 332)],[(.ref 632),(.ref 332),(.ref 255),(.type "object")],631,"Brackets",true,[],[],false,none,false⟩),#[(some (.ref 581)),none,(some (.str "Brackets" 922)),(some (.str "Brackets" 930)),(some (.builtin "object.__new__")),(some (.bool true))]⟩ .nil .nil) .nil) (.node kU .nil .nil)))))) (.node ⟨.none,none,(.fields (JQ ((.int 1 0)::(.int 0 0)::(.ref 20)::(.int 6 0)::(.int 0 0)::(.ref 25)::(.int 11 0)::(.int 0 0)::(.ref 32)::(.int 16 0)::(.int 0 0)::(.ref 39)::(.int 22 0)::(.int 0 0)::(.ref 46)::(.int 24 0)::(.int 0 0)::(.ref 59)::(.int 26 0)::(.int 0 0)::(.ref 71)::(.int 28 0)::(.int 0 0)::(.ref 83)::(.int 30 0)::(.int 0 0)::(.ref 95)::(.int 32 0)::(.int 0 0)::(.ref 107)::(.int 34 0)::(.int 0 0)::(.ref 119)::(.int 36 0)::(.int 0 0)::(.ref 131)::(.int 38 0)::(.int 0 0)::(.ref 143)::(.int 40 0)::(.int 0 0)::(.ref 155)::(.int 46 0)::(.int 0 0)::(.ref 174)::(.int 87 0)::(.int 0 0)::(.ref 265)::(.int 126 0)::(.int 0 0)::(.ref 340)::(.int 145 0)::(.int 0 0)::(.ref 394)::(.int 152 0)::(.int 0 0)::(.ref 401)::(.int 170 0)::(.int 0 0)::(.ref 446)::(.int 195 0)::(.int 0 0)::(.ref 487)::(.int 197 0)::(.int 0 0)::(.ref 492)::(.int 199 0)::(.int 0 0)::(.ref 499)::(.int 204 0)::(.int 0 0)::(.ref 506)::(.int 206 0)::(.int 0 0)::(.ref 513)::(.int 213 0)::(.int 0 0)::(.ref 520)::(.int 245 0)::(.int 0 0)::(.ref 572)::(.int 248 0)::(.int 0 0)::(.ref 579)::(.int 259 0)::(.int 0 0)::(.ref 586)::[]))),#[]⟩ (.node (kC "_wall" "_wall" 187 1 1 (.ref 15) (.ref 16) .none (.ref 17) (.ref 18) (.ref 19) 191) (.node (kV #[(.str "size" 216),(.str "product" 217),(.str "factor" 218)]) (.node ⟨(.type "dict"),none,(.dict #[kD P "__module__" 265 (.str "countkin.errors" 222),kD P "__qualname__" 267 (.str "NoNumber" 266),kD P "__firstlineno__" 269 (.int 26 268),kD P "__static_attributes__" 270 (.ref 73)] 4),#[]⟩ (.node ⟨(.type "frame"),none,.plain,#[(some (.ref 131)),(some (.ref 3)),(some (.ref 128)),none,(some (.str "countkin.errors" 222)),none,(some (.ref 0))]⟩ (.node (kV #[(.ref 255)]) (.node ⟨(.type "builtin_function_or_method"),none,(.fields #[(.builtin "type.__prepare__"),(.type "type")]),#[]⟩ .nil .nil) .nil) (.node (kB "object.__init_subclass__" 386) .nil .nil)) (.node (kF "is_one" "Family.is_one" (inClass (top 18) 2) "countkin.kin" 395 195) (.node kW (.node (kF "closes" "closes" (top 36) "countkin.steps" 909 579) .nil .nil) .nil) (.node (kG "__init__" "Cars.__init__" (inClass (top 25) 0)) .nil .nil))) (.node ⟨(.type "super"),none,(.fields #[(.ref 99),(.ref 99),(.ref 99)]),#[]⟩ (.node (kV #[(.str "place" 390)]) (.node (kG "joined" "SplitFamily.joined" (inClass (top 19) 3)) (.node kU .nil .nil) .nil) (.node (kC "is_one" "Codes.is_one" 714 160 2 (.ref 417) (.ref 418) .none .none .none (.ref 419) 717) .nil .nil)) (.node kU (.node kU (.node kU .nil .nil) .nil) (.node kU .nil .nil)))) (.node ⟨(.type "super"),none,(.fields #[(.ref 50),(.ref 50),(.ref 50)]),#[]⟩ (.node ⟨(.type "frame"),none,.plain,#[(some (.ref 83)),(some (.ref 3)),(some (.ref 80)),none,(some (.str "countkin.errors" 222)),none,(some (.ref 0))]⟩ (.node ⟨(.type "super"),none,(.fields #[(.ref 147),(.ref 147),(.ref 147)]),#[]⟩ (.node (kV #[(.str "self" 534)]) (.node kU .nil .nil) .nil) (.node kW .nil .nil)) (.node kW (.node ⟨(.type "code"),none,(.fields #[(.str "RingFamily" 612),(.str "RingFamily" 613),(.str "/claim/cut.py" 614),(.int 126 0),(.int 0 0),(.int 0 0),(.int 0 0),(.int 0 0),(.ref 338),(.bool false),(.int 181 0),(.ref 339),.none,.none,.none,.none,(.int 615 0),(.int 126 0),(.str "/claim/cut.py" 616)]),#[]⟩ (.node kW .nil .nil) .nil) (.node kW .nil .nil))) (.node ⟨(.type "dict"),none,(.dict #[kD P "__module__" 329 (.str "countkin.errors" 222),kD P "__qualname__" 331 (.str "Apart" 330),kD P "__firstlineno__" 333 (.int 34 332),kD P "__static_attributes__" 334 (.ref 121)] 4),#[]⟩ (.node (kG "__init__" "Family.__init__" (inClass (top 18) 0)) (.node (kF "unchecked_number" "SplitFamily.unchecked_number" (inClass (top 19) 5) "countkin.kin" 395 307) (.node ⟨(.type "type"),none,(.cls ⟨"Floors",[(.ref 332)],[(.ref 564),(.ref 332),(.ref 255),(.type "object")],563,"Floors",true,[],[],false,none,false⟩),#[(some (.ref 515)),none,(some (.str "Floors" 836)),(some (.str "Floors" 844)),(some (.builtin "object.__new__")),(some (.bool true))]⟩ .nil .nil) .nil) (.node kU .nil .nil)) (.node (kC "thing_of" "Family.thing_of" 483 79 3 (.ref 239) (.ref 240) .none (.ref 241) (.ref 242) (.ref 243) 490) (.node (kV #[(.str "self" 657),(.str "thing" 658)]) (.node (kC "joined" "Brackets.joined" 972 276 3 (.ref 623) (.ref 624) .none (.ref 625) (.ref 626) (.ref 627) 978) .nil .nil) .nil) (.node (kF "flat" "flat" (top 29) "countkin.common" 793 499) .nil .nil))))) (.node kW (.node kU (.node ⟨(.type "super"),none,(.fields #[(.ref 75),(.ref 75),(.ref 75)]),#[]⟩ (.node ⟨(.type "dict"),none,(.dict #[kD P "__module__" 361 (.str "countkin.errors" 222),kD P "__qualname__" 363 (.str "NoText" 362),kD P "__firstlineno__" 365 (.int 38 364),kD P "__static_attributes__" 366 (.ref 145)] 4),#[]⟩ (.node kW (.node (kV #[(.str "self" 851)]) .nil .nil) .nil) (.node (kV #[(.ref 386)]) .nil .nil)) (.node kU (.node ⟨(.type "type"),none,(.cls ⟨"SplitFamily",[(.ref 255)],[(.ref 332),(.ref 255),(.type "object")],331,"SplitFamily",true,[],[(.ref 564),(.ref 632)],false,none,false⟩),#[(some (.ref 260)),none,(some (.str "SplitFamily" 511)),(some (.str "SplitFamily" 519)),(some (.builtin "object.__new__")),(some (.bool true))]⟩ (.node kU .nil .nil) .nil) (.node (kC "size_of" "Cars.size_of" 761 175 2 (.ref 455) (.ref 456) .none (.ref 457) (.ref 458) (.ref 459) 766) .nil .nil))) (.node ⟨(.type "frame"),none,.plain,#[(some (.ref 107)),(some (.ref 3)),(some (.ref 104)),none,(some (.str "countkin.errors" 222)),none,(some (.ref 0))]⟩ (.node kU (.node (kC "unchecked_many" "SplitFamily.unchecked_many" 555 101 2 (.ref 295) (.ref 296) .none (.ref 297) (.ref 298) (.ref 299) 560) (.node kW .nil .nil) .nil) (.node (kF "code_of" "Codes.code_of" (inClass (top 23) 3) "countkin.ring" 608 427) .nil .nil)) (.node (kG "number_of" "Family.number_of" (inClass (top 18) 8)) (.node kW (.node (kG "parted" "Brackets.parted" (inClass (top 38) 4)) .nil .nil) .nil) (.node (kC "pairs_raised_by" "pairs_raised_by" 801 197 2 (.ref 489) (.ref 490) .none .none .none (.ref 491) 804) .nil .nil)))) (.node ⟨(.type "frame"),none,.plain,#[(some (.ref 59)),(some (.ref 3)),(some (.ref 56)),none,(some (.str "countkin.errors" 222)),none,(some (.ref 0))]⟩ (.node ⟨(.type "dict"),none,(.dict #[kD P "__module__" 297 (.str "countkin.errors" 222),kD P "__qualname__" 299 (.str "NoFamily" 298),kD P "__firstlineno__" 301 (.int 30 300),kD P "__static_attributes__" 302 (.ref 97)] 4),#[]⟩ (.node ⟨(.type "frame"),none,.plain,#[(some (.ref 155)),(some (.ref 3)),(some (.ref 152)),none,(some (.str "countkin.errors" 222)),none,(some (.ref 0))]⟩ (.node kU (.node (kF "is_one" "Floors.is_one" (inClass (top 33) 2) "countkin.floors" 834 539) .nil .nil) .nil) (.node (kV #[(.str "self" 709),(.str "thing" 710)]) .nil .nil)) (.node (kV #[(.str "self" 462),(.str "size" 463)]) (.node (kF "__init__" "RingFamily.__init__" (inClass (top 21) 0) "countkin.ring" 608 347) (.node (kV #[(.str "self" 952),(.str "thing" 953)]) .nil .nil) .nil) (.node (kG "of_code" "Cars.of_code" (inClass (top 25) 4)) .nil .nil))) (.node ⟨(.type "super"),none,(.fields #[(.ref 123),(.ref 123),(.ref 123)]),#[]⟩ (.node (kC "size_of" "Family.size_of" 418 52 2 (.ref 183) (.ref 184) .none (.ref 185) (.ref 186) (.ref 187) 423) (.node kU (.node (kC "may_be_cut" "may_be_cut" 900 245 3 (.ref 567) (.ref 568) .none (.ref 569) (.ref 570) (.ref 571) 906) .nil .nil) .nil) (.node kU .nil .nil)) (.node (kF "next_of" "Family.next_of" (inClass (top 18) 10) "countkin.kin" 395 251) (.node kU .nil .nil) (.node kU .nil .nil))))))) (.node (boot_o_6 P) (.node (boot_o_10 P) (.node kU (.node kU (.node (kV #[(.ref 50)]) (.node kW (.node ⟨(.type "super"),none,(.fields #[(.ref 255),(.ref 255),(.ref 255)]),#[]⟩ (.node (kF "any_cross" "any_cross" (top 31) "countkin.common" 793 513) .nil .nil) .nil) (.node ⟨(.type "type"),none,(.cls ⟨"RingFamily",[(.ref 255)],[(.ref 386),(.ref 255),(.type "object")],385,"RingFamily",true,[],[(.ref 438),(.ref 481)],false,none,false⟩),#[(some (.ref 335)),none,(some (.str "RingFamily" 610)),(some (.str "RingFamily" 618)),(some (.builtin "object.__new__")),(some (.bool true))]⟩ .nil .nil)) (.node (kG "is_one" "Family.is_one" (inClass (top 18) 2)) (.node (kF "number_by_parts" "SplitFamily.number_by_parts" (inClass (top 19) 7) "countkin.kin" 395 321) (.node (kG "closes" "closes" (top 36)) .nil .nil) .nil) (.node (kV #[(.str "self" 757)]) .nil .nil))) (.node ⟨(.type "dict"),none,(.dict #[kD P "__module__" 297 (.str "countkin.errors" 222),kD P "__firstlineno__" 301 (.int 30 300),kD P "__static_attributes__" 302 (.ref 97),kD P "__doc__" 303 .none] 2),#[]⟩ (.node (kC "__init__" "Broken.__init__" 382 42 2 (.ref 157) (.ref 158) .none (.ref 159) (.ref 160) (.ref 161) 387) (.node (kV #[(.str "self" 549),(.str "left" 550),(.str "right" 551)]) (.node (kC "bare" "Floors.bare" 869 230 1 (.ref 541) (.ref 542) .none (.ref 543) (.ref 544) (.ref 545) 873) .nil .nil) .nil) (.node kW .nil .nil)) (.node kW (.node (kC "code_of" "RingFamily.code_of" 630 131 2 (.ref 349) (.ref 350) .none (.ref 351) (.ref 352) (.ref 353) 635) (.node kW .nil .nil) .nil) (.node ⟨(.type "super"),none,(.fields #[(.ref 481),(.ref 481),(.ref 481)]),#[]⟩ .nil .nil)))) (.node ⟨(.type "type"),none,(.cls ⟨"KinError",[(.type "ValueError")],[(.ref 50),(.type "ValueError"),(.type "Exception"),(.type "BaseException"),(.type "object")],49,"KinError",true,[],[(.ref 63),(.ref 75),(.ref 87),(.ref 99),(.ref 111),(.ref 123),(.ref 135),(.ref 147),(.ref 166)],false,none,false⟩),#[(some (.ref 41)),none,(some (.str "KinError" 224)),(some (.str "KinError" 232)),(some (.builtin "ValueError.__new__")),(some (.bool true))]⟩ (.node kW (.node ⟨(.type "dict"),none,(.dict #[kD P "__module__" 361 (.str "countkin.errors" 222),kD P "__firstlineno__" 365 (.int 38 364),kD P "__static_attributes__" 366 (.ref 145),kD P "__doc__" 367 .none] 2),#[]⟩ (.node kU (.node kW .nil .nil) .nil) (.node ⟨(.type "frame"),none,.plain,#[(some (.ref 401)),(some (.ref 3)),(some (.ref 398)),none,(some (.str "countkin.ring" 608)),none,(some (.ref 0))]⟩ .nil .nil)) (.node (kF "unchecked_number" "Family.unchecked_number" (inClass (top 18) 4) "countkin.kin" 395 209) (.node kU (.node (kF "__init__" "Brackets.__init__" (inClass (top 38) 0) "countkin.signs" 920 593) .nil .nil) .nil) (.node (kF "is_one" "Cars.is_one" (inClass (top 25) 2) "countkin.cars" 740 465) .nil .nil))) (.node (kV #[(.ref 50)]) (.node (kV #[(.str "self" 412),(.str "word" 413),(.str "least" 414)]) (.node (kG "unchecked_number" "SplitFamily.unchecked_number" (inClass (top 19) 5)) (.node kU .nil .nil) .nil) (.node (kC "of_code" "Codes.of_code" 728 167 2 (.ref 429) (.ref 430) .none (.ref 431) (.ref 432) (.ref 433) 733) .nil .nil)) (.node kU (.node kU (.node kU .nil .nil) .nil) (.node (kG "flat" "flat" (top 29)) .nil .nil))))) (.node (kF "shares" "shares" (top 3) "countkin.counts" 194 25) (.node ⟨(.type "builtin_function_or_method"),none,(.fields #[(.builtin "type.__prepare__"),(.type "type")]),#[]⟩ (.node ⟨(.type "dict"),none,(.dict #[kD P "__module__" 265 (.str "countkin.errors" 222),kD P "__firstlineno__" 269 (.int 26 268),kD P "__static_attributes__" 270 (.ref 73),kD P "__doc__" 271 .none] 2),#[]⟩ (.node (kV #[(.ref 50)]) (.node ⟨(.type "frame"),none,.plain,#[(some (.ref 265)),(some (.ref 3)),(some (.ref 262)),none,(some (.str "countkin.kin" 395)),none,(some (.ref 0))]⟩ (.node kU .nil .nil) .nil) (.node (kC "number_figures" "number_figures" 675 145 3 (.ref 389) (.ref 390) .none (.ref 391) (.ref 392) (.ref 393) 684) .nil .nil)) (.node (kC "unchecked_many" "Family.unchecked_many" 434 58 2 (.ref 197) (.ref 198) .none (.ref 199) (.ref 200) (.ref 201) 439) (.node kU (.node ⟨(.type "code"),none,(.fields #[(.str "Brackets" 924),(.str "Brackets" 925),(.str "/claim/cut.py" 926),(.int 259 0),(.int 0 0),(.int 0 0),(.int 0 0),(.int 0 0),(.ref 584),(.bool false),(.int 181 0),(.ref 585),.none,.none,.none,.none,(.int 927 0),(.int 259 0),(.str "/claim/cut.py" 928)]),#[]⟩ .nil .nil) .nil) (.node kU .nil .nil))) (.node kW (.node ⟨(.type "builtin_function_or_method"),none,(.fields #[(.builtin "type.__prepare__"),(.type "type")]),#[]⟩ (.node kU (.node (kF "parted" "Floors.parted" (inClass (top 33) 4) "countkin.floors" 834 553) .nil .nil) .nil) (.node (kG "code_of" "Codes.code_of" (inClass (top 23) 3)) .nil .nil)) (.node (kV #[(.str "self" 478),(.str "thing" 479)]) (.node (kF "of_code" "RingFamily.of_code" (inClass (top 21) 2) "countkin.ring" 608 361) (.node (kV #[(.str "self" 967),(.str "thing" 968)]) .nil .nil) .nil) (.node kW .nil .nil)))) (.node kW (.node (kV #[(.ref 50)]) (.node ⟨.none,none,(.fields #[(.int 42 0),(.int 4 0),(.ref 162)]),#[]⟩ (.node kW (.node (kG "is_one" "Floors.is_one" (inClass (top 33) 2)) .nil .nil) .nil) (.node kU .nil .nil)) (.node kU (.node (kG "__init__" "RingFamily.__init__" (inClass (top 21) 0)) (.node kU .nil .nil) .nil) (.node kU .nil .nil))) (.node ⟨(.type "dict"),none,(.dict #[kD P "__module__" 329 (.str "countkin.errors" 222),kD P "__firstlineno__" 333 (.int 34 332),kD P "__static_attributes__" 334 (.ref 121),kD P "__doc__" 335 .none] 2),#[]⟩ (.node kU (.node (kC "unchecked_thing" "SplitFamily.unchecked_thing" 571 107 3 (.ref 309) (.ref 310) .none (.ref 311) (.ref 312) (.ref 313) 577) (.node kU .nil .nil) .nil) (.node ⟨(.type "builtin_function_or_method"),none,(.fields #[(.builtin "type.__prepare__"),(.type "type")]),#[]⟩ .nil .nil)) (.node (kG "next_of" "Family.next_of" (inClass (top 18) 10)) (.node kW (.node (kB "object.__init_subclass__" 632) .nil .nil) .nil) (.node (kC "each_once" "each_once" 816 204 1 (.ref 501) (.ref 502) .none (.ref 503) (.ref 504) (.ref 505) 820) .nil .nil)))))) (.node ⟨(.type "frame"),none,.plain,#[(some (.ref 13)),(some (.ref 3)),(some (.ref 3)),none,(some (.str "__main__" 164)),none,(some (.ref 0))]⟩ (.node kU (.node (kG "ring_many" "ring_many" (top 5)) (.node kW (.node ⟨(.type "dict"),none,(.dict #[kD P "__module__" 345 (.str "countkin.errors" 222),kD P "__firstlineno__" 349 (.int 36 348),kD P "__static_attributes__" 350 (.ref 133),kD P "__doc__" 351 .none] 2),#[]⟩ (.node ⟨(.type "dict"),none,(.dict #[kD P "__module__" 518 (.str "countkin.kin" 395),kD P "__qualname__" 520 (.str "SplitFamily" 519),kD P "__firstlineno__" 522 (.int 87 521),kD P "__init__" 530 (.ref 273),kD P "bare" 537 (.ref 280),kD P "parted" 545 (.ref 287),kD P "joined" 554 (.ref 294),kD P "unchecked_many" 562 (.ref 301),kD P "unchecked_number" 570 (.ref 308),kD P "unchecked_thing" 579 (.ref 315),kD P "number_by_parts" 588 (.ref 322),kD P "thing_by_parts" 603 (.ref 329),kD P "__static_attributes__" 604 (.ref 330)] 13),#[]⟩ (.node kU .nil .nil) .nil) (.node kW .nil .nil)) (.node kW (.node kU (.node ⟨(.type "builtin_function_or_method"),none,(.fields #[(.builtin "type.__prepare__"),(.type "type")]),#[]⟩ .nil .nil) .nil) (.node (kF "__init__" "Cars.__init__" (inClass (top 25) 0) "countkin.cars" 740 453) .nil .nil))) (.node (kV #[(.ref 50)]) (.node ⟨(.type "type"),none,(.cls ⟨"Broken",[(.ref 50)],[(.ref 166),(.ref 50),(.type "ValueError"),(.type "Exception"),(.type "BaseException"),(.type "object")],165,"Broken",true,[],[],false,none,false⟩),#[(some (.ref 150)),none,(some (.str "Broken" 370)),(some (.str "Broken" 378)),(some (.builtin "ValueError.__new__")),(some (.bool true))]⟩ (.node (kF "joined" "SplitFamily.joined" (inClass (top 19) 3) "countkin.kin" 395 293) (.node (kV #[(.str "self" 879),(.str "thing" 880)]) .nil .nil) .nil) (.node kU .nil .nil)) (.node (kC "refuse_other" "Family.refuse_other" 467 72 2 (.ref 225) (.ref 226) .none (.ref 227) (.ref 228) (.ref 229) 472) (.node (kV #[(.str "self" 641),(.str "code" 642)]) (.node (kC "bare" "Brackets.bare" 957 270 1 (.ref 609) (.ref 610) .none (.ref 611) (.ref 612) (.ref 613) 961) .nil .nil) .nil) (.node (kG "raised_by" "raised_by" (top 27)) .nil .nil)))) (.node (kV #[(.ref 50)]) (.node ⟨(.type "dict"),none,(.dict #[kD P "__module__" 281 (.str "countkin.errors" 222),kD P "__firstlineno__" 285 (.int 28 284),kD P "__static_attributes__" 286 (.ref 85),kD P "__doc__" 287 .none] 2),#[]⟩ (.node (kV #[(.ref 50)]) (.node (kG "bare" "SplitFamily.bare" (inClass (top 19) 1)) (.node (kC "size_of" "Floors.size_of" 855 218 2 (.ref 529) (.ref 530) .none (.ref 531) (.ref 532) (.ref 533) 860) .nil .nil) .nil) (.node kU .nil .nil)) (.node kU (.node kU (.node kU .nil .nil) .nil) (.node kU .nil .nil))) (.node kW (.node (kF "__init__" "Family.__init__" (inClass (top 18) 0) "countkin.kin" 395 181) (.node kW (.node (kB "object.__init_subclass__" 564) .nil .nil) .nil) (.node ⟨(.type "type"),none,(.cls ⟨"Codes",[(.ref 386)],[(.ref 438),(.ref 386),(.ref 255),(.type "object")],437,"Codes",true,[],[],false,none,false⟩),#[(some (.ref 396)),none,(some (.str "Codes" 687)),(some (.str "Codes" 695)),(some (.builtin "object.__new__")),(some (.bool true))]⟩ .nil .nil)) (.node kU (.node (kG "unchecked_number" "RingFamily.unchecked_number" (inClass (top 21) 4)) (.node kU .nil .nil) .nil) (.node kW .nil .nil))))) (.node kU (.node ⟨(.type "code"),none,(.fields #[(.str "KinError" 226),(.str "KinError" 227),(.str "/claim/cut.py" 228),(.int 22 0),(.int 0 0),(.int 0 0),(.int 0 0),(.int 0 0),(.ref 44),(.bool false),(.int 181 0),(.ref 45),.none,.none,.none,.none,(.int 229 0),(.int 22 0),(.str "/claim/cut.py" 230)]),#[]⟩ (.node (kV #[(.ref 50)]) (.node kW (.node kU (.node (kG "__init__" "Floors.__init__" (inClass (top 33) 0)) .nil .nil) .nil) (.node ⟨(.type "dict"),none,(.dict #[kD P "__module__" 694 (.str "countkin.ring" 608),kD P "__qualname__" 696 (.str "Codes" 695),kD P "__firstlineno__" 698 (.int 152 697),kD P "__init__" 705 (.ref 409),kD P "size_of" 713 (.ref 416),kD P "is_one" 719 (.ref 421),kD P "code_of" 727 (.ref 428),kD P "of_code" 735 (.ref 435),kD P "__static_attributes__" 736 (.ref 436)] 9),#[]⟩ .nil .nil)) (.node (kV #[(.str "self" 445),(.str "thing" 446)]) (.node (kB "object.__init_subclass__" 332) (.node (kV #[(.str "self" 937)]) .nil .nil) .nil) (.node kU .nil .nil))) (.node ⟨(.type "dict"),none,(.dict #[kD P "__module__" 313 (.str "countkin.errors" 222),kD P "__firstlineno__" 317 (.int 32 316),kD P "__static_attributes__" 318 (.ref 109),kD P "__doc__" 319 .none] 2),#[]⟩ (.node ⟨(.type "code"),none,(.fields #[(.str "Family" 399),(.str "Family" 400),(.str "/claim/cut.py" 401),(.int 46 0),(.int 0 0),(.int 0 0),(.int 0 0),(.int 0 0),(.ref 172),(.bool false),(.int 181 0),(.ref 173),.none,.none,.none,.none,(.int 402 0),(.int 46 0),(.str "/claim/cut.py" 403)]),#[]⟩ (.node kU (.node kU .nil .nil) .nil) (.node kW .nil .nil)) (.node (kF "number_of" "Family.number_of" (inClass (top 18) 8) "countkin.kin" 395 237) (.node kU (.node (kF "parted" "Brackets.parted" (inClass (top 38) 4) "countkin.signs" 920 621) .nil .nil) .nil) (.node kU .nil .nil)))) (.node ⟨(.type "dict"),none,(.dict #[kD P "__module__" 249 (.str "countkin.errors" 222),kD P "__firstlineno__" 253 (.int 24 252),kD P "__static_attributes__" 254 (.ref 61),kD P "__doc__" 255 .none] 2),#[]⟩ (.node kW (.node kW (.node (kC "parted" "SplitFamily.parted" 538 95 2 (.ref 281) (.ref 282) .none (.ref 283) (.ref 284) (.ref 285) 543) (.node kW .nil .nil) .nil) (.node (kG "size_of" "Codes.size_of" (inClass (top 23) 1)) .nil .nil)) (.node (kG "many" "Family.many" (inClass (top 18) 6)) (.node kW (.node (kG "is_one" "Brackets.is_one" (inClass (top 38) 2)) .nil .nil) .nil) (.node (kF "of_code" "Cars.of_code" (inClass (top 25) 4) "countkin.cars" 740 477) .nil .nil))) (.node (kV #[(.ref 50)]) (.node kU (.node (kV #[(.str "self" 583),(.str "counts" 584),(.str "thing" 585)]) (.node kU .nil .nil) .nil) (.node ⟨(.type "code"),none,(.fields #[(.str "Cars" 744),(.str "Cars" 745),(.str "/claim/cut.py" 746),(.int 170 0),(.int 0 0),(.int 0 0),(.int 0 0),(.int 0 0),(.ref 444),(.bool false),(.int 181 0),(.ref 445),.none,.none,.none,.none,(.int 747 0),(.int 170 0),(.str "/claim/cut.py" 748)]),#[]⟩ .nil .nil)) (.node ⟨(.type "dict"),none,(.dict #[kD P "__module__" 404 (.str "countkin.kin" 395),kD P "__firstlineno__" 408 (.int 46 407),kD P "__init__" 417 (.ref 182),kD P "size_of" 425 (.ref 189),kD P "is_one" 433 (.ref 196),kD P "unchecked_many" 441 (.ref 203),kD P "unchecked_number" 449 (.ref 210),kD P "unchecked_thing" 458 (.ref 217),kD P "many" 466 (.ref 224),kD P "refuse_other" 474 (.ref 231),kD P "number_of" 482 (.ref 238),kD P "thing_of" 492 (.ref 245),kD P "next_of" 500 (.ref 252),kD P "__static_attributes__" 503 (.ref 253),kD P "__dict__" 505 (.ref 256),kD P "__weakref__" 507 (.ref 257),kD P "__doc__" 508 .none] 4),#[]⟩ (.node (kC "unchecked_thing" "RingFamily.unchecked_thing" 662 143 3 (.ref 377) (.ref 378) .none (.ref 379) (.ref 380) (.ref 381) 668) .nil .nil) (.node (kV #[(.str "pairs" 826),(.str "a" 827),(.str "b" 828),(.str "c" 829),(.str "d" 830)]) .nil .nil)))))))))
noncomputable def hS2 (w:Hh) (os:K2):SharedT:=⟨hTree2 w.params,635,({}:Life),Array.mk [],⟨0,0,0,0⟩,985,os⟩
noncomputable def hMidF (w:Hh) (os:K2):=segRunT treeTable PySem.Challenge.pw_countkin_k62_written_refuses w 11 (some (.ref 6)) 1 5636 (hS w os) (piecesOf (hB.take 39) hE hC ⟨0,0,0,0⟩ [topFrame ⟨0,0,0,0⟩])
noncomputable def hMidG (w:Hh) (os:K2):Option (Flow × SharedT × Code × Pos):=some (.next,hS2 w os,hC,⟨259,0,277,39⟩)
noncomputable def hRunF (w:Hh) (os:K2):=(segRunT treeTable PySem.Challenge.pw_countkin_k62_written_refuses w 11 (some (.ref 6)) 1 3606 (hS2 w os) (piecesOf (hB.drop 39) hE hC ⟨259,0,277,39⟩ [topFrame ⟨0,0,0,0⟩])).map (j8 treeTable PySem.Challenge.pw_countkin_k62_written_refuses w 11 (some (.ref 6)) ⟨0,0,0,0⟩ hC 2 (hLook w.params))
noncomputable def hRunG (w:Hh) (_:K2):=some (Flow.next,hC,some (true,openGood hQ hL,(hKs w.params).map fun p=>some p.2))
noncomputable def hSizF (w:Hh):=((LL w.params).isNs mainGlobals&&(Array.mk []:Array Lh).size == 0,(LL w.params).objs.size,(LL w.params).nsMap mainGlobals "__annotations__")
noncomputable def hSizG (_:Hh):Bool × Nat × Option Da:=(true,11,(some (.ref 6)))
theorem hSeed:(fun _ _ _ _ _ _ _ _ _ _=>true) hPreF hPreG hBlkF hBlkG hRunF hRunG hSizF hSizG hMidF hMidG=true:=by k_qdec
theorem hPre:hPreF=hPreG:=KU PySem.W.Fast.te5317814654954331368 (KU (by kernel_rfl) (Eq.symm PySem.W.Fast.te14277440360295502494))
theorem hBlk:hBlkF=hBlkG:=KU PySem.W.Fast.te2033988648308832629 (KU (by kernel_rfl) (Eq.symm PySem.W.Fast.te1798457917166677164))
theorem hMid:hMidF=hMidG:=KU PySem.W.Fast.te3840733706415240168 (KU (by kernel_rfl) (Eq.symm PySem.W.Fast.te18240272836940206031))
theorem hRun:hRunF=hRunG:=KU PySem.W.Fast.te6412348297585774662 (KU (by kernel_rfl) (Eq.symm PySem.W.Fast.te15447895654253735931))
theorem hSiz:hSizF=hSizG:=KU PySem.W.Fast.te13693962943478796877 (by kernel_rfl)
theorem hLeft:LeftO PySem.Challenge.pw_countkin_k62_written_refuses hQ hL hX (Hook.obs hH) (Hook.val hH) 18606 :=
 qG (boot_open (by kernel_rfl) (by decide) (fun _=>by kernel_rfl)) (fun w=>congrFun hSiz w)
  (fun w os=>by
   obtain ⟨e,r,l⟩:=wL (b:=hB) (env:=hE) (L:=hLook w.params) rfl (congrFun (congrFun hPre w) os) (congrFun (congrFun hBlk w) os) (congrFun (congrFun hMid w) os) (congrFun (congrFun hRun w) os)
   exact ⟨e,r,(congrArg (fun z=>(_,_,z)) (ym hAM e.heap)).trans l⟩) (by decide)
end Ck
open PySem PySem.W PyProof.Rows
set_option maxRecDepth 100000 in
set_option maxHeartbeats 0 in
theorem PySem.Challenge.cw_countkin_k62_written_refuses_holds : PySem.Challenge.rw_countkin_k62_written_refuses.Holds := by
 w_on; o_law
 refine holds_open (q:=Ck.hQ) (loose:=Ck.hL) (Xt:=Ck.hX) (XP:=XL Ck.hQ []) (Yf:=Hook.obs (kHook Ck.hK Ck.hA Ck.hKA)) (Ya:=Hook.val (kHook Ck.hK Ck.hA Ck.hKA)) (YP:=Hook.says (kHook Ck.hK Ck.hA Ck.hKA)) (N:=18606) Ck.hLeft (Hook.of (kHook Ck.hK Ck.hA Ck.hKA)) (Hook.keeps (kHook Ck.hK Ck.hA Ck.hKA))
  (fun s e=>xl_of s (Ik.mp e).1) XL.keeps (by rfl) (by rfl) (by rfl) (fun s e=>recFacts_of (Ik.mp e).2) (by rfl) (by first | assumption | decide +kernel) (by decide +kernel) ⟨rfl,rfl,rfl,rfl,rfl,by decide +kernel⟩ ?hw ?hc
 case hw=>w_witness2
 k_fill
 refine Ck.walk (l:=PySem.Challenge.rw_countkin_k62_written_refuses) rfl rfl (fun w h Y=>W.kIn_of Y) ?F
 case F =>
  intro w mg fa h KX G hmg
  refine' Ck.all_mk KX G hmg ?_ ?_ ?_ ?_ ?_ ?_ ?_ ?_ ?_ ?_ ?_ ?_ ?_ ?_ ?_ ?_ ?_ ?_ ?_ ?_ ?_ ?_ ?_ ?_ ?_ ?_ ?_ ?_ ?_ ?_ ?_ ?_ ?_ ?_ ?_ ?_ ?_ ?_ ?_ ?_ ?_ ?_ ?_ ?_ ?_ ?_ ?_ ?_ ?_ ?_ ?_ ?_ ?_ ?_ ?_ ?_ ?_ ?_ ?_ ?_ ?_ ?_ ?_ ?_ ?_ ?_ ?_ ?_ ?_ ?_ ?_ ?_ ?_ ?_ ?_ ?_ ?_ ?_ ?_ ?_ ?_ ?_ ?_ ?_ ?_ ?_ ?_ ?_ ?_ ?_ ?_ ?_ ?_ ?_ ?_ ?_ ?_ ?_ ?_ ?_ ?_ ?_ ?_ ?_ ?_ ?_ ?_ ?_ ?_ ?_ ?_ ?_ ?_ ?_ ?_ ?_ ?_ ?_ ?_ ?_ ?_ ?_ ?_ ?_ ?_ ?_ ?_ ?_ ?_ ?_ ?_ ?_ ?_ ?_ ?_ ?_ ?_ ?_ ?_ ?_ ?_ ?_ ?_ ?_ ?_ ?_ ?_ ?_ ?_ ?_ ?_ ?_ ?_ ?_ ?_ ?_ ?_ ?_ ?_ ?_ ?_ ?_ ?_ ?_ ?_ ?_ ?_ ?_ ?_ ?_ ?_ ?_ ?_ ?_ ?_ ?_ ?_ ?_ ?_ ?_ ?_ ?_ ?_ ?_ ?_ ?_ ?_ ?_ ?_ ?_ ?_ ?_ ?_ ?_ ?_ ?_ ?_ ?_ ?_ ?_ ?_ ?_ ?_ ?_ ?_ ?_ ?_ ?_ ?_ ?_ ?_ ?_ ?_ ?_ ?_ ?_ ?_ ?_ ?_ ?_ ?_ ?_ ?_ ?_ ?_ ?_ ?_ ?_ ?_ ?_ ?_ ?_ ?_ ?_ ?_ ?_ ?_ ?_ ?_ ?_ ?_ ?_ ?_ ?_ ?_ ?_ ?_ ?_ ?_ ?_ ?_ ?_ ?_ ?_ ?_ ?_ ?_ ?_ ?_ ?_ ?_ ?_ ?_ ?_ ?_ ?_ ?_ ?_ ?_ ?_ ?_ ?_ ?_ ?_ ?_ ?_ ?_
  any_goals first | refine' L2.Meth.mk ?_ ?_ ?_ | refine' L2.Cls.mk ?_ ?_ ?_ ?_ | refine' L2.InsT.mk (L2.Cls.mk ?_ ?_ ?_ ?_) ?_ ?_ ?_ ?_ | refine' L2.Mk.mk ?_ ?_ ?_ ?_ | refine' L2.ClsM.mk ?_ ?_ ?_ ?_ | refine' L2.fun_mk ?_ ?_ ?_ | unfold L2.NoAttr | unfold Ck.Gb
  any_goals k_is
  all_goals kernel_rfl
