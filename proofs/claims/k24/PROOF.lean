import PyProof.Rows.All
import Wide.All
import OpenK.AllK
import Wide.FinOn
import Lean
import PyProof.EqAt
import PyProof.EqKinds
import PyProof.TupleCall
import KE.KMinBuiltin
import KE.KRevSl
import KE.KSortTup
import KE.KTryMore
import Open.Pieces
import OpenK.KQuick
import OpenK.KWalk
import PyProof.CollectWalk
import PyProof.DictWalks
import PyProof.EnumMake
import PyProof.ExcAttrAll.ValueError
import PyProof.FitsBits
import PyProof.ListRange
import PyProof.NeKinds
import PyProof.Rows.SetFrom
import PyProof.Rows.SortRuns
import PyProof.Rows.StrInSeq3
import PyProof.SetRoads
import PyProof.TupleKey
import PyProof.ZipIter
import PySem.Challenge.RW_countkin_k24_four_families_by_parts
open Array renaming getElem?_eq_getElem→EI, length_toList→EY, getElem?_eq_some_iff→Fk, toList_push→Ft, getElem?_toList→Fu, getD_eq_getD_getElem?→FP, getElem?_eq_none→Gn, toList_extract→GU, perm_iff_toList_perm→Hr, forIn_toList→Hy, mem_toList_iff→HJ, toList_reverse→IC, append_empty→IZ, append_push→Ji, getElem_toList→JA, toList_filterMap→KI, modify→KS, ext'→Lp
open Array.Perm renaming refl→KR
open Bool renaming false_eq_true→EG, and_eq_true→EW, false_ne_true→Fl, and_eq_true_iff→Gj, eq_iff_iff→Gr, and_eq_false_iff→Gw, not_eq_true'→GA, true_and→GI, false_and→GY, not_true→G1, and_false→ID, or_eq_true→Jc, not_false→J1, or_false→Lh
open Classical renaming byContradiction→HF
open Eq renaming trans→K2
open False renaming elim→G9
open ForInStep renaming yield→HN
open Int renaming le_refl→FQ, le_of_lt→Gv, toNat_natCast→Gy, le_trans→GN, emod_nonneg→GT, emod_lt_of_pos→Hd, zero_add→Hx, not_lt→HR, add_assoc→IA, toNat_of_nonneg→IS, mul_nonneg→JZ, add_neg_cancel_right→J7
open List renaming getD_eq_getElem?_getD→AC, getElem?_eq_getElem→Da, length_map→Do, length_append→EA, getElem?_eq_some_iff→EC, map_append→ED, mem_cons_of_mem→EH, take_of_length_le→EL, range→EM, mem_append→EN, mem_map→ER, mem_of_getElem?→ES, mem_cons→ET, size_toArray→EZ, pairwise_iff_getElem→E1, map_cons→E2, take_add_one→E3, length_take→E5, mem_range→E6, append_assoc→E9, length_cons→Fb, mem_cons_self→Fe, append_nil→Ff, all_eq_true→Fq, map_congr_left→Fw, pairwise_append→Fx, getElem?_of_mem→Fy, length_filter_le→FA, getElem?_map→FD, mem_append_right→FF, map_map→FG, pairwise_map→FJ, mem_filter→FK, Nodup→FM, length_range→FR, drop_eq_nil_of_le→FS, mem_singleton→FY, filter_append→FZ, getElem?_append_right→Gc, nodup_append→Gf, mem_append_left→Gi, filter_eq_nil_iff→Gm, filterMap_cons→Gq, nodup_cons→Gs, getElem?_eq_none→Gu, getElem?_append_left→GE, length_drop→GG, getElem_mem→GH, flatten_append→GJ, range_succ→GQ, flatten_cons→GX, drop_eq_getElem_cons→GZ, getElem?_zip_eq_some→G3, take_append_drop→G5, pairwise_cons→Hc, pairwise_singleton→Hg, getElem_of_mem→Hl, length_pos_iff→Hm, range_succ_eq_map→Ho, any_eq_true→Hs, perm_append_comm→Hw, take_succ_eq_append_getElem→HH, getElem?_take_of_lt→HM, nil_append→HQ, getElem?_cons_zero→HU, filter_eq_self→HW, filter_cons_of_pos→HY, filter_cons_of_neg→HZ, take_length→Ig, eq_nil_of_length_eq_zero→Ih, getElem?_drop→Im, sum_cons→Iy, drop_zero→IE, nodup_nil→IH, extract_eq_take_drop→II, ext_getElem→IK, mem_flatten→IL, cons_append→IM, perm_middle→IP, drop_succ_cons→IQ, zip_eq_zipWith→IR, forIn_cons→IW, any_eq_false→Je, lookup→Jf, map_nil→Jp, length_singleton→Jq, toArray→Js, nodup_range→Jv, not_mem_nil→Jw, getElem?_set_ne→Jy, mem_of_mem_take→Jz, dropLast_concat_getLast→JD, getElem?_range→JJ, toList_toArray→JP, perm_ext_iff_of_nodup→JU, mem_filterMap→JV, forIn_nil→J0, take_sublist→J5, map→Kk, map_id→Km, length_eq_zero_iff→Ks, filter_append_perm→Ku, getElem_map→Kx, isEmpty_nil→KA, getElem?_set_self→KC, pairwise_lt_range→KG, of_mem_zip→KL, all_map→KM, foldl_cons→KQ, length_nil→KW, map_drop→Lk, all_cons→Ll
open List.Pairwise renaming nil→Jh, imp_of_mem→J8
open List.Perm renaming append_left→Ga, eq_of_pairwise→GL, refl→IF, trans→KO, cons→K5
open Nat renaming le_refl→EF, zero_le→EU, lt_of_lt_of_le→Fj, ne_of_lt→Fn, le_trans→FN, lt_irrefl→FT, zero_add→GM, add_sub_cancel→GS, lt_succ_iff→G6, succ_pos→G7, le_add_right→He, not_lt_zero→Hk, lt_of_le_of_lt→Hu, le_succ→Hz, lt_succ_of_lt→HP, lt_succ_self→IJ, ne_of_gt→IU, mod_lt→Jj, le_of_lt→Jm, strongRecOn→JK, lt_trichotomy→Ka, succ_le_succ→KB
open Ne renaming symm→G4
open Option renaming getD_some→Ie, none→Kh
open Option.some renaming inj→FB
open Or renaming inl→Fs, inr→Ly
open Prod renaming ext→IX, fst→Lj, snd→Lw
open PyProof.Rows renaming wpS_bind→EJ, wpS_pure→EX, wpS_forRange→FO, callWith_type1→FX, Keyed→Gg, SortSt→Gp, wpS_mono→G0, IntsAre→Hf, mirror_perm→HX, wpS_reverse→Iq, wpS_modify→Iz, wpS_get→IY, K_mirror→I0, K_mirror_equal→Jl, callWith_builtin1→Jo, listUpdate_at→JE, wpS_lift→JW, AllBare→Ke, sortedAll_old→Ko, seqEpoch_at→Kp, sortedAll_at→KN, entry_list_sort→KP
open PyProof.Rows.F renaming plain_set_update_loop→Ic
open PySem renaming wpAny_bind→mo, Value→Ey, Shared→Ez, wpAny_pure→EE, Addr→EK, Program→Fm, Around→FE, World→FH, wpAny_holding→FI, SetTable→FU, wpAny_truthy_bool→FW, codeAny_builtin→Gd, FuncData→Ge, sizeLine_eq→Gk, wpAny_loadPart'→Gx, plainId_quiet→Gz, wpAny_Call_Name_kw→GB, wpAny_setState_of→GO, Heap→GP, wpAny_updateSeq→GR, wpAny_call_entry→GV, wpAny_mono→G8, wpAny_newObj_type→Hi, Expr→Hq, Params→HG, Stmt→HI, wpAny_passesOwn→HL, mem_of_lookup→HS, wpAny_field→HV, wpAny_callSpecial?_slot→Ib, wpAny_seqItems→Ij, wpAny_rule→Ik, wpAny_execs_nil→Io, codeAny_mono→Ip, builtinLookup_eq_fast→Ir, wpAny_ite_split→Iu, Paired→IB, wpAny_setField_rec→Ja, wpAny_nextOf_list_item→Jd, wpAny_tryCatch→Jk, wpAny_eqBool_int→Jt, wpAny_execs_cons→Ju, wpAny_newList→JF, wpAny_attempt→JG, DictEntry→JI, IsPair→JL, typeLookup_type→JN, wpAny_specialOf→JO, wpAny_setEntries_of→JQ, Scope→JR, ZipApart→JX, wpAny_pyIter_list→J4, call_meets→J6, GenState→Kf, wpAny_standAt→Kg, wpAny_letGo→Kq, wpAny_isInstance→Ky, wpAny_askSetting→Kz, wpAny_typeOf→KU, NameKind→K0, OsState→Lc, Within→Lq, Fin→Lz
open PySem.Around renaming under_plainId→FL, under→Ls
open PySem.AutoSeq1 renaming wpAny_loadPart'→J9, sub_list_list→KH
open PySem.Calls renaming call_function_entry→IG, spliced_cons→IV, spliced_nil→Jg, Name_function_global→JS, callWith_builtin→KF, evalArgs_plain→K3
open PySem.Code renaming isFrame→Lu
open PySem.EntryCells renaming newEntry→K8
open PySem.F renaming plainAttrs_list→E8, slot_list_append→Fo, type_list_append→Fp, plain_extend_loop→Hn, plain_max_loop→Ht, called_set→Iv, slot_zip_next→JM, excBase_ValueError→JT, slot_list_extend→Kb, type_list_extend→Kc, slot_list_index→Kl, entry_max_loop→Kw
open PySem.Heap renaming get?_push_of_some→EB, lt_size→EV, get?_update_other→E7, get?_push_size→Fd, get?_update_self→Fz, size_push→GC, size_update→Ii, SameBut→IT, get?_none_of_le→Jx
open PySem.Heap.SameBut renaming update→Lb
open PySem.MeetsSeq3 renaming plain_eq_loop→Ia, entry_eq_loop→Kt
open PySem.NameKind renaming free→JC
open PySem.Obj renaming mapSeq→Fv, data_mapFields→Hv, isFreed_of_fields→Jr, mapFields→Ki, putSet→K1
open PySem.Paired renaming length→Iw
open PySem.PassesOwn renaming never→FC
open PySem.SeqAt renaming eq_list_lengthsAt→Kj
open PySem.SeqAt.EqAt renaming int_str→Ld, str_int→Le, same→Lx
open PySem.SetTable renaming insertAt→Gh, below→Il, laid→Jb, sameMemory→La, slot→Lm
open PySem.Str renaming ofString→Fh
open PySem.Value renaming ref→E4, none→FV, type→HK, isInt_shape→J2, bool→KZ
open PySem.W renaming Frag→Fc, Frag→Fi, kia_one→GD, mg_of→GF, emptyDict→GK, mg_none_of→GW, findIn→Hh, instObj→Hj, methodCall_KW→Jn, kitOne→JB, lookIn→JY, methodObj→J3, nsIn→Kd, plainGet→Kv, cellsFrom_some→KD, takerIn→KJ, boot_heap→KY, keepIn→K4, plainGet_of→K6, callWith_K0→K7, kas_rev→K9, callWith_K→Lf, fnOf→Li, isFn→Lr
open PySem.pickOrder renaming go→Lv
open Sum renaming inl→Ln, inr→Lo
open True renaming intro→JH
set_option Elab.async false
set_option linter.all false
set_option maxRecDepth 100000
namespace L2
open PySem PySem.Spec PyProof.Rows
noncomputable abbrev Key:=Sum Int Str
noncomputable def xv:Key->Ey->Bool
 | .inl k,v=>Value.isInt k v
 | .inr x,v=>Value.isStrOf x v
noncomputable def Du (w:FH):Key->Int
 | .inl k=>hashInt k
 | .inr x=>hashStr w x
theorem b5:∀ {k:Key} {v:Ey},xv k v=true->(∃ i t,k=Ln i/\v=Value.int i t)\/(∃ x t,k=Lo x/\v=Value.str x t)
 | .inl i,v,h=>by
  obtain ⟨t,e⟩:=J2 (k:=i) (v:=v) h
  exact .inl ⟨i,t,rfl,e⟩
 | .inr x,v,h=>by
  obtain ⟨t,e⟩:=Value.isStrOf_shape (x:=x) (v:=v) h
  exact .inr ⟨x,t,rfl,e⟩
theorem z5 (a b:Int):decide ((Ln a:Key)=Ln b)=(a == b):=by
 by_cases e:a=b
 ·subst e; simp
 ·have h:¬ (Ln a:Key)=Ln b:=fun q=>e (Sum.inl.inj q)
  rw [decide_eq_false h]
  exact (beq_eq_false_iff_ne.mpr e).symm
theorem AY (a b:Str):decide ((Lo a:Key)=Lo b)=decide (a=b):=by
 by_cases e:a=b
 ·subst e; simp
 ·have h:¬ (Lo a:Key)=Lo b:=fun q=>e (Sum.inr.inj q)
  rw [decide_eq_false h,decide_eq_false e]
theorem BR (a:Int) (b:Str):decide ((Ln a:Key)=Lo b)=false:=decide_eq_false (fun q=>nomatch q)
theorem A6 (a:Str) (b:Int):decide ((Lo a:Key)=Ln b)=false:=decide_eq_false (fun q=>nomatch q)
noncomputable def p9 (prog:Fm) (w:FH):PySem.KeyKind prog w Key where
 is:=xv
 hash:=Du w
 inj:=fun v a b ha hb=>by
  rcases b5 ha with ⟨i,t,rfl,rfl⟩ | ⟨x,t,rfl,rfl⟩
  ·rcases b5 hb with ⟨j,u,rfl,e⟩ | ⟨y,u,rfl,e⟩
   ·injection e with e1 _; rw [e1]
   ·exact nomatch e
  ·rcases b5 hb with ⟨j,u,rfl,e⟩ | ⟨y,u,rfl,e⟩
   ·exact nomatch e
   ·injection e with e1 _; rw [e1]
 byValue:=fun k v h=>by
  rcases b5 h with ⟨i,t,rfl,rfl⟩ | ⟨x,t,rfl,rfl⟩<;>rfl
 pyHash:=fun hv h=>by
  rcases b5 hv with ⟨i,t,rfl,rfl⟩ | ⟨x,t,rfl,rfl⟩
  ·exact wpAny_pyHash_int h
  ·exact wpAny_pyHash_str h
 eqBool:=fun hu hv h=>by
  rcases b5 hu with ⟨i,t,rfl,rfl⟩ | ⟨x,t,rfl,rfl⟩
  ·rcases b5 hv with ⟨j,u,rfl,rfl⟩ | ⟨y,u,rfl,rfl⟩
   ·rw [z5] at h; exact Jt h
   ·rw [BR] at h; exact Ld i t y u _ _ _ _ h
  ·rcases b5 hv with ⟨j,u,rfl,rfl⟩ | ⟨y,u,rfl,rfl⟩
   ·rw [A6] at h; exact Le x t j u _ _ _ _ h
   ·rw [AY] at h; exact wpAny_eqBool_str h
 «strs»:=fun k x t v h=>by
  rcases b5 h with ⟨i,u,rfl,e⟩ | ⟨y,u,rfl,e⟩
  ·exact nomatch e
  ·injection e with e1 _
   subst e1
   cases v<;>rfl
end L2
namespace L2
open PySem PySem.Spec PyProof.Rows
inductive V where
 | non | bl (b:Bool) | int (i:Int) | str (x:Str) | byt (b:Array UInt8) | flt (b:UInt64) | ref (a:EK) | ty (n:String)
 deriving DecidableEq
noncomputable def RelV:V->Ey->Prop
 | .non,u=>u=FV
 | .bl b,u=>u=KZ b
 | .int i,u=>∃ t,u=Value.int i t
 | .str x,u=>∃ t,u=Value.str x t
 | .byt b,u=>∃ t,u=Value.bytes b t
 | .flt b,u=>∃ t,u=Value.float b t
 | .ref a,u=>u=E4 a
 | .ty n,u=>u=HK n
noncomputable abbrev Vals:List V->List Ey->Prop:=IB RelV
theorem Vals.length {xs:List V} {us:List Ey} (r:Vals xs us):xs.length=us.length:=Iw r
theorem Vals.get:∀ {xs:List V} {us:List Ey} {i:Nat} {x:V},Vals xs us->xs[i]? = some x->∃ u,us[i]? = some u/\RelV x u
 | _,_,_,_,.nil,e=>by simp at e
 | _,_,0,_,.cons r _,e=>by simp at e; subst e; exact ⟨_,rfl,r⟩
 | _,_,i+1,x,.cons _ t,e=>by
  obtain ⟨u,h1,h2⟩:=Vals.get (i:=i) (x:=x) t (by simpa using e)
  exact ⟨u,by simpa using h1,h2⟩
theorem Vals.set {x:V} {u:Ey} (r:RelV x u):∀ {xs:List V} {us:List Ey} (i:Nat),Vals xs us->Vals (xs.set i x) (us.set i u)
 | _,_,_,.nil=>.nil
 | _,_,0,.cons _ t=>.cons r t
 | _,_,i+1,.cons q t=>.cons q (Vals.set r i t)
theorem Vals.append:∀ {xs ys:List V} {us ws:List Ey},Vals xs us->Vals ys ws->Vals (xs++ys) (us++ws)
 | _,_,_,_,.nil,s=>s
 | _,_,_,_,.cons r t,s=>.cons r (Vals.append t s)
theorem Vals.take:∀ {xs:List V} {us:List Ey} (n:Nat),Vals xs us->Vals (xs.take n) (us.take n)
 | _,_,0,_=>.nil
 | _,_,_+1,.nil=>.nil
 | _,_,n+1,.cons r t=>.cons r (Vals.take n t)
theorem Vals.drop:∀ {xs:List V} {us:List Ey} (n:Nat),Vals xs us->Vals (xs.drop n) (us.drop n)
 | _,_,0,r=>r
 | _,_,_+1,.nil=>.nil
 | _,_,n+1,.cons _ t=>Vals.drop n t
noncomputable def jG:Option V->Option Ey->Prop
 | some v,some u=>RelV v u
 | none,none=>True
 | _,_=>False
noncomputable def KV {κ:Type}:List (κ × V)->List (κ × Ey)->Prop:=IB fun (p:κ × V) (q:κ × Ey)=>p.1=q.1/\RelV p.2 q.2
noncomputable def kV:Key->V
 | .inl i=>.int i
 | .inr x=>.str x
inductive HO where
 | lst (xs:List V)
 | tup (xs:List V)
 | dK (kvs:List (Key × V)) | dT (kvs:List (List Key × V))
 | set (S:Int->Bool) (n:Nat)
 | ins (C dx:EK) (fs:List (Str × V))
 | own (x:EK)
 | xd (fs:List (Str × V))
 | met (f x:EK)
 | rng (lo hi:Int)
 | frz (o:Obj) (u:HO)
 | tbl (ps:Array Ey)
 | ext (φ:GP->Prop)
noncomputable abbrev Hp:=EK->Option HO
noncomputable def upd (H:Hp) (a:EK) (o:HO):Hp:=fun b=>if b=a then some o else H b
theorem upd_same {H:Hp} {a:EK} {o:HO}:upd H a o a=some o:=by unfold upd; rw [if_pos rfl]
theorem upd_ne {H:Hp} {a b:EK} {o:HO} (h:b≠a):upd H a o b=H b:=by unfold upd; rw [if_neg h]
theorem lM {H:Hp} {a:EK} {o u:HO}:upd (upd H a o) a u=upd H a u:=by
 funext b; unfold upd; split<;>rfl
theorem CZ {H:Hp} {a b:EK} {o u:HO} (h:H a=some o) (h':H b=some u) (d:o≠u):a≠b:=by
 intro e; subst e; rw [h] at h'; exact d (FB h')
theorem aq {H:Hp} {a b:EK} {o:HO} (h:H a=some o) (h':H b=none):a≠b:=by
 intro e; subst e; rw [h] at h'; cases h'
section
variable (P:Fm) (w:FH)
noncomputable def bR (H:Hp) (h:GP) (a:EK):HO->Prop
 | .lst xs=>xs.length<=sizeLine/\∃ (its:List Ey) (n:Nat),Vals xs its/\h.get? a=some { cls:=.type "list",data:=.seq its.toArray n }
 | .tup xs=>xs.length<=sizeLine/\∃ its:List Ey,Vals xs its/\IsTup h a its.toArray
 | .dK kvs=>kvs.length<=sizeLine/\(a == sysModules)=false/\∃ vs,KV kvs vs/\h.DictOf (p9 P w) a vs
 | .dT kvs=>kvs.length<=sizeLine/\(a == sysModules)=false/\∃ xs:List (List Key × EK × Ey),
   IB (fun (p:List Key × V) (q:List Key × EK × Ey)=>p.1=q.1/\H q.2.1=some (.tup (p.1.map kV))/\RelV p.2 q.2.2) kvs xs /\
   ∃ o es ep,h.get? a=some o/\o.ExactDict/\o.data = .dict es ep/\es.toList=xs.map (entryOfKey (tupleKind (p9 P w)))/\(xs.map (·.1)).Nodup
 | .set S n=>h.SetOf (intKind P w) a S n
 | .ins C dx fs=>H dx=some (.own a)/\fs.length<=1000/\dx≠a/\h.get? a=some (Hj C dx) /\
   ∃ mA,h.Ns1 dx mA/\(∀ f,jG (fs.lookup f) (mA f))/\Lq mA (fs.map (·.1))
 | .own _=>∃ o,h.get? a=some o
 | .xd fs=>∃ mA,h.Ns1 a mA/\∀ f,jG (fs.lookup f) (mA f)
 | .rng lo hi=>∃ t u v,h.get? a=some { cls:=.type "range",data:=.fields #[.int lo t,.int hi u,.int 1 v] }
 | .frz o u=>h.get? a=some o/\bR H h a u
 | .tbl ps=>h.get? a=some { cls:=.none,data:=.fields ps }
 | .met f x=>h.get? a=some (J3 (.ref f) (.ref x))
 | .ext φ=>φ h/\(∃ o,h.get? a=some o)/\∀ h1 h2:GP,φ h1->(∀ o,h1.get? a=some o->h2.get? a=some o)->φ h2
def cD (H:Hp) (h:GP):Prop:=∀ a o,H a=some o->bR P w H h a o
end
section
variable {P:Fm} {w:FH} {H H':Hp} {h h':GP} {a:EK} {o:HO}
theorem bR.lt (x:bR P w H h a o):a < h.objs.size:=by
 cases o with
 | lst xs=>obtain ⟨_,_,_,_,e⟩:=x; exact EV e
 | tup xs=>obtain ⟨_,_,_,p⟩:=x; exact p.lt
 | dK kvs=>obtain ⟨_,_,_,_,o,_,_,e,_⟩:=x; exact EV e
 | dT kvs=>obtain ⟨_,_,_,_,o,_,_,e,_⟩:=x; exact EV e
 | set S n=>obtain ⟨o,_,_,_,e,_⟩:=x; exact EV e
 | ins C dx fs=>obtain ⟨_,_,_,e,_⟩:=x; exact EV e
 | own y=>obtain ⟨_,e⟩:=x; exact EV e
 | xd fs=>obtain ⟨_,⟨_,_,_,e,_⟩,_⟩:=x; exact EV e
 | rng lo hi=>obtain ⟨_,_,_,e⟩:=x; exact EV e
 | frz ob u=>obtain ⟨e,_⟩:=x; exact EV e
 | tbl ps=>exact EV (show h.get? a=some _ from x)
 | met f y=>exact EV (show h.get? a=some _ from x)
 | ext φ=>obtain ⟨_,⟨_,e⟩,_⟩:=x; exact EV e
theorem Paired.mapP {α β:Type} {F G:α->β->Prop}:∀ {l₁:List α} {l₂:List β},IB F l₁ l₂->(∀ a b,F a b->G a b)->IB G l₁ l₂
 | _,_,.nil,_=>.nil
 | _,_,.cons r t,f=>.cons (f _ _ r) (Paired.mapP t f)
theorem bR.stay (x:bR P w H h a o) (k:∀ b u,(b=a\/H b=some (.own a))->h.get? b=some u->h'.get? b=some u)
  (ho:∀ b,H b=some (.own a)->H' b=some (.own a)) (ht:∀ b xs,H b=some (.tup xs)->H' b=some (.tup xs)):bR P w H' h' a o:=by
 induction o with
 | lst xs=>obtain ⟨z,its,n,r,e⟩:=x; exact ⟨z,its,n,r,k _ _ (.inl rfl) e⟩
 | tup xs=>obtain ⟨z,its,r,ob,e,c⟩:=x; exact ⟨z,its,r,ob,k _ _ (.inl rfl) e,c⟩
 | dK kvs=>obtain ⟨z,y,vs,r,ob,es,ep,e,c⟩:=x; exact ⟨z,y,vs,r,ob,es,ep,k _ _ (.inl rfl) e,c⟩
 | dT kvs =>
  obtain ⟨z,y,xs,r,ob,es,ep,e,c⟩:=x
  exact ⟨z,y,xs,Paired.mapP r fun p q z=>⟨z.1,ht _ _ z.2.1,z.2.2⟩,ob,es,ep,k _ _ (.inl rfl) e,c⟩
 | set S n=>obtain ⟨ob,es,ep,t,e,c⟩:=x; exact ⟨ob,es,ep,t,k _ _ (.inl rfl) e,c⟩
 | ins C dx fs =>
  obtain ⟨d,z,ne,e,mA,⟨od,es,ep,e2,c⟩,r⟩:=x
  exact ⟨ho _ d,z,ne,k _ _ (.inl rfl) e,mA,⟨od,es,ep,k _ _ (.inr d) e2,c⟩,r⟩
 | own y=>obtain ⟨ob,e⟩:=x; exact ⟨ob,k _ _ (.inl rfl) e⟩
 | xd fs=>obtain ⟨mA,⟨od,es,ep,e,c⟩,r⟩:=x; exact ⟨mA,⟨od,es,ep,k _ _ (.inl rfl) e,c⟩,r⟩
 | rng lo hi=>obtain ⟨t,u,v,e⟩:=x; exact ⟨t,u,v,k _ _ (.inl rfl) e⟩
 | frz ob u ih=>obtain ⟨e,q⟩:=x; exact ⟨k _ _ (.inl rfl) e,ih q⟩
 | tbl ps =>
  have e:h.get? a=some { cls:=.none,data:=.fields ps }:=x
  show h'.get? a=some { cls:=.none,data:=.fields ps }
  exact k a _ (.inl rfl) e
 | met f y =>
  have e:h.get? a=some (J3 (.ref f) (.ref y)):=x
  show h'.get? a=some (J3 (.ref f) (.ref y))
  exact k a _ (.inl rfl) e
 | ext φ=>obtain ⟨p,⟨o,e⟩,st⟩:=x; exact ⟨st _ _ p fun o q=>k _ _ (.inl rfl) q,⟨o,k _ _ (.inl rfl) e⟩,st⟩
theorem cD.lt (x:cD P w H h) (e:H a=some o):a < h.objs.size:=(x a o e).lt
theorem cD.fresh (x:cD P w H h) (e:h.objs.size<=a):H a=none:=by
 cases q:H a with
 | none=>rfl
 | some u=>exact absurd (Fj (x.lt q) e) (FT _)
theorem cD.kept (x:cD P w H h) (k:∀ b u,h.get? b=some u->h'.get? b=some u):cD P w H h':=fun a o e =>
 (x a o e).stay (fun b u _ q=>k b u q) (fun _ q=>q) fun _ _ q=>q
theorem cD.laid (x:cD P w H h) (k:∀ b u,h.get? b=some u->h'.get? b=some u) (hp:h.objs.size<=a) (new:bR P w (upd H a o) h' a o):cD P w (upd H a o) h':=fun b u e=>by
 have hn:=x.fresh hp
 by_cases hb:b=a
 ·subst hb; rw [upd_same] at e; cases e; exact new
 ·rw [upd_ne hb] at e
  exact (x b u e).stay (fun c v _ q=>k c v q) (fun c q=>by rw [upd_ne (aq q hn)]; exact q) fun c xs q=>by rw [upd_ne (aq q hn)]; exact q
end
def Rd (H:Hp) (a:EK) (u:HO):Prop:=H a=some u\/∃ o,H a=some (.frz o u)
theorem Rd.ok {P:Fm} {w:FH} {H:Hp} {h:GP} {a:EK} {u:HO} (r:Rd H a u) (x:cD P w H h):bR P w H h a u:=by
 rcases r with r | ⟨o,r⟩
 ·exact x a u r
 ·obtain ⟨_,q⟩:=x a _ r
  exact q
noncomputable def xJ:Option HO->Prop
 | some (.lst _)=>True
 | some (.dK _)=>True
 | some (.dT _)=>True
 | some (.set _ _)=>True
 | some (.ins _ _ _)=>True
 | some (.ext _)=>True
 | _=>False
section
variable {P:Fm} {w:FH} {H:Hp} {h h':GP} {x e:EK} {o':HO}
theorem cD.write (ok:cD P w H h) (mu:xJ (H x)) (he:e=x\/H e=some (.own x)) (k:∀ b u,b≠e->h.get? b=some u->h'.get? b=some u) (heo:∃ u,h'.get? e=some u)
  (new:bR P w (upd H x o') h' x o'):cD P w (upd H x o') h':=fun b u q=>by
 have nown:∀ c y,H c=some (.own y)->c≠x:=fun c y r z=>by subst z; rw [r] at mu; exact mu
 have ntup:∀ c xs,H c=some (.tup xs)->c≠x:=fun c xs r z=>by subst z; rw [r] at mu; exact mu
 by_cases hb:b=x
 ·subst hb; rw [upd_same] at q; cases q; exact new
 ·rw [upd_ne hb] at q
  by_cases hbe:b=e
  ·have q':H b=some (.own x):=by
    rcases he with z | z
    ·exact absurd (hbe.trans z) hb
    ·rw [hbe]; exact z
   rw [q] at q'; cases q'
   obtain ⟨v,hv⟩:=heo
   exact ⟨v,by rw [hbe]; exact hv⟩
  ·refine (ok b u q).stay (fun c v hc r=>k c v ?_ r) (fun c r=>by rw [upd_ne (nown c b r)]; exact r) fun c xs r=>by rw [upd_ne (ntup c xs r)]; exact r
   rcases hc with rfl | hc
   ·exact hbe
   ·rintro rfl
    rcases he with z | z
    ·exact nown c b hc z
    ·rw [hc] at z; cases z; exact hb rfl
end
structure Un (fs ex:List EK) (H H':Hp) (h h':GP):Prop where
 keep:∀ b o,h.get? b=some o->H b=none->b∉fs->b∉ex->h'.get? b=some o
 slot:∀ b o,h.get? b=some o->H b=none->b∈fs->b∉ex->∃ sl,h'.get? b=some { o with slots:=sl }
 free:∀ b o,h.get? b=some o->H b=none->b∉ex->H' b=none
 there:∀ b o,h.get? b=some o->b∉ex->∃ o',h'.get? b=some o'
 tups:∀ b xs,H b=some (.tup xs)->H' b=some (.tup xs)
 frzs:∀ b o u,H b=some (.frz o u)->H' b=some (.frz o u)
 tbls:∀ b ps,H b=some (.tbl ps)->∃ more,H' b=some (.tbl (ps++more))
section
variable {fs fs' ex ex':List EK} {H H1 H2:Hp} {h h1 h2 h':GP} {a x e:EK} {o:HO}
theorem Un.any (u:Un fs ex H H1 h h1) {b:EK} {ob:Obj} (q:h.get? b=some ob) (n:H b=none) (hx:b∉ex):∃ sl,h1.get? b=some { ob with slots:=sl }:=by
 by_cases hb:b∈fs
 ·exact u.slot b ob q n hb hx
 ·exact ⟨ob.slots,u.keep b ob q n hb hx⟩
theorem Un.kept (k:∀ b u,h.get? b=some u->h'.get? b=some u):Un fs ex H H h h' :=
 ⟨fun b ob q _ _ _=>k b ob q,fun b ob q _ _ _=>⟨ob.slots,k b ob q⟩,fun _ _ _ n _=>n,fun b ob q _=>⟨ob,k b ob q⟩,fun _ _ q=>q,fun _ _ _ q=>q,fun _ ps q=>⟨#[],by rw [q]; simp⟩⟩
theorem Un.refl:Un fs ex H H h h:=Un.kept fun _ _ q=>q
theorem Un.laid (k:∀ b u,h.get? b=some u->h'.get? b=some u) (hp:h.objs.size<=a) (hn:H a=none):Un fs ex H (upd H a o) h h' where
 keep:=fun b u q _ _ _=>k b u q
 slot:=fun b u q _ _ _=>⟨u.slots,k b u q⟩
 free:=fun b u q n _=>by rw [upd_ne (Fn (Fj (EV q) hp))]; exact n
 there:=fun b u q _=>⟨u,k b u q⟩
 tups:=fun b xs q=>by rw [upd_ne (aq q hn)]; exact q
 frzs:=fun b u xs q=>by rw [upd_ne (aq q hn)]; exact q
 tbls:=fun b ps q=>⟨#[],by rw [upd_ne (aq q hn),q]; simp⟩
theorem Un.write (mu:xJ (H x)) (he:e=x\/H e=some (.own x)) (k:∀ b u,b≠e->h.get? b=some u->h'.get? b=some u) (heo:∃ u,h'.get? e=some u):Un fs ex H (upd H x o) h h':=by
 have hx:∀ b,H b=none->b≠x:=fun b n z=>by subst z; rw [n] at mu; exact mu
 have hb:∀ b,H b=none->b≠e:=fun b n z=>by
  subst z
  rcases he with r | r
  ·exact hx b n r
  ·rw [n] at r; cases r
 have hm:∀ b u,H b=some u->¬ xJ (some u)->b≠x:=fun b u q nm z=>by subst z; rw [q] at mu; exact nm mu
 refine ⟨fun b u q n _ _=>k b u (hb b n) q,fun b u q n _ _=>⟨u.slots,k b u (hb b n) q⟩,fun b u q n _=>by rw [upd_ne (hx b n)]; exact n,fun b u q _=>?_,
  fun b xs q=>by rw [upd_ne (hm b _ q fun z=>z)]; exact q,fun b u xs q=>by rw [upd_ne (hm b _ q fun z=>z)]; exact q,fun b ps q=>⟨#[],by rw [upd_ne (hm b _ q fun z=>z),q]; simp⟩⟩
 by_cases hbe:b=e
 ·subst hbe; exact heo
 ·exact ⟨u,k b u hbe q⟩
end
noncomputable def xu (h:GP) (H:Hp):List EK:=(EM h.objs.size).filter fun a=>(H a).isSome
noncomputable def hW (h:GP) (H:Hp):GP:=PySem.W.hideAll h (xu h H)
theorem tN (h:GP) (H:Hp):(hW h H).objs.size=h.objs.size:=PySem.W.hideAll_size _ _
theorem vR {h:GP} {H:Hp} {b:EK} {o:Obj} (e:h.get? b=some o) (n:H b=none):(hW h H).get? b=some o :=
 PySem.W.hideAll_get _ e fun hm=>by
  have q:(H b).isSome=true:=(FK.mp hm).2
  rw [n] at q; simp at q
theorem yH {h:GP} {H:Hp} {b:EK} {o:Obj} (e:(hW h H).get? b=some o):h.get? b=some o/\H b=none:=by
 have e':h.get? b=some o:=PySem.W.of_hideAll (xu h H) e
 refine ⟨e',?_⟩
 cases q:H b with
 | none=>rfl
 | some x =>
  have hm:b∈xu h H:=FK.mpr ⟨E6.mpr (EV e'),by simp [q]⟩
  have z:(hW h H).get? b=none:=PySem.W.hideAll_none (xu h H) hm
  rw [z] at e; cases e
noncomputable def yf (g h:GP) (L:EK):List (EK × Obj):=(EM h.objs.size).filterMap fun a=>if a=L\/(g.get? a).isSome=true then none else (h.get? a).map fun o=>(a,o)
noncomputable def rest (g h:GP) (L d:EK):List (EK × Obj):=(yf g h L).filter fun p=>decide (p.1≠d)
end L2
namespace L2
open PySem PySem.Spec PyProof.Rows
structure Mod (K:Fc) (mg:Str->Option Ey) (base:GP):Prop where
 kin:K.In base
 glob:base.Ns mainGlobals mg
 blt:∃ mb,base.Ns builtinsNs mb/\∀ x:Str,x≠"__name__"->mb x=bootBuiltins x
 nolimit:base.NoLimit
structure Cx where
 prog:Fm
 w:FH
 K:Fc
 mg:Str->Option Ey
 base:GP
 A:FE
 N:List Str
 s₀:Ez
 H₀:Hp
 env:Env
 outer:List Env
 stack:List Env
 ex:List EK
 fn:Str->Bool
 calm:Bool
 pn:List (EK × Obj)
 xe:Ey->Ez->Prop
noncomputable def bV (l:List Env):List EK:=l.filterMap (·.frame)
noncomputable abbrev Cx.fs (X:Cx):List EK:=bV X.outer
def xk (sc:JR) (x:Str):Prop:=sc.names.lookup x=some .local\/sc.names.lookup x=some .cell\/sc.names.lookup x=some .free
def Loc (sc:JR) (x:Str):Prop:=sc.names.lookup x=some .local\/sc.names.lookup x=some .cell
def Look (env:Env) (h:GP) (m:Str->Option Ey) (x:Str) (u:Ey):Prop :=
 (env.kindOf x=some .local/\m x=some u)\/((env.kindOf x=some .cell\/env.kindOf x=some .free)/\∃ c,env.cells.lookup x=some c/\h.IsCell c (some u))
structure Cx.Ok (X:Cx):Prop where
 mod:Mod X.K X.mg X.base
 kind:X.env.scope.kind = .function
 glob:X.env.globals=mainGlobals
 blt:X.env.builtins=builtinsNs
 above:X.s₀.heap.objs.size<=X.env.locals
 inj:∀ x y c,X.env.cells.lookup x=some c->X.env.cells.lookup y=some c->x=y
 has:∀ x,(X.env.kindOf x=some .cell\/X.env.kindOf x=some .free)->∃ c,X.env.cells.lookup x=some c
 cab:∀ x c,X.fn x=true->X.env.cells.lookup x=some c->X.s₀.heap.objs.size<=c
 hd:X.calm=true->X.A.handled=none
 frames:X.A.frames=some X.stack
 stk:X.stack=X.outer\/(X.stack=X.env::X.outer/\X.env.frame=some X.env.locals)
 exf:∀ b∈X.ex,b≠X.env.locals/\∀ x c,X.env.cells.lookup x=some c->c≠b
 bs:∀ b o,X.base.get? b=some o->X.s₀.heap.get? b=some o/\X.H₀ b=none
 bsz:X.base.objs.size<=X.s₀.heap.objs.size
 noex:∀ b o,X.base.get? b=some o->b∉X.ex
 exfs:∀ b∈X.ex,b∉X.fs
 funs:X.s₀.heap.FunFrames X.base X.outer
 frf:∀ b∈X.fs,X.H₀ b=none
structure Inv (X:Cx) (pins:List (EK × Obj)) (σ:List (Option V)) (H:Hp) (s:Ez):Prop where
 ok:X.Ok
 os:s.os=X.s₀.os
 bare:Ke s.gens
 base:Un X.fs X.ex X.H₀ H X.s₀.heap s.heap
 loc:∃ m,s.heap.Ns X.env.locals m/\∀ (i:Nat) (x:Str) (v:V),X.N[i]? = some x->σ[i]? = some (some v)->xk X.env.scope x->∃ u,RelV v u/\Look X.env s.heap m x u
 cell:∀ x c,X.env.cells.lookup x=some c->∃ v,s.heap.IsCell c v
 free:H X.env.locals=none
 freeC:∀ x c,X.env.cells.lookup x=some c->H c=none
 pin:∀ p∈X.pn++pins,s.heap.get? p.1=some p.2/\H p.1=none/\p.1≠X.env.locals/\p.1∉X.fs/\∀ v,p.2.data≠.cell v
 hok:cD X.prog X.w H s.heap
 len:σ.length=X.N.length
section
variable {X:Cx} {pins:List (EK × Obj)} {σ:List (Option V)} {H H':Hp} {s:Ez} {h':GP}
theorem Cx.Ok.nofr (ok:X.Ok) {b:EK} {o:Obj} (e:X.base.get? b=some o):b∉X.fs:=fun hb=>by
 have:=(ok.funs.mem hb).1
 rw [e] at this; cases this
theorem Inv.bs (I:Inv X pins σ H s):∀ b o,X.base.get? b=some o->s.heap.get? b=some o/\H b=none:=fun b o e =>
 ⟨I.base.keep b o (I.ok.bs b o e).1 (I.ok.bs b o e).2 (I.ok.nofr e) (I.ok.noex b o e),I.base.free b o (I.ok.bs b o e).1 (I.ok.bs b o e).2 (I.ok.noex b o e)⟩
theorem Inv.bk (I:Inv X pins σ H s):∀ b o,X.base.get? b=some o->s.heap.get? b=some o:=fun b o e=>(I.bs b o e).1
theorem Inv.mod (I:Inv X pins σ H s):Mod X.K X.mg X.base:=I.ok.mod
theorem Inv.kIn (I:Inv X pins σ H s):X.K.In s.heap:=I.ok.mod.kin.keeps I.bk
theorem Inv.fr (I:Inv X pins σ H s):∃ m,Fr X.base X.env.locals s.heap m :=
 let ⟨m,hn,_⟩:=I.loc
 ⟨m,hn,I.bk,FN I.ok.bsz I.ok.above⟩
theorem Inv.lt (I:Inv X pins σ H s):X.env.locals < s.heap.objs.size:=let ⟨_,hn,_⟩:=I.loc; hn.lt
theorem Inv.sz (I:Inv X pins σ H s):X.s₀.heap.objs.size<=s.heap.objs.size:=FN I.ok.above (Jm I.lt)
theorem Inv.nofs (I:Inv X pins σ H s) {a:EK} (h:s.heap.objs.size<=a):a∉X.fs:=fun hb=>by
 obtain ⟨_,o,ho,_⟩:=I.ok.funs.mem hb
 exact absurd (Fj (EV ho) (FN I.sz h)) (FT _)
theorem Inv.cne (I:Inv X pins σ H s):∀ x c,X.env.cells.lookup x=some c->c≠X.env.locals:=fun x c e z=>by
 obtain ⟨v,o,ho,hd⟩:=I.cell x c e
 obtain ⟨m,⟨o',es,ep,ho',hd',_⟩,_⟩:=I.loc
 rw [z,ho'] at ho; cases ho; rw [hd'] at hd; cases hd
theorem Inv.funs (I:Inv X pins σ H s):s.heap.FunFrames X.base X.outer:=by
 have all:∀ (l:List Env),(∀ b∈bV l,b∈X.fs)->X.s₀.heap.FunFrames X.base l->s.heap.FunFrames X.base l:=by
  intro l
  induction l with
  | nil=>intro _ _; trivial
  | cons env r ih =>
   intro hs hl
   obtain ⟨hk,⟨L,o,hf,hn,ho,hd⟩,hr⟩:=hl
   have hL:L∈X.fs:=hs L (by unfold bV; rw [Gq,hf]; exact Fe)
   obtain ⟨sl,e⟩:=I.base.slot L o ho (I.ok.frf L hL) hL fun z=>I.ok.exfs L z hL
   exact ⟨hk,⟨L,_,hf,hn,e,hd⟩,ih (fun b hb=>hs b (by unfold bV; rw [Gq,hf]; exact EH _ hb)) hr⟩
 exact all X.outer (fun _ hb=>hb) I.ok.funs
theorem Inv.stack (I:Inv X pins σ H s):s.heap.FunFrames X.base X.stack:=by
 rcases I.ok.stk with e | ⟨e,hf⟩
 ·rw [e]; exact I.funs
 ·rw [e]
  obtain ⟨m,hn,_⟩:=I.loc
  refine .cons (by rw [I.ok.kind]; decide) hf hn ?_ I.funs
  exact Jx (FN I.ok.bsz I.ok.above)
theorem Inv.stkSub (I:Inv X pins σ H s):∀ b∈bV X.stack,b∈X.env.locals::X.fs:=fun b hb=>by
 rcases I.ok.stk with e | ⟨e,hf⟩
 ·rw [e] at hb; exact EH _ hb
 ·rw [e] at hb
  unfold bV at hb
  rw [Gq,hf] at hb
  exact hb
theorem Inv.stkFree (I:Inv X pins σ H s):∀ b∈bV X.stack,H b=none:=fun b hb=>by
 rcases ET.mp (I.stkSub b hb) with e | hb
 ·rw [e]; exact I.free
 ·obtain ⟨_,o,ho,_⟩:=I.ok.funs.mem hb
  exact I.base.free b o ho (I.ok.frf b hb) fun z=>I.ok.exfs b z hb
theorem Inv.step {g':Array Kf} {t':Nat} {d':Drawn} {ch:List EK} (I:Inv X pins σ H s)
  (hch:∀ b∈ch,(b∈X.ex\/X.s₀.heap.objs.size<=b)/\b≠X.env.locals/\(∀ x c,X.env.cells.lookup x=some c->c≠b)/\∀ p∈X.pn++pins,p.1≠b)
  (keep:∀ b o,b≠X.env.locals->b∉X.fs->b∉ch->s.heap.get? b=some o->H b=none->h'.get? b=some o)
  (slot:∀ b o,b≠X.env.locals->b∈X.fs->b∉ch->s.heap.get? b=some o->H b=none->∃ sl,h'.get? b=some { o with slots:=sl }) (free:∀ b o,b∉ch->s.heap.get? b=some o->H b=none->H' b=none)
  (there:∀ b o,b∉ch->s.heap.get? b=some o->∃ o',h'.get? b=some o')
  (tups:∀ b xs,H b=some (.tup xs)->H' b=some (.tup xs)) (frzs:∀ b o u,H b=some (.frz o u)->H' b=some (.frz o u)) (tbls:∀ b ps,H b=some (.tbl ps)->∃ more,H' b=some (.tbl (ps++more)))
  (ns:∀ m,s.heap.Ns X.env.locals m->h'.Ns X.env.locals m) (hok:cD X.prog X.w H' h') (hg:Ke g') :
  Inv X pins σ H' { s with heap:=h',gens:=g',drawn:=d',toks:=t' }:=by
 have neL:∀ b o,X.s₀.heap.get? b=some o->b≠X.env.locals:=fun b o e=>Fn (Fj (EV e) I.ok.above)
 have neC:∀ b o,X.s₀.heap.get? b=some o->b∉X.ex->b∉ch:=fun b o e hx hb=>by
  rcases (hch b hb).1 with z | z
  ·exact hx z
  ·exact absurd (Fj (EV e) z) (FT _)
 have cellK:∀ x c,X.env.cells.lookup x=some c->∀ v,s.heap.IsCell c v->h'.IsCell c v:=fun x c e v ⟨o,ho,hd⟩=>by
  have nch:c∉ch:=fun z=>(hch c z).2.2.1 x c e rfl
  by_cases hc:c∈X.fs
  ·obtain ⟨sl,q⟩:=slot c o (I.cne x c e) hc nch ho (I.freeC x c e)
   exact ⟨_,q,hd⟩
  ·exact ⟨o,keep c o (I.cne x c e) hc nch ho (I.freeC x c e),hd⟩
 refine ⟨I.ok,I.os,hg,⟨fun b o e n hb hx=>?_,fun b o e n hb hx=>?_,fun b o e n hx=>?_,fun b o e hx=>?_,fun b xs e=>tups b xs (I.base.tups b xs e),fun b o xs e=>frzs b o xs (I.base.frzs b o xs e),fun b ps e=>?_⟩,?_,fun x c e=>?_,?_,fun x c e=>?_,fun p hp=>?_,hok,I.len⟩
 ·exact keep b o (neL b o e) hb (neC b o e hx) (I.base.keep b o e n hb hx) (I.base.free b o e n hx)
 ·obtain ⟨sl,e1⟩:=I.base.slot b o e n hb hx
  obtain ⟨sl',e2⟩:=slot b _ (neL b o e) hb (neC b o e hx) e1 (I.base.free b o e n hx)
  exact ⟨sl',e2⟩
 ·obtain ⟨o',e1⟩:=I.base.there b o e hx
  exact free b o' (neC b o e hx) e1 (I.base.free b o e n hx)
 ·obtain ⟨o',e1⟩:=I.base.there b o e hx
  exact there b o' (neC b o e hx) e1
 ·obtain ⟨m1,e1⟩:=I.base.tbls b ps e
  obtain ⟨m2,e2⟩:=tbls b _ e1
  exact ⟨m1++m2,by rw [e2,Array.append_assoc]⟩
 ·obtain ⟨m,hn,hl⟩:=I.loc
  refine ⟨m,ns m hn,fun i x v e1 e2 e3=>?_⟩
  obtain ⟨u,r,l⟩:=hl i x v e1 e2 e3
  refine ⟨u,r,?_⟩
  rcases l with l | ⟨k,c,e,z⟩
  ·exact .inl l
  ·exact .inr ⟨k,c,e,cellK x c e _ z⟩
 ·obtain ⟨v,z⟩:=I.cell x c e
  exact ⟨v,cellK x c e v z⟩
 ·obtain ⟨m,⟨o,_,_,ho,_⟩,_⟩:=I.loc
  exact free _ o (fun z=>(hch _ z).2.1 rfl) ho I.free
 ·obtain ⟨v,o,ho,hd⟩:=I.cell x c e
  exact free c o (fun z=>(hch c z).2.2.1 x c e rfl) ho (I.freeC x c e)
 ·obtain ⟨e,n,ne,nf,d⟩:=I.pin p hp
  have nch:p.1∉ch:=fun z=>(hch p.1 z).2.2.2 p hp rfl
  exact ⟨keep p.1 p.2 ne nf nch e n,free p.1 p.2 nch e n,ne,nf,d⟩
theorem Inv.un {t':Nat} (I:Inv X pins σ H s) (u:Un X.fs [] H H' s.heap h') (hok:cD X.prog X.w H' h'):Inv X pins σ H' { s with heap:=h',toks:=t' }:=by
 obtain ⟨m,⟨o,es,ep,ho,r⟩,_⟩:=id I.loc
 obtain ⟨sl,hL⟩:=u.any ho I.free (by simp)
 exact I.step (g':=s.gens) (d':=s.drawn) (ch:=[]) (fun _ z=>nomatch z) (fun b o _ hb _ e n=>u.keep b o e n hb (by simp)) (fun b o _ hb _ e n=>u.slot b o e n hb (by simp)) (fun b o _ e n=>u.free b o e n (by simp)) (fun b o _ e=>u.there b o e (by simp)) u.tups u.frzs u.tbls (fun m' hm=>by
  obtain ⟨o',es',ep',ho',r'⟩:=hm
  rw [ho] at ho'; cases ho'
  exact ⟨_,es',ep',hL,r'⟩) hok I.bare
theorem Inv.call {g':Array Kf} {t':Nat} {d':Drawn} {ch:List EK} (I:Inv X pins σ H s) (u:Un (bV X.stack) ch H H' s.heap h') (hok:cD X.prog X.w H' h') (hg:Ke g')
  (hch:∀ b∈ch,(b∈X.ex\/X.s₀.heap.objs.size<=b)/\b≠X.env.locals/\(∀ x c,X.env.cells.lookup x=some c->c≠b)/\∀ p∈X.pn++pins,p.1≠b) :
  Inv X pins σ H' { s with heap:=h',gens:=g',drawn:=d',toks:=t' }:=by
 obtain ⟨m,⟨o,es,ep,ho,r⟩,_⟩:=id I.loc
 obtain ⟨sl,hL⟩:=u.any ho I.free fun z=>(hch _ z).2.1 rfl
 exact I.step (ch:=ch) hch (fun b o hL hb hc e n=>u.keep b o e n (fun z=>(ET.mp (I.stkSub b z)).elim hL hb) hc) (fun b o _ _ hc e n=>u.any e n hc) (fun b o hc e n=>u.free b o e n hc) (fun b o hc e=>u.there b o e hc) u.tups u.frzs u.tbls (fun m' hm=>by
  obtain ⟨o',es',ep',ho',r'⟩:=hm
  rw [ho] at ho'; cases ho'
  exact ⟨_,es',ep',hL,r'⟩) hok hg
theorem Inv.turned {t':Nat} {it:EK} (I:Inv X pins σ H s) (k:∀ b o,b≠it->s.heap.get? b=some o->h'.get? b=some o) (hn:H it=none) (hL:it≠X.env.locals)
  (h1:it∈X.ex\/X.s₀.heap.objs.size<=it) (h2:∀ x c,X.env.cells.lookup x=some c->c≠it) (h3:∀ p∈X.pn++pins,p.1≠it):Inv X pins σ H { s with heap:=h',toks:=t' }:=by
 have nit:∀ b u,H b=some u->b≠it:=fun b u e z=>by rw [z,hn] at e; cases e
 refine I.step (g':=s.gens) (d':=s.drawn) (ch:=[it]) (fun b hb=>?_) (fun b o _ _ hc e _=>k b o (fun z=>hc (by simp [z])) e) (fun b o _ _ hc e _=>⟨o.slots,k b o (fun z=>hc (by simp [z])) e⟩) (fun _ _ _ _ n=>n)
  (fun b o hc e=>⟨o,k b o (fun z=>hc (by simp [z])) e⟩) (fun _ _ e=>e) (fun _ _ _ e=>e) (fun b ps e=>⟨#[],by rw [e]; simp⟩) (fun m hm=>?_) (fun b u e=>?_) I.bare
 ·have e:b=it:=by simpa using hb
  subst e
  exact ⟨h1,hL,h2,h3⟩
 ·obtain ⟨o,es,ep,ho,r⟩:=hm
  exact ⟨o,es,ep,k _ o (G4 hL) ho,r⟩
 ·refine (I.hok b u e).stay (fun c v hc q=>k c v ?_ q) (fun _ q=>q) fun _ _ q=>q
  rcases hc with z | z
  ·rw [z]; exact nit b u e
  ·exact nit c _ z
theorem Inv.tok (I:Inv X pins σ H s) (t:Nat):Inv X pins σ H { s with toks:=t }:=I.un (h':=s.heap) (t':=t) Un.refl I.hok
theorem Inv.kept {t':Nat} (I:Inv X pins σ H s) (k:∀ b u,s.heap.get? b=some u->h'.get? b=some u):Inv X pins σ H { s with heap:=h',toks:=t' }:=I.un (Un.kept k) (I.hok.kept k)
theorem Inv.laid {a:EK} {o:HO} {t':Nat} (I:Inv X pins σ H s) (k:∀ b u,s.heap.get? b=some u->h'.get? b=some u) (hp:s.heap.objs.size<=a) (new:bR X.prog X.w (upd H a o) h' a o) :
  Inv X pins σ (upd H a o) { s with heap:=h',toks:=t' }:=I.un (Un.laid k hp (I.hok.fresh hp)) (I.hok.laid k hp new)
theorem Inv.write {x e:EK} {o:HO} {t':Nat} (I:Inv X pins σ H s) (mu:xJ (H x)) (he:e=x\/H e=some (.own x)) (k:∀ b u,b≠e->s.heap.get? b=some u->h'.get? b=some u) (heo:∃ u,h'.get? e=some u)
  (new:bR X.prog X.w (upd H x o) h' x o):Inv X pins σ (upd H x o) { s with heap:=h',toks:=t' }:=I.un (Un.write mu he k heo) (I.hok.write mu he k heo new)
theorem Inv.weak {σ':List (Option V)} (I:Inv X pins σ H s) (hl:σ'.length=σ.length) (w:∀ (i:Nat) v,σ'[i]? = some (some v)->σ[i]? = some (some v)):Inv X pins σ' H s :=
 ⟨I.ok,I.os,I.bare,I.base,let ⟨m,hn,hl'⟩:=I.loc; ⟨m,hn,fun i x v e1 e2 e3=>hl' i x v e1 (w i v e2) e3⟩,I.cell,I.free,I.freeC,I.pin,I.hok,hl.trans I.len⟩
theorem Inv.pins_of {pins':List (EK × Obj)} (I:Inv X pins σ H s) (h:∀ p∈pins',s.heap.get? p.1=some p.2/\H p.1=none/\p.1≠X.env.locals/\p.1∉X.fs/\∀ v,p.2.data≠.cell v):Inv X pins' σ H s :=
 ⟨I.ok,I.os,I.bare,I.base,I.loc,I.cell,I.free,I.freeC,fun p hp=>(EN.mp hp).elim (fun z=>I.pin p (Gi _ z)) (h p),I.hok,I.len⟩
theorem ou {N:List Str} (hN:N.Nodup) {i j:Nat} {x:Str} (a:N[i]? = some x) (b:N[j]? = some x):i=j:=by
 obtain ⟨h1,e1⟩:=EC.mp a
 obtain ⟨h2,e2⟩:=EC.mp b
 exact (List.getElem_inj hN).mp (e1.trans e2.symm)
theorem lQ {M:Model} {A:FE} {E:Ey->Ez->Prop} {i:Nat} {x:Str} {v:V} {u:Ey} {Q:Unit->Ez->Prop} (I:Inv X pins σ H s) (hN:X.N.Nodup) (hi:X.N[i]? = some x) (hx:Loc X.env.scope x) (r:RelV v u)
  (h:∀ s',Inv X pins (σ.set i (some v)) H s'->(∃ a,IT a s.heap s'.heap/\(a=X.env.locals\/X.env.cells.lookup x=some a))->Q () s') (hf:X.fn x=true\/X.env.scope.names.lookup x=some .local:=by first | exact .inl rfl | exact .inr rfl | assumption):wpAny M A (storeName X.env x u) Q E s:=by
 obtain ⟨m,hn,hl⟩:=id I.loc
 have hcls:(X.env.scope.kind == .class || (X.env.scope.kind == .module&&X.env.locals != X.env.globals))=false:=by rw [I.ok.kind]; rfl
 have hiσ:i < σ.length:=by rw [I.len]; exact (EC.mp hi).1
 have cne:=I.cne
 have tracked:∀ {a:EK} {h':GP},(∃ o,s.heap.get? a=some o/\H a=none)->IT a s.heap h'->cD X.prog X.w H h':=fun {a h'} ha hs b ob e=>by
  obtain ⟨_,_,hfree⟩:=ha
  refine (I.hok b ob e).stay (fun c w' hc q=>(hs.2 c ?_).trans q) (fun _ q=>q) fun _ _ q=>q
  rintro rfl
  rcases hc with rfl | hc
  ·rw [hfree] at e; cases e
  ·rw [hfree] at hc; cases hc
 rcases hx with hk | hk
 ·refine wpAny_storeName_local hk hn (fun h' hn' hs=>?_) hcls
  obtain ⟨oL,_,_,hoL,_⟩:=id hn
  refine h _ ⟨I.ok,I.os,I.bare,⟨fun b o e n hb hx=>?_,fun b o e n hb hx=>?_,I.base.free,fun b o e hx=>?_,I.base.tups,I.base.frzs,I.base.tbls⟩,⟨_,hn',fun j y v' e1 e2 e3=>?_⟩,fun y c e=>?_,I.free,I.freeC,fun p hp=>?_,tracked ⟨oL,hoL,I.free⟩ hs,by simpa using I.len⟩ ⟨_,hs,.inl rfl⟩
  ·exact (hs.2 b (Fn (Fj (EV e) I.ok.above))).trans (I.base.keep b o e n hb hx)
  ·obtain ⟨sl,e1⟩:=I.base.slot b o e n hb hx
   exact ⟨sl,(hs.2 b (Fn (Fj (EV e) I.ok.above))).trans e1⟩
  ·obtain ⟨o',e1⟩:=I.base.there b o e hx
   exact ⟨o',(hs.2 b (Fn (Fj (EV e) I.ok.above))).trans e1⟩
  ·by_cases hj:j=i
   ·subst hj
    rw [hi] at e1; cases e1
    rw [KC hiσ] at e2
    cases e2
    exact ⟨u,r,.inl ⟨hk,by simp⟩⟩
   ·rw [Jy (G4 hj)] at e2
    obtain ⟨u',r',q⟩:=hl j y v' e1 e2 e3
    refine ⟨u',r',?_⟩
    rcases q with ⟨k,e⟩ | ⟨k,c,e,z⟩
    ·refine .inl ⟨k,?_⟩
     have:y≠x:=fun e=>hj (ou hN e1 (e▸hi))
     simp [this,e]
    ·exact .inr ⟨k,c,e,z.sameBut hs (cne y c e)⟩
  ·obtain ⟨w',z⟩:=I.cell y c e
   exact ⟨w',z.sameBut hs (cne y c e)⟩
  ·obtain ⟨e,n,ne,nf,d⟩:=I.pin p hp
   exact ⟨(hs.2 p.1 ne).trans e,n,ne,nf,d⟩
 ·have hfn:X.fn x=true:=by
   rcases hf with z | z
   ·exact z
   ·rw [z] at hk; cases hk
  obtain ⟨c,hc⟩:=I.ok.has x (.inl hk)
  obtain ⟨w',z⟩:=I.cell x c hc
  refine wpAny_storeName_cell I.ok.kind hk hc z (fun h' hc' hs=>?_)
  obtain ⟨oc,hoc,hocd⟩:=id z
  refine h { s with heap:=h' } ⟨I.ok,I.os,I.bare,⟨fun b o e n hb hx=>?_,fun b o e n hb hx=>?_,I.base.free,fun b o e hx=>?_,I.base.tups,I.base.frzs,I.base.tbls⟩,⟨m,hn.sameBut hs (G4 (cne x c hc)),fun j y v' e1 e2 e3=>?_⟩,fun y c' e=>?_,I.free,I.freeC,fun p hp=>?_,tracked ⟨oc,hoc,I.freeC x c hc⟩ hs,by simpa using I.len⟩ ⟨c,hs,.inr hc⟩
  ·exact (hs.2 b (Fn (Fj (EV e) (I.ok.cab x c hfn hc)))).trans (I.base.keep b o e n hb hx)
  ·obtain ⟨sl,e1⟩:=I.base.slot b o e n hb hx
   exact ⟨sl,(hs.2 b (Fn (Fj (EV e) (I.ok.cab x c hfn hc)))).trans e1⟩
  ·obtain ⟨o',e1⟩:=I.base.there b o e hx
   exact ⟨o',(hs.2 b (Fn (Fj (EV e) (I.ok.cab x c hfn hc)))).trans e1⟩
  ·by_cases hj:j=i
   ·subst hj
    rw [hi] at e1; cases e1
    rw [KC hiσ] at e2
    cases e2
    exact ⟨u,r,.inr ⟨.inl hk,c,hc,hc'⟩⟩
   ·rw [Jy (G4 hj)] at e2
    obtain ⟨u',r',q⟩:=hl j y v' e1 e2 e3
    refine ⟨u',r',?_⟩
    rcases q with q | ⟨k,c',e,z'⟩
    ·exact .inl q
    ·refine .inr ⟨k,c',e,z'.sameBut hs ?_⟩
     rintro rfl
     exact hj (ou hN e1 (I.ok.inj _ _ _ e hc▸hi))
  ·by_cases hcc:c'=c
   ·subst hcc; exact ⟨_,hc'⟩
   ·obtain ⟨w2,z2⟩:=I.cell y c' e
    exact ⟨w2,z2.sameBut hs hcc⟩
  ·obtain ⟨e,n,ne,nf,d⟩:=I.pin p hp
   refine ⟨(hs.2 p.1 ?_).trans e,n,ne,nf,d⟩
   intro q
   rw [q,hoc] at e
   have q':oc=p.2:=FB e
   exact d w' (by rw [<- q']; exact hocd)
theorem jM {M:Model} {A:FE} {E:Ey->Ez->Prop} {i:Nat} {x:Str} {v:V} {u:Ey} {Q:Unit->Ez->Prop} (I:Inv X pins σ H s) (hN:X.N.Nodup) (hi:X.N[i]? = some x) (hx:Loc X.env.scope x) (r:RelV v u)
  (h:∀ s',Inv X pins (σ.set i (some v)) H s'->Q () s') (hf:X.fn x=true\/X.env.scope.names.lookup x=some .local:=by first | exact .inl rfl | exact .inr rfl | assumption):wpAny M A (storeName X.env x u) Q E s :=
 lQ I hN hi hx r (fun s' I' _=>h s' I') hf
theorem Inv.call' {s':Ez} {ch:List EK} (I:Inv X pins σ H s) (ho:s'.os=s.os) (u:Un (bV X.stack) ch H H' s.heap s'.heap) (hok:cD X.prog X.w H' s'.heap) (hg:Ke s'.gens)
  (hch:∀ b∈ch,(b∈X.ex\/X.s₀.heap.objs.size<=b)/\b≠X.env.locals/\(∀ x c,X.env.cells.lookup x=some c->c≠b)/\∀ p∈X.pn++pins,p.1≠b):Inv X pins σ H' s':=by
 obtain ⟨h',g',d',t',o'⟩:=s'
 have e:o'=s.os:=ho
 subst e
 exact I.call (g':=g') (t':=t') (d':=d') u hok hg hch
end
noncomputable abbrev XK:=Ey->Option EK->Hp->Prop
noncomputable abbrev St:=List (Option V)
noncomputable abbrev VK:=V->Hp->Prop
noncomputable abbrev TE:=St->Hp->VK->Prop
noncomputable abbrev TT:=St->Hp->(Bool->Hp->Prop)->Prop
noncomputable abbrev TA:=St->Hp->(List V->Hp->Prop)->Prop
structure Ends where
 nx:St->Hp->Prop
 rt:VK
 bk:St->Hp->Prop:=fun _ _=>False
 ct:St->Hp->Prop:=fun _ _=>False
noncomputable abbrev TS:=Ends->St->Hp->Prop
def EP (X:Cx) (pins:List (EK × Obj)) (σ:St) (Q:VK) (u:Ey) (s':Ez):Prop:=∃ v H',Inv X pins σ H' s'/\RelV v u/\Q v H'
def TP (X:Cx) (pins:List (EK × Obj)) (σ:St) (Q:Bool->Hp->Prop) (b:Bool) (s':Ez):Prop:=∃ H',Inv X pins σ H' s'/\Q b H'
def AP (X:Cx) (pins:List (EK × Obj)) (σ:St) (Q:List V->Hp->Prop) (us:List Ey) (s':Ez):Prop:=∃ vs H',Inv X pins σ H' s'/\Vals vs us/\Q vs H'
def SP (X:Cx) (pins:List (EK × Obj)) (D:Ends) (f:Flow) (s':Ez):Prop :=
 match f with
 | .next=>∃ σ' H',Inv X pins σ' H' s'/\D.nx σ' H'
 | .brk=>∃ σ' H',Inv X pins σ' H' s'/\D.bk σ' H'
 | .cont=>∃ σ' H',Inv X pins σ' H' s'/\D.ct σ' H'
 | .ret u=>∃ v σ' H',Inv X pins σ' H' s'/\RelV v u/\D.rt v H'
def PE (X:Cx) (e:Hq) (t:TE):Prop :=
 ∀ (pins:List (EK × Obj)) (s:Ez) (σ:St) (H:Hp) (Q:VK),Inv X pins σ H s->t σ H Q->wpAny (model X.prog X.w) X.A (eval e X.env) (EP X pins σ Q) X.xe s
def PT (X:Cx) (e:Hq) (t:TT):Prop :=
 ∀ (pins:List (EK × Obj)) (s:Ez) (σ:St) (H:Hp) (Q:Bool->Hp->Prop),Inv X pins σ H s->t σ H Q->wpAny (model X.prog X.w) X.A (isTrue e X.env (eval e X.env)) (TP X pins σ Q) X.xe s
def PW (X:Cx) (e:Hq) (t:TT):Prop :=
 ∀ (whole:Sem Ey) (pins:List (EK × Obj)) (s:Ez) (σ:St) (H:Hp) (Q:Bool->Hp->Prop),Inv X pins σ H s->t σ H Q->wpAny (model X.prog X.w) X.A (isTrue e X.env whole) (TP X pins σ Q) X.xe s
theorem PW.pt {X:Cx} {e:Hq} {t:TT} (h:PW X e t):PT X e t:=h _
def PA (X:Cx) (es:List Hq) (t:TA):Prop :=
 ∀ (pos:Pos) (pins:List (EK × Obj)) (s:Ez) (σ:St) (H:Hp) (Q:List V->Hp->Prop),Inv X pins σ H s->t σ H Q->wpAny (model X.prog X.w) X.A (spliced (backTo pos (starEach es X.env))) (AP X pins σ Q) X.xe s
def PS (X:Cx) (st:HI) (t:TS):Prop :=
 ∀ (pins:List (EK × Obj)) (s:Ez) (σ:St) (H:Hp) (D:Ends),Inv X pins σ H s->t D σ H->wpAny (model X.prog X.w) X.A (exec st X.env) (SP X pins D) X.xe s
def fM (X:Cx) (st:List HI) (t:TS):Prop :=
 ∀ (pins:List (EK × Obj)) (s:Ez) (σ:St) (H:Hp) (D:Ends),Inv X pins σ H s->t D σ H->wpAny (model X.prog X.w) X.A (execs st X.env) (SP X pins D) X.xe s
theorem aG {α:Type} {t:Sem α} {Q Q':α->Ez->Prop} {M:Model} {A:FE} {E:Ey->Ez->Prop} {s:Ez} (h:wpAny M A t Q E s) (hQ:∀ a s,Q a s->Q' a s):wpAny M A t Q' E s:=G8 h hQ fun _ _ x=>x
end L2
namespace L2
open PySem PySem.Spec PyProof.Rows
section
variable {X:Cx}
theorem bin {a b:Hq} {ta tb:TE} (ha:PE X a ta) (hb:PE X b tb) {pins:List (EK × Obj)} {s:Ez} {σ:St} {H:Hp} {R:V->V->Hp->Prop} (I:Inv X pins σ H s) (h:ta σ H fun x H1=>tb σ H1 fun y H2=>R x y H2)
  {α:Type} {Q:α->Ez->Prop} {f:Ey->Ey->Sem α}
  (hf:∀ v u s2 x y H2,Inv X pins σ H2 s2->RelV x v->RelV y u->R x y H2->wpAny (model X.prog X.w) X.A (f v u) Q X.xe s2) :
  wpAny (model X.prog X.w) X.A (eval a X.env) (fun v s₁=>wpAny (model X.prog X.w) X.A (eval b X.env) (fun u s₂=>wpAny (model X.prog X.w) X.A (f v u) Q X.xe s₂) X.xe s₁) X.xe s:=by
 refine aG (ha pins s σ H _ I h) fun v s1 ⟨x,H1,I1,r1,q1⟩=>?_
 refine aG (hb pins s1 σ H1 _ I1 q1) fun u s2 ⟨y,H2,I2,r2,q2⟩=>?_
 exact hf v u s2 x y H2 I2 r1 r2 q2
noncomputable def yO (i:Nat):TE:=fun σ H Q=>∃ v,σ[i]? = some (some v)/\Q v H
noncomputable def tC (v:V):TE:=fun _ H Q=>Q v H
theorem zA {i:Nat} {x:Str} {pos:Pos} (hN:X.N[i]? = some x) (hv:xk X.env.scope x) (hd:(x == ("__debug__" : Str))=false:=by decide) (hcd:(x == ("__classdict__" : Str))=false:=by decide):PE X (.Name x pos) (yO i):=by
 intro pins s σ H Q I h
 obtain ⟨v,e,h⟩:=h
 obtain ⟨m,hn,hl⟩:=I.loc
 obtain ⟨u,r,l⟩:=hl i x v hN e hv
 have fin:EP X pins σ Q u s:=⟨v,H,I,r,h⟩
 rcases l with ⟨hk,hm⟩ | ⟨hk,c,hc,hcell⟩
 ·exact wpAny_Name (wpAny_loadName_local I.ok.kind hk hn hm fin) hd
 ·rcases hk with hk | hk
  ·exact wpAny_Name (wpAny_loadName_cell I.ok.kind hk hc hcell fin) hd
  ·exact wpAny_Name (wpAny_loadName_free I.ok.kind hk hc hcell fin hcd) hd
theorem ag {i j pos}:PE X (.Constant (.int i) j pos) (tC (.int i)):=fun _ _ _ H _ I h=>wpAny_Constant_int ⟨.int i,H,I.tok _,⟨_,rfl⟩,h⟩
theorem cj {b j pos}:PE X (.Constant (.bool b) j pos) (tC (.bl b)):=fun _ _ _ H _ I h=>Constant_bool ⟨.bl b,H,I,rfl,h⟩
theorem iV {x j pos}:PE X (.Constant (.str x) j pos) (tC (.str x)):=fun _ _ _ H _ I h=>Calls.Constant_str ⟨.str x,H,I.tok _,⟨_,rfl⟩,h⟩
def Gl (X:Cx) (x:Str):Prop:=X.env.kindOf x=some .globalImplicit
theorem gb {E:Ey->Ez->Prop} {pins:List (EK × Obj)} {s:Ez} {σ:St} {H:Hp} {x:Str} {u:Ey} {pos:Pos} {Q:Ey->Ez->Prop} (I:Inv X pins σ H s) (hg:Gl X x) (hm:X.mg x=some u) (h:Q u s)
  (hd:(x == ("__debug__" : Str))=false:=by decide):wpAny (model X.prog X.w) X.A (eval (.Name x pos) X.env) Q E s :=
 JS I.ok.kind hg (Calls.loadGlobal_global (by rw [I.ok.glob]; exact I.mod.glob.keeps I.bk) hm h) hd
theorem dM {E:Ey->Ez->Prop} {pins:List (EK × Obj)} {s:Ez} {σ:St} {H:Hp} {x:Str} {u:Ey} {pos:Pos} {Q:Ey->Ez->Prop} (I:Inv X pins σ H s) (hg:Gl X x) (hm:X.mg x=none) (hv:bootBuiltins x=some u) (h:Q u s)
  (hn:x≠"__name__":=by decide) (hd:(x == ("__debug__" : Str))=false:=by decide):wpAny (model X.prog X.w) X.A (eval (.Name x pos) X.env) Q E s:=by
 obtain ⟨mb,h1,h2⟩:=I.mod.blt
 exact JS I.ok.kind hg (Calls.loadGlobal_builtin (by rw [I.ok.glob]; exact I.mod.glob.keeps I.bk) hm (by rw [I.ok.blt]; exact h1.keeps I.bk) ((h2 x hn).trans hv) h) hd
theorem dB {x:Str} {v:V} {u:Ey} {pos:Pos} (hg:Gl X x) (hm:X.mg x=none) (hv:bootBuiltins x=some u) (r:RelV v u) (hn:x≠"__name__":=by decide) (hd:(x == ("__debug__" : Str))=false:=by decide):PE X (.Name x pos) (tC v) :=
 fun _ _ _ H _ I h=>dM I hg hm hv ⟨v,H,I,r,h⟩ hn hd
variable {a b:Hq} {ta tb:TE} {pos:Pos}
def PC (X:Cx) (op:CmpOp) (a b:Hq) (t:TE):Prop :=
 ∀ (pins:List (EK × Obj)) (s:Ez) (σ:St) (H:Hp) (Q:VK),Inv X pins σ H s->t σ H Q ->
  wpAny (model X.prog X.w) X.A (eval a X.env) (fun v s₁=>wpAny (model X.prog X.w) X.A (eval b X.env) (fun u s₂=>wpAny (model X.prog X.w) X.A (compareOp op v u) (EP X pins σ Q) X.xe s₂) X.xe s₁) X.xe s
theorem vf (b:Hq) {op:CmpOp} (h:op≠.In) (h2:op≠.NotIn):behindInMarks op b=false:=by
 have e1:(op == CmpOp.In)=false:=by cases op<;>first | rfl | exact absurd rfl h
 have e2:(op == CmpOp.NotIn)=false:=by cases op<;>first | rfl | exact absurd rfl h2
 cases b<;>simp [behindInMarks,e1,e2]
noncomputable def tB (t:TE):TT:=fun σ H Q=>t σ H fun x H1=>∃ c,x = .bl c/\Q c H1
theorem Ep {op:CmpOp} {t:TE} (h:PC X op a b t) (h1:behindInMarks op b=false:=by first | exact vf _ (by decide) (by decide) | rfl):PT X (.Compare a [op] [b] pos) (tB t):=by
 intro pins s σ H Q I hw
 refine wpAny_isTrue_Compare1 (aG (h pins s σ H _ I hw) fun v s1 h1=>aG h1 fun u s2 h2=>aG h2 fun c s3 ⟨x,H1,I1,r1,q1⟩=>?_) h1
 obtain ⟨d,rfl,q⟩:=q1
 cases r1
 exact FW ⟨H1,I1,q⟩
theorem cz {e:Hq} {t:TE} (h:PE X e t) (he:∀ whole,isTrue e X.env whole=(do let v <- whole; standAt e.pos; holding [v] (truthy v)):=by intro _; rfl):PT X e (tB t):=by
 intro pins s σ H Q I hw
 refine isTrue_plain (aG (h pins s σ H _ I hw) fun v s1 ⟨x,H1,I1,r1,q1⟩=>?_) (he _)
 obtain ⟨d,rfl,q⟩:=q1
 cases r1
 exact FW ⟨H1,I1,q⟩
variable {tA tB':TT} {rest:List Hq}
noncomputable def D3 (t u:TT):TT:=fun σ H Q=>t σ H fun c H1=>if c=true then u σ H1 Q else Q false H1
noncomputable def D6 (t u:TT):TT:=fun σ H Q=>t σ H fun c H1=>if c=true then Q true H1 else u σ H1 Q
noncomputable def DJ (t:TT):TT:=fun σ H Q=>t σ H fun c H1=>Q (!c) H1
theorem gW (ha:PT X a tA):PW X (.BoolOp .And [a] pos) tA:=by
 intro wh pins s σ H Q I h
 refine isTrue_and (aG (ha pins s σ H Q I h) fun c s1 e=>?_)
 cases c with
 | true=>exact isTrue_and_nil e
 | false=>exact e
theorem ku (ha:PT X a tA):PW X (.BoolOp .Or [a] pos) tA:=by
 intro wh pins s σ H Q I h
 refine isTrue_or (aG (ha pins s σ H Q I h) fun c s1 e=>?_)
 cases c with
 | false=>exact isTrue_or_nil e
 | true=>exact e
theorem iH (ha:PT X a tA) (hb:PW X (.BoolOp .And (b::rest) pos) tB'):PW X (.BoolOp .And (a::b::rest) pos) (D3 tA tB'):=by
 intro wh pins s σ H Q I h
 refine isTrue_and (aG (ha pins s σ H _ I h) fun c s1 ⟨H1,I1,q1⟩=>?_)
 cases c with
 | true=>exact hb wh pins s1 σ H1 Q I1 q1
 | false=>exact ⟨H1,I1,q1⟩
theorem mU (ha:PT X a tA) (hb:PW X (.BoolOp .Or (b::rest) pos) tB'):PW X (.BoolOp .Or (a::b::rest) pos) (D6 tA tB'):=by
 intro wh pins s σ H Q I h
 refine isTrue_or (aG (ha pins s σ H _ I h) fun c s1 ⟨H1,I1,q1⟩=>?_)
 cases c with
 | true=>exact ⟨H1,I1,q1⟩
 | false=>exact hb wh pins s1 σ H1 Q I1 q1
theorem fK (ha:PT X a tA):PT X (.UnaryOp .Not a pos) (DJ tA):=by
 intro pins s σ H Q I h
 exact isTrue_not (ha pins s σ H (fun c H1=>Q (!c) H1) I h)
noncomputable def Cn (ta tb:TE):TE:=fun σ H Q=>ta σ H fun x H1=>∃ c,x = .bl c/\if c=true then tb σ H1 Q else Q (.bl false) H1
noncomputable def CS (ta:TE):TE:=fun σ H Q=>ta σ H fun x H1=>∃ c,x = .bl c/\Q (.bl (!c)) H1
theorem iQ {op} {t:TE} (h:PE X a t):PE X (.BoolOp op [a] pos) t:=fun pins s σ H Q I hw=>BoolOp_one (h pins s σ H Q I hw)
theorem gi (ha:PE X a ta) (hb:PE X (.BoolOp .And (b::rest) pos) tb):PE X (.BoolOp .And (a::b::rest) pos) (Cn ta tb):=by
 intro pins s σ H Q I h
 refine BoolOp_and (aG (ha pins s σ H _ I h) fun v s1 ⟨x,H1,I1,r1,q1⟩=>?_)
 obtain ⟨c,rfl,q1⟩:=q1
 cases r1
 refine FW ?_
 cases c with
 | true=>exact hb pins s1 σ H1 Q I1 q1
 | false=>exact ⟨.bl false,H1,I1,rfl,q1⟩
theorem nA (ha:PE X a ta):PE X (.UnaryOp .Not a pos) (CS ta):=by
 intro pins s σ H Q I h
 refine UnaryOp_ (aG (ha pins s σ H _ I h) fun v s1 ⟨x,H1,I1,r1,q1⟩=>?_)
 obtain ⟨c,rfl,q1⟩:=q1
 cases r1
 exact not_of (FW ⟨.bl (!c),H1,I1,rfl,q1⟩)
end
end L2
namespace L2
open PySem PySem.Spec PyProof.Rows
def aj (K:Fc) (H:Hp) (a:EK) (xs:List V):Prop :=
 Rd H a (.lst xs) \/
  ∃ (o:Obj) (its:Array Ey) (n:Nat),K.lookup a=some o/\o.cls = .type "list"/\o.dict=none/\o.data = .seq its n/\its.size<=sizeLine/\Vals xs its.toList
def bb (K:Fc) (H:Hp) (a:EK) (xs:List V):Prop :=
 Rd H a (.tup xs) \/
  ∃ (o:Obj) (its:Array Ey) (n:Nat),K.lookup a=some o/\o.cls = .type "tuple"/\o.data = .seq its n/\its.size<=sizeLine/\Vals xs its.toList
noncomputable def DD:Ey->Option V
 | .none=>some .non
 | .bool b=>some (.bl b)
 | .int i _=>some (.int i)
 | .str x _=>some (.str x)
 | .bytes b _=>some (.byt b)
 | .float b _=>some (.flt b)
 | .ref a=>some (.ref a)
 | .type n=>some (.ty n)
 | _=>none
theorem RelV.abs {x:V} {u:Ey} (r:RelV x u):DD u=some x:=by
 cases x with
 | non=>cases r; rfl
 | bl _=>cases r; rfl
 | int _=>obtain ⟨t,rfl⟩:=r; rfl
 | str _=>obtain ⟨t,rfl⟩:=r; rfl
 | byt _=>obtain ⟨t,rfl⟩:=r; rfl
 | flt _=>obtain ⟨t,rfl⟩:=r; rfl
 | ref _=>cases r; rfl
 | ty _=>cases r; rfl
theorem RelV.inj {x y:V} {u:Ey} (r:RelV x u) (q:RelV y u):x=y:=FB (r.abs.symm.trans q.abs)
theorem Vals.inj:∀ {xs ys:List V} {us:List Ey},Vals xs us->Vals ys us->xs=ys
 | _,_,_,.nil,.nil=>rfl
 | _,_,_,.cons r t,.cons r' t'=>by rw [r.inj r',Vals.inj t t']
section
variable {X:Cx} {pins:List (EK × Obj)} {σ:St} {H:Hp} {s:Ez} {a:EK} {xs ys:List V}
theorem aj.of {K:Fc} (h:H a=some (.lst xs)):aj K H a xs:=.inl (.inl h)
theorem bb.of {K:Fc} (h:H a=some (.tup xs)):bb K H a xs:=.inl (.inl h)
theorem Inv.list (I:Inv X pins σ H s) (h:aj X.K H a xs):∃ its:List Ey,Vals xs its/\PlainL s.heap a its.toArray/\xs.length<=sizeLine:=by
 rcases h with h | ⟨o,its,n,hk,hc,hd,hs,hz,r⟩
 ·obtain ⟨z,its,n,r,e⟩:=h.ok I.hok
  exact ⟨its,r,⟨_,n,e,rfl,rfl,rfl⟩,z⟩
 ·refine ⟨its.toList,r,⟨o,n,I.kIn a o hk,hc,hd,by simpa using hs⟩,?_⟩
  have e:=r.length
  simp only [EY] at e
  lia
theorem Inv.tuple (I:Inv X pins σ H s) (h:bb X.K H a xs):∃ its:List Ey,Vals xs its/\IsTup s.heap a its.toArray/\xs.length<=sizeLine:=by
 rcases h with h | ⟨o,its,n,hk,hc,hs,hz,r⟩
 ·obtain ⟨z,its,r,p⟩:=h.ok I.hok
  exact ⟨its,r,p,z⟩
 ·refine ⟨its.toList,r,⟨o,I.kIn a o hk,hc,n,by simpa using hs⟩,?_⟩
  have e:=r.length
  simp only [EY] at e
  lia
theorem Inv.list_inj (I:Inv X pins σ H s) (h:aj X.K H a xs) (h':aj X.K H a ys):xs=ys:=by
 obtain ⟨its,r,⟨o,n,e,_,_,d⟩,_⟩:=I.list h
 obtain ⟨its',r',⟨o',n',e',_,_,d'⟩,_⟩:=I.list h'
 rw [e] at e'; cases e'
 rw [d] at d'
 injection d' with d1 _
 have:its=its':=by simpa using congrArg Array.toList d1
 subst this
 exact r.inj r'
end
noncomputable abbrev Cx.wish (X:Cx) (E:Ey->Ez->Prop):Cx:={ X with xe:=E }
noncomputable abbrev Cx.nox (X:Cx):Cx:=X.wish fun _ _=>False
theorem Cx.Ok.wish {X:Cx} (ok:X.Ok) (E:Ey->Ez->Prop):(X.wish E).Ok :=
 ⟨ok.mod,ok.kind,ok.glob,ok.blt,ok.above,ok.inj,ok.has,ok.cab,ok.hd,ok.frames,ok.stk,ok.exf,ok.bs,ok.bsz,ok.noex,ok.exfs,ok.funs,ok.frf⟩
theorem Cx.Ok.unwish {X:Cx} {E:Ey->Ez->Prop} (ok:(X.wish E).Ok):X.Ok :=
 ⟨ok.mod,ok.kind,ok.glob,ok.blt,ok.above,ok.inj,ok.has,ok.cab,ok.hd,ok.frames,ok.stk,ok.exf,ok.bs,ok.bsz,ok.noex,ok.exfs,ok.funs,ok.frf⟩
section
variable {X:Cx} {pins:List (EK × Obj)} {σ:St} {H:Hp} {s:Ez} {E:Ey->Ez->Prop}
theorem Inv.wish (I:Inv X pins σ H s) (E:Ey->Ez->Prop):Inv (X.wish E) pins σ H s:=⟨I.ok.wish E,I.os,I.bare,I.base,I.loc,I.cell,I.free,I.freeC,I.pin,I.hok,I.len⟩
theorem Inv.unwish (I:Inv (X.wish E) pins σ H s):Inv X pins σ H s:=⟨I.ok.unwish,I.os,I.bare,I.base,I.loc,I.cell,I.free,I.freeC,I.pin,I.hok,I.len⟩
theorem SP.unwish {D:Ends} {f:Flow} {s':Ez} (h:SP (X.wish E) pins D f s'):SP X pins D f s':=by
 cases f with
 | next=>obtain ⟨σ',H',I,q⟩:=h; exact ⟨σ',H',I.unwish,q⟩
 | brk=>obtain ⟨σ',H',I,q⟩:=h; exact ⟨σ',H',I.unwish,q⟩
 | cont=>obtain ⟨σ',H',I,q⟩:=h; exact ⟨σ',H',I.unwish,q⟩
 | ret u=>obtain ⟨v,σ',H',I,r,q⟩:=h; exact ⟨v,σ',H',I.unwish,r,q⟩
theorem fM.nox {st:List HI} {t:TS} (h:fM X.nox st t):fM X st t:=fun pins s σ H D I hw =>
 G8 (h pins s σ H D (I.wish _) hw) (fun _ _ q=>q.unwish) fun _ _ z=>G9 z
end
section
variable {X:Cx} {st:HI} {rest:List HI} {t u:TS} {e:Hq} {te:TE} {pos:Pos}
noncomputable def CO:TS:=fun D σ H=>D.nx σ H
noncomputable def Dy (t u:TS):TS:=fun D σ H=>t { D with nx:=u D } σ H
theorem aI:fM X [] CO:=fun _ _ σ H _ I h=>Io ⟨σ,H,I,h⟩
theorem ai (h1:PS X st t) (h2:fM X rest u):fM X (st::rest) (Dy t u):=by
 intro pins s σ H D I h
 refine Ju (aG (h1 pins s σ H { D with nx:=u D } I h) fun f s1 q=>?_)
 cases f with
 | next =>
  obtain ⟨σ',H',I',q⟩:=q
  exact h2 pins s1 σ' H' D I' q
 | ret v=>exact q
 | brk=>exact q
 | cont=>exact q
theorem ah (h1:PS X st t):fM X [st] t:=by
 intro pins s σ H D I h
 refine Ju (aG (h1 pins s σ H D I h) fun f s1 q=>?_)
 cases f with
 | next=>exact Io q
 | ret v=>exact q
 | brk=>exact q
 | cont=>exact q
theorem Inv.quiet {pins:List (EK × Obj)} {σ:St} {H:Hp} {s:Ez} (I:Inv X pins σ H s):interactive X.env=false:=by simp [interactive,I.ok.kind]
noncomputable def Cg (te:TE):TS:=fun D σ H=>te σ H fun _ H1=>D.nx σ H1
theorem aZ (he:PE X e te) (hs:swapsWith e none pos.line X.env=pure false:=by rfl):PS X (.Expr e pos) (Cg te):=by
 intro pins s σ H D I h
 exact wpAny_Expr_any (aG (he pins s σ H _ I h) fun v s1 ⟨x,H1,I1,r1,q1⟩=>⟨σ,H1,I1,q1⟩) I.quiet hs
noncomputable def Dw (te:TE):TS:=fun D σ H=>te σ H D.rt
theorem au (he:PE X e te):PS X (.Return (some e) pos) (Dw te):=by
 intro pins s σ H D I h
 exact wpAny_Return_some (aG (he pins s σ H _ I h) fun v s1 ⟨x,H1,I1,r1,q1⟩=>⟨x,σ,H1,I1,r1,q1⟩)
noncomputable def DQ (c:TT) (t u:TS):TS:=fun D σ H=>c σ H fun b H1=>if b=true then t D σ H1 else u D σ H1
theorem aO {c:Hq} {a b:List HI} {tc:TT} (hc:PT X c tc) (ha:fM X a t) (hb:fM X b u):PS X (.If c a b pos) (DQ tc t u):=by
 intro pins s σ H D I h
 refine wpAny_If (aG (hc pins s σ H _ I h) fun d s1 ⟨H1,I1,q1⟩=>?_)
 cases d with
 | true=>exact ha pins s1 σ H1 D I1 q1
 | false=>exact hb pins s1 σ H1 D I1 q1
end
noncomputable abbrev TG:=V->St->Hp->(St->Hp->Prop)->Prop
noncomputable abbrev mj:=List V->St->Hp->(St->Hp->Prop)->Prop
def PG (X:Cx) (target:Hq) (t:TG):Prop :=
 ∀ (pins:List (EK × Obj)) (s:Ez) (σ:St) (H:Hp) (v:V) (u:Ey) (Q:St->Hp->Prop),Inv X pins σ H s->RelV v u->t v σ H Q ->
  wpAny (model X.prog X.w) X.A (assign target X.env u) (fun _ s'=>∃ σ' H',Inv X pins σ' H' s'/\Q σ' H') X.xe s
def uN (X:Cx) (ts:List Hq) (t:mj):Prop :=
 ∀ (pins:List (EK × Obj)) (s:Ez) (σ:St) (H:Hp) (vs:List V) (us:List Ey) (Q:St->Hp->Prop),Inv X pins σ H s->Vals vs us->t vs σ H Q ->
  wpAny (model X.prog X.w) X.A (assignInOrder ((assignEach ts X.env).map (·.2)) us) (fun _ s'=>∃ σ' H',Inv X pins σ' H' s'/\Q σ' H') X.xe s
noncomputable abbrev vT:=V->V->V->Hp->(Hp->Prop)->Prop
def wg (X:Cx) (t:vT):Prop :=
 ∀ (pins:List (EK × Obj)) (s:Ez) (σ:St) (H:Hp) (o i v:V) (ov iv u:Ey) (Q:Hp->Prop),Inv X pins σ H s->RelV o ov->RelV i iv->RelV v u->t o i v H Q ->
  wpAny (model X.prog X.w) X.A (setItem ov iv u) (fun _ s'=>∃ H',Inv X pins σ H' s'/\Q H') X.xe s
noncomputable abbrev xy:=V->V->Hp->VK->Prop
def Dl (X:Cx) (op:Operator) (t:xy):Prop :=
 ∀ (pins:List (EK × Obj)) (s:Ez) (σ:St) (H:Hp) (x y:V) (v u:Ey) (Q:VK),Inv X pins σ H s->RelV x v->RelV y u->t x y H Q ->
  wpAny (model X.prog X.w) X.A (inplaceOp op v u) (EP X pins σ Q) X.xe s
section
variable {X:Cx} {pos:Pos}
noncomputable def xf (i:Nat):TG:=fun v σ H Q=>Q (σ.set i (some v)) H
theorem az {i:Nat} {x:Str} (hN:X.N.Nodup) (hi:X.N[i]? = some x) (hx:Loc X.env.scope x) (hf:X.fn x=true\/X.env.scope.names.lookup x=some .local:=by first | exact .inl rfl | exact .inr rfl | assumption):PG X (.Name x pos) (xf i):=by
 intro pins s σ H v u Q I r h
 exact wpAny_assign_Name (jM I hN hi hx r (fun s' I'=>⟨_,H,I',h⟩) hf)
noncomputable def DZ:mj:=fun vs σ H Q=>vs=[]/\Q σ H
noncomputable def CF (t:TG) (u:mj):mj:=fun vs σ H Q=>∃ v r,vs=v::r/\t v σ H fun σ' H'=>u r σ' H' Q
theorem cW:uN X [] DZ:=by
 intro pins s σ H vs us Q I r h
 obtain ⟨e,h⟩:=h
 subst e
 cases r
 exact assignInOrder_nil ⟨σ,H,I,h⟩
theorem aV {e:Hq} {es:List Hq} {t:TG} {u:mj} (h1:PG X e t) (h2:uN X es u)
  (hs:(assignEach (e::es) X.env).map (·.2)=assign e X.env::(assignEach es X.env).map (·.2):=by rfl):uN X (e::es) (CF t u):=by
 intro pins s σ H vs us Q I r h
 obtain ⟨v,vr,e1,h⟩:=h
 subst e1
 cases r with
 | cons r rr =>
  rw [hs]
  refine assignInOrder_cons (aG (h1 pins s σ H _ _ _ I r h) fun _ s1 ⟨σ1,H1,I1,q1⟩=>?_)
  exact h2 pins s1 σ1 H1 _ _ Q I1 rr q1
noncomputable def zB (K:Fc) (n:Nat) (t:mj):TG:=fun v σ H Q=>∃ a xs,v = .ref a/\bb K H a xs/\xs.length=n/\t xs σ H Q
theorem g8 {es:List Hq} {k:Nat} {t:mj} {n:Nat} (hc:X.calm=true) (h:uN X es t)
  (hn:(assignEach es X.env).length=n:=by rfl) (hst:(assignEach es X.env).findIdx? (·.1)=none:=by rfl):PG X (.Tuple es k pos) (zB X.K n t):=by
 intro pins s σ H v u Q I r hw
 obtain ⟨a,xs,e1,hq,hl,hw⟩:=hw
 subst e1
 cases r
 obtain ⟨its,rv,ht,hz⟩:=I.tuple hq
 refine assign_Tuple_tuple (I.ok.hd hc) ht (by simp [hn,<- hl,rv.length]) hst fun h' hx=>?_
 have I1:Inv X pins σ H { s with heap:=h' }:=I.kept (t':=s.toks) fun b o e=>hx b o (Fn (EV e)) e
 exact h pins _ σ H xs _ Q I1 (by simpa using rv) hw
noncomputable def DH (to ti:TE) (t:vT):TG:=fun v σ H Q=>to σ H fun o H1=>ti σ H1 fun i H2=>t o i v H2 fun H3=>Q σ H3
theorem zL {o i:Hq} {to ti:TE} {t:vT} (ho:PE X o to) (hi:PE X i ti) (hs:wg X t)
  (ha:∀ v,assign (.Subscript o i pos) X.env v=(do
   let ov <- holding [v] (eval o X.env)
   let iv <- holding [v,ov] (eval i X.env)
   standAt pos
   holding [v,ov,iv] (setItem ov iv v)
   release [v,ov,iv] []):=by intro _; rfl):PG X (.Subscript o i pos) (DH to ti t):=by
 intro pins s σ H v u Q I r h
 rw [ha]
 refine mo (FI (aG (ho pins s σ H _ I h) fun ov s1 ⟨x,H1,I1,r1,q1⟩=>?_))
 refine mo (FI (aG (hi pins s1 σ H1 _ I1 q1) fun iv s2 ⟨y,H2,I2,r2,q2⟩=>?_))
 refine mo (Kg (mo (FI (aG (hs pins s2 σ H2 x y v ov iv u _ I2 r1 r2 r q2) fun _ s3 ⟨H3,I3,q3⟩=>?_))))
 exact wpAny_release ⟨σ,H3,I3,q3⟩
noncomputable def yN (te:TE) (g:TG):TS:=fun D σ H=>te σ H fun x H1=>g x σ H1 D.nx
theorem Bo {tg e:Hq} {te:TE} {g:TG} (he:PE X e te) (hg:PG X tg g) (hs:swapsWithSole [tg] e pos.line X.env=pure false:=by rfl) (hw:swappedStores [tg] e X.env=pure none:=by rfl)
  (h1:(assignEach [tg] X.env).map (·.2)=[assign tg X.env]:=by rfl):PS X (.Assign [tg] e pos) (yN te g):=by
 intro pins s σ H D I h
 refine wpAny_Assign_stores (aG (he pins s σ H _ I h) fun v s1 ⟨x,H1,I1,r1,q1⟩=>?_) hs hw
 rw [h1]
 exact aG (hg pins s1 σ H1 x v _ I1 r1 q1) fun _ s2 q=>q
theorem aD {i:Nat} {x:Str} {e:Hq} {te:TE} {pos':Pos} (hN:X.N.Nodup) (hi:X.N[i]? = some x) (hx:Loc X.env.scope x) (he:PE X e te) (hs:swapsWith e (some (.Name x pos')) pos.line X.env=pure false:=by rfl) (hf:X.fn x=true\/X.env.scope.names.lookup x=some .local:=by first | exact .inl rfl | exact .inr rfl | assumption) :
  PS X (.Assign [.Name x pos'] e pos) (yN te (xf i)):=by
 intro pins s σ H D I h
 refine wpAny_Assign_Name (aG (he pins s σ H _ I h) fun v s1 ⟨y,H1,I1,r1,q1⟩=>?_) hs
 exact jM I1 hN hi hx r1 (fun s2 I2=>⟨_,H1,I2,q1⟩) hf
noncomputable def DP (i:Nat) (te:TE) (ti:xy):TS:=fun D σ H=>∃ x,σ[i]? = some (some x)/\te σ H fun y H1=>ti x y H1 fun z H2=>D.nx (σ.set i (some z)) H2
theorem Ap {i:Nat} {x:Str} {e:Hq} {te:TE} {op:Operator} {ti:xy} {pos':Pos} (hN:X.N.Nodup) (hi:X.N[i]? = some x) (hx:Loc X.env.scope x) (he:PE X e te) (ho:Dl X op ti) (hf:X.fn x=true\/X.env.scope.names.lookup x=some .local:=by first | exact .inl rfl | exact .inr rfl | assumption) :
  PS X (.AugAssign (.Name x pos') op e pos) (DP i te ti):=by
 intro pins s σ H D I h
 obtain ⟨v,e1,h⟩:=h
 obtain ⟨m,hn,hl⟩:=I.loc
 have vis:xk X.env.scope x:=by rcases hx with k | k; exact .inl k; exact .inr (.inl k)
 obtain ⟨u,r,l⟩:=hl i x v hi e1 vis
 refine wpAny_AugAssign_Name ?_
 have go:wpAny (model X.prog X.w) X.A (eval e X.env) (fun w s₂=>wpAny (model X.prog X.w) X.A (inplaceOp op u w) (fun r s₃=>wpAny (model X.prog X.w) X.A (storeName X.env x r) (fun _=>SP X pins D .next) X.xe s₃) X.xe s₂) X.xe s:=by
  refine aG (he pins s σ H _ I h) fun w s1 ⟨y,H1,I1,r1,q1⟩=>?_
  refine aG (ho pins s1 σ H1 v y u w _ I1 r r1 q1) fun z s2 ⟨zv,H2,I2,r2,q2⟩=>?_
  exact jM I2 hN hi hx r2 (fun s3 I3=>⟨_,H2,I3,q2⟩) hf
 rcases l with ⟨hk,hm⟩ | ⟨hk,c,hc,hcell⟩
 ·exact wpAny_loadName_local I.ok.kind hk hn hm go
 ·rcases hk with hk | hk
  ·exact wpAny_loadName_cell I.ok.kind hk hc hcell go
  ·rcases hx with k | k
   ·have:X.env.scope.names.lookup x=some .free:=hk
    rw [k] at this; cases this
   ·have:X.env.scope.names.lookup x=some .free:=hk
    rw [k] at this; cases this
noncomputable def Ef (f:Int->Int->Int):xy:=fun x y H Q=>∃ i j,x = .int i/\y = .int j/\Q (.int (f i j)) H
theorem zr:Dl X .Add (Ef fun i j=>i+j):=by
 intro pins s σ H x y v u Q I r1 r2 h
 obtain ⟨i,j,e1,e2,q⟩:=h
 subst e1; subst e2
 obtain ⟨t,rfl⟩:=r1
 obtain ⟨t',rfl⟩:=r2
 exact iadd_int ⟨.int _,H,I.tok _,⟨_,rfl⟩,q⟩
end
section
variable {X:Cx} {pos:Pos}
noncomputable def BX (c:TT) (tb:TS):TS:=fun D σ H=>∃ W:Nat->St->Hp->Prop,(∃ m,W m σ H)/\∀ m σ H,W m σ H ->
 c σ H fun b H1=>if b=true then ∃ N:St->Hp->Prop,(∀ σ' H',N σ' H'->∃ m',m' < m/\W m' σ' H')/\tb { D with nx:=N,ct:=N,bk:=D.nx } σ H1 else D.nx σ H1
theorem nk {c:Hq} {body:List HI} {tc:TT} {tb:TS} (hp:PassesOwn (model X.prog X.w) X.A X.env X.xe) (hc:PT X c tc) (hb:fM X body tb):PS X (.While c body [] pos) (BX tc tb):=by
 intro pins s σ H D I h
 obtain ⟨W,⟨m0,w0⟩,turn⟩:=h
 refine wpAny_While (codeAny_whileLoop (fun n s'=>∃ σ' H',Inv X pins σ' H' s'/\W n σ' H') ?_ m0 ⟨σ,H,I,w0⟩)
 rintro n s1 ⟨σ1,H1,I1,w1⟩
 refine HL hp (aG (hc pins s1 σ1 H1 _ I1 (turn n σ1 H1 w1)) fun b s2 ⟨H2,I2,q2⟩=>?_)
 cases b with
 | true =>
  obtain ⟨N,hN,q2⟩:=q2
  rw [if_pos rfl]
  refine HL hp (aG (hb pins s2 σ1 H2 _ I2 q2) fun f s3 q3=>?_)
  cases f with
  | next =>
   obtain ⟨σ3,H3,I3,n3⟩:=q3
   obtain ⟨m',hm,w3⟩:=hN σ3 H3 n3
   exact ⟨m',hm,σ3,H3,I3,w3⟩
  | cont =>
   obtain ⟨σ3,H3,I3,n3⟩:=q3
   obtain ⟨m',hm,w3⟩:=hN σ3 H3 n3
   exact ⟨m',hm,σ3,H3,I3,w3⟩
  | brk=>exact q3
  | ret v=>exact q3
 | false =>
  rw [if_neg Fl]
  exact Io ⟨σ1,H2,I2,q2⟩
end
structure It where
 go:Nat->Hp->Prop
 yld:Nat->Hp->V->Hp->Prop
 stop:Nat->Hp->Prop
def jZ (X:Cx) (pins:List (EK × Obj)) (H:Hp) (b:EK):Prop :=
 H b=none/\b≠X.env.locals/\b∉X.fs/\(b∈X.ex\/X.s₀.heap.objs.size<=b)/\(∀ x c,X.env.cells.lookup x=some c->c≠b)/\∀ p∈X.pn++pins,p.1≠b
theorem Inv.fpOk {X:Cx} {pins:List (EK × Obj)} {σ:St} {H H':Hp} {s:Ez} {b:EK} (I:Inv X pins σ H s) (hb:s.heap.objs.size<=b) (hn:H' b=none):jZ X pins H' b:=by
 refine ⟨hn,IU (Fj I.lt hb),I.nofs hb,.inr (FN I.sz hb),fun x c e z=>?_,fun p hp z=>?_⟩
 ·obtain ⟨v,q⟩:=I.cell x c e
  exact absurd (Fj q.lt (by rw [z]; exact hb)) (FT _)
 ·exact absurd (Fj (EV (I.pin p hp).1) (by rw [z]; exact hb)) (FT _)
structure Turn (P:Fm) (w:FH) (K:Fc) (tg:Hq) (J:It) (fp:List EK) (it:EK) (tn:Nat->GP->Prop):Prop where
 mem:it∈fp
 obj:∀ i h,tn i h->∀ b∈fp,∃ o,h.get? b=some o/\∀ v,o.data≠.cell v
 keep:∀ i h h',tn i h->(∀ b∈fp,∀ o,h.get? b=some o->h'.get? b=some o)->tn i h'
 item:∀ (X:Cx),X.prog=P->X.w=w->X.K=K->X.calm=true->∀ (i:Nat) (pins:List (EK × Obj)) (s:Ez) (σ:St) (H:Hp) (E:Ey->Ez->Prop),Inv X pins σ H s->(∀ b∈fp,jZ X pins H b)->tn i s.heap->J.go i H ->
  wpAny (model P w) X.A (pyNext (.ref it)) (fun r s1=>∃ u,r=some u /\
   wpAny (model P w) X.A (letOwnedTupleGo tg (.ref it) u) (fun _ s2=>∃ x H',Inv X pins σ H' s2/\RelV x u/\J.yld i H x H'/\tn (i+1) s2.heap/\∀ b∈fp,H' b=none) E s1) E s
 done:∀ (X:Cx),X.prog=P->X.w=w->X.K=K->X.calm=true->∀ (i:Nat) (pins:List (EK × Obj)) (s:Ez) (σ:St) (H:Hp) (E:Ey->Ez->Prop),Inv X pins σ H s->(∀ b∈fp,jZ X pins H b)->tn i s.heap->J.stop i H ->
  wpAny (model P w) X.A (pyNext (.ref it)) (fun r s1=>r=none/\Inv X pins σ H s1) E s
 self:∀ (A:FE) (i:Nat) (s:Ez) (Q:Ey->Ez->Prop) (E:Ey->Ez->Prop),tn i s.heap->Q (.ref it) s->wpAny (model P w) A (pyIter (.ref it)) Q E s
noncomputable abbrev TI:=St->Hp->(It->Hp->Prop)->Prop
def Dq (X:Cx) (pins:List (EK × Obj)) (σ:St) (tg:Hq) (R:It->Hp->Prop) (itv:Ey) (s2:Ez):Prop :=
 ∃ (it:EK) (fp:List EK) (tn:Nat->GP->Prop) (J:It) (H':Hp),itv = .ref it/\Inv X pins σ H' s2/\Turn X.prog X.w X.K tg J fp it tn/\tn 0 s2.heap/\(∀ b∈fp,jZ X pins H' b)/\R J H'
def PI (X:Cx) (tg iter:Hq) (wi:TI):Prop :=
 ∀ (pins:List (EK × Obj)) (s:Ez) (σ:St) (H:Hp) (R:It->Hp->Prop),Inv X pins σ H s->wi σ H R ->
  wpAny (model X.prog X.w) X.A (eval iter X.env) (fun v s1=>wpAny (model X.prog X.w) X.A (pyIter v) (Dq X pins σ tg R) X.xe s1) X.xe s
theorem xG {M:Model} {A:FE} {E:Ey->Ez->Prop} {s:Ez} {tg:Hq} {it:EK} {u:Ey} {o:Obj} {n:String} {vs:Array Ey} {Q:Unit->Ez->Prop} (ho:s.heap.get? it=some o) (hc:o.cls = .type n) (hd:o.data = .fields vs)
  (hn:["enumerate","zip","dict_itemiterator","dict_reverseitemiterator","odict_iterator","itertools.zip_longest","itertools.pairwise"].contains n=false) (hQ:Q () s):wpAny M A (letOwnedTupleGo tg (.ref it) u) Q E s:=by
 unfold letOwnedTupleGo
 cases tg<;>first
  | exact EE hQ
  | (cases u<;>first
    | exact EE hQ
    | (refine mo (wpAny_load ho ?_)
       rw [hc,hd]
       show wpAny M A (if (["enumerate","zip","dict_itemiterator","dict_reverseitemiterator","odict_iterator","itertools.zip_longest","itertools.pairwise"].contains n&&vs[0]? == some (rawInt _))=true then _ else _) Q E s
       rw [if_neg (by intro h; rw [hn,GY] at h; cases h)]
       exact EE hQ))
noncomputable def mY (K:Fc) (a:EK):It :=
 ⟨fun i H=>∃ xs x,aj K H a xs/\xs[i]? = some x,fun i H x H'=>H'=H/\∀ xs,aj K H a xs->xs[i]? = some x,fun i H=>∃ xs,aj K H a xs/\xs.length<=i⟩
noncomputable def mq (lo:Int) (n:Nat):It:=⟨fun i _=>i < n,fun i H x H'=>H'=H/\x = .int (lo+i),fun i _=>n<=i⟩
theorem tI {P:Fm} {w:FH} {K:Fc} {tg:Hq} (a it:EK):Turn P w K tg (mY K a) [it] it (fun i h=>h.IsListIter it a i) where
 mem:=by simp
 obj:=fun i h st b hb=>by
  have e:b=it:=by simpa using hb
  subst e
  obtain ⟨o,e,c,d⟩:=st
  exact ⟨o,e,fun v z=>by rw [d] at z; cases z⟩
 keep:=fun i h h' st k=>st.at fun o e=>k it (by simp) o e
 item:=by
  intro X hP hw hK hc i pins s σ H E I hf st hg
  subst hP hw hK
  obtain ⟨xs,x,hq,hx⟩:=hg
  obtain ⟨its,rv,p,hz⟩:=I.list hq
  obtain ⟨u,hu,ru⟩:=rv.get hx
  obtain ⟨f0,f1,f2,f3,f4,f5⟩:=hf it (by simp)
  refine wpAny_pyNext_list_item st p.isList (x:=u) (by simpa using hu) fun h' st' sb=>?_
  have I1:Inv X pins σ H { s with heap:=h' }:=I.turned (t':=s.toks) (fun b o hb e=>(sb.2 b hb).trans e) f0 f1 f3 f4 f5
  obtain ⟨o,e,c,d⟩:=id st'
  exact ⟨u,rfl,xG (s:={ s with heap:=h' }) e c d (by decide) ⟨x,H,I1,ru,⟨rfl,fun ys hy=>by rw [I.list_inj hy hq]; exact hx⟩,st',fun b hb=>(hf b hb).1⟩⟩
 done:=by
  intro X hP hw hK hc i pins s σ H E I hf st hg
  subst hP hw hK
  obtain ⟨xs,hq,hx⟩:=hg
  obtain ⟨its,rv,p,hz⟩:=I.list hq
  obtain ⟨f0,f1,f2,f3,f4,f5⟩:=hf it (by simp)
  have hl:=rv.length
  exact wpAny_pyNext_list_end (I.ok.hd hc) st p.isList (by simp; lia) fun h' eb=>⟨rfl,I.turned (t':=s.toks) (fun b o hb e=>eb b o hb e) f0 f1 f3 f4 f5⟩
 self:=fun _ _ _ _ _ st h=>wpAny_pyIter_listiter st h
theorem r8 {P:Fm} {w:FH} {K:Fc} {tg:Hq} (it:EK) (lo:Int) (n:Nat):Turn P w K tg (mq lo n) [it] it (fun i h=>IsRangeIter h it (lo+(i:Nat)*1) ((n:Int) - (i:Nat)) 1) where
 mem:=by simp
 obj:=fun i h st b hb=>by
  have e:b=it:=by simpa using hb
  subst e
  exact ⟨_,st,fun v z=>by
   have z':Data.fields _=Data.cell v:=z
   cases z'⟩
 keep:=fun i h h' st k=>k it (by simp) _ st
 item:=by
  intro X hP hw hK hc i pins s σ H E I hf st hg
  subst hP hw hK
  obtain ⟨f0,f1,f2,f3,f4,f5⟩:=hf it (by simp)
  have W:=Walks.range (prog:=X.prog) (w:=X.w) (I.ok.hd hc) it lo 1 n
  refine W.item i s _ _ hg st fun v h' tk hv st' kk=>?_
  obtain ⟨t,rfl⟩:=hv
  have I1:Inv X pins σ H { s with heap:=h',toks:=tk }:=I.turned (fun b o hb e=>kk b o (by simpa using hb) e) f0 f1 f3 f4 f5
  refine ⟨_,rfl,xG (s:={ s with heap:=h',toks:=tk }) (n:="range_iterator") st' rfl rfl (by decide) ⟨.int (lo+i),H,I1,⟨t,?_⟩,⟨rfl,rfl⟩,st',fun b hb=>(hf b hb).1⟩⟩
  rw [Int.mul_one]
 done:=by
  intro X hP hw hK hc i pins s σ H E I hf st hg
  subst hP hw hK
  obtain ⟨f0,f1,f2,f3,f4,f5⟩:=hf it (by simp)
  exact wpAny_pyNext_range_end (I.ok.hd hc) st (by have:n<=i:=hg; lia) fun h' eb=>⟨rfl,I.turned (t':=s.toks) (fun b o hb e=>eb b o hb e) f0 f1 f3 f4 f5⟩
 self:=fun _ _ _ _ _ st h=>wpAny_pyIter_rangeiter st h
end L2
namespace L2
open PySem PySem.Spec PyProof.Rows
section
variable {X:Cx} {tg:Hq}
noncomputable def C6 (K:Fc) (tl:TE):TI:=fun σ H R=>tl σ H fun x H1=>∃ a,x = .ref a/\(∃ xs,aj K H1 a xs)/\R (mY K a) H1
theorem aN {l:Hq} {tl:TE} (hl:PE X l tl):PI X tg l (C6 X.K tl):=by
 intro pins s σ H R I h
 refine aG (hl pins s σ H _ I h) fun v s1 ⟨x,H1,I1,r1,q1⟩=>?_
 obtain ⟨a,e,⟨xs,hq⟩,q⟩:=q1
 subst e
 cases r1
 obtain ⟨its,rv,p,hz⟩:=I1.list hq
 refine J4 p.isList ?_
 refine ⟨s1.heap.objs.size,[s1.heap.objs.size],_,_,H1,rfl,I1.kept (t':=s1.toks) fun b o e=>EB _ e,tI a _,⟨_,Fd _ rfl,rfl,rfl⟩,fun b hb=>?_,q⟩
 have e:b=s1.heap.objs.size:=by simpa using hb
 subst e
 exact I1.fpOk (EF _) (I1.hok.fresh (EF _))
theorem vO {pins:List (EK × Obj)} {σ:St} {H:Hp} {s:Ez} {R:It->Hp->Prop} {E:Ey->Ez->Prop} {lo hi:Int} {t u v:Tok} {tk:Nat} (I:Inv X pins σ H s) (h1 : -(2 ^ 62)<=lo) (h2:lo < 2 ^ 62) (h3 : -(2 ^ 62)<=hi) (h4:hi < 2 ^ 62)
  (q:R (mq lo (hi - lo).toNat) H):wpAny (model X.prog X.w) X.A (pyIter (.ref s.heap.objs.size)) (Dq X pins σ tg R) E { s with heap:=s.heap.push { cls:=.type "range",data:=.fields #[.int lo t,.int hi u,.int 1 v] },toks:=tk }:=by
 refine wpAny_pyIter_range (IsRange.new ..) (small_one h1 h2 h3 h4) ?_
 have I1:Inv X pins σ H { s with heap:=s.heap.push { cls:=.type "range",data:=.fields #[.int lo t,.int hi u,.int 1 v] },toks:=tk }:=I.kept fun b o e=>EB _ e
 refine ⟨(s.heap.push { cls:=.type "range",data:=.fields #[.int lo t,.int hi u,.int 1 v] }).objs.size,[(s.heap.push { cls:=.type "range",data:=.fields #[.int lo t,.int hi u,.int 1 v] }).objs.size],_,_,H,rfl,
  I1.kept (t':=tk) fun b o e=>EB _ e,r8 _ lo (hi - lo).toNat,?_,fun b hb=>?_,q⟩
 ·have e1:lo+((0:Nat):Int)*1=lo:=by simp
  have e2:(((hi - lo).toNat:Nat):Int) - ((0:Nat):Int)=Builtin.Range.rangeSize lo hi 1:=by rw [rangeSize_one]; split<;>lia
  show IsRangeIter _ _ (lo+((0:Nat):Int)*1) ((((hi - lo).toNat:Nat):Int) - ((0:Nat):Int)) 1
  rw [e1,e2]
  exact Fd _ rfl
 ·have e:b=(s.heap.push { cls:=.type "range",data:=.fields #[.int lo t,.int hi u,.int 1 v] }).objs.size:=by simpa using hb
  subst e
  exact I1.fpOk (EF _) (I1.hok.fresh (EF _))
noncomputable def Cq (ta:TA):TI:=fun σ H R=>ta σ H fun vs H1=>∃ j:Int,vs=[.int j]/\-(2 ^ 62)<=j/\j < 2 ^ 62/\R (mq 0 j.toNat) H1
theorem c9 {a:Hq} {ta:TA} {p pos:Pos} (hg:Gl X "range") (hm:X.mg "range" = none) (ha:PA X [a] ta) (hs:starEach [a] X.env=[(false,eval a X.env)]:=by rfl):PI X tg (.Call (.Name "range" p) [a] [] pos) (Cq ta):=by
 intro pins s σ H R I h
 refine Call_ (dM I hg hm boot_range (FX (aG (ha pos pins s σ H _ I h) fun us s1 ⟨vs,H1,I1,r1,q1⟩=>?_) hs rfl))
 obtain ⟨j,e,q1,q2,q⟩:=q1
 subst e
 cases r1 with
 | cons r rr =>
  cases rr
  obtain ⟨t,rfl⟩:=r
  exact call_range_1 (vO I1 (by lia) (by lia) q1 q2 (by simpa using q))
noncomputable def DV (wi:TI) (g:TG) (tb:TS):TS:=fun D σ H=>wi σ H fun J H1=>∃ W:Nat->Nat->St->Hp->Prop,(∃ m,W 0 m σ H1)/\∀ i m σ H,W i m σ H ->
 (J.stop i H/\D.nx σ H)\/(J.go i H/\∃ N:St->Hp->Prop,(∀ σ' H',N σ' H'->∃ m',m' < m/\W (i+1) m' σ' H')/\∀ x H',J.yld i H x H'->g x σ H' fun σ2 H2=>tb { D with nx:=N,ct:=N,bk:=D.nx } σ2 H2)
noncomputable def iL (fp:List EK) (h:GP):List (EK × Obj):=fp.filterMap fun b=>(h.get? b).map fun o=>(b,o)
theorem fY {fp:List EK} {h:GP} {b:EK} {o:Obj} (hb:b∈fp) (e:h.get? b=some o):(b,o)∈iL fp h:=JV.mpr ⟨b,hb,by rw [e]; rfl⟩
theorem tZ {fp:List EK} {h:GP} {p:EK × Obj} (hp:p∈iL fp h):p.1∈fp/\h.get? p.1=some p.2:=by
 obtain ⟨b,hb,e⟩:=JV.mp hp
 cases q:h.get? b with
 | none=>rw [q] at e; cases e
 | some o =>
  rw [q] at e
  have e':(b,o)=p:=FB e
  subst e'
  exact ⟨hb,q⟩
theorem Inv.pinned {pins:List (EK × Obj)} {σ:St} {H:Hp} {s:Ez} {fp:List EK} (I:Inv X pins σ H s) (hf:∀ b∈fp,jZ X pins H b) (ho:∀ b∈fp,∃ o,s.heap.get? b=some o/\∀ v,o.data≠.cell v):Inv X (pins++iL fp s.heap) σ H s :=
 I.pins_of fun p hp=>(EN.mp hp).elim (fun z=>I.pin p (FF _ z)) fun z=>by
  obtain ⟨hb,e⟩:=tZ z
  obtain ⟨f0,f1,f2,_⟩:=hf p.1 hb
  obtain ⟨o,e',d⟩:=ho p.1 hb
  rw [e] at e'; cases e'
  exact ⟨e,f0,f1,f2,d⟩
theorem Inv.unpinned {pins pl:List (EK × Obj)} {σ:St} {H:Hp} {s:Ez} (I:Inv X (pins++pl) σ H s):Inv X pins σ H s:=I.pins_of fun p hp=>I.pin p (FF _ (Gi _ hp))
theorem b7 {iter:Hq} {body:List HI} {wi:TI} {g:TG} {tb:TS} {pos:Pos} (hp:PassesOwn (model X.prog X.w) X.A X.env X.xe) (hc:X.calm=true) (hi:PI X tg iter wi) (hg:PG X tg g) (hb:fM X body tb)
  (hs:∀ x,foldedSetIterable iter X.env x=pure x:=by intro _; rfl):PS X (.For tg iter body [] pos) (DV wi g tb):=by
 intro pins s σ H D I h
 refine wpAny_For (aG (hi pins s σ H _ I h) fun v s1 h1=>aG h1 fun itv s2 h2=>?_) hs
 obtain ⟨it,fp,tn,J,H2,e,I2,T,st2,f2,W,⟨m0,w0⟩,turn⟩:=h2
 subst e
 -- what stays true of the iterator's objects through the loop
 have stat:∀ {H':Hp},(∀ b∈fp,H' b=none)->∀ b∈fp,jZ X pins H' b:=fun hn b hb=>⟨hn b hb,(f2 b hb).2⟩
 refine codeAny_forLoop_any (fun n s'=>∃ i σ' H',Inv X pins σ' H' s'/\tn i s'.heap/\(∀ b∈fp,H' b=none)/\W i n σ' H') ?_ m0 ⟨0,σ,H2,I2,st2,fun b hb=>(f2 b hb).1,w0⟩
 rintro n s3 ⟨i,σ3,H3,I3,st3,fr3,w3⟩
 rcases turn i n σ3 H3 w3 with ⟨stop,qn⟩ | ⟨go,N,hN,step⟩
 ·refine HL hp (aG (T.done X rfl rfl rfl hc i pins s3 σ3 H3 X.xe I3 (stat fr3) st3 stop) fun r s4 ⟨hr,I4⟩=>?_)
  subst hr
  exact Io ⟨σ3,H3,I4,qn⟩
 ·refine HL hp (aG (T.item X rfl rfl rfl hc i pins s3 σ3 H3 X.xe I3 (stat fr3) st3 go) fun r s4 ⟨u,hr,h4⟩=>?_)
  subst hr
  refine HL hp (aG h4 fun _ s5 ⟨x,H5,I5,r5,y5,st5,fr5⟩=>?_)
  have I5':=I5.pinned (stat fr5) (T.obj _ _ st5)
  refine HL hp (aG (hg _ s5 σ3 H5 x u _ I5' r5 (step x H5 y5)) fun _ s6 ⟨σ6,H6,I6,q6⟩=>?_)
  refine HL hp (aG (hb _ s6 σ6 H6 _ I6 q6) fun f s7 q7=>?_)
  have again:∀ {σ7:St} {H7:Hp},Inv X (pins++iL fp s5.heap) σ7 H7 s7->N σ7 H7->∃ m,m < n/\∃ i σ' H',Inv X pins σ' H' s7/\tn i s7.heap/\(∀ b∈fp,H' b=none)/\W i m σ' H':=fun {σ7 H7} I7 n7=>by
   obtain ⟨m',hm,w7⟩:=hN σ7 H7 n7
   refine ⟨m',hm,i+1,σ7,H7,I7.unpinned,T.keep _ _ _ st5 fun b hb o e=>(I7.pin (b,o) (FF _ (FF _ (fY hb e)))).1,fun b hb=>?_,w7⟩
   obtain ⟨o,e,d⟩:=T.obj _ _ st5 b hb
   exact (I7.pin (b,o) (FF _ (FF _ (fY hb e)))).2.1
  cases f with
  | next=>obtain ⟨σ7,H7,I7,n7⟩:=q7; exact again I7 n7
  | cont=>obtain ⟨σ7,H7,I7,n7⟩:=q7; exact again I7 n7
  | brk=>obtain ⟨σ7,H7,I7,q7⟩:=q7; exact ⟨σ7,H7,I7.unpinned,q7⟩
  | ret v=>obtain ⟨x7,σ7,H7,I7,r7,q7⟩:=q7; exact ⟨x7,σ7,H7,I7.unpinned,r7,q7⟩
end
theorem bQ {K:Fc} {a:EK} {xs:List V} {g:TG} {tb:TS} {D:Ends} {σ:St} {H:Hp} (Pv:Nat->St->Hp->Prop) (h0:Pv 0 σ H) (hl:∀ i σ H,i<=xs.length->Pv i σ H->aj K H a xs)
  (hs:∀ i x σ H,xs[i]? = some x->Pv i σ H->g x σ H fun σ2 H2=>tb { D with nx:=Pv (i+1),ct:=Pv (i+1),bk:=D.nx } σ2 H2) (hd:∀ σ H,Pv xs.length σ H->D.nx σ H) :
  ∃ W:Nat->Nat->St->Hp->Prop,(∃ m,W 0 m σ H)/\∀ i m σ H,W i m σ H ->
   ((mY K a).stop i H/\D.nx σ H)\/((mY K a).go i H/\∃ N:St->Hp->Prop,(∀ σ' H',N σ' H'->∃ m',m' < m/\W (i+1) m' σ' H')/\∀ x H',(mY K a).yld i H x H'->g x σ H' fun σ2 H2=>tb { D with nx:=N,ct:=N,bk:=D.nx } σ2 H2):=by
 refine ⟨fun i m σ H=>m=xs.length - i/\i<=xs.length/\Pv i σ H,⟨xs.length,by simp,EU _,h0⟩,?_⟩
 rintro i m σ H ⟨rfl,hi,p⟩
 have q:=hl i σ H hi p
 by_cases hlt:i < xs.length
 ·refine .inr ⟨⟨xs,xs[i],q,by simp [hlt]⟩,Pv (i+1),fun σ' H' p'=>⟨xs.length - (i+1),by lia,rfl,hlt,p'⟩,fun x H' y=>?_⟩
  obtain ⟨e,y⟩:=y
  subst e
  exact hs i x σ _ (y xs q) p
 ·have e:i=xs.length:=by lia
  subst e
  exact .inl ⟨⟨xs,q,EF _⟩,hd σ H p⟩
theorem gF {lo:Int} {n:Nat} {g:TG} {tb:TS} {D:Ends} {σ:St} {H:Hp} (Pv:Nat->St->Hp->Prop) (h0:Pv 0 σ H)
  (hs:∀ i σ H,i < n->Pv i σ H->g (.int (lo+i)) σ H fun σ2 H2=>tb { D with nx:=Pv (i+1),ct:=Pv (i+1),bk:=D.nx } σ2 H2) (hd:∀ σ H,Pv n σ H->D.nx σ H) :
  ∃ W:Nat->Nat->St->Hp->Prop,(∃ m,W 0 m σ H)/\∀ i m σ H,W i m σ H ->
   ((mq lo n).stop i H/\D.nx σ H)\/((mq lo n).go i H/\∃ N:St->Hp->Prop,(∀ σ' H',N σ' H'->∃ m',m' < m/\W (i+1) m' σ' H')/\∀ x H',(mq lo n).yld i H x H'->g x σ H' fun σ2 H2=>tb { D with nx:=N,ct:=N,bk:=D.nx } σ2 H2):=by
 refine ⟨fun i m σ H=>m=n - i/\i<=n/\Pv i σ H,⟨n,by simp,EU _,h0⟩,?_⟩
 rintro i m σ H ⟨rfl,hi,p⟩
 by_cases hlt:i < n
 ·refine .inr ⟨hlt,Pv (i+1),fun σ' H' p'=>⟨n - (i+1),by lia,rfl,hlt,p'⟩,fun x H' y=>?_⟩
  obtain ⟨e,y⟩:=y
  subst e y
  exact hs i σ _ hlt p
 ·have e:i=n:=by lia
  subst e
  exact .inl ⟨EF _,hd σ H p⟩
end L2
namespace L2
open PySem PySem.Spec PyProof.Rows
noncomputable abbrev R2:=V->V->Hp->VK->Prop
def cJ (X:Cx) (f:Ey->Ey->Sem Ey) (r:R2):Prop :=
 ∀ (pins:List (EK × Obj)) (s:Ez) (σ:St) (H:Hp) (x y:V) (v u:Ey) (Q:VK),Inv X pins σ H s->RelV x v->RelV y u->r x y H Q ->
  wpAny (model X.prog X.w) X.A (f v u) (EP X pins σ Q) X.xe s
def Aw (X:Cx) (f:Ey->Sem Ey) (r:V->Hp->VK->Prop):Prop :=
 ∀ (pins:List (EK × Obj)) (s:Ez) (σ:St) (H:Hp) (x:V) (v:Ey) (Q:VK),Inv X pins σ H s->RelV x v->r x H Q ->
  wpAny (model X.prog X.w) X.A (f v) (EP X pins σ Q) X.xe s
def cQ (X:Cx) (f:Ey) (r:List V->Hp->VK->Prop):Prop :=
 ∀ (pins:List (EK × Obj)) (s:Ez) (σ:St) (H:Hp) (xs:List V) (us:List Ey) (Q:VK),Inv X pins σ H s->Vals xs us->r xs H Q ->
  wpAny (model X.prog X.w) X.A (call f us) (EP X pins σ Q) X.xe s
noncomputable def xw (r:R2) (ta tb:TE):TE:=fun σ H Q=>ta σ H fun x H1=>tb σ H1 fun y H2=>r x y H2 Q
noncomputable def Ea (r:V->Hp->VK->Prop) (ta:TE):TE:=fun σ H Q=>ta σ H fun x H1=>r x H1 Q
noncomputable def rI (C:Int->Int->Prop) (g:Int->Int->V):R2:=fun x y H Q=>∃ i j,x = .int i/\y = .int j/\C i j/\Q (g i j) H
noncomputable def lS (g:Int->Int->V):R2:=fun x y H Q=>∃ i j,x = .int i/\y = .int j/\Q (g i j) H
noncomputable def rU (g:Int->V):V->Hp->VK->Prop:=fun x H Q=>∃ i,x = .int i/\Q (g i) H
section
variable {X:Cx} {a b c:Hq} {ta tb tc:TE} {pos:Pos}
theorem vt (ha:PE X a ta) (hb:PE X b tb) {pins:List (EK × Obj)} {s:Ez} {σ:St} {H:Hp} {R:V->V->Hp->Prop} (I:Inv X pins σ H s)
  (h:ta σ H fun x H1=>tb σ H1 fun y H2=>R x y H2) {Q:Ey->Ez->Prop} {f:Ey->Ey->Sem Ey}
  (hf:∀ v u s2 x y H2,Inv X pins σ H2 s2->RelV x v->RelV y u->R x y H2->wpAny (model X.prog X.w) X.A (f v u) Q X.xe s2) :
  wpAny (model X.prog X.w) X.A (eval a X.env) (fun v s₁=>wpAny (model X.prog X.w) X.A (eval b X.env) (fun u s₂=>wpAny (model X.prog X.w) X.A (f v u) Q X.xe s₂) X.xe s₁) X.xe s:=by
 refine aG (ha pins s σ H _ I h) fun v s1 ⟨x,H1,I1,r1,q1⟩=>?_
 refine aG (hb pins s1 σ H1 _ I1 q1) fun u s2 ⟨y,H2,I2,r2,q2⟩=>?_
 exact hf v u s2 x y H2 I2 r1 r2 q2
theorem ao {op:Operator} {r:R2} (ho:cJ X (binaryOp op) r) (ha:PE X a ta) (hb:PE X b tb):PE X (.BinOp a op b pos) (xw r ta tb):=by
 intro pins s σ H Q I h
 exact wpAny_BinOp (vt ha hb I h fun v u s2 x y H2 I2 rx ry q=>ho pins s2 σ H2 x y v u Q I2 rx ry q)
theorem e7 {op:UnaryOp} {r:V->Hp->VK->Prop} (ho:Aw X (unaryOp op) r) (ha:PE X a ta):PE X (.UnaryOp op a pos) (Ea r ta):=by
 intro pins s σ H Q I h
 exact UnaryOp_ (aG (ha pins s σ H _ I h) fun v s1 ⟨x,H1,I1,r1,q1⟩=>ho pins s1 σ H1 x v Q I1 r1 q1)
theorem w8 {f:Ey->Ey->Sem Ey} {C:Int->Int->Prop} {g:Int->Int->Int}
  (rule:∀ (i j:Int) (t u:Tok) (s:Ez) (Q:Ey->Ez->Prop) (E:Ey->Ez->Prop),C i j->Q (.int (g i j) s.toks) { s with toks:=s.toks+1 }->wpAny (model X.prog X.w) X.A (f (.int i t) (.int j u)) Q E s) :
  cJ X f (rI C fun i j=>.int (g i j)):=by
 intro pins s σ H x y v u Q I rx ry h
 obtain ⟨i,j,rfl,rfl,hc,q⟩:=h
 obtain ⟨t,rfl⟩:=rx
 obtain ⟨t',rfl⟩:=ry
 exact rule i j t t' s _ _ hc ⟨.int (g i j),H,I.tok _,⟨_,rfl⟩,q⟩
theorem BD {f:Ey->Ey->Sem Ey} {g:Int->Int->Int}
  (rule:∀ (i j:Int) (t u:Tok) (s:Ez) (Q:Ey->Ez->Prop) (E:Ey->Ez->Prop),Q (.int (g i j) s.toks) { s with toks:=s.toks+1 }->wpAny (model X.prog X.w) X.A (f (.int i t) (.int j u)) Q E s) :
  cJ X f (lS fun i j=>.int (g i j)):=by
 intro pins s σ H x y v u Q I rx ry h
 obtain ⟨i,j,rfl,rfl,q⟩:=h
 obtain ⟨t,rfl⟩:=rx
 obtain ⟨t',rfl⟩:=ry
 exact rule i j t t' s _ _ ⟨.int (g i j),H,I.tok _,⟨_,rfl⟩,q⟩
theorem qR {f:Ey->Ey->Sem Ey} {g:Int->Int->Bool}
  (rule:∀ (i j:Int) (t u:Tok) (s:Ez) (Q:Ey->Ez->Prop) (E:Ey->Ez->Prop),Q (.bool (g i j)) s->wpAny (model X.prog X.w) X.A (f (.int i t) (.int j u)) Q E s) :
  cJ X f (lS fun i j=>.bl (g i j)):=by
 intro pins s σ H x y v u Q I rx ry h
 obtain ⟨i,j,rfl,rfl,q⟩:=h
 obtain ⟨t,rfl⟩:=rx
 obtain ⟨t',rfl⟩:=ry
 exact rule i j t t' s _ _ ⟨.bl (g i j),H,I,rfl,q⟩
def DX (i j:Int):Prop:=0<=j/\j<=1000000/\i.natAbs < 2 ^ 64
def lr (i j:Int):Prop:=(-(2 ^ 64) < i/\i < 2 ^ 64)\/(-(2 ^ 64) < j/\j < 2 ^ 64)
theorem lr.ok {i j:Int} (h:lr i j):IntMulOk i j:=by
 rcases h with ⟨h1,h2⟩ | ⟨h1,h2⟩
 ·exact .of_left (intBits_le_64 h1 h2)
 ·exact .of_right (intBits_le_64 h1 h2)
theorem aB:cJ X (binaryOp .Add) (lS fun i j=>.int (i+j)):=BD fun _ _ _ _ _ _ _ q=>add_int q
theorem bh:cJ X (binaryOp .Sub) (lS fun i j=>.int (i - j)):=BD fun _ _ _ _ _ _ _ q=>sub_int q
theorem cx:cJ X (binaryOp .Mult) (rI lr fun i j=>.int (i*j)):=w8 fun _ _ _ _ _ _ _ hc q=>mul_int q hc.ok
theorem eh:cJ X (binaryOp .Mod) (rI (fun _ j=>0 < j) fun i j=>.int (i % j)):=w8 fun i j _ _ _ _ _ hc q=>by
 have h1:(0:Int) < j:=hc
 exact mod_int' (by lia) (by rw [Int.fmod_eq_emod_of_nonneg i (by lia)]; exact q)
theorem zd:cJ X (binaryOp .Pow) (rI DX fun i j=>.int (i ^ j.toNat)):=w8 fun _ _ _ _ _ _ _ hc q=>pow_int_small hc.1 hc.2.1 hc.2.2 q
theorem Ei {f:Ey->Sem Ey} {g:Int->Int}
  (rule:∀ (i:Int) (t:Tok) (s:Ez) (Q:Ey->Ez->Prop) (E:Ey->Ez->Prop),Q (.int (g i) s.toks) { s with toks:=s.toks+1 }->wpAny (model X.prog X.w) X.A (f (.int i t)) Q E s) :
  Aw X f (rU fun i=>.int (g i)):=by
 intro pins s σ H x v Q I rx h
 obtain ⟨i,rfl,q⟩:=h
 obtain ⟨t,rfl⟩:=rx
 exact rule i t s _ _ ⟨.int (g i),H,I.tok _,⟨_,rfl⟩,q⟩
theorem dJ:Aw X (unaryOp .USub) (rU fun i=>.int (-i)):=Ei fun _ _ _ _ _ q=>neg_int q
end
noncomputable def Bh:V->V->Bool
 | .non,.non=>true | .non,.int _=>true | .int _,.non=>true | .non,.bl _=>true | .bl _,.non=>true | .non,.str _=>true | .str _,.non=>true
 | .int _,.int _=>true | .bl _,.bl _=>true | .str _,.str _=>true | .byt _,.byt _=>true
 | .int _,.str _=>true | .str _,.int _=>true | .bl _,.str _=>true | .str _,.bl _=>true
 | _,_=>false
noncomputable def Ed:R2:=fun x y H Q=>Bh x y=true/\Q (.bl (decide (x=y))) H
noncomputable def Es:R2:=fun x y H Q=>Bh x y=true/\Q (.bl (!decide (x=y))) H
theorem lH {i j:Int}:decide (V.int i=V.int j)=(i == j):=by
 rw [Gr]
 simp
theorem uY {i j:Bool}:decide (V.bl i=V.bl j)=(i == j):=by
 rw [Gr]
 simp
theorem p8 {i j:Str}:decide (V.str i=V.str j)=(i == j):=by
 rw [Gr]
 simp
theorem qB {i j:Array UInt8}:decide (V.byt i=V.byt j)=(i.toList == j.toList):=by
 rw [Gr]
 cases i
 cases j
 simp
section
variable {X:Cx} {a b c:Hq} {ta tb tc:TE} {pos:Pos}
theorem aU {pins:List (EK × Obj)} {σ:St} {H:Hp} {s:Ez} {Q:VK} {k k':Bool} (I:Inv X pins σ H s) (q:Q (.bl k) H) (e:k=k'):EP X pins σ Q (.bool k') s:=by
 subst e
 exact ⟨.bl k,H,I,rfl,q⟩
theorem b9:cJ X (compareOp .Eq) Ed:=by
 intro pins s σ H x y v u Q I rx ry h
 obtain ⟨hs,q⟩:=h
 cases x with
 | non =>
  cases rx
  cases y with
  | non=>cases ry; exact PySem.EqNone.eq_none_none (aU I q (by simp))
  | bl j=>cases ry; exact PySem.EqNone.eq_none_bool (aU I q (by simp))
  | int j=>obtain ⟨t',rfl⟩:=ry; exact PySem.EqNone.eq_none_int (aU I q (by simp))
  | str j=>obtain ⟨t',rfl⟩:=ry; exact PySem.EqNone.eq_none_str (aU I q (by simp))
  | _=>exact absurd (show false=true from hs) Fl
 | bl i =>
  cases rx
  cases y with
  | non=>cases ry; exact PySem.EqNone.eq_bool_none (aU I q (by simp))
  | bl j=>cases ry; exact eq_bool (aU I q uY)
  | str j=>obtain ⟨t',rfl⟩:=ry; exact PySem.EqMixed.eq_bool_str (aU I q (by simp))
  | _=>exact absurd (show false=true from hs) Fl
 | int i =>
  obtain ⟨t,rfl⟩:=rx
  cases y with
  | non=>cases ry; exact PySem.EqNone.eq_int_none (aU I q (by simp))
  | int j=>obtain ⟨t',rfl⟩:=ry; exact eq_int (aU I q lH)
  | str j=>obtain ⟨t',rfl⟩:=ry; exact PySem.EqMixed.eq_int_str (aU I q (by simp))
  | _=>exact absurd (show false=true from hs) Fl
 | str i =>
  obtain ⟨t,rfl⟩:=rx
  cases y with
  | non=>cases ry; exact PySem.EqNone.eq_str_none (aU I q (by simp))
  | bl j=>cases ry; exact PySem.EqMixed.eq_str_bool (aU I q (by simp))
  | int j=>obtain ⟨t',rfl⟩:=ry; exact PySem.EqMixed.eq_str_int (aU I q (by simp))
  | str j=>obtain ⟨t',rfl⟩:=ry; exact eq_str (aU I q p8)
  | _=>exact absurd (show false=true from hs) Fl
 | byt i =>
  obtain ⟨t,rfl⟩:=rx
  cases y with
  | byt j=>obtain ⟨t',rfl⟩:=ry; exact PySem.W.eq_bytes (aU I q qB)
  | _=>exact absurd (show false=true from hs) Fl
 | _=>cases y<;>exact absurd (show false=true from hs) Fl
theorem sF:cJ X (compareOp .NotEq) Es:=by
 intro pins s σ H x y v u Q I rx ry h
 obtain ⟨hs,q⟩:=h
 cases x with
 | non =>
  cases rx
  cases y with
  | non=>cases ry; exact PySem.EqNone.ne_none_none (aU I q (by simp))
  | bl j=>cases ry; exact PySem.EqNone.ne_none_bool (aU I q (by simp))
  | int j=>obtain ⟨t',rfl⟩:=ry; exact PySem.EqNone.ne_none_int (aU I q (by simp))
  | str j=>obtain ⟨t',rfl⟩:=ry; exact PySem.EqNone.ne_none_str (aU I q (by simp))
  | _=>exact absurd (show false=true from hs) Fl
 | bl i =>
  cases rx
  cases y with
  | non=>cases ry; exact PySem.EqNone.ne_bool_none (aU I q (by simp))
  | bl j=>cases ry; exact ne_bool (aU I q (congrArg not uY))
  | str j=>obtain ⟨t',rfl⟩:=ry; exact PySem.EqMixed.ne_bool_str (aU I q (by simp))
  | _=>exact absurd (show false=true from hs) Fl
 | int i =>
  obtain ⟨t,rfl⟩:=rx
  cases y with
  | non=>cases ry; exact PySem.EqNone.ne_int_none (aU I q (by simp))
  | int j=>obtain ⟨t',rfl⟩:=ry; exact ne_int (aU I q (congrArg not lH))
  | str j=>obtain ⟨t',rfl⟩:=ry; exact PySem.EqMixed.ne_int_str (aU I q (by simp))
  | _=>exact absurd (show false=true from hs) Fl
 | str i =>
  obtain ⟨t,rfl⟩:=rx
  cases y with
  | non=>cases ry; exact PySem.EqNone.ne_str_none (aU I q (by simp))
  | bl j=>cases ry; exact PySem.EqMixed.ne_str_bool (aU I q (by simp))
  | int j=>obtain ⟨t',rfl⟩:=ry; exact PySem.EqMixed.ne_str_int (aU I q (by simp))
  | str j=>obtain ⟨t',rfl⟩:=ry; exact ne_str (aU I q (congrArg not p8))
  | _=>exact absurd (show false=true from hs) Fl
 | byt i =>
  obtain ⟨t,rfl⟩:=rx
  cases y with
  | byt j=>obtain ⟨t',rfl⟩:=ry; exact PySem.W.ne_bytes (aU I q (congrArg not qB))
  | _=>exact absurd (show false=true from hs) Fl
 | _=>cases y<;>exact absurd (show false=true from hs) Fl
theorem eU:cJ X (compareOp .Lt) (lS fun i j=>.bl (decide (i < j))):=qR fun _ _ _ _ _ _ _ q=>lt_int q
theorem rZ:cJ X (compareOp .LtE) (lS fun i j=>.bl (decide (i<=j))):=qR fun _ _ _ _ _ _ _ q=>le_int q
theorem iA:cJ X (compareOp .Gt) (lS fun i j=>.bl (decide (j < i))):=qR fun _ _ _ _ _ _ _ q=>gt_int q
theorem xi:cJ X (compareOp .GtE) (lS fun i j=>.bl (decide (j<=i))):=qR fun _ _ _ _ _ _ _ q=>ge_int q
theorem aC (b:Hq) {op:CmpOp} (h:op≠.In:=by decide) (h2:op≠.NotIn:=by decide):behindInMarks op b=false:=by
 have e1:(op == CmpOp.In)=false:=by cases op<;>first | rfl | exact absurd rfl h
 have e2:(op == CmpOp.NotIn)=false:=by cases op<;>first | rfl | exact absurd rfl h2
 cases b<;>simp [behindInMarks,e1,e2]
theorem fh {op:CmpOp} {r:R2} (ho:cJ X (compareOp op) r) (ha:PE X a ta) (hb:PE X b tb) (hm:behindInMarks op b=false):PE X (.Compare a [op] [b] pos) (xw r ta tb):=by
 intro pins s σ H Q I h
 exact wpAny_Compare1 (vt ha hb I h fun v u s2 x y H2 I2 rx ry q=>ho pins s2 σ H2 x y v u Q I2 rx ry q) hm
noncomputable def xD (t:TE):TT:=fun σ H Q=>t σ H fun x H'=>∃ k,x = .bl k/\Q k H'
theorem aA {op:CmpOp} {r:R2} (ho:cJ X (compareOp op) r) (ha:PE X a ta) (hb:PE X b tb) (hm:behindInMarks op b=false):PT X (.Compare a [op] [b] pos) (xD (xw r ta tb)):=by
 intro pins s σ H Q I h
 refine wpAny_isTrue_Compare1 (aG (ha pins s σ H _ I h) fun v s1 ⟨x,H1,I1,r1,q1⟩=>aG (hb pins s1 σ H1 _ I1 q1) fun u s2 ⟨y,H2,I2,r2,q2⟩ =>
  aG (ho pins s2 σ H2 x y v u _ I2 r1 r2 q2) fun c s3 ⟨z,H3,I3,r3,k,e,q3⟩=>?_) hm
 subst e
 cases r3
 exact FW ⟨H3,I3,q3⟩
noncomputable def zP (r r':R2) (ta tb tc:TE):TE:=fun σ H Q=>ta σ H fun x H1=>tb σ H1 fun y H2=>r x y H2 fun z H3=>∃ k,z = .bl k /\
 (if k=true then tc σ H3 fun w' H4=>r' y w' H4 Q else Q (.bl false) H3)
theorem vh {op op':CmpOp} {r r':R2} (ho:cJ X (compareOp op) r) (ho':cJ X (compareOp op') r') (ha:PE X a ta) (hb:PE X b tb) (hc:PE X c tc)
  (hm:lastMarks [op,op'] [b,c]=false:=by with_unfolding_all rfl):PE X (.Compare a [op,op'] [b,c] pos) (zP r r' ta tb tc):=by
 intro pins s σ H Q I h
 refine Compare_chain (aG (ha pins s σ H _ I h) fun v s1 ⟨x,H1,I1,r1,q1⟩=>chain_link (aG (hb pins s1 σ H1 _ I1 q1) fun u s2 ⟨y,H2,I2,r2,q2⟩ =>
  aG (ho pins s2 σ H2 x y v u _ I2 r1 r2 q2) fun d s3 ⟨z,H3,I3,r3,k,e,q3⟩=>?_)) hm
 subst e
 cases r3
 refine FW ?_
 cases k with
 | false=>exact ite_ff ⟨.bl false,H3,I3,rfl,q3⟩
 | true=>exact ite_tt (chain_last (aG (hc pins s3 σ H3 _ I3 q3) fun w' s4 ⟨z',H4,I4,r4,q4⟩=>ho' pins s4 σ H4 y z' u w' Q I4 r2 r4 q4))
theorem iS:(sizeLine:Nat) < 2 ^ 63:=by rw [Gk]; decide
theorem vals1 {x:V} {us:List Ey} (r:Vals [x] us):∃ u,us=[u]/\RelV x u:=by
 cases r with
 | cons r1 r2=>cases r2; exact ⟨_,rfl,r1⟩
theorem vals2 {x y:V} {us:List Ey} (r:Vals [x,y] us):∃ u w',us=[u,w']/\RelV x u/\RelV y w':=by
 cases r with
 | cons r1 r2 =>
  cases r2 with
  | cons r3 r4=>cases r4; exact ⟨_,_,rfl,r1,r3⟩
theorem mz (hc:X.calm=true):cQ X (.builtin "max") (fun xs H Q=>∃ i j,xs=[.int i,.int j]/\Q (.int (if j > i then j else i)) H):=by
 intro pins s σ H xs us Q I r h
 obtain ⟨i,j,rfl,q⟩:=h
 obtain ⟨u,w',rfl,⟨t,rfl⟩,⟨t',rfl⟩⟩:=vals2 r
 refine max_two_ints (I.ok.hd hc) fun h' tk k=>⟨_,H,I.kept k,?_,q⟩
 by_cases hj:j > i
 ·rw [if_pos hj,if_pos hj]; exact ⟨_,rfl⟩
 ·rw [if_neg hj,if_neg hj]; exact ⟨_,rfl⟩
theorem uE:cQ X (.type "int") (fun xs H Q=>(∃ i,xs=[.int i]/\Q (.int i) H)\/∃ k,xs=[.bl k]/\Q (.int (if k then 1 else 0)) H):=by
 intro pins s σ H xs us Q I r h
 rcases h with ⟨i,rfl,q⟩ | ⟨k,rfl,q⟩
 ·obtain ⟨u,rfl,t,rfl⟩:=vals1 r
  exact call_int_int ⟨.int i,H,I,⟨_,rfl⟩,q⟩
 ·obtain ⟨u,rfl,r1⟩:=vals1 r
  cases r1
  exact call_int_bool ⟨.int (if k then 1 else 0),H,I.tok _,⟨_,rfl⟩,q⟩
end
end L2
namespace L2
open PySem PySem.Spec PyProof.Rows
structure k8 (h:GP) (x dx C:EK) (mA:Str->Option Ey):Prop where
 obj:h.get? x=some (Hj C dx)
 ns:h.Ns1 dx mA
 ne:dx≠x
theorem ur {h:GP} {dx:EK} {mA:Str->Option Ey} (n:h.Ns1 dx mA):∃ od,h.get? dx=some od/\∀ name,JY name od=some (mA name):=by
 obtain ⟨o,es,ep,ho,hd,hk,_,hm⟩:=n
 refine ⟨o,ho,fun name=>?_⟩
 have e:=hm name
 unfold nsFind findBy at e
 rw [<- Array.find?_toList] at e
 unfold JY
 rw [hd]
 dsimp only
 split
 ·rename_i y q
  rw [q] at e
  exact congrArg some e
 ·rename_i q
  rw [q] at e
  have a:es.toList.any (·.refKey)=false:=by
   rw [Je]
   intro y hy
   obtain ⟨z,t,hkey⟩:=hk y (HJ.mp hy)
   simp [DictEntry.refKey,hkey]
  have a':¬ es.toList.any (·.refKey)=true:=by rw [a]; exact Fl
  rw [if_neg a']
  exact congrArg some e
theorem k8.look {h:GP} {x dx C:EK} {mA:Str->Option Ey} (I:k8 h x dx C mA):∃ od,PySem.W.InstAt h x (Hj C dx) C (some od)/\∀ name,JY name od=some (mA name) :=
 let ⟨od,ho,hl⟩:=ur I.ns
 ⟨od,⟨I.obj,rfl,rfl,ho⟩,hl⟩
section
variable {prog:Fm} {w:FH} {A:FE} {E:Ey->Ez->Prop} {s:Ez} {K:Fc} {x dx C f:EK} {mA:Str->Option Ey} {name:Str} {v:Ey}
theorem vF {pl:Sem Bool} {Q:Ey × List Ey->Ez->Prop} (X:K.In s.heap) (I:k8 s.heap x dx C mA) (hg:Kv K C name=true)
  (hf:Hh K (.ref C) name=some (some (.ref f))) (ht:Lr K (.ref f)=true) (hv:mA name=none) (h:Q (.ref f,[.ref x]) s) :
  wpAny (model prog w) A (getMethod (.ref x) name pl) Q E s:=by
 obtain ⟨od,J,hl⟩:=I.look
 exact PySem.W.method_fn X J (K6 hg).1 (K6 hg).2 hf (beq_iff_eq.mp ht) (by show (JY name od).map (·.isSome)=some false; rw [hl,hv]; rfl) h
theorem xM {ns:List Str} {Q:Unit->Ez->Prop} (X:K.In s.heap) (I:k8 s.heap x dx C mA)
  (hs:Hh K (.ref C) "__setattr__" = some (some (.builtin "object.__setattr__"))) (hp:PySem.W.plainOver K C=true) (ht:KJ K C name=some none) (hh:PySem.W.hasDictIn K C=true)
  (hw:Lq mA ns) (hsz:ns.length<=sizeLine)
  (h:∀ h',k8 h' x dx C (fun y=>if y=name then some v else mA y)->IT dx s.heap h'->Q () { s with heap:=h',toks:=s.toks+2 }) :
  wpAny (model prog w) A (setAttr (.ref x) name v) Q E s:=by
 obtain ⟨od,J,hl⟩:=I.look
 refine PySem.W.set_plain X J hs (PySem.W.osa_open (s:={ s with toks:=s.toks+1 }) (r:=none) X J hp ht fun b=>?_)
 obtain ⟨cd,hc,hd'⟩:=PySem.W.any_some hh
 have hx:s.heap.get? x=some ⟨.ref C,some dx,.plain,#[]⟩:=I.obj
 refine mo (EE (mo (mo (wpAny_loadPart hx (mo (PySem.W.Looks.here (s:={ s with toks:=s.toks+1 }) (PySem.W.looks_clsIn X hc) ?_))))))
 rw [hd']
 refine EE (a:=some dx) (mo (EE (mo ?_)))
 refine wpAny_nsSet1 (s:={ s with toks:=s.toks+1 }) I.ns fun h' hn2 hs2=>?_
 obtain ⟨oD,esD,epD,hoD,hdD,hcD⟩:=hn2.count (PySem.Within.cons name v hw)
 refine mo (wpAny_lookBehind hoD (by rw [hdD]; exact pastItsLine_dict (FN hcD (by rw [Fb]; lia))) ?_)
 exact EE (h _ ⟨(hs2.2 _ (G4 I.ne)).trans I.obj,hn2,I.ne⟩ hs2)
theorem vG {R:Result->Ez->Prop} {vs:List Ey} {kw:List (Str × Ey)} (X:K.In s.heap) (hm:PySem.W.makesIn K C=true)
  (hi:Hh K (.ref C) "__init__" = some (some (.ref f))) (hf:PySem.W.typeIn K (.ref f)=some (.type "function"))
  (h:codeAny (model prog w) (A.under (.builtin "type.__call__" ⟨.ref C::vs,kw⟩)) (.call (.ref f) ⟨.ref (s.heap.objs.size+1)::vs,kw⟩) (PySem.W.InitBack (s.heap.objs.size+1) R)
   { s with heap:=(s.heap.push GK).push (Hj C s.heap.objs.size) }) :
  codeAny (model prog w) A (.call (.ref C) ⟨vs,kw⟩) R s:=by
 obtain ⟨hh,g,d,t,os⟩:=s
 exact PySem.W.make_core (PySem.W.makes_of X hm) (PySem.W.looks_findIn X hi) (fun self=>PySem.W.bind_fn X self hf) (.inl rfl) h
end
noncomputable def dE (f:Str) (v:V):List (Str × V)->List (Str × V)
 | []=>[(f,v)]
 | (g,x)::r=>if g=f then (g,v)::r else (g,x)::dE f v r
theorem cL (f g:Str) (v:V):∀ fs:List (Str × V),(dE f v fs).lookup g=if g=f then some v else fs.lookup g
 | []=>by
  show Jf g [(f,v)]=_
  by_cases h:g=f
  ·have hb:(g == f)=true:=beq_iff_eq.mpr h
   simp only [Jf,hb,if_pos h]
  ·have hb:(g == f)=false:=beq_eq_false_iff_ne.mpr h
   simp only [Jf,hb,if_neg h]
 | (k,x)::r=>by
  have ih:=cL f g v r
  rw [show dE f v ((k,x)::r)=(if k=f then (k,v)::r else (k,x)::dE f v r) from rfl]
  by_cases hk:k=f
  ·rw [if_pos hk]
   by_cases h:g=k
   ·have hb:(g == k)=true:=beq_iff_eq.mpr h
    simp only [Jf,hb,if_pos (h.trans hk)]
   ·have hb:(g == k)=false:=beq_eq_false_iff_ne.mpr h
    simp only [Jf,hb,if_neg (fun e:g=f=>h (e.trans hk.symm))]
  ·rw [if_neg hk]
   by_cases h:g=k
   ·have hb:(g == k)=true:=beq_iff_eq.mpr h
    simp only [Jf,hb,if_neg (fun e:g=f=>hk (h.symm.trans e))]
   ·have hb:(g == k)=false:=beq_eq_false_iff_ne.mpr h
    simp only [Jf,hb]
    exact ih
theorem i4 (f:Str) (v:V):∀ fs:List (Str × V),f∈(dE f v fs).map (·.1)/\∀ g,g∈fs.map (·.1)->g∈(dE f v fs).map (·.1)
 | []=>⟨by simp [dE],fun g h=>by simp at h⟩
 | (k,x)::r=>by
  obtain ⟨i1,i2⟩:=i4 f v r
  rw [show dE f v ((k,x)::r)=(if k=f then (k,v)::r else (k,x)::dE f v r) from rfl]
  by_cases hk:k=f
  ·rw [if_pos hk]
   subst hk
   exact ⟨by simp,fun g h=>by simpa using h⟩
  ·rw [if_neg hk]
   refine ⟨?_,fun g h=>?_⟩
   ·rw [E2]
    exact EH _ i1
   ·rw [E2] at h |-
    rcases ET.mp h with e | e
    ·exact ET.mpr (.inl e)
    ·exact EH _ (i2 g e)
theorem jx (f:Str) (v:V):∀ fs:List (Str × V),(dE f v fs).length<=fs.length+1
 | []=>by simp [dE]
 | (k,x)::r=>by
  have ih:=jx f v r
  rw [show dE f v ((k,x)::r)=(if k=f then (k,v)::r else (k,x)::dE f v r) from rfl]
  by_cases hk:k=f
  ·rw [if_pos hk,Fb,Fb]; lia
  ·rw [if_neg hk,Fb,Fb]; lia
theorem jG.none_of {o:Option Ey} (r:jG none o):o=none:=by
 cases o with
 | none=>rfl
 | some u=>exact (show False from r).elim
section
variable {P:Fm} {w:FH} {H H':Hp} {h h':GP} {a C dx:EK} {fs fs':List (Str × V)}
theorem lA (hok:cD P w H h) (e:H a=some (.ins C dx fs)):∃ mA,k8 h a dx C mA/\(∀ f,jG (fs.lookup f) (mA f))/\Lq mA (fs.map (·.1))/\fs.length<=1000/\H dx=some (.own a):=by
 obtain ⟨d,z,ne,ob,mA,n,r,q⟩:=(show bR P w H h a (.ins C dx fs) from hok a _ e)
 exact ⟨mA,⟨ob,n,ne⟩,r,q,z,d⟩
end
structure Cls (K:Fc) (C:EK):Prop where
 pg:Kv K C Str.empty=true
 hd:PySem.W.hasDictIn K C=true
 po:PySem.W.plainOver K C=true
 sa:Hh K (.ref C) "__setattr__" = some (some (.builtin "object.__setattr__"))
theorem Cls.get {K:Fc} {C:EK} (c:Cls K C) (f:Str):Kv K C f=true:=c.pg
def NoAttr (K:Fc) (C:EK) (f:Str):Prop:=Hh K (.ref C) f=some none
theorem NoAttr.taker {K:Fc} {C:EK} {f:Str} (n:NoAttr K C f):KJ K C f=some none:=by
 unfold KJ
 rw [show Hh K (.ref C) f=some none from n]
 rfl
structure Meth (K:Fc) (C:EK) (m:Str) (f:EK):Prop where
 at_:Hh K (.ref C) m=some (some (.ref f))
 fn:Lr K (.ref f)=true
 kp:K4 K (.ref f)=true
section
variable {X:Cx} {pins:List (EK × Obj)} {σ:St} {H:Hp} {s:Ez} {a C dx:EK} {fs:List (Str × V)} {f:Str} {v:V} {A:FE} {E:Ey->Ez->Prop}
theorem il {m:Str} {g:EK} {pl:Sem Bool} {Q:Ey × List Ey->Ez->Prop} (I:Inv X pins σ H s) (e:H a=some (.ins C dx fs)) (c:Cls X.K C) (k:Meth X.K C m g) (l:fs.lookup m=none)
  (h:Q (.ref g,[.ref a]) s):wpAny (model X.prog X.w) A (getMethod (.ref a) m pl) Q E s:=by
 obtain ⟨mA,O,r,_,_,_⟩:=lA I.hok e
 have hn:mA m=none:=jG.none_of (by rw [<- l]; exact r m)
 exact vF I.kIn O (c.get m) k.at_ k.fn hn h
theorem sP {y:V} {u:Ey} {Q:Unit->Ez->Prop} (I:Inv X pins σ H s) (e:H a=some (.ins C dx fs)) (c:Cls X.K C) (n:NoAttr X.K C f) (hl:fs.length < 1000) (ry:RelV y u)
  (h:∀ s',Inv X pins σ (upd H a (.ins C dx (dE f y fs))) s'->Q () s'):wpAny (model X.prog X.w) A (setAttr (.ref a) f u) Q E s:=by
 obtain ⟨mA,O,r,wi,_,ho⟩:=lA I.hok e
 have hz:(fs.map (·.1)).length<=sizeLine:=by rw [Do,Gk]; lia
 refine xM I.kIn O c.sa c.po n.taker c.hd wi hz fun h' O' sb=>h _ ?_
 have hd:∃ o,h'.get? dx=some o:=let ⟨o,_,_,e',_⟩:=O'.ns; ⟨o,e'⟩
 refine I.write (x:=a) (e:=dx) (by rw [e]; exact JH) (.inr ho) (fun b q hb z=>(sb.2 b hb).trans z) hd ?_
 refine ⟨by rw [upd_ne O.ne]; exact ho,?_,O.ne,O'.obj,_,O'.ns,fun g=>?_,fun g hg=>?_⟩
 ·have:=jx f y fs; lia
 ·show jG ((dE f y fs).lookup g) (if g=f then some u else mA g)
  rw [cL]
  by_cases q:g=f
  ·rw [if_pos q,if_pos q]; exact ry
  ·rw [if_neg q,if_neg q]; exact r g
 ·by_cases q:g=f
  ·rw [q]; exact (i4 f y fs).1
  ·refine (i4 f y fs).2 g (wi g fun z=>hg ?_)
   show (if g=f then some u else mA g)=none
   rw [if_neg q]; exact z
theorem Inv.made (I:Inv X pins σ H s):Inv X pins σ (upd (upd H s.heap.objs.size (.own (s.heap.objs.size+1))) (s.heap.objs.size+1) (.ins C s.heap.objs.size []))
  { s with heap:=(s.heap.push GK).push (Hj C s.heap.objs.size) }:=by
 have e1:(s.heap.push GK).get? s.heap.objs.size=some GK:=Fd s.heap rfl
 have e2:((s.heap.push GK).push (Hj C s.heap.objs.size)).get? (s.heap.objs.size+1)=some (Hj C s.heap.objs.size):=by
  have:=Fd (s.heap.push GK) (o:=Hj C s.heap.objs.size) rfl
  rwa [GC] at this
 have e3:(s.heap.push GK).Ns s.heap.objs.size (fun _=>none):=⟨GK,#[],_,e1,rfl,(fun e he=>absurd he (by simp)),fun _=>rfl⟩
 have I1:=I.laid (a:=s.heap.objs.size) (o:=.own (s.heap.objs.size+1)) (h':=s.heap.push GK) (t':=s.toks) (fun b u q=>EB _ q) (EF _) ⟨_,e1⟩
 refine I1.laid (a:=s.heap.objs.size+1) (o:=.ins C s.heap.objs.size []) (t':=s.toks) (fun b u q=>EB _ q) (Nat.le_of_eq (GC _ _)) ?_
 have ne:s.heap.objs.size≠s.heap.objs.size+1:=Fn (IJ _)
 refine ⟨by rw [upd_ne ne,upd_same],EU _,ne,e2,fun _=>none,(Heap.Ns1.of_empty e3).at fun o q=>EB _ q,fun _=>JH,fun y hy=>absurd rfl hy⟩
end
noncomputable def DU (K:Fc) (ta tv:TE) (f:Str):TS:=fun D σ H=>tv σ H fun y H1=>ta σ H1 fun x H2=>∃ a C dx fs,x = .ref a/\H2 a=some (.ins C dx fs)/\Cls K C/\NoAttr K C f/\fs.length < 1000 /\
 D.nx σ (upd H2 a (.ins C dx (dE f y fs)))
section
variable {X:Cx} {o e value:Hq} {f:Str} {pos pos' tpos:Pos} {ta tv:TE}
theorem uC (ha:PE X o ta) (hv:PE X value tv) (hs:swapsWith value (some (.Attribute o f pos')) pos.line X.env=pure false):PS X (.Assign [.Attribute o f pos'] value pos) (DU X.K ta tv f):=by
 intro pins s σ H D I h
 refine plainObj_wpAny_Assign_Attribute (aG (hv pins s σ H _ I h) fun u s1 ⟨y,H1,I1,ry,q⟩=>aG (ha pins s1 σ H1 _ I1 q) fun ov s2 ⟨x,H2,I2,rx,a,C,dx,fs,ex,ea,c,n,l,q2⟩=>?_) hs
 subst ex
 obtain rfl:ov=E4 a:=rx
 exact sP I2 ea c n l ry fun s3 I3=>⟨σ,_,I3,q2⟩
theorem Cb {pl:Sem Bool} {m:Str} {apos:Pos} {args:List Hq} {pins:List (EK × Obj)} {s:Ez} {σ:St} {H:Hp} {Q:Ey->Ez->Prop} {te:TE} (he:PE X e te) (I:Inv X pins σ H s)
  (h:te σ H fun x H1=>∃ a C dx fs g,x = .ref a/\H1 a=some (.ins C dx fs)/\Cls X.K C/\Meth X.K C m g/\fs.lookup m=none /\
   ∀ s1,Inv X pins σ H1 s1->wpAny (model X.prog X.w) X.A (callWith pos (.ref g) [.ref a] (backTo pos (starEach args X.env)) (backToKw pos (keywordEach [] X.env))) Q X.xe s1)
  (ht:eval (.Call (.Attribute e m apos) args [] pos) X.env=(do
   let ov <- eval e X.env
   standAt apos.atName
   let (f,first) <- holding [ov] (getMethod ov m pl)
   callWith pos f first (backTo pos (starEach args X.env)) (backToKw pos (keywordEach [] X.env)))) :
  wpAny (model X.prog X.w) X.A (eval (.Call (.Attribute e m apos) args [] pos) X.env) Q X.xe s:=by
 refine Jn (pl:=pl) (aG (he pins s σ H _ I h) fun u s1 ⟨x,H1,I1,rx,a,C,dx,fs,g,ex,ea,c,k,l,q⟩=>?_) ht
 subst ex
 obtain rfl:u=E4 a:=rx
 exact il I1 ea c k l (q s1 I1)
end
section
variable {X:Cx} {pins:List (EK × Obj)} {σ:St} {H:Hp} {s:Ez} {A:FE} {E:Ey->Ez->Prop} {Q:Ey->Ez->Prop} {c:Ey} {b:Bool}
inductive eL (K:Fc) (H:Hp):V->Ey->Prop where
 | non:eL K H .non (.type "NoneType")
 | bl (x:Bool):eL K H (.bl x) (.type "bool")
 | int (i:Int):eL K H (.int i) (.type "int")
 | str (x:Str):eL K H (.str x) (.type "str")
 | flt (x:UInt64):eL K H (.flt x) (.type "float")
 | lst {a:EK} {xs:List V} (e:H a=some (.lst xs)):eL K H (.ref a) (.type "list")
 | frz {a:EK} {o:Obj} {xs:List V} (e:H a=some (.frz o (.lst xs))):eL K H (.ref a) (.type "list")
 | tup {a:EK} {xs:List V} (e:H a=some (.tup xs)):eL K H (.ref a) (.type "tuple")
 | dK {a:EK} {kvs:List (Key × V)} (e:H a=some (.dK kvs)):eL K H (.ref a) (.type "dict")
 | dT {a:EK} {kvs:List (List Key × V)} (e:H a=some (.dT kvs)):eL K H (.ref a) (.type "dict")
 | ins {a C dx:EK} {fs:List (Str × V)} (e:H a=some (.ins C dx fs)) (cl:Cls K C) (ha:Hh K (.ref C) "__class__" = some (some (.builtin "object.__class__")))
   (hn:PySem.W.specialIn K (.builtin "object.__class__") "__get__" = some (some (.builtin "getset_descriptor.__get__"))) (htk:PySem.W.takesIn K (.builtin "object.__class__")=some true)
   (hm:PySem.W.mroIn K C (.type "object")=some true):eL K H (.ref a) (.ref C)
theorem tR {x:V} {u t:Ey} (I:Inv X pins σ H s) (rx:RelV x u) (ty:eL X.K H x t) (e:PySem.W.kitOne X.K t c=some b) (h:∀ tk,Q (.bool b) { s with toks:=tk }) :
  wpAny (model X.prog X.w) A (call (.builtin "isinstance") [u,c]) Q E s:=by
 cases ty with
 | non=>cases (show u=FV from rx); exact GD PySem.W.kitx_none I.kIn JH e (fun z=>nomatch z) h
 | bl y=>cases (show u=KZ y from rx); exact GD PySem.W.kitx_bool I.kIn JH e (fun z=>nomatch z) h
 | int i=>obtain ⟨t,q⟩:=(show ∃ t,u=Value.int i t from rx); cases q; exact GD PySem.W.kitx_int I.kIn JH e (fun z=>nomatch z) h
 | str y=>obtain ⟨t,q⟩:=(show ∃ t,u=Value.str y t from rx); cases q; exact GD PySem.W.kitx_str I.kIn JH e (fun z=>nomatch z) h
 | flt y=>obtain ⟨t,q⟩:=(show ∃ t,u=Value.float y t from rx); cases q; exact GD PySem.W.kitx_float I.kIn JH e (fun z=>nomatch z) h
 | @lst a xs ea =>
  cases (show u=E4 a from rx)
  obtain ⟨_,_,n,_,h1⟩:=(show bR X.prog X.w H s.heap a (.lst xs) from I.hok a _ ea)
  exact GD PySem.W.kitx_list I.kIn ⟨_,h1,rfl⟩ e (fun z=>nomatch z) h
 | @frz a ob xs ea =>
  cases (show u=E4 a from rx)
  obtain ⟨_,_,_,n,_,h1⟩:=(show bR X.prog X.w H s.heap a (.frz ob (.lst xs)) from I.hok a _ ea)
  exact GD PySem.W.kitx_list I.kIn ⟨_,h1,rfl⟩ e (fun z=>nomatch z) h
 | @tup a xs ea =>
  cases (show u=E4 a from rx)
  obtain ⟨_,_,_,p⟩:=(show bR X.prog X.w H s.heap a (.tup xs) from I.hok a _ ea)
  obtain ⟨o,h1,h2,_⟩:=p
  exact GD PySem.W.kitx_tuple I.kIn ⟨o,h1,h2⟩ e (fun z=>nomatch z) h
 | @dK a kvs ea =>
  cases (show u=E4 a from rx)
  obtain ⟨_,_,vs,_,p⟩:=(show bR X.prog X.w H s.heap a (.dK kvs) from I.hok a _ ea)
  obtain ⟨o,es,ep,h1,h2,_⟩:=p
  exact GD PySem.W.kitx_dict I.kIn ⟨o,h1,h2.1⟩ e (fun z=>nomatch z) h
 | @dT a kvs ea =>
  cases (show u=E4 a from rx)
  obtain ⟨_,_,xs,_,o,es,ep,h1,h2,_⟩:=(show bR X.prog X.w H s.heap a (.dT kvs) from I.hok a _ ea)
  exact GD PySem.W.kitx_dict I.kIn ⟨o,h1,h2.1⟩ e (fun z=>nomatch z) h
 | @ins a C dx fs ea cl ha hn htk hm =>
  cases (show u=E4 a from rx)
  obtain ⟨mA,O,_⟩:=lA I.hok ea
  obtain ⟨od,J,_⟩:=O.look
  exact GD (PySem.W.kitx_own (cl.get _) cl.hd ha hn htk hm) I.kIn J e (fun z=>nomatch z) h
end
end L2
namespace L2
open PySem PySem.Spec PyProof.Rows
structure bj (k:Nat) (A:FE):Prop where
 hd:A.handled=none
 dp:A.depth+3*k+5 < recursionLimit
 un:A.units+16*k+200 < cLine
theorem bj.mono {j k:Nat} {A:FE} (r:bj k A) (h:j<=k):bj j A:=⟨r.hd,by have:=r.dp; lia,by have:=r.un; lia⟩
theorem bj.deeper {k:Nat} {A:FE} (r:bj (k+1) A) (env:Env):bj k (A.deeper env) :=
 ⟨r.hd,by have:=r.dp; show A.depth+1+3*k+5 < _; lia,by have:=r.un; show A.units+3+16*k+200 < _; lia⟩
theorem qU {A:FE} {C:EK} {us:List Ey} {kw:List (Str × Ey)}:(A.under (.builtin "type.__call__" ⟨.ref C::us,kw⟩)).depth=A.depth+1:=by
 first | rfl | simp [Ls,Code.weight,Code.isCreation,Code.isGuard,Code.isCaller,Code.frames,Lu,guardIds]
theorem r6 {A:FE} {C:EK} {us:List Ey} {kw:List (Str × Ey)}:(A.under (.builtin "type.__call__" ⟨.ref C::us,kw⟩)).units=A.units+1:=by
 first | rfl | simp [Ls,Code.cUnits,Code.frames,Lu]
theorem bj.make {k:Nat} {A:FE} (r:bj (k+1) A) (C:EK) (us:List Ey) (kw:List (Str × Ey)):bj k (A.under (.builtin "type.__call__" ⟨.ref C::us,kw⟩)) :=
 ⟨r.hd,by have:=r.dp; rw [qU]; lia,by have:=r.un; rw [r6]; lia⟩
theorem bj.depth {k:Nat} {A:FE} (r:bj k A):A.depth < recursionLimit:=by have:=r.dp; lia
theorem bj.units {k:Nat} {A:FE} (r:bj k A):A.units+64 < cLine:=by have:=r.un; lia
noncomputable def jE:TA:=fun _ H Q=>Q [] H
noncomputable def mT (ta:TE) (tr:TA):TA:=fun σ H Q=>ta σ H fun x H1=>tr σ H1 fun xs H2=>Q (x::xs) H2
section
variable {X:Cx} {e:Hq} {es:List Hq} {te:TE} {t:TA} {pos:Pos}
theorem af:PA X [] jE:=fun _ _ _ _ H Q I h=>Jg ⟨[],H,I,.nil,h⟩
theorem aa (ha:PE X e te) (hr:PA X es t) (hs:starEach (e::es) X.env=(false,eval e X.env)::starEach es X.env:=by rfl):PA X (e::es) (mT te t):=by
 intro pos pins s σ H Q I h
 rw [hs]
 show wpAny _ _ (spliced ((false,eval e X.env)::backTo pos (starEach es X.env))) _ _ s
 refine IV (aG (ha pins s σ H _ I h) fun u s1 ⟨x,H1,I1,r1,q1⟩=>?_)
 exact aG (hr pos pins s1 σ H1 _ I1 q1) fun us s2 ⟨xs,H2,I2,r2,q2⟩=>⟨x::xs,H2,I2,.cons r1 r2,q2⟩
noncomputable def DF (t:TA):TE:=fun σ H Q=>t σ H fun xs H1=>xs.length<=sizeLine/\∀ p,H1 p=none->Q (.ref p) (upd H1 p (.tup xs))
noncomputable def DG (t:TA):TE:=fun σ H Q=>t σ H fun xs H1=>xs.length<=sizeLine/\∀ p,H1 p=none->Q (.ref p) (upd H1 p (.lst xs))
theorem aP {x1} (h:PA X es t):PE X (.Tuple es x1 pos) (DF t):=by
 intro pins s σ H Q I hq
 refine wpAny_Tuple_spliced (aG (h pos pins s σ H _ I hq) fun us s1 ⟨xs,H1,I1,r,z,q⟩=>⟨by rw [<- r.length]; exact z,?_⟩)
 have hf:H1 s1.heap.objs.size=none:=I1.hok.fresh (EF _)
 refine ⟨.ref s1.heap.objs.size,upd H1 s1.heap.objs.size (.tup xs),I1.laid (t':=s1.toks) (fun b u e=>EB _ e) (EF _) ?_,rfl,q _ hf⟩
 exact ⟨z,us,r,⟨_,Fd _ rfl,rfl,_,rfl⟩⟩
theorem ba (h:PA X es t):PE X (.List es pos) (DG t):=by
 intro pins s σ H Q I hq
 refine wpAny_List_spliced (aG (h pos pins s σ H _ I hq) fun us s1 ⟨xs,H1,I1,r,z,q⟩=>⟨by rw [<- r.length]; exact z,?_⟩)
 have hf:H1 s1.heap.objs.size=none:=I1.hok.fresh (EF _)
 refine ⟨.ref s1.heap.objs.size,upd H1 s1.heap.objs.size (.lst xs),I1.laid (t':=s1.toks) (fun b u e=>EB _ e) (EF _) ?_,rfl,q _ hf⟩
 exact ⟨z,us,0,r,Fd _ rfl⟩
end
noncomputable abbrev Sp:=List V->Hp->VK->XK->Prop
noncomputable abbrev fL:=List Env->Hp->Ez->XK->Ey->Ez->Prop
structure jP (P:Fm) (w:FH) (K:Fc) (mg:Str->Option Ey) (base:GP) (A:FE) (outer:List Env) (s:Ez) (H:Hp):Prop where
 frames:A.frames=some outer
 mod:Mod K mg base
 bs:∀ b o,base.get? b=some o->s.heap.get? b=some o/\H b=none
 bsz:base.objs.size<=s.heap.objs.size
 funs:s.heap.FunFrames base outer
 frf:∀ b∈bV outer,H b=none
 hok:cD P w H s.heap
 bare:Ke s.gens
def CE (outer:List Env) (P:Fm) (w:FH) (H:Hp) (s:Ez) (Q:VK) (u:Ey) (s':Ez):Prop :=
 ∃ v H',s'.os=s.os/\Ke s'.gens/\Un (bV outer) [] H H' s.heap s'.heap/\cD P w H' s'.heap/\RelV v u/\Q v H'
def CR (CX:fL) (outer:List Env) (P:Fm) (w:FH) (H:Hp) (s:Ez) (Q:VK) (E:XK) (r:Result) (s':Ez):Prop :=
 match r with
 | .ok (.ret u)=>CE outer P w H s Q u s'
 | .ok _=>False
 | .error e=>CX outer H s E e s'
structure bA (P:Fm) (w:FH) (K:Fc) (mg:Str->Option Ey) (base:GP) (CX:fL) (k:Nat) (f:EK) (fd:Ge) (ps:List Str) (sp:Sp):Prop where
 len:∀ vs H Q E,sp vs H Q E->vs.length=ps.length
 run:∀ (A:FE) (outer:List Env) (s:Ez) (H:Hp) (args:Args) (us:List Ey) (vs:List V) (Q:VK) (E:XK),bj k A->jP P w K mg base A outer s H->BindsTo s fd args (ps.zip us)->Vals vs us->sp vs H Q E ->
  codeAny (model P w) A (.call (.ref f) args) (CR CX outer P w H s Q E) s
theorem bA.mono {P:Fm} {w:FH} {K:Fc} {mg:Str->Option Ey} {base:GP} {CX:fL} {j k:Nat} {f:EK} {fd:Ge} {ps:List Str} {sp:Sp} (F:bA P w K mg base CX j f fd ps sp) (h:j<=k) :
  bA P w K mg base CX k f fd ps sp:=⟨F.len,fun A outer s H args us vs Q E hr=>F.run A outer s H args us vs Q E (hr.mono h)⟩
theorem jP.make {P:Fm} {w:FH} {K:Fc} {mg:Str->Option Ey} {base:GP} {A:FE} {outer:List Env} {s:Ez} {H:Hp} (e:jP P w K mg base A outer s H) (C:EK) (us:List Ey) (kw:List (Str × Ey)) :
  jP P w K mg base (A.under (.builtin "type.__call__" ⟨.ref C::us,kw⟩)) outer s H:=⟨by first | exact e.frames | (simpa [Ls,Code.envs,Lu,pushEnvs] using e.frames),e.mod,e.bs,e.bsz,e.funs,e.frf,e.hok,e.bare⟩
section
variable {X:Cx} {pins:List (EK × Obj)} {σ:St} {H:Hp} {s s':Ez}
theorem Inv.env0 (I:Inv X pins σ H s):jP X.prog X.w X.K X.mg X.base X.A X.stack s H :=
 ⟨I.ok.frames,I.ok.mod,I.bs,FN I.ok.bsz I.sz,I.stack,I.stkFree,I.hok,I.bare⟩
theorem Inv.after {Q:VK} {u:Ey} (I:Inv X pins σ H s) (h:CE X.stack X.prog X.w H s Q u s'):EP X pins σ Q u s':=by
 obtain ⟨v,H',os,bare,un,hok,r,q⟩:=h
 obtain ⟨hh,g,d,t,os'⟩:=s'
 obtain rfl:os'=s.os:=os
 exact ⟨v,H',I.call (h':=hh) (g':=g) (d':=d) (t':=t) (ch:=[]) un hok bare (fun b z=>absurd z (by simp)),r,q⟩
end
noncomputable def mV (sp:Sp) (dvs:List V) (E:XK) (t:TA):TE:=fun σ H Q=>t σ H fun vs H1=>sp (vs++dvs) H1 Q E
noncomputable def i8 (C:EK) (m:Str) (sp:Sp) (dvs:List V) (E:XK) (ta:TE) (t:TA):TE:=fun σ H Q=>ta σ H fun x H1=>∃ a dx fs,x = .ref a/\H1 a=some (.ins C dx fs)/\fs.lookup m=none /\
 t σ H1 fun vs H2=>sp (x::(vs++dvs)) H2 Q E
noncomputable def xx (C:EK) (sp:Sp) (dvs:List V) (E:XK) (t:TA):TE:=fun σ H Q=>t σ H fun vs H1=>∀ x dx,H1 x=none->H1 dx=none->dx≠x ->
 sp (.ref x::(vs++dvs)) (upd (upd H1 dx (.own x)) x (.ins C dx [])) (fun v H2=>v = .non/\Q (.ref x) H2) E
def Binds (K:Fc) (fd:Ge) (ps:List Str) (ds:List Ey):Prop :=
 ∀ (s:Ez) (us:List Ey),K.In s.heap->(us++ds).length=ps.length->BindsTo s fd ⟨us,[]⟩ (ps.zip (us++ds))
theorem Binds.all {K:Fc} {fd:Ge} {ps:List Str} (h:∀ us:List Ey,us.length=ps.length->bindArgs fd ⟨us,[]⟩=pure (ps.zip us)):Binds K fd ps []:=fun s us _ hl=>by
 rw [Ff] at hl |-
 exact .of_eq (h us hl)
def Passes (CX:fL) (X:Cx) (E:XK):Prop:=∀ (pins:List (EK × Obj)) (σ:St) (H:Hp) (s:Ez) (e:Ey) (s':Ez),Inv X pins σ H s->CX X.stack H s E e s'->X.xe e s'
section
variable {X:Cx} {CX:fL} {k:Nat} {f C:EK} {fd:Ge} {ps:List Str} {sp:Sp} {dvs:List V} {ds:List Ey} {E:XK} {x m:Str} {p pos apos:Pos} {e o:Hq} {es:List Hq} {ta:TE} {t:TA}
theorem kL {pins:List (EK × Obj)} {σ:St} {H:Hp} {s:Ez} {Q:VK} {us:List Ey} {vs:List V} (F:bA X.prog X.w X.K X.mg X.base CX k f fd ps sp) (hr:bj k X.A) (hb:Binds X.K fd ps ds) (hd:Vals dvs ds) (hx:Passes CX X E)
  (I:Inv X pins σ H s) (r:Vals vs us) (h:sp (vs++dvs) H Q E):wpAny (model X.prog X.w) X.A (call (.ref f) us) (EP X pins σ Q) X.xe s:=by
 have r2:Vals (vs++dvs) (us++ds):=r.append hd
 have hl:(us++ds).length=ps.length:=by rw [<- r2.length]; exact F.len _ _ _ _ h
 refine wpAny_call (Ip (F.run X.A X.stack s H ⟨us,[]⟩ (us++ds) (vs++dvs) Q E hr I.env0 (hb s us I.kIn hl) r2 h) fun r s' hq=>?_)
 cases r with
 | error e=>exact hx pins σ H s e s' I hq
 | ok fl =>
  cases fl with
  | ret u=>exact I.after hq
  | next=>exact G9 hq
  | brk=>exact G9 hq
  | cont=>exact G9 hq
theorem x9 (F:bA X.prog X.w X.K X.mg X.base CX k f fd ps sp) (hr:bj k X.A) (hg:Gl X x) (hm:X.mg x=some (.ref f)) (hk:K4 X.K (.ref f)=true) (hb:Binds X.K fd ps ds) (hd:Vals dvs ds) (hx:Passes CX X E)
  (ha:PA X (e::es) t) (hdb:(x == ("__debug__" : Str))=false:=by decide) (he:starEach (e::es) X.env=(false,eval e X.env)::starEach es X.env:=by rfl) (hpl:(backTo pos (starEach es X.env)).any (·.1)=false:=by rfl) :
  PE X (.Call (.Name x p) (e::es) [] pos) (mV sp dvs E t):=by
 intro pins s σ H Q I h
 refine GB (gb I hg hm ?_ hdb)
 refine Lf (h₀:=X.base) I.ok.mod.kin hk (aG (ha pos pins s σ H _ I h) fun us s1 ⟨vs,H1,I1,r,q⟩=>⟨I1.kIn,?_⟩) he hpl
 exact kL F hr hb hd hx I1 r q
theorem pG {pl:Sem Bool} (he:PE X o ta) (c:Cls X.K C) (hm:Meth X.K C m f) (F:bA X.prog X.w X.K X.mg X.base CX k f fd ps sp) (hr:bj k X.A) (hb:Binds X.K fd ps ds) (hd:Vals dvs ds) (hx:Passes CX X E) (ha:PA X (e::es) t)
  (hst:starEach (e::es) X.env=(false,eval e X.env)::starEach es X.env:=by rfl) (hpl:(backTo pos (starEach es X.env)).any (·.1)=false:=by rfl)
  (ht:eval (.Call (.Attribute o m apos) (e::es) [] pos) X.env=(do
   let ov <- eval o X.env
   standAt apos.atName
   let (f,first) <- holding [ov] (getMethod ov m pl)
   callWith pos f first (backTo pos (starEach (e::es) X.env)) (backToKw pos (keywordEach [] X.env))):=by rfl) :
  PE X (.Call (.Attribute o m apos) (e::es) [] pos) (i8 C m sp dvs E ta t):=by
 intro pins s σ H Q I h
 refine Jn (pl:=pl) (aG (he pins s σ H _ I h) fun u s1 ⟨x,H1,I1,rx,a,dx,fs,ex,ea,l,q⟩=>?_) ht
 subst ex
 obtain rfl:u=E4 a:=rx
 refine il I1 ea c hm l ?_
 refine Lf (first:=[.ref a]) (h₀:=X.base) I.ok.mod.kin hm.kp (aG (ha pos pins s1 σ H1 _ I1 q) fun us s2 ⟨vs,H2,I2,r,q2⟩=>⟨I2.kIn,?_⟩) hst hpl
 exact kL (us:=.ref a::us) (vs:=.ref a::vs) F hr hb hd hx I2 (.cons rfl r) q2
theorem vo {pl:Sem Bool} (he:PE X o ta) (c:Cls X.K C) (hm:Meth X.K C m f) (F:bA X.prog X.w X.K X.mg X.base CX k f fd ps sp) (hr:bj k X.A) (hb:Binds X.K fd ps ds) (hd:Vals dvs ds) (hx:Passes CX X E)
  (ht:eval (.Call (.Attribute o m apos) [] [] pos) X.env=(do
   let ov <- eval o X.env
   standAt apos.atName
   let (f,first) <- holding [ov] (getMethod ov m pl)
   callWith pos f first (backTo pos (starEach [] X.env)) (backToKw pos (keywordEach [] X.env))):=by rfl) :
  PE X (.Call (.Attribute o m apos) [] [] pos) (i8 C m sp dvs E ta jE):=by
 intro pins s σ H Q I h
 refine Jn (pl:=pl) (aG (he pins s σ H _ I h) fun u s1 ⟨x,H1,I1,rx,a,dx,fs,ex,ea,l,q⟩=>?_) ht
 subst ex
 obtain rfl:u=E4 a:=rx
 refine il I1 ea c hm l ?_
 exact K7 (first:=[.ref a]) I1.kIn hm.kp (kL (us:=[.ref a]) (vs:=[.ref a]) F hr hb hd hx I1 (.cons rfl .nil) q)
structure Mk (K:Fc) (C f:EK):Prop where
 makes:PySem.W.makesIn K C=true
 init:Hh K (.ref C) "__init__" = some (some (.ref f))
 fn:Lr K (.ref f)=true
 kp:K4 K (.ref C)=true
theorem vD {pins:List (EK × Obj)} {σ:St} {H:Hp} {s:Ez} {Q:VK} {us:List Ey} {vs:List V} (M:Mk X.K C f) (F:bA X.prog X.w X.K X.mg X.base CX k f fd ps sp) (hr:bj (k+1) X.A) (hb:Binds X.K fd ps ds) (hd:Vals dvs ds)
  (hx:Passes CX X E) (I:Inv X pins σ H s) (r:Vals vs us)
  (h:∀ x dx,H x=none->H dx=none->dx≠x->sp (.ref x::(vs++dvs)) (upd (upd H dx (.own x)) x (.ins C dx [])) (fun v H2=>v = .non/\Q (.ref x) H2) E) :
  wpAny (model X.prog X.w) X.A (call (.ref C) us) (EP X pins σ Q) X.xe s:=by
 have hq:=h (s.heap.objs.size+1) s.heap.objs.size (I.hok.fresh (Hz _)) (I.hok.fresh (EF _)) (Fn (IJ _))
 have I2:=Inv.made (C:=C) I
 have r2:Vals (V.ref (s.heap.objs.size+1)::(vs++dvs)) (E4 (s.heap.objs.size+1)::(us++ds)):=.cons rfl (r.append hd)
 have hl:(E4 (s.heap.objs.size+1)::us++ds).length=ps.length:=by
  have e:=r2.length
  rw [F.len _ _ _ _ hq] at e
  exact e.symm
 refine wpAny_call (vG (f:=f) I.kIn M.makes M.init (beq_iff_eq.mp M.fn) (Ip (F.run _ X.stack _ _ ⟨E4 (s.heap.objs.size+1)::us,[]⟩ (E4 (s.heap.objs.size+1)::(us++ds)) _ _ E (hr.make C us [])
  (I2.env0.make C us []) (hb _ (E4 (s.heap.objs.size+1)::us) I2.kIn hl) r2 hq) fun r s' hq'=>?_))
 cases r with
 | error e=>exact hx pins σ _ _ e s' I2 hq'
 | ok fl =>
  cases fl with
  | ret u =>
   obtain ⟨v,H',I3,rv,ev,q3⟩:=I2.after hq'
   subst ev
   exact ⟨rv,⟨V.ref (s.heap.objs.size+1),H',I3,rfl,q3⟩⟩
  | next=>exact G9 hq'
  | brk=>exact G9 hq'
  | cont=>exact G9 hq'
theorem wA (M:Mk X.K C f) (F:bA X.prog X.w X.K X.mg X.base CX k f fd ps sp) (hr:bj (k+1) X.A) (hg:Gl X x) (hm:X.mg x=some (.ref C)) (hb:Binds X.K fd ps ds) (hd:Vals dvs ds) (hx:Passes CX X E)
  (hdb:(x == ("__debug__" : Str))=false:=by decide):PE X (.Call (.Name x p) [] [] pos) (xx C sp dvs E jE):=by
 intro pins s σ H Q I h
 refine GB (gb I hg hm ?_ hdb)
 exact K7 I.kIn M.kp (vD (us:=[]) M F hr hb hd hx I .nil h)
end
def PK (X:Cx) (kws:List Keyword) (t:TA):Prop :=
 ∀ (pos:Pos) (pins:List (EK × Obj)) (s:Ez) (σ:St) (H:Hp) (Q:List V->Hp->Prop),Inv X pins σ H s->t σ H Q->wpAny (model X.prog X.w) X.A (evalAll ((backToKw pos (keywordEach kws X.env)).map (·.2))) (AP X pins σ Q) X.xe s
section
variable {X:Cx} {CX:fL} {k:Nat} {f C:EK} {fd:Ge} {ps ks:List Str} {sp:Sp} {E:XK} {x m:Str} {p pos apos kpos:Pos} {e o:Hq} {es:List Hq} {kws:List Keyword} {te ta:TE} {t tk:TA} {nm:Option Str}
theorem Ay:PK X [] jE:=fun _ _ _ _ H Q I h=>wpAny_evalAll_nil ⟨[],H,I,.nil,h⟩
theorem yp (ha:PE X e te) (hr:PK X kws t):PK X (⟨nm,e,kpos⟩::kws) (mT te t):=by
 intro pos pins s σ H Q I h
 show wpAny _ _ (evalAll ((do let v <- eval e X.env; standAt pos; pure v)::(backToKw pos (keywordEach kws X.env)).map (·.2))) _ _ s
 refine wpAny_evalAll_cons (mo (aG (ha pins s σ H _ I h) fun u s1 ⟨x,H1,I1,r1,q1⟩=>mo (Kg (EE ?_))))
 exact aG (hr pos pins s1 σ H1 _ I1 q1) fun us s2 ⟨xs,H2,I2,r2,q2⟩=>⟨x::xs,H2,I2,.cons r1 r2,q2⟩
variable {g:List Ey->List Ey->List Ey} {gV:List V->List V->List V}
end
structure aw (N P:List Str) (sc:JR):Prop where
 kind:sc.kind = .function
 co:sc.isCoroutine=false
 gen:sc.isGenerator=false
 nd:N.Nodup
 pre:N.take P.length=P
 par:∀ x∈P,sc.names.lookup x=some .local\/sc.names.lookup x=some .cell
 nofree:∀ y∈sc.names,y.2≠.free
theorem mE {kindOf:Str->Option K0} {x:Str}:∀ {binds:List (Str × Ey)} {m:Str->Option Ey},(∀ v,(x,v)∉binds)->bindL kindOf binds m x=m x
 | [],_,_=>rfl
 | (n,v)::r,m,h=>by
  unfold bindL
  rw [mE fun w hw=>h w (EH _ hw)]
  split
  ·have:x≠n:=by rintro rfl; exact h v Fe
   simp [this]
  ·rfl
theorem mf {kindOf:Str->Option K0} {x:Str}:∀ {binds:List (Str × Ey)} {m:Str->Option Ey},(∀ v,(x,v)∉binds)->bindC kindOf binds m x=m x
 | [],_,_=>rfl
 | (n,v)::r,m,h=>by
  unfold bindC
  rw [mf fun w hw=>h w (EH _ hw)]
  split
  ·rfl
  ·have:x≠n:=by rintro rfl; exact h v Fe
   simp [this]
theorem lW {kindOf:Str->Option K0} {x:Str} {v:Ey}:∀ {P:List Str} {vs:List Ey} {i:Nat} {m:Str->Option Ey},P.Nodup->P[i]? = some x->vs[i]? = some v->kindOf x=some .local ->
  bindL kindOf (P.zip vs) m x=some v
 | [],_,_,_,_,h,_,_=>by simp at h
 | _::_,[],_,_,_,_,h,_=>by simp at h
 | p::P,w::vs,0,m,nd,h1,h2,hk=>by
  simp at h1 h2; subst h1; subst h2
  show bindL kindOf ((p,w)::P.zip vs) m p=_
  unfold bindL
  rw [mE fun v hv=>(Gs.mp nd).1 (KL hv).1,if_pos hk]
  simp
 | p::P,w::vs,i+1,m,nd,h1,h2,hk=>by
  show bindL kindOf ((p,w)::P.zip vs) m x=_
  unfold bindL
  exact lW (i:=i) (Gs.mp nd).2 (by simpa using h1) (by simpa using h2) hk
theorem mH {kindOf:Str->Option K0} {x:Str} {v:Ey}:∀ {P:List Str} {vs:List Ey} {i:Nat} {m:Str->Option Ey},P.Nodup->P[i]? = some x->vs[i]? = some v->kindOf x≠some .local ->
  bindC kindOf (P.zip vs) m x=some v
 | [],_,_,_,_,h,_,_=>by simp at h
 | _::_,[],_,_,_,_,h,_=>by simp at h
 | p::P,w::vs,0,m,nd,h1,h2,hk=>by
  simp at h1 h2; subst h1; subst h2
  show bindC kindOf ((p,w)::P.zip vs) m p=_
  unfold bindC
  rw [mf fun v hv=>(Gs.mp nd).1 (KL hv).1,if_neg hk]
  simp
 | p::P,w::vs,i+1,m,nd,h1,h2,hk=>by
  show bindC kindOf ((p,w)::P.zip vs) m x=_
  unfold bindC
  exact mH (i:=i) (Gs.mp nd).2 (by simpa using h1) (by simpa using h2) hk
noncomputable def start (N:List Str) (vs:List V):St:=vs.map some++List.replicate (N.length - vs.length) none
noncomputable def fQ (CX:fL) (P:Fm) (w:FH) (K:Fc) (mg:Str->Option Ey) (base:GP) (N:List Str) (qual:Str) (scope:JR) (f:EK) (cd:Ey) (A:FE) (outer:List Env) (s:Ez) (H:Hp) (E:XK):Cx where
 prog:=P
 w:=w
 K:=K
 mg:=mg
 base:=base
 A:=A.deeper (envOfC qual scope s.heap.objs.size f cd)
 N:=N
 s₀:=s
 H₀:=H
 env:=envOfC qual scope s.heap.objs.size f cd
 outer:=outer
 stack:=envOfC qual scope s.heap.objs.size f cd::outer
 ex:=[]
 calm:=true
 fn:=fun _=>true
 pn:=[]
 xe:=fun e s'=>wpAny (model P w) (A.deeper (envOfC qual scope s.heap.objs.size f cd)) (leaving (envOfC qual scope s.heap.objs.size f cd) e) (fun _ s''=>CX outer H s E e s'') (fun e' s''=>CX outer H s E e' s'') s'
theorem m6 {sc:JR} {n:Nat} {x:Str} (h:sc.names.lookup x=some .cell):∃ c,(cellsFrom n sc.names []).lookup x=some c:=by
 have q:=KD sc.names n [] (.inl h)
 exact Option.isSome_iff_exists.mp q
theorem uT {CX:fL} {P:Fm} {w:FH} {K:Fc} {mg:Str->Option Ey} {base:GP} {N ps:List Str} {qual:Str} {scope:JR} {f:EK} {cd:Ey} {A:FE} {outer:List Env} {s s1:Ez} {H:Hp} {E:XK} {us:List Ey} {vs:List V}
  (S:aw N ps scope) (hd:A.handled=none) (e0:jP P w K mg base A outer s H) (hl:vs.length=ps.length) (r:Vals vs us)
  (x:InCallC s s.heap.objs.size (bindL (envOfC qual scope s.heap.objs.size f cd).kindOf (ps.zip us) fun _=>none) (cellsFrom (s.heap.objs.size+1) scope.names []) (bindC (envOfC qual scope s.heap.objs.size f cd).kindOf (ps.zip us) fun _=>none) s1) :
  Inv (fQ CX P w K mg base N qual scope f cd A outer s H E) [] (start N vs) H s1:=by
 have hpl:ps.length<=N.length:=by have:=congrArg List.length S.pre; rw [E5] at this; lia
 obtain ⟨h1,tk,rfl,hk⟩:=x.done
 have noA:∀ b:EK,b∉(fQ CX P w K mg base N qual scope f cd A outer s H E).ex:=fun b z=>absurd (show b∈([]:List EK) from z) (by simp)
 refine ⟨⟨e0.mod,S.kind,rfl,rfl,EF _,fun y z c h1 h2=>?_,fun y hy=>?_,fun y c _ h=>?_,fun _=>hd,Around.frames_deeper e0.frames,.inr ⟨rfl,rfl⟩,fun b z=>absurd z (noA b),e0.bs,e0.bsz,fun b _ _=>noA b,fun b z=>absurd z (noA b),e0.funs,e0.frf⟩,
  rfl,e0.bare,Un.kept hk,⟨_,x.toInCall.ns,fun i y v h1 h2 h3=>?_⟩,fun y c h=>⟨_,x.cell y c h⟩,e0.hok.fresh (EF _),fun y c h=>?_,fun p hp=>absurd (show p∈([]:List (EK × Obj)) from hp) (by simp),e0.hok.kept hk,?_⟩
 ·exact name_of_addr x.apart (HS h1) (HS h2)
 ·have hy:scope.names.lookup y=some .cell\/scope.names.lookup y=some .free:=hy
  rcases hy with hy | hy
  ·exact m6 hy
  ·exact absurd rfl (S.nofree _ (HS hy))
 ·exact Jm (x.above y c (HS h))
 ·have hi:i < vs.length:=by
   unfold start at h2
   by_cases hi:i < vs.length
   ·exact hi
   ·rw [Gc (by simpa using hi)] at h2
    rw [List.getElem?_replicate] at h2
    split at h2<;>cases h2
  have ha:vs[i]? = some v:=by
   unfold start at h2
   rw [GE (by simpa using hi),FD] at h2
   cases e:vs[i]? with
   | none=>rw [e] at h2; cases h2
   | some a=>rw [e] at h2; cases h2; rfl
  obtain ⟨u,hu,rv⟩:=r.get ha
  have hp:ps[i]? = some y:=by
   rw [<- S.pre,HM (by lia)]; exact h1
  have ndP:ps.Nodup:=by rw [<- S.pre]; exact S.nd.sublist (J5 _ _)
  refine ⟨u,rv,?_⟩
  rcases S.par y (ES hp) with k | k
  ·exact .inl ⟨k,lW ndP hp hu k⟩
  ·obtain ⟨c,e⟩:=m6 (n:=s.heap.objs.size+1) k
   refine .inr ⟨.inl k,c,e,?_⟩
   have q:=x.cell y c e
   rw [mH ndP hp hu (by show scope.names.lookup y≠_; rw [k]; decide)] at q
   exact q
 ·exact e0.hok.fresh (Jm (x.above y c (HS h)))
 ·unfold start
  show _=N.length
  rw [EA,Do,List.length_replicate]
  lia
theorem xh {CX:fL} {P:Fm} {w:FH} {K:Fc} {mg:Str->Option Ey} {base:GP} {k:Nat} {f:EK} {name qual:Str} {params:Arguments} {body:List HI} {scope:JR} {dV kV doc pm cdv ct oc:Ey} {an od:Option EK}
  {osl:Array (Option Ey)} {N ps:List Str} {sp:Sp} (lk:K.lookup f=some ⟨oc,od,.func (PySem.W.fnOf name qual params body scope dV kV doc pm an cdv ct),osl⟩) (hcd:PySem.W.codeIn K cdv qual=true) (S:aw N ps scope)
  (len:∀ vs H Q E,sp vs H Q E->vs.length=ps.length)
  (hbody:∀ (A:FE) (outer:List Env) (s:Ez) (H:Hp) (vs:List V) (Q:VK) (E:XK),bj k (A.deeper (envOfC qual scope s.heap.objs.size f cdv))->sp vs H Q E ->
   ∃ t,fM (fQ CX P w K mg base N qual scope f cdv A outer s H E) body t/\t { nx:=fun _ H'=>Q .non H',rt:=Q } (start N vs) H) :
  bA P w K mg base CX (k+1) f (PySem.W.fnOf name qual params body scope dV kV doc pm an cdv ct) ps sp:=by
 refine ⟨len,fun A outer s H args us vs Q E hr e0 hb r hsp=>?_⟩
 have hl:=len _ _ _ _ hsp
 have KX:K.In s.heap:=e0.mod.kin.keeps fun b o e=>(e0.bs b o e).1
 have lim:s.heap.NoLimit:=e0.mod.nolimit.keeps fun b o e=>(e0.bs b o e).1
 have hkind:∀ y∈ps.zip us,scope.names.lookup y.1=some .local\/(scope.names.lookup y.1=some .cell/\((cellsFrom (s.heap.objs.size+1) scope.names []).lookup y.1).isSome=true):=fun ⟨n,v⟩ hy=>by
  rcases S.par n (KL hy).1 with q | q
  ·exact .inl q
  ·exact .inr ⟨q,KD _ _ _ (.inl q)⟩
 refine codeAny_call_function hr.depth (KX _ _ lk) rfl S.co S.gen rfl (PySem.W.codeRec_of KX hcd) (hb _ _ _ _ ?_)
 refine wpAny_newFunctionEnv_cells S.kind hkind fun env he s1 x=>?_
 subst he
 refine ⟨lim.keeps x.toInCall.keep,codeAny_func ?_⟩
 obtain ⟨t,ht,hq⟩:=hbody A outer s H vs Q E (hr.deeper _) hsp
 have I:Inv (fQ CX P w K mg base N qual scope f cdv A outer s H E) [] (start N vs) H s1:=uT S hr.hd e0 hl r x
 refine G8 (ht [] s1 (start N vs) H _ I hq) (fun fl s' hs=>?_) fun e s' hs=>hs
 have fin:∀ {σ':St} {H':Hp} {v:V} {u:Ey},Inv (fQ CX P w K mg base N qual scope f cdv A outer s H E) [] σ' H' s'->RelV v u->Q v H'->CE outer P w H s Q u s' :=
  fun {σ' H' v u} J rv q=>⟨v,H',J.os,J.bare,J.base,J.hok,rv,q⟩
 cases fl with
 | ret u =>
  obtain ⟨v,σ',H',J,rv,q⟩:=hs
  exact fin J rv q
 | next =>
  obtain ⟨σ',H',J,q⟩:=hs
  exact fin (v:=V.non) (u:=FV) J rfl q
 | brk =>
  obtain ⟨_,_,_,q⟩:=hs
  exact G9 q
 | cont =>
  obtain ⟨_,_,_,q⟩:=hs
  exact G9 q
end L2
namespace L2
open PySem PySem.Spec PyProof.Rows
section
variable {X:Cx} {x:Str} {p pos:Pos} {e:Hq} {es:List Hq} {t:TA} {id T:String} {r:List V->Hp->VK->Prop}
noncomputable def Dp (r:List V->Hp->VK->Prop) (t:TA):TE:=fun σ H Q=>t σ H fun vs H1=>r vs H1 Q
theorem aH (hc:cQ X (.builtin id) r) (hg:Gl X x) (hm:X.mg x=none) (hv:bootBuiltins x=some (.builtin id)) (ha:PA X (e::es) t) (hn:x≠"__name__":=by decide) (hdb:(x == ("__debug__" : Str))=false:=by decide)
  (he:starEach (e::es) X.env=(false,eval e X.env)::starEach es X.env:=by rfl) (hpl:(backTo pos (starEach es X.env)).any (·.1)=false:=by rfl):PE X (.Call (.Name x p) (e::es) [] pos) (Dp r t):=by
 intro pins s σ H Q I h
 refine GB (dM I hg hm hv ?_ hn hdb)
 exact Jo (aG (ha pos pins s σ H _ I h) fun us s1 ⟨vs,H1,I1,r1,q1⟩=>hc pins s1 σ H1 vs us Q I1 r1 q1) he hpl
theorem fI (hc:cQ X (.type T) r) (hg:Gl X x) (hm:X.mg x=none) (hv:bootBuiltins x=some (.type T)) (ha:PA X (e::es) t) (hn:x≠"__name__":=by decide) (hdb:(x == ("__debug__" : Str))=false:=by decide)
  (he:starEach (e::es) X.env=(false,eval e X.env)::starEach es X.env:=by rfl) (hpl:(backTo pos (starEach es X.env)).any (·.1)=false:=by rfl):PE X (.Call (.Name x p) (e::es) [] pos) (Dp r t):=by
 intro pins s σ H Q I h
 refine GB (dM I hg hm hv ?_ hn hdb)
 exact FX (aG (ha pos pins s σ H _ I h) fun us s1 ⟨vs,H1,I1,r1,q1⟩=>hc pins s1 σ H1 vs us Q I1 r1 q1) he hpl
end
end L2
namespace HT
open PySem PyProof.Rows
section
open PySem.SeqAt
open PySem.AutoSeq1 (wpAny_loadPart')
open PySem.MeetsSeq PySem.MeetsSeq2 PySem.MeetsSeq3
end
section
variable {prog:Fm} {w:FH} {A:FE} {E:Ey->Ez->Prop} {s:Ez}
noncomputable def sIx (n d:Nat):Option Int->Nat
 | none=>d
 | some v=>if v < 0 then (v+(n:Int)).toNat else min v.toNat n
theorem sIx_none (n d:Nat):sIx n d none=d:=rfl
theorem sIx_nat (n d k:Nat):sIx n d (some (k:Int))=min k n:=by
 show (if (k:Int) < 0 then ((k:Int)+(n:Int)).toNat else min (k:Int).toNat n)=min k n
 rw [if_neg (by lia),Gy]
end
end HT
namespace L2
open PySem PySem.Spec PyProof.Rows
noncomputable abbrev TO:=St->Hp->(Option Int->Hp->Prop)->Prop
def PO (X:Cx) (e:Option Hq) (t:TO):Prop :=
 ∀ (pins:List (EK × Obj)) (s:Ez) (σ:St) (H:Hp) (Q:Option Int->Hp->Prop),Inv X pins σ H s->t σ H Q ->
  wpAny (model X.prog X.w) X.A (evalPart e X.env) (fun u s'=>∃ o H',Inv X pins σ H' s'/\IsPart u o/\Q o H') X.xe s
noncomputable def yl:TO:=fun _ H Q=>Q none H
noncomputable def C8 (t:TE):TO:=fun σ H Q=>t σ H fun x H1=>∃ i,x = .int i/\Q (some i) H1
theorem intsAre_of {ns:List Int}:∀ {us:List Ey},Vals (ns.map V.int) us->Hf us ns:=by
 induction ns with
 | nil=>intro us r; rw [Jp] at r; cases r; exact .nil
 | cons n ns ih =>
  intro us r
  rw [E2] at r
  cases r with
  | cons r1 r2 =>
   obtain ⟨t,e⟩:=r1
   subst e
   exact .cons n t (ih r2)
section
variable {X:Cx} {e:Hq} {te:TE} {lo hi:Option Hq} {tl th:TO} {pos p2:Pos}
theorem eH:PO X none yl:=by
 intro pins s σ H Q I h
 rw [evalPart_none]
 exact EE ⟨none,H,I,.none,h⟩
theorem dC (h:PE X e te):PO X (some e) (C8 te):=by
 intro pins s σ H Q I hw
 rw [evalPart_some]
 refine aG (h pins s σ H _ I hw) fun u s1 ⟨x,H1,I1,r1,q1⟩=>?_
 obtain ⟨i,rfl,q⟩:=q1
 obtain ⟨t,rfl⟩:=r1
 exact ⟨some i,H1,I1,.int i t,q⟩
def A4 (X:Cx) (r:V->Option Int->Option Int->Hp->VK->Prop):Prop :=
 ∀ (pins:List (EK × Obj)) (s:Ez) (σ:St) (H:Hp) (x:V) (v vl vu:Ey) (lo hi:Option Int) (sl:EK) (Q:VK),Inv X pins σ H s->RelV x v->s.heap.IsSliceOf sl vl vu .none->IsPart vl lo->IsPart vu hi->r x lo hi H Q ->
  ∃ T id,typeLookup (.type T) "__getitem__" = pure (some (.builtin id))/\s.TypeIs v T/\wpAny (model X.prog X.w) X.A (getItem v (.ref sl)) (EP X pins σ Q) X.xe s
noncomputable def Eo (r:V->Option Int->Option Int->Hp->VK->Prop) (te:TE) (tl th:TO):TE:=fun σ H Q=>te σ H fun x H1=>tl σ H1 fun l H2=>th σ H2 fun u H3=>r x l u H3 Q
theorem df {r:V->Option Int->Option Int->Hp->VK->Prop} (hr:A4 X r) (he:PE X e te) (hl:PO X lo tl) (hu:PO X hi th):PE X (.Subscript e (.Slice lo hi none p2) pos) (Eo r te tl th):=by
 intro pins s σ H Q I h
 refine Subscript_ (aG (he pins s σ H _ I h) fun v s1 ⟨x,H1,I1,r1,q1⟩=>?_)
 refine wpAny_Slice (aG (hl pins s1 σ H1 _ I1 q1) fun vl s2 ⟨l,H2,I2,pl,q2⟩=>aG (hu pins s2 σ H2 _ I2 q2) fun vu s3 ⟨u,H3,I3,pu,q3⟩=>?_)
 rw [evalPart_none]
 refine EE ?_
 have I4:Inv X pins σ H3 { s3 with heap:=s3.heap.push { cls:=.type "slice",data:=.fields #[vl,vu,.none] } }:=I3.kept (t':=s3.toks) fun b ob q=>EB _ q
 obtain ⟨T,id,hT,ht,hg⟩:=hr pins { s3 with heap:=s3.heap.push { cls:=.type "slice",data:=.fields #[vl,vu,.none] } } σ H3 x v vl vu l u s3.heap.objs.size Q I4 r1 (Heap.IsSliceOf.new ..) pl pu q3
 show wpAny (model X.prog X.w) X.A (subscriptTail e (.Slice lo hi none p2) v (.ref s3.heap.objs.size)) (EP X pins σ Q) X.xe { s3 with heap:=s3.heap.push { cls:=.type "slice",data:=.fields #[vl,vu,.none] } }
 exact tail_any (ops:=[.ref s3.heap.objs.size,v]) ht hT hg (by with_unfolding_all rfl)
noncomputable def c6 (xs:List V) (lo hi:Option Int):List V:=(xs.drop (HT.sIx xs.length 0 lo)).take (HT.sIx xs.length xs.length hi - HT.sIx xs.length 0 lo)
theorem o8 (xs:List V) (lo hi:Option Int):(c6 xs lo hi).length<=xs.length:=by
 unfold c6
 rw [E5,GG]
 lia
end
end L2
namespace L2
open PySem PySem.Spec PyProof.Rows
noncomputable def iP (n:Nat) (i:Int):Option Nat:=if 0<=i then (if i < n then some i.toNat else none) else if -(n:Int)<=i then some (i+n).toNat else none
noncomputable def bX {α:Type} (xs:List α) (i:Int):Option α:=(iP xs.length i).bind fun j=>xs[j]?
theorem qo {n:Nat} {i:Int} {j:Nat} (h:iP n i=some j):seqIndex? i n=some j/\j < n/\-(n:Int)<=i/\i < n:=by
 unfold iP at h
 by_cases h0:0<=i
 ·rw [if_pos h0] at h
  by_cases h1:i < n
  ·rw [if_pos h1] at h
   have e:i.toNat=j:=FB h
   exact ⟨by rw [seqIndex_of h0 h1,e],by lia,by lia,h1⟩
  ·rw [if_neg h1] at h; cases h
 ·rw [if_neg h0] at h
  by_cases h1 : -(n:Int)<=i
  ·rw [if_pos h1] at h
   have e:(i+n).toNat=j:=FB h
   exact ⟨by rw [seqIndex_neg (by lia) h1,e],by lia,h1,by lia⟩
  ·rw [if_neg h1] at h; cases h
theorem lC {α:Type} {xs:List α} {i:Int} {v:α} (h:bX xs i=some v):∃ j,seqIndex? i xs.length=some j/\xs[j]? = some v/\j < xs.length/\-(xs.length:Int)<=i/\i < xs.length:=by
 unfold bX at h
 cases e:iP xs.length i with
 | none=>rw [e] at h; cases h
 | some j =>
  rw [e] at h
  obtain ⟨h1,h2,h3,h4⟩:=qo e
  exact ⟨j,h1,h,h2,h3,h4⟩
theorem fB {α:Type} {xs:List α} {j:Nat} {v:α} (h:xs[j]? = some v):bX xs (j:Int)=some v:=by
 have hj:j < xs.length:=(EC.mp h).1
 have e:iP xs.length (j:Int)=some j:=by
  unfold iP
  rw [if_pos (by lia),if_pos (by lia)]; simp
 unfold bX; rw [e]; exact h
theorem wW {α:Type} (xs:List α) (v:α):bX (xs++[v]) (-1)=some v:=by
 have hl:(xs++[v]).length=xs.length+1:=by simp
 have e:iP (xs++[v]).length (-1)=some xs.length:=by
  unfold iP
  rw [hl,if_neg (by decide),if_pos (by lia)]
  congr 1
  lia
 unfold bX
 rw [e]
 show (xs++[v])[xs.length]? = some v
 simp
def xS (b:Hq):Prop:=∀ o i,subscripted b false o i=operate [o,i] (getItem o i)
def jw (X:Cx) (r:R2):Prop :=
 ∀ (value slice:Hq) (pins:List (EK × Obj)) (s:Ez) (σ:St) (H:Hp) (x y:V) (v u:Ey) (Q:VK),Inv X pins σ H s->RelV x v->RelV y u->r x y H Q ->
  subscripted slice false v u=operate [v,u] (getItem v u)->wpAny (model X.prog X.w) X.A (subscriptTail value slice v u) (EP X pins σ Q) X.xe s
def Dn (X:Cx) (id:String) (r:V->List V->Hp->VK->Prop):Prop :=
 ∀ (pins:List (EK × Obj)) (s:Ez) (σ:St) (H:Hp) (x:V) (xs:List V) (v:Ey) (us:List Ey) (Q:VK),Inv X pins σ H s->RelV x v->Vals xs us->r x xs H Q ->
  wpAny (model X.prog X.w) X.A (call (.builtin id) (v::us)) (EP X pins σ Q) X.xe s
section
variable {X:Cx} {a b:Hq} {ta tb:TE} {pos:Pos}
theorem jw.or {r r':R2} (h:jw X r) (h':jw X r'):jw X (fun x y H Q=>r x y H Q\/r' x y H Q):=by
 intro value slice pins s σ H x y v u Q I rx ry q hs
 rcases q with q | q
 ·exact h value slice pins s σ H x y v u Q I rx ry q hs
 ·exact h' value slice pins s σ H x y v u Q I rx ry q hs
theorem aK {r:R2} (hr:jw X r) (ha:PE X a ta) (hb:PE X b tb) (hs:xS b):PE X (.Subscript a b pos) (xw r ta tb):=by
 intro pins s σ H Q I h
 exact Subscript_ (vt ha hb I h fun v u s2 x y H2 I2 rx ry q=>hr a b pins s2 σ H2 x y v u Q I2 rx ry q (hs _ _))
noncomputable def vY (K:Fc):R2:=fun x y H Q=>∃ p xs i v,x = .ref p/\y = .int i/\aj K H p xs/\bX xs i=some v/\Q v H
noncomputable def yR (K:Fc):R2:=fun x y H Q=>∃ p xs i v,x = .ref p/\y = .int i/\bb K H p xs/\bX xs i=some v/\Q v H
noncomputable def zp:R2:=fun x y H Q=>∃ z i c,x = .str z/\y = .int i/\z.length<=sizeLine/\bX z.cps.toList i=some c/\Q (.str ⟨#[c]⟩) H
theorem a9:jw X (vY X.K):=by
 intro value slice pins s σ H x y v u Q I rx ry h hs
 obtain ⟨p,xs,i,z,rfl,rfl,hq,he,q⟩:=h
 cases rx
 obtain ⟨t,rfl⟩:=ry
 obtain ⟨its,r,pl,hz⟩:=I.list hq
 obtain ⟨j,h1,h2,h3,h4,h5⟩:=lC he
 obtain ⟨w,ew,rw'⟩:=r.get h2
 have hl:=r.length
 have hn:=iS
 have fin:EP X pins σ Q w s:=⟨z,H,I,rw',q⟩
 by_cases h0:0<=i
 ·have hj:i.toNat=j:=by
   rw [seqIndex_of h0 h5] at h1
   exact FB h1
  exact item_listR pl.isList h0 (by lia) (by rw [hj]; simpa using ew) fin hs
 ·have hj:(i+(its.toArray.size:Int)).toNat=j:=by
   rw [seqIndex_neg (by lia) h4] at h1
   rw [EZ,<- hl]
   exact FB h1
  exact subscriptTail_builtinR (x:=w) pl.isList.typeIs slot_list_getitem.lookup
   (wpAny_getItem_list_neg (Q:=fun r s'=>r=w/\EP X pins σ Q r s') pl.isList (by lia) (by rw [EZ]<;>lia) (by lia) (by rw [hj]; simpa using ew) ⟨rfl,fin⟩) hs
theorem bJ:jw X (yR X.K):=by
 intro value slice pins s σ H x y v u Q I rx ry h hs
 obtain ⟨p,xs,i,z,rfl,rfl,hq,he,q⟩:=h
 cases rx
 obtain ⟨t,rfl⟩:=ry
 obtain ⟨its,r,pl,hz⟩:=I.tuple hq
 obtain ⟨j,h1,h2,h3,h4,h5⟩:=lC he
 obtain ⟨w,ew,rw'⟩:=r.get h2
 have hl:=r.length
 have hn:=iS
 have fin:EP X pins σ Q w s:=⟨z,H,I,rw',q⟩
 exact subscriptTail_builtinR (x:=w) pl.typeIs slot_tuple_getitem.lookup
  (getItem_tuple (j:=j) (Q:=fun r s'=>r=w/\EP X pins σ Q r s') pl (by lia) (by lia) (by rw [EZ,<- hl]; exact h1) (by simpa using ew) ⟨rfl,fin⟩) hs
theorem Am:jw X zp:=by
 intro value slice pins s σ H x y v u Q I rx ry h hs
 obtain ⟨z,i,c,rfl,rfl,hz,he,q⟩:=h
 obtain ⟨t,rfl⟩:=rx
 obtain ⟨t',rfl⟩:=ry
 obtain ⟨j,h1,h2,h3,h4,h5⟩:=lC he
 have hl:z.cps.toList.length=z.length:=by simp [Str.length]
 rw [hl] at h1 h4 h5
 have hn:=iS
 exact tail_any (typeIs_str s z t) slot_str_getitem.lookup (getItem_str (c:=c) (by
  have e1:decide (i < -(2 ^ 63:Int))=false:=decide_eq_false (by lia)
  have e2:decide (i ≥ 2 ^ 63)=false:=decide_eq_false (by lia)
  rw [e1,e2,Lh]) (by rw [h1]; simpa using h2) ⟨.str ⟨#[c]⟩,H,I.tok _,⟨_,rfl⟩,q⟩) hs
noncomputable def Dj (K:Fc):R2:=fun x y H Q=>vY K x y H Q\/yR K x y H Q\/zp x y H Q
theorem uD:jw X (Dj X.K):=a9.or (bJ.or Am)
theorem qJ (its:List Ey) (n j:Nat) (u:Ey):Fv (·.setIfInBounds j u) { cls:=.type "list",data:=.seq its.toArray n }={ cls:=.type "list",data:=.seq (its.set j u).toArray n }:=by
 simp [Fv]
theorem Inv.lst {pins:List (EK × Obj)} {σ:St} {H:Hp} {s:Ez} {p:EK} {xs:List V} (I:Inv X pins σ H s) (h:H p=some (.lst xs)) :
  ∃ (its:List Ey) (n:Nat),Vals xs its/\s.heap.get? p=some { cls:=.type "list",data:=.seq its.toArray n }/\xs.length<=sizeLine:=by
 obtain ⟨z,its,n,r,e⟩:=I.hok p _ h
 exact ⟨its,n,r,e,z⟩
theorem Inv.lstUpd {pins:List (EK × Obj)} {σ:St} {H:Hp} {s:Ez} {p:EK} {xs ys:List V} {its its':List Ey} {n n':Nat} {f:Obj->Obj} (I:Inv X pins σ H s) (h:H p=some (.lst xs))
  (ho:s.heap.get? p=some { cls:=.type "list",data:=.seq its.toArray n }) (hf:f { cls:=.type "list",data:=.seq its.toArray n }={ cls:=.type "list",data:=.seq its'.toArray n' }) (r:Vals ys its') (hz:ys.length<=sizeLine) (t:Nat) :
  Inv X pins σ (upd H p (.lst ys)) { s with heap:=s.heap.update p f,toks:=t }:=by
 have e:(s.heap.update p f).get? p=some { cls:=.type "list",data:=.seq its'.toArray n' }:=by
  rw [Fz f ho (by rw [hf]<;>rfl),hf]
 refine I.write (x:=p) (e:=p) (by rw [h]; trivial) (.inl rfl) (fun b u hb q=>(E7 _ _ (G4 hb)).trans q) ⟨_,e⟩ ?_
 exact ⟨hz,its',n',r,e⟩
noncomputable def De:V->V->V->Hp->(Hp->Prop)->Prop:=fun o i v H Q=>∃ p xs k j,o = .ref p/\i = .int k/\H p=some (.lst xs)/\iP xs.length k=some j/\Q (upd H p (.lst (xs.set j v)))
theorem set_list:wg X De:=by
 intro pins s σ H o i v ov iv u Q I ro ri rv h
 obtain ⟨p,xs,k,j,rfl,rfl,hp,hj,q⟩:=h
 cases ro
 obtain ⟨t,rfl⟩:=ri
 obtain ⟨its,n,r,ho,hz⟩:=I.lst hp
 obtain ⟨h1,h2,h3,h4⟩:=qo hj
 have hl:=r.length
 have hn:=iS
 have I':Inv X pins σ (upd H p (.lst (xs.set j v))) { s with heap:=s.heap.update p (Fv (·.setIfInBounds j u)) } :=
  I.lstUpd hp ho (qJ its n j u) (r.set rv j) (by rw [List.length_set]; exact hz) s.toks
 by_cases h0:0<=k
 ·have hk:k.toNat=j:=by
   rw [seqIndex_of h0 h4] at h1
   exact FB h1
  exact PySem.W.ki_setAt ho h0 (by lia) (by rw [EZ,<- hl]; exact h4) (by rw [hk]; exact ⟨_,I',q⟩)
 ·have hk:(k+(its.toArray.size:Int)).toNat=j:=by
   rw [seqIndex_neg (by lia) h3] at h1
   rw [EZ,<- hl]
   exact FB h1
  exact PySem.W.ki_setBack ho (by lia) (by rw [EZ,<- hl]; exact h3) (by lia) (by rw [hk]; exact ⟨_,I',q⟩)
theorem nt (lo hi:Option Int) (n:Nat):(sliceBounds lo hi none n).1=((HT.sIx n 0 lo:Nat):Int)/\(sliceBounds lo hi none n).2.1=((HT.sIx n n hi:Nat):Int)/\(sliceBounds lo hi none n).2.2=1:=by
 refine ⟨?_,?_,rfl⟩
 ·cases lo with
  | none=>simp [sliceBounds,HT.sIx]
  | some i =>
   simp only [sliceBounds,HT.sIx,Option.getD_none,show (1:Int) > 0 by decide,if_true]
   by_cases h:i < 0
   ·simp only [h,if_true]<;>lia
   ·simp only [h,if_false]<;>lia
 ·cases hi with
  | none=>simp [sliceBounds,HT.sIx]
  | some i =>
   simp only [sliceBounds,HT.sIx,Option.getD_none,show (1:Int) > 0 by decide,if_true]
   by_cases h:i < 0
   ·simp only [h,if_true]<;>lia
   ·simp only [h,if_false]<;>lia
theorem mO (its:List Ey) (lo hi:Option Int):slicePick its.toArray lo hi none=((its.drop (HT.sIx its.length 0 lo)).take (HT.sIx its.length its.length hi - HT.sIx its.length 0 lo)).toArray:=by
 obtain ⟨h1,h2,h3⟩:=nt lo hi its.toArray.size
 unfold slicePick
 rw [h1,h2,h3]
 simp only [sliceRange_one,pick_run,EZ]<;>rfl
noncomputable def Ak (K:Fc):V->Option Int->Option Int->Hp->VK->Prop:=fun x lo hi H Q=>∃ a xs,x = .ref a/\aj K H a xs/\∀ p,H p=none->Q (.ref p) (upd H p (.lst (c6 xs lo hi)))
theorem dY:A4 X (Ak X.K):=by
 intro pins s σ H x v vl vu lo hi sl Q I rx hs pl pu h
 obtain ⟨a,xs,rfl,hx,q⟩:=h
 cases rx
 obtain ⟨its,r,ht,hz⟩:=I.list hx
 have hlen:=r.length
 refine ⟨"list",_,slot_list_getitem.lookup,ht.isList.typeIs,?_⟩
 refine wpAny_getItem_list_slice ht.isList hs pl pu .none (by simp) ?_ (by rw [EZ]<;>lia)
 rw [mO,<- hlen]
 refine ⟨.ref s.heap.objs.size,_,I.laid (t':=s.toks) (o:=.lst (c6 xs lo hi)) (fun b ob q=>EB _ q) (EF _) ?_,rfl,q _ (I.hok.fresh (EF _))⟩
 exact ⟨FN (o8 xs lo hi) hz,_,0,(r.drop (HT.sIx xs.length 0 lo)).take (HT.sIx xs.length xs.length hi - HT.sIx xs.length 0 lo),Fd _ rfl⟩
noncomputable def fV:V->Bool
 | .non=>true
 | .bl _=>true
 | .int _=>true
 | .str _=>true
 | _=>false
noncomputable def g5:V->V->Bool
 | .non,.non=>true
 | .bl a,.bl b=>a == b
 | .bl a,.int b=>(if a then 1 else 0) == b
 | .int a,.bl b=>a == (if b then 1 else 0)
 | .int a,.int b=>a == b
 | .str a,.str b=>a == b
 | _,_=>false
theorem uM {A:FE} {s:Ez} {y x:V} {u v:Ey} (ry:RelV y u) (rx:RelV x v) (fy:fV y=true) (fx:fV x=true):SeqAt.EqAt A s u v (g5 y x):=by
 cases y with
 | non =>
  cases ry
  cases x with
  | non=>cases rx; exact Lx _
  | bl b=>cases rx; exact SeqAt.EqAt.none_bool b
  | int b=>obtain ⟨t,rfl⟩:=rx; exact SeqAt.EqAt.none_int b t
  | str b=>obtain ⟨t,rfl⟩:=rx; exact SeqAt.EqAt.none_str b t
  | _=>exact absurd (show false=true from fx) Fl
 | bl a =>
  cases ry
  cases x with
  | non=>cases rx; exact SeqAt.EqAt.bool_none a
  | bl b=>cases rx; exact SeqAt.EqAt.bool_bool a b
  | int b=>obtain ⟨t,rfl⟩:=rx; exact SeqAt.EqAt.bool_int a b t
  | str b=>obtain ⟨t,rfl⟩:=rx; exact SeqAt.EqAt.bool_str a b t
  | _=>exact absurd (show false=true from fx) Fl
 | int a =>
  obtain ⟨t',rfl⟩:=ry
  cases x with
  | non=>cases rx; exact SeqAt.EqAt.int_none a t'
  | bl b=>cases rx; exact SeqAt.EqAt.int_bool a t' b
  | int b=>obtain ⟨t,rfl⟩:=rx; exact SeqAt.EqAt.int_int a t' b t
  | str b=>obtain ⟨t,rfl⟩:=rx; exact Ld a t' b t
  | _=>exact absurd (show false=true from fx) Fl
 | str a =>
  obtain ⟨t',rfl⟩:=ry
  cases x with
  | non=>cases rx; exact SeqAt.EqAt.str_none a t'
  | bl b=>cases rx; exact SeqAt.EqAt.str_bool a t' b
  | int b=>obtain ⟨t,rfl⟩:=rx; exact Le a t' b t
  | str b=>obtain ⟨t,rfl⟩:=rx; exact SeqAt.EqAt.str_str a t' b t
  | _=>exact absurd (show false=true from fx) Fl
 | _=>exact absurd (show false=true from fy) Fl
theorem bw:cQ X (.builtin "len") (fun xs H Q=>∃ p ys,xs=[.ref p]/\(aj X.K H p ys\/bb X.K H p ys)/\Q (.int ys.length) H):=by
 intro pins s σ H xs us Q I r h
 obtain ⟨p,ys,rfl,hq,q⟩:=h
 obtain ⟨u,rfl,rx⟩:=vals1 r
 cases rx
 have hn:=iS
 rcases hq with hq | hq
 ·obtain ⟨its,r',pl,hz⟩:=I.list hq
  have hlen:=r'.length
  exact Calls.call_len_list pl.isList (by simp only [EZ]<;>lia) ⟨.int ys.length,H,I.tok _,⟨s.toks+1,by rw [EZ,hlen]⟩,q⟩
 ·obtain ⟨its,r',pl,hz⟩:=I.tuple hq
  have hlen:=r'.length
  exact len_tuple pl (by simp only [EZ]<;>lia) ⟨.int ys.length,H,I.tok _,⟨s.toks+1,by rw [EZ,hlen]⟩,q⟩
theorem eY:cQ X (.type "list") (fun xs H Q=>∃ p ys,xs=[.ref p]/\(aj X.K H p ys\/bb X.K H p ys)/\∀ l,H l=none->Q (.ref l) (upd H l (.lst ys))):=by
 intro pins s σ H xs us Q I r h
 obtain ⟨p,ys,rfl,hq,q⟩:=h
 obtain ⟨u,rfl,rx⟩:=vals1 r
 cases rx
 have fin:∀ (its:List Ey),Vals ys its->ys.length<=sizeLine->∀ (h':GP) (c':Nat),(∀ b o',s.heap.get? b=some o'->h'.get? b=some o') ->
   h'.get? s.heap.objs.size=some { cls:=.type "list",dict:=none,data:=.seq its.toArray c',slots:=#[] }->EP X pins σ Q (.ref s.heap.objs.size) { s with heap:=h' }:=fun its r' hz h' c' kp e =>
  ⟨.ref s.heap.objs.size,_,I.laid (t':=s.toks) kp (EF _) (show bR X.prog X.w _ h' _ (.lst ys) from ⟨hz,its,c',r',e⟩),rfl,q _ (I.hok.fresh (EF _))⟩
 rcases hq with hq | hq
 ·obtain ⟨its,r',pl,hz⟩:=I.list hq
  have hlen:=r'.length
  obtain ⟨o,ho,hc,n,hd⟩:=pl.isList
  exact call_list_seq p (.inl rfl) ho hc hd (fun h' c' kp e=>fin its r' hz h' c' kp e) (by simp only [EZ]<;>lia)
 ·obtain ⟨its,r',pl,hz⟩:=I.tuple hq
  have hlen:=r'.length
  obtain ⟨o,ho,hc,n,hd⟩:=pl
  exact call_list_seq p (.inr rfl) ho hc hd (fun h' c' kp e=>fin its r' hz h' c' kp e) (by simp only [EZ]<;>lia)
def Ba (K:Fc) (T:String) (x:V) (H:Hp):Prop:=match x with
 | .str _=>T = "str"
 | .int _=>T = "int"
 | .ref p=>(T = "list"/\∃ xs,aj K H p xs)\/(T = "tuple"/\∃ o,K.lookup p=some o/\o.cls = .type "tuple"/\o.dict=none) \/
   (T = "dict"/\((∃ kvs,H p=some (.dK kvs))\/∃ kvs,H p=some (.dT kvs)))\/(T = "set"/\∃ S n,H p=some (.set S n))
 | _=>False
theorem uS {pins:List (EK × Obj)} {σ:St} {H:Hp} {s:Ez} {T:String} {x:V} {v:Ey} (I:Inv X pins σ H s) (r:RelV x v) (ty:Ba X.K T x H) :
  s.TypeIs v T/\∀ a,v = .ref a->∃ ob,s.heap.get? a=some ob/\ob.dict=none:=by
 cases x with
 | str z =>
  obtain ⟨t,rfl⟩:=r
  cases (show T = "str" from ty)
  exact ⟨typeIs_str s z t,fun _ e=>nomatch e⟩
 | int i =>
  obtain ⟨t,rfl⟩:=r
  cases (show T = "int" from ty)
  exact ⟨typeIs_int s i t,fun _ e=>nomatch e⟩
 | ref p =>
  cases r
  rcases ty with ⟨rfl,xs,hq⟩ | ⟨rfl,o,hk,hc,hd⟩ | ⟨rfl,hk⟩ | ⟨rfl,S,n,hk⟩
  ·obtain ⟨its,_,pl,_⟩:=I.list hq
   refine ⟨pl.isList.typeIs,fun a e=>?_⟩
   cases e
   obtain ⟨o,n,e,c,hd,_⟩:=pl
   exact ⟨o,e,hd⟩
  ·refine ⟨⟨o,I.kIn p o hk,hc⟩,fun a e=>?_⟩
   cases e
   exact ⟨o,I.kIn _ o hk,hd⟩
  ·have z:∃ o,s.heap.get? p=some o/\o.ExactDict:=by
    rcases hk with ⟨kvs,hk⟩ | ⟨kvs,hk⟩
    ·obtain ⟨_,_,_,_,o,_,_,e,ex,_⟩:=I.hok p _ hk
     exact ⟨o,e,ex⟩
    ·obtain ⟨_,_,_,_,o,_,_,e,ex,_⟩:=I.hok p _ hk
     exact ⟨o,e,ex⟩
   obtain ⟨o,e,ex⟩:=z
   refine ⟨⟨o,e,ex.1⟩,fun a e2=>?_⟩
   cases e2
   exact ⟨o,e,ex.2.1⟩
  ·obtain ⟨o,_,_,_,e,ex,_⟩:=I.hok p _ hk
   refine ⟨⟨o,e,ex.1⟩,fun a e2=>?_⟩
   cases e2
   exact ⟨o,e,ex.2.1⟩
 | _=>exact G9 ty
noncomputable def DK (K:Fc) (T:String) (r:V->List V->Hp->VK->Prop) (to:TE):TE:=fun σ H Q=>to σ H fun x H1=>Ba K T x H1/\r x [] H1 Q
noncomputable def Em (K:Fc) (T:String) (r:V->List V->Hp->VK->Prop) (to:TE) (t:TA):TE:=fun σ H Q=>to σ H fun x H1=>Ba K T x H1/\t σ H1 fun xs H2=>r x xs H2 Q
variable {o e:Hq} {es:List Hq} {to:TE} {t:TA} {name:Str} {apos cpos:Pos} {T id:String} {r:V->List V->Hp->VK->Prop}
theorem z9 (pa:PlainAttrs T) (slot:Slot T name id) (hty:typeOf (.builtin id)=pure (.type "method_descriptor")) (hm:Dn X id r) (ho:PE X o to)
  (hbase:attributeBase o name X.env (eval o X.env)=eval o X.env:=by rfl) (hline:(apos.endLine == cpos.line)=true:=by rfl):PE X (.Call (.Attribute o name apos) [] [] cpos) (DK X.K T r to):=by
 intro pins s σ H Q I h
 refine wpAny_Call_method0_late hbase hline (aG (ho pins s σ H _ I h) fun v s1 ⟨x,H1,I1,r1,ty,q1⟩=>?_)
 obtain ⟨h1,h2⟩:=uS I1 r1 ty
 exact ⟨T,id,pa,slot,hty,h1,h2,KF rfl (PySem.evalArgs_none (hm pins s1 σ H1 x [] v [] Q I1 r1 .nil q1))⟩
theorem cC (pa:PlainAttrs T) (slot:Slot T name id) (hty:typeOf (.builtin id)=pure (.type "method_descriptor")) (hm:Dn X id r) (ho:PE X o to) (ha:PA X (e::es) t)
  (hbase:attributeBase o name X.env (eval o X.env)=eval o X.env:=by rfl)
  (hfew:((backTo cpos (starEach (e::es) X.env)).all (fun x=>!x.1)&&(backToKw cpos (keywordEach [] X.env)).all (fun x=>x.1.isSome)
   && decide ((e::es).length+([]:List Keyword).length+(if ([]:List Keyword).isEmpty then 0 else 1) < 30))=true:=by rfl)
  (hline:(apos.endLine == cpos.line)=true:=by rfl) (hs:starEach (e::es) X.env=(false,eval e X.env)::starEach es X.env:=by rfl) (hplain:(backTo cpos (starEach es X.env)).any (·.1)=false:=by rfl) :
  PE X (.Call (.Attribute o name apos) (e::es) [] cpos) (Em X.K T r to t):=by
 intro pins s σ H Q I h
 refine wpAny_Call_method_late hbase hfew hline rfl (aG (ho pins s σ H _ I h) fun v s1 ⟨x,H1,I1,r1,ty,q1⟩=>?_)
 obtain ⟨h1,h2⟩:=uS I1 r1 ty
 refine ⟨T,id,pa,slot,hty,h1,h2,?_⟩
 have hA:=ha cpos pins s1 σ H1 _ I1 q1
 rw [hs] at hA |-
 refine KF (by show (false || (backTo cpos (starEach es X.env)).any (·.1))=false; rw [hplain]<;>rfl) (K3 ?_)
 exact aG hA fun us s2 ⟨vs,H2,I2,r2,q2⟩=>hm pins s2 σ H2 x vs v us Q I2 r1 r2 q2
end
end L2
namespace L2
open PySem PySem.Spec PyProof.Rows
def qh (X:Cx) (id:String) (r:V->List V->Hp->VK->Prop):Prop :=
 ∀ (pins:List (EK × Obj)) (s:Ez) (σ:St) (H:Hp) (x:V) (xs:List V) (v:Ey) (us:List Ey) (Q:VK),Inv X pins σ H s->RelV x v->Vals xs us->r x xs H Q ->
  wpAny (model X.prog X.w) X.A (call (.builtin id) (v::us)) (EP X pins σ Q) X.xe s
theorem Vals.one:∀ {x:V} {us:List Ey},Vals [x] us->∃ u,us=[u]/\RelV x u
 | _,_,.cons r .nil=>⟨_,rfl,r⟩
theorem Vals.zero:∀ {us:List Ey},Vals [] us->us=[]
 | _,.nil=>rfl
theorem Vals.dropLast {xs:List V} {us:List Ey} (h:Vals xs us):Vals xs.dropLast us.dropLast:=by
 induction h with
 | nil=>exact .nil
 | cons r t ih =>
  cases t with
  | nil=>exact .nil
  | cons q t'=>exact .cons r ih
theorem qH {α:Type} (l:List α):l.eraseIdx (l.length - 1)=l.dropLast:=by
 induction l with
 | nil=>rfl
 | cons a r ih =>
  cases r with
  | nil=>rfl
  | cons b r =>
   have e:(a::b::r).length - 1=((b::r).length - 1)+1:=by
    have h1:(a::b::r).length=r.length+2:=rfl
    have h2:(b::r).length=r.length+1:=rfl
    lia
   rw [e,List.eraseIdx_cons_succ,ih]
   all_goals rfl
section
variable {X:Cx} {pins:List (EK × Obj)} {σ:St} {H:Hp} {s:Ez} {l b:EK} {xs ys zs:List V}
theorem Inv.lset {its its':List Ey} {n:Nat} {f:Array Ey->Array Ey} {t':Nat} (I:Inv X pins σ H s) (hH:H l=some (.lst xs))
  (e:s.heap.get? l=some { cls:=.type "list",data:=.seq its.toArray n }) (hf:f its.toArray=its'.toArray) (hv:Vals ys its') (hz:ys.length<=sizeLine) :
  Inv X pins σ (upd H l (.lst ys)) { s with heap:=s.heap.update l (Fv f),toks:=t' }:=by
 have q:=PySem.IsL.update e f
 rw [hf] at q
 refine I.write (x:=l) (e:=l) (by rw [hH]; exact trivial) (.inl rfl) (fun b' u hb hu=>(E7 s.heap (Fv f) (G4 hb)).trans hu) ⟨_,q⟩ ?_
 exact ⟨hz,its',_,hv,q⟩
theorem Inv.lnew {its:List Ey} {t':Nat} (I:Inv X pins σ H s) (hv:Vals ys its) (hz:ys.length<=sizeLine) :
  Inv X pins σ (upd H s.heap.objs.size (.lst ys)) { s with heap:=s.heap.push { cls:=.type "list",data:=.seq its.toArray },toks:=t' } :=
 I.laid (fun _ _ q=>EB _ q) (EF _) ⟨hz,its,0,hv,Fd _ rfl⟩
theorem Inv.fresh (I:Inv X pins σ H s):H s.heap.objs.size=none:=I.hok.fresh (EF _)
theorem Inv.lstM (I:Inv X pins σ H s) (hH:H l=some (.lst xs)):xs.length<=sizeLine/\∃ (its:List Ey) (n:Nat),Vals xs its/\xs.length=its.length/\s.heap.get? l=some { cls:=.type "list",data:=.seq its.toArray n }:=by
 obtain ⟨z,its,n,r,e⟩:=I.hok l _ hH
 exact ⟨z,its,n,r,r.length,e⟩
theorem oH {n:Nat} (h:n<=sizeLine):Builtin.List.listTooLong n=false:=by
 unfold Builtin.List.listTooLong
 exact decide_eq_false (by lia)
end
section
variable {X:Cx}
noncomputable def yb:V->List V->Hp->VK->Prop:=fun x vs H Q=>∃ l xs y,x = .ref l/\vs=[y]/\H l=some (.lst xs)/\xs.length < sizeLine/\Q .non (upd H l (.lst (xs++[y])))
theorem bz:qh X "list.append" yb:=by
 intro pins s σ H x vs v us Q I rx rv h
 obtain ⟨l,xs,y,rfl,rfl,hH,hz,q⟩:=h
 cases rx
 obtain ⟨u,rfl,ru⟩:=rv.one
 obtain ⟨z,its,n,r,hl,e⟩:=I.lstM hH
 refine J6 F.slot_list_append ⟨_,e,rfl⟩ F.entry_list_append (F.args_list_append_2 _ _) (PySem.list_append l its.toArray n u (by rw [EZ]; lia)) ⟨e,?_⟩
 refine ⟨.non,_,I.lset (its':=its++[u]) hH e (by simp) (r.append (.cons ru .nil)) ?_,rfl,q⟩
 rw [EA,Jq]
 lia
noncomputable def pY:V->List V->Hp->VK->Prop:=fun x vs H Q=>∃ l b xs zs,x = .ref l/\vs=[.ref b]/\H l=some (.lst xs)/\H b=some (.lst zs)/\xs.length+zs.length<=sizeLine/\Q .non (upd H l (.lst (xs++zs)))
theorem mr:qh X "list.extend" pY:=by
 intro pins s σ H x vs v us Q I rx rv h
 obtain ⟨l,b,xs,zs,rfl,rfl,hH,hB,hz,q⟩:=h
 cases rx
 obtain ⟨u,rfl,ru⟩:=rv.one
 cases ru
 obtain ⟨z,its,n,r,hl,e⟩:=I.lstM hH
 obtain ⟨z2,its2,n2,r2,eV,e2⟩:=I.lstM hB
 have hsz:its.toArray.size+its2.toArray.size<=sizeLine:=by rw [EZ,EZ]; lia
 have hlong:¬ (!its.toArray.isEmpty&&Builtin.List.listTooLong (its.toArray.size+its2.toArray.size))=true:=by
  rw [oH hsz,ID]
  exact Fl
 refine J6 F.slot_list_extend ⟨_,e,rfl⟩ F.entry_list_extend (F.args_list_extend_2 _ _)
  (AutoSeq1.list_extend_list_list_0 l its.toArray n b its2.toArray n2 hlong (by rw [EZ]; lia) (by lia)) ⟨e,e2,?_⟩
 refine ⟨.non,_,I.lset (its':=its++its2) hH e (by simp) (r.append r2) ?_,rfl,q⟩
 rw [EA]
 lia
noncomputable def DE:V->List V->Hp->VK->Prop:=fun x vs H Q=>∃ l xs y,x = .ref l/\vs=[]/\H l=some (.lst xs)/\xs[xs.length - 1]? = some y/\Q y (upd H l (.lst xs.dropLast))
theorem Bm:qh X "list.pop" DE:=by
 intro pins s σ H x vs v us Q I rx rv h
 obtain ⟨l,xs,y,rfl,rfl,hH,hy,q⟩:=h
 cases rx
 have hus:=rv.zero
 subst hus
 obtain ⟨z,its,n,r,hl,e⟩:=I.lstM hH
 obtain ⟨u,hu,ru⟩:=r.get hy
 have hy':its.toArray[its.toArray.size - 1]? = some u:=by
  show its.toArray[its.length - 1]? = some u
  rw [<- Fu,<- hl]
  exact hu
 refine J6 F.slot_list_pop ⟨_,e,rfl⟩ F.entry_list_pop (F.args_list_pop_1 _) (MeetsSeq.list_pop_last l its.toArray n u hy' (by rw [EZ]; lia)) ⟨e,?_⟩
 refine ⟨y,_,I.lset (its':=its.dropLast) hH e ?_ r.dropLast ?_,ru,q⟩
 ·show its.toArray.eraseIdxIfInBounds (its.toArray.size - 1)=its.dropLast.toArray
  rw [EZ,List.eraseIdxIfInBounds_toArray,qH]
 ·rw [List.length_dropLast]
  lia
noncomputable def DI:R2:=fun x y H Q=>∃ l b xs zs,x = .ref l/\y = .ref b/\H l=some (.lst xs)/\H b=some (.lst zs)/\xs.length+zs.length<=sizeLine/\∀ p,H p=none->Q (.ref p) (upd H p (.lst (xs++zs)))
theorem dk:cJ X (binaryOp .Add) DI:=by
 intro pins s σ H x y v u Q I rx ry h
 obtain ⟨l,b,xs,zs,rfl,rfl,hH,hB,hz,q⟩:=h
 cases rx
 cases ry
 obtain ⟨z,its,n,r,hl,e⟩:=I.lstM hH
 obtain ⟨z2,its2,n2,r2,eV,e2⟩:=I.lstM hB
 refine PySem.P.add_list e e2 ?_ (by rw [EZ,EZ]; lia)
 have ea:its.toArray++its2.toArray=(its++its2).toArray:=by simp
 rw [ea]
 exact ⟨.ref _,_,I.lnew (t':=s.toks) (r.append r2) (by rw [EA]; lia),rfl,q _ I.fresh⟩
end
section
variable {prog:Fm} {w:FH} {A:FE} {E:Ey->Ez->Prop} {s:Ez}
set_option maxRecDepth 100000 in
end
section
variable {X:Cx}
end
end L2
namespace Att
open PySem PySem.W PySem.Calls PyProof.Rows
theorem kE {P:HG} {h:GP}:∀ (ns:List Int) (vs:List Ey),WellAll P h vs (ns.map WData.int)->Hf vs ns:=by
 intro ns
 induction ns with
 | nil =>
  intro vs w
  rw [Jp] at w
  cases w
  exact .nil
 | cons n ns ih =>
  intro vs w
  rw [E2] at w
  cases w with
  | cons a b =>
   cases a
   exact .cons _ _ (ih _ b)
theorem vc {l:OpenLaw} {n:Nat} (hn:l.most=some n) {P:HG} {h:GP} {args:List WData} {vals:List Ey}
  (hpre:l.row.toRowW.claim.pre args=true) (hwl:WellAll P h vals args) :
  ∃ a vs ns,vals=[E4 a]/\args=[WData.list (ns.map WData.int)]/\h.get? a=some { cls:=.type "list",data:=.seq vs.toArray }/\Hf vs ns/\ns.length<=n:=by
 have hsh:WShape.hasAll [] args [.list .int]=true:=(pre_splitW hpre).1
 have hc:l.pre.holds [] { args:=args }=true:=(pre_splitW hpre).2
 obtain ⟨d,r,rfl,h1,h2⟩:=hasAllW_cons hsh
 obtain rfl:=hasAllW_nil h2
 obtain ⟨xs,rfl,h3⟩:=hasW_list h1
 obtain ⟨ns,rfl⟩:=items_int h3
 have hlen:ns.length<=n:=by
  unfold OpenLaw.pre at hc
  have h4:(WTm.not (.lt (.lit (.int (n:Int))) (.len (.arg 0)))).holds [] { args:=[.list (ns.map .int)] }=true:=by
   have h4:=(holds_andW hc).1
   rw [hn] at h4
   exact h4
  have h5:=condW_of h4 (w_not (w_lt w_lit (w_len_list (w_arg rfl))))
  rw [Do] at h5
  refine Nat.le_of_not_lt fun q=>?_
  have q':(n:Int) < ((ns.length:Nat):Int):=by lia
  first
   | (rw [decide_eq_true q'] at h5; exact absurd h5 (by decide))
   | (simp at h5; lia)
 cases hwl with
 | cons w1 w2 =>
  cases w2
  cases w1 with
  | list ho hall=>exact ⟨_,_,ns,rfl,rfl,ho,kE ns _ hall,hlen⟩
theorem tS (l:OpenLaw) (args:List WData):l.row.toRowW.claim.post args (.bool true) args=true :=
 postW_of (r:=l.row.toRowW) (X:=(true == true))
  (show WShape.has [] (.bool true) .bool=true by first | rfl | decide | simp [WShape.has,WShape.arms,WShape.armsAll])
  (show (WTm.eq .res (.lit (.bool true))).value [] { args:=args,res:=some (.bool true),after:=args }=some (.bool (true == true)) from w_eq_bool (w_res rfl) w_lit) rfl
theorem attach_call {l:OpenLaw} {n:Nat} {q:Fm} {loose:List Str} {XP:(Str->Option Ey)->GP->Prop} {YP:FH->GP->Prop} {d:DefRec}
  (hn:l.most=some n) (hdf:d.params.defaults=[])
  (call:∀ (w:FH) (s₀ s₁:Ez) (mg mb:Str->Option Ey) (fa:EK) (o:Obj) (pm cd doc:Ey) (a:EK) (vs:List Ey) (ns:List Int),
   Ground q loose [] XP w s₀ mg mb s₁.heap->YP w s₁.heap ->
   s₁.heap.get? fa=some o->o.data = .func (docDef d.name d.params d.body d.scope pm cd doc)->s₁.heap.CodeRec cd d.name->mg d.name=some (.ref fa) ->
   s₁.heap.get? a=some { cls:=.type "list",data:=.seq vs.toArray }->Hf vs ns->ns.length<=n->s₁.gens = #[] ->
   codeAny (model l.prog w) callerA (.call (.ref fa) ⟨[.ref a],[]⟩) (fun r s'=>r = .ok (.ret (.bool true))/\OldK s₁.heap s'.heap/\s'.os=s₁.os/\Ke s'.gens) s₁) :
  WalkO q loose XP YP l.row.toRowW d [] (fun f vs=>PySem.call f vs):=by
 intro w s₀ s₁ mg mb G Y fa o pm cd doc dV kV ho hd hcd hD hmg hg args vals as hpre hlay hrd hwl hlo
 obtain rfl:dV = .none:=Dflts.none hD hdf
 obtain rfl:kV = .none:=Dflts.noKw hD
 obtain ⟨a,vs,ns,rfl,rfl,hobj,hints,hlen⟩:=vc hn hpre hwl
 refine enter_call (Ip (call w s₀ s₁ mg mb fa o pm cd doc a vs ns G Y ho (fd_plain hd) hcd hmg hobj hints hlen hg) fun r s' hq=>?_)
 obtain ⟨rfl,h2,h3,h4⟩:=hq
 exact ⟨.inl ⟨.bool true,.bool true,[],rfl,fun _=>rfl,.bool true,tS l _,fun _=>⟨Jh,fun _ hm=>(nomatch hm)⟩⟩,h2,h3,h4⟩
section
variable {prog:Fm} {w:FH} {A:FE} {E:Ey->Ez->Prop} {s:Ez} {K:Frag}
noncomputable def ledger (h:GP) (L d:EK):List (EK × Obj):=(EM h.objs.size).filterMap fun a=>if a=L\/a=d then none else (h.get? a).map fun o=>(a,o)
end
end Att
namespace L2
open PySem PySem.Spec PyProof.Rows
theorem mB:∀ {vs:List Ey} {ns:List Int},Hf vs ns->Vals (ns.map V.int) vs
 | _,_,.nil=>.nil
 | _,_,.cons n t h=>.cons ⟨t,rfl⟩ (mB h)
def rT (H:Hp):Prop:=∀ b,H b=none\/∃ o xs,H b=some (.frz o (.lst xs))
theorem vE {P:Fm} {w:FH} {K:Fc} {mg mb:Str->Option Ey} {CX:fL} {k:Nat} {fa a:EK} {fd:Ge} {x:Str} {sp:Sp} {s₁:Ez} {vs:List Ey} {ns:List Int}
  (KX:K.In s₁.heap) (hns:s₁.heap.Ns mainGlobals mg) (hb:s₁.heap.Ns builtinsNs mb) (hbb:∀ x:Str,x≠"__name__"->mb x=bootBuiltins x) (hlim:s₁.heap.NoLimit) (hg:s₁.gens = #[])
  (ha:s₁.heap.get? a=some { cls:=.type "list",data:=.seq vs.toArray }) (hi:Hf vs ns) (hl:ns.length<=sizeLine) (hr:bj k callerA)
  (F:∀ base:GP,K.In base->base.Ns mainGlobals mg->bA P w K mg base CX k fa fd [x] sp) (hbind:∀ (s:Ez) (u:Ey),BindsTo s fd ⟨[u],[]⟩ [(x,u)])
  (hsp:∀ H:Hp,rT H->aj K H a (ns.map V.int)->sp [.ref a] H (fun v _=>v = .bl true) fun _ _ _=>False)
  (hCX:∀ H e s',CX [] H s₁ (fun _ _ _=>False) e s'->False) :
  codeAny (model P w) callerA (.call (.ref fa) ⟨[.ref a],[]⟩) (fun r s'=>r = .ok (.ret (.bool true))/\OldK s₁.heap s'.heap/\s'.os=s₁.os/\Ke s'.gens) s₁:=by
 have rv:=mB hi
 have lenV:=hi.length
 -- from an abstract heap in which nothing but the script may be tracked
 have core:∀ H:Hp,rT H->aj K H a (ns.map V.int)->cD P w H s₁.heap->(∀ b,H b≠none->b=a)->(H a≠none->K.lookup a=none) ->
   codeAny (model P w) callerA (.call (.ref fa) ⟨[.ref a],[]⟩) (fun r s'=>r = .ok (.ret (.bool true))/\OldK s₁.heap s'.heap/\s'.os=s₁.os/\Ke s'.gens) s₁:=by
  intro H hO hS hok hA hK
  have base_of:∀ {b:EK} {o:Obj},s₁.heap.get? b=some o->H b=none->(hW s₁.heap H).get? b=some o:=fun e n=>vR e n
  have noA:∀ {b:EK} {o:Obj} {es:Array JI} {ep:Nat},s₁.heap.get? b=some o->o.data = .dict es ep->H b=none:=fun {b o es ep} e d=>by
   cases q:H b with
   | none=>rfl
   | some u =>
    have e':b=a:=hA b (by rw [q]; simp)
    subst e'
    rw [ha] at e; cases e
    have d':Data.seq vs.toArray _=Data.dict es ep:=d
    cases d'
  have nsK:∀ {b:EK} {m:Str->Option Ey},s₁.heap.Ns b m->(hW s₁.heap H).Ns b m:=fun {b m} ⟨o,es,ep,e,d,r⟩=>⟨o,es,ep,base_of e (noA e d),d,r⟩
  have hKb:K.In (hW s₁.heap H):=fun b o e=>base_of (KX b o e) (by
   cases q:H b with
   | none=>rfl
   | some u =>
    have e':b=a:=hA b (by rw [q]; simp)
    subst e'
    rw [hK (by rw [q]; simp)] at e; cases e)
  have hM:Mod K mg (hW s₁.heap H):=⟨hKb,nsK hns,⟨mb,nsK hb,hbb⟩,let ⟨mc,h1,h2⟩:=hlim; ⟨mc,nsK h1,h2⟩⟩
  have e0:jP P w K mg (hW s₁.heap H) callerA [] s₁ H:=⟨rfl,hM,fun b o e=>yH e,Nat.le_of_eq (tN _ _),trivial,fun b hb=>absurd (show b∈([]:List EK) from hb) (by simp),hok,.of_eq hg⟩
  refine Ip ((F _ hKb (nsK hns)).run callerA [] s₁ H ⟨[.ref a],[]⟩ [.ref a] [.ref a] _ _ hr e0 (hbind s₁ (.ref a)) (.cons rfl .nil) (hsp H hO hS)) fun r s' h=>?_
  cases r with
  | error e=>exact (hCX H e s' h).elim
  | ok fl =>
   cases fl with
   | next=>exact G9 h
   | brk=>exact G9 h
   | cont=>exact G9 h
   | ret u =>
    obtain ⟨v,H',os,bare,un,hok',r',q⟩:=h
    have q':v = .bl true:=q
    subst q'
    obtain rfl:u=KZ true:=r'
    refine ⟨rfl,OldK.of_keep fun b o e=>?_,os,bare⟩
    cases q:H b with
    | none=>exact un.keep b o e q (by intro z; exact absurd (show b∈([]:List EK) from z) (by simp)) (by simp)
    | some u =>
     rcases hO b with z | ⟨ob,xs,z⟩
     ·rw [q] at z; cases z
     ·have z2:=un.frzs b ob _ z
      obtain ⟨e1,_⟩:=hok b _ z
      obtain ⟨e2,_⟩:=hok' b _ z2
      rw [e] at e1; cases e1
      exact e2
 cases hk:K.lookup a with
 | some o =>
  -- the script is one of the module's own objects
  have e:=KX a o hk
  rw [ha] at e
  cases e
  refine core (fun _=>none) (fun _=>.inl rfl) (.inr ⟨_,vs.toArray,_,hk,rfl,rfl,rfl,by rw [EZ,lenV]; exact hl,by simpa using rv⟩) (fun b u z=>by have z':(none:Option HO)=some u:=z; cases z') (fun b z=>absurd rfl z) fun z=>absurd rfl z
 | none =>
  refine core (fun b=>if b=a then some (.frz { cls:=.type "list",data:=.seq vs.toArray } (.lst (ns.map V.int))) else none) (fun b=>?_) (.inl (.inr ⟨{ cls:=.type "list",data:=.seq vs.toArray },if_pos rfl⟩)) (fun b u z=>?_) (fun b z=>?_) fun _=>hk
  ·by_cases hb:b=a
   ·exact .inr ⟨_,_,if_pos hb⟩
   ·exact .inl (if_neg hb)
  ·by_cases hb:b=a
   ·have z':=(if_pos hb).symm.trans z
    cases z'
    subst hb
    exact ⟨ha,by rw [Do]; exact hl,vs,_,rv,ha⟩
   ·have z':=(if_neg hb).symm.trans z
    cases z'
  ·by_cases hb:b=a
   ·exact hb
   ·exact absurd (if_neg hb) z
end L2
namespace L2
open PySem PySem.Spec PyProof.Rows
noncomputable abbrev Ex {K:Fc} {h:GP} (_:K.In h):Fc:=K
theorem walk_of {l:W.OpenLaw} {n k:Nat} {q:Fm} {loose:List Str} {XP:(Str->Option Ey)->GP->Prop} {YP:FH->GP->Prop} {d:DefRec} {K:HG->Fi} {CX:FH->fL} {sp:FH->Sp} {x:Str}
  (hn:l.most=some n) (hn2:n<=sizeLine) (hdf:d.params.defaults=[]) (hr:bj k callerA)
  (hY:∀ (w:FH) (h:GP),YP w h->(K w.params).In h)
  (F:∀ (w:FH) (mg:Str->Option Ey) (fa:EK) (h:GP),(K w.params).In h->h.Ns mainGlobals mg->mg d.name=some (.ref fa) ->
   ∃ fd:Ge,(∀ (s:Ez) (u:Ey),BindsTo s fd ⟨[u],[]⟩ [(x,u)]) /\
    ∀ base:GP,(K w.params).In base->base.Ns mainGlobals mg->bA l.prog w (K w.params) mg base (CX w) k fa fd [x] (sp w))
  (hsp:∀ (w:FH) (H:Hp) (a:EK) (ns:List Int),ns.length<=n->rT H->aj (K w.params) H a (ns.map V.int)->sp w [.ref a] H (fun v _=>v = .bl true) fun _ _ _=>False)
  (hCX:∀ (w:FH) (H:Hp) (s:Ez) (e:Ey) (s':Ez),CX w [] H s (fun _ _ _=>False) e s'->False) :
  W.WalkO q loose XP YP l.row.toRowW d [] (fun f vs=>PySem.call f vs):=by
 refine Att.attach_call hn hdf fun w s₀ s₁ mg mb fa o pm cd doc a vs ns G Y ho hd hcd hmg hobj hints hlen hg=>?_
 have KX:=hY w _ Y
 obtain ⟨fd,hb,hF⟩:=F w mg fa _ KX G.T.g hmg
 exact vE KX G.T.g G.T.b G.T.builtins G.T.nolimit hg hobj hints (FN hlen hn2) hr hF hb (fun H hO hS=>hsp w H a ns hlen hO hS) fun H e s'=>hCX w H s₁ e s'
end L2
namespace L2
open PySem PySem.Spec PyProof.Rows
noncomputable def inClass (s:HI) (j:Nat):HI:=match s with
 | .ClassDef _ _ _ body _ _ _ _ _ _ _=>body.getD j (.Pass ⟨0,0,0,0⟩)
 | _=>.Pass ⟨0,0,0,0⟩
noncomputable def cV (s:HI):Arguments:=match s with
 | .FunctionDef _ a _ _ _ _ _ _ _ _=>a
 | _=>{ posonlyargs:=[],args:=[],vararg:=none,kwonlyargs:=[],kw_defaults:=[],kwarg:=none,defaults:=[] }
noncomputable def cq (s:HI):List HI:=match s with
 | .FunctionDef _ _ b _ _ _ _ _ _ _=>b
 | _=>[]
noncomputable def ar (s:HI):JR:=match s with
 | .FunctionDef _ _ _ _ _ _ sc _ _ _=>sc
 | _=>{ kind:=.function,names:=[],isGenerator:=false,isCoroutine:=false }
noncomputable abbrev kO:fL:=fun _ _ _ _ _ _=>False
noncomputable abbrev E0:XK:=fun _ _ _=>False
structure aR (K:Fi) (x qual:Str) (st:HI) (f:EK) (fd:Ge):Prop where
 ex:∃ (oc:Ey) (od:Option EK) (kV doc pm:Ey) (an:Option EK) (cdv ct:Ey) (osl:Array (Option Ey)),
  fd=Li x qual (cV st) (cq st) (ar st) .none kV doc pm an cdv ct/\K.lookup f=some ⟨oc,od,.func fd,osl⟩/\W.codeIn K cdv qual=true
 kp:W.keepIn K (.ref f)=true
section
variable {P:Fm} {w:FH} {K:Fi} {mg:Str->Option Ey} {base:GP}
theorem aR.ok {x qual:Str} {st:HI} {f:EK} {fd:Ge} {N ps:List Str} {k:Nat} {sp:Sp} (F:aR K x qual st f fd) (S:aw N ps (ar st)) (len:∀ vs H Q E,sp vs H Q E->vs.length=ps.length)
  (hbody:∀ (cdv:Ey) (A:FE) (outer:List Env) (s:Ez) (H:Hp) (vs:List V) (Q:VK) (E:XK),bj k (A.deeper (envOfC qual (ar st) s.heap.objs.size f cdv))->sp vs H Q E ->
   ∃ t,fM (fQ kO P w K mg base N qual (ar st) f cdv A outer s H E).nox (cq st) t/\t { nx:=fun _ H'=>Q .non H',rt:=Q } (start N vs) H):bA P w K mg base kO (k+1) f fd ps sp:=by
 obtain ⟨oc,od,kV,doc,pm,an,cdv,ct,osl,rfl,lk,hcd⟩:=F.ex
 refine xh lk hcd S len fun A outer s H vs Q E hr hsp=>?_
 obtain ⟨t,h,q⟩:=hbody cdv A outer s H vs Q E hr hsp
 exact ⟨t,h.nox,q⟩
theorem aR.binds {x qual:Str} {st:HI} {f:EK} {fd:Ge} {ps:List Str} (F:aR K x qual st f fd)
  (h:∀ (kV doc pm:Ey) (an:Option EK) (cdv ct:Ey) (us:List Ey),us.length=ps.length->bindArgs (Li x qual (cV st) (cq st) (ar st) .none kV doc pm an cdv ct) ⟨us,[]⟩=pure (ps.zip us)):Binds K fd ps []:=by
 obtain ⟨oc,od,kV,doc,pm,an,cdv,ct,osl,rfl,lk,hcd⟩:=F.ex
 exact .all (h kV doc pm an cdv ct)
theorem fun_mk {x qual:Str} {st:HI} {f:EK} {oc:Ey} {od an:Option EK} {osl:Array (Option Ey)} {kV doc pm cdv ct:Ey} (l:K.lookup f=some ⟨oc,od,.func (Li x qual (cV st) (cq st) (ar st) .none kV doc pm an cdv ct),osl⟩)
  (c:W.codeIn K cdv qual=true) (k:W.keepIn K (.ref f)=true):aR K x qual st f (Li x qual (cV st) (cq st) (ar st) .none kV doc pm an cdv ct):=⟨⟨oc,od,kV,doc,pm,an,cdv,ct,osl,rfl,l,c⟩,k⟩
end
theorem CC {A:FE} {k:Nat} (hr:bj k A):A.units+1 < cLine:=Hu (Nat.add_le_add_left (by decide:1<=64) _) hr.units
section
variable {X:Cx}
theorem pv (i:Nat) {x:Str} {pos:Pos} (hN:X.N[i]? = some x:=by rfl) (hv:xk X.env.scope x:=by first | exact Fs rfl | exact Ly (Fs rfl) | exact Ly (Ly rfl)) (hd:(x == ("__debug__" : Str))=false:=by decide)
  (hcd:(x == ("__classdict__" : Str))=false:=by decide):PE X (.Name x pos) (yO i):=zA hN hv hd hcd
end
theorem bH {A B:Prop} (h:B):if false=true then A else B:=by
 rw [if_neg Fl]
 exact h
theorem bg {A B:Prop} (h:A):if true=true then A else B:=by
 rw [if_pos rfl]
 exact h
theorem nX {c A B:Prop} [Decidable c] (h1:c->A) (h2:¬ c->B):if c then A else B:=by
 by_cases h:c
 ·rw [if_pos h]
  exact h1 h
 ·rw [if_neg h]
  exact h2 h
theorem qN {c A B:Prop} [Decidable c] (hc:c) (h:B):if (!decide c)=true then A else B:=by
 rw [decide_eq_true hc]
 exact bH h
def ae (H H':Hp):Prop:=∀ b o,H b=some o->H' b=some o
theorem ae.refl (H:Hp):ae H H:=fun _ _ h=>h
theorem ae.trans {H H1 H2:Hp} (a:ae H H1) (b:ae H1 H2):ae H H2:=fun c o h=>b c o (a c o h)
theorem ae.free {H H':Hp} (e:ae H H') {l:EK} (h:H' l=Kh):H l=Kh:=by
 cases q:H l with
 | none=>rfl
 | some o =>
  rw [e l o q] at h
  cases h
theorem ae.seq {K:Fi} {H H':Hp} {a:EK} {xs:List V} (e:ae H H') (h:aj K H a xs):aj K H' a xs:=by
 rcases h with (h | ⟨o,h⟩) | h
 ·exact .inl (.inl (e _ _ h))
 ·exact .inl (.inr ⟨o,e _ _ h⟩)
 ·exact .inr h
end L2
set_option maxHeartbeats 4000000
namespace L2
open PySem PySem.Spec PyProof.Rows
section
variable {X:Cx}
def xA (i j:Int):Prop:=0 < j/\j.natAbs.log2 < 9000
theorem gx:cJ X (binaryOp .FloorDiv) (rI xA fun i j=>.int (i / j)):=w8 fun i j _ _ _ _ _ hc q=>by
 have h1:(0:Int) < j:=hc.1
 exact floordiv_int (by lia) (by rw [Int.fdiv_eq_ediv_of_nonneg i (by lia)]; exact q) (.inl (PyProof.noPylong_of_log2 hc.2))
theorem v9 (hc:X.calm=true):cQ X (.builtin "sum") (fun xs H Q=>∃ (p:EK) (ns:List Int),xs=[.ref p]/\aj X.K H p (ns.map V.int)/\Q (.int ns.sum) H):=by
 intro pins s σ H xs us Q I r h
 obtain ⟨p,ns,rfl,hl,q⟩:=h
 obtain ⟨u,rfl,ru⟩:=vals1 r
 cases ru
 obtain ⟨its,r',pl,hz⟩:=I.list hl
 have hi:Hf its ns:=intsAre_of r'
 have hall:AllInts its.toArray:=hi.allInts
 obtain ⟨ys,e⟩:=hall.items
 have hl':s.heap.IsList p (intItems ys):=by rw [<- e]; exact pl.isList
 refine sum_intListG (I.ok.hd hc) hl' fun h' tk t' hk=>?_
 have e2:preSum (numAt ys) ys.size=ns.sum:=by
  have e3:numsOf (intItems ys).toList=ns:=by rw [<- e]; exact hi.numsOf
  rw [preSum_eq,EL (by simp),<- e3,nums_intItems]
 rw [e2]
 exact ⟨.int ns.sum,H,I.kept hk,⟨_,rfl⟩,q⟩
theorem bP:cQ X (.builtin "isinstance") (fun xs H Q=>∃ x c cv t b,xs=[x,c]/\(∀ u,RelV c u->u=cv)/\eL X.K H x t/\JB X.K t cv=some b/\Q (.bl b) H):=by
 intro pins s σ H xs us Q I r h
 obtain ⟨x,c,cv,t,b,rfl,hcv,ty,e,q⟩:=h
 obtain ⟨u,w',rfl,r1,r2⟩:=vals2 r
 rw [hcv w' r2]
 exact tR I r1 ty e fun tk=>⟨.bl b,H,I.tok _,rfl,q⟩
theorem cA {n:String}:∀ u,RelV (.ty n) u->u=HK n:=fun _ h=>h
end
theorem mP {α β:Type} {l:List α} {f:α->β->Sem (ForInStep β)} (g:β->α->β) (c:β) (h:∀ x∈l,∀ c,f x c=pure (.yield (g c x))) :
  forIn l c f=pure (l.foldl g c):=by
 induction l generalizing c with
 | nil=>rfl
 | cons x l ih =>
  rw [IW,h x Fe,pure_bind]
  exact ih _ fun y hy=>h y (EH _ hy)
noncomputable def oA (cells:List (Str × EK)) (names:List (Str × K0)) (acc:List (Str × EK)):List (Str × EK) :=
 names.foldl (fun cs y=>if y.2 == .free then (y.1,(cells.lookup y.1).getD 0)::cs else cs) acc
theorem rL {scope:JR} {env:Env} (h:∀ y∈scope.names,y.2 = .free->∃ c,env.cells.lookup y.1=some c):closureFor scope env=pure (oA env.cells scope.names []):=by
 simp only [closureFor]
 rw [mP (fun cs y=>if y.2 == .free then (y.1,(env.cells.lookup y.1).getD 0)::cs else cs) [] fun x hx c=>?_]
 ·rfl
 ·obtain ⟨n,k⟩:=x
  by_cases hk:k = .free
  ·subst hk
   obtain ⟨a,ea⟩:=h (n,.free) hx rfl
   have ea':env.cells.lookup n=some a:=ea
   simp only [beq_self_eq_true,if_true,cellOf,ea',pure_bind,Ie]
  ·have hb:(k == JC)=false:=by simpa using hk
   simp only [hb,EG,if_false]
theorem lookup_mem {α:Type}:∀ {l:List (Str × α)} {x:Str} {c:α},l.lookup x=some c->(x,c)∈l
 | [],_,_,h=>by simp at h
 | (y,d)::r,x,c,h=>by
  rw [List.lookup_cons] at h
  cases hx:x == y with
  | true =>
   rw [hx] at h
   have e:x=y:=by simpa using hx
   subst e
   cases h
   exact Fe
  | false =>
   rw [hx] at h
   exact EH _ (lookup_mem h)
theorem mem_lookup {α:Type}:∀ {l:List (Str × α)} {x:Str} {c:α},(x,c)∈l->∃ d,l.lookup x=some d
 | [],_,_,h=>by cases h
 | (y,d)::r,x,c,h=>by
  rw [List.lookup_cons]
  cases hx:x == y with
  | true=>exact ⟨d,rfl⟩
  | false =>
   rcases ET.mp h with e | h
   ·cases e; simp at hx
   ·exact mem_lookup h
theorem jS {cells:List (Str × EK)}:∀ {names:List (Str × K0)} {acc:List (Str × EK)} {p:Str × EK},p∈oA cells names acc↔p∈acc\/((p.1,JC)∈names/\p.2=(cells.lookup p.1).getD 0)
 | [],acc,p=>by simp [oA]
 | (n,k)::r,acc,p=>by
  show p∈oA cells r (if k == .free then (n,(cells.lookup n).getD 0)::acc else acc)↔_
  rw [jS (names:=r)]
  by_cases hk:k = .free
  ·subst hk
   simp only [beq_self_eq_true,if_true,ET]
   constructor
   ·rintro ((rfl | h) | h)
    ·exact .inr ⟨.inl rfl,rfl⟩
    ·exact .inl h
    ·exact .inr ⟨.inr h.1,h.2⟩
   ·rintro (h | ⟨h | h,e⟩)
    ·exact .inl (.inr h)
    ·obtain ⟨a,b⟩:=p
     cases h
     exact .inl (.inl (by rw [show b=_ from e]))
    ·exact .inr ⟨h,e⟩
  ·have hb:(k == JC)=false:=by simpa using hk
   simp only [hb,EG,if_false,ET]
   constructor
   ·rintro (h | h)
    ·exact .inl h
    ·exact .inr ⟨.inr h.1,h.2⟩
   ·rintro (h | ⟨h | h,e⟩)
    ·exact .inl h
    ·cases h; exact absurd rfl hk
    ·exact .inr ⟨h,e⟩
theorem gM {scope:JR} {env:Env} {x:Str} {k:K0} (h:(relabel scope env).names.lookup x=some k):∃ k',(x,k')∈scope.names/\(k'=k\/(k' = .free/\k = .cell)):=by
 have m:=lookup_mem h
 unfold relabel at m
 obtain ⟨⟨n,k'⟩,hm,e⟩:=ER.mp m
 dsimp only at e
 split at e
 ·rename_i hc
  rw [EW,EW] at hc
  have e1:n=x:=congrArg Lj e
  have e2:NameKind.cell=k:=congrArg Lw e
  subst e1 e2
  exact ⟨k',hm,.inr ⟨by simpa using hc.1.1,rfl⟩⟩
 ·have e1:n=x:=congrArg Lj e
  have e2:k'=k:=congrArg Lw e
  subst e1 e2
  exact ⟨k',hm,.inl rfl⟩
noncomputable def cg (X:Cx) (scope:JR) (N:List Str) (cl:List (Str × EK)) (C:EK) (s:Ez) (H:Hp) (fp:List EK) (xe:Ey->Ez->Prop):Cx :=
 { X with N:=N,s₀:=s,H₀:=H,env:=compEnvC scope cl C X.env,outer:=X.stack,stack:=X.stack,ex:=fp,fn:=fun _=>false,pn:=[],xe:=xe }
inductive fP (X:Cx) (scope:JR):List Str->List (Option Nat)->Prop where
 | nil:fP X scope [] []
 | own {x:Str} {N:List Str} {ix:List (Option Nat)} (r:fP X scope N ix):fP X scope (x::N) (none::ix)
 | cap {x:Str} {j:Nat} {N:List Str} {ix:List (Option Nat)} (h1:X.N[j]? = some x) (h2:X.env.kindOf x=some .cell) (h3:(relabel scope X.env).names.lookup x=some .cell) (r:fP X scope N ix):fP X scope (x::N) (some j::ix)
noncomputable def fk (ix:List (Option Nat)) (σ:St):St:=ix.map fun o=>match o with
 | none=>none
 | some j=>(σ[j]?).getD none
theorem fP.get {X:Cx} {scope:JR} {σ:St}:∀ {N:List Str} {ix:List (Option Nat)},fP X scope N ix->∀ (i:Nat) (x:Str) (v:V),N[i]? = some x->(fk ix σ)[i]? = some (some v) ->
  ∃ j:Nat,X.N[j]? = some x/\σ[j]? = some (some v)/\X.env.kindOf x=some .cell/\(relabel scope X.env).names.lookup x=some .cell
 | _,_,.nil,i,x,v,h,_=>by simp at h
 | _,_,.own r,0,x,v,_,h=>by simp [fk] at h
 | _,_,.own r,i+1,x,v,h1,h2=>r.get i x v (by simpa using h1) (by simpa [fk] using h2)
 | _,_,.cap (j:=j) e1 e2 e3 r,0,x,v,h1,h2=>by
  simp at h1
  subst h1
  refine ⟨j,e1,?_,e2,e3⟩
  simp only [fk,E2,HU,Option.some.injEq] at h2
  cases q:σ[j]? with
  | none=>rw [q] at h2; cases h2
  | some o=>rw [q] at h2; simp only [Ie] at h2; rw [h2]
 | _,_,.cap e1 e2 e3 r,i+1,x,v,h1,h2=>r.get i x v (by simpa using h1) (by simpa [fk] using h2)
theorem fP.length {X:Cx} {scope:JR} {N:List Str} {ix:List (Option Nat)} (h:fP X scope N ix):ix.length=N.length:=by
 induction h with
 | nil=>rfl
 | own _ ih=>simp [ih]
 | cap _ _ _ _ ih=>simp [ih]
def Ext (a b:St):Prop:=b.length=a.length/\∀ (i:Nat) v,a[i]? = some (some v)->b[i]? = some (some v)
theorem Ext.set {a:St} {i:Nat} {v:V} (h:a[i]? = some none):Ext a (a.set i (some v)):=by
 refine ⟨by simp,fun j w e=>?_⟩
 by_cases hj:j=i
 ·subst hj; rw [h] at e; cases e
 ·rw [Jy (G4 hj)]; exact e
theorem Ext.trans {a b c:St} (h:Ext a b) (h':Ext b c):Ext a c:=⟨h'.1.trans h.1,fun i v e=>h'.2 i v (h.2 i v e)⟩
def tq (X:Cx) (ifs:List Hq) (t:TT):Prop :=
 ∀ (pins:List (EK × Obj)) (s:Ez) (σ:St) (H:Hp) (Q:Bool->Hp->Prop),Inv X pins σ H s->t σ H Q ->
  wpAny (model X.prog X.w) X.A (forIn ifs true fun c r=>if r=true then do let ok <- isTrue c X.env (eval c X.env); pure (HN ok) else pure (HN r)) (TP X pins σ Q) X.xe s
noncomputable def xj:TT:=fun _ H Q=>Q true H
theorem bI {X:Cx}:tq X [] xj:=fun pins s σ H Q I h=>wpAny_tests_nil ⟨H,I,h⟩
theorem g7 {X:Cx} {c:Hq} {t:TT} (h:PT X c t):tq X [c] t:=fun pins s σ H Q I q=>wpAny_tests_one (h pins s σ H Q I q)
def kJ (J:It) (g:TG) (tt:TT) (te:TE) (σ0:St) (D:EK) (Q:VK) (H1:Hp):Prop:=∃ W:Nat->Nat->List V->Hp->Prop,(∃ m,W 0 m [] (upd H1 D (.lst [])))/\∀ i m ys H,W i m ys H ->
 (J.stop i H/\Q (.ref D) H)\/(J.go i H/\∀ x H',J.yld i H x H'->g x σ0 H' fun σ2 H2=>Ext σ0 σ2/\tt σ2 H2 fun b H3 =>
  if b=true then te σ2 H3 fun v H4=>H4 D=some (.lst ys)/\ys.length < sizeLine/\∃ m',m' < m/\W (i+1) m' (ys++[v]) (upd H4 D (.lst (ys++[v]))) else ∃ m',m' < m/\W (i+1) m' ys H3)
noncomputable def sY (wi:TI) (g:TG) (tt:TT) (te:TE) (ix:List (Option Nat)):TE:=fun σ H Q=>wi σ H fun J H1=>∀ D,H1 D=none->kJ J g tt te (fk ix σ) D Q H1
section
variable {prog:Fm} {w:FH} {A:FE} {R:Result->Ez->Prop} {s:Ez}
theorem tD {elt target iter:Hq} {ifs:List Hq} {scope:JR} {pos:Pos} {it acc:Ey} {env:Env} (I:Nat->Ez->Prop)
  (turn:∀ n s,I n s->wpAny (model prog w) A (pyNext it) (fun r s₁=>match r with
   | none=>R (.ok .next) s₁
   | some v=>wpAny (model prog w) A (letOwnedTupleGo target it v) (fun _ s₁'=>wpAny (model prog w) A (assign target env v) (fun _ s₂ =>
     wpAny (model prog w) A (forIn ifs true fun c r=>if r=true then do let ok <- isTrue c env (eval c env); pure (HN ok) else pure (HN r)) (fun ok s₃ =>
      if ok=true then wpAny (model prog w) A (eval elt env) (fun x s₄ =>
       wpAny (model prog w) A (call (.builtin "list.append") [acc,x]) (fun _ s₅=>∃ m,m < n/\I m s₅) (notedBy (model prog w) A env fun e s'=>R (.error e) s') s₄) (notedBy (model prog w) A env fun e s'=>R (.error e) s') s₃
      else ∃ m,m < n/\I m s₃) (notedBy (model prog w) A env fun e s'=>R (.error e) s') s₂) (notedBy (model prog w) A env fun e s'=>R (.error e) s') s₁') (notedBy (model prog w) A env fun e s'=>R (.error e) s') s₁) (notedBy (model prog w) A env fun e s'=>R (.error e) s') s)
  (n:Nat) (h:I n s):codeAny (model prog w) A (.compLoop (.ListComp elt [⟨target,iter,ifs,0⟩] scope pos) 0 it acc env) R s:=by
 refine codeAny_loop rfl I (fun n s hI=>?_) n h
 show wpAny _ A ((compTurn (.ListComp elt [⟨target,iter,ifs,0⟩] scope pos) 0 it acc env).onRaise (fun x=>do noteFrame x env; theTreesLotGoes x)) _ _ s
 refine wpAny_noted ?_
 rw [compTurn_list]
 refine mo (Kg (mo (G8 (turn n s hI) (fun r s₁ h₁=>?_) fun _ _ h'=>h')))
 cases r with
 | none=>exact EE h₁
 | some v =>
  refine mo (G8 h₁ (fun _ s₁' h₁'=>?_) fun _ _ h'=>h')
  refine mo (G8 h₁' (fun _ s₂ h₂=>mo (G8 h₂ (fun ok s₃ h₃=>?_) fun _ _ h'=>h')) fun _ _ h'=>h')
  cases ok with
  | false=>exact EE ⟨rfl,h₃⟩
  | true =>
   exact mo (mo (G8 h₃ (fun x s₄ h₄=>mo (G8 h₄ (fun _ s₅ h₅=>EE (EE ⟨rfl,h₅⟩)) fun _ _ h'=>h')) fun _ _ h'=>h'))
end
section
variable {X:Cx}
noncomputable def nG (sc:JR):Bool:=sc.names.all fun y=>y.2 != .cell
noncomputable def freeOk (sc:JR) (env:Env):Bool:=sc.names.all fun y=>y.2 != .free || env.kindOf y.1 == some .cell
noncomputable def namesOk (sc:JR):Bool:=sc.names.all fun y=>y.2 != .local || sc.names.lookup y.1 == some .local
structure hV (X:Cx) (pins:List (EK × Obj)) (σ:St) (H:Hp) (C:EK) (s:Ez):Prop where
 inv:Inv X pins σ H s
 ns:∃ m,s.heap.Ns C m
 free:H C=none
 loc:C≠X.env.locals
 young:X.s₀.heap.objs.size<=C
 cell:∀ x c,X.env.cells.lookup x=some c->c≠C
 pin:∀ p∈X.pn++pins,p.1≠C
theorem hV.gone {pins:List (EK × Obj)} {σ:St} {H:Hp} {C:EK} {s:Ez} (B:hV X pins σ H C s) {h':GP} (hs:IT C s.heap h'):Inv X pins σ H { s with heap:=h' } :=
 B.inv.turned (t':=s.toks) (it:=C) (fun b o hb e=>hs.extBut b o hb e) B.free B.loc (.inr B.young) B.cell B.pin
theorem lY {elt tg iter:Hq} {ifs:List Hq} {scope:JR} {pos pos':Pos} {N:List Str} {ix:List (Option Nat)} {wi:TI} {g:TG} {tt:TT} {te:TE} {use:Option (Ey->Sem Unit)} {Qv:Ey->Ez->Prop}
  (hc:X.calm=true) (hi:PI X tg iter wi) (hk:scope.kind = .function) (hcell0:nG scope=true) (hfree0:freeOk scope X.env=true) (hnames0:namesOk scope=true) (caps:fP X scope N ix)
  (hg:∀ cl C s H fp xe,PG (cg X scope N cl C s H fp xe) tg g) (ht:∀ cl C s H fp xe,tq (cg X scope N cl C s H fp xe) ifs tt) (he:∀ cl C s H fp xe,PE (cg X scope N cl C s H fp xe) elt te)
  (hs:∀ x,foldedSetIterable iter X.env x=pure x)
  {pins:List (EK × Obj)} {s:Ez} {σ:St} {H:Hp} {Q:VK} (I:Inv X pins σ H s) (h:sY wi g tt te ix σ H Q)
  (fin:∀ (C D:EK) (H6:Hp) (s6:Ez),hV X pins σ H6 C s6->Q (.ref D) H6->compPost (model X.prog X.w) X.A X.xe use Qv (.ref D) C (.ok .next) s6) :
  wpAny (model X.prog X.w) X.A (comprehension (.ListComp elt [⟨tg,iter,ifs,0⟩] scope pos) scope X.env pos' (newList []) false (eval iter X.env) use) Qv X.xe s:=by
 have hcell:∀ y∈scope.names,y.2≠.cell:=fun y hy e=>by
  have:=Fq.mp hcell0 y hy
  rw [e] at this; exact absurd this (by decide)
 have hfree:∀ y∈scope.names,y.2 = .free->X.env.kindOf y.1=some .cell:=fun y hy e=>by
  have:=Fq.mp hfree0 y hy
  rw [e] at this; simpa using this
 have hnames:∀ y∈scope.names,y.2 = .local->scope.names.lookup y.1=some .local:=fun y hy e=>by
  have:=Fq.mp hnames0 y hy
  rw [e] at this; simpa using this
 have hcl:∀ y∈scope.names,y.2 = .free->∃ c,X.env.cells.lookup y.1=some c:=fun y hy e=>I.ok.has y.1 (.inl (hfree y hy e))
 refine wpAny_comprehension_free (use:=use) rfl hs (rL hcl) hk hnames ?_
 generalize ecl:oA X.env.cells scope.names []=cl
 -- the cells of the block are the def's
 have cl1:∀ x c,cl.lookup x=some c->X.env.cells.lookup x=some c:=fun x c e=>by
  have m:=lookup_mem e
  rw [<- ecl] at m
  rcases jS.mp m with z | ⟨z,z'⟩
  ·cases z
  ·obtain ⟨a,ea⟩:=hcl _ z rfl
   have ea':X.env.cells.lookup x=some a:=ea
   have z2:c=(X.env.cells.lookup x).getD 0:=z'
   rw [ea',Ie] at z2
   rw [ea',z2]
 have cl2:∀ x,(x,JC)∈scope.names->∃ c,cl.lookup x=some c:=fun x hx=>by
  have m:(x,(X.env.cells.lookup x).getD 0)∈cl:=by rw [<- ecl]; exact jS.mpr (.inr ⟨hx,rfl⟩)
  exact mem_lookup m
 refine aG (hi pins s σ H _ I h) fun v s1 h1=>aG h1 fun itv s2 h2=>?_
 obtain ⟨it,fp,tn,J,H2,e,I2,T,st2,f2,body⟩:=h2
 subst e
 refine Hi (wpAny_newFunctionEnv hcell (by intro y hy; simp at hy) (fun h₁ hns₁ hsb₁=>?_) hk)
 dsimp only at hns₁ hsb₁ |-
 have hD:H2 s2.heap.objs.size=none:=I2.hok.fresh (EF _)
 obtain ⟨W,⟨m0,w0⟩,turn⟩:=body _ hD
 have I3:Inv X pins σ (upd H2 s2.heap.objs.size (.lst [])) { s2 with heap:=s2.heap.push { cls:=.type "list",dict:=none,data:=.seq ([]:List Ey).toArray } } :=
  I2.laid (t':=s2.toks) (fun b o e=>EB _ e) (EF _) ⟨EU _,[],0,.nil,Fd _ rfl⟩
 generalize hs3:({ s2 with heap:=s2.heap.push { cls:=.type "list",dict:=none,data:=.seq ([]:List Ey).toArray } }:Ez)=s3 at I3
 have es3:s2.heap.push { cls:=.type "list",dict:=none,data:=.seq ([]:List Ey).toArray }=s3.heap:=by rw [<- hs3]
 rw [es3] at hns₁ hsb₁ |-
 generalize hD':s2.heap.objs.size=D at *
 generalize hH3:upd H2 D (.lst [])=H3 at *
 have szC:s3.heap.objs.size=D+1:=by rw [<- es3,GC,hD']
 -- what was,is
 have old:∀ b o,s3.heap.get? b=some o->h₁.get? b=some o:=fun b o e=>hsb₁.extBut b o (Fn (EV e)) (EB _ e)
 have fpl:∀ b∈fp,b < D:=fun b hb=>by
  obtain ⟨o,e,_⟩:=T.obj 0 _ st2 b hb
  rw [<- hD']; exact EV e
 have fpD:∀ b∈fp,H3 b=none:=fun b hb=>by
  rw [<- hH3,upd_ne (Fn (fpl b hb))]; exact (f2 b hb).1
 have fstk:∀ b∈fp,b∉bV X.stack:=fun b hb z=>by
  obtain ⟨_,f1,f3,_⟩:=f2 b hb
  rcases ET.mp (I2.stkSub b z) with e | e
  ·exact f1 e
  ·exact f3 e
 let E':Ey->Ez->Prop:=notedBy (model X.prog X.w) X.A (compEnvC scope cl s3.heap.objs.size X.env) fun e s'=>compPost (model X.prog X.w) X.A X.xe use Qv (.ref D) s3.heap.objs.size (.error e) s'
 have ok':(cg X scope N cl s3.heap.objs.size s3 H3 fp E').Ok:=by
  refine { mod:=I.ok.mod,kind:=?_,glob:=I.ok.glob,blt:=I.ok.blt,above:=EF _,inj:=?_,has:=?_,cab:=?_,hd:=I.ok.hd,frames:=I.ok.frames,stk:=.inl rfl,exf:=?_,bs:=I3.bs,bsz:=?_,noex:=?_,exfs:=fstk,funs:=I3.stack,frf:=I3.stkFree }
  ·show (relabel scope X.env).kind = .function
   exact hk
  ·exact fun x y c e1 e2=>I.ok.inj x y c (cl1 x c e1) (cl1 y c e2)
  ·intro x hx
   have hx':(relabel scope X.env).names.lookup x=some .cell\/(relabel scope X.env).names.lookup x=some .free:=hx
   have:(x,JC)∈scope.names:=by
    rcases hx' with e | e
    ·obtain ⟨k',hm,z | ⟨z,_⟩⟩:=gM e
     ·subst z; exact absurd rfl (hcell _ hm)
     ·subst z; exact hm
    ·obtain ⟨k',hm,z | ⟨z,z'⟩⟩:=gM e
     ·subst z; exact hm
     ·cases z'
   exact cl2 x this
  ·intro x c z; cases z
  ·intro b hb
   refine ⟨fun z=>?_,fun x c e=>(f2 b hb).2.2.2.2.1 x c (cl1 x c e)⟩
   have lt:=fpl b hb
   have z':b=s3.heap.objs.size:=z
   rw [z',szC] at lt
   exact absurd lt (Nat.not_lt.mpr (Hz D))
  ·exact FN I3.ok.bsz I3.sz
  ·intro b o e hb
   rcases (f2 b hb).2.2.2.1 with z | z
   ·exact I.ok.noex b o e z
   ·exact absurd (Fj (EV e) (FN I.ok.bsz z)) (FT _)
 have I4:∀ tk,Inv (cg X scope N cl s3.heap.objs.size s3 H3 fp E') [] (fk ix σ) H3 { s3 with heap:=h₁,toks:=tk }:=fun tk=>by
  refine ⟨ok',rfl,I3.bare,Un.kept old,⟨_,hns₁,fun i x v e1 e2 e3=>?_⟩,fun x c e=>?_,?_,fun x c e=>I3.freeC x c (cl1 x c e),fun p hp=>(by cases hp),I3.hok.kept old,?_⟩
  ·obtain ⟨j,j1,j2,j3,j4⟩:=caps.get i x v e1 e2
   obtain ⟨m,hn,hl⟩:=I3.loc
   obtain ⟨u,r,l⟩:=hl j x v j1 j2 (.inr (.inl j3))
   refine ⟨u,r,.inr ⟨.inl j4,?_⟩⟩
   rcases l with ⟨l,_⟩ | ⟨_,c,ec,hcell⟩
   ·have l':X.env.kindOf x=some .local:=l
    rw [j3] at l'; cases l'
   ·obtain ⟨k',hm,z | ⟨z,_⟩⟩:=gM j4
    ·subst z; exact absurd rfl (‹∀ y∈scope.names,y.2≠.cell› _ hm)
    ·subst z
     obtain ⟨c',ec'⟩:=cl2 x hm
     have:=cl1 x c' ec'
     rw [ec] at this; cases this
     obtain ⟨o,ho,hd⟩:=hcell
     exact ⟨c,ec',o,old _ _ ho,hd⟩
  ·obtain ⟨v,o,ho,hd⟩:=I3.cell x c (cl1 x c e)
   exact ⟨v,o,old _ _ ho,hd⟩
  ·exact I3.hok.fresh (EF _)
  ·show (fk ix σ).length=N.length
   rw [<- caps.length]; simp [fk]
 have st4:tn 0 h₁:=T.keep 0 _ _ st2 fun b hb o e=>old b o (by rw [<- es3]; exact EB _ e)
 -- the block's end
 have fin6:∀ (s6:Ez) (H6:Hp),Inv (cg X scope N cl s3.heap.objs.size s3 H3 fp E') [] (fk ix σ) H6 s6->Q (.ref D) H6 ->
   compPost (model X.prog X.w) X.A X.xe use Qv (.ref D) s3.heap.objs.size (.ok .next) s6:=fun s6 H6 I6 q=>by
  obtain ⟨m,hn,_⟩:=I6.loc
  refine fin s3.heap.objs.size D H6 s6 ⟨I3.call' (s':=s6) (ch:=fp) I6.os I6.base I6.hok I6.bare ?_,⟨m,hn⟩,I6.free,?_,I3.sz,?_,?_⟩ q
  ·intro b hb
   obtain ⟨_,f1,_,f3,f4,f5⟩:=f2 b hb
   exact ⟨f3,f1,f4,f5⟩
  ·exact IU I3.lt
  ·intro x c e z
   obtain ⟨v,o,ho,_⟩:=I3.cell x c e
   exact absurd (EV ho) (by rw [z]; exact FT _)
  ·intro p hp z
   exact absurd (EV (I3.pin p hp).1) (by rw [z]; exact FT _)
 -- the loop
 have loop:∀ s4:Ez,s4={ s3 with heap:=h₁,toks:=s2.toks+([]:List (Str × Ey)).length } ->
   codeAny (model X.prog X.w) X.A (.compLoop (.ListComp elt [⟨tg,iter,ifs,0⟩] scope pos) 0 (.ref it) (.ref D) (compEnvC scope cl s3.heap.objs.size X.env)) (compPost (model X.prog X.w) X.A X.xe use Qv (.ref D) s3.heap.objs.size) s4:=by
  rintro s4 rfl
  refine tD (fun n s'=>∃ i ys H',Inv (cg X scope N cl s3.heap.objs.size s3 H3 fp E') [] (fk ix σ) H' s'/\tn i s'.heap/\(∀ b∈fp,H' b=none)/\W i n ys H') ?_ m0 ⟨0,[],H3,I4 _,st4,fpD,w0⟩
  rintro n s5 ⟨i,ys,H5,I5,st5,fr5,w5⟩
  have stat:∀ {H':Hp},(∀ b∈fp,H' b=none)->∀ b∈fp,jZ (cg X scope N cl s3.heap.objs.size s3 H3 fp E') [] H' b:=fun hn b hb=>by
   refine ⟨hn b hb,fun z=>?_,fstk b hb,.inl hb,fun x c e=>(f2 b hb).2.2.2.2.1 x c (cl1 x c e),fun p hp=>(by cases hp)⟩
   have lt:=fpl b hb
   have z':b=s3.heap.objs.size:=z
   rw [z',szC] at lt
   exact absurd lt (Nat.not_lt.mpr (Hz D))
  rcases turn i n ys H5 w5 with ⟨stop,q⟩ | ⟨go,step⟩
  ·refine aG (T.done (cg X scope N cl s3.heap.objs.size s3 H3 fp E') rfl rfl rfl hc i [] s5 _ H5 E' I5 (stat fr5) st5 stop) fun r s6 ⟨hr,I6⟩=>?_
   subst hr
   exact fin6 s6 H5 I6 q
  ·refine aG (T.item (cg X scope N cl s3.heap.objs.size s3 H3 fp E') rfl rfl rfl hc i [] s5 _ H5 E' I5 (stat fr5) st5 go) fun r s6 ⟨u,hr,h6⟩=>?_
   subst hr
   refine aG h6 fun _ s7 ⟨x,H7,I7,r7,y7,st7,fr7⟩=>?_
   have I7':=I7.pinned (stat fr7) (T.obj _ _ st7)
   refine aG (hg cl s3.heap.objs.size s3 H3 fp E' _ s7 _ H7 x u _ I7' r7 (step x H7 y7)) fun _ s8 ⟨σ8,H8,I8,ext,q8⟩=>?_
   have again:∀ {σ9:St} {H9:Hp} {s9:Ez} {m':Nat} {zs:List V},Ext (fk ix σ) σ9->Inv (cg X scope N cl s3.heap.objs.size s3 H3 fp E') ([]++iL fp s7.heap) σ9 H9 s9->m' < n->W (i+1) m' zs H9 ->
     ∃ m,m < n/\∃ i ys H',Inv (cg X scope N cl s3.heap.objs.size s3 H3 fp E') [] (fk ix σ) H' s9/\tn i s9.heap/\(∀ b∈fp,H' b=none)/\W i m ys H':=fun {σ9 H9 s9 m' zs} ex I9 hm w9=>by
    refine ⟨m',hm,i+1,zs,H9,(I9.unpinned).weak ex.1.symm ex.2,T.keep _ _ _ st7 fun b hb o e=>(I9.pin (b,o) (FF _ (FF _ (fY hb e)))).1,fun b hb=>?_,w9⟩
    obtain ⟨o,e,d⟩:=T.obj _ _ st7 b hb
    exact (I9.pin (b,o) (FF _ (FF _ (fY hb e)))).2.1
   refine aG (ht cl s3.heap.objs.size s3 H3 fp E' _ s8 σ8 H8 _ I8 q8) fun ok s9 ⟨H9,I9,q9⟩=>?_
   cases ok with
   | false =>
    obtain ⟨m',hm,w9⟩:=q9
    exact again ext I9 hm w9
   | true =>
    refine aG (he cl s3.heap.objs.size s3 H3 fp E' _ s9 σ8 H9 _ I9 q9) fun u10 s10 ⟨v10,H10,I10,r10,hDl,hlt,m',hm,w10⟩=>?_
    refine aG (bz (X:=cg X scope N cl s3.heap.objs.size s3 H3 fp E') _ s10 σ8 H10 (.ref D) [v10] (.ref D) [u10] (fun _ H'=>H'=upd H10 D (.lst (ys++[v10]))) I10 rfl (.cons r10 .nil) ⟨D,ys,v10,rfl,rfl,hDl,hlt,rfl⟩) fun _ s11 ⟨_,H11,I11,_,e11⟩=>?_
    subst e11
    exact again ext I11 hm w10
 exact codeAny_compStart_list (loop _ (by rw [<- hs3])) (T.self _ 0 _ _ _ st4 (loop _ (by rw [<- hs3])))
theorem bG {elt tg iter:Hq} {ifs:List Hq} {scope:JR} {pos:Pos} {N:List Str} {ix:List (Option Nat)} {wi:TI} {g:TG} {tt:TT} {te:TE}
  (hc:X.calm=true) (hi:PI X tg iter wi) (hk:scope.kind = .function) (hcell0:nG scope=true) (hfree0:freeOk scope X.env=true) (hnames0:namesOk scope=true) (caps:fP X scope N ix)
  (hg:∀ cl C s H fp xe,PG (cg X scope N cl C s H fp xe) tg g) (ht:∀ cl C s H fp xe,tq (cg X scope N cl C s H fp xe) ifs tt) (he:∀ cl C s H fp xe,PE (cg X scope N cl C s H fp xe) elt te)
  (hs:∀ x,foldedSetIterable iter X.env x=pure x:=by intro _; rfl) :
  PE X (.ListComp elt [⟨tg,iter,ifs,0⟩] scope pos) (sY wi g tt te ix):=by
 intro pins s σ H Q I h
 rw [eval_ListComp]
 refine lY (use:=none) hc hi hk hcell0 hfree0 hnames0 caps hg ht he hs I h fun C D H6 s6 B q=>?_
 obtain ⟨m,hn⟩:=B.ns
 exact ⟨m,hn,fun h' hsb=>⟨.ref D,H6,B.gone hsb,rfl,q⟩⟩
noncomputable def CM (i:Nat) (te:TE):TS:=fun D σ H=>te σ H fun x H1=>D.nx (σ.set i (some x)) H1
theorem fW {i:Nat} {y:Str} {py:Pos} {spos:Pos} {elt tg iter:Hq} {ifs:List Hq} {scope:JR} {pos:Pos} {N:List Str} {ix:List (Option Nat)} {wi:TI} {g:TG} {tt:TT} {te:TE}
  (hN:X.N.Nodup) (hi':X.N[i]? = some y) (hx:Loc X.env.scope y) (hsw:swapsWith (.ListComp elt [⟨tg,iter,ifs,0⟩] scope pos) (some (.Name y py)) spos.line X.env=pure true)
  (hc:X.calm=true) (hi:PI X tg iter wi) (hk:scope.kind = .function) (hcell0:nG scope=true) (hfree0:freeOk scope X.env=true) (hnames0:namesOk scope=true) (caps:fP X scope N ix)
  (hg:∀ cl C s H fp xe,PG (cg X scope N cl C s H fp xe) tg g) (ht:∀ cl C s H fp xe,tq (cg X scope N cl C s H fp xe) ifs tt) (he:∀ cl C s H fp xe,PE (cg X scope N cl C s H fp xe) elt te)
  (hs:∀ x,foldedSetIterable iter X.env x=pure x:=by intro _; rfl) (hf:X.fn y=true\/X.env.scope.names.lookup y=some .local:=by first | exact .inl rfl | exact .inr rfl | assumption) :
  PS X (.Assign [.Name y py] (.ListComp elt [⟨tg,iter,ifs,0⟩] scope pos) spos) (CM i (sY wi g tt te ix)):=by
 intro pins s σ H D I h
 rw [exec_Assign_Name_used _ _ _ _ hsw]
 refine mo (Kg (mo ?_))
 show wpAny _ X.A (do let _ <- comprehension (.ListComp elt [⟨tg,iter,ifs,0⟩] scope pos) scope X.env _ (newList []) false (eval iter X.env) (some (assign (.Name y py) X.env))) _ _ s
 refine mo (G8 (lY (use:=some (assign (.Name y py) X.env)) (Qv:=fun _ s'=>SP X pins D .next s') hc hi hk hcell0 hfree0 hnames0 caps hg ht he hs I h fun C a H6 s6 B q=>?_) (fun _ s' hq=>EE (EE hq)) fun _ _ e=>e)
 obtain ⟨m,hn⟩:=B.ns
 show wpAny _ X.A (assign (.Name y py) X.env (.ref a)) _ _ s6
 refine wpAny_assign_Name (lQ B.inv hN hi' hx (v:=.ref a) rfl (fun s7 I7 ⟨z,hz,hz'⟩=>?_) hf)
 have hzC:C≠z:=by
  rcases hz' with e | e
  ·rw [e]; exact B.loc
  ·exact fun w=>B.cell y z e w.symm
 refine ⟨m,hn.sameBut hz hzC,fun h' hsb=>?_⟩
 have B7:hV X pins (σ.set i (some (.ref a))) H6 C s7:=⟨I7,⟨m,hn.sameBut hz hzC⟩,B.free,B.loc,B.young,B.cell,B.pin⟩
 exact ⟨_,H6,B7.gone hsb,q⟩
theorem rY {lo:Int} {n:Nat} {g:TG} {tt:TT} {te:TE} {σ0:St} {H:Hp} {D:EK} {Q:VK} (f:Nat->V) (hz:n<=sizeLine)
  (hs:∀ (i:Nat) (H':Hp) (R:VK) (R0:Hp->Prop),i < n->(∀ b,b≠D->H' b=H b)->R (f i) H'->g (.int (lo+i)) σ0 H' fun σ2 H2=>Ext σ0 σ2/\tt σ2 H2 fun b H3=>if b=true then te σ2 H3 R else R0 H3)
  (hq:Q (.ref D) (upd H D (.lst ((EM n).map f)))) :
  kJ (mq lo n) g tt te σ0 D Q H:=by
 refine ⟨fun i m ys H'=>m=n - i/\i<=n/\ys=(EM i).map f/\H'=upd H D (.lst ys),⟨n,by simp,EU _,rfl,rfl⟩,?_⟩
 rintro i m ys H' ⟨rfl,hi,rfl,rfl⟩
 by_cases hlt:i < n
 ·refine .inr ⟨hlt,fun x H'' y=>?_⟩
  obtain ⟨e,y⟩:=y
  subst e y
  refine hs i _ _ _ hlt (fun b hb=>upd_ne hb) ⟨upd_same,by simp; lia,n - (i+1),by lia,rfl,hlt,?_,?_⟩
  ·rw [GQ,ED]; rfl
  ·rw [lM]
 ·have e:i=n:=by lia
  subst e
  exact .inl ⟨EF _,hq⟩
theorem eJ {K:Fi} {a:EK} {xs:List V} {g:TG} {tt:TT} {te:TE} {σ0:St} {H:Hp} {D:EK} {Q:VK} (f:V->V) (hz:xs.length<=sizeLine) (hx:aj K H a xs) (hD:H D=none)
  (hs:∀ (i:Nat) (x:V) (H':Hp) (R:VK) (R0:Hp->Prop),xs[i]? = some x->(∀ b,b≠D->H' b=H b)->R (f x) H'->g x σ0 H' fun σ2 H2=>Ext σ0 σ2/\tt σ2 H2 fun b H3=>if b=true then te σ2 H3 R else R0 H3)
  (hq:Q (.ref D) (upd H D (.lst (xs.map f)))) :
  kJ (mY K a) g tt te σ0 D Q H:=by
 have stays:∀ ys:List V,aj K (upd H D (.lst ys)) a xs:=fun ys=>by
  have sm:ae H (upd H D (.lst ys)):=fun b u q=>by rw [upd_ne (aq q hD)]; exact q
  exact sm.seq hx
 refine ⟨fun i m ys H'=>m=xs.length - i/\i<=xs.length/\ys=(xs.take i).map f/\H'=upd H D (.lst ys),⟨xs.length,by simp,EU _,by simp,rfl⟩,?_⟩
 rintro i m ys H' ⟨rfl,hi,rfl,rfl⟩
 by_cases hlt:i < xs.length
 ·refine .inr ⟨⟨xs,xs[i],stays _,by simp [hlt]⟩,fun x H'' y=>?_⟩
  obtain ⟨e,y⟩:=y
  subst e
  have ex:=y xs (stays _)
  refine hs i x _ _ _ ex (fun b hb=>upd_ne hb) ⟨upd_same,by simp; lia,xs.length - (i+1),by lia,rfl,hlt,?_,?_⟩
  ·rw [E3,ex,ED]; rfl
  ·rw [lM]
 ·have e:i=xs.length:=by lia
  subst e
  refine .inl ⟨⟨xs,stays _,EF _⟩,?_⟩
  rw [Ig]
  exact hq
end
end L2
namespace L2
open PySem PySem.Spec PyProof.Rows
section
variable {P:Fm} {w:FH} {H:Hp} {h h':GP} {a:EK} {o:HO}
theorem bR.there (x:bR P w H h a o):∃ u,h.get? a=some u:=by
 cases o with
 | lst xs=>obtain ⟨_,_,_,_,e⟩:=x; exact ⟨_,e⟩
 | tup xs=>obtain ⟨_,_,_,_,e,_⟩:=x; exact ⟨_,e⟩
 | dK kvs=>obtain ⟨_,_,_,_,_,_,_,e,_⟩:=x; exact ⟨_,e⟩
 | dT kvs=>obtain ⟨_,_,_,_,_,_,_,e,_⟩:=x; exact ⟨_,e⟩
 | set S n=>obtain ⟨_,_,_,_,e,_⟩:=x; exact ⟨_,e⟩
 | ins C dx fs=>obtain ⟨_,_,_,e,_⟩:=x; exact ⟨_,e⟩
 | own y=>obtain ⟨_,e⟩:=x; exact ⟨_,e⟩
 | xd fs=>obtain ⟨_,⟨_,_,_,e,_⟩,_⟩:=x; exact ⟨_,e⟩
 | rng lo hi=>obtain ⟨_,_,_,e⟩:=x; exact ⟨_,e⟩
 | frz ob u=>obtain ⟨e,_⟩:=x; exact ⟨_,e⟩
 | tbl ps=>exact ⟨_,show h.get? a=some _ from x⟩
 | met f y=>exact ⟨_,show h.get? a=some _ from x⟩
 | ext φ=>obtain ⟨_,e,_⟩:=x; exact e
theorem cD.none (x:cD P w H h) (e:h.get? a=Kh):H a=Kh:=by
 cases q:H a with
 | none=>rfl
 | some u =>
  obtain ⟨v,z⟩:=(x a u q).there
  rw [e] at z; cases z
theorem cD.part (x:cD P w H h) (k:∀ b o,H b≠Kh->h.get? b=some o->h'.get? b=some o):cD P w H h':=fun b u e=>by
 refine (x b u e).stay (fun c v hc q=>k c v ?_ q) (fun _ q=>q) fun _ _ q=>q
 intro z
 rcases hc with rfl | hc
 ·rw [z] at e; cases e
 ·rw [z] at hc; cases hc
end
def u5 (h:GP) (e T:EK) (cls:Ey) (od:Option EK) (fl:Ey):Prop:=∃ oe vs oT ts,h.get? e=some oe/\oe.cls=cls/\oe.data = .fields vs/\vs[1]? = some (.ref T)/\T≠e/\h.get? T=some oT/\oT.data = .fields ts/\ts[3]? = some fl/\∀ d,od=some d->oe.dict=some d
noncomputable abbrev Tr (h:GP) (e T:EK) (cls:Ey) (od:Option EK):Prop:=u5 h e T cls od .none
structure Kept (l:List Env) (ch:List EK) (h h':GP):Prop where
 keep:∀ b o,b∉bV l->b∉ch->h.get? b=some o->h'.get? b=some o
 slot:∀ b o,b∈bV l->h.get? b=some o->∃ sl,h'.get? b=some { o with slots:=sl }
theorem Kept.trans {l:List Env} {ch:List EK} {h h1 h2:GP} (a:Kept l ch h h1) (b:Kept l ch h1 h2):Kept l ch h h2 :=
 ⟨fun c o h1 h2 q=>b.keep c o h1 h2 (a.keep c o h1 h2 q),fun c o hm q=>by
  obtain ⟨sl,e⟩:=a.slot c o hm q
  obtain ⟨sl',e'⟩:=b.slot c _ hm e
  exact ⟨sl',e'⟩⟩
section
variable {M:Model} {A:FE} {E:Ey->Ez->Prop} {s:Ez} {Q:Unit->Ez->Prop} {base:GP} {env:Env} {outer l:List Env} {L e T:EK} {cls:Ey}
theorem wY (hl:s.heap.FunFrames base l) {b:EK} {o:Obj} (hb:b∈bV l) (q:s.heap.get? b=some o):∀ vs,o.data≠.fields vs:=by
 obtain ⟨_,o',ho,hd⟩:=hl.mem hb
 rw [q] at ho; cases ho; exact hd
theorem ma (f:Array Ey->Array Ey) (o:Obj):(o.mapFields f).dict=o.dict:=by
 obtain ⟨c,d,dt,sl⟩:=o
 cases dt<;>rfl
theorem Kept.sub {ch ch':List EK} {h h':GP} (k:Kept l ch h h') (f:∀ b o,h.get? b=some o->b∈ch->b∈ch'):Kept l ch' h h' :=
 ⟨fun b o hb hc q=>k.keep b o hb (fun z=>hc (f b o q z)) q,k.slot⟩
theorem j5 {h:GP} {b:EK} (f:Obj->Obj) (hn:b∉bV l):Kept l [b] h (h.update b f) :=
 ⟨fun c o _ hc q=>(E7 _ _ (fun z=>hc (by rw [<- z]; exact FY.mpr rfl))).trans q,
  fun c o hm q=>⟨o.slots,(E7 _ _ (fun z=>hn (by rw [z]; exact hm))).trans q⟩⟩
theorem pM {oe:Obj} {vs:Array Ey} {head:Ey} {hadNext:Bool} (hfr:A.frames=some (env::outer)) (hl:s.heap.FunFrames base (env::outer)) (hf:env.frame=some L) (he:s.heap.get? e=some oe) (hd:oe.data = .fields vs) (hz:1 < vs.size)
  (hQ:∀ h' T',h'.get? e=some (oe.mapFields (·.setIfInBounds 1 (.ref T')))->s.heap.get? T'=none->T'≠e->(∃ oT ts,h'.get? T'=some oT/\oT.data = .fields ts/\ts[3]? = some (rawInt L))->Kept (env::outer) [e] s.heap h'->Q () { s with heap:=h' }) :
  wpAny M A (do let a <- frameOf env; let pl <- entryPlaceOf L hadNext; let b <- K8 head a .none (rawInt L) .none pl; setField (.ref e) 1 b) Q E s:=by
 have en:e∉bV (env::outer):=fun z=>wY hl z he vs hd
 refine mo (wpAny_frameOf_fun hfr hl hf fun h1 ⟨z1,z2,z3⟩=>mo (wpAny_entryPlaceOf fun pl hpl=>?_))
 unfold K8 newFields
 refine mo (Hi ?_ (hpl.sizeOk5 _ _ _ _ _))
 have e1:h1.get? e=some oe:=(z2 e en).trans he
 have Tn:h1.objs.size≠e:=IU (EV e1)
 generalize hob:({ cls:=.type "traceback",dict:=none,data:=.fields ([head,.ref L,.none,rawInt L,.none]++(if pl.isEmpty then List.replicate 6 FV else pl)).toArray }:Obj)=ob
 have nf:ob.isFreed=false:=by rw [<- hob]; rfl
 have e2:=EB ob e1
 have eT:(h1.push ob).get? h1.objs.size=some ob:=Fd h1 nf
 refine wpAny_setField e2 hd hz (hQ _ h1.objs.size (Fz _ e2 (Jr (Hv hd _))) ?_ Tn ⟨ob,_,(E7 _ _ (G4 Tn)).trans eT,by rw [<- hob],?_⟩ ?_)
 ·rw [z1]
  exact Jx (EF _)
 ·first | (simp; done) | (rcases hpl with rfl | ⟨_,_,_,_,_,_,_,rfl⟩<;>simp)
 ·have k:=j5 (h:=h1.push ob) (l:=env::outer) (Ki (·.setIfInBounds 1 (.ref h1.objs.size))) en
  exact ⟨fun b o hb hc q=>k.keep b o hb hc (EB _ ((z2 b hb).trans q)),fun b o hm q=>by
   obtain ⟨sl,q1⟩:=z3 b o q
   obtain ⟨sl',q2⟩:=k.slot b _ hm (EB _ q1)
   exact ⟨sl',q2⟩⟩
theorem wz {oe:Obj} {vs:Array Ey} {od:Option EK} (hfr:A.frames=some (env::outer)) (hl:s.heap.FunFrames base (env::outer)) (hf:env.frame=some L) (he:s.heap.get? e=some oe) (hc:oe.cls=cls) (hd:oe.data = .fields vs) (h1:vs[1]? = some .none) (hod:∀ d,od=some d->oe.dict=some d)
  (hQ:∀ h' T',u5 h' e T' cls od (rawInt L)->s.heap.get? T'=none->Kept (env::outer) [e] s.heap h'->Q () { s with heap:=h' }):wpAny M A (noteFrame (.ref e) env) Q E s:=by
 have hz:=(Fk.mp h1).1
 unfold noteFrame
 simp only [hf]
 refine mo (HV he hd h1 ?_)
 rw [if_neg (by decide)]
 refine pM hfr hl hf he hd hz fun h' T' q1 q2 q3 ⟨oT,ts,q4,q5,q6⟩ q7=>hQ h' T' ⟨_,_,oT,ts,q1,(Obj.cls_mapFields _ _).trans hc,Hv hd _,by simp [hz],q3,q4,q5,q6,fun d z=>(ma _ _).trans (hod d z)⟩ q2 q7
theorem qr {od:Option EK} (hfr:A.frames=some (env::outer)) (hl:s.heap.FunFrames base (env::outer)) (hf:env.frame=some L) (tr:Tr s.heap e T cls od)
  (hQ:∀ h' T',u5 h' e T' cls od (rawInt L)->s.heap.get? T'=none->Kept (env::outer) [e,T] s.heap h'->Q () { s with heap:=h' }):wpAny M A (noteFrame (.ref e) env) Q E s:=by
 obtain ⟨oe,vs,oT,ts,he,hc,hd,h1,hTe,hT,hdT,h3,hod⟩:=tr
 have hz:=(Fk.mp h1).1
 have Tn:T∉bV (env::outer):=fun z=>wY hl z hT ts hdT
 unfold noteFrame
 simp only [hf]
 refine mo (HV he hd h1 ?_)
 rw [if_pos (show (E4 T != FV)=true from by simp)]
 refine mo (HV hT hdT h3 ?_)
 rw [if_neg (show ¬ ((FV == rawInt L)=true) from by simp [rawInt])]
 refine mo (wpAny_setField hT hdT (Fk.mp h3).1 ?_)
 have k0:=j5 (h:=s.heap) (Ki (·.setIfInBounds 3 FV)) Tn
 have there:∀ b o,s.heap.get? b=some o->∃ o',(s.heap.update T (Ki (·.setIfInBounds 3 FV))).get? b=some o':=fun b o q=>by
  by_cases z:b=T
  ·subst z
   exact ⟨_,Fz _ q (by rw [hT] at q; cases q; exact Jr (Hv hdT _))⟩
  ·exact ⟨o,(E7 _ _ (G4 z)).trans q⟩
 refine pM (s:={ s with heap:=s.heap.update T (Ki (·.setIfInBounds 3 FV)) }) (base:=base) hfr (hl.of_keeps fun b o q n=>⟨o,(E7 _ _ (fun z=>n ts (by rw [<- z,hT] at q; cases q; exact hdT))).trans q,rfl⟩) hf ((E7 _ _ hTe).trans he) hd hz
  fun h' T' q1 q2 q3 ⟨oT,ts,q4,q5,q6⟩ q7=>hQ h' T' ⟨_,_,oT,ts,q1,(Obj.cls_mapFields _ _).trans hc,Hv hd _,by simp [hz],q3,q4,q5,q6,fun d z=>(ma _ _).trans (hod d z)⟩ ?_ ((k0.sub (ch':=[e,T]) fun b o _ z=>EH _ z).trans (q7.sub fun b o _ z=>by rw [FY.mp z]; exact Fe))
 cases y:s.heap.get? T' with
 | none=>rfl
 | some o =>
  obtain ⟨o',z⟩:=there _ _ y
  rw [q2] at z
  cases z
theorem je {od:Option EK} {fl:Ey} (hn:T∉bV l) (tr:u5 s.heap e T cls od fl)
  (hQ:∀ h',Tr h' e T cls od->Kept l [T] s.heap h'->Q () { s with heap:=h' }):wpAny M A (setFlight (.ref e) none) Q E s:=by
 obtain ⟨oe,vs,oT,ts,he,hc,hd,h1,hTe,hT,hdT,h3,hod⟩:=tr
 have hz:=(Fk.mp h3).1
 unfold setFlight
 refine mo (HV he hd h1 ?_)
 rw [if_pos (show (E4 T != FV)=true from by simp)]
 refine wpAny_setField hT hdT hz (hQ _ ⟨oe,vs,_,_,(E7 _ _ hTe).trans he,hc,hd,h1,hTe,Fz _ hT (Jr (Hv hdT _)),Hv hdT _,by simp [hz],hod⟩ (j5 _ hn))
theorem xY {od:Option EK} {fl:Ey} (hl:s.heap.FunFrames base l) (tr:u5 s.heap e T cls od fl):T∉bV l:=fun z=>by
 obtain ⟨oe,vs,oT,ts,he,hc,hd,h1,hTe,hT,hdT,_⟩:=tr
 exact wY hl z hT ts hdT
theorem jR {T':EK} (hl:s.heap.FunFrames base l) (n:s.heap.get? T'=none):T'∉bV l:=fun z=>by
 obtain ⟨_,o,ho,_⟩:=hl.mem z
 rw [n] at ho
 cases ho
theorem k7 {h h':GP} {T':EK} {ch:List EK} (n:h.get? T'=none) (a:Kept l ch h h') {h2:GP} (k:Kept l [T'] h' h2):Kept l ch h h2 :=
 ⟨fun b o hb hc q=>k.keep b o hb (fun z=>by rw [FY.mp z,n] at q; cases q) (a.keep b o hb hc q),fun b o hm q=>by
  obtain ⟨sl,e1⟩:=a.slot b o hm q
  obtain ⟨sl',e2⟩:=k.slot b _ hm e1
  exact ⟨sl',e2⟩⟩
theorem wa {od:Option EK} (hfr:A.frames=some (env::outer)) (hl:s.heap.FunFrames base (env::outer)) (hf:env.frame=some L) (tr:Tr s.heap e T cls od)
  (hQ:∀ h' T',Tr h' e T' cls od->(T'=T\/s.heap.get? T'=none)->Kept (env::outer) [e,T] s.heap h'->Q () { s with heap:=h' }):wpAny M A (leaving env (.ref e)) Q E s:=by
 unfold leaving
 exact mo (qr hfr hl hf tr fun h' T' t1 n1 k1=>je (l:=env::outer) (s:={ s with heap:=h' }) (jR hl n1) t1 fun h2 t2 k2=>hQ h2 T' t2 (.inr n1) (k7 n1 k1 k2))
theorem rk {oe:Obj} {vs:Array Ey} {od:Option EK} (hfr:A.frames=some (env::outer)) (hl:s.heap.FunFrames base (env::outer)) (hf:env.frame=some L) (he:s.heap.get? e=some oe) (hc:oe.cls=cls) (hd:oe.data = .fields vs) (h1:vs[1]? = some .none) (hod:∀ d,od=some d->oe.dict=some d)
  (hQ:∀ h' T',Tr h' e T' cls od->s.heap.get? T'=none->Kept (env::outer) [e] s.heap h'->Q () { s with heap:=h' }):wpAny M A (leaving env (.ref e)) Q E s:=by
 unfold leaving
 exact mo (wz hfr hl hf he hc hd h1 hod fun h' T' t1 n1 k1=>je (l:=env::outer) (s:={ s with heap:=h' }) (jR hl n1) t1 fun h2 t2 k2=>hQ h2 T' t2 n1 (k7 n1 k1 k2))
theorem yB {od:Option EK} (hfr:A.frames=some (env::outer)) (hl:s.heap.FunFrames base (env::outer)) (hf:env.frame=some L) (tr:Tr s.heap e T cls od)
  (hQ:∀ h' T',Tr h' e T' cls od->(T'=T\/s.heap.get? T'=none)->Kept (env::outer) [e,T] s.heap h'->Q () { s with heap:=h' }) :
  wpAny M A (noteFrame (.ref e) env) (fun _ s2=>wpAny M A (setFlight (.ref e) none) Q E s2) E s :=
 qr hfr hl hf tr fun h' T' t1 n1 k1=>je (l:=env::outer) (s:={ s with heap:=h' }) (jR hl n1) t1 fun h2 t2 k2=>hQ h2 T' t2 (.inr n1) (k7 n1 k1 k2)
theorem vZ {od:Option EK} (hl:s.heap.FunFrames base l) (tr:Tr s.heap e T cls od)
  (hQ:∀ h' T',Tr h' e T' cls od->(T'=T\/s.heap.get? T'=none)->Kept l [e,T] s.heap h'->Q () { s with heap:=h' }):wpAny M A (setFlight (.ref e) none) Q E s :=
 je (xY hl tr) tr fun h' t k=>hQ h' T t (.inl rfl) (k.sub fun b o _ z=>EH _ z)
end
section
variable {X:Cx} {pins:List (EK × Obj)} {σ:St} {H:Hp} {s:Ez} {h':GP} {ch:List EK}
structure jV (X:Cx) (pins:List (EK × Obj)) (H:Hp) (b:EK):Prop where
 new:X.s₀.heap.get? b=none
 free:H b=none
 loc:b≠X.env.locals
 cell:∀ x c,X.env.cells.lookup x=some c->c≠b
 pin:∀ p∈X.pn++pins,p.1≠b
theorem Inv.ours (I:Inv X pins σ H s) (hx:X.ex=[]) {b:EK} (n:s.heap.get? b=none):X.s₀.heap.get? b=none/\b≠X.env.locals/\(∀ x c,X.env.cells.lookup x=some c->c≠b)/\∀ p∈X.pn++pins,p.1≠b:=by
 refine ⟨?_,?_,fun x c e z=>?_,fun p hp z=>?_⟩
 ·cases q:X.s₀.heap.get? b with
  | none=>rfl
  | some o =>
   obtain ⟨o',e⟩:=I.base.there b o q (by rw [hx]; simp)
   rw [n] at e; cases e
 ·rintro rfl
  obtain ⟨m,⟨o,_,_,e,_⟩,_⟩:=I.loc
  rw [n] at e; cases e
 ·subst z
  obtain ⟨v,o,e',_⟩:=I.cell x c e
  rw [n] at e'; cases e'
 ·have:=(I.pin p hp).1
  rw [z,n] at this; cases this
theorem Inv.exc (I:Inv X pins σ H s) (hx:X.ex=[]) (ours:∀ b∈ch,jV X pins H b) (k:Kept X.stack ch s.heap h'):Inv X pins σ H { s with heap:=h' }:=by
 have sub:=I.stkSub
 have above:=I.ok.above
 have outs:∀ b∈X.fs,b∈bV X.stack:=fun b hb=>by
  rcases I.ok.stk with e | ⟨e,hf⟩
  ·rw [e]; exact hb
  ·rw [e]
   show b∈bV (X.env::X.outer)
   unfold bV
   rw [Gq,hf]
   exact EH _ hb
 have anyk:∀ b o,b∉ch->s.heap.get? b=some o->∃ sl,h'.get? b=some { o with slots:=sl }:=fun b o hc q=>by
  by_cases hb:b∈bV X.stack
  ·exact k.slot b o hb q
  ·exact ⟨o.slots,k.keep b o hb hc q⟩
 have nch:∀ b o,X.s₀.heap.get? b=some o->b∉ch:=fun b o q z=>by rw [(ours b z).new] at q; cases q
 have lch:X.env.locals∉ch:=fun z=>(ours _ z).loc rfl
 have cch:∀ x c,X.env.cells.lookup x=some c->c∉ch:=fun x c e z=>(ours _ z).cell x c e rfl
 have cellK:∀ x c v,X.env.cells.lookup x=some c->s.heap.IsCell c v->h'.IsCell c v:=fun x c v e z=>by
  obtain ⟨o,ho,hd⟩:=z
  obtain ⟨sl,q⟩:=anyk c o (cch x c e) ho
  exact ⟨_,q,hd⟩
 refine ⟨I.ok,I.os,I.bare,⟨fun b o e n hb hxx=>?_,fun b o e n hb hxx=>?_,I.base.free,fun b o e hxx=>?_,I.base.tups,I.base.frzs,I.base.tbls⟩,?_,fun x c e=>?_,I.free,I.freeC,fun p hp=>?_,?_,I.len⟩
 ·refine k.keep b o (fun z=>?_) (nch b o e) (I.base.keep b o e n hb hxx)
  rcases ET.mp (sub b z) with z | z
  ·exact absurd (Fj (EV e) above) (by rw [z]; exact FT _)
  ·exact hb z
 ·obtain ⟨sl,e1⟩:=I.base.slot b o e n hb hxx
  obtain ⟨sl',e2⟩:=k.slot b _ (outs b hb) e1
  exact ⟨sl',e2⟩
 ·obtain ⟨o',e1⟩:=I.base.there b o e hxx
  obtain ⟨sl,e2⟩:=anyk b o' (nch b o e) e1
  exact ⟨_,e2⟩
 ·obtain ⟨m,⟨o,es,ep,ho,r⟩,hl⟩:=I.loc
  obtain ⟨sl,q⟩:=anyk _ o lch ho
  refine ⟨m,⟨_,es,ep,q,r⟩,fun i x v e1 e2 e3=>?_⟩
  obtain ⟨u,ru,lk⟩:=hl i x v e1 e2 e3
  refine ⟨u,ru,?_⟩
  rcases lk with z | ⟨z,c,e,ic⟩
  ·exact .inl z
  ·exact .inr ⟨z,c,e,cellK x c _ e ic⟩
 ·obtain ⟨v,z⟩:=I.cell x c e
  exact ⟨v,cellK x c v e z⟩
 ·obtain ⟨e,n,ne,nf,d⟩:=I.pin p hp
  refine ⟨k.keep p.1 p.2 (fun z=>?_) (fun z=>(ours _ z).pin p hp rfl) e,n,ne,nf,d⟩
  rcases ET.mp (sub _ z) with z | z
  ·exact ne z
  ·exact nf z
 ·refine I.hok.part fun b o hb q=>k.keep b o (fun z=>hb (I.stkFree b z)) (fun z=>hb (ours b z).free) q
end
noncomputable def fH (P:Fm) (w:FH):fL:=fun outer H s E e s'=>∃ (ea T:EK) (cls:Ey) (od:Option EK) (H':Hp),e = .ref ea/\s.heap.get? ea=none/\s.heap.get? T=none/\H' ea=none/\H' T=none/\Tr s'.heap ea T cls od /\
 s'.os=s.os/\Ke s'.gens/\Un (bV outer) [] H H' s.heap s'.heap/\cD P w H' s'.heap/\E cls od H'
theorem kz {P:Fm} {w:FH} {X:Cx}:Passes (fH P w) X E0:=fun _ _ _ _ _ _ _ ⟨_,_,_,_,_,_,_,_,_,_,_,_,_,_,_,q⟩=>q.elim
structure p6 (X:Cx) (E:XK):Prop where
 ex:X.ex=[]
 rise:∀ {pins:List (EK × Obj)} {σ:St} {H:Hp} {s:Ez} {e:EK} {cls:Ey} {oe:Obj} {vs:Array Ey} {od:Option EK},Inv X pins σ H s->X.s₀.heap.get? e=none->H e=none->s.heap.get? e=some oe->oe.cls=cls->oe.data = .fields vs->vs[1]? = some .none->(∀ d,od=some d->oe.dict=some d)->E cls od H->X.xe (.ref e) s
 pass:Passes (fH X.prog X.w) X E
theorem p6.made {X:Cx} {E:XK} {pins:List (EK × Obj)} {σ:St} {H:Hp} {s:Ez} {e:EK} {cls:Ey} {vs:List Ey} {h':GP} (T:p6 X E) (I:Inv X pins σ H s) (m:Heap.MadeExcOf s.heap h' e cls vs) (q:E cls none H):X.xe (.ref e) { s with heap:=h' }:=by
 obtain ⟨t,he,htn,ht⟩:=m.there
 exact T.rise (I.kept (t':=s.toks) m.keeps) (I.ours T.ex m.new).1 (I.hok.none m.new) he rfl rfl rfl (fun d z=>by cases z) q
section
variable {P:Fm} {w:FH} {K:Fi} {mg:Str->Option Ey} {base:GP} {N:List Str} {qual:Str} {scope:JR} {f:EK} {cd:Ey} {A:FE} {outer:List Env} {s:Ez} {H:Hp} {E:XK}
theorem vC {pins:List (EK × Obj)} {σ:St} {H2:Hp} {s2:Ez} {ea T:EK} {cls:Ey} {od:Option EK} (I:Inv (fQ (fH P w) P w K mg base N qual scope f cd A outer s H E) pins σ H2 s2) (tr:Tr s2.heap ea T cls od)
  (n1:s.heap.get? ea=none) (n2:s.heap.get? T=none) (f1:H2 ea=none) (f2:H2 T=none) (q:E cls od H2):(fQ (fH P w) P w K mg base N qual scope f cd A outer s H E).xe (.ref ea) s2:=by
 have fr:(A.deeper (envOfC qual scope s.heap.objs.size f cd)).frames=some (envOfC qual scope s.heap.objs.size f cd::outer):=I.ok.frames
 have above:s.heap.objs.size<=(envOfC qual scope s.heap.objs.size f cd).locals:=I.ok.above
 have nex:∀ b:EK,b∉(fQ (fH P w) P w K mg base N qual scope f cd A outer s H E).ex:=fun b z=>absurd (show b∈([]:List EK) from z) (by simp)
 have sub:∀ b∈bV (envOfC qual scope s.heap.objs.size f cd::outer),b=(envOfC qual scope s.heap.objs.size f cd).locals\/b∈bV outer:=fun b hb=>ET.mp (I.stkSub b hb)
 have out:∀ b∈bV outer,b∈bV (envOfC qual scope s.heap.objs.size f cd::outer):=fun b hb=>by
  unfold bV at hb |-
  rw [Gq]
  split
  ·exact hb
  ·exact EH _ hb
 refine wa fr I.stack rfl tr fun h' T' tr' hT' k=>?_
 have anyk:∀ b o,b≠ea->b≠T->s2.heap.get? b=some o->∃ sl,h'.get? b=some { o with slots:=sl }:=fun b o h1 h2 z=>by
  by_cases hb:b∈bV (envOfC qual scope s.heap.objs.size f cd::outer)
  ·exact k.slot b o hb z
  ·exact ⟨o.slots,k.keep b o hb (by simp [h1,h2]) z⟩
 have ne:∀ b o,s.heap.get? b=some o->b≠ea/\b≠T:=fun b o z=>⟨fun y=>(by rw [y,n1] at z; cases z),fun y=>(by rw [y,n2] at z; cases z)⟩
 refine ⟨ea,T',cls,od,H2,rfl,n1,?_,f1,?_,tr',I.os,I.bare,⟨fun b o z n hb hx=>?_,fun b o z n hb hx=>?_,fun b o z n hx=>I.base.free b o z n (nex b),fun b o z hx=>?_,I.base.tups,I.base.frzs,I.base.tbls⟩,?_,q⟩
 ·rcases hT' with z | z
  ·rw [z]; exact n2
  ·cases y:s.heap.get? T' with
   | none=>rfl
   | some o =>
    obtain ⟨o',e'⟩:=I.base.there T' o y (nex _)
    rw [z] at e'; cases e'
 ·rcases hT' with z | z
  ·rw [z]; exact f2
  ·exact I.hok.none z
 ·refine k.keep b o (fun y=>?_) (by have:=ne b o z; simp [this.1,this.2]) (I.base.keep b o z n hb (nex b))
  rcases sub b y with y | y
  ·exact absurd (Fj (EV z) above) (by rw [y]; exact FT _)
  ·exact hb y
 ·obtain ⟨sl,e1⟩:=I.base.slot b o z n hb (nex b)
  obtain ⟨sl',e2⟩:=k.slot b _ (out b hb) e1
  exact ⟨sl',e2⟩
 ·obtain ⟨o',e1⟩:=I.base.there b o z (nex b)
  obtain ⟨sl,e2⟩:=anyk b o' (ne b o z).1 (ne b o z).2 e1
  exact ⟨_,e2⟩
 ·refine I.hok.part fun b o hb z=>k.keep b o (fun y=>hb (I.stkFree b y)) (fun y=>?_) z
  rcases ET.mp y with y | y
  ·exact hb (by rw [y]; exact f1)
  ·exact hb (by rw [show b=T by simpa using y]; exact f2)
theorem qf:p6 (fQ (fH P w) P w K mg base N qual scope f cd A outer s H E) E where
 ex:=rfl
 rise:=fun {pins σ H1 s1 e cls oe vs od} I2 n1 f1 he hc hd hv hod q=>by
  have fr:(A.deeper (envOfC qual scope s.heap.objs.size f cd)).frames=some (envOfC qual scope s.heap.objs.size f cd::outer):=I2.ok.frames
  have above:s.heap.objs.size<=(envOfC qual scope s.heap.objs.size f cd).locals:=I2.ok.above
  have nex:∀ b:EK,b∉(fQ (fH P w) P w K mg base N qual scope f cd A outer s H E).ex:=fun b z=>absurd (show b∈([]:List EK) from z) (by simp)
  have sub:∀ b∈bV (envOfC qual scope s.heap.objs.size f cd::outer),b=(envOfC qual scope s.heap.objs.size f cd).locals\/b∈bV outer:=fun b hb=>ET.mp (I2.stkSub b hb)
  have out:∀ b∈bV outer,b∈bV (envOfC qual scope s.heap.objs.size f cd::outer):=fun b hb=>by
   unfold bV at hb |-
   rw [Gq]
   split
   ·exact hb
   ·exact EH _ hb
  have n1:s.heap.get? e=none:=n1
  refine rk (cls:=cls) (od:=od) fr I2.stack rfl he hc hd hv hod fun h2 T' tr' hT' k=>?_
  have anyk:∀ b o,b≠e->s1.heap.get? b=some o->∃ sl,h2.get? b=some { o with slots:=sl }:=fun b o h1 z=>by
   by_cases hb:b∈bV (envOfC qual scope s.heap.objs.size f cd::outer)
   ·exact k.slot b o hb z
   ·exact ⟨o.slots,k.keep b o hb (by simp [h1]) z⟩
  have ne:∀ b o,s.heap.get? b=some o->b≠e:=fun b o z y=>by rw [y,n1] at z; cases z
  refine ⟨e,T',cls,od,H1,rfl,n1,(I2.ours rfl hT').1,f1,I2.hok.none hT',tr',I2.os,I2.bare,⟨fun b o z n hb hx=>?_,fun b o z n hb hx=>?_,fun b o z n hx=>I2.base.free b o z n (nex b),fun b o z hx=>?_,I2.base.tups,I2.base.frzs,I2.base.tbls⟩,?_,q⟩
  ·refine k.keep b o (fun y=>?_) (by simp [ne b o z]) (I2.base.keep b o z n hb (nex b))
   rcases sub b y with y | y
   ·exact absurd (Fj (EV z) above) (by rw [y]; exact FT _)
   ·exact hb y
  ·obtain ⟨sl,e1⟩:=I2.base.slot b o z n hb (nex b)
   obtain ⟨sl',e2⟩:=k.slot b _ (out b hb) e1
   exact ⟨sl',e2⟩
  ·obtain ⟨o',e1⟩:=I2.base.there b o z (nex b)
   obtain ⟨sl,e2⟩:=anyk b o' (ne b o z) e1
   exact ⟨_,e2⟩
  ·refine I2.hok.part fun b o hb z=>k.keep b o (fun y=>hb (I2.stkFree b y)) (fun y=>?_) z
   exact hb (by rw [show b=e by simpa using y]; exact f1)
 pass:=fun pins σ H1 s1 e s2 I hcx=>by
  obtain ⟨ea,T,cls,od,H2,rfl,n1,n2,f1,f2,tr,os,bare,un,hok,q⟩:=hcx
  have I2:=I.call' os un hok bare fun b z=>absurd z (by simp)
  exact vC I2 tr (I.ours rfl n1).1 (I.ours rfl n2).1 f1 f2 q
end
section
variable {P:Fm} {w:FH} {K:Fi} {mg:Str->Option Ey} {base:GP}
theorem bA.up {CX:fL} {k:Nat} {f:EK} {fd:Ge} {ps:List Str} {sp:Sp} (F:bA P w K mg base kO k f fd ps sp):bA P w K mg base CX k f fd ps sp :=
 ⟨F.len,fun A outer s H args us vs Q E hr he hb hv hs=>Ip (F.run A outer s H args us vs Q E hr he hb hv hs) fun r s' q=>by
  cases r with
  | error e=>exact G9 q
  | ok fl=>cases fl<;>exact q⟩
theorem aR.okE {x qual:Str} {st:HI} {f:EK} {fd:Ge} {N ps:List Str} {k:Nat} {sp:Sp} (F:aR K x qual st f fd) (S:aw N ps (ar st)) (len:∀ vs H Q E,sp vs H Q E->vs.length=ps.length)
  (hbody:∀ (cdv:Ey) (A:FE) (outer:List Env) (s:Ez) (H:Hp) (vs:List V) (Q:VK) (E:XK),bj k (A.deeper (envOfC qual (ar st) s.heap.objs.size f cdv))->sp vs H Q E ->
   ∃ t,fM (fQ (fH P w) P w K mg base N qual (ar st) f cdv A outer s H E) (cq st) t/\t { nx:=fun _ H'=>Q .non H',rt:=Q } (start N vs) H):bA P w K mg base (fH P w) (k+1) f fd ps sp:=by
 obtain ⟨oc,od,kV,doc,pm,an,cdv,ct,osl,rfl,lk,hcd⟩:=F.ex
 exact xh lk hcd S len fun A outer s H vs Q E hr hsp=>hbody cdv A outer s H vs Q E hr hsp
end
noncomputable abbrev zK:List Ey:=[.type "ValueError",.type "Exception",.type "BaseException",.type "object"]
noncomputable abbrev qE (K:Fi) (C:EK):Prop:=W.excIn K C zK "ValueError.__new__" = true
theorem Ac {K:Fi} {h:GP} {C:EK} (X:K.In h) (q:qE K C):∃ bm N nm qn bs hd sn sub ab col dd k0 k1 k2 k3 k5 mN,
  h.get? C=some (excClassObj nm qn C N bs bm hd sn sub ab col dd k0 k1 k2 k3 k5 "ValueError.__new__")/\h.Ns N mN/\mN "__init__" = none/\OwnTail h zK bm:=by
 unfold qE W.excIn at q
 split at q
 ·rename_i dd cd sl ho
  split at q
  ·rename_i C' bm k0 k1 k2 k3 n k5 hm hs
   obtain ⟨q5,q6⟩:=Gj.mp q
   obtain ⟨q4,hok⟩:=Gj.mp q5
   obtain ⟨q3,ht⟩:=Gj.mp q4
   obtain ⟨q2,hdel⟩:=Gj.mp q3
   obtain ⟨e1,e2⟩:=Gj.mp q2
   have e1:=beq_iff_eq.mp e1
   have e2:=beq_iff_eq.mp e2
   have hni:=beq_iff_eq.mp q6
   subst e1 e2
   obtain ⟨nm,bs,mro,ns,qn,hd,sn,sub,ab,col,del⟩:=cd
   have hsl:sl = #[k0,k1,k2,k3,some (.builtin "ValueError.__new__"),k5]:=by
    rw [<- hs]
   have hdel':del=false:=by simpa using hdel
   have hm':mro = .ref C'::bm:=hm
   subst hm' hdel' hsl
   exact ⟨bm,ns,nm,qn,bs,hd,sn,sub,ab,col,dd,k0,k1,k2,k3,k5,_,X _ _ ho,.of_isNs (W.isNs_of_in X hok),W.nsMap_none_of_in X hok hni,W.tail_of_in X ht⟩
  ·cases q
 ·cases q
noncomputable def AA (E:XK) (C:EK) (t:TA):TS:=fun _ σ H=>t σ H fun vs H1=>vs.length<=sizeLine/\E (.ref C) none H1
theorem wx {X:Cx} {E:XK} {C:EK} {x:Str} {np cpos pos:Pos} {a:Hq} {ta:TA} (T:p6 X E) (O:qE X.K C) (hg:Gl X x) (hm:X.mg x=some (.ref C)) (ha:PA X [a] ta) (hc:X.calm=true:=by rfl)
  (hs:starEach [a] X.env=[(false,eval a X.env)]:=by rfl) (hd:(x == ("__debug__" : Str))=false:=by decide):PS X (.Raise (some (.Call (.Name x np) [a] [] cpos)) none pos) (AA E C ta):=by
 intro pins s σ H D I h
 obtain ⟨bm,N,nm,qn,bs,hd',sn,sub,ab,col,dd,k0,k1,k2,k3,k5,mN,hC,hN,hni,TL⟩:=Ac I.ok.mod.kin O
 refine wpAny_Raise_call_subT (C:=C) (nm:=nm) (q:=qn) (N:=N) (bs:=bs) (bm:=bm) (hdct:=hd') (sn:=sn) (sub:=sub) (ab:=ab) (col:=col) (dd:=dd) (k0:=k0) (k1:=k1) (k2:=k2) (k3:=k3) (k5:=k5)
  JT (mN:=mN) (TL.hasType JT.hasBase) (I.ok.hd hc) (by rw [hs]; rfl) hni (gb I hg hm ⟨rfl,?_⟩ hd)
 have p:=ha cpos pins s σ H _ I h
 rw [hs] at p |-
 exact K3 (aG p fun us s1 ⟨vs,H1,I1,r,q⟩=>⟨rfl,by rw [<- r.length]; exact q.1,I1.bk _ _ hC,hN.keeps I1.bk,TL.keeps I1.bk,fun h' e m=>T.made I1 m q.2⟩)
noncomputable def Cx.inExc (X:Cx) (e:EK):Cx:={ X with A:=X.A.mark (some (.ref e)),calm:=false,xe:=fun _ _=>False }
section
variable {X:Cx} {pins:List (EK × Obj)} {σ:St} {H:Hp} {s:Ez} {e:EK}
theorem Inv.inExc (I:Inv X pins σ H s) (e:EK):Inv (X.inExc e) pins σ H s :=
 ⟨⟨I.ok.mod,I.ok.kind,I.ok.glob,I.ok.blt,I.ok.above,I.ok.inj,I.ok.has,I.ok.cab,fun z=>(by cases z),I.ok.frames,I.ok.stk,I.ok.exf,I.ok.bs,I.ok.bsz,I.ok.noex,I.ok.exfs,I.ok.funs,I.ok.frf⟩,I.os,I.bare,I.base,I.loc,I.cell,I.free,I.freeC,I.pin,I.hok,I.len⟩
theorem Inv.outExc (ok:X.Ok) (I:Inv (X.inExc e) pins σ H s):Inv X pins σ H s:=⟨ok,I.os,I.bare,I.base,I.loc,I.cell,I.free,I.freeC,I.pin,I.hok,I.len⟩
end
def Ds (X:Cx) (e:Hq) (t:XK->TE):Prop:=∀ (E:XK) (σ:St) (pn':List (EK × Obj)) (xe':Ey->Ez->Prop),
 (∀ (pins:List (EK × Obj)) (H:Hp) (s:Ez) (v:Ey) (s':Ez),Inv { X with pn:=pn',xe:=xe' } pins σ H s->fH X.prog X.w X.stack H s E v s'->xe' v s') ->
 ∀ (pins:List (EK × Obj)) (s:Ez) (H:Hp) (Q:VK),Inv { X with pn:=pn',xe:=xe' } pins σ H s->t E σ H Q->wpAny (model X.prog X.w) X.A (eval e X.env) (EP { X with pn:=pn',xe:=xe' } pins σ Q) xe' s
theorem zf {X:Cx} {CX:fL} {k:Nat} {f:EK} {fd:Ge} {ps:List Str} {sp:Sp} {E:XK} {pins:List (EK × Obj)} {σ:St} {H:Hp} {s:Ez} {Q:VK} {us:List Ey} {vs:List V}
  (F:bA X.prog X.w X.K X.mg X.base CX k f fd ps sp) (hr:bj k X.A) (hb:Binds X.K fd ps []) (hx:∀ (pins:List (EK × Obj)) (H:Hp) (s:Ez) (v:Ey) (s':Ez),Inv X pins σ H s->CX X.stack H s E v s'->X.xe v s')
  (I:Inv X pins σ H s) (r:Vals vs us) (h:sp vs H Q E):wpAny (model X.prog X.w) X.A (call (.ref f) us) (EP X pins σ Q) X.xe s:=by
 have hl:us.length=ps.length:=by rw [<- r.length]; exact F.len _ _ _ _ h
 have hb':=hb s us I.kIn (by rw [Ff]; exact hl)
 rw [Ff] at hb'
 refine wpAny_call (Ip (F.run X.A X.stack s H ⟨us,[]⟩ us vs Q E hr I.env0 hb' r h) fun r s' hq=>?_)
 cases r with
 | error v=>exact hx pins H s v s' I hq
 | ok fl=>cases fl<;>first | exact I.after hq | exact G9 hq
end L2
namespace L2
open PySem PySem.Spec PyProof.Rows
structure Def (P:Fm) (w:FH) (K:Fi) (mg:Str->Option Ey) (base:GP) (x:Str) (ps:List Str) (k:Nat) (sp:Sp) (f:EK) (fd:Ge):Prop where
 ok:bA P w K mg base (fH P w) k f fd ps sp
 b:Binds K fd ps []
 kp:W.keepIn K (.ref f)=true
 m:mg x=some (.ref f)
section
variable {X:Cx} {f:EK} {fd:Ge} {ps:List Str} {sp:Sp} {x:Str} {p pos:Pos} {e:Hq} {es:List Hq} {t:TA} {j k:Nat}
theorem aF (D:Def X.prog X.w X.K X.mg X.base x ps j sp f fd) (hr:bj k X.A) (ha:PA X (e::es) t) (hjk:j<=k:=by decide) (hg:Gl X x:=by rfl)
  (hdb:(x == ("__debug__" : Str))=false:=by decide) (he:starEach (e::es) X.env=(false,eval e X.env)::starEach es X.env:=by rfl) (hpl:(backTo pos (starEach es X.env)).any (·.1)=false:=by rfl) :
  PE X (.Call (.Name x p) (e::es) [] pos) (mV sp [] E0 t):=x9 D.ok (hr.mono hjk) hg D.m D.kp D.b .nil kz ha hdb he hpl
theorem yC (D:Def X.prog X.w X.K X.mg X.base x ps j sp f fd) (hr:bj k X.A) (ha:∀ (pn':List (EK × Obj)) (xe':Ey->Ez->Prop),PA { X with pn:=pn',xe:=xe' } (e::es) t) (hjk:j<=k:=by decide) (hg:Gl X x:=by rfl)
  (hdb:(x == ("__debug__" : Str))=false:=by decide) (he:starEach (e::es) X.env=(false,eval e X.env)::starEach es X.env:=by rfl) (hpl:(backTo pos (starEach es X.env)).any (·.1)=false:=by rfl) :
  Ds X (.Call (.Name x p) (e::es) [] pos) (fun E=>mV sp [] E t):=by
 intro E σ pn' xe' hp pins s H Q I h
 refine GB (gb (X:={ X with pn:=pn',xe:=xe' }) I hg D.m ?_ hdb)
 refine W.callWith_K (h₀:=X.base) I.ok.mod.kin D.kp (aG (ha pn' xe' pos pins s σ H _ I h) fun us s1 ⟨vs,H1,I1,r,q⟩=>⟨I1.kIn,?_⟩) he hpl
 have q:sp (vs++[]) H1 Q E:=q
 rw [Ff] at q
 exact zf (X:={ X with pn:=pn',xe:=xe' }) D.ok (hr.mono hjk) D.b hp I1 r q
end
theorem bE:bootBuiltins "isinstance" = some (.builtin "isinstance"):=by decide +kernel
theorem oO:bootBuiltins "int" = some (.type "int"):=by decide +kernel
theorem ye:bootBuiltins "bool" = some (.type "bool"):=by decide +kernel
theorem dD:bootBuiltins "list" = some (.type "list"):=by decide +kernel
theorem jF:bootBuiltins "tuple" = some (.type "tuple"):=by decide +kernel
theorem m5:bootBuiltins "max" = some (.builtin "max"):=by decide +kernel
theorem zo:bootBuiltins "sum" = some (.builtin "sum"):=by decide +kernel
theorem dj:bootBuiltins "len" = some (.builtin "len"):=by decide +kernel
theorem ae.upd {H H':Hp} (h:ae H H') {p:EK} (n:H p=none) (o:HO):ae H (L2.upd H' p o):=fun b u q=>by
 rw [upd_ne (aq q n)]; exact h b u q
theorem ae.new {H H':Hp} (h:ae H H') {p:EK} (n:H' p=none) (o:HO):ae H (L2.upd H' p o):=h.trans fun b u q=>by
 rw [upd_ne (aq q n)]; exact q
theorem sz {n:Nat} (h:n<=1000000):n<=sizeLine:=FN h (by decide)
theorem gk {n:Nat} (h:n<=1000000):n < sizeLine:=Hu h (by decide)
theorem jq {K:Fi}:JB K (.type "int") (.type "int")=some true:=by rfl
theorem eC {K:Fi}:JB K (.type "list") (.type "list")=some true:=by rfl
theorem oP {K:Fi}:JB K (.type "int") (.type "bool")=some false:=by rfl
theorem gX {ns:List Int} {i:Int} (h0:0<=i) (h1:i < (ns.length:Int)):bX (ns.map V.int) i=some (.int (ns.getD i.toNat 0)):=by
 have hk:i.toNat < ns.length:=by lia
 have ek:i=((i.toNat:Nat):Int):=by lia
 have q:bX (ns.map V.int) ((i.toNat:Nat):Int)=some (.int (ns.getD i.toNat 0)):=fB (by rw [FD,AC,Da hk]<;>rfl)
 rw [<- ek] at q
 exact q
end L2
namespace L2
open PySem PySem.Spec PyProof.Rows
theorem fg {σ:St} {H:Hp} {F:Bool->Hp->Prop} (h:F true H):xj σ H F:=h
theorem iy {X:Cx} {K:Fi} (h:X.K=K):jw X (vY K):=h▸a9
theorem pm {j:Int} (h:0 < j):0 < j:=h
noncomputable def jH (ns:List Int) (lo hi:Option Int):List Int:=(ns.drop (HT.sIx ns.length 0 lo)).take (HT.sIx ns.length ns.length hi - HT.sIx ns.length 0 lo)
theorem oG (ns:List Int) (lo hi:Option Int):c6 (ns.map V.int) lo hi=(jH ns lo hi).map V.int:=by
 unfold c6 jH
 rw [Do,List.map_take,Lk]
theorem cX {ns:List Int} {i:Nat} {x:V} (h:(ns.map V.int)[i]? = some x):∃ c,x = .int c:=by
 rw [FD] at h
 cases e:ns[i]? with
 | none=>rw [e] at h; cases h
 | some c=>rw [e] at h; cases h; exact ⟨c,rfl⟩
end L2
namespace L2
open PySem PySem.Spec PyProof.Rows
noncomputable def D4 (t u:TS):TS:=fun D σ H=>∃ P:St->Hp->Prop,t { D with nx:=P } σ H/\∀ σ' H',P σ' H'->u D σ' H'
theorem kY {X:Cx} {st:HI} {rest:List HI} {t u:TS} (h1:PS X st t) (h2:fM X rest u):fM X (st::rest) (D4 t u):=by
 intro pins s σ H D I h
 obtain ⟨P,ha,hb⟩:=h
 refine Ju (aG (h1 pins s σ H { D with nx:=P } I ha) fun f s1 q=>?_)
 cases f with
 | next =>
  obtain ⟨σ',H',I',q⟩:=q
  exact h2 pins s1 σ' H' D I' (hb σ' H' q)
 | ret v=>exact q
 | brk=>exact q
 | cont=>exact q
theorem bB {c A B:Prop} [Decidable c] (hc:c) (h:A):if decide c=true then A else B:=by rw [decide_eq_true hc]; exact bg h
theorem aX {c A B:Prop} [Decidable c] (hc:¬ c) (h:B):if decide c=true then A else B:=by rw [decide_eq_false hc]; exact bH h
end L2
namespace Ck
noncomputable def cR:Nat->Int
 | 0=>1
 | k+1=>cR k*(4*(k:Int)+2) / ((k:Int)+2)
noncomputable def cN:Nat->Nat
 | 0=>1
 | k+1=>cN k*(4*k+2) / (k+2)
theorem mS:∀ k,cR k=(cN k:Int)
 | 0=>rfl
 | k+1=>by
  rw [cR,cN,mS k,Int.natCast_ediv,Int.natCast_mul]
  rfl
noncomputable def dN:Nat->List Int
 | 0=>[1]
 | k+1=>dN k++[((EM (k+1)).map fun j=>(dN k).getD j 0*(dN k).getD (k - j) 0).sum]
noncomputable def sh (k:Nat):Int:=(dN k).getD k 0
theorem ck:∀ k,(dN k).length=k+1
 | 0=>rfl
 | k+1=>by rw [dN,EA,ck k]; rfl
theorem ft:∀ (n j:Nat),j<=n->(dN n).getD j 0=sh j
 | 0,j,h=>by
  have e:j=0:=by lia
  subst e; rfl
 | n+1,j,h=>by
  by_cases e:j=n+1
  ·subst e; rfl
  ·rw [dN,AC,GE (by rw [ck]; lia),<- AC]
   exact ft n j (by lia)
theorem i7:sh 0=1:=rfl
theorem qp (k:Nat):sh (k+1)=((EM (k+1)).map fun j=>sh j*sh (k - j)).sum:=by
 have e:sh (k+1)=((EM (k+1)).map fun j=>(dN k).getD j 0*(dN k).getD (k - j) 0).sum:=by
  unfold sh
  rw [dN,AC,Gc (by rw [ck]; lia),ck,Nat.sub_self]
  rfl
 rw [e]
 congr 1
 refine Fw fun j hj=>?_
 have:=E6.mp hj
 rw [ft k j (by lia),ft k (k - j) (by lia)]
theorem ze (n:Nat):dN n=(EM (n+1)).map sh:=by
 refine List.ext_getElem? fun i=>?_
 by_cases h:i < n+1
 ·rw [FD,JJ h]
  have:=ft n i (by lia)
  rw [AC,Da (by rw [ck]; lia)] at this
  rw [Da (by rw [ck]; lia)]
  exact congrArg some this
 ·rw [Gu (by rw [ck]; lia),Gu (by simp; lia)]
noncomputable def qd:Nat->List Nat
 | 0=>[1]
 | k+1=>qd k++[((EM (k+1)).map fun j=>(qd k).getD j 0*(qd k).getD (k - j) 0).sum]
theorem oW:∀ l:List Nat,((l.sum:Nat):Int)=(l.map fun n:Nat=>(n:Int)).sum
 | []=>rfl
 | a::l=>by rw [Iy,E2,Iy,Int.natCast_add,oW l]
theorem iM (l:List Nat) (j:Nat):(l.map fun n:Nat=>(n:Int)).getD j 0=((l.getD j 0:Nat):Int):=by
 rw [AC,FD,AC]
 cases l[j]?<;>rfl
theorem pZ:∀ k,dN k=(qd k).map fun n:Nat=>(n:Int)
 | 0=>rfl
 | k+1=>by
  rw [dN,qd,ED,pZ k]
  congr 1
  rw [E2,Jp,oW,FG]
  congr 2
  refine Fw fun j _=>?_
  rw [iM,iM]
  exact (Int.natCast_mul _ _).symm
theorem Bk:qd 61=(EM 62).map cN:=by decide +kernel
theorem rg {k:Nat} (h:k<=61):sh k=cR k:=by
 rw [mS,<- ft 61 k h,pZ,iM,Bk,AC,FD,JJ (by lia)]
 rfl
theorem vj:((EM 37).all fun k=>decide (cN k < 18446744073709551616))=true:=by decide +kernel
theorem nu {k:Nat} (h:k<=36):0<=sh k/\sh k < 2 ^ 64:=by
 rw [rg (by lia),mS]
 have q:=Fq.mp vj k (E6.mpr (by lia))
 have q':=of_decide_eq_true q
 have e:(2:Int) ^ 64=18446744073709551616:=by decide
 lia
end Ck
namespace Ck
noncomputable def r:Nat->Nat->Int
 | 0,_=>1
 | _+1,0=>0
 | u+1,d+1=>if d < u then 0 else r u (d+1)+r (u+1) d
noncomputable def row (n u:Nat):List Int:=(EM (n+1 - u)).map fun i=>r u (u+i)
noncomputable def pw (a:Int):Nat->Int
 | 0=>1
 | k+1=>pw a k*a
end Ck
namespace Ck
inductive Good:Nat->Nat->List Nat->Prop
 | nil:Good 0 0 []
 | up {u d:Nat} {t:List Nat} (h:Good u d t) (le:u+1<=d):Good (u+1) d (40::t)
 | down {u d:Nat} {t:List Nat} (h:Good u d t) (le:u<=d):Good u (d+1) (41::t)
noncomputable def lt:List Nat->List Nat->Bool
 | c::s,e::t=>if c=e then lt s t else c == 40
 | _,_=>false
end Ck
namespace Ck
open PySem
noncomputable def ix (n d:Nat):Option Int->Nat
 | none=>d
 | some v=>if v < 0 then (v+(n:Int)).toNat else min v.toNat n
end Ck
namespace Ck
open PySem L2
end Ck
namespace L2
open PySem
theorem tV (ns:List Int):jH ns (some 1) none=ns.drop 1:=by
 unfold jH
 have e1:HT.sIx ns.length 0 (some 1)=min 1 ns.length:=HT.sIx_nat _ _ 1
 rw [e1,HT.sIx_none]
 cases ns with
 | nil=>rfl
 | cons a r =>
  have e2:min 1 (a::r).length=1:=by simp
  rw [e2]
  exact EL (by simp)
end L2
namespace Ck
open PySem L2
structure Tab (H:Hp) (p:EK) (n m:Nat) (T:List EK):Prop where
 at_:H p=some (.lst (T.map V.ref))
 len:T.length=m
 rows:∀ (u:Nat) (t:EK),T[u]? = some t->H t=some (.lst ((row n u).map V.int))
end Ck
namespace L2
open PySem PySem.Spec PyProof.Rows
end L2
namespace Ck
open PySem L2
end Ck
namespace L2
open PySem PySem.Spec PyProof.Rows
section
variable {X:Cx} {tg:Hq}
end
noncomputable def jy:List V->List V->Bool
 | [],[]=>true
 | x::xs,y::ys=>g5 x y&&jy xs ys
 | _,_=>false
theorem qD:∀ {xs ys:List V},xs.length≠ys.length->jy xs ys=false
 | [],[],h=>absurd rfl h
 | [],_::_,_=>rfl
 | _::_,[],_=>rfl
 | x::xs,y::ys,h=>by
  rw [jy,qD (xs:=xs) (ys:=ys) (by simpa using h),ID]
theorem pV:∀ {xs ys:List V},xs.length=ys.length->(EM xs.length).all (fun j=>g5 (xs.getD j .non) (ys.getD j .non))=jy xs ys
 | [],[],_=>rfl
 | x::xs,y::ys,h=>by
  rw [jy,<- pV (xs:=xs) (ys:=ys) (by simpa using h),Fb,Ho,Ll,KM]
  rfl
noncomputable def DC (K:Fi) (neg:Bool):R2:=fun x y H Q=>∃ a b xs ys,x = .ref a/\y = .ref b/\aj K H a xs/\aj K H b ys/\xs.all fV=true/\ys.all fV=true/\Q (.bl (if neg then !jy xs ys else jy xs ys)) H
section
variable {X:Cx}
theorem items_eqAt {A:FE} {s:Ez} {xs ys:List V} {us vs:List Ey} (r:Vals xs us) (r':Vals ys vs) (fx:xs.all fV=true) (fy:ys.all fV=true) :
  ∀ j (h1:j < us.toArray.size) (h2:j < vs.toArray.size),SeqAt.EqAt A s us.toArray[j] vs.toArray[j] (g5 (xs.getD j .non) (ys.getD j .non)):=fun j h1 h2=>by
 have l1:=r.length
 have l2:=r'.length
 have h1':j < us.length:=by simpa using h1
 have h2':j < vs.length:=by simpa using h2
 obtain ⟨u,eu,ru⟩:=r.get (Da (show j < xs.length by lia))
 obtain ⟨v,ev,rv⟩:=r'.get (Da (show j < ys.length by lia))
 have e1:us.toArray[j]=u:=by
  rw [Da h1'] at eu
  simpa using eu
 have e2:vs.toArray[j]=v:=by
  rw [Da h2'] at ev
  simpa using ev
 rw [e1,e2]
 have g1:xs.getD j .non=xs[j]'(by lia):=by rw [AC,Da (show j < xs.length by lia)]; rfl
 have g2:ys.getD j .non=ys[j]'(by lia):=by rw [AC,Da (show j < ys.length by lia)]; rfl
 rw [g1,g2]
 exact uM ru rv (Fq.mp fx _ (GH _)) (Fq.mp fy _ (GH _))
theorem qT (hu:X.A.units < cLine):cJ X (compareOp .Eq) (DC X.K false):=by
 intro pins s σ H x y v u Q I rx ry h
 obtain ⟨a,b,xs,ys,rfl,rfl,ha,hb,fx,fy,q⟩:=h
 cases rx
 cases ry
 obtain ⟨us,r,pl,hz⟩:=I.list ha
 obtain ⟨vs,r',pl',hz'⟩:=I.list hb
 have l1:=r.length
 have l2:=r'.length
 by_cases hl:xs.length=ys.length
 ·refine SeqAt.eq_listAt (e:=fun j=>g5 (xs.getD j .non) (ys.getD j .non)) pl.isList pl'.isList (by simp; lia) hu (items_eqAt r r' fx fy) ⟨.bl _,H,I,rfl,?_⟩
  rw [show us.toArray.size=xs.length by simp; lia,pV hl]
  exact q
 ·refine Kj pl.isList pl'.isList (by simp; lia) hu ⟨.bl false,H,I,rfl,?_⟩
  rw [<- qD hl]
  exact q
end
end L2
namespace L2
open PySem PySem.Spec PyProof.Rows PySem.W Builtin Builtin.ObjectAttr Builtin.Getset_descriptor
section
variable {K:Frag} {e C:EK} {M:Model} {h:GP} {prog:Fm} {w:FH} {A:FE} {E:Ey->Ez->Prop} {s:Ez}
end
section
variable {K:Frag} {e C:EK} {M:Model} {h:GP} {prog:Fm} {w:FH} {A:FE} {E:Ey->Ez->Prop} {s:Ez}
end
section
variable {X:Cx}
theorem D7 {A:FE} {k:Nat} (hr:bj k A):A.units < cLine:=Nat.lt_of_succ_lt (CC hr)
end
end L2
namespace Ck
open PySem L2
end Ck
namespace L2
open PySem PySem.Spec PyProof.Rows
structure fo (P:Fm) (w:FH) (K:Fi) (mg:Str->Option Ey) (base:GP) (ps:List Str) (k:Nat) (sp:Sp) (f:EK) (fd:Ge):Prop where
 ok:bA P w K mg base (fH P w) k f fd ps sp
 b:Binds K fd ps []
section
variable {X:Cx} {C f:EK} {fd:Ge} {ps:List Str} {sp:Sp} {m:Str} {apos pos:Pos} {o e:Hq} {es:List Hq} {ta:TE} {t:TA} {j k:Nat}
theorem xC {pl:Sem Bool} (ho:PE X o ta) (c:Cls X.K C) (hm:Meth X.K C m f) (D:fo X.prog X.w X.K X.mg X.base ps j sp f fd) (hr:bj k X.A) (ha:PA X (e::es) t) (hjk:j<=k:=by decide)
  (hst:starEach (e::es) X.env=(false,eval e X.env)::starEach es X.env:=by rfl) (hpl:(backTo pos (starEach es X.env)).any (·.1)=false:=by rfl)
  (ht:eval (.Call (.Attribute o m apos) (e::es) [] pos) X.env=(do
   let ov <- eval o X.env
   standAt apos.atName
   let (f,first) <- holding [ov] (getMethod ov m pl)
   callWith pos f first (backTo pos (starEach (e::es) X.env)) (backToKw pos (keywordEach [] X.env))):=by rfl) :
  PE X (.Call (.Attribute o m apos) (e::es) [] pos) (i8 C m sp [] E0 ta t):=pG ho c hm D.ok (hr.mono hjk) D.b .nil kz ha hst hpl ht
theorem y8 {pl:Sem Bool} (ho:PE X o ta) (c:Cls X.K C) (hm:Meth X.K C m f) (D:fo X.prog X.w X.K X.mg X.base ps j sp f fd) (hr:bj k X.A) (hjk:j<=k:=by decide)
  (ht:eval (.Call (.Attribute o m apos) [] [] pos) X.env=(do
   let ov <- eval o X.env
   standAt apos.atName
   let (f,first) <- holding [ov] (getMethod ov m pl)
   callWith pos f first (backTo pos (starEach [] X.env)) (backToKw pos (keywordEach [] X.env))):=by rfl) :
  PE X (.Call (.Attribute o m apos) [] [] pos) (i8 C m sp [] E0 ta jE):=vo ho c hm D.ok (hr.mono hjk) D.b .nil kz ht
theorem BY {E:XK} (T:p6 X E) {pl:Sem Bool} (ho:PE X o ta) (c:Cls X.K C) (hm:Meth X.K C m f) (D:fo X.prog X.w X.K X.mg X.base ps j sp f fd) (hr:bj k X.A) (ha:PA X (e::es) t) (hjk:j<=k:=by decide)
  (hst:starEach (e::es) X.env=(false,eval e X.env)::starEach es X.env:=by rfl) (hpl:(backTo pos (starEach es X.env)).any (·.1)=false:=by rfl)
  (ht:eval (.Call (.Attribute o m apos) (e::es) [] pos) X.env=(do
   let ov <- eval o X.env
   standAt apos.atName
   let (f,first) <- holding [ov] (getMethod ov m pl)
   callWith pos f first (backTo pos (starEach (e::es) X.env)) (backToKw pos (keywordEach [] X.env))):=by rfl) :
  PE X (.Call (.Attribute o m apos) (e::es) [] pos) (i8 C m sp [] E ta t):=pG ho c hm D.ok (hr.mono hjk) D.b .nil T.pass ha hst hpl ht
end
noncomputable def uz (K:Fi) (Ck:EK) (tb:XK->TE) (ts:TS):TS:=fun D σ H =>
 tb (fun cls _ H1=>W.exmOne K cls (.ref Ck)=some true/\ts D σ H1) σ H fun _ H1=>D.nx σ H1
theorem vz {X:Cx} {call:Hq} {tb:XK->TE} {c:Str} {Ck:EK} {b₀:HI} {suite:List HI} {ts:TS} {ep cp hp pos:Pos}
  (hx:X.ex=[]) (hst:X.stack=X.env::X.outer) (hf:X.env.frame=some X.env.locals) (hg:Gl X c) (hm:X.mg c=some (.ref Ck))
  (hb:Ds X call tb) (hs:∀ e,fM (X.inExc e) (b₀::suite) ts) (hsw:swapsWith call none ep.line X.env=pure false:=by rfl) (hd:(c == ("__debug__" : Str))=false:=by decide) :
  PS X (.Try [.Expr call ep] [.ExceptHandler (some (.Name c cp)) none (b₀::suite) hp] [] [] pos) (uz X.K Ck tb ts):=by
 intro pins s σ H D I h
 refine wpAny_Try_except ?_
 unfold uz at h
 generalize hE:(fun (cls:Ey) (_:Option EK) (H1:Hp)=>W.exmOne X.K cls (.ref Ck)=some true/\ts D σ H1)=E at h
 have ok':∀ xe',({ X with pn:=X.pn++pins,xe:=xe' }:Cx).Ok:=fun xe' =>
  ⟨I.ok.mod,I.ok.kind,I.ok.glob,I.ok.blt,I.ok.above,I.ok.inj,I.ok.has,I.ok.cab,I.ok.hd,I.ok.frames,I.ok.stk,I.ok.exf,I.ok.bs,I.ok.bsz,I.ok.noex,I.ok.exfs,I.ok.funs,I.ok.frf⟩
 have toX:∀ {xe' pins' σ' H' s'},Inv ({ X with pn:=X.pn++pins,xe:=xe' }:Cx) pins' σ' H' s'->Inv X pins σ' H' s':=fun J =>
  ⟨I.ok,J.os,J.bare,J.base,J.loc,J.cell,J.free,J.freeC,fun p hp=>J.pin p (Gi _ hp),J.hok,J.len⟩
 have I':Inv ({ X with pn:=X.pn++pins,xe:=fun v s'=>∃ H1 s1,Inv X pins σ H1 s1/\fH X.prog X.w X.stack H1 s1 E v s' }:Cx) [] σ H s :=
  ⟨ok' _,I.os,I.bare,I.base,I.loc,I.cell,I.free,I.freeC,fun p hp=>I.pin p (by simpa using hp),I.hok,I.len⟩
 have body:=hb E σ (X.pn++pins) (fun v s'=>∃ H1 s1,Inv X pins σ H1 s1/\fH X.prog X.w X.stack H1 s1 E v s') (fun pins' H1 s1 v s' J q=>⟨H1,s1,toX J,q⟩) [] s H _ I' h
 refine G8 (Ju (wpAny_Expr_any (aG body fun v s1 q=>?_) I.quiet hsw):wpAny (model X.prog X.w) X.A (execs [.Expr call ep] X.env) (fun f s1=>f = .next/\∃ H1,Inv X pins σ H1 s1/\D.nx σ H1) _ s) (fun f s1 q=>?_) ?_
 ·obtain ⟨x,H1,J,r,q⟩:=q
  exact Io ⟨rfl,H1,toX J,q⟩
 ·obtain ⟨rfl,H1,J,q⟩:=q
  exact Io ⟨σ,H1,J,q⟩
 ·rintro v s' ⟨H1,s1,I1,ea,T,cls,od,H2,rfl,n1,n2,f1,f2,tr,os,bare,un,hok,hE'⟩
  rw [<- hE] at hE'
  obtain ⟨hmt,hsu⟩:=hE'
  have I2:Inv X pins σ H2 s':=I1.call' os un hok bare fun b z=>absurd z (by simp)
  have o1:=I1.ours hx n1
  have o2:=I1.ours hx n2
  have u1:jV X pins H2 ea:=⟨o1.1,f1,o1.2.1,o1.2.2.1,o1.2.2.2⟩
  have u2:jV X pins H2 T:=⟨o2.1,f2,o2.2.1,o2.2.2.1,o2.2.2.2⟩
  have fr:X.A.frames=some (X.env::X.outer):=by rw [<- hst]; exact I.ok.frames
  have fn:s'.heap.FunFrames X.base (X.env::X.outer):=by rw [<- hst]; exact I2.stack
  refine yB fr fn hf tr fun h3 T3 tr3 hT3 k3=>?_
  have I3:Inv X pins σ H2 { s' with heap:=h3 }:=I2.exc hx (ch:=[ea,T]) (fun b hb=>by
   rcases ET.mp hb with z | z
   ·rw [z]; exact u1
   ·rw [show b=T by simpa using z]; exact u2) (by rw [hst]; exact k3)
  have u3:jV X pins H2 T3:=by
   rcases hT3 with z | z
   ·rw [z]; exact u2
   ·have o3:=I2.ours hx z
    exact ⟨o3.1,I2.hok.none z,o3.2.1,o3.2.2.1,o3.2.2.2⟩
  have LT:W.Looks (model X.prog X.w) h3 (typeOf (.ref ea)) cls:=by
   obtain ⟨oe,vs,oT,ts,he,hc,_⟩:=tr3
   subst hc
   exact (W.Looks.ld he).andThen .now
  refine wpAny_handleBy_cons (codeAny_handlers_test (gb (I3.inExc ea) hg hm ?_ hd)) (by intro q; cases q)
  refine (W.exm_one (M:=model X.prog X.w) I3.kIn LT hmt) _ _ _ _ (fun _ _ q=>q) ?_
  show codeAny _ _ (.handlers (.ref ea) [.ExceptHandler none none (b₀::suite) hp] X.env) _ _
  refine codeAny_handlers_suite (vZ (base:=X.base) (l:=X.stack) I3.stack tr3 fun h5 T5 tr5 hT5 k5=>?_)
  have I5:Inv X pins σ H2 { s' with heap:=h5 }:=Inv.exc (s:={ s' with heap:=h3 }) I3 hx (ch:=[ea,T3]) (fun b hb=>by
   rcases ET.mp hb with z | z
   ·rw [z]; exact u1
   ·rw [show b=T3 by simpa using z]; exact u3) k5
  refine G8 (hs ea pins _ _ _ _ (I5.inExc ea) hsu) (fun f s7 q=>?_) (fun _ _ z=>z.elim)
  cases f with
  | next=>obtain ⟨σ',H',J,q⟩:=q; exact ⟨σ',H',J.outExc I.ok,q⟩
  | brk=>obtain ⟨σ',H',J,q⟩:=q; exact ⟨σ',H',J.outExc I.ok,q⟩
  | cont=>obtain ⟨σ',H',J,q⟩:=q; exact ⟨σ',H',J.outExc I.ok,q⟩
  | ret u=>obtain ⟨v,σ',H',J,r,q⟩:=q; exact ⟨v,σ',H',J.outExc I.ok,r,q⟩
structure ClsM (K:Fi) (C:EK) (m:Str) (f:EK):Prop where
 hg:W.specialIn K (.ref C) "__getattribute__" = some (some (.builtin "type.__getattribute__"))
 rd:W.readsIn K C (.type "type")=true
 at_:W.findCls K (.ref C) (.type "type") m=some (.val (.ref f))
 kp:W.keepIn K (.ref f)=true
section
variable {X:Cx} {C f:EK} {fd:Ge} {ps:List Str} {sp:Sp} {x m:Str} {p apos pos:Pos} {e:Hq} {es:List Hq} {t:TA} {j k:Nat}
theorem oE {pl:Sem Bool} (hm:X.mg x=some (.ref C)) (M:ClsM X.K C m f) (D:fo X.prog X.w X.K X.mg X.base ps j sp f fd) (hr:bj k X.A) (ha:PA X (e::es) t) (hjk:j<=k:=by decide) (hg:Gl X x:=by rfl)
  (hdb:(x == ("__debug__" : Str))=false:=by decide) (hst:starEach (e::es) X.env=(false,eval e X.env)::starEach es X.env:=by rfl) (hpl:(backTo pos (starEach es X.env)).any (·.1)=false:=by rfl)
  (ht:eval (.Call (.Attribute (.Name x p) m apos) (e::es) [] pos) X.env=(do
   let ov <- eval (.Name x p) X.env
   standAt apos.atName
   let (f,first) <- holding [ov] (getMethod ov m pl)
   callWith pos f first (backTo pos (starEach (e::es) X.env)) (backToKw pos (keywordEach [] X.env))):=by rfl) :
  PE X (.Call (.Attribute (.Name x p) m apos) (e::es) [] pos) (mV sp [] E0 t):=by
 intro pins s σ H Q I h
 refine W.methodCall_KW (pl:=pl) (gb I hg hm ?_ hdb) ht
 refine W.method_cls I.kIn M.hg (W.cls_value I.kIn M.rd M.at_ rfl ?_)
 have I1:Inv X pins σ H { s with toks:=s.toks+1 }:=I.tok _
 refine W.callWith_K (first:=[]) (h₀:=X.base) I.ok.mod.kin M.kp (aG (ha pos pins _ σ H _ I1 h) fun us s2 ⟨vs,H2,I2,r,q2⟩=>⟨I2.kIn,?_⟩) hst hpl
 exact kL D.ok (hr.mono hjk) D.b .nil kz I2 r q2
end
section
variable {X:Cx} {C f:EK} {fd:Ge} {ps:List Str} {sp:Sp} {x:Str} {p pos:Pos} {j k:Nat}
theorem kB (M:Mk X.K C f) (hm:X.mg x=some (.ref C)) (D:fo X.prog X.w X.K X.mg X.base ps j sp f fd) (hr:bj k X.A) (hjk:j+1<=k:=by decide) (hg:Gl X x:=by rfl) (hdb:(x == ("__debug__" : Str))=false:=by decide) :
  PE X (.Call (.Name x p) [] [] pos) (xx C sp [] E0 jE):=wA M D.ok (hr.mono hjk) hg hm D.b .nil kz hdb
end
end L2
namespace L2
open PySem
noncomputable def below (N:Nat) (sp:Nat->Sp):Sp:=fun vs H Q E=>∃ m,m < N/\sp m vs H Q E
theorem oJ {P:Fm} {w:FH} {K:Fi} {mg:Str->Option Ey} {base:GP} {CX:fL} {L N:Nat} {f:EK} {fd:Ge} {ps:List Str} {sp:Nat->Sp} (h:∀ m,m < N->bA P w K mg base CX (L+m+1) f fd ps (sp m)) :
  bA P w K mg base CX (L+N) f fd ps (below N sp) :=
 ⟨fun vs H Q E ⟨m,hm,q⟩=>(h m hm).len vs H Q E q,fun A outer s H args us vs Q E hr he hb hv ⟨m,hm,q⟩=>(h m hm).run A outer s H args us vs Q E (hr.mono (by lia)) he hb hv q⟩
theorem Ar {P:Fm} {w:FH} {K:Fi} {mg:Str->Option Ey} {base:GP} {CX:fL} {L:Nat} {f:EK} {fd:Ge} {ps:List Str} {sp:Nat->Sp}
  (h:∀ n,(∀ m,m < n->bA P w K mg base CX (L+m+1) f fd ps (sp m))->bA P w K mg base CX (L+n+1) f fd ps (sp n)):∀ n,bA P w K mg base CX (L+n+1) f fd ps (sp n):=fun n =>
 JK n fun n ih=>h n ih
end L2
namespace L2
open PySem PySem.Spec PyProof.Rows
inductive aW (K:Fi) (H:Hp):Nat->V->V->Bool->Prop
 | flat {n:Nat} {x y:V} (fx:fV x=true) (fy:fV y=true):aW K H n x y (g5 x y)
 | same {n:Nat} {a:EK}:aW K H n (.ref a) (.ref a) true
 | lst {n:Nat} {a b:EK} {xs ys:List V} {e:Nat->Bool} (ne:a≠b) (ha:aj K H a xs) (hb:aj K H b ys) (hl:xs.length=ys.length)
   (hi:∀ j x y,xs[j]? = some x->ys[j]? = some y->aW K H n x y (e j)):aW K H (n+1) (.ref a) (.ref b) ((EM xs.length).all e)
 | lstN {n:Nat} {a b:EK} {xs ys:List V} (ne:a≠b) (ha:aj K H a xs) (hb:aj K H b ys) (hl:xs.length≠ys.length):aW K H (n+1) (.ref a) (.ref b) false
 | tup {n:Nat} {a b:EK} {xs ys:List V} {e:Nat->Bool} (ne:a≠b) (ha:bb K H a xs) (hb:bb K H b ys)
   (hi:∀ j x y,xs[j]? = some x->ys[j]? = some y->aW K H n x y (e j)):aW K H (n+1) (.ref a) (.ref b) ((EM (min xs.length ys.length)).all e&&xs.length == ys.length)
theorem aW.lstT {K:Fi} {H:Hp} {n:Nat} {a b:EK} {xs ys:List V} (ne:a≠b) (ha:aj K H a xs) (hb:aj K H b ys) (hl:xs.length=ys.length) (hi:∀ (j:Nat) (x y:V),xs[j]? = some x->ys[j]? = some y->aW K H n x y true):aW K H (n+1) (.ref a) (.ref b) true:=by
 have h:=aW.lst (e:=fun _=>true) ne ha hb hl hi
 have e (k:Nat):(EM k).all (fun _=>true)=true:=Fq.mpr fun _ _=>rfl
 rw [e] at h
 exact h
theorem aW.tupT {K:Fi} {H:Hp} {n:Nat} {a b:EK} {xs ys:List V} (ne:a≠b) (ha:bb K H a xs) (hb:bb K H b ys) (hl:xs.length=ys.length) (hi:∀ (j:Nat) (x y:V),xs[j]? = some x->ys[j]? = some y->aW K H n x y true):aW K H (n+1) (.ref a) (.ref b) true:=by
 have h:=aW.tup (e:=fun _=>true) ne ha hb hi
 have e (k:Nat):(EM k).all (fun _=>true)=true:=Fq.mpr fun _ _=>rfl
 rw [e,hl] at h
 simpa using h
section
variable {X:Cx} {pins:List (EK × Obj)} {σ:St} {H:Hp} {s:Ez}
theorem du {xs:List V} {us:List Ey} (r:Vals xs us) {j:Nat} (h:j < us.toArray.size):∃ x,xs[j]? = some x/\RelV x us.toArray[j]:=by
 have h':j < us.length:=by simpa using h
 have hx:j < xs.length:=by rw [r.length]; exact h'
 obtain ⟨u,eu,ru⟩:=r.get (Da hx)
 rw [Da h'] at eu
 exact ⟨_,Da hx,by
  have:us.toArray[j]=u:=by simpa using eu
  rw [this]; exact ru⟩
theorem aW.at_ {n:Nat} {x y:V} {b:Bool} (d:aW X.K H n x y b):∀ {A:FE} {u v:Ey},A.units+n < cLine->Inv X pins σ H s->RelV x u->RelV y v->SeqAt.EqAt A s u v b:=by
 induction d with
 | flat fx fy=>intro A u v _ I ru rv; exact uM ru rv fx fy
 | same =>
  intro A u v _ I ru rv
  cases (show u=E4 _ from ru)
  cases (show v=E4 _ from rv)
  exact Lx _
 | @lst n a b xs ys e ne ha hb hl hi ih =>
  intro A u v hu I ru rv
  cases (show u=E4 _ from ru)
  cases (show v=E4 _ from rv)
  obtain ⟨us,r,pl,_⟩:=I.list ha
  obtain ⟨vs,r',pl',_⟩:=I.list hb
  have l1:=r.length
  have l2:=r'.length
  have z:=SeqAt.RcAt.lists (A:=A) (e:=e) pl.isList pl'.isList (by simp; lia) (by lia) fun j h1 h2=>by
   obtain ⟨x,ex,rx⟩:=du r h1
   obtain ⟨y,ey,ry⟩:=du r' h2
   exact ih j x y ex ey (A:=A.in1) (by show A.units+1+n < cLine; lia) I rx ry
  rw [show us.toArray.size=xs.length by simp; lia] at z
  exact .of_refs ne z
 | @lstN n a b xs ys ne ha hb hl =>
  intro A u v hu I ru rv
  cases (show u=E4 _ from ru)
  cases (show v=E4 _ from rv)
  obtain ⟨us,r,pl,_⟩:=I.list ha
  obtain ⟨vs,r',pl',_⟩:=I.list hb
  have l1:=r.length
  have l2:=r'.length
  exact .of_refs ne (SeqAt.RcAt.lists_lengths pl.isList pl'.isList (by simp; lia) (by lia))
 | @tup n a b xs ys e ne ha hb hi ih =>
  intro A u v hu I ru rv
  cases (show u=E4 _ from ru)
  cases (show v=E4 _ from rv)
  obtain ⟨us,r,pl,_⟩:=I.tuple ha
  obtain ⟨vs,r',pl',_⟩:=I.tuple hb
  have l1:=r.length
  have l2:=r'.length
  have z:=SeqAt.RcAt.tuples (A:=A) (e:=e) pl pl' (by lia) fun j h1 h2=>by
   obtain ⟨x,ex,rx⟩:=du r h1
   obtain ⟨y,ey,ry⟩:=du r' h2
   exact ih j x y ex ey (A:=A.in1) (by show A.units+1+n < cLine; lia) I rx ry
  rw [show us.toArray.size=xs.length by simp; lia,show vs.toArray.size=ys.length by simp; lia] at z
  exact .of_refs ne z
noncomputable def vK (K:Fi) (neg:Bool):R2:=fun x y H Q=>∃ n b,n<=100/\aW K H n x y b/\(∃ a c,x = .ref a/\y = .ref c/\a≠c)/\Q (.bl (if neg then !b else b)) H
theorem AL (hu:X.A.units+100 < cLine):cJ X (compareOp .Eq) (vK X.K false):=by
 intro pins s σ H x y u v Q I ru rv h
 obtain ⟨n,b,hn,d,⟨a,c,rfl,rfl,hne⟩,q⟩:=h
 cases (show u=E4 _ from ru)
 cases (show v=E4 _ from rv)
 cases d with
 | flat fx _=>cases fx
 | same=>exact absurd rfl hne
 | @lst n _ _ xs ys e ne ha hb hl hi =>
  obtain ⟨us,r,pl,_⟩:=I.list ha
  obtain ⟨vs,r',pl',_⟩:=I.list hb
  have l1:=r.length
  have l2:=r'.length
  refine SeqAt.eq_listAt (e:=e) pl.isList pl'.isList (by simp; lia) (by lia) (fun j h1 h2=>?_) ⟨.bl _,H,I,rfl,?_⟩
  ·obtain ⟨x,ex,rx⟩:=du r h1
   obtain ⟨y,ey,ry⟩:=du r' h2
   exact (hi j x y ex ey).at_ (A:=X.A.in1) (by show X.A.units+1+n < cLine; lia) I rx ry
  ·rw [show us.toArray.size=xs.length by simp; lia]; exact q
 | @lstN n _ _ xs ys ne ha hb hl =>
  obtain ⟨us,r,pl,_⟩:=I.list ha
  obtain ⟨vs,r',pl',_⟩:=I.list hb
  have l1:=r.length
  have l2:=r'.length
  exact Kj pl.isList pl'.isList (by simp; lia) (by lia) ⟨.bl false,H,I,rfl,q⟩
 | @tup n _ _ xs ys e ne ha hb hi =>
  obtain ⟨us,r,pl,_⟩:=I.tuple ha
  obtain ⟨vs,r',pl',_⟩:=I.tuple hb
  have l1:=r.length
  have l2:=r'.length
  refine SeqAt.eq_tupleAt (e:=e) pl pl' (by lia) (fun j h1 h2=>?_) ⟨.bl _,H,I,rfl,?_⟩
  ·obtain ⟨x,ex,rx⟩:=du r h1
   obtain ⟨y,ey,ry⟩:=du r' h2
   exact (hi j x y ex ey).at_ (A:=X.A.in1) (by show X.A.units+1+n < cLine; lia) I rx ry
  ·rw [show us.toArray.size=xs.length by simp; lia,show vs.toArray.size=ys.length by simp; lia]; exact q
theorem iT (hu:X.A.units+100 < cLine):cJ X (compareOp .NotEq) (vK X.K true):=by
 intro pins s σ H x y u v Q I ru rv h
 obtain ⟨n,b,hn,d,⟨a,c,rfl,rfl,hne⟩,q⟩:=h
 cases (show u=E4 _ from ru)
 cases (show v=E4 _ from rv)
 cases d with
 | flat fx _=>cases fx
 | same=>exact absurd rfl hne
 | @lst n _ _ xs ys e ne ha hb hl hi =>
  obtain ⟨us,r,pl,_⟩:=I.list ha
  obtain ⟨vs,r',pl',_⟩:=I.list hb
  have l1:=r.length
  have l2:=r'.length
  refine SeqAt.RcNeAt.lists (e:=e) pl.isList pl'.isList (by simp; lia) (by lia) (fun j h1 h2=>?_) _ _ _ _ ⟨.bl _,H,I,rfl,?_⟩
  ·obtain ⟨x,ex,rx⟩:=du r h1
   obtain ⟨y,ey,ry⟩:=du r' h2
   exact (hi j x y ex ey).at_ (A:=X.A.in1) (by show X.A.units+1+n < cLine; lia) I rx ry
  ·rw [show us.toArray.size=xs.length by simp; lia]; exact q
 | @lstN n _ _ xs ys ne ha hb hl =>
  obtain ⟨us,r,pl,_⟩:=I.list ha
  obtain ⟨vs,r',pl',_⟩:=I.list hb
  have l1:=r.length
  have l2:=r'.length
  exact SeqAt.RcNeAt.lists_lengths pl.isList pl'.isList (by simp; lia) (by lia) _ _ _ _ ⟨.bl true,H,I,rfl,q⟩
 | @tup n _ _ xs ys e ne ha hb hi =>
  obtain ⟨us,r,pl,_⟩:=I.tuple ha
  obtain ⟨vs,r',pl',_⟩:=I.tuple hb
  have l1:=r.length
  have l2:=r'.length
  refine SeqAt.RcNeAt.tuples (e:=e) pl pl' (by lia) (fun j h1 h2=>?_) _ _ _ _ ⟨.bl _,H,I,rfl,?_⟩
  ·obtain ⟨x,ex,rx⟩:=du r h1
   obtain ⟨y,ey,ry⟩:=du r' h2
   exact (hi j x y ex ey).at_ (A:=X.A.in1) (by show X.A.units+1+n < cLine; lia) I rx ry
  ·rw [show us.toArray.size=xs.length by simp; lia,show vs.toArray.size=ys.length by simp; lia]; exact q
theorem e8 {A:FE} {k:Nat} (hr:bj k A):A.units+100 < cLine:=Hu (by lia) hr.un
end
end L2
namespace L2
open PySem PySem.Spec PyProof.Rows
section
variable {X:Cx}
end
section
variable {X:Cx} {pins:List (EK × Obj)} {σ:St} {H:Hp} {s:Ez} {h':GP}
theorem Inv.trackO {e:EK} {o':HO} (I:Inv X pins σ H s) (o:jV X pins H e) (new:bR X.prog X.w (upd H e o') s.heap e o'):Inv X pins σ (upd H e o') s:=by
 have ne:∀ b u,H b=some u->b≠e:=fun b u q z=>by rw [z,o.free] at q; cases q
 refine ⟨I.ok,I.os,I.bare,⟨I.base.keep,I.base.slot,fun b ob q n hx=>?_,I.base.there,fun b xs q=>?_,fun b ob u q=>?_,fun b ps q=>?_⟩,I.loc,I.cell,?_,fun x c q=>?_,fun p hp=>?_,fun b u q=>?_,I.len⟩
 ·rw [upd_ne (fun z=>by rw [z,o.new] at q; cases q)]; exact I.base.free b ob q n hx
 ·have:=I.base.tups b xs q
  rw [upd_ne (ne _ _ this)]; exact this
 ·have:=I.base.frzs b ob u q
  rw [upd_ne (ne _ _ this)]; exact this
 ·obtain ⟨m,z⟩:=I.base.tbls b ps q
  exact ⟨m,by rw [upd_ne (ne _ _ z)]; exact z⟩
 ·rw [upd_ne (G4 o.loc)]; exact I.free
 ·rw [upd_ne (o.cell x c q)]; exact I.freeC x c q
 ·obtain ⟨z,n,r⟩:=I.pin p hp
  exact ⟨z,by rw [upd_ne (o.pin p hp)]; exact n,r⟩
 ·by_cases z:b=e
  ·subst z; rw [upd_same] at q; cases q; exact new
  ·rw [upd_ne z] at q
   exact (I.hok b u q).stay (fun _ _ _ x=>x) (fun c x=>by rw [upd_ne (ne _ _ x)]; exact x) fun c xs x=>by rw [upd_ne (ne _ _ x)]; exact x
end
section
variable {X:Cx}
end
end L2
namespace Ck
open PySem L2
inductive Tree where
 | int (i:Int)
 | lst (l:List Tree)
 | tup (l:List Tree)
mutual
noncomputable def Rep (H:Hp):Tree->V->Prop
 | .int i,v=>v = .int i
 | .lst ts,v=>∃ a xs,v = .ref a/\H a=some (.lst xs)/\ts.length<=1000000/\bC H ts xs
 | .tup ts,v=>∃ a xs,v = .ref a/\H a=some (.tup xs)/\ts.length<=1000000/\bC H ts xs
noncomputable def bC (H:Hp):List Tree->List V->Prop
 | [],xs=>xs=[]
 | t::ts,xs=>∃ v vs,xs=v::vs/\Rep H t v/\bC H ts vs
end
mutual
noncomputable def dep:Tree->Nat
 | .int _=>0
 | .lst ts=>dG ts+1
 | .tup ts=>dG ts+1
noncomputable def dG:List Tree->Nat
 | []=>0
 | t::ts=>max (dep t) (dG ts)
end
mutual
theorem Rep.same {H H':Hp} (s:ae H H'):∀ (t:Tree) {v:V},Rep H t v->Rep H' t v
 | .int i,v,h=>by unfold Rep at h |-; exact h
 | .lst ts,v,h=>by
  unfold Rep at h |-
  obtain ⟨a,xs,e,ha,hl,r⟩:=h
  exact ⟨a,xs,e,s _ _ ha,hl,bC.same s ts r⟩
 | .tup ts,v,h=>by
  unfold Rep at h |-
  obtain ⟨a,xs,e,ha,hl,r⟩:=h
  exact ⟨a,xs,e,s _ _ ha,hl,bC.same s ts r⟩
theorem bC.same {H H':Hp} (s:ae H H'):∀ (ts:List Tree) {xs:List V},bC H ts xs->bC H' ts xs
 | [],xs,h=>by unfold bC at h |-; exact h
 | t::ts,xs,h=>by
  unfold bC at h |-
  obtain ⟨v,vs,e,r,rs⟩:=h
  exact ⟨v,vs,e,Rep.same s t r,bC.same s ts rs⟩
end
theorem bC.length {H:Hp}:∀ {ts:List Tree} {xs:List V},bC H ts xs->xs.length=ts.length
 | [],xs,h=>by unfold bC at h; rw [h]; rfl
 | t::ts,xs,h=>by
  unfold bC at h
  obtain ⟨v,vs,rfl,_,rs⟩:=h
  rw [Fb,Fb,bC.length rs]
theorem bC.get {H:Hp}:∀ {ts:List Tree} {xs:List V},bC H ts xs->∀ {j:Nat} {x:V},xs[j]? = some x->∃ t,ts[j]? = some t/\Rep H t x
 | [],xs,h,j,x,e=>by unfold bC at h; rw [h] at e; cases e
 | t::ts,xs,h,j,x,e=>by
  unfold bC at h
  obtain ⟨v,vs,rfl,r,rs⟩:=h
  cases j with
  | zero =>
   have:v=x:=by simpa using e
   subst this
   exact ⟨t,rfl,r⟩
  | succ j=>exact bC.get rs (by simpa using e)
theorem jW:∀ {ts:List Tree} {j:Nat} {t:Tree},ts[j]? = some t->dep t<=dG ts
 | [],j,t,e=>by cases e
 | s::ts,j,t,e=>by
  unfold dG
  cases j with
  | zero =>
   have:s=t:=by simpa using e
   subst this
   exact Nat.le_max_left _ _
  | succ j=>exact FN (jW (by simpa using e)) (Nat.le_max_right _ _)
theorem yg {H:Hp} {a:EK} {x y:V} {t u:Tree} (h:H a=some (.tup [x,y])) (r1:Rep H t x) (r2:Rep H u y):Rep H (.tup [t,u]) (.ref a):=by
 unfold Rep
 refine ⟨a,_,rfl,h,by show 2<=1000000; decide,?_⟩
 unfold bC
 refine ⟨_,_,rfl,r1,?_⟩
 unfold bC
 refine ⟨_,_,rfl,r2,?_⟩
 unfold bC
 rfl
theorem yu (t u:Tree):dep (.tup [t,u])=max (dep t) (dep u)+1:=by
 show max (dep t) (max (dep u) 0)+1=_
 rw [Nat.max_zero]
noncomputable abbrev Pair:=Int × Int
def bu (H:Hp) (xs:List V) (ps:List Pair):Prop:=IB (fun (v:V) (p:Pair)=>∃ t,v = .ref t/\H t=some (.tup [.int p.1,.int p.2])) xs ps
theorem bu.same {H H':Hp} {xs:List V} {ps:List Pair} (h:bu H xs ps) (s:ae H H'):bu H' xs ps:=Paired.mapP h fun v p ⟨t,e,q⟩=>⟨t,e,s _ _ q⟩
theorem bu.length {H:Hp} {xs:List V} {ps:List Pair} (h:bu H xs ps):xs.length=ps.length:=Iw h
theorem bu.get {H:Hp}:∀ {xs:List V} {ps:List Pair},bu H xs ps->∀ {i:Nat} {x:V},xs[i]? = some x->∃ p t,ps[i]? = some p/\x = .ref t/\H t=some (.tup [.int p.1,.int p.2])
 | _,_,.nil,i,x,e=>by cases e
 | _,_,.cons r t,0,x,e=>by
  obtain ⟨a,e1,e2⟩:=r
  rw [HU] at e
  cases e
  exact ⟨_,a,rfl,e1,e2⟩
 | _,_,.cons r t,i+1,x,e=>by
  obtain ⟨p,a,h1,h2,h3⟩:=bu.get t (i:=i) (by simpa using e)
  exact ⟨p,a,by simpa using h1,h2,h3⟩
theorem bu.snoc {H:Hp}:∀ {xs:List V} {ps:List Pair} {t:EK} {p:Pair},bu H xs ps->H t=some (.tup [.int p.1,.int p.2])->bu H (xs++[.ref t]) (ps++[p])
 | _,_,t,p,.nil,h=>.cons ⟨t,rfl,h⟩ .nil
 | _,_,t,p,.cons r s,h=>.cons r (bu.snoc s h)
theorem bu.updL {H:Hp} {xs:List V} {ps:List Pair} {a:EK} {l:List V} (h:bu H xs ps) (ha:H a=some (.lst l)) (o:HO):bu (upd H a o) xs ps :=
 Paired.mapP h fun v p ⟨t,e,q⟩=>⟨t,e,(upd_ne (CZ q ha (by intro z; cases z))).trans q⟩
theorem bu.updN {H:Hp} {xs:List V} {ps:List Pair} {a:EK} (h:bu H xs ps) (ha:H a=none) (o:HO):bu (upd H a o) xs ps :=
 Paired.mapP h fun v p ⟨t,e,q⟩=>⟨t,e,(upd_ne (aq q ha)).trans q⟩
def aT (H:Hp) (a:EK) (ps:List Pair):Prop:=∃ xs,H a=some (.lst xs)/\bu H xs ps
theorem aT.same {H H':Hp} {a:EK} {ps:List Pair} (h:aT H a ps) (s:ae H H'):aT H' a ps:=let ⟨xs,e,r⟩:=h; ⟨xs,s _ _ e,r.same s⟩
theorem aT.len {H:Hp} {a:EK} {ps:List Pair} (h:aT H a ps):∃ xs,H a=some (.lst xs)/\xs.length=ps.length/\bu H xs ps:=let ⟨xs,e,r⟩:=h; ⟨xs,e,r.length,r⟩
noncomputable def ot (p:Pair):Tree:=.tup [.int p.1,.int p.2]
noncomputable def oa (ps:List Pair):Tree:=.lst (ps.map ot)
theorem BW {H:Hp} {t:EK} {p:Pair} (h:H t=some (.tup [.int p.1,.int p.2])):Rep H (ot p) (.ref t):=by
 unfold ot Rep
 refine ⟨t,_,rfl,h,by show 2<=1000000; decide,?_⟩
 unfold bC
 refine ⟨_,_,rfl,by unfold Rep; rfl,?_⟩
 unfold bC
 refine ⟨_,_,rfl,by unfold Rep; rfl,?_⟩
 unfold bC
 rfl
theorem qi {H:Hp}:∀ {xs:List V} {ps:List Pair},bu H xs ps->bC H (ps.map ot) xs
 | _,_,.nil=>by unfold bC; rfl
 | _,_,.cons (a:=v) r s=>by
  obtain ⟨t,e,h⟩:=r
  rw [E2]
  unfold bC
  exact ⟨v,_,rfl,by rw [e]; exact BW h,qi s⟩
theorem aT.rep {H:Hp} {a:EK} {ps:List Pair} (h:aT H a ps) (hl:ps.length<=1000000):Rep H (oa ps) (.ref a):=by
 obtain ⟨xs,e,r⟩:=h
 unfold oa Rep
 exact ⟨a,xs,rfl,e,by rw [Do]; exact hl,qi r⟩
theorem zC (p:Pair):dep (ot p)=1:=by unfold ot dep; unfold dG; unfold dep dG; unfold dep dG; rfl
theorem n9:∀ ps:List Pair,dG (ps.map ot)<=1
 | []=>by unfold Kk dG; exact EU _
 | p::ps=>by
  rw [E2]
  unfold dG
  rw [zC]
  exact Nat.max_le.mpr ⟨EF _,n9 ps⟩
theorem pR (ps:List Pair):dep (oa ps)<=2:=by unfold oa dep; have:=n9 ps; lia
end Ck
namespace L2
open PySem
theorem oC {K:Fi}:JB K (.type "list") (.type "int")=some false:=by rfl
theorem mM {K:Fi}:JB K (.type "tuple") (.type "int")=some false:=by rfl
theorem fA {K:Fi}:JB K (.type "tuple") (.type "list")=some false:=by rfl
theorem eQ {K:Fi}:JB K (.type "tuple") (.type "tuple")=some true:=by rfl
theorem gZ {K:Fi}:JB K (.type "list") (.type "tuple")=some false:=by rfl
end L2
namespace Ck
open PySem L2
inductive gu:List Int->List Int->Nat->Prop
 | start:gu [] [] 0
 | on {p r:List Int} {a:Nat}:gu p r a->gu (p++[(a:Int)]) r (a+1)
 | off {p r:List Int} {a:Nat} {m:Int}:gu (p++[m]) r a->gu p (r++[m]) a
theorem gu.bound {p r:List Int} {a:Nat} (h:gu p r a):∀ x,(x∈p\/x∈r)->0<=x/\x < a:=by
 induction h with
 | start=>intro x hx; simp at hx
 | @on p r a _ ih =>
  intro x hx
  rw [EN] at hx
  rcases hx with (z | z) | z
  ·have:=ih x (.inl z); lia
  ·have:x=(a:Int):=by simpa using z
   lia
  ·have:=ih x (.inr z); lia
 | @off p r a m _ ih =>
  intro x hx
  rw [EN] at hx
  rcases hx with z | z | z
  ·exact ih x (.inl (by simp [z]))
  ·exact ih x (.inr z)
  ·have:x=m:=by simpa using z
   subst this
   exact ih x (.inl (by simp))
noncomputable def jL (ns:List Int):Tree:=.lst (ns.map .int)
theorem n5 {H:Hp}:∀ ns:List Int,bC H (ns.map .int) (ns.map V.int)
 | []=>by unfold Kk bC; rfl
 | n::ns=>by
  rw [E2,E2]
  unfold bC
  exact ⟨_,_,rfl,by unfold Rep; rfl,n5 ns⟩
theorem kW {H:Hp} {a:EK} {ns:List Int} (h:H a=some (.lst (ns.map V.int))) (hl:ns.length<=1000000):Rep H (jL ns) (.ref a):=by
 unfold jL Rep
 exact ⟨a,_,rfl,h,by rw [Do]; exact hl,n5 ns⟩
theorem nP:∀ ns:List Int,dG (ns.map .int)=0
 | []=>by unfold Kk dG; rfl
 | n::ns=>by
  rw [E2]
  unfold dG
  rw [nP ns]
  unfold dep
  rfl
theorem qx (ns:List Int):dep (jL ns)=1:=by unfold jL dep; rw [nP]
theorem gB (xs:List V) (k:Nat):c6 xs (some (k:Int)) none=xs.drop k:=by
 unfold c6
 rw [HT.sIx_nat,HT.sIx_none]
 rw [EL (by rw [GG]; lia)]
 by_cases h:k<=xs.length
 ·rw [show min k xs.length=k by lia]
 ·rw [FS (show xs.length<=k by lia),FS (by lia)]
theorem xZ (xs:List V) (k:Nat):c6 xs none (some (k:Int))=xs.take k:=by
 unfold c6
 rw [HT.sIx_nat,HT.sIx_none,IE,Nat.sub_zero]
 by_cases h:k<=xs.length
 ·rw [show min k xs.length=k by lia]
 ·rw [EL (by lia),EL (by lia)]
theorem xg {c A B:Prop} [Decidable c] (hc:¬ c) (h:A):if (!decide c)=true then A else B:=by
 rw [decide_eq_false hc]
 exact bg h
end Ck
namespace L2
open PySem PySem.Spec PyProof.Rows PySem.SeqAt
section
variable {X:Cx}
noncomputable def AD (K:Fi):V->List V->Hp->VK->Prop:=fun x vs H Q=>∃ (l:EK) (ns:List Int) (k:Int),x = .ref l/\vs=[.int k]/\aj K H l (ns.map V.int)/\k∈ns/\Q (.int (ns.idxOf k:Nat)) H
theorem vN:qh X "list.index" (AD X.K):=by
 intro pins s σ H x vs v us Q I rx rv h
 obtain ⟨l,ns,k,rfl,rfl,hl,hk,q⟩:=h
 cases rx
 obtain ⟨u,rfl,t,rfl⟩:=rv.one
 obtain ⟨its,r,pl,hz⟩:=I.list hl
 have hi:Hf its ns:=intsAre_of r
 obtain ⟨⟨cls,dd,data,sl⟩,ho,hc,n,hd⟩:=id pl.isList
 simp only at hc hd
 subst hc hd
 have hlen:=hi.length
 have hj:ns.idxOf k < ns.length:=List.idxOf_lt_length_iff.mpr hk
 have hb:its.length<=sizeLine:=by first | exact hz | (rw [hlen]; simpa using hz)
 have hb2:sizeLine < 2 ^ 63 - 1:=by decide
 refine J6 Kl ⟨_,ho,rfl⟩ PySem.F.entry_list_index (PySem.F.args_list_index_2 _ _)
  (list_indexAt l its.toArray n dd sl (.int k t) (isInt k) (ns.idxOf k) (by simpa [hlen] using hj) (by lia) ?_ ?_) ⟨ho,fun y hy=>(eq_isInt k t hi y (by simpa using hy)).at _ _,?_⟩
 ·show isInt k its[ns.idxOf k]=true
  rw [isInt_at k hi _ (by lia) hj]
  simpa using List.getElem_idxOf hj
 ·intro j hjs hlt
  show isInt k its[j]=false
  rw [isInt_at k hi j (by simpa using hjs) (by lia)]
  exact ne_of_lt_idxOf hlt _
 ·exact ⟨.int _,H,I.tok _,⟨_,rfl⟩,q⟩
theorem gc {K:Fi} {es:List Hq} {k:Nat} {t:mj} {n:Nat} {pos:Pos} (hK:X.K=K) (hc:X.calm=true) (h:uN X es t)
  (hn:(assignEach es X.env).length=n:=by rfl) (hst:(assignEach es X.env).findIdx? (·.1)=none:=by rfl):PG X (.Tuple es k pos) (zB K n t):=by
 subst hK
 exact g8 hc h hn hst
theorem bM {K:Fi} {a:EK} {xs:List V} {g:TG} {tt:TT} {te:TE} {σ0:St} {H:Hp} {D:EK} {Q:VK} (Pv:Nat->List V->Hp->Prop) (hz:xs.length<=sizeLine)
  (h0:Pv 0 [] (upd H D (.lst []))) (hl:∀ i ys H',i<=xs.length->Pv i ys H'->aj K H' a xs/\ys.length<=i)
  (hs:∀ (i:Nat) (x:V) (ys:List V) (H':Hp) (R:VK) (R0:Hp->Prop),xs[i]? = some x->Pv i ys H'->(∀ v H3,H3 D=some (.lst ys)->Pv (i+1) (ys++[v]) (upd H3 D (.lst (ys++[v])))->R v H3)->(∀ H3,Pv (i+1) ys H3->R0 H3) ->
   g x σ0 H' fun σ2 H2=>Ext σ0 σ2/\tt σ2 H2 fun b H3=>if b=true then te σ2 H3 R else R0 H3)
  (hq:∀ ys H',Pv xs.length ys H'->Q (.ref D) H') :
  kJ (mY K a) g tt te σ0 D Q H:=by
 refine ⟨fun i m ys H'=>m=xs.length - i/\i<=xs.length/\Pv i ys H',⟨xs.length,by simp,EU _,h0⟩,?_⟩
 rintro i m ys H' ⟨rfl,hi,p⟩
 obtain ⟨sq,ly⟩:=hl i ys H' hi p
 by_cases hlt:i < xs.length
 ·refine .inr ⟨⟨xs,xs[i],sq,by simp [hlt]⟩,fun x H'' y=>?_⟩
  obtain ⟨e,y⟩:=y
  subst e
  have ex:=y xs sq
  refine hs i x ys _ _ _ ex p (fun v H3 hD p'=>⟨hD,by lia,xs.length - (i+1),by lia,rfl,hlt,p'⟩) fun H3 p'=>⟨xs.length - (i+1),by lia,rfl,hlt,p'⟩
 ·have e:i=xs.length:=by lia
  subst e
  exact .inl ⟨⟨xs,sq,EF _⟩,hq ys H' p⟩
end
end L2
namespace Ck
open PySem L2
theorem uH (xs:List V) (a b:Nat) (ha:a<=b):c6 xs (some (a:Int)) (some (b:Int))=(xs.drop a).take (b - a):=by
 unfold c6
 rw [HT.sIx_nat,HT.sIx_nat]
 by_cases h:a<=xs.length
 ·rw [show min a xs.length=a by lia]
  by_cases h2:b<=xs.length
  ·rw [show min b xs.length=b by lia]
  ·rw [show min b xs.length=xs.length by lia,EL (by rw [GG]; lia),EL (by rw [GG]; lia)]
 ·rw [FS (show xs.length<=a by lia),FS (by lia)]
  simp
theorem jj (d:Int) (ns:List Int):(ns.map (·+d)).map (·+-d)=ns:=by
 rw [FG]
 refine (Fw fun y _=>?_).trans (Km _)
 show y+d+-d=y
 lia
end Ck
namespace Ck
open PySem L2
structure eF (fs:List (Str × V)) (w:Str) (l:Int):Prop where
 word:fs.lookup ("word" : Str)=some (.str w)
 least:fs.lookup ("least" : Str)=some (.int l)
 no:∀ m:Str,m≠("word" : Str)->m≠("least" : Str)->fs.lookup m=none
theorem xX (w:Str) (l:Int):eF (dE ("least" : Str) (.int l) (dE ("word" : Str) (.str w) [])) w l :=
 ⟨by rw [cL,if_neg (by decide),cL,if_pos rfl],by rw [cL,if_pos rfl],fun m a b=>by rw [cL,if_neg b,cL,if_neg a]; rfl⟩
noncomputable def up (d:Int) (p:Pair):Pair:=(p.1+d,p.2+d)
noncomputable def b6 (ps qs:List Pair):List Pair:=(0,2*(ps.length:Int)+1)::(ps.map (up 1)++qs.map (up (2*(ps.length:Int)+2)))
theorem rB (d:Int) (ps:List Pair):(ps.map (up d)).map (up (-d))=ps:=by
 rw [FG]
 refine (Fw fun y _=>?_).trans (Km _)
 show (y.1+d+-d,y.2+d+-d)=y
 rw [J7,J7]
theorem bu.take {H:Hp}:∀ (k:Nat) {xs:List V} {ps:List Pair},bu H xs ps->bu H (xs.take k) (ps.take k)
 | 0,_,_,_=>.nil
 | k+1,_,_,.nil=>.nil
 | k+1,_,_,.cons r t=>.cons r (bu.take k t)
theorem bu.drop {H:Hp}:∀ (k:Nat) {xs:List V} {ps:List Pair},bu H xs ps->bu H (xs.drop k) (ps.drop k)
 | 0,_,_,h=>h
 | k+1,_,_,.nil=>.nil
 | k+1,_,_,.cons r t=>bu.drop k t
theorem bu.app {H:Hp}:∀ {xs ys:List V} {ps qs:List Pair},bu H xs ps->bu H ys qs->bu H (xs++ys) (ps++qs)
 | _,_,_,_,.nil,h=>h
 | _,_,_,_,.cons r t,h=>.cons r (bu.app t h)
end Ck
namespace Ck
open PySem L2
theorem l9 (ns:List Int):(ns.map V.int).all fV=true:=by
 rw [Fq]
 intro x hx
 obtain ⟨n,_,rfl⟩:=ER.mp hx
 rfl
end Ck
namespace Ck
open PySem L2
end Ck
namespace Ck
open PySem L2
inductive St:List Int->Int->Prop
 | nil:St [] 0
 | snoc {rs:List Int} {a n:Int}:St rs a->a<=n->n<=(rs.length:Int)->St (rs++[n]) n
end Ck
namespace Ck
open PySem L2
end Ck
namespace Ck
open PySem L2
end Ck
namespace L2
open PySem PySem.Spec PyProof.Rows
theorem dc:bootBuiltins "sorted" = some (.builtin "sorted"):=by decide +kernel
theorem ub:bootBuiltins "all" = some (.builtin "all"):=by decide +kernel
theorem iw:∀ {us:List Ey} {ns:List Int},Hf us ns->Vals (ns.map V.int) us
 | _,_,.nil=>.nil
 | _,_,.cons n t h=>.cons ⟨t,rfl⟩ (iw h)
section
variable {X:Cx}
theorem jv:cQ X (.builtin "sorted") (fun xs H Q=>∃ (p:EK) (ns:List Int),xs=[.ref p]/\aj X.K H p (ns.map V.int)/\ns.length < 64/\∀ (q:EK) (ms:List Int),H q=none->ms.Perm ns->ms.Pairwise (·<=·)->Q (.ref q) (upd H q (.lst (ms.map V.int)))):=by
 intro pins s σ H xs us Q I r h
 obtain ⟨p,ns,rfl,hl,h64,q⟩:=h
 obtain ⟨u,rfl,ru⟩:=vals1 r
 cases ru
 obtain ⟨its,r',pl,hz⟩:=I.list hl
 have hi:Hf its ns:=intsAre_of r'
 refine sorted_ints pl.isList hi (by rw [hi.length]; exact h64) fun out ms ho hp hs=>?_
 obtain ⟨e,he⟩:=KN s.heap its out
 have lm:(ms.map V.int).length<=sizeLine:=by rw [Do,hp.length_eq]; exact sz (by lia)
 exact ⟨.ref _,_,I.laid (t':=s.toks) (o:=.lst (ms.map V.int)) (fun b u e=>Ko e) (Hz _) ⟨lm,out.toList,e,iw ho,by simpa [seqObj] using he⟩,rfl,q _ ms (I.hok.fresh (Hz _)) hp hs⟩
theorem rJ {bs:List Bool}:∀ {us:List Ey},Vals (bs.map V.bl) us->us=bs.map KZ:=by
 induction bs with
 | nil=>intro us r; rw [Jp] at r; cases r; rfl
 | cons b bs ih =>
  intro us r
  rw [E2] at r
  cases r with
  | cons h t=>rw [ih t,E2]; cases (show _=KZ b from h); rfl
theorem all_range (bs:List Bool):(EM bs.length).all (fun i=>bs.getD i false)=bs.all id:=by
 induction bs with
 | nil=>rfl
 | cons b bs ih =>
  rw [Fb,Ho,Ll,KM,Ll]
  have:((fun i=>(b::bs).getD i false) ∘ Nat.succ)=fun i=>bs.getD i false:=by funext i; rfl
  rw [this,ih]
  rfl
theorem n8 (hc:X.calm=true):cQ X (.builtin "all") (fun xs H Q=>∃ (p:EK) (bs:List Bool),xs=[.ref p]/\aj X.K H p (bs.map V.bl)/\Q (.bl (bs.all id)) H):=by
 intro pins s σ H xs us Q I r h
 obtain ⟨p,bs,rfl,hl,q⟩:=h
 obtain ⟨u,rfl,ru⟩:=vals1 r
 cases ru
 obtain ⟨its,r',pl,hz⟩:=I.list hl
 have ei:=rJ r'
 have hlt:p < s.heap.objs.size:=by obtain ⟨_,e,_⟩:=pl.isList; exact EV e
 refine call_all_walk (J4 pl.isList ⟨_,_,_,_,_,_,fun i=>bs.getD i false,rfl,Walks.list (A:=X.A.in1) (I.ok.hd hc) _ p (Fn hlt) its.toArray,⟨⟨_,Fd _ rfl,rfl,rfl⟩,pl.isList.push _⟩,?_,fun h' tk hk=>⟨.bl _,H,I.kept (old_kept hk),rfl,?_⟩⟩)
 ·intro i v s' Q' E' hP hQ
  have hb:bs[i]? = some (bs.getD i false)/\v = .bool (bs.getD i false):=by
   have hP':its[i]? = some v:=by simpa using hP
   rw [ei,FD] at hP'
   cases hb:bs[i]? with
   | none=>rw [hb] at hP'; cases hP'
   | some b =>
    rw [hb] at hP'
    have e1:bs.getD i false=b:=by rw [AC,hb]; rfl
    rw [e1]
    exact ⟨rfl,(FB hP').symm⟩
  rw [hb.2]
  exact FW hQ
 ·have e1:its.toArray.size=bs.length:=by rw [ei]; simp
  rw [e1,all_range]
  exact q
end
end L2
namespace Ck
open PySem L2
end Ck
namespace Ck
open PySem L2
end Ck
namespace Ck
open PySem L2
end Ck
namespace Ck
open PySem L2
noncomputable def steps (ws:List Int):List Int:=(EM (ws.length - 1)).map fun (i:Nat)=>(ws.getD (i+1) 0 - ws.getD i 0) % ((ws.length:Int)+1)
end Ck
namespace L2
open PySem PySem.W
structure l7 where
 thing:EK
noncomputable def lh (K:Frag) (er:l7):Bool:=(excIn K er.thing zK "ValueError.__new__")&&(exmOne K (.ref er.thing) (.ref er.thing) == some true)
structure rN (K:Frag) (mg:Str->Option Ey) (er:l7):Prop where
 m_thing:mg "NoThing" = some (.ref er.thing)
 x_thing:qE K er.thing
 t_thing:exmOne K (.ref er.thing) (.ref er.thing)=some true
theorem B1 {K:Frag} {mg:Str->Option Ey} {er:l7} (h:lh K er=true) (hm:mg "NoThing" = some (.ref er.thing)):rN K mg er:=by
 unfold lh at h
 simp only [EW,beq_iff_eq] at h
 exact ⟨hm,h.1,h.2⟩
end L2
namespace Ck
open PySem L2
theorem ne_int {a b:Int} (h:a≠b):¬ V.int a=V.int b:=fun z=>h (by injection z)
end Ck
namespace Ck
end Ck
namespace Ck
open PySem L2
noncomputable def bO (es:List Int) (r:Int):Int:=if 0 < r then es.getD (r - 1).toNat 0 else r
noncomputable def inR (es:List Int):Bool:=es.all fun e=>decide (0<=e)&&decide (e<=(es.length:Int))
end Ck
namespace Ck
open PySem L2
theorem lH (a b:Int):decide (V.int a=V.int b)=decide (a=b):=by
 by_cases h:a=b
 ·rw [decide_eq_true h,decide_eq_true (by rw [h])]
 ·rw [decide_eq_false h,decide_eq_false (ne_int h)]
end Ck
namespace Ck
theorem mC {row:List Int} (nd:row.Nodup) {i j:Nat} {x:Int} (hi:row[i]? = some x) (hj:row[j]? = some x):i=j :=
 (List.getElem?_inj (EC.mp hi).1 nd).mp (hi.trans hj.symm)
end Ck
namespace Ck
open PySem L2
end Ck
namespace L2
open PySem PySem.Spec PyProof.Rows
theorem oI:∀ {xs:List V} {us:List Ey},us.length=xs.length->(∀ (j:Nat) v,us[j]? = some v->∃ x,xs[j]? = some x/\RelV x v)->Vals xs us
 | [],us,hl,_=>by
  have:us=[]:=Ih hl
  subst this
  exact .nil
 | x::xs,[],hl,_=>by simp at hl
 | x::xs,u::us,hl,k=>by
  obtain ⟨y,e1,r⟩:=k 0 u rfl
  have:x=y:=by simpa using e1
  subst this
  exact .cons r (oI (by simpa using hl) fun j w e=>by
   obtain ⟨y,f1,f2⟩:=k (j+1) w (by simpa using e)
   exact ⟨y,by simpa using f1,f2⟩)
noncomputable def fv (i:Int) (n:Nat):List V:=((EM n).map fun (k:Nat)=>i+(k:Int)).map V.int
section
variable {X:Cx}
theorem list_range {pins:List (EK × Obj)} {σ:St} {H:Hp} {s:Ez} {Q:VK} {lo hi:Int} {t u v:Tok} {tk:Nat} (hc:X.calm=true) (I:Inv X pins σ H s) (h1 : -(2 ^ 62)<=lo) (h2:lo < 2 ^ 62) (h3 : -(2 ^ 62)<=hi) (h4:hi < 2 ^ 62) (hz:(hi - lo).toNat<=1000000)
  (q:∀ l,H l=none->Q (.ref l) (upd H l (.lst (fv lo (hi - lo).toNat)))):wpAny (model X.prog X.w) X.A (call (.type "list") [.ref s.heap.objs.size]) (EP X pins σ Q) X.xe { s with heap:=s.heap.push { cls:=.type "range",data:=.fields #[.int lo t,.int hi u,.int 1 v] },toks:=tk }:=by
 have I1:Inv X pins σ H { s with heap:=s.heap.push { cls:=.type "range",data:=.fields #[.int lo t,.int hi u,.int 1 v] },toks:=tk }:=I.kept fun b o e=>EB _ e
 refine call_list_range (n:=(hi - lo).toNat) (I.ok.hd hc) (IsRange.new ..) (small_one h1 h2 h3 h4) (by rw [rangeSize_one]; split<;>lia) (by lia) fun h' tk' acc' c' hk he hacc=>?_
 have hl:acc'.toList.length=(fv lo (hi - lo).toNat).length:=by unfold fv; simpa using hacc.1
 refine ⟨.ref _,_,I1.laid (t':=tk') (o:=.lst (fv lo (hi - lo).toNat)) hk (EF _) ⟨?_,acc'.toList,c',oI hl fun j w e=>?_,he⟩,rfl,q _ (I1.hok.fresh (EF _))⟩
 ·unfold fv
  rw [Do,Do,FR]
  exact sz (by lia)
 ·obtain ⟨t',e2⟩:=hacc.2 j w (by simpa using e)
  have hj:j < (hi - lo).toNat:=by
   have:=(EC.mp e).1
   rw [hl] at this
   unfold fv at this
   simpa using this
  refine ⟨.int (lo+(j:Int)),?_,t',by rw [e2,Int.mul_one]⟩
  unfold fv
  rw [FD,FD,JJ hj]
  rfl
noncomputable def Dz (ta:TA):TE:=fun σ H Q=>ta σ H fun vs H1=>∃ j:Int,vs=[.int j]/\-(2 ^ 62)<=j/\j < 2 ^ 62/\j.toNat<=1000000/\∀ l,H1 l=none->Q (.ref l) (upd H1 l (.lst (fv 0 j.toNat)))
theorem Bw {a:Hq} {ta:TA} {p p2 pos pos2:Pos} (hc:X.calm=true) (hgl:Gl X "list") (hml:X.mg "list" = none) (hg:Gl X "range") (hm:X.mg "range" = none) (ha:PA X [a] ta) (hs:starEach [a] X.env=[(false,eval a X.env)]:=by rfl)
  (he:starEach [.Call (.Name "range" p) [a] [] pos] X.env=[(false,eval (.Call (.Name "range" p) [a] [] pos) X.env)]:=by rfl) :
  PE X (.Call (.Name "list" p2) [.Call (.Name "range" p) [a] [] pos] [] pos2) (Dz ta):=by
 intro pins s σ H Q I h
 refine GB (dM I hgl hml dD ?_ (by decide) (by decide))
 refine FX ?_ he rfl
 rw [he]
 show wpAny _ _ (spliced ((false,eval (.Call (.Name "range" p) [a] [] pos) X.env)::backTo pos2 [])) _ _ s
 refine IV (Call_ (dM I hg hm boot_range (FX (aG (ha pos pins s σ H _ I h) fun us s1 ⟨vs,H1,I1,r1,q1⟩=>?_) hs rfl)))
 obtain ⟨j,e,b1,b2,b3,q⟩:=q1
 subst e
 cases r1 with
 | cons r rr =>
  cases rr
  obtain ⟨t,rfl⟩:=r
  exact call_range_1 (Jg (list_range hc I1 (by lia) (by lia) b1 b2 (by simpa using b3) (by simpa using q)))
end
end L2
namespace L2
open PySem PySem.Spec PyProof.Rows
end L2
namespace L2
open PySem PySem.Spec PyProof.Rows
theorem mL {X:Cx} {K:Fi} (hK:X.K=K):cQ X (.builtin "len") (fun xs H Q=>∃ a ys,xs=[.ref a]/\(aj K H a ys\/bb K H a ys)/\Q (.int ys.length) H):=by
 subst hK
 exact bw
end L2
namespace Ck
open PySem L2
noncomputable def cG (n:Nat):List Int:=(EM n).map fun (k:Nat)=>(k:Int)
theorem om (n:Nat):cG (n+1)=cG n++[(n:Int)]:=by unfold cG; rw [GQ,ED]; rfl
theorem lN (n:Nat):(cG n).length=n:=by unfold cG; simp
theorem gf {n:Nat} {m:Int}:m∈cG n↔0<=m/\m < (n:Int):=by
 unfold cG
 rw [ER]
 constructor
 ·rintro ⟨k,hk,rfl⟩
  have:=E6.mp hk
  lia
 ·intro h
  exact ⟨m.toNat,E6.mpr (by lia),by lia⟩
theorem kc (n:Nat):(cG n).Pairwise (· < ·):=by
 unfold cG
 rw [FJ]
 exact KG.imp fun h=>by lia
noncomputable def bW (ns:List Int):Bool:=ns.isPerm (cG ns.length)
theorem cn (ns:List Int):bW ns=true↔ns.Perm (cG ns.length):=List.isPerm_iff
theorem nI {ns ms:List Int} (hp:ms.Perm ns) (hs:ms.Pairwise (·<=·)):bW ns=decide (ms=cG ns.length):=by
 rw [Gr,cn,decide_eq_true_iff]
 constructor
 ·intro h
  exact GL (le:=(·<=·)) (fun a b _ _ h1 h2=>Int.le_antisymm h1 h2) hs ((kc _).imp Gv) (hp.trans h)
 ·intro h
  rw [<- h]
  exact hp.symm
noncomputable def iz (row:List Int) (k:Nat):Bool:=(EM k).any fun i=>(EM row.length).any fun j=>decide (k < j)&&(decide (row.getD k 0 < row.getD j 0)&&decide (row.getD j 0 < row.getD i 0))
theorem j6 (row:List Int) (k:Nat):iz row k=true↔∃ i j:Nat,i < k/\k < j/\j < row.length/\row.getD k 0 < row.getD j 0/\row.getD j 0 < row.getD i 0:=by
 unfold iz
 rw [Hs]
 constructor
 ·rintro ⟨i,hi,h⟩
  rw [Hs] at h
  obtain ⟨j,hj,h⟩:=h
  rw [EW,EW] at h
  exact ⟨i,j,E6.mp hi,of_decide_eq_true h.1,E6.mp hj,of_decide_eq_true h.2.1,of_decide_eq_true h.2.2⟩
 ·rintro ⟨i,j,h1,h2,h3,h4,h5⟩
  refine ⟨i,E6.mpr h1,?_⟩
  rw [Hs]
  refine ⟨j,E6.mpr h3,?_⟩
  rw [EW,EW]
  exact ⟨decide_eq_true h2,decide_eq_true h4,decide_eq_true h5⟩
noncomputable def jY (row:List Int):Bool:=(EM row.length).all fun k=>!iz row k
noncomputable def eZ (row:List Int):Bool:=bW row&&jY row
theorem qG {row:List Int} {k:Nat} (hk:k < row.length) (h:iz row k=true):jY row=false:=by
 cases e:jY row with
 | false=>rfl
 | true =>
  have:=Fq.mp e k (E6.mpr hk)
  rw [h] at this
  cases this
theorem mw {row:List Int} (h:∀ k,k < row.length->iz row k=false):jY row=true:=by
 unfold jY
 rw [Fq]
 intro k hk
 rw [h k (E6.mp hk)]
 rfl
noncomputable def stk (row:List Int) (k p:Nat):List Int:=(cG p).filter fun m=>!decide (m∈row.take k)
theorem lB {row:List Int} {k p:Nat} {m:Int}:m∈stk row k p↔(0<=m/\m < (p:Int))/\m∉row.take k:=by
 unfold stk
 rw [FK,gf]
 simp
theorem zj (row:List Int) (k p:Nat):(stk row k p).Pairwise (· < ·):=(kc p).filter _
theorem wm {row:List Int} {k p:Nat} (h:(p:Int)∉row.take k):stk row k (p+1)=stk row k p++[(p:Int)]:=by
 unfold stk
 rw [om,FZ]
 simp [h]
theorem v3 {row:List Int} {k p:Nat} {x:Int} (hx:row[k]? = some x):stk row (k+1) p=(stk row k p).filter fun m=>!decide (m=x):=by
 unfold stk
 rw [List.filter_filter]
 refine List.filter_congr fun m _=>?_
 rw [E3,hx]
 by_cases h1:m=x<;>by_cases h2:m∈row.take k<;>simp [h1,h2]
theorem pC {l0:List Int} {x:Int} (h:(l0++[x]).Pairwise (· < ·)):(l0++[x]).filter (fun m=>!decide (m=x))=l0:=by
 rw [FZ]
 have e1:l0.filter (fun m=>!decide (m=x))=l0:=by
  rw [HW]
  intro m hm
  have:=(Fx.mp h).2.2 m hm x (by simp)
  simp
  lia
 rw [e1]
 simp
structure Off (row:List Int) (k p:Nat):Prop where
 below:∀ x∈row.take k,x < (p:Int)
 from_:p=0\/∃ x∈row.take k,(p:Int)=x+1
 fine:∀ j,j < k->iz row j=false
theorem Off.start (row:List Int):Off row 0 0:=⟨fun x hx=>by simp at hx,.inl rfl,fun j hj=>absurd hj (Hk _)⟩
theorem gj {row:List Int} {k:Nat} {y:Int} (h:y∈row.take k):∃ i,i < k/\row[i]? = some y:=by
 obtain ⟨i,hi,e⟩:=Hl h
 rw [E5] at hi
 refine ⟨i,by lia,?_⟩
 rw [List.getElem_take] at e
 rw [Da (show i < row.length by lia),e]
theorem gP {row:List Int} {k:Nat} {y:Int} (h:row[k]? = some y):row.getD k 0=y:=by rw [AC,h]; rfl
theorem Off.step {row:List Int} {k p p':Nat} {x:Int} (o:Off row k p) (hp:row.Perm (cG row.length)) (hx:row[k]? = some x) (hp':(p':Int)=if (p:Int)<=x then x+1 else (p:Int)) :
  ∃ l0 t,stk row k p'=l0++[t]/\(t=x->l0=stk row (k+1) p'/\Off row (k+1) p')/\(t≠x->iz row k=true):=by
 have nd:row.Nodup:=hp.nodup_iff.mpr ((kc _).imp fun h=>Int.ne_of_lt h)
 have rng:∀ y∈row,0<=y/\y < (row.length:Int):=fun y hy=>gf.mp (hp.mem_iff.mp hy)
 have hk:k < row.length:=(EC.mp hx).1
 have xr:=rng x (ES hx)
 have xn:x∉row.take k:=fun h=>by
  obtain ⟨i,hi,e⟩:=gj h
  have:=mC nd e hx
  lia
 have xp:x < (p':Int):=by rw [hp']; split<;>lia
 have pp:(p:Int)<=p':=by rw [hp']; split<;>lia
 have xs:x∈stk row k p':=lB.mpr ⟨⟨xr.1,xp⟩,xn⟩
 have hne:stk row k p'≠[]:=fun z=>by rw [z] at xs; cases xs
 have el:stk row k p'=(stk row k p').dropLast++[(stk row k p').getLast hne]:=(JD hne).symm
 have pw:=zj row k p'
 generalize (stk row k p').dropLast=l0 at el
 generalize (stk row k p').getLast hne=t at el
 refine ⟨l0,t,el,fun e=>?_,fun e=>?_⟩
 ·subst e
  have top:∀ m∈stk row k p',m<=t:=fun m hm=>by
   rw [el] at hm pw
   rcases EN.mp hm with z | z
   ·have:=(Fx.mp pw).2.2 m z t (by simp)
    lia
   ·have:m=t:=by simpa using z
    lia
  refine ⟨?_,fun y hy=>?_,?_,fun j hj=>?_⟩
  ·rw [v3 hx,el,pC (by rw [<- el]; exact pw)]
  ·rw [E3,hx] at hy
   rcases EN.mp hy with z | z
   ·have:=o.below y z
    lia
   ·have:y=t:=by simpa using z
    lia
  ·have hm:t∈row.take (k+1):=by rw [E3,hx]; simp
   by_cases c:(p:Int)<=t
   ·rw [if_pos c] at hp'
    exact .inr ⟨t,hm,hp'⟩
   ·rw [if_neg c] at hp'
    rcases o.from_ with z | ⟨y,hy,z⟩
    ·lia
    ·exact .inr ⟨y,by rw [E3]; exact Gi _ hy,by lia⟩
  ·by_cases c:j=k
   ·subst c
    cases hb:iz row j with
    | false=>rfl
    | true =>
     obtain ⟨i,m,h1,h2,h3,h4,h5⟩:=(j6 row j).mp hb
     rw [gP hx] at h4
     have em:row[m]? = some (row.getD m 0):=by rw [AC,Da h3]; rfl
     have ei:row[i]? = some (row.getD i 0):=by rw [AC,Da (show i < row.length by lia)]; rfl
     have mi:row.getD i 0∈row.take j:=ES (i:=i) (by rw [HM h1]; exact ei)
     have b1:=o.below _ mi
     have b2:=rng _ (ES em)
     have nm:row.getD m 0∉row.take j:=fun h=>by
      obtain ⟨i',hi',e'⟩:=gj h
      have:=mC nd e' em
      lia
     have:=top _ (lB.mpr ⟨⟨b2.1,by lia⟩,nm⟩)
     lia
   ·exact o.fine j (by lia)
 ·have ht:t∈stk row k p':=by rw [el]; simp
  obtain ⟨⟨t0,t1⟩,tn⟩:=lB.mp ht
  have xt:x < t:=by
   rw [el] at xs pw
   rcases EN.mp xs with z | z
   ·exact (Fx.mp pw).2.2 x z t (by simp)
   ·have:x=t:=by simpa using z
    exact absurd this.symm e
  have c:¬ (p:Int)<=x:=fun c=>by rw [if_pos c] at hp'; lia
  rw [if_neg c] at hp'
  rcases o.from_ with z | ⟨y,hy,z⟩
  ·lia
  ·obtain ⟨i,hi,ei⟩:=gj hy
   have yr:=rng y (ES ei)
   have ty:t≠y:=fun w=>tn (by rw [w]; exact hy)
   have tr:t∈row:=hp.mem_iff.mpr (gf.mpr ⟨t0,by lia⟩)
   obtain ⟨j,hj,ej⟩:=Hl tr
   have ej':row[j]? = some t:=by rw [Da hj,ej]
   have jk:k < j:=by
    by_cases h:j < k
    ·exact absurd (ES (i:=j) (by rw [HM h]; exact ej')) tn
    ·by_cases h2:j=k
     ·subst h2
      rw [hx] at ej'
      exact absurd (FB ej').symm e
     ·lia
   exact (j6 row k).mpr ⟨i,j,hi,jk,hj,by rw [gP hx,gP ej']; exact xt,by rw [gP ej',gP ei]; lia⟩
end Ck
namespace Ck
open PySem L2
theorem nH:∀ as bs:List Int,jy (as.map V.int) (bs.map V.int)=decide (as=bs)
 | [],[]=>rfl
 | [],b::bs=>rfl
 | a::as,[]=>rfl
 | a::as,b::bs=>by
  rw [E2,E2]
  show (g5 (.int a) (.int b)&&jy (as.map V.int) (bs.map V.int))=_
  rw [nH as bs]
  have e:g5 (.int a) (.int b)=decide (a=b):=by
   show (a == b)=_
   by_cases h:a=b
   ·subst h; simp
   ·simp [h]
  rw [e]
  by_cases h1:a=b<;>by_cases h2:as=bs<;>simp [h1,h2]
theorem l8 (n:Nat):fv 0 n=(cG n).map V.int:=by
 unfold fv cG
 refine congrArg (Kk V.int) (Fw fun k _=>?_)
 show (0:Int)+(k:Int)=(k:Int)
 lia
structure C9 (pl rw:List Int) (a:Nat):Prop where
 perm:(pl++rw).Perm (cG a)
 up:pl.Pairwise (· < ·)
 no:∀ i j k:Nat,i < k->k < j->j < rw.length->¬ (rw.getD k 0 < rw.getD j 0/\rw.getD j 0 < rw.getD i 0)
 left:∀ i k:Nat,i < k->k < rw.length->∀ m∈pl,¬ (rw.getD k 0 < m/\m < rw.getD i 0)
theorem gu.ok {pl rw:List Int} {a:Nat} (h:gu pl rw a):C9 pl rw a:=by
 induction h with
 | start=>exact ⟨IF _,Jh,fun i j k _ _ hj=>by simp at hj,fun i k _ hk=>by simp at hk⟩
 | @on p r a hp ih =>
  have b:=hp.bound
  refine ⟨?_,?_,ih.no,fun i k h1 h2 m hm=>?_⟩
  ·rw [om,E9]
   have:=(ih.perm.append_right [(a:Int)])
   rw [E9] at this
   exact (Ga p (Hw)).trans this
  ·rw [Fx]
   refine ⟨ih.up,Hg _ _,fun x hx y hy=>?_⟩
   have:y=(a:Int):=by simpa using hy
   have:=b x (.inl hx)
   lia
  ·rcases EN.mp hm with z | z
   ·exact ih.left i k h1 h2 m z
   ·have:m=(a:Int):=by simpa using z
    have hi:r.getD i 0∈r:=by
     rw [AC,Da (show i < r.length by lia)]
     exact GH _
    have:=b _ (.inr hi)
    lia
 | @off p r a m hp ih =>
  have up:=Fx.mp ih.up
  have gd:∀ i,i < r.length->(r++[m]).getD i 0=r.getD i 0:=fun i hi=>by
   rw [AC,GE hi,<- AC]
  have gm:(r++[m]).getD r.length 0=m:=by
   rw [AC,Gc (EF _),Nat.sub_self]
   rfl
  refine ⟨?_,up.1,fun i j k h1 h2 h3=>?_,fun i k h1 h2 x hx=>?_⟩
  ·refine KO ?_ ih.perm
   rw [E9]
   exact Ga p Hw
  ·rw [EA] at h3
   have h3':j < r.length+1:=h3
   by_cases hj:j < r.length
   ·rw [gd j hj,gd k (by lia),gd i (by lia)]
    exact ih.no i j k h1 h2 hj
   ·have ej:j=r.length:=by lia
    rw [ej,gm,gd k (by lia),gd i (by lia)]
    exact ih.left i k h1 (by lia) m (by simp)
  ·rw [EA] at h2
   have h2':k < r.length+1:=h2
   by_cases hk:k < r.length
   ·rw [gd k hk,gd i (by lia)]
    exact ih.left i k h1 hk x (by simp [hx])
   ·have ek:k=r.length:=by lia
    rw [ek,gm]
    have:=up.2.2 x hx m (by simp)
    lia
theorem gu.turn {rw:List Int} {n:Nat} (h:gu [] rw n) (hl:rw.length=n):eZ rw=true:=by
 have o:=h.ok
 unfold eZ
 rw [EW]
 refine ⟨(cn rw).mpr (by rw [hl]; simpa using o.perm),mw fun k hk=>?_⟩
 cases e:iz rw k with
 | false=>rfl
 | true =>
  obtain ⟨i,j,h1,h2,h3,h4,h5⟩:=(j6 rw k).mp e
  exact absurd ⟨h4,h5⟩ (o.no i j k h1 h2 h3)
end Ck
namespace Ck
open PySem L2
noncomputable def Eu (n:Nat):List Int:=(EM n).map fun (k:Nat)=>1+(k:Int)
end Ck
namespace Ck
end Ck
namespace Ck
end Ck
namespace L2
open PySem PySem.Spec PyProof.Rows PySem.SeqAt
section
variable {X:Cx}
theorem wK {K:Fi} (hK:X.K=K):A4 X (Ak K):=by
 subst hK
 exact dY
end
end L2
namespace Ck
open PySem L2
end Ck
namespace L2
open PySem
theorem lZ {A:FE} {k:Nat} (hr:bj k A):A.units+1 < cLine:=Hu (by lia) hr.un
end L2
namespace Ck
open PySem L2
end Ck
namespace L2
open PySem PySem.Spec PyProof.Rows
section
variable {X:Cx}
end
structure InsT (K:Fi) (C:EK):Prop where
 cl:Cls K C
 ha:W.findIn K (.ref C) "__class__" = some (some (.builtin "object.__class__"))
 hn:W.specialIn K (.builtin "object.__class__") "__get__" = some (some (.builtin "getset_descriptor.__get__"))
 htk:W.takesIn K (.builtin "object.__class__")=some true
 hm:W.mroIn K C (.type "object")=some true
end L2
namespace Ck
open PySem L2
end Ck
namespace L2
open PySem PySem.Spec PyProof.Rows PyProof
theorem DT {i j:Int} (h0:0 < j) (h:j.natAbs < 2 ^ 1000):xA i j:=⟨h0,by
 have hz:j.natAbs≠0:=by lia
 have:=(Nat.log2_lt hz).mpr h
 lia⟩
end L2
namespace L2
open PySem PySem.Spec PyProof.Rows
section
variable {X:Cx} {f:EK} {fd:Ge} {ps:List Str} {sp:Sp} {x:Str} {p pos:Pos} {a b e:Hq} {es:List Hq} {tc:TE} {t:TA} {j k:Nat}
end
end L2
namespace Ck
open PySem L2
end Ck
namespace L2
open PySem PySem.Spec PyProof.Rows PySem.W
noncomputable def pw {α:Type} (n:Nat) (lt:Nat->Nat->Bool):KasT α->(α->Prop)->Prop
 | .ret a,Q=>Q a
 | .ask i j k,Q=>i < n/\j < n/\pw n lt (k (lt i j)) Q
theorem fZ {α β:Type} {n:Nat} {lt:Nat->Nat->Bool} {f:α->KasT β} {Q:β->Prop}:∀ {t:KasT α},pw n lt t (fun a=>pw n lt (f a) Q)->pw n lt (t.bind f) Q
 | .ret _,h=>h
 | .ask _ _ _,h=>⟨h.1,h.2.1,fZ h.2.2⟩
theorem fC {α:Type} {n:Nat} {lt:Nat->Nat->Bool} {Q Q':α->Prop} (m:∀ a,Q a->Q' a):∀ {t:KasT α},pw n lt t Q->pw n lt t Q'
 | .ret a,h=>m a h
 | .ask _ _ _,h=>⟨h.1,h.2.1,fC m h.2.2⟩
theorem xo {α:Type} {n:Nat} {lt:Nat->Nat->Bool} {Q:α->Prop} {s:Ez} {cmp:Nat->Nat->(Bool->Ez->Prop)->Ez->Prop}
  (hc:∀ (i j:Nat) (C:Bool->Ez->Prop),i < n->j < n->C (lt i j) s->cmp i j C s):∀ {t:KasT α},pw n lt t Q->t.kasWp cmp (fun a s'=>s'=s/\Q a) s
 | .ret _,h=>⟨rfl,h⟩
 | .ask i j k,h=>hc i j (fun b s'=>(k b).kasWp cmp (fun a s'=>s'=s/\Q a) s') h.1 h.2.1 (xo hc h.2.2)
structure iu (lt:Nat->Nat->Bool):Prop where
 asym:∀ a b,lt a b=true->lt b a=false
 ntr:∀ a b c,lt b a=false->lt c b=false->lt c a=false
noncomputable abbrev gA (p:Array Nat) (k:Nat):Nat:=p.getD k 0
def c8 (n:Nat) (p:Array Nat):Prop:=p.toList.Perm (EM n)
theorem c8.size {n:Nat} {p:Array Nat} (h:c8 n p):p.size=n:=by
 have:=h.length_eq
 rw [FR] at this
 simpa using this
theorem c8.lt {n:Nat} {p:Array Nat} (h:c8 n p) (hn:0 < n) (k:Nat):gA p k < n:=by
 unfold gA
 by_cases hk:k < p.size
 ·have e:p.getD k 0=p[k]:=by simp [hk]
  rw [e]
  exact E6.mp (h.mem_iff.mp (Array.getElem_mem_toList hk))
 ·have e:p.getD k 0=0:=by simp [hk]
  rw [e]; exact hn
theorem iX {p:Array Nat} {i j:Nat} (hj:j<=p.size) (k:Nat):gA (K9 p i j) k=if i<=k/\k < j then gA p (i+j - 1 - k) else gA p k:=by
 unfold gA K9
 rw [FP,getElem?_mirror_all hj k]
 split
 ·rw [<- FP]
 ·rw [<- FP]
theorem zG {p:Array Nat} {src d:Nat} (hs:src < p.size) (hd:d<=src) (k:Nat):gA (bubble p src d) k=if k=src - d then gA p src else if src - d < k/\k<=src then gA p (k - 1) else gA p k:=by
 unfold gA
 rw [FP,getElem?_bubble hs d hd k]
 split
 ·simp [hs]
 ·split
  ·rw [<- FP]
  ·rw [<- FP]
theorem c8.rev {n:Nat} {p:Array Nat} (h:c8 n p) (i j:Nat):c8 n (K9 p i j):=(Hr.mp (HX p i j _)).trans h
theorem c8.bub {n:Nat} {p:Array Nat} (h:c8 n p) (i j:Nat):c8 n (bubble p i j):=(Hr.mp (bubble_perm p i j)).trans h
section
variable {n:Nat} {lt:Nat->Nat->Bool} (O:iu lt)
def cH (lt:Nat->Nat->Bool) (p:Array Nat) (k:Nat):Prop:=∀ i j,i<=j->j < k->lt (gA p j) (gA p i)=false
def gS (lt:Nat->Nat->Bool) (p:Array Nat) (k:Nat):Prop:=∀ i j,i<=j->j < k->lt (gA p i) (gA p j)=false
def kP (lt:Nat->Nat->Bool) (a b:Nat):Prop:=lt a b=false/\lt b a=false
include O
theorem iu.irr (a:Nat):lt a a=false:=by
 cases h:lt a a with
 | false=>rfl
 | true=>exact h.symm.trans (O.asym a a h)
theorem iu.alk (a:Nat):kP lt a a:=⟨O.irr a,O.irr a⟩
theorem iu.alkT {a b c:Nat} (x:kP lt a b) (y:kP lt b c):kP lt a c:=⟨O.ntr c b a y.1 x.1,O.ntr a b c x.2 y.2⟩
theorem iu.up {a b c:Nat} (x:lt a b=true) (y:lt c b=false):lt a c=true:=by
 cases h:lt a c with
 | true=>rfl
 | false=>exact (x.symm.trans (O.ntr b c a y h)).symm▸rfl
theorem cH.one (p:Array Nat):cH lt p 1:=fun i j h1 h2=>by
 have e:i=j:=by lia
 subst e
 exact O.irr _
theorem gS.one (p:Array Nat):gS lt p 1:=fun i j h1 h2=>by
 have e:i=j:=by lia
 subst e
 exact O.irr _
theorem cH.snoc {p:Array Nat} {m:Nat} (h1:1<=m) (h:cH lt p m) (c:lt (gA p m) (gA p (m - 1))=false):cH lt p (m+1):=fun i j ij jm=>by
 by_cases hj:j < m
 ·exact h i j ij hj
 ·have e:j=m:=by lia
  subst e
  by_cases hi:i=j
  ·subst hi; exact O.irr _
  ·exact O.ntr _ _ _ (h i (j - 1) (by lia) (by lia)) c
theorem gS.snoc {p:Array Nat} {m:Nat} (h1:1<=m) (h:gS lt p m) (c:lt (gA p (m - 1)) (gA p m)=false):gS lt p (m+1):=fun i j ij jm=>by
 by_cases hj:j < m
 ·exact h i j ij hj
 ·have e:j=m:=by lia
  subst e
  by_cases hi:i=j
  ·subst hi; exact O.irr _
  ·exact O.ntr _ _ _ c (h i (j - 1) (by lia) (by lia))
theorem gS.alk {p p':Array Nat} {m:Nat} (h:gS lt p m) (e:∀ k,k < m->kP lt (gA p' k) (gA p k)):gS lt p' m:=fun i j ij jm =>
 O.ntr _ _ _ (e j jm).2 (O.ntr _ _ _ (h i j ij jm) (e i (by lia)).1)
theorem oz {p:Array Nat} (hp:c8 n p) {N:Nat} (hN:N<=n):∀ (f m:Nat),1<=m->m+f=N->cH lt p m->pw n lt (kas_asc p f m) (fun r=>m<=r/\r<=N/\cH lt p r/\(r < N->lt (gA p r) (gA p (r - 1))=true))
 | 0,m,h1,h2,h=>⟨EF _,by lia,h,fun z=>absurd z (by lia)⟩
 | f+1,m,h1,h2,h=>by
  refine ⟨hp.lt (by lia) _,hp.lt (by lia) _,?_⟩
  show pw n lt (if lt (gA p m) (gA p (m - 1))=true then _ else _) _
  cases c:lt (gA p m) (gA p (m - 1)) with
  | true =>
   rw [if_pos rfl]
   exact ⟨EF _,by lia,h,fun _=>c⟩
  | false =>
   rw [if_neg (by decide)]
   exact fC (fun r hr=>⟨by lia,hr.2⟩) (oz hp hN f (m+1) (by lia) (by lia) (h.snoc O h1 c))
theorem jf {N:Nat} (hN:N<=n):∀ (f:Nat) (p:Array Nat) (m q:Nat),c8 n p->q+1<=m->m+f=N->gS lt p m->(∀ i,m - 1 - q<=i->i < m->kP lt (gA p i) (gA p (m - 1))) ->
  pw n lt (kas_desc f p m q) (fun r=>c8 n r.1/\r.2.2+1<=r.2.1/\r.2.1<=N/\gS lt r.1 r.2.1/\∀ i,r.2.1 - 1 - r.2.2<=i->i < r.2.1->kP lt (gA r.1 i) (gA r.1 (r.2.1 - 1)))
 | 0,p,m,q,hp,hq,h2,h,al=>⟨hp,hq,by show m<=N; lia,h,al⟩
 | f+1,p,m,q,hp,hq,h2,h,al=>by
  have hs:=hp.size
  refine ⟨hp.lt (by lia) _,hp.lt (by lia) _,?_⟩
  show pw n lt (if lt (gA p m) (gA p (m - 1))=true then _ else _) _
  cases c:lt (gA p m) (gA p (m - 1)) with
  | true =>
   rw [if_pos rfl]
   by_cases q0:q > 0
   ·rw [if_pos q0]
    have e:∀ k,gA (K9 p (m - (q+1)) m) k=if m - (q+1)<=k/\k < m then gA p (m - (q+1)+m - 1 - k) else gA p k:=fun k=>iX (by lia) k
    have ek:∀ k,k < m->kP lt (gA (K9 p (m - (q+1)) m) k) (gA p k):=fun k hk=>by
     rw [e k]
     split
     ·have z1:=al (m - (q+1)+m - 1 - k) (by lia) (by lia)
      have z2:=al k (by lia) hk
      exact O.alkT z1 ⟨z2.2,z2.1⟩
     ·exact O.alk _
    have em:gA (K9 p (m - (q+1)) m) m=gA p m:=by rw [e m,if_neg (by lia)]
    refine jf hN f _ (m+1) 0 (hp.rev _ _) (by lia) (by lia) ((h.alk O ek).snoc O (by lia) ?_) (fun i i1 i2=>?_)
    ·rw [em]
     have:=(ek (m - 1) (by lia)).1
     exact O.ntr _ _ _ (O.asym _ _ c) this
    ·have:i=m:=by lia
     subst this
     exact O.alk _
   ·rw [if_neg q0]
    refine jf hN f p (m+1) 0 hp (by lia) (by lia) (h.snoc O (by lia) (O.asym _ _ c)) (fun i i1 i2=>?_)
    have:i=m:=by lia
    subst this
    exact O.alk _
  | false =>
   rw [if_neg (by decide)]
   refine ⟨hp.lt (by lia) _,hp.lt (by lia) _,?_⟩
   show pw n lt (if lt (gA p (m - 1)) (gA p m)=true then _ else _) _
   cases d:lt (gA p (m - 1)) (gA p m) with
   | true =>
    rw [if_pos rfl]
    exact ⟨hp,hq,by show m<=N; lia,h,al⟩
   | false =>
    rw [if_neg (by decide)]
    refine jf hN f p (m+1) (q+1) hp (by lia) (by lia) (h.snoc O (by lia) d) (fun i i1 i2=>?_)
    by_cases hi:i < m
    ·exact O.alkT (al i (by lia) hi) ⟨d,c⟩
    ·have:i=m:=by lia
     subst this
     exact O.alk _
def A5 (n:Nat) (lt:Nat->Nat->Bool) (N:Nat) (r:Nat × Array Nat):Prop:=c8 n r.2/\cH lt r.2 r.1/\1<=r.1/\r.1<=N
theorem n6 {N:Nat} (hN:N<=n) {p:Array Nat} {m:Nat} (hp:c8 n p) (h1:1<=m) (hm:m<=N) (h:gS lt p m):pw n lt (kas_tail3 m N p) (A5 n lt N):=by
 have hs:=hp.size
 have e:∀ k,k < m->gA (K9 p 0 m) k=gA p (m - 1 - k):=fun k hk=>by
  rw [iX (by lia),if_pos (by lia),GM]
 refine fZ (fC (fun r hr=>?_) (oz O (hp.rev 0 m) hN (N - m) m h1 (by lia) (fun i j ij jm=>?_)))
 ·exact ⟨hp.rev 0 m,hr.2.2.1,by show 1<=r; lia,hr.2.1⟩
 ·rw [e i (by lia),e j jm]
  exact h _ _ (by lia) (by lia)
theorem jn {N:Nat} (hN:N<=n) {p:Array Nat} {m:Nat} (hp:c8 n p) (h1:1<=m) (hm:m+1<=N) (h:gS lt p m) (c:lt (gA p m) (gA p (m - 1))=true):pw n lt (kas_descPart m N p) (A5 n lt N):=by
 refine fZ (fC (fun r hr=>?_) (jf O hN (N - (m+1)) p (m+1) 0 hp (by lia) (by lia) (h.snoc O h1 (O.asym _ _ c)) (fun i i1 i2=>?_)))
 ·obtain ⟨p',m',q'⟩:=r
  obtain ⟨ok,hq,hl,fa,al⟩:=hr
  have hs:=ok.size
  dsimp only at hs hq hl fa al |-
  by_cases q0:q' > 0
  ·rw [if_pos q0]
   refine n6 O hN (ok.rev _ _) (by lia) hl (fa.alk O fun k hk=>?_)
   rw [iX (by lia)]
   split
   ·have z1:=al (m' - (q'+1)+m' - 1 - k) (by lia) (by lia)
    have z2:=al k (by lia) hk
    exact O.alkT z1 ⟨z2.2,z2.1⟩
   ·exact O.alk _
  ·rw [if_neg q0]
   exact n6 O hN ok (by lia) hl fa
 ·have:i=m:=by lia
  subst this
  exact O.alk _
theorem wL {N:Nat} (hN:N<=n) (hN1:1<=N) {p:Array Nat} (hp:c8 n p):pw n lt (kas_count N p) (A5 n lt N):=by
 have hs:=hp.size
 refine fZ (fC (fun m hm=>?_) (oz O hp hN (N - 1) 1 (EF _) (by lia) (cH.one O p)))
 obtain ⟨m1,mN,ri,st⟩:=hm
 by_cases e:m=N
 ·subst e
  rw [if_pos (by simp)]
  exact ⟨hp,ri,m1,EF _⟩
 ·rw [if_neg (by simpa using e)]
  have c:=st (by lia)
  by_cases m2:m > 1
  ·rw [if_pos m2]
   refine ⟨hp.lt (by lia) _,hp.lt (by lia) _,?_⟩
   show pw n lt (if lt (gA p 0) (gA p (m - 1))=true then _ else _) _
   cases d:lt (gA p 0) (gA p (m - 1)) with
   | true =>
    rw [if_pos rfl]
    exact ⟨hp,ri,m1,mN⟩
   | false =>
    rw [if_neg (by decide)]
    have al:∀ i,i < m->kP lt (gA p i) (gA p 0):=fun i hi=>⟨ri 0 i (by lia) hi,O.ntr _ _ _ (ri i (m - 1) (by lia) (by lia)) d⟩
    have e:∀ k,k < m->gA (K9 p 0 m) k=gA p (m - 1 - k):=fun k hk=>by
     rw [iX (by lia),if_pos (by lia),GM]
    refine jn O hN (hp.rev _ _) m1 (by lia) (fun i j ij jm=>?_) ?_
    ·rw [e i (by lia),e j jm]
     have z1:=al (m - 1 - i) (by lia)
     have z2:=al (m - 1 - j) (by lia)
     exact (O.alkT z1 ⟨z2.2,z2.1⟩).1
    ·rw [iX (by lia),if_neg (by lia),e (m - 1) (by lia),show m - 1 - (m - 1)=0 by lia]
     exact O.up c d
  ·rw [if_neg m2]
   have em:m=1:=by lia
   subst em
   exact jn O hN hp (EF _) (by lia) (gS.one O p) c
theorem jD {p:Array Nat} (hp:c8 n p) {k:Nat} (hk:k < n) (h:cH lt p k):∀ (f l r:Nat),l<=r->r<=k->r - l<=f->(∀ i,i < l->lt (gA p k) (gA p i)=false)->(∀ i,r<=i->i < k->lt (gA p k) (gA p i)=true) ->
  pw n lt (kas_place p k f l r) (fun l'=>l'<=k/\(∀ i,i < l'->lt (gA p k) (gA p i)=false)/\∀ i,l'<=i->i < k->lt (gA p k) (gA p i)=true)
 | 0,l,r,h1,h2,h3,a,b=>⟨by lia,a,fun i i1 i2=>b i (by lia) i2⟩
 | f+1,l,r,h1,h2,h3,a,b=>by
  show pw n lt (if l ≥ r then _ else _) _
  by_cases e:l ≥ r
  ·rw [if_pos e]
   exact ⟨by lia,a,fun i i1 i2=>b i (by lia) i2⟩
  ·rw [if_neg e]
   refine ⟨hp.lt (by lia) _,hp.lt (by lia) _,?_⟩
   show pw n lt (if lt (gA p k) (gA p ((l+r) / 2))=true then _ else _) _
   cases c:lt (gA p k) (gA p ((l+r) / 2)) with
   | true =>
    rw [if_pos rfl]
    exact jD hp hk h f l ((l+r) / 2) (by lia) (by lia) (by lia) a fun i i1 i2=>O.up c (h _ i i1 i2)
   | false =>
    rw [if_neg (by decide)]
    exact jD hp hk h f ((l+r) / 2+1) r (by lia) h2 (by lia) (fun i hi=>O.ntr _ _ _ (h i ((l+r) / 2) (by lia) (by lia)) c) b
theorem tU:∀ (f:Nat) (p:Array Nat) (k:Nat),c8 n p->k+f=n->cH lt p k->pw n lt (kas_bin f p k) (fun p'=>c8 n p'/\cH lt p' n)
 | 0,p,k,hp,hk,h=>by
  have:k=n:=by lia
  subst this
  exact ⟨hp,h⟩
 | f+1,p,k,hp,hk,h=>by
  have hs:=hp.size
  refine fZ (fC (fun l hl=>?_) (jD O hp (by lia) h k 0 k (by lia) (EF _) (by lia) (fun i hi=>absurd hi (by lia)) (fun i i1 i2=>absurd i1 (by lia))))
  obtain ⟨lk,lo,hi⟩:=hl
  refine tU f _ (k+1) (hp.bub _ _) (by lia) (fun i j ij jk=>?_)
  have e:=fun x=>zG (p:=p) (src:=k) (d:=k - l) (by lia) (by lia) x
  rw [e i,e j,show k - (k - l)=l by lia]
  by_cases j1:j=l
  ·subst j1
   rw [if_pos rfl]
   by_cases i1:i=j
   ·rw [if_pos i1]; exact O.irr _
   ·rw [if_neg i1,if_neg (by lia)]
    exact lo i (by lia)
  ·rw [if_neg j1]
   by_cases j2:l < j/\j<=k
   ·rw [if_pos j2]
    by_cases i1:i=l
    ·rw [if_pos i1]
     exact O.asym _ _ (hi (j - 1) (by lia) (by lia))
    ·rw [if_neg i1]
     by_cases i2:l < i/\i<=k
     ·rw [if_pos i2]
      exact h _ _ (by lia) (by lia)
     ·rw [if_neg i2]
      exact h _ _ (by lia) (by lia)
   ·rw [if_neg j2,if_neg (by lia),if_neg (by lia)]
    exact h _ _ ij (by lia)
theorem yv (h2:1<=n):pw n lt (kas_sort n) (fun p=>c8 n p/\cH lt p n):=by
 refine fZ (fC (fun r hr=>?_) (wL O (EF n) h2 (p:=Js (EM n)) (by unfold c8; simp)))
 obtain ⟨m,p⟩:=r
 obtain ⟨ok,ri,m1,mn⟩:=hr
 dsimp only at ok ri m1 mn |-
 by_cases e:m < n
 ·rw [if_pos e,Nat.max_eq_left m1]
  exact tU O (n - m) p m ok (by lia) ri
 ·rw [if_neg e]
  have:m=n:=by lia
  subst this
  exact ⟨ok,ri⟩
end
end L2
namespace L2
open PySem PySem.Spec PyProof.Rows PySem.W Ck
section
variable {prog:Fm} {w:FH} {A:FE} {E:Ey->Ez->Prop} {s:Ez}
def qQ (prog:Fm) (w:FH) (A:FE) (vs:List Ey) (lt:Nat->Nat->Bool) (s1:Ez):Prop :=
 ∀ (Q:SortKind->Ez->Prop),(∀ κ,(∀ (i j:Nat) (C:Bool->Ez->Prop),i < vs.length->j < vs.length->C (lt i j) s1->kas_ask prog w A κ vs i j C s1)->Q κ s1)->wpAny (model prog w) A (keyKind' vs.toArray) Q (fun _ _=>False) s1
noncomputable def dW (vs:List Ey) (p:Array Nat):List Ey:=p.toList.map fun i=>vs.getD i FV
theorem uX (vs:List Ey):dW vs (Js (EM vs.length))=vs:=by
 unfold dW
 refine IK (by simp) fun i h1 h2=>?_
 simp [h2]
theorem xO (vs:List Ey):(vs.toArray.zip vs.toArray).map (·.2)=vs.toArray:=by
 refine Array.ext (by simp) fun i h1 h2=>?_
 simp
theorem oi {a:EK} {vs:List Ey} {n:Nat} {P:Lz->Ez->Prop} {lt:Nat->Nat->Bool} (O:iu lt) (ho:s.heap.get? a=some (seqObj "list" vs.toArray n)) (h64:vs.length < 64)
  (hk:∀ h6:GP,(∀ b o,b≠a->s.heap.get? b=some o->h6.get? b=some o)->2<=vs.length->qQ prog w A vs lt { s with heap:=h6 })
  (fin:∀ p:Array Nat,c8 vs.length p->cH lt p vs.length->P (.done (.ret .none)) { s with heap:=sortedHeap s.heap a vs (dW vs p).toArray }):wpAny (model prog w) A (Builtin.«list.sort» ⟨[.ref a],[]⟩) P E s:=by
 have ha:a < s.heap.objs.size:=EV ho
 have hz:vs.length<=sizeLine:=by rw [Gk]; lia
 obtain ⟨e1,ho1⟩:∃ e,(s.heap.update a (Fv fun _=>(#[]:Array Ey))).get? a=some (seqObj "list" #[] e):=⟨_,get?_update_seq ho _⟩
 have keep:∀ b o,(s.heap.update a (Fv fun _=>(#[]:Array Ey))).get? b=some o->(((s.heap.update a (Fv fun _=>(#[]:Array Ey))).push (seqObj "tuple" vs.toArray 0)).push (seqObj "list" #[] 0)).get? b=some o:=fun b o e=>EB _ (EB _ e)
 have old:∀ b o,b≠a->s.heap.get? b=some o->(((s.heap.update a (Fv fun _=>(#[]:Array Ey))).push (seqObj "tuple" vs.toArray 0)).push (seqObj "list" #[] 0)).get? b=some o:=fun b o hb e=>keep b o (by rw [Heap.get?_update_ne _ _ _ _ hb]; exact e)
 have ho6:=keep _ _ ho1
 rw [list_sort_plain]
 refine mo (listItems_at ho rfl (mo (JE ho rfl (mo (Kp ho1 rfl (mo (wpAny_newTuple (mo (JF (FI ?_) (EU _))) hz)))) (by rw [EZ]; exact hz) (EU _))))
 show wpAny (model prog w) A _ P E { s with heap:=((s.heap.update a (Fv fun _=>(#[]:Array Ey))).push (seqObj "tuple" vs.toArray 0)).push (seqObj "list" #[] 0) }
 dsimp only
 by_cases h2:vs.toArray.size < 2
 ·rw [if_pos h2,if_pos h2]
  refine mo (EE ?_)
  rw [StateT.run_pure]
  refine mo (EE ?_)
  dsimp only
  have ez:(arrOf (SortSt.mk' general' (vs.toArray.zip vs.toArray) #[] 7 none)).map (·.2)=vs.toArray:=xO vs
  rw [ez]
  refine mo (Kp ho6 rfl (mo (JE ho6 rfl ?_ (EU _) (by rw [EZ]; lia))))
  simp only [bne_self_eq_false,EG,if_false]
  have f:=fin (Js (EM vs.length)) (by unfold c8; simp) (fun i j ij jl=>by
   rw [EZ] at h2
   have e:i=j:=by lia
   subst e
   exact O.irr _)
  rw [uX] at f
  exact EE f
 ·rw [if_neg h2,if_neg h2]
  rw [EZ] at h2
  refine mo (G8 (hk _ old (by lia) _ fun κ ask=>?_) (fun _ _ q=>q) fun _ _ x=>x.elim)
  refine mo (G8 (kat_run (ks:=vs) (Q:=fun st' s'=>∃ p:Array Nat,p.size=vs.length/\arrOf st'=p.map (kas_item (vs.toArray.zip vs.toArray))/\failedOf st'=none/\s'=_/\c8 vs.length p/\cH lt p vs.length) rfl (by lia) h64
   (fun p' st' s' a1 a2 a3 a4=>⟨p',a1,a2,a3,a4⟩) (xo ask (yv O (by lia)))) ?_ fun _ _ e=>e)
  rintro ⟨⟨⟩,st'⟩ s' ⟨p,hp,har,hf,rfl,ok,ri⟩
  dsimp only
  rw [kat_snds rfl har]
  refine mo (Kp ho6 rfl (mo (JE ho6 rfl ?_ (EU _) (by rw [EZ,Do,EY,hp]; lia))))
  rw [hf]
  simp only [bne_self_eq_false,EG,if_false]
  exact EE (fin p ok ri)
theorem kK {l:EK} {vs:List Ey} {Q:Ey->Ez->Prop} {lt:Nat->Nat->Bool} (O:iu lt) (hl:s.heap.IsList l vs.toArray) (h64:vs.length < 64)
  (hk:∀ h6:GP,(∀ b o,s.heap.get? b=some o->h6.get? b=some o)->2<=vs.length->qQ prog w A.in1.in1 vs lt { s with heap:=h6 })
  (fin:∀ p:Array Nat,c8 vs.length p->cH lt p vs.length->Q (.ref (s.heap.objs.size+1)) { s with heap:=sortedAll s.heap vs (dW vs p).toArray }):wpAny (model prog w) A (call (.builtin "sorted") [.ref l]) Q E s:=by
 have hz:vs.length<=sizeLine:=by rw [Gk]; lia
 have hsz:((s.heap.push (seqObj "list" #[] 0)).update s.heap.objs.size (Fv (·++vs.toArray))).objs.size=s.heap.objs.size+1:=by rw [Ii,size_push']
 have hoL:(((s.heap.push (seqObj "list" #[] 0)).update s.heap.objs.size (Fv (·++vs.toArray))).push (seqObj "list" vs.toArray 0)).get? (s.heap.objs.size+1)=some (seqObj "list" vs.toArray 0):=by rw [<- hsz]; exact Fd _ rfl
 have keep:∀ b o,s.heap.get? b=some o->(((s.heap.push (seqObj "list" #[] 0)).update s.heap.objs.size (Fv (·++vs.toArray))).push (seqObj "list" vs.toArray 0)).get? b=some o:=fun b o q=>by
  have hlt:b < s.heap.objs.size:=EV q
  refine EB _ ?_
  rw [Heap.get?_update_ne _ _ _ _ (Fn hlt)]
  exact EB _ q
 refine IG kind_sorted plain_sorted entry_sorted (args_sorted1 _) ?_
 unfold Builtin.«sorted»
 refine mo (m:=checkCount "sorted" 1 1 _) (EE (mo (collect_list hl (mo (JF ?_ hz)) hz)))
 show wpAny _ _ _ _ _ { s with heap:=((s.heap.push (seqObj "list" #[] 0)).update s.heap.objs.size (Fv (·++vs.toArray))).push (seqObj "list" vs.toArray 0) }
 rw [hsz]
 refine mo (FI (GV slot_list_sort ⟨_,hoL,rfl⟩ KP (oi (s:={ s with heap:=((s.heap.push (seqObj "list" #[] 0)).update s.heap.objs.size (Fv (·++vs.toArray))).push (seqObj "list" vs.toArray 0) }) O hoL h64 (fun h6 old=>hk h6 fun b o q=>old b o (Fn (HP (EV q))) (keep b o q)) fun p ok ri=>⟨_,rfl,?_⟩) (args_list_sort _)))
 exact EE ⟨_,rfl,fin p ok ri⟩
noncomputable def dm (p q:Pair):Bool:=decide (p.1 < q.1) || (decide (p.1=q.1)&&decide (p.2 < q.2))
def bD (p q:Pair):Prop:=p.1 < q.1\/(p.1=q.1/\p.2<=q.2)
theorem dO {p q:Pair}:dm q p=false↔bD p q:=by
 unfold dm bD
 simp only [Bool.or_eq_false_iff,Gw,decide_eq_false_iff_not]
 lia
theorem ya {p q:Pair}:dm p q=true↔¬ bD q p:=by
 rw [<- dO]
 simp
theorem Br (ps:List Pair):iu fun i j=>dm (ps.getD i (0,0)) (ps.getD j (0,0)) where
 asym a b h:=by
  rw [ya] at h
  rw [dO]
  unfold bD at h |-
  lia
 ntr a b c h1 h2:=by
  rw [dO] at h1 h2 |-
  unfold bD at h1 h2 |-
  lia
def gT (h:GP) (vs:List Ey) (ps:List Pair):Prop:=IB (fun (v:Ey) (p:Pair)=>∃ a t u,v = .ref a/\IsTup h a #[.int p.1 t,.int p.2 u]) vs ps
theorem gT.get {h:GP}:∀ {vs:List Ey} {ps:List Pair},gT h vs ps->∀ {i:Nat},i < vs.length->∃ a t u,vs.getD i FV = .ref a/\IsTup h a #[.int (ps.getD i (0,0)).1 t,.int (ps.getD i (0,0)).2 u]
 | _,_,.nil,i,e=>absurd e (by simp)
 | _,_,.cons r t,0,e=>r
 | _,_,.cons r t,i+1,e=>by
  have:=gT.get t (i:=i) (by simpa using e)
  simpa using this
theorem gT.tups {h:GP}:∀ {vs:List Ey} {ps:List Pair},gT h vs ps->∃ fs:List Ey,KatTups h vs fs/\fs.length=vs.length/\∀ v∈fs,∃ i t,v = .int i t
 | _,_,.nil=>⟨[],.nil,rfl,fun v hv=>by cases hv⟩
 | _,_,.cons (b:=p) r t=>by
  obtain ⟨fs,k,l,al⟩:=gT.tups t
  obtain ⟨a,t',u,rfl,o,ho,hc,n,hd⟩:=r
  refine ⟨.int p.1 t'::fs,.cons ho hc hd rfl k,by simp [l],fun v hv=>?_⟩
  rcases ET.mp hv with rfl | hv
  ·exact ⟨_,_,rfl⟩
  ·exact al v hv
theorem xB {vs:List Ey} {ps:List Pair} {s1:Ez} (r:gT s1.heap vs ps) (h2:2<=vs.length):qQ prog w A vs (fun i j=>dm (ps.getD i (0,0)) (ps.getD j (0,0))) s1:=by
 intro Q q
 obtain ⟨fs,k,l,al⟩:=r.tups
 refine kat_kind (T:=.type "int") k (by lia) (fun v hv=>?_) (by decide) (q _ fun i j C hi hj hc=>?_)
 ·obtain ⟨i,t,rfl⟩:=al v hv
  exact Looks.of_pure rfl
 ·obtain ⟨a,t,u,e1,o1,g1,c1,n1,d1⟩:=r.get hi
  obtain ⟨b,t',u',e2,o2,g2,c2,n2,d2⟩:=r.get hj
  unfold kas_ask
  rw [e1,e2]
  have hc:C (dm (ps.getD i (0,0)) (ps.getD j (0,0))) s1:=hc
  generalize ps.getD i (0,0)=p at hc d1
  generalize ps.getD j (0,0)=q' at hc d2
  obtain ⟨x1,y1⟩:=p
  obtain ⟨x2,y2⟩:=q'
  unfold dm at hc
  dsimp only at hc d1 d2
  refine kat_lt g1 d1 g2 d2 (kat_cons (Jt ?_))
  by_cases ex:x1=x2
  ·subst ex
   rw [show (x1 == x1)=true from by simp]
   refine kat_yes (kat_cons (Jt ?_))
   by_cases ey:y1=y2
   ·subst ey
    rw [show (y1 == y1)=true from by simp]
    refine kat_yes (kat_nil ?_)
    have e:(decide (x1 < x1) || decide (x1=x1)&&decide (y1 < y1))=false:=by simp
    rw [e] at hc
    exact hc
   ·rw [show (y1 == y2)=false from by simpa using ey]
    refine kat_no (kat_one _ _ (wpAny_lt_int ?_))
    have e:(decide (x1 < x1) || decide (x1=x1)&&decide (y1 < y2))=decide (y1 < y2):=by simp
    rw [e] at hc
    exact hc
  ·rw [show (x1 == x2)=false from by simpa using ex]
   refine kat_no (oneLt_int ?_)
   have e:(decide (x1 < x2) || decide (x1=x2)&&decide (y1 < y2))=decide (x1 < x2):=by simp [ex]
   rw [e] at hc
   exact hc
end
section
variable {X:Cx}
theorem uh {pins:List (EK × Obj)} {σ:St} {H:Hp} {s:Ez} (I:Inv X pins σ H s):∀ {us:List V} {ps:List Pair} {vs:List Ey},bu H us ps->Vals us vs->gT s.heap vs ps
 | _,_,_,.nil,.nil=>.nil
 | _,_,_,.cons r t,.cons rv tv=>by
  obtain ⟨a,rfl,ha⟩:=r
  cases rv
  obtain ⟨its,r',tu,_⟩:=I.tuple (bb.of ha)
  refine .cons ⟨a,?_⟩ (uh I t tv)
  cases r' with
  | cons x1 r2 =>
   cases r2 with
   | cons x2 r3 =>
    cases r3
    obtain ⟨t1,rfl⟩:=x1
    obtain ⟨t2,rfl⟩:=x2
    exact ⟨t1,t2,rfl,tu⟩
theorem gT.mono {h h':GP} (k:∀ b o,h.get? b=some o->h'.get? b=some o):∀ {vs:List Ey} {ps:List Pair},gT h vs ps->gT h' vs ps
 | _,_,.nil=>.nil
 | _,_,.cons r t=>by
  obtain ⟨a,t1,t2,e,o,ho,hc,n,hd⟩:=r
  exact .cons ⟨a,t1,t2,e,o,k _ _ ho,hc,n,hd⟩ (gT.mono k t)
theorem dg {α β:Type} {R:α->β->Prop} {as:List α} {bs:List β} (h:IB R as bs) (da:α) (db:β):∀ is:List Nat,(∀ i∈is,i < as.length)->IB R (is.map fun i=>as.getD i da) (is.map fun i=>bs.getD i db)
 | [],_=>.nil
 | i::is,hi=>by
  refine .cons ?_ (dg h da db is fun j hj=>hi j (EH _ hj))
  have hl:=hi i (Fe ..)
  have go:∀ {as:List α} {bs:List β},IB R as bs->∀ i,i < as.length->R (as.getD i da) (bs.getD i db):=by
   intro as bs h
   induction h with
   | nil=>intro i hi; simp at hi
   | cons r t ih =>
    intro i hi
    cases i with
    | zero=>simpa using r
    | succ i=>simpa using ih i (by simpa using hi)
  exact go h i hl
theorem gE {α:Type} (d:α) (l:List α) {is:List Nat} (h:is.Perm (EM l.length)):(is.map fun i=>l.getD i d).Perm l:=by
 refine (h.map _).trans ?_
 have e:(EM l.length).map (fun i=>l.getD i d)=l:=IK (by simp) fun i h1 h2=>by simp [h2]
 rw [e]
theorem gn:cQ X (.builtin "sorted") (fun xs H Q=>∃ (p:EK) (ps:List Pair),xs=[.ref p]/\aT H p ps/\ps.length < 64/\∀ (q:EK) (qs:List Pair) (H':Hp),ae H H'->H q=none->aT H' q qs->qs.Perm ps->qs.Pairwise bD->Q (.ref q) H'):=by
 intro pins s σ H xs us Q I r h
 obtain ⟨p,ps,rfl,⟨ws,hl,pr⟩,h64,q⟩:=h
 obtain ⟨u,rfl,ru⟩:=vals1 r
 cases ru
 obtain ⟨its,r',pl,hz⟩:=I.list (aj.of hl)
 have lw:=pr.length
 have li:ws.length=its.length:=r'.length
 have pv:=uh I pr r'
 refine kK (Br ps) pl.isList (by lia) (fun h6 old h2=>xB (s1:={ s with heap:=h6 }) (pv.mono old) h2) fun g ok ri=>?_
 obtain ⟨e,he⟩:=KN s.heap its (dW its g).toArray
 have hb:∀ i∈g.toList,i < its.length:=fun i hi=>E6.mp (ok.mem_iff.mp hi)
 have lg:g.toList.length=its.length:=by rw [ok.length_eq,FR]
 have hz2:(g.toList.map fun i=>ws.getD i V.non).length<=sizeLine:=by rw [Do,lg]; exact sz (by lia)
 have vs2:Vals (g.toList.map fun i=>ws.getD i V.non) (dW its g):=dg r' V.non FV g.toList (fun i hi=>by rw [li]; exact hb i hi)
 have pr2:bu H (g.toList.map fun i=>ws.getD i V.non) (g.toList.map fun i=>ps.getD i (0,0)):=dg pr V.non (0,0) g.toList (fun i hi=>by rw [li]; exact hb i hi)
 have fr:H (s.heap.objs.size+1)=none:=I.hok.fresh (Hz _)
 refine ⟨.ref _,_,I.laid (t':=s.toks) (o:=.lst (g.toList.map fun i=>ws.getD i V.non)) (fun b u e=>Ko e) (Hz _) ⟨hz2,dW its g,e,vs2,by simpa [seqObj] using he⟩,rfl,?_⟩
 refine q _ _ _ (ae.new (ae.refl H) fr _) fr ⟨_,upd_same,pr2.updN fr _⟩ (gE (0,0) ps (by rw [<- lw,li]; exact ok)) ?_
 rw [FJ]
 have gs:g.size=its.length:=by rw [<- lg]; simp
 refine E1.mpr fun i j hi hj hij=>?_
 have:=ri i j (by lia) (by rw [<- gs]; simpa using hj)
 rw [dO] at this
 unfold gA at this
 simpa [show i < g.size by simpa using hi,show j < g.size by simpa using hj] using this
end
end L2
namespace L2
open PySem PySem.Spec PyProof.Rows PySem.W
section
variable {prog:Fm} {w:FH} {A:FE} {E:Ey->Ez->Prop} {s:Ez} {R:Result->Ez->Prop} {d:Ey} {it:EK} {fp wr:List EK} {n:Nat} {P:Nat->Ey->Prop} {St:Nat->GP->Prop}
noncomputable abbrev u7 (d:Ey):List (Str × Ey):=[(Fh "default",d)]
theorem ja:(toString "max"++toString ".loop" : String) = "max.loop":=by decide
theorem rE (W:Walks prog w A.in1 it fp wr n P St) (bt:Nat->Nat->Bool) (cmp:CmpOf prog w A.in1 .Gt P bt) (B:EK) (nB:B∉fp):∀ (k j:Nat) (s:Ez) (x:Ey) (c:Nat),n - (j+1)=k->j+1<=n->St (j+1) s.heap->P (argBest bt j) x ->
  s.heap.get? B=some { cls:=.type "list",dict:=none,data:=.seq #[x,x] c,slots:=#[] } ->
  (∀ v h' tk,P (argBest bt (n - 1)) v->(∀ b o,b∉wr->b≠B->s.heap.get? b=some o->h'.get? b=some o)->R (.ok (.ret v)) { s with heap:=h',toks:=tk }) ->
  codeAny (model prog w) A (.builtin "max.loop" ⟨[.ref it,.none,.ref B],u7 d⟩) R s
 | 0,j,s,x,c,hk,hj,st,px,hB,q=>by
  have nW:B∉wr:=fun z=>nB (W.sub _ z)
  have en:j+1=n:=by lia
  refine Gd Kw ?_
  rw [FL Ht _]
  show wpAny _ A.in1 (seqItems? (.ref B) >>= _) _ _ s
  refine mo (Ij hB rfl ?_)
  show wpAny _ A.in1 (tryCatch (pyNext (.ref it)) _ >>= _) _ _ s
  refine mo (Jk (W.done s _ _ (en▸st) fun h' tk kp=>?_))
  show wpAny _ A.in1 (updateSeq B (fun _=>#[]) >>= _) _ _ _
  refine mo (GR (kp B _ nW hB) rfl (mo (Kq (EE ?_))))
  exact q x _ tk (by rw [<- en]; exact px) fun b o b1 b2 e=>(E7 _ _ (G4 b2)).trans (kp b o b1 e)
 | k+1,j,s,x,c,hk,hj,st,px,hB,q=>by
  have nW:B∉wr:=fun z=>nB (W.sub _ z)
  have lt:j+1 < n:=by lia
  refine Gd Kw ?_
  rw [FL Ht _]
  show wpAny _ A.in1 (seqItems? (.ref B) >>= _) _ _ s
  refine mo (Ij hB rfl ?_)
  show wpAny _ A.in1 (tryCatch (pyNext (.ref it)) _ >>= _) _ _ s
  refine mo (Jk (W.item (j+1) s _ _ lt st fun v h' tk pv st' kp=>?_))
  have hB':=kp B _ nW hB
  show wpAny _ A.in1 (tryCatch (holding [v,v] (richCompare .Gt v x >>= _)) _ >>= _) _ _ _
  refine mo (Jk (FI (mo (cmp (j+1) (argBest bt j) v x _ _ _ pv px (mo (FI (FW (mo (Kq (EE ?_))))))))))
  by_cases hb:bt (j+1) (argBest bt j)=true
  ·rw [hb]
   simp only [if_true]
   refine mo (GR hB' rfl (mo (Kq ?_)))
   rw [ja]
   refine EE ⟨Gz Ht _,rE W bt cmp B nB k (j+1) _ v _ (by lia) lt (W.frame _ _ _ st' fun b bf o e=>?_) (by unfold argBest; rw [if_pos hb]; exact pv) (Fz _ hB' rfl) fun v' h2 tk2 pv' kp2=>?_⟩
   ·exact (E7 _ _ (fun z:B=b=>nB (by rw [z]; exact bf))).trans e
   ·exact q v' h2 tk2 pv' fun b o b1 b2 e=>kp2 b o b1 b2 ((E7 _ _ (G4 b2)).trans (kp b o b1 e))
  ·rw [show bt (j+1) (argBest bt j)=false by simpa using hb]
   simp only [EG,if_false]
   refine mo (Kq ?_)
   rw [ja]
   refine EE ⟨Gz Ht _,rE W bt cmp B nB k (j+1) _ x c (by lia) lt st' (by unfold argBest; rw [if_neg hb]; exact px) hB' fun v' h2 tk2 pv' kp2=>?_⟩
   exact q v' h2 tk2 pv' fun b o b1 b2 e=>kp2 b o b1 b2 (kp b o b1 e)
theorem tM (a d:Ey):argsOk "max" ⟨[a],u7 d⟩:=by unfold argsOk; kernel_rfl
theorem vq {l:EK} {xs:Array (Int × Tok)} {Q:Ey->Ez->Prop} (hh:A.handled=none) (hl:s.heap.IsList l (intItems xs))
  (h0:xs.size=0->∀ h' tk,(∀ b o,s.heap.get? b=some o->h'.get? b=some o)->Q d { s with heap:=h',toks:=tk })
  (h1:0 < xs.size->∀ v h' tk,(intItems xs)[argBest (fun i j=>decide (numAt xs i > numAt xs j)) (xs.size - 1)]? = some v->(∀ b o,s.heap.get? b=some o->h'.get? b=some o)->Q v { s with heap:=h',toks:=tk }) :
  wpAny (model prog w) A (call (.builtin "max") [.ref l] (u7 d)) Q E s:=by
 refine kmb_tree F.kind_max F.plain_max F.entry_max (tM _ _) ?_
 show wpAny _ A.in1 (Builtin.Builtins.bindParams "max" ["key","default"] 0 ⟨[],u7 d⟩ >>= _) _ _ s
 refine mo (wpAny_of_eq (show Builtin.Builtins.bindParams "max" ["key","default"] 0 ⟨[],u7 d⟩=pure [none,some d] from rfl) (mo (EE (mo (iter_intList hl fun s2 e st hfp hlI=>?_)))))
 subst e
 have W:=Walks.list (prog:=prog) (w:=w) (A:=A.in1) hh s.heap.objs.size l hlI (intItems xs)
 have nf:(s.heap.push { cls:=.type "list_iterator",data:=.fields #[.ref l,.int 0 0] }).objs.size∉[s.heap.objs.size,l]:=fun z=>FT _ (hfp _ z)
 refine mo (Hi ?_)
 rw [ja]
 refine EE ⟨Gz Ht _,?_⟩
 have st2:=W.frame _ _ _ st fun b _ o e=>EB { cls:=.type "list",data:=.seq #[] } e
 have hB:((s.heap.push { cls:=.type "list_iterator",data:=.fields #[.ref l,.int 0 0] }).push { cls:=.type "list",data:=.seq #[] }).get? (s.heap.push { cls:=.type "list_iterator",data:=.fields #[.ref l,.int 0 0] }).objs.size=some { cls:=.type "list",dict:=none,data:=.seq #[] 0,slots:=#[] }:=Fd _ rfl
 have nW:(s.heap.push { cls:=.type "list_iterator",data:=.fields #[.ref l,.int 0 0] }).objs.size∉[s.heap.objs.size]:=fun z=>nf (ET.mpr (.inl (by simpa using z)))
 have back:∀ h':GP,(∀ b o,b∉[s.heap.objs.size]->b≠(s.heap.push { cls:=.type "list_iterator",data:=.fields #[.ref l,.int 0 0] }).objs.size->((s.heap.push { cls:=.type "list_iterator",data:=.fields #[.ref l,.int 0 0] }).push { cls:=.type "list",data:=.seq #[] }).get? b=some o->h'.get? b=some o)->∀ b o,s.heap.get? b=some o->h'.get? b=some o:=fun h' kp b o e=>by
  have lb:=EV e
  refine kp b o (fun z=>FT _ ((FY.mp z)▸lb)) (fun z=>?_) (EB _ (EB _ e))
  have sp:(s.heap.push { cls:=.type "list_iterator",data:=.fields #[.ref l,.int 0 0] }).objs.size=s.heap.objs.size+1:=GC ..
  exact FT _ (Fj (Hu (Nat.le_of_eq z.symm) lb) (Jm (Nat.lt_of_lt_of_eq (IJ _) sp.symm)))
 refine Gd Kw ?_
 rw [FL Ht _]
 show wpAny _ A.in1 (seqItems? (.ref _) >>= _) _ _ _
 refine mo (Ij hB rfl ?_)
 show wpAny _ A.in1 (tryCatch (pyNext (.ref s.heap.objs.size)) _ >>= _) _ _ _
 by_cases z:xs.size=0
 ·have e0:(intItems xs).size=0:=by simpa [intItems] using z
  refine mo (Jk (W.done _ _ _ (e0▸st2) fun h' tk kp=>?_))
  show wpAny _ A.in1 (rule _ >>= _) _ _ _
  refine mo (Ik (EE ?_))
  exact h0 z h' tk (back h' fun b o b1 _ e=>kp b o b1 e)
 ·have n0:0 < (intItems xs).size:=by
   have:0 < xs.size:=by lia
   simpa [intItems] using this
  refine mo (Jk (W.item 0 _ _ _ n0 st2 fun v h' tk pv st' kp=>?_))
  have hB':=kp _ _ nW hB
  show wpAny _ A.in1 (updateSeq _ (fun _=>#[v,v]) >>= _) _ _ _
  refine mo (GR hB' rfl ?_)
  rw [ja]
  refine EE ⟨Gz Ht _,rE W _ (CmpOf.ints_gt (numAt xs) (fun _ _=>intItems_at)) _ nf _ 0 _ v _ rfl n0 (W.frame _ _ _ st' fun b bf o e=>?_) pv (Fz _ hB' rfl) fun v' h2 tk2 pv' kp2=>?_⟩
  ·exact (E7 _ _ (fun z:_=b=>nf (by rw [z]; exact bf))).trans e
  ·refine h1 (by lia) v' h2 tk2 (by simpa [intItems] using pv') (back h2 fun b o b1 b2 e=>kp2 b o b1 b2 ((E7 _ _ (G4 b2)).trans (kp b o b1 e)))
end
section
variable {X:Cx} {e:Hq} {es:List Hq} {kws:List Keyword} {p pos:Pos} {t tk:TA} {x:Str} {id:String} {ks:List Str} {r:List V->List V->Hp->VK->Prop}
def uc (X:Cx) (f:Ey) (ks:List Str) (r:List V->List V->Hp->VK->Prop):Prop :=
 ∀ (pins:List (EK × Obj)) (s:Ez) (σ:St) (H:Hp) (xs zs:List V) (us ws:List Ey) (Q:VK),Inv X pins σ H s->Vals xs us->Vals zs ws->r xs zs H Q->wpAny (model X.prog X.w) X.A (call f us (ks.zip ws)) (EP X pins σ Q) X.xe s
noncomputable def DY (r:List V->List V->Hp->VK->Prop) (t tk:TA):TE:=fun σ H Q=>t σ H fun vs H1=>tk σ H1 fun zs H2=>r vs zs H2 Q
theorem tH (hc:uc X (.builtin id) ks r) (hg:Gl X x) (hm:X.mg x=none) (hv:bootBuiltins x=some (.builtin id)) (ha:PA X (e::es) t) (hkw:PK X kws tk) (hn:x≠"__name__":=by decide) (hdb:(x == ("__debug__" : Str))=false:=by decide)
  (hs:backTo pos (starEach (e::es) X.env)=(false,eval e X.env)::backTo pos (starEach es X.env):=by rfl) (hpl:(backTo pos (starEach (e::es) X.env)).any (·.1)=false:=by rfl)
  (hal:(backToKw pos (keywordEach kws X.env)).all (·.1.isSome)=true:=by rfl) (hkn:(backToKw pos (keywordEach kws X.env)).any (·.1.isNone)=false:=by rfl)
  (hks:(backToKw pos (keywordEach kws X.env)).filterMap (·.1)=ks:=by rfl):PE X (.Call (.Name x p) (e::es) kws pos) (DY r t tk):=by
 intro pins s σ H Q I h
 refine GB (dM I hg hm hv (callWith_kw (env:=X.env) (aG (ha pos pins s σ H _ I h) fun us s1 ⟨vs,H1,I1,r1,q⟩=>aG (hkw pos pins s1 σ H1 _ I1 q) fun ws s2 ⟨zs,H2,I2,r2,q2⟩=>?_) hs hpl hal hkn) hn hdb)
 rw [hks]
 exact hc pins s2 σ H2 vs zs us ws Q I2 r1 r2 q2
theorem uv (hc:X.calm=true):uc X (.builtin "max") [Fh "default"] (fun xs zs H Q=>∃ (a:EK) (ns:List Int) (u:V),xs=[.ref a]/\zs=[u]/\aj X.K H a (ns.map V.int)/\(ns=[]->Q u H)/\(ns≠[]->∀ M,M∈ns->(∀ y∈ns,y<=M)->Q (.int M) H)):=by
 intro pins s σ H xs zs us ws Q I r rz h
 obtain ⟨a,ns,u,rfl,rfl,hl,q0,qn⟩:=h
 obtain ⟨u1,rfl,ru⟩:=vals1 r
 obtain ⟨u2,rfl,ru2⟩:=vals1 rz
 cases ru
 obtain ⟨its,r',pl,hz⟩:=I.list hl
 have hi:Hf its ns:=intsAre_of r'
 obtain ⟨ys,e⟩:=hi.allInts.items
 have hns:ns=ys.toList.map (·.1):=by rw [<- hi.numsOf,<- nums_intItems,<- e]
 have ln:ns.length=ys.size:=by rw [hns,Do,EY]
 refine vq (d:=u2) (I.ok.hd hc) (e▸pl.isList:s.heap.IsList a (intItems ys)) (fun z h' tk hk=>?_) (fun z v h' tk hv hk=>?_)
 ·exact ⟨u,H,I.kept hk,ru2,q0 (Ks.mp (by lia))⟩
 ·obtain ⟨t,rfl⟩:=intItems_at hv
  obtain ⟨a1,a2⟩:=argBest_gt (numAt ys) (ys.size - 1)
  refine ⟨.int _,H,I.kept hk,⟨t,rfl⟩,qn (fun z'=>by rw [z'] at ln; simp at ln; lia) _ ?_ fun y hy=>?_⟩
  ·rw [hns,numAt_eq]; exact getD_mem (by rw [Do,EY]; lia)
  ·rw [hns] at hy
   obtain ⟨j,hj,rfl⟩:=mem_getD hy
   rw [Do,EY] at hj
   rw [<- numAt_eq]; exact a2 j (by lia)
end
end L2
namespace L2
open PySem PySem.Spec PyProof.Rows
section
variable {X:Cx}
theorem qq {K:Fi} (hK:X.K=K) (hu:X.A.units+100 < cLine):cJ X (compareOp .NotEq) (vK K true):=by
 subst hK
 exact iT hu
end
theorem aW.two {K:Fi} {H:Hp} {n:Nat} {a b:EK} {x1 y1 x2 y2:Int} (ne:a≠b) (ha:H a=some (.tup [.int x1,.int y1])) (hb:H b=some (.tup [.int x2,.int y2])):aW K H (n+1) (.ref a) (.ref b) (decide (x1=x2)&&decide (y1=y2)):=by
 have h:=aW.tup (n:=n) (e:=fun j=>if j=0 then decide (x1=x2) else decide (y1=y2)) ne (bb.of (K:=K) ha) (bb.of (K:=K) hb) (fun j x y ex ey=>by
  match j,ex,ey with
  | 0,ex,ey =>
   have e1:V.int x1=x:=by simpa using ex
   have e2:V.int x2=y:=by simpa using ey
   rw [<- e1,<- e2,if_pos rfl]
   have z:=aW.flat (K:=K) (H:=H) (n:=n) (x:=V.int x1) (y:=V.int x2) rfl rfl
   exact z
  | 1,ex,ey =>
   have e1:V.int y1=x:=by simpa using ex
   have e2:V.int y2=y:=by simpa using ey
   rw [<- e1,<- e2,if_neg (by decide)]
   have z:=aW.flat (K:=K) (H:=H) (n:=n) (x:=V.int y1) (y:=V.int y2) rfl rfl
   exact z
  | j+2,ex,ey=>simp at ex)
 have e:((EM (min [V.int x1,V.int y1].length [V.int x2,V.int y2].length)).all (fun j=>if j=0 then decide (x1=x2) else decide (y1=y2))&&decide ([V.int x1,V.int y1].length=[V.int x2,V.int y2].length))=(decide (x1=x2)&&decide (y1=y2)):=by
  simp [GQ]
 first
  | (rw [e] at h; exact h)
  | (simp [GQ] at h; exact h)
end L2
namespace Ck
open PySem L2
def Cut (n:Nat) (p:Pair):Prop:=0<=p.1/\p.1+1 < p.2/\p.2<=(n:Int)+1/\¬ (p.1=0/\p.2=(n:Int)+1)
structure nZ (n:Nat) (ps:List Pair):Prop where
 cut:∀ p∈ps,Cut n p
 ris:ps.Pairwise bD
 len:ps.length<=n
theorem vd {p q:Pair} (h:bD p q) (h':bD q p):p=q:=by
 unfold bD at h h'
 exact IX (by lia) (by lia)
theorem ip {ps qs:List Pair} (hp:ps.Pairwise bD) (hq:qs.Pairwise bD) (h:ps.Perm qs):ps=qs :=
 GL (le:=bD) (fun _ _ _ _ h1 h2=>vd h1 h2) hp hq h
noncomputable def dh (i j:Nat):List Pair:=(if i=0 then [] else [(0,(i:Int)+1)])++(if j=0 then [] else [((i:Int)+1,(i:Int)+(j:Int)+2)])
noncomputable def cB (i j:Nat) (ps qs:List Pair):List Pair:=ps++dh i j++qs.map (up ((i:Int)+1))
theorem mG (i j:Nat):(dh i j).length<=2:=by
 unfold dh
 split<;>split<;>simp
theorem i6 {i j:Nat} {ps qs:List Pair} (hp:nZ i ps) (hq:nZ j qs):(cB i j ps qs).length<=i+j+2:=by
 unfold cB
 have:=mG i j
 have:=hp.len
 have:=hq.len
 simp only [EA,Do]
 lia
noncomputable def fN (t:Int) (p:Pair):Bool:=decide (p.2<=t)&&!(decide (p.1=0)&&decide (p.2=t))
noncomputable def dQ (t l:Int) (p:Pair):Bool:=decide (p.1 ≥ t)&&!(decide (p.1=t)&&decide (p.2=l))
noncomputable def eA (l:Int) (p:Pair):Bool:=decide (p.1=0)&&decide (p.2 < l)
section
variable {i j:Nat} {ps qs:List Pair} (hp:nZ i ps) (hq:nZ j qs)
include hp hq
theorem gD {p:Pair} (h:p∈dh i j):(i≠0/\p=(0,(i:Int)+1))\/(j≠0/\p=((i:Int)+1,(i:Int)+(j:Int)+2)):=by
 unfold dh at h
 rcases EN.mp h with h | h
 ·left
  split at h
  ·cases h
  ·exact ⟨by assumption,FY.mp h⟩
 ·right
  split at h
  ·cases h
  ·exact ⟨by assumption,FY.mp h⟩
theorem jg {p:Pair} (h:p∈qs.map (up ((i:Int)+1))):(i:Int)+1<=p.1/\p.1+1 < p.2/\p.2<=(i:Int)+(j:Int)+2/\¬ (p.1=(i:Int)+1/\p.2=(i:Int)+(j:Int)+2):=by
 obtain ⟨q,hqm,rfl⟩:=ER.mp h
 have c:=hq.cut q hqm
 unfold Cut at c
 unfold up
 dsimp only
 lia
theorem Bu:(cB i j ps qs).filter (fN ((i:Int)+1))=ps:=by
 unfold cB
 rw [FZ,FZ]
 have e1:ps.filter (fN ((i:Int)+1))=ps:=HW.mpr fun p h=>by
  have c:=hp.cut p h
  unfold Cut at c
  unfold fN
  simp only [EW,decide_eq_true_eq,GA,Gw,decide_eq_false_iff_not]
  lia
 have e2:(dh i j).filter (fN ((i:Int)+1))=[]:=Gm.mpr fun p h=>by
  unfold fN
  simp only [EW,decide_eq_true_eq,GA,Gw,decide_eq_false_iff_not]
  rcases gD hp hq h with ⟨h0,rfl⟩ | ⟨h0,rfl⟩
  ·dsimp only
   lia
  ·dsimp only
   lia
 have e3:(qs.map (up ((i:Int)+1))).filter (fN ((i:Int)+1))=[]:=Gm.mpr fun p h=>by
  have c:=jg hp hq h
  unfold fN
  simp only [EW,decide_eq_true_eq,GA,Gw,decide_eq_false_iff_not]
  lia
 rw [e1,e2,e3,Ff,Ff]
theorem zN:(cB i j ps qs).filter (dQ ((i:Int)+1) ((i:Int)+(j:Int)+2))=qs.map (up ((i:Int)+1)):=by
 unfold cB
 rw [FZ,FZ]
 have e1:ps.filter (dQ ((i:Int)+1) ((i:Int)+(j:Int)+2))=[]:=Gm.mpr fun p h=>by
  have c:=hp.cut p h
  unfold Cut at c
  unfold dQ
  simp only [EW,decide_eq_true_eq,GA,Gw,decide_eq_false_iff_not]
  lia
 have e2:(dh i j).filter (dQ ((i:Int)+1) ((i:Int)+(j:Int)+2))=[]:=Gm.mpr fun p h=>by
  unfold dQ
  simp only [EW,decide_eq_true_eq,GA,Gw,decide_eq_false_iff_not]
  rcases gD hp hq h with ⟨h0,rfl⟩ | ⟨h0,rfl⟩
  ·dsimp only
   lia
  ·dsimp only
   lia
 have e3:(qs.map (up ((i:Int)+1))).filter (dQ ((i:Int)+1) ((i:Int)+(j:Int)+2))=qs.map (up ((i:Int)+1)):=HW.mpr fun p h=>by
  have c:=jg hp hq h
  unfold dQ
  simp only [EW,decide_eq_true_eq,GA,Gw,decide_eq_false_iff_not]
  lia
 rw [e1,e2,e3,HQ,HQ]
theorem B2 (d:Int):(qs.map (up d)).Pairwise bD:=by
 rw [FJ]
 refine hq.ris.imp fun {a b} h=>?_
 unfold bD at h |-
 unfold up
 dsimp only
 lia
variable {cs:List Pair} (hc:cs.Perm (cB i j ps qs)) (hs:cs.Pairwise bD)
include hc hs
theorem CL:cs.filter (fN ((i:Int)+1))=ps :=
 ip (hs.filter _) hp.ris ((hc.filter _).trans (by rw [Bu hp hq]))
theorem CD:cs.filter (dQ ((i:Int)+1) ((i:Int)+(j:Int)+2))=qs.map (up ((i:Int)+1)) :=
 ip (hs.filter _) (B2 hp hq _) ((hc.filter _).trans (by rw [zN hp hq]))
theorem wO (h0:i=0):(cs.filter (eA ((i:Int)+(j:Int)+2))).map (·.2)=[]:=by
 subst h0
 refine List.map_eq_nil_iff.mpr (Gm.mpr fun p h=>?_)
 have c:=hc.mem_iff.mp h
 unfold eA
 simp only [EW,decide_eq_true_eq]
 unfold cB at c
 rcases EN.mp c with c | c
 ·rcases EN.mp c with c | c
  ·have:=hp.cut p c
   unfold Cut at this
   lia
  ·rcases gD hp hq c with ⟨z,_⟩ | ⟨z,rfl⟩
   ·exact absurd rfl z
   ·dsimp only
    lia
 ·have:=jg hp hq c
  lia
theorem vU (h0:i≠0):(i:Int)+1∈(cs.filter (eA ((i:Int)+(j:Int)+2))).map (·.2):=by
 refine ER.mpr ⟨(0,(i:Int)+1),FK.mpr ⟨hc.mem_iff.mpr ?_,?_⟩,rfl⟩
 ·unfold cB dh
  rw [if_neg h0]
  simp
 ·unfold eA
  simp only [EW,decide_eq_true_eq]
  refine ⟨by first | trivial | rfl,?_⟩
  show (i:Int)+1 < (i:Int)+(j:Int)+2
  lia
theorem vX:∀ y∈(cs.filter (eA ((i:Int)+(j:Int)+2))).map (·.2),y<=(i:Int)+1:=fun y h=>by
 obtain ⟨p,hpm,rfl⟩:=ER.mp h
 obtain ⟨hm,ht⟩:=FK.mp hpm
 have c:=hc.mem_iff.mp hm
 unfold eA at ht
 simp only [EW,decide_eq_true_eq] at ht
 unfold cB at c
 rcases EN.mp c with c | c
 ·rcases EN.mp c with c | c
  ·have:=hp.cut p c
   unfold Cut at this
   lia
  ·rcases gD hp hq c with ⟨z,rfl⟩ | ⟨z,rfl⟩
   ·exact FQ _
   ·dsimp only at ht |-
    lia
 ·have:=jg hp hq c
  lia
end
theorem aT.put {H:Hp} {l t:EK} {xs:List V} {ps:List Pair} {p:Pair} (hl:H l=some (.lst xs)) (pr:bu H xs ps) (ht:H t=some (.tup [.int p.1,.int p.2])):aT (L2.upd H l (.lst (xs++[.ref t]))) l (ps++[p]) :=
 ⟨_,L2.upd_same,(pr.snoc ht).updL hl _⟩
theorem aT.push {H:Hp} {l t:EK} {xs:List V} {ps:List Pair} {a b:Int} (hl:H l=some (.lst xs)) (pr:bu H xs ps) (ht:H t=none):aT (L2.upd (L2.upd H t (.tup [.int a,.int b])) l (.lst (xs++[.ref t]))) l (ps++[(a,b)]) :=
 aT.put (p:=(a,b)) ((L2.upd_ne (aq hl ht)).trans hl) (pr.updN ht _) L2.upd_same
noncomputable def wI (c:Int) (ps:List Pair):Tree:=.tup [.int c,oa ps]
theorem pH {H:Hp} {t l:EK} {c:Int} {ps:List Pair} (ht:H t=some (.tup [.int c,.ref l])) (hl:aT H l ps) (h:ps.length<=1000000):Rep H (wI c ps) (.ref t):=yg ht (by unfold Rep; rfl) (hl.rep h)
theorem Et {a b:Int} (h:a≠b):¬ V.int a=V.int b:=fun z=>h (by injection z)
theorem tw {b:Bool} {A B:Prop} (h:b=false) (x:A):if (if true=true then !b else b)=true then A else B:=by subst h; exact x
theorem mZ {b:Bool} {A B:Prop} (h:b=true) (x:B):if (if true=true then !b else b)=true then A else B:=by subst h; exact x
noncomputable def h8 (p:Pair):Bool:=decide (p.2 - p.1 > 1)
theorem vB (i j:Nat):([((0:Int),(i:Int)+1),((i:Int)+1,(i:Int)+(j:Int)+2)]:List Pair).filter h8=dh i j:=by
 have n1:h8 ((0:Int),(i:Int)+1)=decide ((i:Int)+1 - 0 > 1):=rfl
 have n2:h8 ((i:Int)+1,(i:Int)+(j:Int)+2)=decide ((i:Int)+(j:Int)+2 - ((i:Int)+1) > 1):=rfl
 unfold dh
 rw [List.filter_cons,List.filter_cons,List.filter_nil,n1,n2]
 by_cases h:i=0
 ·by_cases h':j=0
  ·rw [if_pos h,if_pos h',decide_eq_false (by lia),decide_eq_false (by lia)]; rfl
  ·rw [if_pos h,if_neg h',decide_eq_false (by lia),decide_eq_true (by lia)]; rfl
 ·by_cases h':j=0
  ·rw [if_neg h,if_pos h',decide_eq_true (by lia),decide_eq_false (by lia)]; rfl
  ·rw [if_neg h,if_neg h',decide_eq_true (by lia),decide_eq_true (by lia)]; rfl
theorem gN {α:Type} (f:α->Bool) {l:List α} {i:Nat} {p:α} (h:l[i]? = some p):(l.take (i+1)).filter f=(l.take i).filter f++(if f p=true then [p] else []):=by
 rw [E3,h,FZ]
 congr 1
 by_cases e:f p=true
 ·rw [if_pos e]; exact HY e
 ·rw [if_neg e]; exact HZ e
theorem ym (c:Int) (ps:List Pair):dep (wI c ps)<=3:=by
 unfold wI
 rw [yu]
 have:=pR ps
 have e:dep (.int c)=0:=by unfold dep; rfl
 lia
end Ck
namespace L2
open PySem PySem.Spec PyProof.Rows PySem.W PySem.SeqAt Ck
noncomputable def cw:List Int->List Int->Bool
 | [],[]=>false
 | [],_::_=>true
 | _::_,[]=>false
 | a::as,b::bs=>if a=b then cw as bs else decide (a < b)
theorem ox:∀ as:List Int,cw as []=false
 | []=>rfl
 | _::_=>rfl
theorem nY:∀ as bs:List Int,cw as bs=true->cw bs as=false
 | [],[],h=>rfl
 | [],_::_,_=>rfl
 | _::_,[],h=>by cases h
 | a::as,b::bs,h=>by
  unfold cw at h |-
  by_cases e:a=b
  ·rw [if_pos e] at h
   rw [if_pos e.symm]
   exact nY as bs h
  ·rw [if_neg e] at h
   rw [if_neg (fun z=>e z.symm)]
   have:=of_decide_eq_true h
   exact decide_eq_false (by lia)
theorem pL:∀ as bs cs:List Int,cw bs as=false->cw cs bs=false->cw cs as=false
 | [],_,cs,_,_=>ox cs
 | _::_,[],_,h,_=>by cases h
 | _::_,_::_,[],_,h=>by cases h
 | a::as,b::bs,c::cs,h1,h2=>by
  unfold cw at h1 h2 |-
  by_cases e1:b=a
  ·rw [if_pos e1] at h1
   by_cases e2:c=b
   ·rw [if_pos e2] at h2
    rw [if_pos (e2.trans e1)]
    exact pL as bs cs h1 h2
   ·rw [if_neg e2] at h2
    have:=of_decide_eq_false h2
    rw [if_neg (fun z=>e2 (z.trans e1.symm))]
    exact decide_eq_false (by lia)
  ·rw [if_neg e1] at h1
   have d1:=of_decide_eq_false h1
   by_cases e2:c=b
   ·rw [if_pos e2] at h2
    rw [if_neg (fun z=>e1 (e2.symm.trans z))]
    exact decide_eq_false (by lia)
   ·rw [if_neg e2] at h2
    have:=of_decide_eq_false h2
    rw [if_neg (by lia)]
    exact decide_eq_false (by lia)
theorem DN (rs:List (List Int)):iu fun i j=>cw (rs.getD i []) (rs.getD j []) where
 asym a b h:=nY _ _ h
 ntr a b c h1 h2:=pL _ _ _ h1 h2
theorem jc {vs:List Ey} {ns:List Int} (h:Hf vs ns):∀ {i:Nat} {n:Int},ns[i]? = some n->∃ t,vs[i]? = some (.int n t):=by
 induction h with
 | nil=>intro i n e; cases e
 | cons m t h ih =>
  intro i n e
  cases i with
  | zero=>simp at e; exact ⟨t,by rw [<- e]; rfl⟩
  | succ i=>exact ih (by simpa using e)
theorem yh (l b:EK) (items items2:Array Ey) (ns ms:List Int) (hi:Hf items.toList ns) (hm:Hf items2.toList ms) (n n2:Nat) (dd dd2:Option EK) (sl sl2:Array (Option Ey)):∀ (k i:Nat),ns.length - i=k->i<=ns.length->i<=ms.length ->
  Meets (Builtin.«list.__eq__.loop» ⟨[.ref l,.ref b,rawInt i,rawInt 0],[]⟩) (fun A R s=>s.heap.get? l=some { cls:=.type "list",dict:=dd,data:=.seq items n,slots:=sl }/\s.heap.get? b=some { cls:=.type "list",dict:=dd2,data:=.seq items2 n2,slots:=sl2 }/\R (.ok (.ret (.bool (cw (ns.drop i) (ms.drop i))))) s):=by
 have l1:items.size=ns.length:=by have:=hi.length; simpa using this
 have l2:items2.size=ms.length:=by have:=hm.length; simpa using this
 -- one of them is at its end
 have fin:∀ i:Nat,i<=ns.length->i<=ms.length->(i=ns.length\/i=ms.length)->cw (ns.drop i) (ms.drop i)=decide (items.size < items2.size):=fun i h1 h2 h=>by
  rw [l1,l2]
  by_cases e:i=ns.length
  ·rw [FS (as:=ns) (by lia)]
   by_cases e2:i=ms.length
   ·rw [FS (by lia)]
    exact (decide_eq_false (by lia)).symm
   ·rw [GZ (show i < ms.length by lia)]
    exact (decide_eq_true (by lia)).symm
  ·rw [FS (as:=ms) (by lia),ox]
   exact (decide_eq_false (by lia)).symm
 intro k
 induction k with
 | zero =>
  intro i hk hn2 hm2 prog w A R s h
  obtain ⟨hp,g,d,tk,os⟩:=s
  obtain ⟨hl,hb,h⟩:=h
  wp_walk using Gx hl,Gx hb
  have n1:items[((i:Nat):Int).toNat]? = none:=by simp; lia
  rw [n1]
  rw [fin i hn2 hm2 (by lia)] at h
  wp_walk using Gx hl,Gx hb
  exact h
 | succ k ih =>
  intro i hk hn2 hm2 prog w A R s h
  obtain ⟨hp,g,d,tk,os⟩:=s
  obtain ⟨hl,hb,h⟩:=h
  have li:i < ns.length:=by lia
  obtain ⟨t1,g1⟩:=jc hi (Da li)
  have i1:items[((i:Nat):Int).toNat]? = some (.int ns[i] t1):=by simpa using g1
  wp_walk using Gx hl,Gx hb
  rw [i1]
  by_cases lm:i < ms.length
  ·obtain ⟨t2,g2⟩:=jc hm (Da lm)
   have i2:items2[((i:Nat):Int).toNat]? = some (.int ms[i] t2):=by simpa using g2
   rw [i2]
   rw [GZ li,GZ lm] at h
   unfold cw at h
   refine mo (Jt ?_)
   by_cases e:ns[i]=ms[i]
   ·rw [if_pos e] at h
    rw [show (ns[i] == ms[i])=true by simpa using e]
    wp_walk
    have hc:((i:Int)+1)=((i+1:Nat):Int):=by lia
    rw [hc]
    exact ⟨Gz Ia _,Gd Kt (by
     rw [FL Ia _]
     exact ih (i+1) (by lia) (by lia) (by lia) prog w A R _ ⟨hl,hb,h⟩)⟩
   ·rw [if_neg e] at h
    rw [show (ns[i] == ms[i])=false by simpa using e]
    wp_walk using Gx hl,Gx hb
    rw [i1,i2]
    refine mo (wpAny_lt_int ?_)
    exact EE h
  ·have n2':items2[((i:Nat):Int).toNat]? = none:=by simp; lia
   rw [n2']
   rw [fin i hn2 hm2 (by lia)] at h
   wp_walk using Gx hl,Gx hb
   exact h
theorem yG (l b:EK) (items items2:Array Ey) (ns ms:List Int) (hi:Hf items.toList ns) (hm:Hf items2.toList ms) (n n2:Nat) (dd dd2:Option EK) (sl sl2:Array (Option Ey)) :
  Meets (Builtin.«list.__lt__» ⟨[.ref l,.ref b],[]⟩) (fun A R s=>s.heap.get? l=some { cls:=.type "list",dict:=dd,data:=.seq items n,slots:=sl }/\s.heap.get? b=some { cls:=.type "list",dict:=dd2,data:=.seq items2 n2,slots:=sl2 }/\R (.ok (.ret (.bool (cw ns ms)))) s):=by
 intro prog w A R s h
 obtain ⟨hp,g,d,tk,os⟩:=s
 obtain ⟨hl,hb,h⟩:=h
 have f3:=KH
 wp_walk using Gx hl,Gx hb
 exact ⟨Gz Ia _,Gd Kt (by
  rw [FL Ia _]
  exact yh l b items items2 ns ms hi hm n n2 dd dd2 sl sl2 _ 0 rfl (EU _) (EU _) prog w A R _ ⟨hl,hb,by simpa using h⟩)⟩
section
variable {prog:Fm} {w:FH} {A:FE} {E:Ey->Ez->Prop} {s:Ez}
theorem qF {l b:EK} {its jts:List Ey} {ns ms:List Int} {n n2:Nat} {Q:Bool->Ez->Prop} (hu:A.units < cLine) (hi:Hf its ns) (hm:Hf jts ms) (hl:s.heap.get? l=some { cls:=.type "list",data:=.seq its.toArray n }) (hb:s.heap.get? b=some { cls:=.type "list",data:=.seq jts.toArray n2 }) (h:Q (cw ns ms) s) :
  wpAny (model prog w) A (oneLt' true (.ref l) (.ref b)) Q E s:=by
 rw [oneLt'_eq]
 simp only [if_true]
 refine mo (wpAny_cRoomFor hu (mo (wpAny_callSpecialIfBound?_slot (T:="list") ⟨_,hl,rfl⟩ F.slot_list_lt (J6 F.slot_list_lt ⟨_,hl,rfl⟩ F.entry_list_lt (F.args_list_lt_2 _ _) (yG l b its.toArray jts.toArray ns ms hi hm n n2 none none #[] #[]) ⟨hl,hb,?_⟩))))
 exact FW h
def iF (h:GP) (vs:List Ey) (rs:List (List Int)):Prop:=IB (fun (v:Ey) (r:List Int)=>∃ a its n,v = .ref a/\Hf its r/\h.get? a=some { cls:=.type "list",data:=.seq its.toArray n }) vs rs
theorem iF.get {h:GP}:∀ {vs:List Ey} {rs:List (List Int)},iF h vs rs->∀ {i:Nat},i < vs.length->∃ a its n,vs.getD i FV = .ref a/\Hf its (rs.getD i [])/\h.get? a=some { cls:=.type "list",data:=.seq its.toArray n }
 | _,_,.nil,i,e=>absurd e (by simp)
 | _,_,.cons r t,0,e=>r
 | _,_,.cons r t,i+1,e=>by
  have:=iF.get t (i:=i) (by simpa using e)
  simpa using this
theorem iF.mem {h:GP}:∀ {vs:List Ey} {rs:List (List Int)},iF h vs rs->∀ v∈vs,∃ a its n,v = .ref a/\h.get? a=some { cls:=.type "list",data:=.seq (Js its) n }
 | _,_,.cons r t,v,hv=>by
  rcases ET.mp hv with rfl | hv
  ·obtain ⟨a,its,n,e,_,g⟩:=r
   exact ⟨a,its,n,e,g⟩
  ·exact iF.mem t v hv
theorem iF.mono {h h':GP} (k:∀ b o,h.get? b=some o->h'.get? b=some o):∀ {vs:List Ey} {rs:List (List Int)},iF h vs rs->iF h' vs rs
 | _,_,.nil=>.nil
 | _,_,.cons r t=>by
  obtain ⟨a,its,n,e,hi,g⟩:=r
  exact .cons ⟨a,its,n,e,hi,k _ _ g⟩ (iF.mono k t)
theorem CV {vs:List Ey} {rs:List (List Int)} {s1:Ez} (hu:A.units < cLine) (r:iF s1.heap vs rs) (h2:2<=vs.length):qQ prog w A vs (fun i j=>cw (rs.getD i []) (rs.getD j [])) s1:=by
 intro Q q
 refine kas_kind (T:=.type "list") h2 (fun v hv=>?_) (by decide) (by decide) (q _ fun i j C hi hj hc=>?_)
 ·obtain ⟨a,its,n,rfl,g⟩:=r.mem v hv
  exact (Looks.ld g).andThen .now
 ·obtain ⟨a,its,n,e1,i1,g1⟩:=r.get hi
  obtain ⟨b,jts,n2,e2,i2,g2⟩:=r.get hj
  unfold kas_ask
  rw [e1,e2,keyLt'_oneType]
  exact qF hu i1 i2 g1 g2 hc
end
end L2
namespace Ck
open PySem L2
noncomputable abbrev aJ (H0 H:Hp) (a:EK):List EK->List (List Int)->Prop:=IB (fun (b:EK) (ns:List Int)=>H b=some (.lst (ns.map V.int))/\H0 b=none/\b≠a)
def aM (H0 H:Hp) (a:EK) (rs:List (List Int)):Prop:=∃ bs:List EK,H a=some (.lst (bs.map V.ref))/\aJ H0 H a bs rs/\bs.Nodup
theorem aM.nil {H0 H:Hp} {a:EK} (h:H a=some (.lst [])):aM H0 H a []:=⟨[],h,.nil,IH⟩
theorem aM.same {H0 H H':Hp} {a:EK} {rs:List (List Int)} (h:aM H0 H a rs) (s:ae H H'):aM H0 H' a rs :=
 let ⟨bs,e,r,n⟩:=h
 ⟨bs,s _ _ e,Paired.mapP r fun _ _ ⟨p,q⟩=>⟨s _ _ p,q⟩,n⟩
theorem aM.since {H0 H1 H:Hp} {a:EK} {rs:List (List Int)} (h:aM H0 H a rs) (s:ae H1 H0):aM H1 H a rs :=
 let ⟨bs,e,r,n⟩:=h
 ⟨bs,e,Paired.mapP r fun _ _ ⟨p,q,z⟩=>⟨p,s.free q,z⟩,n⟩
theorem aM.len {H0 H:Hp} {a:EK} {rs:List (List Int)} (h:aM H0 H a rs):∃ xs,H a=some (.lst xs)/\xs.length=rs.length :=
 let ⟨bs,e,r,_⟩:=h
 ⟨_,e,by rw [Do]; exact Iw r⟩
theorem aJ.get {H0 H:Hp} {a:EK}:∀ {bs:List EK} {rs:List (List Int)},aJ H0 H a bs rs->∀ {j:Nat} {ns:List Int},rs[j]? = some ns->∃ b,bs[j]? = some b/\H b=some (.lst (ns.map V.int))/\H0 b=none/\b≠a
 | _,_,.nil,j,ns,e=>by cases e
 | _,_,.cons r t,0,ns,e=>by
  rw [HU] at e
  cases e
  exact ⟨_,rfl,r⟩
 | _,_,.cons r t,j+1,ns,e=>aJ.get t (j:=j) (by simpa using e)
theorem aM.get {H0 H:Hp} {a:EK} {rs:List (List Int)} (h:aM H0 H a rs) {xs:List V} (hx:H a=some (.lst xs)) {j:Nat} {ns:List Int} (e:rs[j]? = some ns):∃ b,xs[j]? = some (.ref b)/\H b=some (.lst (ns.map V.int))/\H0 b=none/\b≠a:=by
 obtain ⟨bs,e1,r,_⟩:=h
 rw [hx] at e1
 cases e1
 obtain ⟨b,h1,h2⟩:=r.get e
 exact ⟨b,by rw [FD,h1]; rfl,h2⟩
theorem aJ.updC {H0 H:Hp} {a c:EK} {o:HO}:∀ {bs:List EK} {rs:List (List Int)},aJ H0 H a bs rs->(∀ b∈bs,b≠c)->aJ H0 (upd H c o) a bs rs
 | _,_,.nil,_=>.nil
 | _,_,.cons ⟨p,q⟩ t,n=>.cons ⟨(upd_ne (n _ (by simp))).trans p,q⟩ (aJ.updC t fun b hb=>n b (by simp [hb]))
theorem aJ.all {H0 H:Hp} {a:EK}:∀ {bs:List EK} {rs:List (List Int)},aJ H0 H a bs rs->∀ b∈bs,(∃ ns:List Int,H b=some (.lst (ns.map V.int)))/\H0 b=none/\b≠a
 | _,_,.nil,b,hb=>by cases hb
 | _,_,.cons ⟨p,q⟩ t,b,hb=>by
  rcases ET.mp hb with rfl | z
  ·exact ⟨⟨_,p⟩,q⟩
  ·exact aJ.all t b z
theorem aM.updC {H0 H:Hp} {a c:EK} {o o':HO} {rs:List (List Int)} (h:aM H0 H a rs) (hc:H0 c=some o') (ne:a≠c):aM H0 (upd H c o) a rs:=by
 obtain ⟨bs,e,r,n⟩:=h
 exact ⟨bs,(upd_ne ne).trans e,r.updC (fun b hb z=>by have:=(r.all b hb).2.1; rw [z,hc] at this; cases this),n⟩
theorem aJ.snoc {H0 H:Hp} {a b:EK} {ns:List Int} (hb:H b=some (.lst (ns.map V.int))) (h0:H0 b=none) (ne:b≠a):∀ {bs:List EK} {rs:List (List Int)},aJ H0 H a bs rs->aJ H0 H a (bs++[b]) (rs++[ns])
 | _,_,.nil=>.cons ⟨hb,h0,ne⟩ .nil
 | _,_,.cons r t=>.cons r (aJ.snoc hb h0 ne t)
theorem aM.snoc {H0 H:Hp} {a b:EK} {rs:List (List Int)} {xs:List V} (h:aM H0 H a rs) (hx:H a=some (.lst xs)) (hb:H b=none) (h0:H0 b=none) (ns:List Int) :
  aM H0 (upd (upd H b (.lst (ns.map V.int))) a (.lst (xs++[.ref b]))) a (rs++[ns]):=by
 obtain ⟨bs,e,r,n⟩:=h
 rw [hx] at e
 cases e
 have ne:b≠a:=fun z=>by rw [z,hx] at hb; cases hb
 have nb:∀ c∈bs,c≠b:=fun c hc z=>by
  obtain ⟨⟨ms,e⟩,_⟩:=r.all c hc
  rw [z,hb] at e
  cases e
 have r1:aJ H0 (upd H b (.lst (ns.map V.int))) a bs rs:=r.updC nb
 have r2:aJ H0 (upd (upd H b (.lst (ns.map V.int))) a (.lst (bs.map V.ref++[.ref b]))) a bs rs:=r1.updC fun c hc=>(r.all c hc).2.2
 refine ⟨bs++[b],by rw [upd_same,ED]; rfl,aJ.snoc ((upd_ne ne).trans upd_same) h0 ne r2,?_⟩
 refine Gf.mpr ⟨n,by simp,?_⟩
 intro c hc d hd
 have:d=b:=by simpa using hd
 rw [this]
 exact nb c hc
noncomputable def kl (rs:List (List Int)):Tree:=.lst (rs.map jL)
theorem aJ.rep {H0 H:Hp} {a:EK}:∀ {bs:List EK} {rs:List (List Int)},aJ H0 H a bs rs->(∀ r∈rs,r.length<=1000000)->bC H (rs.map jL) (bs.map V.ref)
 | _,_,.nil,_=>by unfold Kk bC; rfl
 | _,_,.cons r t,hl=>by
  rw [E2,E2]
  unfold bC
  exact ⟨_,_,rfl,kW r.1 (hl _ (by simp)),aJ.rep t fun r hr=>hl r (by simp [hr])⟩
theorem aM.rep {H0 H:Hp} {a:EK} {rs:List (List Int)} (h:aM H0 H a rs) (hl:rs.length<=1000000) (hm:∀ r∈rs,r.length<=1000000):Rep H (kl rs) (.ref a):=by
 obtain ⟨bs,e,r,_⟩:=h
 unfold kl Rep
 exact ⟨a,_,rfl,e,by rw [Do]; exact hl,r.rep hm⟩
theorem kN:∀ rs:List (List Int),dG (rs.map jL)<=1
 | []=>by unfold Kk dG; exact EU _
 | r::rs=>by
  rw [E2]
  unfold dG
  rw [qx]
  exact Nat.max_le.mpr ⟨EF _,kN rs⟩
theorem uG (rs:List (List Int)):dep (kl rs)<=2:=by unfold kl dep; have:=kN rs; lia
end Ck
namespace Ck
open PySem L2
def fi (H H':Hp):Prop:=∀ b,H' b=none->H b=none
theorem fi.refl (H:Hp):fi H H:=fun _ h=>h
theorem fi.free' {H H':Hp} {b:EK} (s:fi H H') (h:H' b=none):H b=none:=s b h
theorem fi.upd {H H':Hp} (s:fi H H') (a:EK) (o:HO):fi H (L2.upd H' a o):=fun b h=>s b (by
 by_cases e:b=a
 ·rw [e,upd_same] at h; cases h
 ·rw [upd_ne e] at h; exact h)
end Ck
namespace Ck
open PySem PySem.Spec PyProof.Rows L2
theorem kI {X:Cx} {pins:List (EK × Obj)} {σ:L2.St} {H H0:Hp} {s:Ez} {a:EK} (I:Inv X pins σ H s):∀ {bs:List EK} {rs:List (List Int)} {vs:List Ey},aJ H0 H a bs rs->Vals (bs.map V.ref) vs->iF s.heap vs rs
 | _,_,_,.nil,.nil=>.nil
 | _,_,_,.cons r t,.cons rv tv=>by
  cases rv
  obtain ⟨z,its,n,r',hl,e⟩:=I.lstM r.1
  exact .cons ⟨_,its,n,rfl,intsAre_of r',e⟩ (kI I t tv)
theorem km {H H' H0:Hp} {a a':EK}:∀ {bs:List EK} {rs:List (List Int)},aJ H0 H a bs rs->(∀ b∈bs,H' b=H b/\b≠a')->aJ H0 H' a' bs rs
 | _,_,.nil,_=>.nil
 | _,_,.cons ⟨p,q,_⟩ t,k=>.cons ⟨(k _ (by simp)).1.trans p,q,(k _ (by simp)).2⟩ (km t fun b hb=>k b (by simp [hb]))
end Ck
namespace L2
open PySem PySem.Spec PyProof.Rows PySem.W Ck
section
variable {X:Cx}
theorem i5 (hu:X.A.units+100 < cLine):cQ X (.builtin "sorted") (fun xs H Q=>∃ (p:EK) (H0:Hp) (rs:List (List Int)),xs=[.ref p]/\aM H0 H p rs/\rs.length < 64/\∀ (q:EK) (ss:List (List Int)) (H':Hp),ae H H'->H q=none->aM H0 H' q ss->ss.Perm rs->ss.Pairwise (fun a b=>cw b a=false)->(∀ (ws zs:List V),H p=some (.lst ws)->H' q=some (.lst zs)->∀ v∈zs,v∈ws)->Q (.ref q) H'):=by
 intro pins s σ H xs us Q I r h
 obtain ⟨p,H0,rs,rfl,⟨bs,hl,ro,nd⟩,h64,q⟩:=h
 obtain ⟨u,rfl,ru⟩:=vals1 r
 cases ru
 obtain ⟨its,r',pl,hz⟩:=I.list (aj.of hl)
 have lw:bs.length=rs.length:=Iw ro
 have li:(bs.map V.ref).length=its.length:=r'.length
 rw [Do] at li
 have lv:=kI I ro r'
 refine kK (DN rs) pl.isList (by lia) (fun h6 old h2=>CV (s1:={ s with heap:=h6 }) (show X.A.units+1+1 < cLine by lia) (lv.mono old) h2) fun g ok ri=>?_
 obtain ⟨e,he⟩:=KN s.heap its (dW its g).toArray
 have hb:∀ i∈g.toList,i < its.length:=fun i hi=>E6.mp (ok.mem_iff.mp hi)
 have lg:g.toList.length=its.length:=by rw [ok.length_eq,FR]
 have em:(g.toList.map fun i=>(bs.map V.ref).getD i V.non)=(g.toList.map fun i=>bs.getD i 0).map V.ref:=by
  rw [FG]
  refine Fw fun i hi=>?_
  have:=hb i hi
  have l1:i < bs.length:=by lia
  simp [l1]
 have hz2:((g.toList.map fun i=>bs.getD i 0).map V.ref).length<=sizeLine:=by rw [Do,Do,lg]; exact sz (by lia)
 have vs2:Vals ((g.toList.map fun i=>bs.getD i 0).map V.ref) (dW its g):=by
  rw [<- em]
  exact dg r' V.non FV g.toList (fun i hi=>by rw [Do,li]; exact hb i hi)
 have ro2:aJ H0 H p (g.toList.map fun i=>bs.getD i 0) (g.toList.map fun i=>rs.getD i []):=dg ro 0 [] g.toList (fun i hi=>by rw [li]; exact hb i hi)
 have pm:(g.toList.map fun i=>bs.getD i 0).Perm bs:=gE 0 bs (by rw [li]; exact ok)
 have fr:H (s.heap.objs.size+1)=none:=I.hok.fresh (Hz _)
 refine ⟨.ref _,_,I.laid (t':=s.toks) (o:=.lst ((g.toList.map fun i=>bs.getD i 0).map V.ref)) (fun b u e=>Ko e) (Hz _) ⟨hz2,dW its g,e,vs2,by simpa [seqObj] using he⟩,rfl,?_⟩
 refine q _ _ _ (ae.new (ae.refl H) fr _) fr ⟨_,upd_same,km ro2 (fun b hb'=>?_),pm.nodup_iff.mpr nd⟩ (gE [] rs (by rw [<- lw,li]; exact ok)) ?_ (fun ws zs ew ez v hv=>?_)
 ·obtain ⟨⟨ns,hn⟩,_⟩:=ro2.all b hb'
  have:b≠s.heap.objs.size+1:=aq hn fr
  exact ⟨upd_ne this,this⟩
 ·rw [FJ]
  have gs:g.size=its.length:=by rw [<- lg]; simp
  refine E1.mpr fun i j hi hj hij=>?_
  have:=ri i j (by lia) (by rw [<- gs]; simpa using hj)
  unfold gA at this
  simpa [show i < g.size by simpa using hi,show j < g.size by simpa using hj] using this
 ·rw [hl] at ew
  cases ew
  rw [upd_same] at ez
  cases ez
  exact (pm.map V.ref).mem_iff.mp hv
end
theorem jO:∀ as bs:List Int,cw as bs=false->cw bs as=false->as=bs
 | [],[],_,_=>rfl
 | [],_::_,h,_=>by cases h
 | _::_,[],_,h=>by cases h
 | a::as,b::bs,h1,h2=>by
  unfold cw at h1 h2
  by_cases e:a=b
  ·rw [if_pos e] at h1
   rw [if_pos e.symm] at h2
   rw [e,jO as bs h1 h2]
  ·rw [if_neg e] at h1
   rw [if_neg (fun z=>e z.symm)] at h2
   have:=of_decide_eq_false h1
   have:=of_decide_eq_false h2
   lia
end L2
namespace Ck
open PySem L2
noncomputable abbrev hd (r:List Int):Int:=r.getD 0 0
noncomputable def iota (k:Nat):List Int:=(EM k).map fun (i:Nat)=>(i:Int)
structure cP (k:Nat) (rs:List (List Int)):Prop where
 ne:∀ r∈rs,r≠[]
 inc:∀ r∈rs,r.Pairwise (· < ·)
 heads:(rs.map hd).Pairwise (· < ·)
 flat:rs.flatten.Perm (iota k)
theorem nV {k:Nat} {x:Int}:x∈iota k↔0<=x/\x < (k:Int):=by
 unfold iota
 rw [ER]
 constructor
 ·rintro ⟨i,hi,rfl⟩
  have:=E6.mp hi
  lia
 ·rintro ⟨h1,h2⟩
  exact ⟨x.toNat,E6.mpr (by lia),by lia⟩
theorem cP.rng {k:Nat} {rs:List (List Int)} (h:cP k rs) {r:List Int} (hr:r∈rs) {x:Int} (hx:x∈r):0<=x/\x < (k:Int) :=
 nV.mp (h.flat.mem_iff.mp (IL.mpr ⟨r,hr,hx⟩))
theorem dH {r:List Int} (h:r≠[]):hd r∈r:=by
 cases r with
 | nil=>exact absurd rfl h
 | cons a r=>exact Fe ..
noncomputable def aQ (i:Nat) (r:List Int):Bool:=decide (r.getD (r.length - 1) 0=(i:Int) - 1)
noncomputable def aE (d:Int) (r:List Int):List Int:=r.map (·+d)
noncomputable def joinR (i:Nat) (ls rs:List (List Int)):List (List Int):=(0::aE 1 (ls.filter (aQ i)).flatten)::((ls.filter fun r=>!aQ i r).map (aE 1)++rs.map (aE ((i:Int)+1)))
theorem qC (d:Int) (r:List Int):aE (-d) (aE d r)=r:=by
 unfold aE
 rw [FG]
 have:((fun x:Int=>x+-d) ∘ fun x:Int=>x+d)=id:=by funext x; simp; lia
 rw [this,Km]
theorem pU (d:Int) (rs:List (List Int)):(rs.map (aE d)).map (aE (-d))=rs:=by
 rw [FG]
 have:(aE (-d) ∘ aE d)=id:=by funext x; exact qC d x
 rw [this,Km]
theorem fJ {r:List Int} (h:r≠[]) (d:Int):hd (aE d r)=hd r+d:=by
 cases r with
 | nil=>exact absurd rfl h
 | cons a r=>rfl
section
variable {i:Nat} {ls:List (List Int)} (h:cP i ls)
include h
theorem jK {r:List Int} (hr:r∈ls):r.getD (r.length - 1) 0∈r:=by
 have:=Hm.mpr (h.ne r hr)
 rw [AC,Da (show r.length - 1 < r.length by lia)]
 exact GH _
theorem pN {r:List Int} (hr:r∈ls) {x:Int} (hx:x∈r):x<=r.getD (r.length - 1) 0:=by
 have hp:=Hm.mpr (h.ne r hr)
 obtain ⟨j,hj,rfl⟩:=Hl hx
 rw [AC,Da (show r.length - 1 < r.length by lia)]
 show r[j]<=r[r.length - 1]
 by_cases e:j=r.length - 1
 ·subst e; exact FQ _
 ·exact Gv (E1.mp (h.inc r hr) j (r.length - 1) hj (by lia) (by lia))
theorem qe {r:List Int} (hr:r∈ls):aQ i r=true↔(i:Int) - 1∈r:=by
 unfold aQ
 rw [decide_eq_true_iff]
 constructor
 ·intro e
  rw [<- e]
  exact jK h hr
 ·intro hm
  have h1:=pN h hr hm
  have h2:=h.rng hr (jK h hr)
  lia
theorem yJ:ls.flatten.Nodup:=by
 refine h.flat.nodup_iff.mpr ?_
 unfold iota
 refine FJ.mpr (Jv.imp fun hne=>?_)
 lia
theorem eI:(ls.filter (aQ i)).length<=1:=by
 have nd:=yJ h
 have key:∀ l:List (List Int),l.flatten.Nodup->(∀ r∈l,aQ i r=true->(i:Int) - 1∈r)->(l.filter (aQ i)).length<=1:=by
  intro l
  induction l with
  | nil=>intro _ _; simp
  | cons r l ih =>
   intro nd hm
   rw [GX,Gf] at nd
   have ih':=ih nd.2.1 fun s hs=>hm s (EH _ hs)
   by_cases g:aQ i r=true
   ·rw [HY g]
    have e:l.filter (aQ i)=[]:=Gm.mpr fun s hs gs=>by
     have m1:=hm r (Fe ..) g
     have m2:=hm s (EH _ hs) gs
     exact nd.2.2 _ m1 _ (IL.mpr ⟨s,hs,m2⟩) rfl
    rw [e]
    exact EF _
   ·rw [HZ g]
    exact ih'
 exact key ls nd fun r hr g=>(qe h hr).mp g
theorem oN (h0:0 < i):∃ R,ls.filter (aQ i)=[R]/\R∈ls/\R.getD (R.length - 1) 0=(i:Int) - 1:=by
 have hm:(i:Int) - 1∈ls.flatten:=h.flat.mem_iff.mpr (nV.mpr (by lia))
 obtain ⟨R,hR,hx⟩:=IL.mp hm
 have g:=(qe h hR).mpr hx
 have hin:R∈ls.filter (aQ i):=FK.mpr ⟨hR,g⟩
 have l1:=eI h
 match e:ls.filter (aQ i),l1,hin with
 | [S],_,hin =>
  have eS:R=S:=FY.mp hin
  subst eS
  exact ⟨R,rfl,hR,of_decide_eq_true g⟩
 | [],_,hin=>cases hin
 | _::_::_,l1,_=>simp at l1
theorem none_of (h0:i=0):ls=[]:=by
 cases ls with
 | nil=>rfl
 | cons r ls =>
  have:=h.rng (Fe ..) (dH (h.ne r (Fe ..)))
  lia
theorem rH:((0:Int)::aE 1 (ls.filter (aQ i)).flatten).getD (((0:Int)::aE 1 (ls.filter (aQ i)).flatten).length - 1) 0=(i:Int):=by
 by_cases h0:i=0
 ·rw [none_of h h0,h0]; rfl
 ·obtain ⟨R,e,hR,hl⟩:=oN h (by lia)
  have hp:=Hm.mpr (h.ne R hR)
  rw [e]
  have e1:[R].flatten=R:=by simp
  rw [e1]
  have e2:((0:Int)::aE 1 R).length - 1=R.length:=by unfold aE; simp
  rw [e2]
  obtain ⟨m,hm⟩:∃ m,R.length=m+1:=⟨R.length - 1,by lia⟩
  rw [hm,List.getD_cons_succ]
  rw [hm,GS] at hl
  unfold aE
  rw [AC,FD,Da (show m < R.length by lia)]
  rw [AC,Da (show m < R.length by lia)] at hl
  have hl':R[m]=(i:Int) - 1:=hl
  show R[m]+1=(i:Int)
  lia
theorem wt:ls.Pairwise (fun a b=>cw b a=false):=by
 have h1:=FJ.mp h.heads
 refine J8 (fun {a b} ha hb hab=>?_) h1
 have na:=h.ne a ha
 have nb:=h.ne b hb
 match a,b,na,nb,hab with
 | x::a,y::b,_,_,hab =>
  have:x < y:=hab
  unfold cw
  rw [if_neg (by lia)]
  exact decide_eq_false (by lia)
variable {j:Nat} {rs:List (List Int)} (h':cP j rs)
include h'
theorem xT:((joinR i ls rs).tail.filter fun r=>decide (hd r < (i:Int)))=(ls.filter fun r=>!aQ i r).map (aE 1):=by
 unfold joinR
 rw [List.tail_cons,FZ]
 have e1:((ls.filter fun r=>!aQ i r).map (aE 1)).filter (fun r=>decide (hd r < (i:Int)))=(ls.filter fun r=>!aQ i r).map (aE 1):=HW.mpr fun r hr=>by
  obtain ⟨s,hs,rfl⟩:=ER.mp hr
  obtain ⟨hs,g⟩:=FK.mp hs
  rw [fJ (h.ne s hs)]
  have m:=dH (h.ne s hs)
  have b:=h.rng hs m
  have l:=pN h hs m
  have l2:=h.rng hs (jK h hs)
  have:¬ s.getD (s.length - 1) 0=(i:Int) - 1:=by
   intro z
   have:aQ i s=true:=by unfold aQ; exact decide_eq_true z
   rw [this] at g
   cases g
  exact decide_eq_true (by lia)
 have e2:(rs.map (aE ((i:Int)+1))).filter (fun r=>decide (hd r < (i:Int)))=[]:=Gm.mpr fun r hr=>by
  obtain ⟨s,hs,rfl⟩:=ER.mp hr
  rw [fJ (h'.ne s hs)]
  have b:=h'.rng hs (dH (h'.ne s hs))
  rw [decide_eq_true_iff]
  lia
 rw [e1,e2,Ff]
theorem vn:((joinR i ls rs).tail.filter fun r=>decide (hd r > (i:Int)))=rs.map (aE ((i:Int)+1)):=by
 unfold joinR
 rw [List.tail_cons,FZ]
 have e1:((ls.filter fun r=>!aQ i r).map (aE 1)).filter (fun r=>decide (hd r > (i:Int)))=[]:=Gm.mpr fun r hr=>by
  obtain ⟨s,hs,rfl⟩:=ER.mp hr
  obtain ⟨hs,g⟩:=FK.mp hs
  rw [fJ (h.ne s hs)]
  have b:=h.rng hs (dH (h.ne s hs))
  rw [decide_eq_true_iff]
  lia
 have e2:(rs.map (aE ((i:Int)+1))).filter (fun r=>decide (hd r > (i:Int)))=rs.map (aE ((i:Int)+1)):=HW.mpr fun r hr=>by
  obtain ⟨s,hs,rfl⟩:=ER.mp hr
  rw [fJ (h'.ne s hs)]
  have b:=h'.rng hs (dH (h'.ne s hs))
  exact decide_eq_true (by lia)
 rw [e1,e2,HQ]
end
theorem uP {i:Nat} {ls:List (List Int)} (h:cP i ls) {ss:List (List Int)} (pm:ss.Perm ((ls.filter fun r=>!aQ i r)++ls.filter (aQ i))) (ri:ss.Pairwise (fun a b=>cw b a=false)):ss=ls:=by
 have p2:((ls.filter fun r=>!aQ i r)++ls.filter (aQ i)).Perm ls:=by
  have:=Ku (aQ i) ls
  exact Hw.trans this
 exact GL (le:=fun a b=>cw b a=false) (fun a b _ _ h1 h2=>jO a b h2 h1) ri (wt h) (pm.trans p2)
end Ck
namespace L2
open PySem PySem.Spec PyProof.Rows
theorem mK {X:Cx} {K:Fi} (hK:X.K=K):cQ X (.type "list") (fun xs H Q=>∃ p ys,xs=[.ref p]/\(aj K H p ys\/bb K H p ys)/\∀ l,H l=none->Q (.ref l) (upd H l (.lst ys))):=by
 subst hK
 exact eY
end L2
namespace Ck
open PySem L2
theorem fi.same {H H' H'':Hp} (s:fi H H') (t:ae H' H''):fi H H'':=fun b h=>s b (t.free h)
theorem aM.at {H0 H:Hp} {a:EK} {rs:List (List Int)} {xs:List V} (h:aM H0 H a rs) (hx:H a=some (.lst xs)) {j:Nat} {v:V} (e:xs[j]? = some v) :
  ∃ b ns,v = .ref b/\rs[j]? = some ns/\H b=some (.lst (ns.map V.int))/\H0 b=none/\b≠a:=by
 obtain ⟨ys,ey,ly⟩:=h.len
 rw [hx] at ey
 cases ey
 have hj:j < rs.length:=by rw [<- ly]; exact (EC.mp e).1
 obtain ⟨b,h1,h2,h3,h4⟩:=h.get hx (Da hj)
 rw [e] at h1
 cases h1
 exact ⟨b,rs[j],rfl,Da hj,h2,h3,h4⟩
theorem aM.mem {H0 H:Hp} {a:EK} {rs:List (List Int)} {xs:List V} (h:aM H0 H a rs) (hx:H a=some (.lst xs)) {v:V} (e:v∈xs) :
  ∃ b ns,v = .ref b/\ns∈rs/\H b=some (.lst (ns.map V.int))/\H0 b=none/\b≠a:=by
 obtain ⟨j,hj⟩:=List.mem_iff_getElem?.mp e
 obtain ⟨b,ns,h1,h2,h3⟩:=h.at hx hj
 exact ⟨b,ns,h1,ES h2,h3⟩
theorem aM.push {H0 H H':Hp} {a b:EK} {rs:List (List Int)} {xs:List V} {ns:List Int} (h:aM H0 H a rs) (hx:H a=some (.lst xs)) (s:ae H H') (fb:H b=none) (hb:H' b=some (.lst (ns.map V.int))) (h0:H0 b=none) :
  aM H0 (upd H' a (.lst (xs++[.ref b]))) a (rs++[ns]):=by
 obtain ⟨bs,e,r,n⟩:=h
 rw [hx] at e
 cases e
 have ne:b≠a:=fun z=>by rw [z,hx] at fb; cases fb
 have nb:∀ c∈bs,c≠b:=fun c hc z=>by
  obtain ⟨⟨ms,e⟩,_⟩:=r.all c hc
  rw [z,fb] at e
  cases e
 have r1:aJ H0 H' a bs rs:=Paired.mapP r fun _ _ ⟨p,q⟩=>⟨s _ _ p,q⟩
 have r2:aJ H0 (upd H' a (.lst (bs.map V.ref++[.ref b]))) a bs rs:=r1.updC fun c hc=>(r.all c hc).2.2
 refine ⟨bs++[b],by rw [upd_same,ED]; rfl,aJ.snoc ((upd_ne ne).trans hb) h0 ne r2,?_⟩
 refine Gf.mpr ⟨n,by simp,?_⟩
 intro c hc d hd
 have:d=b:=by simpa using hd
 rw [this]
 exact nb c hc
theorem aM.swap {H0 H H':Hp} {a b:EK} {r0:List Int} {rs:List (List Int)} {xs:List V} {ns:List Int} (h:aM H0 H a (r0::rs)) (hx:H a=some (.lst xs)) (s:ae H H') (fb:H b=none) (hb:H' b=some (.lst (ns.map V.int))) (h0:H0 b=none) :
  aM H0 (upd H' a (.lst (xs.set 0 (.ref b)))) a (ns::rs):=by
 obtain ⟨bs,e,r,n⟩:=h
 rw [hx] at e
 cases e
 have ne:b≠a:=fun z=>by rw [z,hx] at fb; cases fb
 have nb:∀ c∈bs,c≠b:=fun c hc z=>by
  obtain ⟨⟨ms,e⟩,_⟩:=r.all c hc
  rw [z,fb] at e
  cases e
 have na:∀ c∈bs,c≠a:=fun c hc=>(r.all c hc).2.2
 cases r with
 | @cons c _ cs _ r t =>
  rw [Gs] at n
  have t1:aJ H0 H' a cs rs:=Paired.mapP t fun _ _ ⟨p,q⟩=>⟨s _ _ p,q⟩
  have t2:aJ H0 (upd H' a (.lst ((V.ref b)::cs.map V.ref))) a cs rs:=t1.updC fun d hd=>na d (EH _ hd)
  refine ⟨b::cs,by rw [upd_same,E2,E2,List.set_cons_zero],?_,?_⟩
  ·rw [E2,List.set_cons_zero]
   exact .cons ⟨(upd_ne ne).trans hb,h0,ne⟩ t2
  ·exact Gs.mpr ⟨fun z=>nb b (EH _ z) rfl,n.2⟩
theorem lX {H0 H:Hp} {a:EK}:∀ {bs cs:List EK} {rs ss:List (List Int)},aJ H0 H a bs rs->aJ H0 H a cs ss->aJ H0 H a (bs++cs) (rs++ss)
 | _,_,_,_,.nil,h=>h
 | _,_,_,_,.cons r t,h=>.cons r (lX t h)
theorem iR {G H0 H:Hp} {a p:EK} {o:HO} (hp:H p=none) (g:∀ c,G c=none->H0 c=none):∀ {bs:List EK} {rs:List (List Int)},aJ G H a bs rs->aJ H0 (upd H p o) p bs rs
 | _,_,.nil=>.nil
 | _,_,.cons ⟨h1,h2,_⟩ t=>.cons ⟨(upd_ne (aq h1 hp)).trans h1,g _ h2,aq h1 hp⟩ (iR hp g t)
theorem aM.cat {H0 H1 H:Hp} {a b p:EK} {rs ss:List (List Int)} {xs ys:List V} (h:aM H0 H a rs) (hx:H a=some (.lst xs)) (k:aM H1 H b ss) (hy:H b=some (.lst ys)) (s01:ae H0 H1) (d:∀ c,V.ref c∈xs->H1 c≠none) (hp:H p=none) :
  aM H0 (upd H p (.lst (xs++ys))) p (rs++ss):=by
 obtain ⟨bs,e,r,n⟩:=h
 rw [hx] at e
 cases e
 obtain ⟨cs,e,r',n'⟩:=k
 rw [hy] at e
 cases e
 refine ⟨bs++cs,by rw [upd_same,ED],lX (iR hp (fun c z=>z) r) (iR hp (fun c z=>s01.free z) r'),?_⟩
 refine Gf.mpr ⟨n,n',?_⟩
 intro c hc e he z
 have h1:=d c (ER.mpr ⟨c,hc,rfl⟩)
 have h2:=(r'.all e he).2.1
 rw [<- z] at h2
 exact h1 h2
def rO (H:Hp) (a c:EK):Prop:=c≠a/\∀ xs,H a=some (.lst xs)->V.ref c∉xs
def Apart (H:Hp) (p q:EK):Prop:=rO H p q/\∀ ys c,H q=some (.lst ys)->V.ref c∈ys->rO H p c
def rT (a:EK) (H H':Hp):Prop:=∀ c,rO H a c->∀ o,H c=some o->H' c=some o
theorem i3 {r:List Int} (h:r≠[]):bX (r.map V.int) (-1)=some (.int (r.getD (r.length - 1) 0)):=by
 obtain ⟨r0,m,rfl⟩:∃ r0 m,r=r0++[m]:=⟨_,_,(JD h).symm⟩
 rw [ED]
 refine (wW (r0.map V.int) (V.int m)).trans ?_
 simp [AC]
theorem ud {r:List Int} (h:r≠[]):bX (r.map V.int) 0=some (.int (hd r)) :=
 gX (i:=0) (by lia) (by have:=Hm.mpr h; lia)
theorem m9:∀ ls:List (List Int),(ls.map fun r=>(r.length:Int)).sum=(ls.flatten.length:Int)
 | []=>rfl
 | r::ls=>by
  rw [E2,Iy,m9 ls,GX,EA]
  lia
theorem mX:∀ ls:List (List Int),(∀ r∈ls,r≠[])->ls.length<=ls.flatten.length
 | [],_=>EF _
 | r::ls,h=>by
  have:=mX ls fun s hs=>h s (by simp [hs])
  have:=Hm.mpr (h r (by simp))
  rw [GX,EA,Fb]
  lia
theorem len_one:∀ (ls:List (List Int)) (r:List Int),r∈ls->r.length<=ls.flatten.length
 | [],r,h=>by cases h
 | s::ls,r,h=>by
  rw [GX,EA]
  rcases ET.mp h with rfl | h
  ·lia
  ·have:=len_one ls r h
   lia
theorem jA (k:Nat):(iota k).length=k:=by unfold iota; simp
theorem cP.lens {i:Nat} {ls:List (List Int)} (h:cP i ls):ls.length<=i/\∀ r∈ls,r.length<=i:=by
 have e:=h.flat.length_eq
 rw [jA] at e
 have:=mX ls h.ne
 exact ⟨by lia,fun r hr=>by have:=len_one ls r hr; lia⟩
theorem cP.size {i:Nat} {ls:List (List Int)} (h:cP i ls):(ls.map fun r=>(r.length:Int)).sum=(i:Int):=by
 have e:=h.flat.length_eq
 rw [jA] at e
 rw [m9,e]
theorem fm (d:Int) (r:List Int):(aE d r).length=r.length:=Do _
theorem cy {f:List Int->Bool} {ls:List (List Int)} {k:Nat} {r:List Int} (h:ls[k]? = some r):(ls.take (k+1)).filter f=(ls.take k).filter f++(if f r=true then [r] else []):=by
 rw [E3,h,FZ]
 congr 1
 by_cases z:f r=true
 ·rw [if_pos z]; exact HY z
 ·rw [if_neg z]; exact HZ z
theorem jr {i:Nat} {ls:List (List Int)} (h:cP i ls) {k:Nat} {r:List Int} (e:ls[k]? = some r) (g:aQ i r=true):(ls.take k).filter (aQ i)=[]:=by
 have h1:=eI h
 have e1:=cy (f:=aQ i) e
 rw [if_pos g] at e1
 have h2:((ls.take (k+1)).filter (aQ i)).length<=(ls.filter (aQ i)).length:=((J5 _ _).filter _).length_le
 rw [e1,EA] at h2
 exact Ih (by simp at h2; lia)
theorem uq {i j:Nat} {ls rs:List (List Int)} (h:cP i ls) (h':cP j rs):(joinR i ls rs).length<=i+j+1/\∀ r∈joinR i ls rs,r.length<=i+j+1:=by
 have a:=h.lens
 have b:=h'.lens
 have c:=FA (fun r=>!aQ i r) ls
 unfold joinR
 refine ⟨by simp only [Fb,EA,Do]; lia,fun r hr=>?_⟩
 rcases ET.mp hr with rfl | hr
 ·have e:=h.flat.length_eq
  rw [jA] at e
  have:(ls.filter (aQ i)).flatten.length<=ls.flatten.length:=by
   have l1:=eI h
   match e:ls.filter (aQ i),l1 with
   | [],_=>simp
   | [R],_ =>
    have:R∈ls:=(FK.mp (by rw [e]; simp)).1
    have:=len_one ls R this
    simpa using this
   | _::_::_,l1=>simp at l1
  rw [Fb,fm]
  lia
 ·rcases EN.mp hr with z | z
  ·obtain ⟨s,hs,rfl⟩:=ER.mp z
   have:=a.2 s (FK.mp hs).1
   rw [fm]; lia
  ·obtain ⟨s,hs,rfl⟩:=ER.mp z
   have:=b.2 s hs
   rw [fm]; lia
theorem nM {i j:Nat} {ls rs:List (List Int)} (h:cP i ls) (h':cP j rs):∀ r∈joinR i ls rs,r≠[]:=by
 intro r hr
 unfold joinR at hr
 rcases ET.mp hr with rfl | hr
 ·simp
 ·rcases EN.mp hr with z | z
  ·obtain ⟨s,hs,rfl⟩:=ER.mp z
   have:=h.ne s (FK.mp hs).1
   unfold aE
   simpa using this
  ·obtain ⟨s,hs,rfl⟩:=ER.mp z
   have:=h'.ne s hs
   unfold aE
   simpa using this
end Ck
namespace Ck
open PySem L2
inductive Bt where
 | leaf
 | node (l r:Bt)
noncomputable def Bt.size:Bt->Nat
 | .leaf=>0
 | .node l r=>l.size+r.size+1
noncomputable def brk:Bt->List Nat
 | .leaf=>[]
 | .node l r=>40::(brk l++41::brk r)
theorem pK:∀ t:Bt,(brk t).length=2*t.size
 | .leaf=>rfl
 | .node l r=>by
  show (40::(brk l++41::brk r)).length=2*(l.size+r.size+1)
  rw [Fb,EA,Fb,pK l,pK r]
  lia
theorem tQ:∀ l:List Int,(∀ x∈l,0<=x)->0<=l.sum
 | [],_=>FQ _
 | x::l,h=>by
  rw [Iy]
  exact Int.add_nonneg (h x (by simp)) (tQ l fun y hy=>h y (by simp [hy]))
theorem dA (n:Nat):1<=sh n:=by
 induction n using JK with
 | _ n ih =>
  cases n with
  | zero=>rw [i7]; exact FQ _
  | succ k =>
   rw [qp,Ho,E2,Iy]
   have h1:=ih k (by lia)
   have h2:0<=((Kk Nat.succ (EM k)).map fun j=>sh j*sh (k - j)).sum:=tQ _ fun x hx=>by
    obtain ⟨j,hj,rfl⟩:=ER.mp hx
    obtain ⟨i,hi,rfl⟩:=ER.mp hj
    have:=E6.mp hi
    have a1:=ih (i+1) (by lia)
    have a2:=ih (k - (i+1)) (by lia)
    exact JZ (by show 0<=sh (i+1); lia) (by show 0<=sh (k - (i+1)); lia)
   rw [i7,Int.one_mul,Nat.sub_zero]
   lia
noncomputable def pre (n j:Nat):Int:=((EM j).map fun i=>sh i*sh (n - 1 - i)).sum
theorem fE (n j:Nat):pre n (j+1)=pre n j+sh j*sh (n - 1 - j):=by
 unfold pre
 rw [GQ,ED,List.sum_append]
 simp
theorem jX (n:Nat) {i j:Nat} (h:i<=j):pre n i<=pre n j:=by
 induction j with
 | zero=>rw [Nat.le_zero.mp h]; exact FQ _
 | succ j ih =>
  by_cases e:i=j+1
  ·rw [e]; exact FQ _
  ·rw [fE]
   have:=ih (by lia)
   have a1:=dA j
   have a2:=dA (n - 1 - j)
   have:=JZ (show 0<=sh j by lia) (show 0<=sh (n - 1 - j) by lia)
   lia
theorem p7 (k:Nat):pre (k+1) (k+1)=sh (k+1):=by
 rw [qp]
 rfl
noncomputable def bU:Bt->Int
 | .leaf=>0
 | .node l r=>pre (l.size+r.size+1) l.size+bU l*sh r.size+bU r
theorem dS:∀ t:Bt,0<=bU t
 | .leaf=>FQ _
 | .node l r=>by
  have h1:=dS l
  have h2:=dS r
  have h3:=dA r.size
  have h4:=JZ h1 (show 0<=sh r.size by lia)
  have h5:=jX (l.size+r.size+1) (EU l.size)
  have h6:pre (l.size+r.size+1) 0=0:=rfl
  show 0<=pre (l.size+r.size+1) l.size+bU l*sh r.size+bU r
  lia
theorem pT {x y a b:Int} (x1:x < a) (y0:0<=y) (y1:y < b):x*b+y < a*b:=by
 have:(x+1)*b<=a*b:=Int.mul_le_mul_of_nonneg_right (by lia) (by lia)
 rw [Int.add_mul,Int.one_mul] at this
 lia
theorem g6:∀ t:Bt,bU t < sh t.size
 | .leaf=>by show (0:Int) < sh 0; rw [i7]; decide
 | .node l r=>by
  have h1:=g6 l
  have h2:=g6 r
  have h3:=pT (b:=sh r.size) h1 (dS r) h2
  have h4:=fE (l.size+r.size+1) l.size
  rw [show l.size+r.size+1 - 1 - l.size=r.size by lia] at h4
  have h5:=jX (l.size+r.size+1) (show l.size+1<=l.size+r.size+1 by lia)
  have h6:=p7 (l.size+r.size)
  show pre (l.size+r.size+1) l.size+bU l*sh r.size+bU r < sh (l.size+r.size+1)
  lia
theorem yI {l r:Bt} {j:Nat} (h:j < l.size):sh j*sh (l.size+r.size - j)<=bU (.node l r) - pre (l.size+r.size+1) j:=by
 have h4:=fE (l.size+r.size+1) j
 rw [show l.size+r.size+1 - 1 - j=l.size+r.size - j by lia] at h4
 have h5:=jX (l.size+r.size+1) (show j+1<=l.size by lia)
 have h1:=dS l
 have h2:=dS r
 have h3:=dA r.size
 have h6:=JZ h1 (show 0<=sh r.size by lia)
 show _<=pre (l.size+r.size+1) l.size+bU l*sh r.size+bU r - _
 lia
theorem tT (l r:Bt):bU (.node l r) - pre (l.size+r.size+1) l.size=bU l*sh r.size+bU r:=by
 show pre (l.size+r.size+1) l.size+bU l*sh r.size+bU r - _=_
 lia
theorem wo {x y b:Int} (y0:0<=y) (y1:y < b):(x*b+y) / b=x/\(x*b+y) % b=y:=by
 have hb:b≠0:=by lia
 constructor
 ·rw [Int.add_comm,Int.add_mul_ediv_right _ _ hb,Int.ediv_eq_zero_of_lt y0 y1,Hx]
 ·rw [Int.add_comm,Int.add_mul_emod_self_right,Int.emod_eq_of_lt y0 y1]
theorem rG:((EM 62).all fun k=>decide (cN k < 2 ^ 200))=true:=by decide +kernel
theorem AF {k:Nat} (h:k<=61):(sh k).natAbs < 2 ^ 1000:=by
 rw [rg h,mS,Int.natAbs_natCast]
 have:=Fq.mp rG k (E6.mpr (by lia))
 exact Nat.lt_trans (of_decide_eq_true this) (Nat.pow_lt_pow_right (by decide) (by decide))
theorem mulC {a b:Nat} (h:a+b<=39) {x y:Int} (x0:0<=x) (x1:x<=sh a) (y0:0<=y) (y1:y<=sh b):lr x y:=by
 by_cases ha:a<=36
 ·have:=nu ha
  exact .inl ⟨by lia,by lia⟩
 ·have:=nu (show b<=36 by lia)
  exact .inr ⟨by lia,by lia⟩
end Ck
namespace Ck
open PySem L2
theorem jN (d:Int):∀ xs:List (List Int),(xs.map (aE d)).flatten=aE d xs.flatten
 | []=>rfl
 | x::xs=>by
  rw [E2,GX,GX,jN d xs]
  unfold aE
  rw [ED]
theorem x8 (d:Int) (a b:List Int):aE d (a++b)=aE d a++aE d b:=by unfold aE; exact ED
theorem kX {d:Int} {r:List Int} (h:r.Pairwise (· < ·)):(aE d r).Pairwise (· < ·):=by
 unfold aE
 rw [FJ]
 exact h.imp fun h=>by lia
theorem tL (i j:Nat):iota (i+j+1)=0::(aE 1 (iota i)++aE ((i:Int)+1) (iota j)):=by
 have e1:(EM i).map (fun k:Nat=>((k+1:Nat):Int))=aE 1 (iota i):=by
  unfold aE iota
  rw [FG]
  rfl
 have e2:(EM j).map (fun k:Nat=>((i+k+1:Nat):Int))=aE ((i:Int)+1) (iota j):=by
  unfold aE iota
  rw [FG]
  refine Fw fun k _=>?_
  show ((i+k+1:Nat):Int)=(k:Int)+((i:Int)+1)
  lia
 rw [<- e1,<- e2]
 unfold iota
 rw [Ho,E2,FG,List.range_add,ED,FG]
 rfl
theorem cP.join {i j:Nat} {ls rs:List (List Int)} (h:cP i ls) (h':cP j rs):cP (i+j+1) (joinR i ls rs):=by
 have ne:=nM h h'
 have g1:=eI h
 have hG:((0:Int)::aE 1 (ls.filter (aQ i)).flatten).Pairwise (· < ·):=by
  match e:ls.filter (aQ i),g1 with
  | [],_=>simp [aE]
  | [R],_ =>
   have hR:R∈ls:=(FK.mp (by rw [e]; simp)).1
   have e1:[R].flatten=R:=by simp
   rw [e1,Hc]
   refine ⟨fun y hy=>?_,kX (h.inc R hR)⟩
   unfold aE at hy
   obtain ⟨z,hz,rfl⟩:=ER.mp hy
   have:=h.rng hR hz
   lia
  | _::_::_,g1=>simp at g1
 refine ⟨ne,fun r hr=>?_,?_,?_⟩
 ·unfold joinR at hr
  rcases ET.mp hr with rfl | hr
  ·exact hG
  ·rcases EN.mp hr with z | z
   ·obtain ⟨s,hs,rfl⟩:=ER.mp z
    exact kX (h.inc s (FK.mp hs).1)
   ·obtain ⟨s,hs,rfl⟩:=ER.mp z
    exact kX (h'.inc s hs)
 ·unfold joinR
  rw [E2,ED,Hc,Fx]
  have a1:∀ y∈((ls.filter fun r=>!aQ i r).map (aE 1)).map hd,1<=y/\y<=(i:Int):=fun y hy=>by
   obtain ⟨z,hz,rfl⟩:=ER.mp hy
   obtain ⟨s,hs,rfl⟩:=ER.mp hz
   have hs:=(FK.mp hs).1
   rw [fJ (h.ne s hs)]
   have:=h.rng hs (dH (h.ne s hs))
   lia
  have a2:∀ y∈(rs.map (aE ((i:Int)+1))).map hd,(i:Int)+1<=y:=fun y hy=>by
   obtain ⟨z,hz,rfl⟩:=ER.mp hy
   obtain ⟨s,hs,rfl⟩:=ER.mp hz
   rw [fJ (h'.ne s hs)]
   have:=h'.rng hs (dH (h'.ne s hs))
   lia
  have hh:∀ {k:Nat} {xs:List (List Int)} (d:Int),(∀ r∈xs,r≠[])->(xs.map hd).Pairwise (· < ·)->((xs.map (aE d)).map hd).Pairwise (· < ·):=fun d hne hp=>by
   rw [FJ,FJ]
   rw [FJ] at hp
   refine J8 (fun {a b} ha hb hab=>?_) hp
   rw [fJ (hne a ha),fJ (hne b hb)]
   lia
  refine ⟨fun y hy=>?_,hh (k:=0) 1 (fun r hr=>h.ne r (FK.mp hr).1) (h.heads.sublist ((List.filter_sublist).map hd)),hh (k:=0) _ h'.ne h'.heads,fun x hx y hy=>?_⟩
  ·show (0:Int) < y
   rcases EN.mp hy with z | z
   ·have:=a1 y z; lia
   ·have:=a2 y z; lia
  ·have:=a1 x hx
   have:=a2 y hy
   lia
 ·unfold joinR
  rw [GX,GJ,jN,jN,tL,IM,<- E9,<- x8]
  refine K5 _ (List.Perm.append ?_ ?_)
  ·unfold aE
   refine List.Perm.map _ ?_
   rw [<- GJ]
   exact (List.Perm.flatten (Ku (aQ i) ls)).trans h.flat
  ·unfold aE
   exact h'.flat.map _
theorem xR:cP 0 []:=⟨fun r h=>(by cases h),fun r h=>(by cases h),.nil,IF _⟩
end Ck
namespace L2
open PySem PySem.Spec PyProof.Rows
theorem rP (l b:EK) (us vs:Array Ey) (n m:Nat) (d:Option EK) (sl:Array (Option Ey)) (h0:¬(!us.isEmpty&&Builtin.List.listTooLong (us.size+vs.size))=true) (h1:us.size<=sizeLine) (h2:us.size+vs.size<=sizeLine+1) :
  Meets (Builtin.«list.extend» ⟨[.ref l,.ref b],[]⟩) (fun _ R s=>s.heap.get? l=some { cls:=.type "list",dict:=none,data:=.seq us n,slots:=#[] } /\
   s.heap.get? b=some { cls:=.type "tuple",dict:=d,data:=.seq vs m,slots:=sl } /\
   R (.ok (.ret FV)) { s with heap:=s.heap.update l (Fv fun x=>x++vs),toks:=s.toks }) :=
 .of_wp fun prog w A R s h=>by
  obtain ⟨hp,g,dr,tk,os⟩:=s
  obtain ⟨hl,hb,h⟩:=h
  have f2:=AutoSeq1.sub_tuple_tuple
  have f3:=KH
  have f4:=AutoSeq1.sub_tuple_list
  have f5:=AutoSeq1.sub_list_tuple
  have h2':(us++vs).size<=sizeLine+1:=by rw [Array.size_append]; exact h2
  wp_walk using (GR hl rfl (hz:=h1) (_hz':=h2')),J9 hl,J9 hb
  exact ⟨_,rfl,h⟩
section
variable {X:Cx}
noncomputable def xF (K:Fi):V->List V->Hp->VK->Prop:=fun x vs H Q=>∃ l b xs zs,x = .ref l/\vs=[.ref b]/\H l=some (.lst xs)/\bb K H b zs/\xs.length+zs.length<=sizeLine/\Q .non (upd H l (.lst (xs++zs)))
theorem xW:qh X "list.extend" (xF X.K):=by
 intro pins s σ H x vs v us Q I rx rv h
 obtain ⟨l,b,xs,zs,rfl,rfl,hH,hB,hz,q⟩:=h
 cases rx
 obtain ⟨u,rfl,ru⟩:=rv.one
 cases ru
 obtain ⟨z,its,n,r,hl,e⟩:=I.lstM hH
 obtain ⟨its2,r2,⟨⟨oc,od,dt,os⟩,e2,c2,m2,d2⟩,z2⟩:=I.tuple hB
 dsimp only at c2 d2
 subst c2 d2
 have l1:=r.length
 have l2:=r2.length
 have hsz:its.toArray.size+its2.toArray.size<=sizeLine:=by rw [EZ,EZ]; lia
 have hlong:¬ (!its.toArray.isEmpty&&Builtin.List.listTooLong (its.toArray.size+its2.toArray.size))=true:=by
  rw [oH hsz,ID]
  exact Fl
 refine J6 F.slot_list_extend ⟨_,e,rfl⟩ F.entry_list_extend (F.args_list_extend_2 _ _) (rP l b its.toArray its2.toArray n m2 od os hlong (by rw [EZ]; lia) (by lia)) ⟨e,e2,?_⟩
 refine ⟨.non,_,I.lset (its':=its++its2) hH e (by simp) (r.append r2) ?_,rfl,q⟩
 rw [EA]
 lia
variable {X:Cx} {o e:Hq} {es:List Hq} {to:TE} {t:TA} {name:Str} {apos cpos:Pos} {T id:String} {r:V->List V->Hp->VK->Prop}
end
section
variable {X:Cx}
end
theorem gK {lo:Int} {n:Nat} {g:TG} {tt:TT} {te:TE} {σ0:St} {H:Hp} {D:EK} {Q:VK} (Pv:Nat->List V->Hp->Prop) (hz:n<=sizeLine)
  (h0:Pv 0 [] (upd H D (.lst []))) (hl:∀ i ys H',i<=n->Pv i ys H'->ys.length<=i)
  (hs:∀ (i:Nat) (ys:List V) (H':Hp) (R:VK) (R0:Hp->Prop),i < n->Pv i ys H'->(∀ v H3,H3 D=some (.lst ys)->Pv (i+1) (ys++[v]) (upd H3 D (.lst (ys++[v])))->R v H3)->(∀ H3,Pv (i+1) ys H3->R0 H3) ->
   g (.int (lo+i)) σ0 H' fun σ2 H2=>Ext σ0 σ2/\tt σ2 H2 fun b H3=>if b=true then te σ2 H3 R else R0 H3)
  (hq:∀ ys H',Pv n ys H'->Q (.ref D) H') :
  kJ (mq lo n) g tt te σ0 D Q H:=by
 refine ⟨fun i m ys H'=>m=n - i/\i<=n/\Pv i ys H',⟨n,by simp,EU _,h0⟩,?_⟩
 rintro i m ys H' ⟨rfl,hi,p⟩
 have ly:=hl i ys H' hi p
 by_cases hlt:i < n
 ·refine .inr ⟨hlt,fun x H'' y=>?_⟩
  obtain ⟨e,y⟩:=y
  subst e y
  refine hs i ys _ _ _ hlt p (fun v H3 hD p'=>⟨hD,by lia,n - (i+1),by lia,rfl,hlt,p'⟩) fun H3 p'=>⟨n - (i+1),by lia,rfl,hlt,p'⟩
 ·have e:i=n:=by lia
  subst e
  exact .inl ⟨EF _,hq ys H' p⟩
end L2
namespace Ck
open PySem L2
theorem aW.void {K:Fi} {H:Hp} {n:Nat} {a b:EK} {xs:List V} (ne:a≠b) (ha:aj K H a xs) (hb:aj K H b []):aW K H (n+1) (.ref a) (.ref b) (decide (xs=[])):=by
 cases xs with
 | nil=>exact aW.lstT ne ha hb rfl (fun j x y hx _=>by cases hx)
 | cons x xs=>exact aW.lstN ne ha hb (by simp)
noncomputable def Ew (ts:List Bt):Nat:=(ts.map Bt.size).sum
theorem oF {n:Nat} {m:Int} (h0:0<=m):∀ k,m < pre n k->∃ j,j < k/\pre n j<=m/\m < pre n (j+1)
 | 0,h=>by have:pre n 0=0:=rfl; lia
 | k+1,h=>by
  by_cases z:m < pre n k
  ·obtain ⟨j,a,b,c⟩:=oF h0 k z
   exact ⟨j,by lia,b,c⟩
  ·exact ⟨k,by lia,by lia,h⟩
theorem jC (n:Nat):∀ m:Int,0<=m->m < sh n->∃ t:Bt,t.size=n/\bU t=m:=by
 induction n using JK with
 | _ n ih =>
  intro m h0 h1
  cases n with
  | zero=>rw [i7] at h1; exact ⟨.leaf,rfl,by show (0:Int)=m; lia⟩
  | succ k =>
   rw [<- p7 k] at h1
   obtain ⟨j,hj,a,b⟩:=oF h0 (k+1) h1
   rw [fE,GS] at b
   have p1:=dA (k - j)
   generalize hR:m - pre (k+1) j=R
   have R0:0<=R:=by lia
   have d0:0<=R / sh (k - j):=Int.ediv_nonneg R0 (by lia)
   have d1:R / sh (k - j) < sh j:=Int.ediv_lt_of_lt_mul (by lia) (by lia)
   have e0:=GT R (show sh (k - j)≠0 by lia)
   have e1:=Hd R (show 0 < sh (k - j) by lia)
   obtain ⟨l,hl,bl⟩:=ih j (by lia) _ d0 d1
   obtain ⟨r,hr,br⟩:=ih (k - j) (by lia) _ e0 e1
   have es:l.size+r.size+1=k+1:=by lia
   refine ⟨.node l r,es,?_⟩
   show pre (l.size+r.size+1) l.size+bU l*sh r.size+bU r=m
   rw [es,hl,hr,bl,br]
   have:=Int.mul_ediv_add_emod R (sh (k - j))
   rw [Int.mul_comm] at this
   lia
end Ck
namespace Lg
open PySem PyProof.Rows
noncomputable def ql:Bool->Keyed->Array Keyed->Nat->Nat->Nat->StateT SortSt Sem (Option Nat):=sortPriv% PySem.Builtin.gallop
noncomputable def lL (left:Bool) (key:Gg) (arr:Array Gg) (base i:Nat):StateT Gp Sem (Option Bool):=elem' arr (base+i) >>= fun x=>if left then lt' x key else lt' key x >>= fun r=>pure (r.map (!·))
noncomputable def cm (left:Bool) (k a:Int):Bool:=if left then decide (a < k) else !decide (k < a)
section
variable {prog:Fm} {w:FH} {A:FE} {E:Ey->Ez->Prop} {s:Ez}
theorem IntKeys.at {xs:Array Gg} (h:IntKeys xs) {i:Nat} (hi:i < xs.size):∃ t q,xs[i]? = some (.int (K xs i) t,q):=by
 have hm:xs[i]∈xs.toList:=by simp
 obtain ⟨n,t,hn⟩:=h _ hm
 refine ⟨t,xs[i].2,?_⟩
 have e:xs[i]? = some xs[i]:=getElem?_pos _ i hi
 have e2:xs[i]=(.int n t,xs[i].2):=IX hn rfl
 unfold K
 rw [e,e2]
 rfl
theorem kq {st:Gp} {a b:Int} {t u:Tok} {p q:Ey} {Q:Option Bool->Gp->Prop} (hk:kindOf st=oneType') (h:Q (some (decide (a < b))) st):wpS (model prog w) A E s (lt' (.int a t,p) (.int b u,q)) Q st:=by
 rw [lt'_eq]
 refine EJ (IY ?_)
 rw [hk,keyLt'_oneType]
 refine EJ (JW (JG (oneLt_int ⟨rfl,?_⟩)))
 exact EX h
theorem aY {st:Gp} {xs:Array Gg} {i:Nat} {p:Gg} {Q:Gg->Gp->Prop} (e:xs[i]? = some p) (h:Q p st):wpS (model prog w) A E s (elem' xs i) Q st:=by
 rw [elem'_eq,e]
 exact EX h
theorem fX {st:Gp} {left:Bool} {k:Int} {t:Tok} {p:Ey} {arr:Array Gg} {base i:Nat} {Q:Option Bool->Gp->Prop} (hk:kindOf st=oneType') (hI:IntKeys arr) (hi:base+i < arr.size)
  (h:Q (some (cm left k (K arr (base+i)))) st):wpS (model prog w) A E s (lL left (.int k t,p) arr base i) Q st:=by
 obtain ⟨t',q',e⟩:=IntKeys.at hI hi
 unfold lL
 refine EJ (aY e ?_)
 cases left with
 | true=>exact kq hk h
 | false=>exact EJ (kq hk (EX h))
theorem wV {left:Bool} {k a b:Int} (h:a<=b) (hb:cm left k b=true):cm left k a=true:=by
 cases left with
 | true=>have hb:=of_decide_eq_true hb; exact decide_eq_true (Int.lt_of_le_of_lt h hb)
 | false =>
  have hb:(!decide (k < b))=true:=hb
  show (!decide (k < a))=true
  simp at hb |-
  lia
theorem dU {st:Gp} {left:Bool} {k:Int} {t:Tok} {p:Ey} {arr:Array Gg} {base n hint:Nat} {Q:Option Nat->Gp->Prop} (hk:kindOf st=oneType') (hI:IntKeys arr) (hz:base+n<=arr.size) (hh:hint < n)
  (hs:∀ i j,i<=j->j < n->K arr (base+i)<=K arr (base+j))
  (h:∀ m,m<=n->(∀ i,i < m->cm left k (K arr (base+i))=true)->(∀ i,m<=i->i < n->cm left k (K arr (base+i))=false)->Q (some m) st) :
  wpS (model prog w) A E s (ql left (.int k t,p) arr base n hint) Q st:=by
 have dn:∀ i j,i<=j->j < n->cm left k (K arr (base+j))=true->cm left k (K arr (base+i))=true:=fun i j h1 h2 h3=>wV (hs i j h1 h2) h3
 have up:∀ i j,i<=j->j < n->cm left k (K arr (base+i))=false->cm left k (K arr (base+j))=false:=fun i j h1 h2 h3=>by
  cases e:cm left k (K arr (base+j)) with
  | false=>rfl
  | true=>rw [dn i j h1 h2 e] at h3; cases h3
 have fin:∀ lo hi:Nat,lo<=hi->hi<=n->(∀ i,i < lo->cm left k (K arr (base+i))=true)->(∀ i,hi<=i->i < n->cm left k (K arr (base+i))=false) ->
   ∀ (f:(Option (Option Nat) × Nat × Nat)->StateT Gp Sem (Option Nat)),(∀ m,f (none,m,m)=pure (some m)) ->
   wpS (model prog w) A E s (forIn [0:n] ((none,lo,hi):Option (Option Nat) × Nat × Nat) (fun _ c=>do
    if c.2.1 ≥ c.2.2 then pure (ForInStep.done (none,c.2.1,c.2.2)) else do
     let x <- lL left (.int k t,p) arr base (c.2.1+(c.2.2 - c.2.1) / 2)
     match x with
     | some more=>if more=true then pure (HN (none,c.2.1+(c.2.2 - c.2.1) / 2+1,c.2.2)) else pure (HN (none,c.2.1,c.2.1+(c.2.2 - c.2.1) / 2))
     | _=>pure (ForInStep.done (some none,c.2.1,c.2.2))) >>= f) Q st:=by
  intro lo hi hlh hhn hlo hhi f hf
  refine EJ (G0 (FO (I:=fun x c st'=>st'=st/\∃ l r,c=(none,l,r)/\l<=r/\r<=n/\r - l<=n - x/\(∀ i,i < l->cm left k (K arr (base+i))=true)/\(∀ i,r<=i->i < n->cm left k (K arr (base+i))=false))
   (Q:=fun c st'=>st'=st/\∃ m,c=(none,m,m)/\m<=n/\(∀ i,i < m->cm left k (K arr (base+i))=true)/\(∀ i,m<=i->i < n->cm left k (K arr (base+i))=false)) ?step ?fin ⟨rfl,lo,hi,rfl,hlh,hhn,by lia,hlo,hhi⟩) ?post)
  case post =>
   rintro c st' ⟨rfl,m,rfl,hm,a1,a2⟩
   rw [hf]
   exact EX (h m hm a1 a2)
  case fin =>
   rintro c st' ⟨rfl,l,r,rfl,h1,h2,h3,a1,a2⟩
   have:l=r:=by lia
   subst this
   exact ⟨rfl,l,rfl,h2,a1,a2⟩
  case step =>
   rintro x c st' _ hx ⟨rfl,l,r,rfl,h1,h2,h3,a1,a2⟩
   dsimp only
   by_cases hge:l ≥ r
   ·rw [if_pos hge]
    have:l=r:=by lia
    subst this
    exact EX ⟨rfl,l,rfl,h2,a1,a2⟩
   ·rw [if_neg hge]
    refine EJ (fX hk hI (by lia) ?_)
    cases e:cm left k (K arr (base+(l+(r - l) / 2))) with
    | true =>
     dsimp only
     rw [if_pos rfl]
     exact EX ⟨rfl,_,_,rfl,by lia,h2,by lia,fun i hi=>dn i _ (by lia) (by lia) e,a2⟩
    | false =>
     dsimp only
     rw [if_neg (by decide)]
     exact EX ⟨rfl,_,_,rfl,by lia,by lia,by lia,a1,fun i h4 h5=>up _ i h4 h5 e⟩
 unfold ql
 change wpS _ _ _ _ (bind _ _) _ _
 dsimp only
 refine EJ (fX hk hI (by lia) ?_)
 cases e:cm left k (K arr (base+hint)) with
 | true =>
  dsimp only
  rw [if_pos rfl]
  refine EJ (G0 (FO (I:=fun x c st'=>st'=st/\∃ l o,c=(none,l,o)/\l < o/\l < n - hint/\x+1<=o/\cm left k (K arr (base+(hint+l)))=true)
   (Q:=fun c st'=>st'=st/\∃ l o,c=(none,l,o)/\l < o/\l < n - hint/\cm left k (K arr (base+(hint+l)))=true/\(n - hint<=o\/(o < n - hint/\cm left k (K arr (base+(hint+o)))=false))) ?step1 ?fin1 ⟨rfl,0,1,rfl,by lia,by lia,by lia,e⟩) ?post1)
  case post1 =>
   rintro c st' ⟨rfl,l,o,rfl,h1,h2,h3,h4⟩
   dsimp only
   refine fin (hint+l+1) (hint+min o (n - hint)) (by lia) (by lia) (fun i hi=>dn i (hint+l) (by lia) (by lia) h3) (fun i h5 h6=>?_) _ (fun m=>rfl)
   rcases h4 with h4 | ⟨h4,h7⟩
   ·lia
   ·exact up (hint+o) i (by lia) h6 h7
  case fin1 =>
   rintro c st' ⟨rfl,l,o,rfl,h1,h2,h3,h4⟩
   exact ⟨rfl,l,o,rfl,h1,h2,h4,.inl (by lia)⟩
  case step1 =>
   rintro x c st' _ hx ⟨rfl,l,o,rfl,h1,h2,h3,h4⟩
   dsimp only
   by_cases hge:o ≥ n - hint
   ·rw [if_pos hge]
    exact EX ⟨rfl,l,o,rfl,h1,h2,h4,.inl hge⟩
   ·rw [if_neg hge]
    refine EJ (fX hk hI (by lia) ?_)
    cases e2:cm left k (K arr (base+(hint+o))) with
    | true =>
     dsimp only
     rw [if_neg (by decide)]
     exact EX ⟨rfl,o,2*o+1,rfl,by lia,by lia,by lia,e2⟩
    | false =>
     dsimp only
     rw [if_pos (by decide)]
     exact EX ⟨rfl,l,o,rfl,h1,h2,h4,.inr ⟨by lia,e2⟩⟩
 | false =>
  dsimp only
  rw [if_neg (by decide)]
  refine EJ (G0 (FO (I:=fun x c st'=>st'=st/\∃ l o,c=(none,l,o)/\l < o/\l<=hint/\x+1<=o/\cm left k (K arr (base+(hint - l)))=false)
   (Q:=fun c st'=>st'=st/\∃ l o,c=(none,l,o)/\l < o/\l<=hint/\cm left k (K arr (base+(hint - l)))=false/\(hint+1<=o\/(o<=hint/\cm left k (K arr (base+(hint - o)))=true))) ?step2 ?fin2 ⟨rfl,0,1,rfl,by lia,by lia,by lia,e⟩) ?post2)
  case post2 =>
   rintro c st' ⟨rfl,l,o,rfl,h1,h2,h3,h4⟩
   dsimp only
   refine fin (hint+1 - min o (hint+1)) (hint - l) (by lia) (by lia) (fun i hi=>?_) (fun i h5 h6=>up (hint - l) i h5 h6 h3) _ (fun m=>rfl)
   rcases h4 with h4 | ⟨h4,h7⟩
   ·lia
   ·exact dn i (hint - o) (by lia) (by lia) h7
  case fin2 =>
   rintro c st' ⟨rfl,l,o,rfl,h1,h2,h3,h4⟩
   exact ⟨rfl,l,o,rfl,h1,h2,h4,.inl (by lia)⟩
  case step2 =>
   rintro x c st' _ hx ⟨rfl,l,o,rfl,h1,h2,h3,h4⟩
   dsimp only
   by_cases hge:o ≥ hint+1
   ·rw [if_pos hge]
    exact EX ⟨rfl,l,o,rfl,h1,h2,h4,.inl hge⟩
   ·rw [if_neg hge]
    refine EJ (fX hk hI (by lia) ?_)
    cases e2:cm left k (K arr (base+(hint - o))) with
    | true =>
     dsimp only
     rw [if_pos rfl]
     exact EX ⟨rfl,l,o,rfl,h1,h2,h4,.inr ⟨by lia,e2⟩⟩
    | false =>
     dsimp only
     rw [if_neg (by decide)]
     exact EX ⟨rfl,o,2*o+1,rfl,by lia,by lia,by lia,e2⟩
end
noncomputable abbrev key (p:Gg):Int:=numOf p.1
theorem iG {xs:Array Gg} {i:Nat} {p:Gg} (h:xs[i]? = some p):K xs i=key p:=by unfold K; rw [h]
def bY (xs:Array Gg):Prop:=∀ i j,i<=j->j < xs.size->K xs i<=K xs j
structure Mg (a b out:Array Gg) (ia ib:Nat):Prop where
 ha:ia<=a.size
 hb:ib<=b.size
 perm:(out.toList++(a.toList.drop ia++b.toList.drop ib)).Perm (a.toList++b.toList)
 srt:(out.toList.map key).Pairwise (·<=·)
 lea:∀ x∈out.toList,∀ i,ia<=i->i < a.size->key x<=K a i
 leb:∀ x∈out.toList,∀ j,ib<=j->j < b.size->key x<=K b j
def Fin (a b R:Array Gg):Prop:=R.toList.Perm (a.toList++b.toList)/\(R.toList.map key).Pairwise (·<=·)
variable {a b out:Array Gg} {ia ib:Nat}
theorem qw {xs:Array Gg} {i:Nat} {p:Gg} (h:xs[i]? = some p):xs.toList.drop i=p::xs.toList.drop (i+1):=by
 have hi:i < xs.size:=by
  rcases Nat.lt_or_ge i xs.size with z | z
  ·exact z
  ·rw [Gn z] at h; cases h
 have hi':i < xs.toList.length:=by simpa using hi
 rw [GZ hi']
 congr 1
 rw [EI hi] at h
 simpa using h
theorem Mg.pushA (m:Mg a b out ia ib) (sa:bY a) (sb:bY b) {p:Gg} (e:a[ia]? = some p) (hi:ia < a.size) (le:ib < b.size->K a ia<=K b ib):Mg a b (out.push p) (ia+1) ib:=by
 have kp:=iG e
 refine ⟨hi,m.hb,?_,?_,?_,?_⟩
 ·have h:=m.perm
  rw [qw e] at h
  rw [Ft,E9]
  exact h
 ·rw [Ft,ED,Fx]
  refine ⟨m.srt,Hg _ _,fun x hx y hy=>?_⟩
  obtain ⟨z,hz,rfl⟩:=ER.mp hx
  have hy:y=key p:=by simpa using hy
  rw [hy,<- kp]
  exact m.lea z hz ia (EF _) hi
 ·intro x hx i h1 h2
  rw [Ft,EN] at hx
  rcases hx with hx | hx
  ·exact m.lea x hx i (by lia) h2
  ·have:x=p:=by simpa using hx
   rw [this,<- kp]
   exact sa ia i (by lia) h2
 ·intro x hx j h1 h2
  rw [Ft,EN] at hx
  rcases hx with hx | hx
  ·exact m.leb x hx j h1 h2
  ·have:x=p:=by simpa using hx
   rw [this,<- kp]
   exact GN (le (by lia)) (sb ib j h1 h2)
theorem uB (o:List Gg) (x:Gg) (r u:List Gg):(o++[x]++(r++u)).Perm (o++(r++x::u)):=by
 rw [E9]
 refine Ga o ?_
 show (x::(r++u)).Perm (r++x::u)
 exact IP.symm
theorem Mg.pushB (m:Mg a b out ia ib) (sa:bY a) (sb:bY b) {p:Gg} (e:b[ib]? = some p) (hi:ib < b.size) (le:ia < a.size->K b ib<=K a ia):Mg a b (out.push p) ia (ib+1):=by
 have kp:=iG e
 refine ⟨m.ha,hi,?_,?_,?_,?_⟩
 ·have h:=m.perm
  rw [qw e] at h
  rw [Ft]
  exact (uB _ _ _ _).trans h
 ·rw [Ft,ED,Fx]
  refine ⟨m.srt,Hg _ _,fun x hx y hy=>?_⟩
  obtain ⟨z,hz,rfl⟩:=ER.mp hx
  have hy:y=key p:=by simpa using hy
  rw [hy,<- kp]
  exact m.leb z hz ib (EF _) hi
 ·intro x hx i h1 h2
  rw [Ft,EN] at hx
  rcases hx with hx | hx
  ·exact m.lea x hx i h1 h2
  ·have:x=p:=by simpa using hx
   rw [this,<- kp]
   exact GN (le (by lia)) (sa ia i h1 h2)
 ·intro x hx j h1 h2
  rw [Ft,EN] at hx
  rcases hx with hx | hx
  ·exact m.leb x hx j (by lia) h2
  ·have:x=p:=by simpa using hx
   rw [this,<- kp]
   exact sb ib j (by lia) h2
theorem oh {xs:Array Gg} {i k:Nat} {p:Gg} (e:xs[i+k]? = some p):xs.extract i (i+k+1)=(xs.extract i (i+k)).push p:=by
 have hi:i+k < xs.size:=by
  rcases Nat.lt_or_ge (i+k) xs.size with z | z
  ·exact z
  ·rw [Gn z] at e; cases e
 rw [EI hi] at e
 apply Lp
 rw [Ft,GU,GU]
 simp only [II]
 rw [show i+k+1 - i=k+1 by lia,show i+k - i=k by lia]
 have hl:k < (xs.toList.drop i).length:=by simp; lia
 rw [HH hl]
 congr 2
 simp
 simpa using e
theorem Mg.takeA (m:Mg a b out ia ib) (sa:bY a) (sb:bY b):∀ k,ia+k<=a.size->(∀ i,i < k->ib < b.size->K a (ia+i)<=K b ib)->Mg a b (out++a.extract ia (ia+k)) (ia+k) ib
 | 0,_,_=>by
  have e:a.extract ia (ia+0) = #[]:=by simp; lia
  rw [e,IZ]
  exact m
 | k+1,h1,h2=>by
  have ih:=Mg.takeA m sa sb k (by lia) (fun i hi=>h2 i (by lia))
  have e:a[ia+k]? = some a[ia+k]:=EI (by lia)
  have e2:=oh e
  rw [show ia+(k+1)=ia+k+1 by lia,e2,Ji]
  exact ih.pushA sa sb e (by lia) (h2 k (by lia))
theorem Mg.takeB (m:Mg a b out ia ib) (sa:bY a) (sb:bY b):∀ k,ib+k<=b.size->(∀ i,i < k->ia < a.size->K b (ib+i)<=K a ia)->Mg a b (out++b.extract ib (ib+k)) ia (ib+k)
 | 0,_,_=>by
  have e:b.extract ib (ib+0) = #[]:=by simp; lia
  rw [e,IZ]
  exact m
 | k+1,h1,h2=>by
  have ih:=Mg.takeB m sa sb k (by lia) (fun i hi=>h2 i (by lia))
  have e:b[ib+k]? = some b[ib+k]:=EI (by lia)
  have e2:=oh e
  rw [show ib+(k+1)=ib+k+1 by lia,e2,Ji]
  exact ih.pushB sa sb e (by lia) (h2 k (by lia))
theorem Mg.fin (m:Mg a b out a.size b.size):Fin a b out:=by
 refine ⟨?_,m.srt⟩
 have h:=m.perm
 rw [FS (by simp),FS (by simp),Ff,Ff] at h
 exact h
theorem Mg.doneB (m:Mg a b out ia ib) (sa:bY a) (sb:bY b) (h:ib=b.size):Fin a b (out++a.extract ia a.size++b.extract ib b.size):=by
 subst h
 have h1:=m.takeA sa sb (a.size - ia) (by have:=m.ha; lia) (fun i _ z=>by lia)
 rw [show ia+(a.size - ia)=a.size by have:=m.ha; lia] at h1
 have e:b.extract b.size b.size = #[]:=by simp
 rw [e,IZ]
 exact h1.fin
theorem Mg.doneA (m:Mg a b out ia ib) (sa:bY a) (sb:bY b) (h:ia=a.size):Fin a b (out++a.extract ia a.size++b.extract ib b.size):=by
 subst h
 have e:a.extract a.size a.size = #[]:=by simp
 rw [e,IZ]
 have h1:=m.takeB sa sb (b.size - ib) (by have:=m.hb; lia) (fun i _ z=>by lia)
 rw [show ib+(b.size - ib)=b.size by have:=m.hb; lia] at h1
 exact h1.fin
theorem Mg.last (m:Mg a b out ia ib) (sa:bY a) (sb:bY b) (h:ia+1=a.size) (top:∀ j,j < b.size->K b j<=K a ia):Fin a b (out++b.extract ib b.size++a.extract ia a.size):=by
 have h1:=m.takeB sa sb (b.size - ib) (by have:=m.hb; lia) (fun i _ z=>top _ (by lia))
 rw [show ib+(b.size - ib)=b.size by have:=m.hb; lia] at h1
 have h2:=h1.takeA sa sb (a.size - ia) (by lia) (fun i _ z=>by lia)
 rw [show ia+(a.size - ia)=a.size by lia] at h2
 exact h2.fin
section
variable {prog:Fm} {w:FH} {A:FE} {E:Ey->Ez->Prop} {s:Ez}
noncomputable def setG (st:Gp) (g:Nat):Gp:=SortSt.mk' (kindOf st) (arrOf st) (pendingOf st) g (failedOf st)
noncomputable def iD:Nat->StateT SortSt Sem Unit:=sortPriv% PySem.Builtin.setMinGallop
theorem jT (g:Nat):iD g=modify fun s=>setG s g:=rfl
noncomputable def nO:Array Keyed->Array Keyed->StateT SortSt Sem (Array Keyed):=sortPriv% PySem.Builtin.mergeLo
theorem hZ {st:Gp} {g:Nat} {Q:Unit->Gp->Prop} (h:Q () (setG st g)):wpS (model prog w) A E s (iD g) Q st:=by
 rw [jT]
 exact Iz h
theorem uU {α:Type} {c:Prop} {ic:Decidable c} {P:Nat->StateT Gp Sem α} {x y:Nat} {Q:α->Gp->Prop} {st:Gp} (h:∀ g,wpS (model prog w) A E s (P g) Q st):∀ g,x=g->wpS (model prog w) A E s (if c then P g else P y) Q st:=by
 intro g _
 split<;>exact h _
theorem ui {α:Type} {c:Prop} {ic:Decidable c} {d:Array Gg->Nat->Prop} {id:∀ o i,Decidable (d o i)} {P r1:Array Gg->Nat->StateT Gp Sem α} {x i2:Nat} {f:Nat->Array Gg} {o2:Array Gg} {Q:α->Gp->Prop} {st:Gp} (C:Array Gg->Nat->Prop)
  (h1:∀ i,x=i->∀ o,f i=o->c->d o i->wpS (model prog w) A E s (r1 o i) Q st) (h3:∀ i,x=i->∀ o,f i=o->c->¬d o i->C o i) (h4:¬c->C o2 i2) (hP:∀ o i,C o i->wpS (model prog w) A E s (P o i) Q st) :
  ∀ i,x=i->∀ o,f i=o->wpS (model prog w) A E s (if c then (if d o i then r1 o i else P o i) else P o2 i2) Q st:=by
 intro i ei o eo
 by_cases hc:c
 ·rw [if_pos hc]
  by_cases hd:d o i
  ·rw [if_pos hd]; exact h1 i ei o eo hc hd
  ·rw [if_neg hd]; exact hP _ _ (h3 i ei o eo hc hd)
 ·rw [if_neg hc]; exact hP _ _ (h4 hc)
theorem tK {α:Type} {c:Prop} {ic:Decidable c} {d e:Array Gg->Nat->Prop} {id:∀ o i,Decidable (d o i)} {ie:∀ o i,Decidable (e o i)} {P r1 r2:Array Gg->Nat->StateT Gp Sem α} {x i2:Nat} {f:Nat->Array Gg} {o2:Array Gg} {Q:α->Gp->Prop} {st:Gp} (C:Array Gg->Nat->Prop)
  (h1:∀ i,x=i->∀ o,f i=o->c->d o i->wpS (model prog w) A E s (r1 o i) Q st) (h2:∀ i,x=i->∀ o,f i=o->c->¬d o i->e o i->wpS (model prog w) A E s (r2 o i) Q st) (h3:∀ i,x=i->∀ o,f i=o->c->¬d o i->¬e o i->C o i) (h4:¬c->C o2 i2) (hP:∀ o i,C o i->wpS (model prog w) A E s (P o i) Q st) :
  ∀ i,x=i->∀ o,f i=o->wpS (model prog w) A E s (if c then (if d o i then r1 o i else if e o i then r2 o i else P o i) else P o2 i2) Q st:=by
 intro i ei o eo
 by_cases hc:c
 ·rw [if_pos hc]
  by_cases hd:d o i
  ·rw [if_pos hd]; exact h1 i ei o eo hc hd
  ·rw [if_neg hd]
   by_cases he:e o i
   ·rw [if_pos he]; exact h2 i ei o eo hc hd he
   ·rw [if_neg he]; exact hP _ _ (h3 i ei o eo hc hd he)
 ·rw [if_neg hc]; exact hP _ _ (h4 hc)
theorem oY {st:Gp} {a b:Array Gg} {Q:Array Gg->Gp->Prop} (hk:kindOf st=oneType') (hA:IntKeys a) (hB:IntKeys b) (sa:bY a) (sb:bY b) (na:1<=a.size) (nb:1<=b.size) (first:K b 0<=K a 0) (top:∀ j,j < b.size->K b j<=K a (a.size - 1))
  (h:∀ R g,Fin a b R->Q R (setG st g)):wpS (model prog w) A E s (nO a b) Q st:=by
 have top':∀ i,i+1=a.size->∀ j,j < b.size->K b j<=K a i:=fun i hi j hj=>by
  have:=top j hj
  rw [show a.size - 1=i by lia] at this
  exact this
 have m0:Mg a b #[] 0 0:=⟨EU _,EU _,IF _,.nil,(fun x hx=>by simp at hx),(fun x hx=>by simp at hx)⟩
 obtain ⟨t0,q0,e0⟩:=IntKeys.at hB (show 0 < b.size by lia)
 have m1:=m0.pushB sa sb e0 (by lia) (fun _=>first)
 unfold nO
 change wpS _ _ _ _ (bind _ _) _ _
 dsimp only
 refine EJ (JW (Ik ⟨rfl,?_⟩))
 refine EJ (aY e0 ?_)
 by_cases hb1:1=b.size
 ·rw [if_pos (by simpa using hb1)]
  exact EX (h _ (gallopOf st) (m1.doneB sa sb hb1))
 rw [if_neg (by simpa using hb1)]
 by_cases ha1:0+1=a.size
 ·rw [if_pos (by simpa using ha1)]
  exact EX (h _ (gallopOf st) (m1.last sa sb ha1 (top' _ ha1)))
 rw [if_neg (by simpa using ha1)]
 refine EJ (IY ?_)
 refine EJ (G0 (FO (I:=fun x c st'=>∃ g out ia ib mg,st'=setG st g/\c=(none,out,ia,ib,mg)/\Mg a b out ia ib/\ia+1 < a.size/\ib < b.size/\x+1<=ia+ib)
  (Q:=fun c st'=>∃ R g r,c=(some R,r)/\st'=setG st g/\Fin a b R) ?step ?fin ⟨gallopOf st,_,0,1,_,rfl,rfl,m1,by lia,by lia,by lia⟩) ?post)
 case post =>
  rintro c st' ⟨R,g,r,rfl,rfl,f⟩
  exact EX (h R g f)
 case fin =>
  rintro c st' ⟨g,out,ia,ib,mg,rfl,rfl,m,h1,h2,h3⟩
  lia
 case step =>
  rintro x c st' _ hx ⟨g,out,ia,ib,mg,rfl,rfl,m,h1,h2,h3⟩
  dsimp only
  refine EJ (G0 (FO (I:=fun y c st'=>st'=setG st g/\∃ out ia ib ac bc,c=(none,out,ia,ib,ac,bc)/\Mg a b out ia ib/\ia+1 < a.size/\ib < b.size/\x+1+y<=ia+ib)
   (Q:=fun c st'=>st'=setG st g/\((∃ R r,c=(some R,r)/\Fin a b R)\/∃ out ia ib ac bc,c=(none,out,ia,ib,ac,bc)/\Mg a b out ia ib/\ia+1 < a.size/\ib < b.size/\x+2<=ia+ib)) ?st1 ?fin1 ⟨rfl,out,ia,ib,0,0,rfl,m,h1,h2,by lia⟩) ?post1)
  case fin1 =>
   rintro c st' ⟨rfl,out,ia,ib,ac,bc,rfl,m,h1,h2,h3⟩
   exact ⟨rfl,.inr ⟨out,ia,ib,ac,bc,rfl,m,h1,h2,by lia⟩⟩
  case st1 =>
   rintro y c st' _ hy ⟨rfl,out,ia,ib,ac,bc,rfl,m,h1,h2,h3⟩
   dsimp only
   obtain ⟨tb,qb,eb⟩:=IntKeys.at hB h2
   obtain ⟨ta,qa,ea⟩:=IntKeys.at hA (show ia < a.size by lia)
   refine EJ (aY eb ?_)
   refine EJ (aY ea ?_)
   refine EJ (kq (st:=setG st g) hk ?_)
   by_cases hw:K b ib < K a ia
   ·simp only [hw,decide_true,if_true]
    have m2:=m.pushB sa sb eb h2 (fun _=>Gv hw)
    refine EJ (aY eb ?_)
    by_cases h4:ib+1=b.size
    ·rw [if_pos (by simpa using h4)]
     exact EX ⟨rfl,.inl ⟨_,_,rfl,m2.doneB sa sb h4⟩⟩
    ·rw [if_neg (by simpa using h4)]
     split
     ·exact EX ⟨rfl,.inr ⟨_,_,_,_,_,rfl,m2,by lia,by lia,by lia⟩⟩
     ·exact EX ⟨rfl,_,_,_,_,_,rfl,m2,by lia,by lia,by lia⟩
   ·simp only [hw,decide_false,EG,if_false]
    have m2:=m.pushA sa sb ea (by lia) (fun _=>HR.mp hw)
    refine EJ (aY ea ?_)
    by_cases h4:ia+1+1=a.size
    ·rw [if_pos (by simpa using h4)]
     exact EX ⟨rfl,.inl ⟨_,_,rfl,m2.last sa sb h4 (top' _ h4)⟩⟩
    ·rw [if_neg (by simpa using h4)]
     split
     ·exact EX ⟨rfl,.inr ⟨_,_,_,_,_,rfl,m2,by lia,by lia,by lia⟩⟩
     ·exact EX ⟨rfl,_,_,_,_,_,rfl,m2,by lia,by lia,by lia⟩
  case post1 =>
   rintro c st' ⟨rfl,⟨R,r,rfl,f⟩ | ⟨out,ia,ib,ac,bc,rfl,m,h1,h2,h3⟩⟩
   ·exact EX ⟨R,g,_,rfl,rfl,f⟩
   dsimp only
   refine EJ (JW (Ik ⟨rfl,?_⟩))
   refine EJ (G0 (FO (I:=fun y c st'=>∃ g out ia ib mg ac bc,st'=setG st g/\c=(none,out,ia,ib,mg,ac,bc)/\Mg a b out ia ib/\ia+1 < a.size/\ib < b.size/\x+2<=ia+ib)
    (Q:=fun c st'=>(∃ R g r,c=(some R,r)/\st'=setG st g/\Fin a b R)\/∃ g out ia ib mg ac bc,st'=setG st g/\c=(none,out,ia,ib,mg,ac,bc)/\Mg a b out ia ib/\ia+1 < a.size/\ib < b.size/\x+2<=ia+ib) ?st2 ?fin2 ⟨g,out,ia,ib,_,ac,bc,rfl,rfl,m,h1,h2,h3⟩) ?post2)
   case fin2 =>
    rintro c st' ⟨g,out,ia,ib,mg,ac,bc,rfl,rfl,m,h1,h2,h3⟩
    exact .inr ⟨g,out,ia,ib,mg,ac,bc,rfl,rfl,m,h1,h2,h3⟩
   case post2 =>
    rintro c st' (⟨R,g,r,rfl,rfl,f⟩ | ⟨g,out,ia,ib,mg,ac,bc,rfl,rfl,m,h1,h2,h3⟩)
    ·exact EX ⟨R,g,_,rfl,rfl,f⟩
    ·dsimp only
     refine EJ (hZ ?_)
     exact EX ⟨mg+1,out,ia,ib,mg+1,rfl,rfl,m,h1,h2,by lia⟩
   case st2 =>
    rintro y c st' _ hy ⟨g,out,ia,ib,mg,ac,bc,rfl,rfl,m,h1,hib,h3⟩
    dsimp only
    obtain ⟨tb,qb,eb⟩:=IntKeys.at hB hib
    generalize eg:mg - 1=g1
    revert g1
    refine uU fun gg=>?_
    refine EJ (hZ ?_)
    show wpS _ _ _ _ _ _ (setG st gg)
    refine EJ (aY eb ?_)
    refine EJ (dU (st:=setG st gg) hk hA (by lia) (by lia) (fun i j h6 h7=>sa _ _ (by lia) (by lia)) fun k kn low high=>?_)
    dsimp only
    have m1:Mg a b (out++a.extract ia (ia+k)) (ia+k) ib:=m.takeA sa sb k (by lia) (fun i hi _=>by have:=low i hi; unfold cm at this; simp at this; lia)
    have leb:ia+k < a.size->K b ib<=K a (ia+k):=fun z=>by have:=high k (EF _) (by lia); unfold cm at this; simp at this; lia
    generalize ei:ia+k=i1
    generalize eo:out++a.extract ia i1=o1
    revert o1
    revert i1
    refine tK (fun o i=>Mg a b o i ib/\i+1 < a.size/\ia<=i/\K b ib<=K a i) ?_ ?_ ?_ ?_ ?_
    ·rintro _ rfl _ rfl _ d
     exact EX (.inl ⟨_,_,_,rfl,rfl,m1.last sa sb (by simpa using d) (top' _ (by simpa using d))⟩)
    ·rintro _ rfl _ rfl _ _ e
     exact EX (.inl ⟨_,_,_,rfl,rfl,m1.doneA sa sb (by simpa using e)⟩)
    ·rintro _ rfl _ rfl _ d e
     simp at d e
     have:=m1.ha
     exact ⟨m1,by lia,by lia,leb (by lia)⟩
    ·intro c
     have k0:k=0:=by lia
     subst k0
     exact ⟨m,h1,EF _,leb (by lia)⟩
    clear m1 leb m h1 low high
    rintro o i ⟨m,h1,h0,leb⟩
    have m2:=m.pushB sa sb eb hib (fun _=>leb)
    obtain ⟨ta,qa,ea2⟩:=IntKeys.at hA (show i < a.size by lia)
    refine EJ (aY eb ?_)
    by_cases h4:ib+1=b.size
    ·rw [if_pos (by simpa using h4)]
     exact EX (.inl ⟨_,_,_,rfl,rfl,m2.doneB sa sb h4⟩)
    rw [if_neg (by simpa using h4)]
    refine EJ (aY ea2 ?_)
    refine EJ (dU (st:=setG st gg) hk hB (by lia) (by lia) (fun i j h6 h7=>sb _ _ (by lia) (by lia)) fun k2 k2n low2 high2=>?_)
    dsimp only
    generalize o.push _=op at m2 |-
    have m2':Mg a b (op++b.extract (ib+1) (ib+1+k2)) i (ib+1+k2):=m2.takeB sa sb k2 (by lia) (fun i hi _=>Gv (of_decide_eq_true (low2 i hi)))
    have le3:ib+1+k2 < b.size->K a i<=K b (ib+1+k2):=fun z=>HR.mp (of_decide_eq_false (high2 k2 (EF _) (by lia)))
    generalize ei2:ib+1+k2=i2
    generalize eo2:op++b.extract (ib+1) i2=o2
    revert o2
    revert i2
    refine ui (fun o j=>Mg a b o i j/\j < b.size/\ib+1<=j/\K a i<=K b j) ?_ ?_ ?_ ?_
    ·rintro _ rfl _ rfl _ d
     exact EX (.inl ⟨_,_,_,rfl,rfl,m2'.doneB sa sb (by simpa using d)⟩)
    ·rintro _ rfl _ rfl _ d
     simp at d
     have:=m2'.hb
     exact ⟨m2',by lia,by lia,le3 (by lia)⟩
    ·intro c
     have k0:k2=0:=by lia
     subst k0
     have:=m2.hb
     exact ⟨m2,by lia,EF _,le3 (by lia)⟩
    clear m2' le3 m2 low2 high2
    rintro o' j ⟨m3,hj,hj0,le3⟩
    have m4:=m3.pushA sa sb ea2 (by lia) (fun _=>le3)
    refine EJ (aY ea2 ?_)
    by_cases h5:i+1+1=a.size
    ·rw [if_pos (by simpa using h5)]
     exact EX (.inl ⟨_,_,_,rfl,rfl,m4.last sa sb h5 (top' _ h5)⟩)
    ·rw [if_neg (by simpa using h5)]
     split
     ·exact EX (.inr ⟨_,_,_,_,_,_,_,rfl,rfl,m4,by lia,by lia,by lia⟩)
     ·exact EX ⟨_,_,_,_,_,_,_,rfl,rfl,m4,by lia,by lia,by lia⟩
end
structure Mh (a b out:Array Gg) (na nb:Nat):Prop where
 ha:na<=a.size
 hb:nb<=b.size
 perm:(a.toList.take na++(b.toList.take nb++out.toList.reverse)).Perm (a.toList++b.toList)
 srt:(out.toList.map key).Pairwise (fun x y=>y<=x)
 lea:∀ x∈out.toList,∀ i,i < na->K a i<=key x
 leb:∀ x∈out.toList,∀ j,j < nb->K b j<=key x
theorem pJ {xs:Array Gg} {n:Nat} {p:Gg} (h:xs[n]? = some p):xs.toList.take (n+1)=xs.toList.take n++[p]:=by
 have hi:n < xs.size:=by
  rcases Nat.lt_or_ge n xs.size with z | z
  ·exact z
  ·rw [Gn z] at h; cases h
 have hi':n < xs.toList.length:=by simpa using hi
 rw [HH hi']
 congr 2
 rw [EI hi] at h
 simpa using h
variable {na nb:Nat}
theorem Mh.pushA (m:Mh a b out (na+1) nb) (sa:bY a) (sb:bY b) {p:Gg} (e:a[na]? = some p) (le:0 < nb->K b (nb - 1)<=K a na):Mh a b (out.push p) na nb:=by
 have kp:=iG e
 have ha:=m.ha
 refine ⟨by lia,m.hb,?_,?_,?_,?_⟩
 ·have h:=m.perm
  rw [pJ e] at h
  rw [Ft,List.reverse_append]
  refine KO ?_ h
  rw [E9]
  refine Ga _ ?_
  show (b.toList.take nb++p::out.toList.reverse).Perm (p::(b.toList.take nb++out.toList.reverse))
  exact IP
 ·rw [Ft,ED,Fx]
  refine ⟨m.srt,Hg _ _,fun x hx y hy=>?_⟩
  obtain ⟨z,hz,rfl⟩:=ER.mp hx
  have hy:y=key p:=by simpa using hy
  rw [hy,<- kp]
  exact m.lea z hz na (by lia)
 ·intro x hx i h1
  rw [Ft,EN] at hx
  rcases hx with hx | hx
  ·exact m.lea x hx i (by lia)
  ·have:x=p:=by simpa using hx
   rw [this,<- kp]
   exact sa i na (by lia) (by lia)
 ·intro x hx j h1
  rw [Ft,EN] at hx
  rcases hx with hx | hx
  ·exact m.leb x hx j h1
  ·have:x=p:=by simpa using hx
   rw [this,<- kp]
   exact GN (sb j (nb - 1) (by lia) (by have:=m.hb; lia)) (le (by lia))
theorem Mh.pushB (m:Mh a b out na (nb+1)) (sa:bY a) (sb:bY b) {p:Gg} (e:b[nb]? = some p) (le:0 < na->K a (na - 1)<=K b nb):Mh a b (out.push p) na nb:=by
 have kp:=iG e
 have hb:=m.hb
 refine ⟨m.ha,by lia,?_,?_,?_,?_⟩
 ·have h:=m.perm
  rw [pJ e] at h
  rw [Ft,List.reverse_append]
  refine KO ?_ h
  rw [E9]
  exact IF _
 ·rw [Ft,ED,Fx]
  refine ⟨m.srt,Hg _ _,fun x hx y hy=>?_⟩
  obtain ⟨z,hz,rfl⟩:=ER.mp hx
  have hy:y=key p:=by simpa using hy
  rw [hy,<- kp]
  exact m.leb z hz nb (by lia)
 ·intro x hx i h1
  rw [Ft,EN] at hx
  rcases hx with hx | hx
  ·exact m.lea x hx i h1
  ·have:x=p:=by simpa using hx
   rw [this,<- kp]
   exact GN (sa i (na - 1) (by lia) (by have:=m.ha; lia)) (le (by lia))
 ·intro x hx j h1
  rw [Ft,EN] at hx
  rcases hx with hx | hx
  ·exact m.leb x hx j (by lia)
  ·have:x=p:=by simpa using hx
   rw [this,<- kp]
   exact sb j nb (by lia) (by lia)
theorem nv {xs:Array Gg} {i n:Nat} {p:Gg} (hi:i<=n) (e:xs[i]? = some p) (hn:n<=xs.size) (hlt:i < n):(xs.extract i n).reverse=(xs.extract (i+1) n).reverse.push p:=by
 have hz:i < xs.size:=by lia
 rw [EI hz] at e
 apply Lp
 rw [Ft,IC,IC,GU,GU]
 simp only [II]
 have hl:i < xs.toList.length:=by simpa using hz
 rw [GZ hl,show n - i=(n - (i+1))+1 by lia,List.take_succ_cons,List.reverse_cons]
 congr 2
 simpa using e
theorem Mh.takeA (sa:bY a) (sb:bY b):∀ (k:Nat) {na:Nat} {out:Array Gg},Mh a b out na nb->∀ lo,lo+k=na->(∀ i,lo<=i->i < na->0 < nb->K b (nb - 1)<=K a i)->Mh a b (out++(a.extract lo na).reverse) lo nb
 | 0,na,out,m,lo,h,_=>by
  have:lo=na:=by lia
  subst this
  have e:a.extract lo lo = #[]:=by simp; lia
  rw [e]
  simpa using m
 | k+1,na,out,m,lo,h,h2=>by
  have ih:=Mh.takeA sa sb k m (lo+1) (by lia) (fun i hi=>h2 i (by lia))
  have ha:=m.ha
  have e:a[lo]? = some a[lo]:=EI (by lia)
  rw [nv (by lia) e ha (by lia),Ji]
  exact ih.pushA sa sb e (h2 lo (EF _) (by lia))
theorem Mh.takeB (sa:bY a) (sb:bY b):∀ (k:Nat) {nb:Nat} {out:Array Gg},Mh a b out na nb->∀ lo,lo+k=nb->(∀ i,lo<=i->i < nb->0 < na->K a (na - 1)<=K b i)->Mh a b (out++(b.extract lo nb).reverse) na lo
 | 0,nb,out,m,lo,h,_=>by
  have:lo=nb:=by lia
  subst this
  have e:b.extract lo lo = #[]:=by simp; lia
  rw [e]
  simpa using m
 | k+1,nb,out,m,lo,h,h2=>by
  have ih:=Mh.takeB sa sb k m (lo+1) (by lia) (fun i hi=>h2 i (by lia))
  have hb:=m.hb
  have e:b[lo]? = some b[lo]:=EI (by lia)
  rw [nv (by lia) e hb (by lia),Ji]
  exact ih.pushB sa sb e (h2 lo (EF _) (by lia))
theorem Mh.fin (m:Mh a b out 0 0):Fin a b out.reverse:=by
 have h:=m.perm
 refine ⟨?_,?_⟩
 ·rw [IC]; exact h
 ·rw [IC,List.map_reverse,List.pairwise_reverse]
  exact m.srt
theorem Mh.doneA (m:Mh a b out na nb) (sa:bY a) (sb:bY b) (h:na=0):Fin a b (a.extract 0 na++b.extract 0 nb++out.reverse):=by
 subst h
 have h1:=Mh.takeB sa sb nb m 0 (by lia) (fun i _ _ z=>by lia)
 have h2:=h1.fin
 have e:a.extract 0 0 = #[]:=by simp
 rw [e]
 simpa using h2
theorem Mh.doneB (m:Mh a b out na nb) (sa:bY a) (sb:bY b) (h:nb=0):Fin a b (a.extract 0 na++b.extract 0 nb++out.reverse):=by
 subst h
 have h1:=Mh.takeA sa sb na m 0 (by lia) (fun i _ _ z=>by lia)
 have h2:=h1.fin
 have e:b.extract 0 0 = #[]:=by simp
 rw [e]
 simpa using h2
theorem Mh.firstB (m:Mh a b out na nb) (sa:bY a) (sb:bY b) (h:nb=1) (first:∀ i,i < a.size->K b 0<=K a i):Fin a b (b.extract 0 nb++a.extract 0 na++out.reverse):=by
 subst h
 have h1:=Mh.takeA sa sb na m 0 (by lia) (fun i _ z _=>first i (by have:=m.ha; lia))
 have h2:=Mh.takeB sa sb 1 h1 0 rfl (fun i _ _ z=>by lia)
 have h3:=h2.fin
 simpa using h3
section
variable {prog:Fm} {w:FH} {A:FE} {E:Ey->Ez->Prop} {s:Ez}
noncomputable def oV:Array Keyed->Array Keyed->StateT SortSt Sem (Array Keyed):=sortPriv% PySem.Builtin.mergeHi
theorem pB {st:Gp} {a b:Array Gg} {Q:Array Gg->Gp->Prop} (hk:kindOf st=oneType') (hA:IntKeys a) (hB:IntKeys b) (sa:bY a) (sb:bY b) (na0:1<=a.size) (nb0:1<=b.size) (first:K b 0<=K a 0) (top:∀ j,j < b.size->K b j<=K a (a.size - 1))
  (h:∀ R g,Fin a b R->Q R (setG st g)):wpS (model prog w) A E s (oV a b) Q st:=by
 have first':∀ i,i < a.size->K b 0<=K a i:=fun i hi=>GN first (sa 0 i (EU _) hi)
 have m0:Mh a b #[] (a.size - 1+1) b.size:=⟨by lia,EF _,by rw [EL (by simp; lia),EL (by simp)]; simp,.nil,(fun x hx=>by simp at hx),(fun x hx=>by simp at hx)⟩
 obtain ⟨t0,q0,e0⟩:=IntKeys.at hA (show a.size - 1 < a.size by lia)
 have m1:=m0.pushA sa sb e0 (fun _=>top _ (by lia))
 unfold oV
 change wpS _ _ _ _ (bind _ _) _ _
 dsimp only
 refine EJ (JW (Ik ⟨rfl,?_⟩))
 refine EJ (aY e0 ?_)
 by_cases ha1:a.size - 1=0
 ·rw [if_pos (by simpa using ha1)]
  exact EX (h _ (gallopOf st) (m1.doneA sa sb ha1))
 rw [if_neg (by simpa using ha1)]
 by_cases hb1:b.size=1
 ·rw [if_pos (by simpa using hb1)]
  exact EX (h _ (gallopOf st) (m1.firstB sa sb hb1 first'))
 rw [if_neg (by simpa using hb1)]
 refine EJ (IY ?_)
 refine EJ (G0 (FO (I:=fun x c st'=>∃ g na nb out mg,st'=setG st g/\c=(none,na,nb,out,mg)/\Mh a b out na nb/\1<=na/\2<=nb/\x+1+na+nb<=a.size+b.size)
  (Q:=fun c st'=>∃ R g r,c=(some R,r)/\st'=setG st g/\Fin a b R) ?step ?fin ⟨gallopOf st,a.size - 1,b.size,_,_,rfl,rfl,m1,by lia,by lia,by lia⟩) ?post)
 case post =>
  rintro c st' ⟨R,g,r,rfl,rfl,f⟩
  exact EX (h R g f)
 case fin =>
  rintro c st' ⟨g,na,nb,out,mg,rfl,rfl,m,h1,h2,h3⟩
  lia
 case step =>
  rintro x c st' _ hx ⟨g,na,nb,out,mg,rfl,rfl,m,h1,h2,h3⟩
  dsimp only
  refine EJ (G0 (FO (I:=fun y c st'=>st'=setG st g/\∃ na nb out ac bc,c=(none,na,nb,out,ac,bc)/\Mh a b out na nb/\1<=na/\2<=nb/\x+1+y+na+nb<=a.size+b.size)
   (Q:=fun c st'=>st'=setG st g/\((∃ R r,c=(some R,r)/\Fin a b R)\/∃ na nb out ac bc,c=(none,na,nb,out,ac,bc)/\Mh a b out na nb/\1<=na/\2<=nb/\x+2+na+nb<=a.size+b.size)) ?st1 ?fin1 ⟨rfl,na,nb,out,0,0,rfl,m,h1,h2,by lia⟩) ?post1)
  case fin1 =>
   rintro c st' ⟨rfl,na,nb,out,ac,bc,rfl,m,h1,h2,h3⟩
   exact ⟨rfl,.inr ⟨na,nb,out,ac,bc,rfl,m,h1,h2,by lia⟩⟩
  case st1 =>
   rintro y c st' _ hy ⟨rfl,na,nb,out,ac,bc,rfl,m,h1,h2,h3⟩
   dsimp only
   have haz:=m.ha
   have hbz:=m.hb
   obtain ⟨tb,qb,eb⟩:=IntKeys.at hB (show nb - 1 < b.size by lia)
   obtain ⟨ta,qa,ea⟩:=IntKeys.at hA (show na - 1 < a.size by lia)
   refine EJ (aY eb ?_)
   refine EJ (aY ea ?_)
   refine EJ (kq (st:=setG st g) hk ?_)
   by_cases hw:K b (nb - 1) < K a (na - 1)
   ·simp only [hw,decide_true,if_true]
    have m2:Mh a b _ (na - 1) nb:=Mh.pushA (na:=na - 1) (by rw [show na - 1+1=na by lia]; exact m) sa sb ea (fun _=>Gv hw)
    refine EJ (aY ea ?_)
    by_cases h4:na - 1=0
    ·rw [if_pos (by simpa using h4)]
     exact EX ⟨rfl,.inl ⟨_,_,rfl,m2.doneA sa sb h4⟩⟩
    ·rw [if_neg (by simpa using h4)]
     split
     ·exact EX ⟨rfl,.inr ⟨_,_,_,_,_,rfl,m2,by lia,by lia,by lia⟩⟩
     ·exact EX ⟨rfl,_,_,_,_,_,rfl,m2,by lia,by lia,by lia⟩
   ·simp only [hw,decide_false,EG,if_false]
    have m2:Mh a b _ na (nb - 1):=Mh.pushB (nb:=nb - 1) (by rw [show nb - 1+1=nb by lia]; exact m) sa sb eb (fun _=>HR.mp hw)
    refine EJ (aY eb ?_)
    by_cases h4:nb - 1=1
    ·rw [if_pos (by simpa using h4)]
     exact EX ⟨rfl,.inl ⟨_,_,rfl,m2.firstB sa sb h4 first'⟩⟩
    ·rw [if_neg (by simpa using h4)]
     split
     ·exact EX ⟨rfl,.inr ⟨_,_,_,_,_,rfl,m2,by lia,by lia,by lia⟩⟩
     ·exact EX ⟨rfl,_,_,_,_,_,rfl,m2,by lia,by lia,by lia⟩
  case post1 =>
   rintro c st' ⟨rfl,⟨R,r,rfl,f⟩ | ⟨na,nb,out,ac,bc,rfl,m,h1,h2,h3⟩⟩
   ·exact EX ⟨R,g,_,rfl,rfl,f⟩
   dsimp only
   refine EJ (JW (Ik ⟨rfl,?_⟩))
   refine EJ (G0 (FO (I:=fun y c st'=>∃ g na nb out mg ac bc,st'=setG st g/\c=(none,na,nb,out,mg,ac,bc)/\Mh a b out na nb/\1<=na/\2<=nb/\x+2+na+nb<=a.size+b.size)
    (Q:=fun c st'=>(∃ R g r,c=(some R,r)/\st'=setG st g/\Fin a b R)\/∃ g na nb out mg ac bc,st'=setG st g/\c=(none,na,nb,out,mg,ac,bc)/\Mh a b out na nb/\1<=na/\2<=nb/\x+2+na+nb<=a.size+b.size) ?st2 ?fin2 ⟨g,na,nb,out,_,ac,bc,rfl,rfl,m,h1,h2,h3⟩) ?post2)
   case fin2 =>
    rintro c st' ⟨g,na,nb,out,mg,ac,bc,rfl,rfl,m,h1,h2,h3⟩
    exact .inr ⟨g,na,nb,out,mg,ac,bc,rfl,rfl,m,h1,h2,h3⟩
   case post2 =>
    rintro c st' (⟨R,g,r,rfl,rfl,f⟩ | ⟨g,na,nb,out,mg,ac,bc,rfl,rfl,m,h1,h2,h3⟩)
    ·exact EX ⟨R,g,_,rfl,rfl,f⟩
    ·dsimp only
     refine EJ (hZ ?_)
     exact EX ⟨mg+1,na,nb,out,mg+1,rfl,rfl,m,h1,h2,by lia⟩
   case st2 =>
    rintro y c st' _ hy ⟨g,na,nb,out,mg,ac,bc,rfl,rfl,m,h1,hib,h3⟩
    dsimp only
    have hbz:nb<=b.size:=m.hb
    have haz:na<=a.size:=m.ha
    obtain ⟨tb,qb,eb⟩:=IntKeys.at hB (show nb - 1 < b.size by lia)
    generalize eg:mg - 1=g1
    revert g1
    refine uU fun gg=>?_
    refine EJ (hZ ?_)
    show wpS _ _ _ _ _ _ (setG st gg)
    refine EJ (aY eb ?_)
    refine EJ (dU (st:=setG st gg) hk hA (by lia) (by lia) (fun i j h6 h7=>sa _ _ (by lia) (by lia)) fun k kn low high=>?_)
    simp only [GM] at low high
    dsimp only
    have m1:Mh a b (out++(a.extract k na).reverse) k nb:=Mh.takeA sa sb (na - k) m k (by lia) (fun i hi hj _=>by have:=high i hi hj; unfold cm at this; simp at this; lia)
    have leb:∀ z,z<=k->0 < z->K a (z - 1)<=K b (nb - 1):=fun z hz z0=>by have:=low (z - 1) (by lia); unfold cm at this; simp at this; lia
    generalize eak:na - k=ak
    have kk:ak=na - k:=eak.symm
    clear eak
    generalize ei:k=i1
    generalize eo:out++(a.extract i1 na).reverse=o1
    revert o1
    revert i1
    refine ui (fun o i=>Mh a b o i nb/\0 < i/\i<=na/\K a (i - 1)<=K b (nb - 1)) ?_ ?_ ?_ ?_
    ·rintro _ rfl _ rfl _ d
     exact EX (.inl ⟨_,_,_,rfl,rfl,m1.doneA sa sb (by simpa using d)⟩)
    ·rintro _ rfl _ rfl _ d
     simp at d
     exact ⟨m1,by lia,by lia,leb k (EF _) (by lia)⟩
    ·intro c
     exact ⟨m,by lia,EF _,leb na (by lia) (by lia)⟩
    clear m1 leb m low high
    rintro o i ⟨m,i0,i1,leb⟩
    have m2:Mh a b _ i (nb - 1):=Mh.pushB (nb:=nb - 1) (by rw [show nb - 1+1=nb by lia]; exact m) sa sb eb (fun z=>leb)
    have la:i<=a.size:=m2.ha
    obtain ⟨ta,qa,ea2⟩:=IntKeys.at hA (show i - 1 < a.size by lia)
    refine EJ (aY eb ?_)
    by_cases h4:nb - 1=1
    ·rw [if_pos (by simpa using h4)]
     exact EX (.inl ⟨_,_,_,rfl,rfl,m2.firstB sa sb h4 first'⟩)
    rw [if_neg (by simpa using h4)]
    refine EJ (aY ea2 ?_)
    refine EJ (dU (st:=setG st gg) hk hB (by lia) (by lia) (fun i j h6 h7=>sb _ _ (by lia) (by lia)) fun k2 k2n low2 high2=>?_)
    simp only [GM] at low2 high2
    dsimp only
    generalize o.push _=op at m2 |-
    have m2':Mh a b (op++(b.extract k2 (nb - 1)).reverse) i k2:=Mh.takeB sa sb (nb - 1 - k2) m2 k2 (by lia) (fun i hi hj _=>HR.mp (of_decide_eq_false (high2 i hi hj)))
    have le3:∀ z,z<=k2->0 < z->K b (z - 1)<=K a (i - 1):=fun z hz z0=>Gv (of_decide_eq_true (low2 (z - 1) (by lia)))
    generalize ebk:nb - 1 - k2=bk
    have kk2:bk=nb - 1 - k2:=ebk.symm
    clear ebk
    generalize ei2:k2=i2
    generalize eo2:op++(b.extract i2 (nb - 1)).reverse=o2
    revert o2
    revert i2
    refine tK (fun o j=>Mh a b o i j/\1 < j/\j<=nb - 1/\K b (j - 1)<=K a (i - 1)) ?_ ?_ ?_ ?_ ?_
    ·rintro _ rfl _ rfl _ d
     exact EX (.inl ⟨_,_,_,rfl,rfl,m2'.firstB sa sb (by simpa using d) first'⟩)
    ·rintro _ rfl _ rfl _ _ e
     exact EX (.inl ⟨_,_,_,rfl,rfl,m2'.doneB sa sb (by simpa using e)⟩)
    ·rintro _ rfl _ rfl _ d e
     simp at d e
     exact ⟨m2',by lia,by lia,le3 k2 (EF _) (by lia)⟩
    ·intro c
     exact ⟨m2,by lia,EF _,le3 (nb - 1) (by lia) (by lia)⟩
    clear m2' le3 m2 low2 high2
    rintro o' j ⟨m3,hj,hj0,le3⟩
    have m4:Mh a b _ (i - 1) j:=Mh.pushA (na:=i - 1) (by rw [show i - 1+1=i by lia]; exact m3) sa sb ea2 (fun z=>le3)
    refine EJ (aY ea2 ?_)
    by_cases h5:i - 1=0
    ·rw [if_pos (by simpa using h5)]
     exact EX (.inl ⟨_,_,_,rfl,rfl,m4.doneA sa sb h5⟩)
    ·rw [if_neg (by simpa using h5)]
     split
     ·exact EX (.inr ⟨_,_,_,_,_,_,_,rfl,rfl,m4,by lia,by lia,by lia⟩)
     ·exact EX ⟨_,_,_,_,_,_,_,rfl,rfl,m4,by lia,by lia,by lia⟩
end
theorem oQ:∀ (l:List Gg) (n:Nat) (xs:Array Gg) (pos:Nat),pos+n+l.length<=xs.size->((l.zipIdx n).foldl (fun a x=>a.setIfInBounds (pos+x.2) x.1) xs).toList=xs.toList.take (pos+n)++(l++xs.toList.drop (pos+n+l.length))
 | [],n,xs,pos,h=>by simp
 | p::l,n,xs,pos,h=>by
  have hl:(p::l).length=l.length+1:=rfl
  rw [hl] at h |-
  rw [List.zipIdx_cons,KQ]
  have ih:=oQ l (n+1) (xs.setIfInBounds (pos+n) p) pos (by rw [Array.size_setIfInBounds]; lia)
  rw [ih,Array.toList_setIfInBounds]
  have hlen:xs.toList.length=xs.size:=by simp
  rw [show pos+(n+1)=pos+n+1 by lia,List.take_set,List.drop_set_of_lt (by lia)]
  rw [HH (by lia),List.set_append_right _ _ (by rw [E5]; lia)]
  rw [show pos+n - (xs.toList.take (pos+n)).length=0 by rw [E5]; lia]
  show (xs.toList.take (pos+n)++[p])++(l++_)=_
  rw [E9,show pos+n+1+l.length=pos+n+(l.length+1) by lia]
  rfl
theorem hJ {xs:Array Gg} {lo m:Nat} {z:Gg} (h:z∈(xs.toList.drop lo).take m):∃ i,lo<=i/\i < lo+m/\i < xs.size/\key z=K xs i:=by
 obtain ⟨j,hj⟩:=Fy h
 have hjl:=(EC.mp hj).1
 rw [E5,GG] at hjl
 have hlen:xs.toList.length=xs.size:=by simp
 rw [HM (by lia),Im] at hj
 refine ⟨lo+j,by lia,by lia,by lia,?_⟩
 rw [iG (p:=z) (by rw [<- Fu]; exact hj)]
theorem qy {xs:Array Gg} {lo m:Nat} (h:∀ i j,lo<=i->i<=j->j < lo+m->j < xs.size->K xs i<=K xs j):(((xs.toList.drop lo).take m).map key).Pairwise (·<=·):=by
 rw [E1]
 intro p q hp hq hpq
 have hlen:xs.toList.length=xs.size:=by simp
 have hq':=hq
 rw [Do,E5,GG] at hq'
 have e:∀ r (hr:r < (((xs.toList.drop lo).take m).map key).length),(((xs.toList.drop lo).take m).map key)[r]=K xs (lo+r):=by
  intro r hr
  have hr':=hr
  rw [Do,E5,GG] at hr'
  rw [Kx,List.getElem_take,List.getElem_drop]
  have hz:lo+r < xs.size:=by lia
  rw [iG (p:=xs[lo+r]) (EI hz)]
  rfl
 rw [e p hp,e q hq]
 exact h _ _ (by lia) (by lia) (by lia) (by lia)
theorem Ag {xs:Array Gg} (h:(xs.toList.map key).Pairwise (·<=·)):bY xs:=by
 intro i j hij hj
 by_cases e:i=j
 ·subst e; exact FQ _
 ·rw [E1] at h
  have hj':j < (xs.toList.map key).length:=by simpa using hj
  have h3:=h i j (by lia) hj' (by lia)
  rw [Kx,Kx] at h3
  rw [iG (p:=xs[i]'(by lia)) (EI _),iG (p:=xs[j]) (EI _)]
  simpa using h3
theorem jU (xs:Array Gg) (lo hi:Nat):(xs.extract lo hi).toList=(xs.toList.drop lo).take (hi - lo):=by
 rw [GU,II]
theorem xb {xs:Array Gg} {lo hi i:Nat} (h:lo+i < hi) (hz:hi<=xs.size):K (xs.extract lo hi) i=K xs (lo+i):=by
 refine K_congr ?_
 rw [Array.getElem?_extract_of_lt (by lia)]
 exact (EI (by lia)).symm
theorem nC {xs:Array Gg} (h:IntKeys xs) (lo hi:Nat):IntKeys (xs.extract lo hi):=fun p hp=>by
 rw [jU] at hp
 exact h p (List.mem_of_mem_drop (Jz hp))
section
variable {prog:Fm} {w:FH} {A:FE} {E:Ey->Ez->Prop} {s:Ez}
theorem yc {σ:Type} {M:Model} {st st':σ} {Q:PUnit->σ->Prop} (h:Q ⟨⟩ st'):wpS M A E s (set st':StateT σ Sem PUnit) Q st:=by
 unfold wpS; rw [StateT.run_set]; exact EE ⟨rfl,h⟩
theorem ph {st:Gp} {Q:Bool->Gp->Prop} {n1 n2 pw:Nat} (hk:kindOf st=oneType') (hI:IntKeys (arrOf st)) (hf:failedOf st=none) (hp:pendingOf st = #[(0,n1,pw),(n1,n2,0)]) (hz:(arrOf st).size=n1+n2) (h1:1<=n1) (h2:1<=n2)
  (s1:∀ i j,i<=j->j < n1->K (arrOf st) i<=K (arrOf st) j) (s2:∀ i j,n1<=i->i<=j->j < n1+n2->K (arrOf st) i<=K (arrOf st) j)
  (h:∀ st',failedOf st'=none->pendingOf st' = #[(0,n1+n2,pw)]->(arrOf st').Perm (arrOf st)->bY (arrOf st')->Q true st'):wpS (model prog w) A E s (mergeAt' 0) Q st:=by
 have both:∀ c:Nat,c < n1->(∀ i,i < n1->K (arrOf st) i<=K (arrOf st) n1)->bY (arrOf st):=fun c _ hc i j hij hj=>by
  rw [hz] at hj
  by_cases z1:j < n1
  ·exact s1 i j hij z1
  ·by_cases z2:n1<=i
   ·exact s2 i j z2 hij hj
   ·exact GN (hc i (by lia)) (s2 n1 j (EF _) (by lia) hj)
 unfold mergeAt'
 change wpS _ _ _ _ (bind _ _) _ _
 refine EJ (IY ?_)
 dsimp only
 have hp':(sortPriv% PySem.Builtin.SortState.pending) st = #[(0,n1,pw),(n1,n2,0)]:=hp
 rw [hp']
 have ha':∀ z:SortSt,(sortPriv% PySem.Builtin.SortState.a) z=arrOf z:=fun _=>rfl
 simp only [ha']
 have ep:((#[(0,n1,pw),(n1,n2,0)]:Array (Nat × Nat × Nat)).setIfInBounds 0 (0,n1+n2,pw)).eraseIdxIfInBounds (0+1) = #[(0,n1+n2,pw)]:=by simp [Array.eraseIdxIfInBounds]
 show wpS _ _ _ _ (do
  set (setPending st (((#[(0,n1,pw),(n1,n2,0)]:Array (Nat × Nat × Nat)).setIfInBounds 0 (0,n1+n2,pw)).eraseIdxIfInBounds (0+1)))
  _) _ _
 rw [ep]
 refine EJ (yc ?_)
 obtain ⟨tb,qb,eb⟩:=IntKeys.at hI (show n1 < (arrOf st).size by lia)
 refine EJ (aY eb ?_)
 refine EJ (dU (st:=setPending st #[(0,n1+n2,pw)]) hk hI (by lia) (by lia) (fun i j h6 h7=>by rw [GM,GM]; exact s1 _ _ h6 h7) fun k kn low high=>?_)
 simp only [GM] at low high
 dsimp only
 have lowK:∀ i,i < k->K (arrOf st) i<=K (arrOf st) n1:=fun i hi=>by have:=low i hi; unfold cm at this; simp at this; lia
 by_cases xE:n1 - k=0
 ·rw [if_pos (by simpa using xE)]
  exact EX (h _ hf rfl (KR _) (both 0 (by lia) fun i hi=>lowK i (by lia)))
 rw [if_neg (by simpa using xE)]
 have highK:K (arrOf st) n1 < K (arrOf st) k:=by have:=high k (EF _) (by lia); unfold cm at this; simp at this; lia
 obtain ⟨ta,qa,ea⟩:=IntKeys.at hI (show n1 - 1 < (arrOf st).size by lia)
 rw [show 0+k+(n1 - k) - 1=n1 - 1 by lia]
 refine EJ (aY ea ?_)
 refine EJ (dU (st:=setPending st #[(0,n1+n2,pw)]) hk hI (by lia) (by lia) (fun i j h6 h7=>s2 _ _ (by lia) (by lia) (by lia)) fun nb nbn low2 high2=>?_)
 dsimp only
 by_cases hb0:nb=0
 ·rw [if_pos (by simpa using hb0)]
  subst hb0
  have hh:K (arrOf st) (n1 - 1)<=K (arrOf st) n1:=HR.mp (of_decide_eq_false (high2 0 (EF _) (by lia)))
  exact EX (h _ hf rfl (KR _) (both 0 (by lia) fun i hi=>GN (s1 i (n1 - 1) (by lia) (by lia)) hh))
 rw [if_neg (by simpa using hb0)]
 have lowB:∀ j,j < nb->K (arrOf st) (n1+j) < K (arrOf st) (n1 - 1):=fun j hj=>of_decide_eq_true (low2 j hj)
 have hX:=nC hI (0+k) n1
 have hY:=nC hI n1 (n1+nb)
 have zx:((arrOf st).extract (0+k) n1).size=n1 - k:=by rw [Array.size_extract]; lia
 have zy:((arrOf st).extract n1 (n1+nb)).size=nb:=by rw [Array.size_extract]; lia
 have kx:∀ i,i < n1 - k->K ((arrOf st).extract (0+k) n1) i=K (arrOf st) (k+i):=fun i hi=>by rw [xb (by lia) (by lia),GM]
 have ky:∀ j,j < nb->K ((arrOf st).extract n1 (n1+nb)) j=K (arrOf st) (n1+j):=fun j hj=>xb (by lia) (by lia)
 have sx:bY ((arrOf st).extract (0+k) n1):=fun i j hij hj=>by
  rw [zx] at hj
  rw [kx i (by lia),kx j hj]
  exact s1 _ _ (by lia) (by lia)
 have sy:bY ((arrOf st).extract n1 (n1+nb)):=fun i j hij hj=>by
  rw [zy] at hj
  rw [ky i (by lia),ky j hj]
  exact s2 _ _ (by lia) (by lia) (by lia)
 have fst':K ((arrOf st).extract n1 (n1+nb)) 0<=K ((arrOf st).extract (0+k) n1) 0:=by
  rw [ky 0 (by lia),kx 0 (by lia)]
  exact Gv highK
 have top':∀ j,j < ((arrOf st).extract n1 (n1+nb)).size->K ((arrOf st).extract n1 (n1+nb)) j<=K ((arrOf st).extract (0+k) n1) (((arrOf st).extract (0+k) n1).size - 1):=fun j hj=>by
  rw [zy] at hj
  rw [zx,ky j hj,kx _ (by lia),show k+(n1 - k - 1)=n1 - 1 by lia]
  exact Gv (lowB j hj)
 have done:∀ R g,Fin ((arrOf st).extract (0+k) n1) ((arrOf st).extract n1 (n1+nb)) R->Q true (setArr (setG (setPending st #[(0,n1+n2,pw)]) g) (R.toList.zipIdx.foldl (fun a x=>a.setIfInBounds (0+k+x.2) x.1) (arrOf st))):=by
  intro R g f
  have lx:((arrOf st).extract (0+k) n1).toList.length=n1 - k:=by rw [EY]; exact zx
  have lyy:((arrOf st).extract n1 (n1+nb)).toList.length=nb:=by rw [EY]; exact zy
  have lR:R.toList.length=n1 - k+nb:=by rw [f.1.length_eq,EA,lx,lyy]
  have e1:=oQ R.toList 0 (arrOf st) (0+k) (by rw [lR]; lia)
  rw [lR,show 0+k+0=k by lia,show k+(n1 - k+nb)=n1+nb by lia] at e1
  have ex:=jU (arrOf st) (0+k) n1
  have ey:=jU (arrOf st) n1 (n1+nb)
  rw [show n1+nb - n1=nb by lia] at ey
  rw [GM] at ex
  have e2:(arrOf st).toList=(arrOf st).toList.take k++((((arrOf st).toList.drop k).take (n1 - k)++((arrOf st).toList.drop n1).take nb)++(arrOf st).toList.drop (n1+nb)):=by
   rw [E9]
   conv=>lhs; rw [<- G5 k (arrOf st).toList]
   congr 1
   conv=>lhs; rw [<- G5 (n1 - k) ((arrOf st).toList.drop k)]
   rw [List.drop_drop,show k+(n1 - k)=n1 by lia]
   congr 1
   conv=>lhs; rw [<- G5 nb ((arrOf st).toList.drop n1)]
   rw [List.drop_drop]
  have fp:=f.1
  rw [GM,ex,ey] at fp
  refine h _ hf rfl ?_ (Ag ?_)
  ·refine Hr.mpr ?_
   show (R.toList.zipIdx.foldl (fun a x=>a.setIfInBounds (0+k+x.2) x.1) (arrOf st)).toList.Perm _
   rw [e1]
   conv=>rhs; rw [e2]
   exact Ga _ (List.Perm.append_right _ fp)
  ·show ((R.toList.zipIdx.foldl (fun a x=>a.setIfInBounds (0+k+x.2) x.1) (arrOf st)).toList.map key).Pairwise _
   rw [e1,ED,ED,Fx,Fx]
   have pP:(((arrOf st).toList.take k).map key).Pairwise (·<=·):=by
    have:=qy (xs:=arrOf st) (lo:=0) (m:=k) (fun i j _ hij hj _=>s1 i j hij (by lia))
    rw [IE] at this
    exact this
   have hlen:(arrOf st).toList.length=n1+n2:=by simpa using hz
   have eS:(arrOf st).toList.drop (n1+nb)=((arrOf st).toList.drop (n1+nb)).take (n1+n2):=by rw [EL (by rw [GG]; lia)]
   have pS:(((arrOf st).toList.drop (n1+nb)).map key).Pairwise (·<=·):=by
    rw [eS]
    exact qy (fun i j hi hij _ hj=>s2 i j (by lia) hij (by lia))
   have inR:∀ z∈R.toList,(∃ i,k<=i/\i < n1/\key z=K (arrOf st) i)\/∃ j,n1<=j/\j < n1+nb/\key z=K (arrOf st) j:=fun z hz'=>by
    have:=fp.mem_iff.mp hz'
    rw [EN] at this
    rcases this with this | this
    ·obtain ⟨i,a1,a2,_,a4⟩:=hJ this
     exact .inl ⟨i,a1,by lia,a4⟩
    ·obtain ⟨i,a1,a2,_,a4⟩:=hJ this
     exact .inr ⟨i,a1,a2,a4⟩
   have inP:∀ z∈(arrOf st).toList.take k,∃ i,i < k/\key z=K (arrOf st) i:=fun z hz'=>by
    obtain ⟨i,_,a2,_,a4⟩:=hJ (lo:=0) (m:=k) (by rw [IE]; exact hz')
    exact ⟨i,by lia,a4⟩
   have inS:∀ z∈(arrOf st).toList.drop (n1+nb),∃ i,n1+nb<=i/\i < n1+n2/\key z=K (arrOf st) i:=fun z hz'=>by
    rw [eS] at hz'
    obtain ⟨i,a1,_,a3,a4⟩:=hJ hz'
    exact ⟨i,a1,by lia,a4⟩
   have RS:∀ x∈R.toList.map key,∀ y∈((arrOf st).toList.drop (n1+nb)).map key,x<=y:=by
    intro x hx y hy
    obtain ⟨p,hp',rfl⟩:=ER.mp hx
    obtain ⟨q,hq',rfl⟩:=ER.mp hy
    obtain ⟨j,j1,j2,ej⟩:=inS q hq'
    rw [ej]
    have hh:K (arrOf st) (n1 - 1)<=K (arrOf st) (n1+nb):=by
     exact HR.mp (of_decide_eq_false (high2 nb (EF _) (by lia)))
    rcases inR p hp' with ⟨i,i1,i2,ei⟩ | ⟨i,i1,i2,ei⟩
    ·rw [ei]
     exact GN (s1 i (n1 - 1) (by lia) (by lia)) (GN hh (s2 _ _ (by lia) j1 j2))
    ·rw [ei]
     exact s2 _ _ i1 (by lia) j2
   refine ⟨pP,⟨f.2,pS,RS⟩,fun x hx y hy=>?_⟩
   obtain ⟨p,hp',rfl⟩:=ER.mp hx
   obtain ⟨i,i1,ei⟩:=inP p hp'
   rw [ei]
   rw [EN] at hy
   rcases hy with hy | hy
   ·obtain ⟨q,hq',rfl⟩:=ER.mp hy
    rcases inR q hq' with ⟨j,j1,j2,ej⟩ | ⟨j,j1,j2,ej⟩
    ·rw [ej]; exact s1 _ _ (by lia) j2
    ·rw [ej]; exact GN (lowK i i1) (s2 _ _ (EF _) j1 (by lia))
   ·obtain ⟨q,hq',rfl⟩:=ER.mp hy
    obtain ⟨j,j1,j2,ej⟩:=inS q hq'
    rw [ej]
    exact GN (lowK i i1) (s2 _ _ (EF _) (by lia) j2)
 by_cases hle:n1 - k<=nb
 ·rw [if_pos hle]
  refine EJ (oY (st:=setPending st #[(0,n1+n2,pw)]) hk hX hY sx sy (by lia) (by lia) fst' top' fun R g f=>?_)
  refine EJ (Iz ?_)
  refine EJ (IY ?_)
  refine EX ?_
  have ef:(failedOf (setArr (setG (setPending st #[(0,n1+n2,pw)]) g) (R.toList.zipIdx.foldl (fun a x=>a.setIfInBounds (0+k+x.2) x.1) (arrOf st)))).isNone=true:=by
   show (failedOf st).isNone=true
   rw [hf]; rfl
  show Q (failedOf (setArr (setG (setPending st #[(0,n1+n2,pw)]) g) (R.toList.zipIdx.foldl (fun a x=>a.setIfInBounds (0+k+x.2) x.1) (arrOf st)))).isNone _
  rw [ef]
  exact done R g f
 ·rw [if_neg hle]
  refine EJ (pB (st:=setPending st #[(0,n1+n2,pw)]) hk hX hY sx sy (by lia) (by lia) fst' top' fun R g f=>?_)
  refine EJ (Iz ?_)
  refine EJ (IY ?_)
  refine EX ?_
  have ef:(failedOf (setArr (setG (setPending st #[(0,n1+n2,pw)]) g) (R.toList.zipIdx.foldl (fun a x=>a.setIfInBounds (0+k+x.2) x.1) (arrOf st)))).isNone=true:=by
   show (failedOf st).isNone=true
   rw [hf]; rfl
  show Q (failedOf (setArr (setG (setPending st #[(0,n1+n2,pw)]) g) (R.toList.zipIdx.foldl (fun a x=>a.setIfInBounds (0+k+x.2) x.1) (arrOf st)))).isNone _
  rw [ef]
  exact done R g f
end
structure SB (a₀:Array Gg) (P:Array (Nat × Nat × Nat)) (st:Gp):Prop where
 perm:(arrOf st).Perm a₀
 kind:kindOf st=oneType'
 failed:failedOf st=none
 pend:pendingOf st=P
theorem SB.size {a₀:Array Gg} {P:Array (Nat × Nat × Nat)} {st:Gp} (h:SB a₀ P st):(arrOf st).size=a₀.size:=h.perm.size_eq
theorem SB.keys {a₀:Array Gg} {P:Array (Nat × Nat × Nat)} {st:Gp} (h:SB a₀ P st) (h0:IntKeys a₀):IntKeys (arrOf st):=fun p hp=>h0 p ((Hr.mp h.perm).mem_iff.mp hp)
theorem SB.put {a₀:Array Gg} {P:Array (Nat × Nat × Nat)} {st:Gp} (h:SB a₀ P st) {xs:Array Gg} (hp:xs.Perm (arrOf st)):SB a₀ P (setArr st xs):=⟨hp.trans h.perm,h.kind,h.failed,h.pend⟩
def SF (xs:Array Gg) (lo k:Nat):Prop:=∀ i j,lo<=i->i<=j->j < lo+k->K xs i<=K xs j
section
variable {prog:Fm} {w:FH} {A:FE} {E:Ey->Ez->Prop} {s:Ez} {a₀:Array Gg} {P:Array (Nat × Nat × Nat)}
theorem c7 {st:Gp} {i j:Nat} {Q:Option Bool->Gp->Prop} (hB:SB a₀ P st) (h0:IntKeys a₀) (hi:i < a₀.size) (hj:j < a₀.size)
  (h:Q (some (decide (K (arrOf st) i < K (arrOf st) j))) st):wpS (model prog w) A E s (ltAt' i j) Q st:=by
 have hz:=hB.size
 obtain ⟨t,p,e1⟩:=IntKeys.at (hB.keys h0) (show i < (arrOf st).size by lia)
 obtain ⟨u,q,e2⟩:=IntKeys.at (hB.keys h0) (show j < (arrOf st).size by lia)
 exact wpS_ltAt hB.kind e1 e2 h
theorem nK {st:Gp} {lo n ok:Nat} {Q:Bool->Gp->Prop} (h0:IntKeys a₀) (hn:lo+n<=a₀.size) (hok:ok<=n) (hB:SB a₀ P st) (hs:SF (arrOf st) lo ok)
  (h:∀ st',SB a₀ P st'->SF (arrOf st') lo n->(∀ i,i < lo->K (arrOf st') i=K (arrOf st) i)->Q true st'):wpS (model prog w) A E s (binarySort' lo n ok) Q st:=by
 rw [binarySort'_eq]
 refine EJ (G0 (FO (I:=fun k c st'=>c=(none,())/\SB a₀ P st'/\SF (arrOf st') lo (min k n)/\∀ i,i < lo->K (arrOf st') i=K (arrOf st) i)
  (Q:=fun c st'=>c=(none,())/\SB a₀ P st'/\SF (arrOf st') lo n/\∀ i,i < lo->K (arrOf st') i=K (arrOf st) i) ?step ?fin ?init) ?post)
 case post =>
  rintro c st' ⟨rfl,b1,b2,b3⟩
  exact EX (h st' b1 b2 b3)
 case init =>
  refine ⟨rfl,hB,fun i j hi hij hj=>?_,fun _ _=>rfl⟩
  by_cases h1:ok=0
  ·have:i=j:=by lia
   subst this; exact FQ _
  ·exact hs i j hi hij (by lia)
 case fin =>
  rintro c st' ⟨b0,b1,b2,b3⟩
  refine ⟨b0,b1,?_,b3⟩
  rwa [show min (max (max ok 1) n) n=n by lia] at b2
 case step =>
  rintro k c st' hak hkn ⟨rfl,b1,b2,b3⟩
  rw [show min k n=k by lia] at b2
  refine EJ (G0 (FO (I:=fun x c st''=>st''=st'/\∃ l r,c=(none,l,r)/\l<=r/\r<=k/\r - l<=k - x /\
    (∀ i,i < l->K (arrOf st') (lo+i)<=K (arrOf st') (lo+k))/\(∀ i,r<=i->i < k->K (arrOf st') (lo+k) < K (arrOf st') (lo+i)))
   (Q:=fun c st''=>st''=st'/\∃ l r,c=(none,l,r)/\l<=k /\
    (∀ i,i < l->K (arrOf st') (lo+i)<=K (arrOf st') (lo+k))/\(∀ i,l<=i->i < k->K (arrOf st') (lo+k) < K (arrOf st') (lo+i))) ?istep ?ifin ?iinit) ?ipost)
  case iinit=>exact ⟨rfl,0,k,rfl,by lia,by lia,by lia,fun i hi=>by lia,fun i h1 h2=>by lia⟩
  case ifin =>
   rintro c st'' ⟨rfl,l,r,rfl,h1,h2,h3,h4,h5⟩
   have:l=r:=by lia
   subst this
   exact ⟨rfl,l,l,rfl,h2,h4,h5⟩
  case istep =>
   rintro x c st'' _ hxk ⟨rfl,l,r,rfl,h1,h2,h3,h4,h5⟩
   dsimp only
   by_cases hge:l ≥ r
   ·rw [if_pos hge]
    have:l=r:=by lia
    subst this
    exact EX ⟨rfl,l,l,rfl,h2,h4,h5⟩
   ·rw [if_neg hge]
    refine EJ (c7 b1 h0 (by lia) (by lia) ?_)
    by_cases hl:K (arrOf st'') (lo+k) < K (arrOf st'') (lo+(l+r) / 2)
    ·simp only [hl,decide_true,if_true]
     refine EX ⟨rfl,l,(l+r) / 2,rfl,by lia,by lia,by lia,h4,fun i h6 h7=>?_⟩
     exact Int.lt_of_lt_of_le hl (b2 _ _ (by lia) (by lia) (by lia))
    ·simp only [hl,decide_false,EG,if_false]
     refine EX ⟨rfl,(l+r) / 2+1,r,rfl,by lia,by lia,by lia,fun i h6=>?_,h5⟩
     exact GN (b2 (lo+i) (lo+(l+r) / 2) (by lia) (by lia) (by lia)) (HR.mp hl)
  case ipost =>
   rintro c st'' ⟨rfl,l,r,rfl,hlk,h4,h5⟩
   show wpS _ _ _ _ (do moveDown' (lo+k) (lo+l); pure (HN (none,()))) _ _
   rw [moveDown'_eq]
   have hks:lo+k < (arrOf st'').size:=by rw [b1.size]; lia
   have kb:∀ i,K (bubble (arrOf st'') (lo+k) (lo+k - (lo+l))) i=if i=lo+l then K (arrOf st'') (lo+k) else if lo+l < i/\i<=lo+k then K (arrOf st'') (i - 1) else K (arrOf st'') i:=fun i=>by
    rw [K_bubble hks (by lia),show lo+k - (lo+k - (lo+l))=lo+l by lia]
   refine EJ (Iz (EX ⟨rfl,b1.put (bubble_perm _ _ _),?_,fun i hi=>?_⟩))
   ·rw [show min (k+1) n=k+1 by lia]
    intro i j hi hij hj
    show K (bubble (arrOf st'') (lo+k) (lo+k - (lo+l))) i<=K (bubble (arrOf st'') (lo+k) (lo+k - (lo+l))) j
    have h4':∀ i,lo<=i->i < lo+l->K (arrOf st'') i<=K (arrOf st'') (lo+k):=fun i z1 z2=>by
     have:=h4 (i - lo) (by lia)
     rwa [show lo+(i - lo)=i by lia] at this
    have h5':∀ i,lo+l<=i->i < lo+k->K (arrOf st'') (lo+k) < K (arrOf st'') i:=fun i z1 z2=>by
     have:=h5 (i - lo) (by lia) (by lia)
     rwa [show lo+(i - lo)=i by lia] at this
    rw [kb,kb]
    repeat' split
    all_goals first
     | (exfalso; lia)
     | exact FQ _
     | exact h4' _ (by lia) (by lia)
     | exact Gv (h5' _ (by lia) (by lia))
     | exact b2 _ _ (by lia) (by lia) (by lia)
   ·show K (bubble (arrOf st'') (lo+k) (lo+k - (lo+l))) i=_
    rw [kb,if_neg (by lia),if_neg (by lia)]
    exact b3 i hi
end
def ND (xs:Array Gg) (lo k:Nat):Prop:=∀ i j,lo<=i->i<=j->j < lo+k->K xs j<=K xs i
theorem SF.more {xs:Array Gg} {lo k:Nat} (h:SF xs lo k) (hk:1<=k) (e:K xs (lo+k - 1)<=K xs (lo+k)):SF xs lo (k+1):=fun i j hi hij hj=>by
 by_cases z:j < lo+k
 ·exact h i j hi hij z
 ·have:j=lo+k:=by lia
  subst this
  by_cases z2:i=lo+k
  ·subst z2; exact FQ _
  ·exact GN (h i (lo+k - 1) hi (by lia) (by lia)) e
theorem ND.more {xs:Array Gg} {lo k:Nat} (h:ND xs lo k) (hk:1<=k) (e:K xs (lo+k)<=K xs (lo+k - 1)):ND xs lo (k+1):=fun i j hi hij hj=>by
 by_cases z:j < lo+k
 ·exact h i j hi hij z
 ·have:j=lo+k:=by lia
  subst this
  by_cases z2:i=lo+k
  ·subst z2; exact FQ _
  ·exact GN e (h i (lo+k - 1) hi (by lia) (by lia))
section
variable {prog:Fm} {w:FH} {A:FE} {E:Ey->Ez->Prop} {s:Ez} {a₀:Array Gg} {P:Array (Nat × Nat × Nat)}
theorem oq {st:Gp} {lo nrem:Nat} {Q:Option Nat->Gp->Prop} (h0:IntKeys a₀) (hn:lo+nrem<=a₀.size) (h1:1<=nrem) (hB:SB a₀ P st)
  (h:∀ m st',SB a₀ P st'->1<=m->m<=nrem->SF (arrOf st') lo m->(∀ i,i < lo->K (arrOf st') i=K (arrOf st) i)->Q (some m) st'):wpS (model prog w) A E s (countRun' lo nrem) Q st:=by
 have one:SF (arrOf st) lo 1:=fun i j hi hij hj=>by
  have:i=j:=by lia
  subst this; exact FQ _
 rw [countRun'_eq]
 dsimp only
 refine EJ (G0 (FO (I:=fun x c st'=>st=st'/\c=(none,x)/\SF (arrOf st) lo x)
  (Q:=fun c st'=>st=st'/\∃ mm,c=(none,mm)/\1<=mm/\mm<=nrem/\SF (arrOf st) lo mm/\(mm=nrem\/K (arrOf st) (lo+mm) < K (arrOf st) (lo+mm - 1))) ?_ ?_ ⟨rfl,rfl,one⟩) ?_)
 ·rintro x c st9 hax hxn ⟨rfl,rfl,hs⟩
  dsimp only
  refine EJ (c7 hB h0 (by lia) (by lia) ?_)
  by_cases hl:K (arrOf st) (lo+x) < K (arrOf st) (lo+x - 1)
  ·simp only [hl,decide_true,if_true]
   exact EX ⟨rfl,x,rfl,hax,by lia,hs,.inr hl⟩
  ·simp only [hl,decide_false,EG,if_false]
   exact EX ⟨rfl,rfl,SF.more hs (by lia) (HR.mp hl)⟩
 ·rintro c st9 ⟨rfl,rfl,hs⟩
  rw [show max 1 nrem=nrem by lia] at hs |-
  exact ⟨rfl,nrem,rfl,by lia,EF _,hs,.inl rfl⟩
 rintro c st7 ⟨rfl,n,rfl,n1,n2,sn,hor⟩
 dsimp only
 by_cases hnn:n=nrem
 ·rw [if_pos (by simpa using hnn)]
  exact EX (h n _ hB n1 n2 sn fun _ _=>rfl)
 rw [if_neg (by simpa using hnn)]
 have hlt:K (arrOf st) (lo+n) < K (arrOf st) (lo+n - 1):=hor.resolve_left hnn
 by_cases hgt:n > 1
 ·rw [if_pos hgt]
  refine EJ (c7 hB h0 (by lia) (by lia) ?_)
  by_cases hr:K (arrOf st) lo < K (arrOf st) (lo+n - 1)
  ·simp only [hr,decide_true,if_true]
   exact EX (h n _ hB n1 n2 sn fun _ _=>rfl)
  ·simp only [hr,decide_false,EG,if_false]
   have hsz:lo+n<=(arrOf st).size:=by rw [hB.size]; lia
   have hall:∀ k,lo<=k->k < lo+n->K (arrOf st) k=K (arrOf st) (lo+n - 1):=fun k k1 k2=>by
    have a1:=sn lo k (EF _) k1 k2
    have a2:=sn k (lo+n - 1) k1 (by lia) (by lia)
    lia
   have ke:=Jl (i:=lo) hsz hall
   refine EJ (Iq ?_)
   have d1:SB a₀ P (setArr st (mirror (arrOf st) lo (lo+n) ((lo+n - lo) / 2))):=hB.put (HX _ _ _ _)
   have d2:ND (arrOf (setArr st (mirror (arrOf st) lo (lo+n) ((lo+n - lo) / 2)))) lo (n+1):=fun i j hi hij hj=>by
    show K (mirror (arrOf st) _ _ _) j<=K (mirror (arrOf st) _ _ _) i
    rw [ke,ke]
    by_cases hjn:j < lo+n
    ·rw [hall i hi (by lia),hall j (by lia) hjn]; exact FQ _
    ·have:j=lo+n:=by lia
     subst this
     by_cases z2:i=lo+n
     ·subst z2; exact FQ _
     ·rw [hall i hi (by lia)]; exact Gv hlt
   have d3:∀ i,i < lo->K (arrOf (setArr st (mirror (arrOf st) lo (lo+n) ((lo+n - lo) / 2)))) i=K (arrOf st) i:=fun i hi=>ke i
   generalize setArr st (mirror (arrOf st) lo (lo+n) ((lo+n - lo) / 2))=st3 at d1 d2 d3 |-
   refine EJ (JW (Ik ⟨rfl,?_⟩))
   refine EJ (G0 (FO (I:=fun x c st'=>∃ neq,c=(none,x,neq)/\SB a₀ P st'/\ND (arrOf st') lo x/\neq+1<=x/\(∀ i,lo+x - (neq+1)<=i->i < lo+x->K (arrOf st') i=K (arrOf st') (lo+x - 1))/\∀ i,i < lo->K (arrOf st') i=K (arrOf st) i)
    (Q:=fun c st'=>∃ m neq,c=(none,m,neq)/\n+1<=m/\m<=nrem/\SB a₀ P st'/\ND (arrOf st') lo m/\neq+1<=m/\(∀ i,lo+m - (neq+1)<=i->i < lo+m->K (arrOf st') i=K (arrOf st') (lo+m - 1))/\∀ i,i < lo->K (arrOf st') i=K (arrOf st) i) ?_ ?_ ⟨0,rfl,d1,d2,by lia,(fun i h1 h2=>by congr 1; lia),d3⟩) ?_)
   ·rintro x c st8 hax hxn ⟨neq,rfl,c1,c2,c3,c4,c5⟩
    dsimp only
    have hsz:lo+x<=(arrOf st8).size:=by rw [c1.size]; lia
    refine EJ (c7 c1 h0 (by lia) (by lia) ?_)
    by_cases hl:K (arrOf st8) (lo+x) < K (arrOf st8) (lo+x - 1)
    ·simp only [hl,decide_true,if_true]
     by_cases hq:neq > 0
     ·rw [if_pos hq]
      have ke:=Jl (i:=lo+x - (neq+1)) hsz c4
      refine EJ (Iq (EX ⟨0,rfl,c1.put (HX _ _ _ _),?_,by lia,(fun i h1 h2=>by congr 1; lia),fun i hi=>?_⟩))
      ·intro i j hi hij hj
       show K (mirror (arrOf st8) _ _ _) j<=K (mirror (arrOf st8) _ _ _) i
       rw [ke,ke]
       exact ND.more c2 (by lia) (Gv hl) i j hi hij hj
      ·show K (mirror (arrOf st8) _ _ _) i=_
       rw [ke]
       exact c5 i hi
     ·rw [if_neg hq]
      exact EX ⟨0,rfl,c1,ND.more c2 (by lia) (Gv hl),by lia,(fun i h1 h2=>by congr 1; lia),c5⟩
    ·simp only [hl,decide_false,EG,if_false]
     refine EJ (c7 c1 h0 (by lia) (by lia) ?_)
     by_cases hg:K (arrOf st8) (lo+x - 1) < K (arrOf st8) (lo+x)
     ·simp only [hg,decide_true,if_true]
      exact EX ⟨x,neq,rfl,hax,by lia,c1,c2,c3,c4,c5⟩
     ·simp only [hg,decide_false,EG,if_false]
      have he:K (arrOf st8) (lo+x)=K (arrOf st8) (lo+x - 1):=by lia
      refine EX ⟨neq+1,rfl,c1,ND.more c2 (by lia) (Int.le_of_eq he),by lia,(fun i h1 h2=>?_),c5⟩
      rw [show lo+(x+1) - 1=lo+x by lia]
      by_cases hix:i=lo+x
      ·rw [hix]
      ·rw [he]; exact c4 i (by lia) (by lia)
   ·rintro c st8 ⟨neq,rfl,c1,c2,c3,c4,c5⟩
    rw [show max (n+1) nrem=nrem by lia] at c2 c3 c4 |-
    exact ⟨nrem,neq,rfl,by lia,EF _,c1,c2,c3,c4,c5⟩
   rintro c st4 ⟨m,neq,rfl,hm1,hm2,c1,c2,c3,c4,c5⟩
   dsimp only
   by_cases hq:neq > 0
   ·rw [if_pos hq]
    have hsz4:lo+m<=(arrOf st4).size:=by rw [c1.size]; lia
    have ke:=Jl (i:=lo+m - (neq+1)) hsz4 c4
    refine EJ (Iq ?_)
    have d1:SB a₀ P (setArr st4 (mirror (arrOf st4) (lo+m - (neq+1)) (lo+m) ((lo+m - (lo+m - (neq+1))) / 2))):=c1.put (HX _ _ _ _)
    have d2:ND (arrOf (setArr st4 (mirror (arrOf st4) (lo+m - (neq+1)) (lo+m) ((lo+m - (lo+m - (neq+1))) / 2)))) lo m:=fun i j hi hij hj=>by
     show K (mirror (arrOf st4) _ _ _) j<=K (mirror (arrOf st4) _ _ _) i
     rw [ke,ke]
     exact c2 i j hi hij hj
    have d3:∀ i,i < lo->K (arrOf (setArr st4 (mirror (arrOf st4) (lo+m - (neq+1)) (lo+m) ((lo+m - (lo+m - (neq+1))) / 2)))) i=K (arrOf st) i:=fun i hi=>by
     show K (mirror (arrOf st4) _ _ _) i=_
     rw [ke]
     exact c5 i hi
    generalize setArr st4 (mirror (arrOf st4) (lo+m - (neq+1)) (lo+m) ((lo+m - (lo+m - (neq+1))) / 2))=st6 at d1 d2 d3 |-
    have hsz:lo+m<=(arrOf st6).size:=by rw [d1.size]; lia
    refine EJ (Iq ?_)
    have q1:SB a₀ P (setArr st6 (mirror (arrOf st6) lo (lo+m) ((lo+m - lo) / 2))):=d1.put (HX _ _ _ _)
    have q2:SF (arrOf (setArr st6 (mirror (arrOf st6) lo (lo+m) ((lo+m - lo) / 2)))) lo m:=fun i j hi hij hj=>by
     show K (mirror (arrOf st6) lo (lo+m) ((lo+m - lo) / 2)) i<=K (mirror (arrOf st6) lo (lo+m) ((lo+m - lo) / 2)) j
     rw [I0 hsz,I0 hsz,if_pos (by lia),if_pos (by lia)]
     exact d2 _ _ (by lia) (by lia) (by lia)
    have q3:∀ i,i < lo->K (arrOf (setArr st6 (mirror (arrOf st6) lo (lo+m) ((lo+m - lo) / 2)))) i=K (arrOf st) i:=fun i hi=>by
     show K (mirror (arrOf st6) lo (lo+m) ((lo+m - lo) / 2)) i=_
     rw [I0 hsz,if_neg (by lia)]
     exact d3 i hi
    generalize setArr st6 (mirror (arrOf st6) lo (lo+m) ((lo+m - lo) / 2))=st5 at q1 q2 q3 |-
    refine EJ (G0 (FO (I:=fun x c st'=>st5=st'/\c=(none,x)/\SF (arrOf st5) lo x)
     (Q:=fun c st'=>st5=st'/\∃ mm,c=(none,mm)/\m<=mm/\mm<=nrem/\SF (arrOf st5) lo mm/\(mm=nrem\/K (arrOf st5) (lo+mm) < K (arrOf st5) (lo+mm - 1))) ?_ ?_ ⟨rfl,rfl,q2⟩) ?_)
    ·rintro x c st8 hax hxn ⟨rfl,rfl,hs⟩
     dsimp only
     refine EJ (c7 q1 h0 (by lia) (by lia) ?_)
     by_cases hl:K (arrOf st5) (lo+x) < K (arrOf st5) (lo+x - 1)
     ·simp only [hl,decide_true,if_true]
      exact EX ⟨rfl,x,rfl,hax,by lia,hs,.inr hl⟩
     ·simp only [hl,decide_false,EG,if_false]
      exact EX ⟨rfl,rfl,SF.more hs (by lia) (HR.mp hl)⟩
    ·rintro c st9 ⟨rfl,rfl,hs⟩
     rw [show max m nrem=nrem by lia] at hs |-
     exact ⟨rfl,nrem,rfl,by lia,EF _,hs,.inl rfl⟩
    rintro c st9 ⟨rfl,m',rfl,g1,g2,g3,_⟩
    exact EX (h m' _ q1 (by lia) g2 g3 q3)
   ·rw [if_neg hq]
    have hsz:lo+m<=(arrOf st4).size:=by rw [c1.size]; lia
    refine EJ (Iq ?_)
    have q1:SB a₀ P (setArr st4 (mirror (arrOf st4) lo (lo+m) ((lo+m - lo) / 2))):=c1.put (HX _ _ _ _)
    have q2:SF (arrOf (setArr st4 (mirror (arrOf st4) lo (lo+m) ((lo+m - lo) / 2)))) lo m:=fun i j hi hij hj=>by
     show K (mirror (arrOf st4) lo (lo+m) ((lo+m - lo) / 2)) i<=K (mirror (arrOf st4) lo (lo+m) ((lo+m - lo) / 2)) j
     rw [I0 hsz,I0 hsz,if_pos (by lia),if_pos (by lia)]
     exact c2 _ _ (by lia) (by lia) (by lia)
    have q3:∀ i,i < lo->K (arrOf (setArr st4 (mirror (arrOf st4) lo (lo+m) ((lo+m - lo) / 2)))) i=K (arrOf st) i:=fun i hi=>by
     show K (mirror (arrOf st4) lo (lo+m) ((lo+m - lo) / 2)) i=_
     rw [I0 hsz,if_neg (by lia)]
     exact c5 i hi
    generalize setArr st4 (mirror (arrOf st4) lo (lo+m) ((lo+m - lo) / 2))=st5 at q1 q2 q3 |-
    refine EJ (G0 (FO (I:=fun x c st'=>st5=st'/\c=(none,x)/\SF (arrOf st5) lo x)
     (Q:=fun c st'=>st5=st'/\∃ mm,c=(none,mm)/\m<=mm/\mm<=nrem/\SF (arrOf st5) lo mm/\(mm=nrem\/K (arrOf st5) (lo+mm) < K (arrOf st5) (lo+mm - 1))) ?_ ?_ ⟨rfl,rfl,q2⟩) ?_)
    ·rintro x c st8 hax hxn ⟨rfl,rfl,hs⟩
     dsimp only
     refine EJ (c7 q1 h0 (by lia) (by lia) ?_)
     by_cases hl:K (arrOf st5) (lo+x) < K (arrOf st5) (lo+x - 1)
     ·simp only [hl,decide_true,if_true]
      exact EX ⟨rfl,x,rfl,hax,by lia,hs,.inr hl⟩
     ·simp only [hl,decide_false,EG,if_false]
      exact EX ⟨rfl,rfl,SF.more hs (by lia) (HR.mp hl)⟩
    ·rintro c st9 ⟨rfl,rfl,hs⟩
     rw [show max m nrem=nrem by lia] at hs |-
     exact ⟨rfl,nrem,rfl,by lia,EF _,hs,.inl rfl⟩
    rintro c st9 ⟨rfl,m',rfl,g1,g2,g3,_⟩
    exact EX (h m' _ q1 (by lia) g2 g3 q3)
 ·rw [if_neg hgt]
  have e1:n=1:=by lia
  subst e1
  have nd1:ND (arrOf st) lo 1:=fun i j hi hij hj=>by
   have e9:i=j:=by lia
   subst e9
   exact FQ _
  have nd:ND (arrOf st) lo (1+1):=ND.more nd1 (by lia) (Gv hlt)
  refine EJ (JW (Ik ⟨rfl,?_⟩))
  refine EJ (G0 (FO (I:=fun x c st'=>∃ neq,c=(none,x,neq)/\SB a₀ P st'/\ND (arrOf st') lo x/\neq+1<=x/\(∀ i,lo+x - (neq+1)<=i->i < lo+x->K (arrOf st') i=K (arrOf st') (lo+x - 1))/\∀ i,i < lo->K (arrOf st') i=K (arrOf st) i)
   (Q:=fun c st'=>∃ m neq,c=(none,m,neq)/\1+1<=m/\m<=nrem/\SB a₀ P st'/\ND (arrOf st') lo m/\neq+1<=m/\(∀ i,lo+m - (neq+1)<=i->i < lo+m->K (arrOf st') i=K (arrOf st') (lo+m - 1))/\∀ i,i < lo->K (arrOf st') i=K (arrOf st) i) ?_ ?_ ⟨0,rfl,hB,nd,by lia,(fun i h1 h2=>by congr 1; lia),(fun _ _=>rfl)⟩) ?_)
  ·rintro x c st8 hax hxn ⟨neq,rfl,c1,c2,c3,c4,c5⟩
   dsimp only
   have hsz:lo+x<=(arrOf st8).size:=by rw [c1.size]; lia
   refine EJ (c7 c1 h0 (by lia) (by lia) ?_)
   by_cases hl:K (arrOf st8) (lo+x) < K (arrOf st8) (lo+x - 1)
   ·simp only [hl,decide_true,if_true]
    by_cases hq:neq > 0
    ·rw [if_pos hq]
     have ke:=Jl (i:=lo+x - (neq+1)) hsz c4
     refine EJ (Iq (EX ⟨0,rfl,c1.put (HX _ _ _ _),?_,by lia,(fun i h1 h2=>by congr 1; lia),fun i hi=>?_⟩))
     ·intro i j hi hij hj
      show K (mirror (arrOf st8) _ _ _) j<=K (mirror (arrOf st8) _ _ _) i
      rw [ke,ke]
      exact ND.more c2 (by lia) (Gv hl) i j hi hij hj
     ·show K (mirror (arrOf st8) _ _ _) i=_
      rw [ke]
      exact c5 i hi
    ·rw [if_neg hq]
     exact EX ⟨0,rfl,c1,ND.more c2 (by lia) (Gv hl),by lia,(fun i h1 h2=>by congr 1; lia),c5⟩
   ·simp only [hl,decide_false,EG,if_false]
    refine EJ (c7 c1 h0 (by lia) (by lia) ?_)
    by_cases hg:K (arrOf st8) (lo+x - 1) < K (arrOf st8) (lo+x)
    ·simp only [hg,decide_true,if_true]
     exact EX ⟨x,neq,rfl,hax,by lia,c1,c2,c3,c4,c5⟩
    ·simp only [hg,decide_false,EG,if_false]
     have he:K (arrOf st8) (lo+x)=K (arrOf st8) (lo+x - 1):=by lia
     refine EX ⟨neq+1,rfl,c1,ND.more c2 (by lia) (Int.le_of_eq he),by lia,(fun i h1 h2=>?_),c5⟩
     rw [show lo+(x+1) - 1=lo+x by lia]
     by_cases hix:i=lo+x
     ·rw [hix]
     ·rw [he]; exact c4 i (by lia) (by lia)
  ·rintro c st8 ⟨neq,rfl,c1,c2,c3,c4,c5⟩
   rw [show max (1+1) nrem=nrem by lia] at c2 c3 c4 |-
   exact ⟨nrem,neq,rfl,by lia,EF _,c1,c2,c3,c4,c5⟩
  rintro c st4 ⟨m,neq,rfl,hm1,hm2,c1,c2,c3,c4,c5⟩
  dsimp only
  by_cases hq:neq > 0
  ·rw [if_pos hq]
   have hsz4:lo+m<=(arrOf st4).size:=by rw [c1.size]; lia
   have ke:=Jl (i:=lo+m - (neq+1)) hsz4 c4
   refine EJ (Iq ?_)
   have d1:SB a₀ P (setArr st4 (mirror (arrOf st4) (lo+m - (neq+1)) (lo+m) ((lo+m - (lo+m - (neq+1))) / 2))):=c1.put (HX _ _ _ _)
   have d2:ND (arrOf (setArr st4 (mirror (arrOf st4) (lo+m - (neq+1)) (lo+m) ((lo+m - (lo+m - (neq+1))) / 2)))) lo m:=fun i j hi hij hj=>by
    show K (mirror (arrOf st4) _ _ _) j<=K (mirror (arrOf st4) _ _ _) i
    rw [ke,ke]
    exact c2 i j hi hij hj
   have d3:∀ i,i < lo->K (arrOf (setArr st4 (mirror (arrOf st4) (lo+m - (neq+1)) (lo+m) ((lo+m - (lo+m - (neq+1))) / 2)))) i=K (arrOf st) i:=fun i hi=>by
    show K (mirror (arrOf st4) _ _ _) i=_
    rw [ke]
    exact c5 i hi
   generalize setArr st4 (mirror (arrOf st4) (lo+m - (neq+1)) (lo+m) ((lo+m - (lo+m - (neq+1))) / 2))=st6 at d1 d2 d3 |-
   have hsz:lo+m<=(arrOf st6).size:=by rw [d1.size]; lia
   refine EJ (Iq ?_)
   have q1:SB a₀ P (setArr st6 (mirror (arrOf st6) lo (lo+m) ((lo+m - lo) / 2))):=d1.put (HX _ _ _ _)
   have q2:SF (arrOf (setArr st6 (mirror (arrOf st6) lo (lo+m) ((lo+m - lo) / 2)))) lo m:=fun i j hi hij hj=>by
    show K (mirror (arrOf st6) lo (lo+m) ((lo+m - lo) / 2)) i<=K (mirror (arrOf st6) lo (lo+m) ((lo+m - lo) / 2)) j
    rw [I0 hsz,I0 hsz,if_pos (by lia),if_pos (by lia)]
    exact d2 _ _ (by lia) (by lia) (by lia)
   have q3:∀ i,i < lo->K (arrOf (setArr st6 (mirror (arrOf st6) lo (lo+m) ((lo+m - lo) / 2)))) i=K (arrOf st) i:=fun i hi=>by
    show K (mirror (arrOf st6) lo (lo+m) ((lo+m - lo) / 2)) i=_
    rw [I0 hsz,if_neg (by lia)]
    exact d3 i hi
   generalize setArr st6 (mirror (arrOf st6) lo (lo+m) ((lo+m - lo) / 2))=st5 at q1 q2 q3 |-
   refine EJ (G0 (FO (I:=fun x c st'=>st5=st'/\c=(none,x)/\SF (arrOf st5) lo x)
    (Q:=fun c st'=>st5=st'/\∃ mm,c=(none,mm)/\m<=mm/\mm<=nrem/\SF (arrOf st5) lo mm/\(mm=nrem\/K (arrOf st5) (lo+mm) < K (arrOf st5) (lo+mm - 1))) ?_ ?_ ⟨rfl,rfl,q2⟩) ?_)
   ·rintro x c st8 hax hxn ⟨rfl,rfl,hs⟩
    dsimp only
    refine EJ (c7 q1 h0 (by lia) (by lia) ?_)
    by_cases hl:K (arrOf st5) (lo+x) < K (arrOf st5) (lo+x - 1)
    ·simp only [hl,decide_true,if_true]
     exact EX ⟨rfl,x,rfl,hax,by lia,hs,.inr hl⟩
    ·simp only [hl,decide_false,EG,if_false]
     exact EX ⟨rfl,rfl,SF.more hs (by lia) (HR.mp hl)⟩
   ·rintro c st9 ⟨rfl,rfl,hs⟩
    rw [show max m nrem=nrem by lia] at hs |-
    exact ⟨rfl,nrem,rfl,by lia,EF _,hs,.inl rfl⟩
   rintro c st9 ⟨rfl,m',rfl,g1,g2,g3,_⟩
   exact EX (h m' _ q1 (by lia) g2 g3 q3)
  ·rw [if_neg hq]
   have hsz:lo+m<=(arrOf st4).size:=by rw [c1.size]; lia
   refine EJ (Iq ?_)
   have q1:SB a₀ P (setArr st4 (mirror (arrOf st4) lo (lo+m) ((lo+m - lo) / 2))):=c1.put (HX _ _ _ _)
   have q2:SF (arrOf (setArr st4 (mirror (arrOf st4) lo (lo+m) ((lo+m - lo) / 2)))) lo m:=fun i j hi hij hj=>by
    show K (mirror (arrOf st4) lo (lo+m) ((lo+m - lo) / 2)) i<=K (mirror (arrOf st4) lo (lo+m) ((lo+m - lo) / 2)) j
    rw [I0 hsz,I0 hsz,if_pos (by lia),if_pos (by lia)]
    exact c2 _ _ (by lia) (by lia) (by lia)
   have q3:∀ i,i < lo->K (arrOf (setArr st4 (mirror (arrOf st4) lo (lo+m) ((lo+m - lo) / 2)))) i=K (arrOf st) i:=fun i hi=>by
    show K (mirror (arrOf st4) lo (lo+m) ((lo+m - lo) / 2)) i=_
    rw [I0 hsz,if_neg (by lia)]
    exact c5 i hi
   generalize setArr st4 (mirror (arrOf st4) lo (lo+m) ((lo+m - lo) / 2))=st5 at q1 q2 q3 |-
   refine EJ (G0 (FO (I:=fun x c st'=>st5=st'/\c=(none,x)/\SF (arrOf st5) lo x)
    (Q:=fun c st'=>st5=st'/\∃ mm,c=(none,mm)/\m<=mm/\mm<=nrem/\SF (arrOf st5) lo mm/\(mm=nrem\/K (arrOf st5) (lo+mm) < K (arrOf st5) (lo+mm - 1))) ?_ ?_ ⟨rfl,rfl,q2⟩) ?_)
   ·rintro x c st8 hax hxn ⟨rfl,rfl,hs⟩
    dsimp only
    refine EJ (c7 q1 h0 (by lia) (by lia) ?_)
    by_cases hl:K (arrOf st5) (lo+x) < K (arrOf st5) (lo+x - 1)
    ·simp only [hl,decide_true,if_true]
     exact EX ⟨rfl,x,rfl,hax,by lia,hs,.inr hl⟩
    ·simp only [hl,decide_false,EG,if_false]
     exact EX ⟨rfl,rfl,SF.more hs (by lia) (HR.mp hl)⟩
   ·rintro c st9 ⟨rfl,rfl,hs⟩
    rw [show max m nrem=nrem by lia] at hs |-
    exact ⟨rfl,nrem,rfl,by lia,EF _,hs,.inl rfl⟩
   rintro c st9 ⟨rfl,m',rfl,g1,g2,g3,_⟩
   exact EX (h m' _ q1 (by lia) g2 g3 q3)
end
section
variable {prog:Fm} {w:FH} {A:FE} {E:Ey->Ez->Prop} {s:Ez} {a₀:Array Gg}
theorem SB.pending {P P':Array (Nat × Nat × Nat)} {st:Gp} (h:SB a₀ P st):SB a₀ P' (setPending st P'):=⟨h.perm,h.kind,h.failed,rfl⟩
def xH (a₀:Array Gg) (st:Gp):Prop:=(SB a₀ #[(0,a₀.size,0)] st/\SF (arrOf st) 0 a₀.size)\/∃ n1 n2 pw,SB a₀ #[(0,n1,pw),(n1,n2,0)] st/\n1+n2=a₀.size/\1<=n1/\1<=n2/\SF (arrOf st) 0 n1/\SF (arrOf st) n1 n2
theorem wB {st:Gp} {Q:Unit->Gp->Prop} (h0:IntKeys a₀) (hB:SB a₀ #[] st) (h64:64<=a₀.size) (h128:a₀.size < 128)
  (h:∀ st',(arrOf st').Perm a₀->failedOf st'=none->SortedTo (arrOf st') a₀.size->Q () st'):wpS (model prog w) A E s sortRuns' Q st:=by
 rw [sortRuns'_eq]
 refine EJ (IY ?_)
 dsimp only
 have hmr:minRun' a₀.size a₀.size 0=a₀.size / 2+a₀.size % 2:=by
  obtain ⟨f,hf⟩:∃ f,a₀.size=f+1+1:=⟨a₀.size - 2,by lia⟩
  have:minRun' (f+1+1) a₀.size 0=a₀.size / 2+a₀.size % 2:=by
   rw [minRun'_succ,if_neg (by lia),minRun'_succ,if_pos (by lia),Nat.max_eq_right (EU _)]
  rwa [<- hf] at this
 simp only [hB.size,hmr]
 refine EJ (G0 (FO
  (I:=fun x c st'=>(x=0/\c=(none,0)/\SB a₀ #[] st')\/(x=1/\∃ n,c=(none,n)/\a₀.size / 2+a₀.size % 2<=n/\n < a₀.size/\SB a₀ #[(0,n,0)] st'/\SF (arrOf st') 0 n)\/(1<=x/\c=(none,a₀.size)/\xH a₀ st'))
  (Q:=fun c st'=>c=(none,a₀.size)/\xH a₀ st') ?step ?fin (.inl ⟨rfl,rfl,hB⟩)) ?post)
 case fin =>
  rintro c st' (⟨hx,_⟩ | ⟨hx,_⟩ | ⟨_,hc,hD⟩)
  ·lia
  ·lia
  ·exact ⟨hc,hD⟩
 case step =>
  rintro x c st' _ hx (⟨rfl,rfl,b⟩ | ⟨rfl,n,rfl,n1,n2,b,sf⟩ | ⟨hx1,rfl,hD⟩)
  ·dsimp only
   rw [if_neg (by lia)]
   simp only [Nat.sub_zero,GM]
   refine EJ (oq h0 (by lia) (by lia) b fun m st2 b2 m1 m2 sf2 _=>?_)
   dsimp only
   have go:∀ (n:Nat) (st3:Gp),a₀.size / 2+a₀.size % 2<=n->n<=a₀.size->SB a₀ #[] st3->SF (arrOf st3) 0 n ->
     ((1=0/\((none:Option Unit),n)=(none,0)/\SB a₀ #[] (setPending st3 ((pendingOf st3).push (0,n,0))))\/(True/\∃ n',((none:Option Unit),n)=(none,n')/\a₀.size / 2+a₀.size % 2<=n'/\n' < a₀.size/\SB a₀ #[(0,n',0)] (setPending st3 ((pendingOf st3).push (0,n,0)))/\SF (arrOf (setPending st3 ((pendingOf st3).push (0,n,0)))) 0 n')\/(1<=1/\((none:Option Unit),n)=(none,a₀.size)/\xH a₀ (setPending st3 ((pendingOf st3).push (0,n,0))))):=by
    intro n st3 g1 g2 g3 g4
    have ep:(pendingOf st3).push (0,n,0) = #[(0,n,0)]:=by rw [g3.pend]; rfl
    rw [ep]
    by_cases z:n=a₀.size
    ·exact .inr (.inr ⟨EF _,by rw [z],.inl ⟨by rw [<- z]; exact g3.pending,by rw [<- z]; exact g4⟩⟩)
    ·exact .inr (.inl ⟨trivial,n,rfl,g1,by lia,g3.pending,g4⟩)
   by_cases hlt:m < a₀.size / 2+a₀.size % 2
   ·rw [if_pos hlt]
    refine EJ (JW (Ik ⟨rfl,?_⟩))
    refine EJ (nK h0 (by lia) (by lia) b2 sf2 fun st3 b3 sf3 _=>?_)
    simp only [G1,EG,if_false]
    refine EJ (IY ?_)
    have hb:(pendingOf st3).back? = none:=by rw [b3.pend]; rfl
    rw [hb]
    dsimp only
    exact EJ (Iz (EX (go _ st3 (by lia) (by lia) b3 sf3)))
   ·rw [if_neg hlt]
    refine EJ (IY ?_)
    have hb:(pendingOf st2).back? = none:=by rw [b2.pend]; rfl
    rw [hb]
    dsimp only
    exact EJ (Iz (EX (go _ st2 (by lia) m2 b2 sf2)))
  ·dsimp only
   rw [if_neg (by lia)]
   refine EJ (oq h0 (by lia) (by lia) b fun m st2 b2 m1 m2 sf2 pre2=>?_)
   dsimp only
   have keep:∀ st3:Gp,(∀ i,i < n->K (arrOf st3) i=K (arrOf st') i)->SF (arrOf st3) 0 n:=fun st3 hp i j hi hij hj=>by
    rw [hp i (by lia),hp j (by lia)]
    exact sf i j hi hij hj
   by_cases hlt:m < a₀.size / 2+a₀.size % 2
   ·rw [if_pos hlt]
    refine EJ (JW (Ik ⟨rfl,?_⟩))
    rw [show min (a₀.size - n) (a₀.size / 2+a₀.size % 2)=a₀.size - n by lia]
    refine EJ (nK h0 (by lia) (by lia) b2 sf2 fun st3 b3 sf3 pre3=>?_)
    simp only [G1,EG,if_false]
    refine EJ (IY ?_)
    have hb:(pendingOf st3).back? = some (0,n,0):=by rw [b3.pend]; rfl
    rw [hb]
    dsimp only
    refine EJ (G0 (FO (I:=fun _ c st''=>st3=st''/\c=(none,())) (Q:=fun c st''=>st3=st''/\c=(none,())) ?_ (fun _ _ hh=>hh) ⟨rfl,rfl⟩) ?_)
    ·rintro y c st'' _ _ ⟨rfl,rfl⟩
     refine EJ (IY ?_)
     skip
     rw [b3.pend]
     exact EX ⟨rfl,rfl⟩
    ·rintro c st'' ⟨rfl,rfl⟩
     dsimp only
     refine EJ (Iz ?_)
     refine EJ (Iz ?_)
     refine EX (.inr (.inr ⟨by lia,(by congr 1; lia),.inr ⟨n,a₀.size - n,power' a₀.size (2*0+n) (2*0+n+n+(a₀.size - n)) a₀.size,⟨b3.perm,b3.kind,b3.failed,?_⟩,by lia,by lia,by lia,keep st3 (fun i hi=>(pre3 i hi).trans (pre2 i hi)),sf3⟩⟩))
     show ((pendingOf st3).modify ((pendingOf st3).size - 1) _).push (n,_,0)=_
     rw [b3.pend]
     first | rfl | simp [KS] | (apply Lp; simp [KS])
   ·rw [if_neg hlt]
    have em:m=a₀.size - n:=by lia
    subst em
    refine EJ (IY ?_)
    have hb:(pendingOf st2).back? = some (0,n,0):=by rw [b2.pend]; rfl
    rw [hb]
    dsimp only
    refine EJ (G0 (FO (I:=fun _ c st''=>st2=st''/\c=(none,())) (Q:=fun c st''=>st2=st''/\c=(none,())) ?_ (fun _ _ hh=>hh) ⟨rfl,rfl⟩) ?_)
    ·rintro y c st'' _ _ ⟨rfl,rfl⟩
     refine EJ (IY ?_)
     skip
     rw [b2.pend]
     exact EX ⟨rfl,rfl⟩
    ·rintro c st'' ⟨rfl,rfl⟩
     dsimp only
     refine EJ (Iz ?_)
     refine EJ (Iz ?_)
     refine EX (.inr (.inr ⟨by lia,(by congr 1; lia),.inr ⟨n,a₀.size - n,power' a₀.size (2*0+n) (2*0+n+n+(a₀.size - n)) a₀.size,⟨b2.perm,b2.kind,b2.failed,?_⟩,by lia,by lia,by lia,keep st2 pre2,sf2⟩⟩))
     show ((pendingOf st2).modify ((pendingOf st2).size - 1) _).push (n,_,0)=_
     rw [b2.pend]
     first | rfl | simp [KS] | (apply Lp; simp [KS])
  ·dsimp only
   rw [if_pos (EF _)]
   exact EX ⟨rfl,hD⟩
 case post =>
  rintro c st' ⟨rfl,hD⟩
  dsimp only
  refine EJ (G0 (FO (I:=fun y c st''=>c=(none,())/\((y=0/\xH a₀ st'')\/((arrOf st'').Perm a₀/\failedOf st''=none/\(pendingOf st'').size<=1/\SortedTo (arrOf st'') a₀.size)))
   (Q:=fun c st''=>c=(none,())/\(arrOf st'').Perm a₀/\failedOf st''=none/\SortedTo (arrOf st'') a₀.size) ?_ ?_ ⟨rfl,.inl ⟨rfl,hD⟩⟩) ?_)
  ·rintro y c st'' _ _ ⟨rfl,⟨rfl,hD⟩ | ⟨q1,q2,q3,q4⟩⟩
   ·refine EJ (IY ?_)
    skip
    rcases hD with ⟨b,sf⟩ | ⟨n1,n2,pw,b,e,g1,g2,s1,s2⟩
    ·rw [if_pos (by rw [b.pend]; exact EF 1)]
     exact EX ⟨rfl,b.perm,b.failed,fun i j hij hj=>sf i j (EU _) hij (by lia)⟩
    ·rw [if_neg (by rw [b.pend]; simp)]
     rw [b.pend]
     refine EJ (ph b.kind (b.keys h0) b.failed b.pend (by rw [b.size]; lia) g1 g2 (fun i j hij hj=>s1 i j (EU _) hij (by lia)) (fun i j hi hij hj=>s2 i j hi hij hj) fun st5 f5 p5 pm5 so5=>?_)
     refine EX ⟨rfl,.inr ⟨pm5.trans b.perm,f5,by rw [p5]; exact EF 1,fun i j hij hj=>so5 i j hij (by rw [pm5.size_eq,b.size]; exact hj)⟩⟩
   ·refine EJ (IY ?_)
    skip
    rw [if_pos q3]
    exact EX ⟨rfl,q1,q2,q4⟩
  ·rintro c st'' ⟨rfl,⟨hy,_⟩ | ⟨q1,q2,q3,q4⟩⟩
   ·lia
   ·exact ⟨rfl,q1,q2,q4⟩
  ·rintro c st'' ⟨rfl,q1,q2,q4⟩
   exact EX (h _ q1 q2 q4)
end
section
variable {prog:Fm} {w:FH} {A:FE} {E:Ey->Ez->Prop} {s:Ez}
theorem vW {c:EK} {us:List Ey} {ks:List Int} {m:Nat} {P:Lz->Ez->Prop} (hc:s.heap.get? c=some (seqObj "list" us.toArray m)) (hu:Hf us ks) (l1:64<=us.length) (l2:us.length < 128)
  (q:∀ (out:Array Ey) (js:List Int),Hf out.toList js->js.Perm ks->js.Pairwise (·<=·)->P (.done (.ret .none)) { s with heap:=sortedHeap s.heap c us out }):wpAny (model prog w) A (Builtin.«list.sort» ⟨[.ref c],[]⟩) P E s:=by
 have hlt:c < s.heap.objs.size:=EV hc
 have hn:us.toArray.size=us.length:=by simp
 obtain ⟨e,h1⟩:∃ e,(s.heap.update c (Fv fun _=>#[])).get? c=some (seqObj "list" #[] e):=⟨_,get?_update_seq hc _⟩
 have h2:(((s.heap.update c (Fv fun _=>#[])).push (seqObj "tuple" us.toArray 0)).push (seqObj "list" #[] 0)).get? c=some (seqObj "list" #[] e):=EB _ (EB _ h1)
 have hz1:us.length<=sizeLine:=by rw [Gk]; lia
 rw [list_sort_plain]
 refine mo (listItems_at hc rfl (mo (JE hc rfl (mo (Kp h1 rfl (mo (wpAny_newTuple (mo (JF (FI ?_) (EU _))) hz1)))) (by rw [EZ]; exact hz1) (EU _))))
 show wpAny (model prog w) A _ P E { s with heap:=((s.heap.update c (Fv fun _=>#[])).push (seqObj "tuple" us.toArray 0)).push (seqObj "list" #[] 0) }
 have b2:¬ us.toArray.size < 2:=by lia
 dsimp only
 rw [if_neg b2,if_neg b2]
 obtain ⟨u1,u2,ut,rfl⟩:∃ u1 u2 ut,us=u1::u2::ut:=by
  match us,l1 with
  | u1::u2::ut,_=>exact ⟨u1,u2,ut,rfl⟩
 rw [keyKind_ints hu]
 refine mo (EE (mo (G8 (wB (a₀:=pairsOf (u1::u2::ut)) (Q:=fun _ z=>(arrOf z).Perm (pairsOf (u1::u2::ut))/\failedOf z=none/\SortedTo (arrOf z) (pairsOf (u1::u2::ut)).size)
  hu.intKeys ⟨KR _,rfl,rfl,rfl⟩ (by rw [pairsOf_size]; exact l1) (by rw [pairsOf_size]; exact l2) fun z z1 z2 z3=>⟨z1,z2,z3⟩) ?_ fun _ _ x=>x)))
 rintro ⟨⟨⟩,z⟩ s' ⟨rfl,z1,z2,z3⟩
 obtain ⟨js,j1,j2,j3⟩:=sorted_out hu z1 z3
 have hz:((arrOf z).map (·.2)).size<=sizeLine+1:=by
  rw [Array.size_map,z1.size_eq,pairsOf_size,Gk]
  lia
 dsimp only
 refine mo (Kp h2 rfl (mo (JE h2 rfl ?_ (hsz2:=hz))))
 rw [z2]
 simp only [bne_self_eq_false,EG,if_false]
 exact EE (q _ js j1 j2 j3)
theorem sorted_far {c:EK} {us:List Ey} {ks:List Int} {Q:Ey->Ez->Prop} (hc:s.heap.IsList c us.toArray) (hu:Hf us ks) (l1:64<=us.length) (l2:us.length < 128)
  (q:∀ (out:Array Ey) (js:List Int),Hf out.toList js->js.Perm ks->js.Pairwise (·<=·)->Q (.ref (s.heap.objs.size+1)) { s with heap:=sortedAll s.heap us out }):wpAny (model prog w) A (call (.builtin "sorted") [.ref c]) Q E s:=by
 have hn:((s.heap.push (seqObj "list" #[] 0)).update s.heap.objs.size (Fv (·++us.toArray))).objs.size=s.heap.objs.size+1:=(Ii _ _ _).trans (size_push' _ _)
 have hL:=hn▸Fd ((s.heap.push (seqObj "list" #[] 0)).update s.heap.objs.size (Fv (·++us.toArray))) (o:=seqObj "list" us.toArray 0) rfl
 refine IG kind_sorted plain_sorted entry_sorted (args_sorted1 _) ?_
 unfold Builtin.«sorted»
 have hz1:us.length<=sizeLine:=by rw [Gk]; lia
 refine mo (m:=checkCount "sorted" 1 1 _) (EE (mo (collect_list hc (mo (JF ?_ hz1)) hz1)))
 show wpAny _ _ _ _ _ { s with heap:=((s.heap.push (seqObj "list" #[] 0)).update s.heap.objs.size (Fv (·++us.toArray))).push (seqObj "list" us.toArray 0) }
 rw [hn]
 exact mo (FI (GV slot_list_sort ⟨_,hL,rfl⟩ KP (vW hL hu l1 l2 fun out js a1 a2 a3=>⟨_,rfl,EE ⟨_,rfl,q out js a1 a2 a3⟩⟩) (args_list_sort _)))
end
end Lg
namespace L2
open PySem PySem.Spec PyProof.Rows
theorem m7 {X:Cx}:cQ X (.builtin "sorted") (fun xs H Q=>∃ (p:EK) (ns:List Int),xs=[.ref p]/\aj X.K H p (ns.map V.int)/\ns.length < 128/\∀ (q:EK) (ms:List Int),H q=none->ms.Perm ns->ms.Pairwise (·<=·)->Q (.ref q) (upd H q (.lst (ms.map V.int)))):=by
 intro pins s σ H xs us Q I r h
 obtain ⟨p,ns,rfl,hl,h2,q⟩:=h
 by_cases h64:ns.length < 64
 ·exact jv pins s σ H _ us Q I r ⟨p,ns,rfl,hl,h64,q⟩
 obtain ⟨u,rfl,ru⟩:=vals1 r
 cases ru
 obtain ⟨its,r',pl,hz⟩:=I.list hl
 have hi:Hf its ns:=intsAre_of r'
 refine Lg.sorted_far pl.isList hi (by rw [hi.length]; lia) (by rw [hi.length]; exact h2) fun out ms ho hp hs=>?_
 obtain ⟨e,he⟩:=KN s.heap its out
 have lm:(ms.map V.int).length<=sizeLine:=by rw [Do,hp.length_eq]; exact sz (by lia)
 exact ⟨.ref _,_,I.laid (t':=s.toks) (o:=.lst (ms.map V.int)) (fun b u e=>Ko e) (Hz _) ⟨lm,out.toList,e,iw ho,by simpa [seqObj] using he⟩,rfl,q _ ms (I.hok.fresh (Hz _)) hp hs⟩
end L2
namespace L2
open PySem PySem.Spec PyProof.Rows
section
variable {X:Cx} {tg:Hq}
end
section
variable {X:Cx} {a b c d:Hq} {ta tb tc td:TE} {pos:Pos}
noncomputable def DW (r1 r2 r3:R2) (ta tb tc td:TE):TE:=fun σ H Q=>ta σ H fun x H1=>tb σ H1 fun y H2=>r1 x y H2 fun z H3=>∃ k,z = .bl k /\
 (if k=true then tc σ H3 fun w' H4=>r2 y w' H4 fun z' H5=>∃ k',z' = .bl k'/\(if k'=true then td σ H5 fun v' H6=>r3 w' v' H6 Q else Q (.bl false) H5) else Q (.bl false) H3)
theorem yX {o1 o2 o3:CmpOp} {r1 r2 r3:R2} (h1:cJ X (compareOp o1) r1) (h2:cJ X (compareOp o2) r2) (h3:cJ X (compareOp o3) r3) (ha:PE X a ta) (hb:PE X b tb) (hc:PE X c tc) (hd:PE X d td)
  (hm:lastMarks [o1,o2,o3] [b,c,d]=false:=by with_unfolding_all rfl):PT X (.Compare a [o1,o2,o3] [b,c,d] pos) (xD (DW r1 r2 r3 ta tb tc td)):=by
 intro pins s σ H Q I h
 refine isTrue_chain (aG (ha pins s σ H _ I h) fun v s1 ⟨x,H1,I1,x1,q1⟩=>test_link (aG (hb pins s1 σ H1 _ I1 q1) fun u s2 ⟨y,H2,I2,x2,q2⟩ =>
  aG (h1 pins s2 σ H2 x y v u _ I2 x1 x2 q2) fun e s3 ⟨z,H3,I3,x3,k,ek,q3⟩=>?_)) hm
 subst ek
 cases x3
 refine FW ?_
 cases k with
 | false =>
  obtain ⟨k',e',q'⟩:=q3
  cases e'
  exact ite_ff ⟨H3,I3,q'⟩
 | true =>
  refine ite_tt (test_link (aG (hc pins s3 σ H3 _ I3 q3) fun w' s4 ⟨z',H4,I4,x4,q4⟩=>aG (h2 pins s4 σ H4 y z' u w' _ I4 x2 x4 q4) fun d' s5 ⟨z2,H5,I5,x5,k2,e2,q5⟩=>?_))
  subst e2
  cases x5
  refine FW ?_
  cases k2 with
  | false =>
   obtain ⟨k',e',q'⟩:=q5
   cases e'
   exact ite_ff ⟨H5,I5,q'⟩
  | true =>
   refine ite_tt (test_last (aG (hd pins s5 σ H5 _ I5 q5) fun w2 s6 ⟨z3,H6,I6,x6,q6⟩=>aG (h3 pins s6 σ H6 z' z3 w' w2 _ I6 x4 x6 q6) fun d2 s7 ⟨z4,H7,I7,x7,k3,e3,q7⟩=>?_))
   subst e3
   cases x7
   exact FW ⟨H7,I7,q7⟩
end
end L2
namespace Ck
open PySem L2
theorem aW.prs {K:Fi} {H:Hp} {a b:EK} {ps qs:List Pair} (ne:a≠b) (ha:aT H a ps) (hb:aT H b qs):aW K H 2 (.ref a) (.ref b) (decide (ps=qs)):=by
 obtain ⟨xs,ea,lx,px⟩:=ha.len
 obtain ⟨ys,eb,ly,py⟩:=hb.len
 by_cases hl:ps.length=qs.length
 ·have h:=aW.lst (K:=K) (n:=1) (e:=fun j=>decide (ps.getD j (0,0)=qs.getD j (0,0))) ne (aj.of ea) (aj.of eb) (by lia) (fun j x y hx hy=>by
   obtain ⟨p,t,hp,rfl,ht⟩:=px.get hx
   obtain ⟨r,u,hr,rfl,hu⟩:=py.get hy
   rw [AC,AC,hp,hr]
   show aW K H 1 _ _ (decide (p=r))
   by_cases e:t=u
   ·subst e
    have:p=r:=by
     rw [ht] at hu
     injection hu with hu; injection hu with hu
     injection hu with h1 h2; injection h2 with h2 _
     injection h1 with h1; injection h2 with h2
     exact IX h1 h2
    rw [decide_eq_true this]
    exact aW.same
   ·have:=aW.two (K:=K) (n:=0) e ht hu
    have e2:decide (p=r)=(decide (p.1=r.1)&&decide (p.2=r.2)):=by
     rw [Gr,EW,decide_eq_true_iff,decide_eq_true_iff,decide_eq_true_iff]
     exact ⟨fun z=>by rw [z]; exact ⟨rfl,rfl⟩,fun z=>IX z.1 z.2⟩
    rw [e2]
    exact this)
  have e:(EM xs.length).all (fun j=>decide (ps.getD j (0,0)=qs.getD j (0,0)))=decide (ps=qs):=by
   rw [Gr,Fq,decide_eq_true_iff]
   constructor
   ·intro h
    refine IK hl fun k h1 h2=>?_
    have:=of_decide_eq_true (h k (E6.mpr (by lia)))
    rw [AC,AC,Da h1,Da h2] at this
    exact this
   ·intro h k _
    rw [h]
    exact decide_eq_true rfl
  rw [e] at h
  exact h
 ·have:decide (ps=qs)=false:=decide_eq_false fun z=>hl (by rw [z])
  rw [this]
  exact aW.lstN ne (aj.of ea) (aj.of eb) (by lia)
end Ck
namespace Ck
open PySem L2
noncomputable def bx:List Pair->List Int
 | []=>[]
 | p::ps=>p.1::p.2::bx ps
theorem gC:∀ ps:List Pair,(bx ps).length=2*ps.length
 | []=>rfl
 | p::ps=>by
  show (bx ps).length+1+1=2*(ps.length+1)
  have:=gC ps
  lia
theorem gG:∀ ps qs:List Pair,bx (ps++qs)=bx ps++bx qs
 | [],qs=>rfl
 | p::ps,qs=>by
  show p.1::p.2::bx (ps++qs)=_
  rw [gG ps qs]
  rfl
theorem mx {x:Int}:∀ {ps:List Pair},x∈bx ps↔∃ p∈ps,x=p.1\/x=p.2
 | []=>by simp [bx]
 | p::ps=>by
  show x∈p.1::p.2::bx ps↔_
  rw [ET,ET,mx (ps:=ps)]
  constructor
  ·rintro (h | h | ⟨r,hr,h⟩)
   ·exact ⟨p,Fe ..,.inl h⟩
   ·exact ⟨p,Fe ..,.inr h⟩
   ·exact ⟨r,EH _ hr,h⟩
  ·rintro ⟨r,hr,h⟩
   rcases ET.mp hr with rfl | hr
   ·rcases h with h | h
    ·exact .inl h
    ·exact .inr (.inl h)
   ·exact .inr (.inr ⟨r,hr,h⟩)
noncomputable abbrev fO (ps:List Pair) (k:Nat):Int:=(ps.getD k (0,0)).1
noncomputable abbrev ue (ps:List Pair) (k:Nat):Int:=(ps.getD k (0,0)).2
noncomputable def uJ (ps:List Pair) (k:Nat):Bool:=decide (fO ps k < ue ps k)&&(decide (k=0) || decide (fO ps (k - 1) < fO ps k))
noncomputable def gO (p r:Pair):Bool:=decide (p.1 < r.1)&&(decide (r.1 < p.2)&&decide (p.2 < r.2))
noncomputable def cf (ps:List Pair):Bool:=ps.any fun p=>ps.any (gO p)
noncomputable def cI (ps:List Pair):Bool:=(EM ps.length).all (uJ ps)&&(bW (bx ps)&&!cf ps)
theorem kU {ps:List Pair}:(EM ps.length).all (uJ ps)=true↔∀ k,k < ps.length->fO ps k < ue ps k/\(k=0\/fO ps (k - 1) < fO ps k):=by
 rw [Fq]
 constructor
 ·intro h k hk
  have:=h k (E6.mpr hk)
  unfold uJ at this
  simpa using this
 ·intro h k hk
  have:=h k (E6.mp hk)
  unfold uJ
  simpa using this
theorem u9 {ps:List Pair} (h:∀ k,k < ps.length->k=0\/fO ps (k - 1) < fO ps k):∀ (j i:Nat),i < j->j < ps.length->fO ps i < fO ps j
 | 0,i,hi,_=>absurd hi (Hk _)
 | j+1,i,hi,hj=>by
  have h1:=(h (j+1) hj).resolve_left (by lia)
  rw [GS] at h1
  by_cases e:i=j
  ·subst e; exact h1
  ·exact Int.lt_trans (u9 h j i (by lia) (by lia)) h1
theorem uV {ps:List Pair} {k:Nat} (h:k < ps.length):ps.getD k (0,0)∈ps:=by
 rw [AC,Da h]
 exact GH h
theorem u4 {ps:List Pair} {p:Pair} (h:p∈ps):∃ k,k < ps.length/\ps.getD k (0,0)=p:=by
 obtain ⟨k,hk,e⟩:=Hl h
 exact ⟨k,hk,by rw [AC,Da hk]; exact e⟩
theorem me {ps:List Pair} (h:(bx ps).Nodup):ps.Pairwise fun p q=>p.1≠q.1:=by
 induction ps with
 | nil=>exact .nil
 | cons p ps ih =>
  have h':(p.1::p.2::bx ps).Nodup:=h
  rw [Gs,Gs] at h'
  refine .cons (fun q hq e=>h'.1 ?_) (ih h'.2.2)
  rw [e]
  exact EH _ (mx.mpr ⟨q,hq,.inl rfl⟩)
theorem iY (n:Nat):(cG n).Nodup:=(kc n).imp fun h=>Int.ne_of_lt h
theorem iC {ps qs:List Pair} (hp:qs.Perm ps) (hs:qs.Pairwise bD) (hE:bW (bx ps)=true):decide (ps=qs)=true↔∀ k,k < ps.length->k=0\/fO ps (k - 1) < fO ps k:=by
 have nd:(bx ps).Nodup:=((cn _).mp hE).nodup_iff.mpr (iY _)
 have ne:=me nd
 rw [decide_eq_true_iff]
 constructor
 ·intro e k hk
  rw [<- e] at hs
  by_cases h0:k=0
  ·exact .inl h0
  refine .inr ?_
  have h1:=E1.mp hs (k - 1) k (by lia) hk (by lia)
  have h2:=E1.mp ne (k - 1) k (by lia) hk (by lia)
  have e1:ps.getD (k - 1) (0,0)=ps[k - 1]:=by rw [AC,Da (by lia)]; rfl
  have e2:ps.getD k (0,0)=ps[k]:=by rw [AC,Da hk]; rfl
  unfold fO
  rw [e1,e2]
  unfold bD at h1
  lia
 ·intro h
  refine GL (le:=bD) (fun a b _ _ h1 h2=>?_) ?_ hs hp.symm
  ·unfold bD at h1 h2
   exact IX (by lia) (by lia)
  ·refine E1.mpr fun i j hi hj hij=>?_
   have:=u9 h j i hij hj
   unfold fO at this
   rw [AC,AC,Da hi,Da hj] at this
   exact .inl this
theorem B3 {ps:List Pair}:(ps.all fun p=>decide (p.1 < p.2))=true↔∀ k,k < ps.length->fO ps k < ue ps k:=by
 rw [Fq]
 constructor
 ·intro h k hk
  exact of_decide_eq_true (h _ (uV hk))
 ·intro h p hp
  obtain ⟨k,hk,rfl⟩:=u4 hp
  exact decide_eq_true (h k hk)
theorem uO {ps:List Pair} (h:bW (bx ps)=false):cI ps=false:=by unfold cI; rw [h]; simp
theorem rf {ps qs:List Pair} (hp:qs.Perm ps) (hs:qs.Pairwise bD) (hE:bW (bx ps)=true) (h:ps≠qs):cI ps=false:=by
 cases e:cI ps with
 | false=>rfl
 | true =>
  unfold cI at e
  rw [EW] at e
  exact absurd (of_decide_eq_true ((iC hp hs hE).mpr fun k hk=>(kU.mp e.1 k hk).2)) h
theorem o7 {ps qs:List Pair} (hp:qs.Perm ps) (hs:qs.Pairwise bD) (hE:bW (bx ps)=true) (h:ps=qs):cI ps=((ps.all fun p=>decide (p.1 < p.2))&&!cf ps):=by
 have a:=(iC hp hs hE).mp (decide_eq_true h)
 have b:(EM ps.length).all (uJ ps)=ps.all fun p=>decide (p.1 < p.2):=by
  rw [Gr,kU,B3]
  exact ⟨fun h k hk=>(h k hk).1,fun h k hk=>⟨h k hk,a k hk⟩⟩
 unfold cI
 rw [b,hE,GI]
theorem ir {ps:List Pair}:cf ps=true↔∃ p∈ps,∃ r∈ps,p.1 < r.1/\r.1 < p.2/\p.2 < r.2:=by
 unfold cf
 rw [Hs]
 constructor
 ·rintro ⟨p,hp,h⟩
  obtain ⟨r,hr,h⟩:=Hs.mp h
  unfold gO at h
  exact ⟨p,hp,r,hr,by simpa using h⟩
 ·rintro ⟨p,hp,r,hr,h⟩
  exact ⟨p,hp,Hs.mpr ⟨r,hr,by unfold gO; simpa using h⟩⟩
end Ck
namespace L2
open PySem PySem.Spec PyProof.Rows
section
variable {κ:Type} [DecidableEq κ]
end
section
variable {P:Fm} {w:FH} {H:Hp} {h:GP} {a:EK}
end
section
variable {X:Cx} {pins:List (EK × Obj)} {σ:St} {H:Hp} {s:Ez} {a:EK} {y v:V} {u r:Ey} {o:Option V} {A:FE} {E:Ey->Ez->Prop}
end
section
variable {X:Cx} {pins:List (EK × Obj)} {σ:St} {H:Hp} {s:Ez} {a:EK} {kvs:List (Key × V)} {k:Key} {u:Ey} {A:FE} {E:Ey->Ez->Prop}
end
section
variable {X:Cx} {o i e value:Hq} {pos pos' tpos:Pos} {td ty tv:TE}
end
section
variable {X:Cx} {pos:Pos}
end
section
variable {X:Cx} {pins:List (EK × Obj)} {σ:St} {H:Hp} {s:Ez} {a:EK} {y d:V} {u r:Ey} {o:Option V} {A:FE} {E:Ey->Ez->Prop}
end
section
variable {X:Cx} {o e f:Hq} {apos cpos:Pos} {td ty tx:TE}
end
section
variable {X:Cx} {pins:List (EK × Obj)} {σ:St} {H:Hp} {s:Ez} {a:EK} {kvs:List (Key × V)} {A:FE} {E:Ey->Ez->Prop}
end
section
variable {X:Cx} {pins:List (EK × Obj)} {σ:St} {H:Hp} {s:Ez} {a:EK} {y:V} {u:Ey} {A:FE} {E:Ey->Ez->Prop}
end
end L2
namespace L2
open PySem PySem.Spec PyProof.Rows
section
variable {κ:Type} [DecidableEq κ]
end
end L2
namespace Zp
open PySem PyProof.Rows
noncomputable abbrev gJ (h:GP) (z TI TO T:EK) (b:Bool):Prop :=
 h.get? z=some { cls:=.type "zip",dict:=none,data:=.fields #[rawInt T,.bool b,.bool false,.ref TI,.ref TO],slots:=#[] }
section
variable {prog:Fm} {w:FH} {A:FE} {E:Ey->Ez->Prop} {s:Ez}
theorem pF {M:Model} {a:EK} {Q:Option Obj->Ez->Prop} (h:Q (s.heap.get? a) s):wpAny M A (loadIfAlive a) Q E s:=fun _ _ _=>h
theorem mh {z TI TO T:EK} {b:Bool} {oT:Obj} {Q:Bool->Ez->Prop} (hz:gJ s.heap z TI TO T b) (hT:s.heap.get? T=some oT)
  (q:∀ h',gJ h' z TI TO T true->(∀ c o,c≠z->s.heap.get? c=some o->h'.get? c=some o)->h'.objs.size=s.heap.objs.size->Q false { s with heap:=h' }):wpAny (model prog w) A (Builtin.SmallTypes.ownedTupleIsFree (.ref z)) Q E s:=by
 unfold Builtin.SmallTypes.ownedTupleIsFree
 refine mo (HV hz rfl (x:=rawInt T) rfl ?_)
 unfold rawInt
 refine mo (pF ?_)
 rw [show ((T:Nat):Int).toNat=T by lia,hT]
 rw [if_neg (by simp)]
 refine mo (HV hz rfl (x:=.bool b) rfl ?_)
 cases b with
 | true =>
  rw [if_neg (by decide)]
  exact mo (EE (EE (q s.heap hz (fun c o _ e=>e) rfl)))
 | false =>
  rw [if_pos (by decide)]
  exact mo (Ja hz (by simp) fun h1 hz1 hs1=>EE (q h1 hz1 (fun c o n e=>hs1.extBut _ _ n e) hs1.1))
theorem tX {z TI TO T i1 i2 l1 l2:EK} {k1 k2:Nat} {xs ys:Array Ey} {x y:Ey} {b:Bool} {oT:Obj} {Q:Ey->Ez->Prop} (D:JX z TI TO i1 i2 l1 l2)
  (hz:gJ s.heap z TI TO T b) (hT:s.heap.get? T=some oT) (hTI:JL s.heap TI (.ref i1) (.ref i2)) (h1:s.heap.IsListIter i1 l1 k1) (h2:s.heap.IsListIter i2 l2 k2) (eK:s.heap.IsList l1 xs) (eV:s.heap.IsList l2 ys) (hx:xs[k1]? = some x) (hy:ys[k2]? = some y)
  (hQ:∀ h',gJ h' z TI TO T true->h'.IsListIter i1 l1 (k1+1)->h'.IsListIter i2 l2 (k2+1)->JL h' s.heap.objs.size x y->h'.objs.size=s.heap.objs.size+1 ->
   (∀ c o,c≠z->c≠i1->c≠i2->s.heap.get? c=some o->h'.get? c=some o)->Q (.ref s.heap.objs.size) { s with heap:=h' }) :
  wpAny (model prog w) A (Builtin.«zip.__next__» ⟨[.ref z],[]⟩) (fun fin s'=>∃ v,fin = .done (.ret v)/\Q v s') E s:=by
 show wpAny _ _ (field (.ref z) 2 >>= _) _ _ _
 refine mo (HV hz rfl (x:=.bool false) rfl ?_)
 show wpAny _ _ (field (.ref z) 3 >>= _) _ _ _
 refine mo (HV hz rfl (x:=.ref TI) rfl (mo (Ij hTI rfl ?_)))
 show wpAny _ _ (Builtin.SmallTypes.ownedTupleIsFree (.ref z) >>= _) _ _ _
 refine mo (mh hz hT fun ha hza ka sza=>?_)
 rw [if_neg (by decide)]
 simp only [IW,J0,Hy,<- Hy]
 refine mo (mo (mo (FI ?_)))
 show wpAny _ _ (Builtin.SmallTypes.nextOf (.ref i1) >>= _) _ _ _
 refine mo (Jd (h1.at fun o e=>ka _ o D.i1z e) (eK.at fun o e=>ka _ o D.l1z e) hx fun hb h1b hsb=>EE (EE ?_))
 refine mo (mo (FI ?_))
 show wpAny _ _ (Builtin.SmallTypes.nextOf (.ref i2) >>= _) _ _ _
 refine mo (Jd ((h2.at fun o e=>ka _ o D.i2z e).extBut hsb.extBut D.i12.symm) ((eV.at fun o e=>ka _ o D.l2z e).extBut hsb.extBut D.l2i1) hy fun hc h2c hsc=>EE (EE (EE ?_)))
 refine mo (wpAny_newTuple (EE ⟨_,rfl,?_⟩) (by show 2<=sizeLine; rw [Gk]; lia))
 have szc:hc.objs.size=s.heap.objs.size:=by rw [hsc.1,hsb.1,sza]
 have up:∀ c o,hc.get? c=some o->(hc.push { cls:=.type "tuple",data:=.seq #[x,y] }).get? c=some o:=fun c o e=>EB _ e
 have hzc:gJ hc z TI TO T true:=hsc.extBut _ _ D.i2z.symm (hsb.extBut _ _ D.i1z.symm hza)
 have hT8:JL (hc.push { cls:=.type "tuple",data:=.seq #[x,y] }) hc.objs.size x y:=Fd _ rfl
 show Q (.ref hc.objs.size) { s with heap:=hc.push { cls:=.type "tuple",data:=.seq #[x,y] } }
 rw [szc] at hT8 |-
 exact hQ _ (up _ _ hzc) ((h1b.extBut hsc.extBut D.i12).at fun o e=>up _ o e) (h2c.at fun o e=>up _ o e) hT8 (by rw [GC,szc]) fun c o c1 c2 c3 e=>up _ _ (hsc.extBut _ _ c3 (hsb.extBut _ _ c2 (ka _ _ c1 e)))
theorem vM {z TI TO T i1 i2 l1 l2:EK} {k1 k2:Nat} {xs ys:Array Ey} {b:Bool} {oT:Obj} {Q:Lz->Ez->Prop} (hh:A.handled=none) (D:JX z TI TO i1 i2 l1 l2)
  (hz:gJ s.heap z TI TO T b) (hT:s.heap.get? T=some oT) (hTI:JL s.heap TI (.ref i1) (.ref i2)) (h1:s.heap.IsListIter i1 l1 k1) (h2:s.heap.IsListIter i2 l2 k2) (eK:s.heap.IsList l1 xs) (eV:s.heap.IsList l2 ys) (hend:xs[k1]? = none\/ys[k2]? = none)
  (hE:∀ h' e,(∀ c o,c≠z->c≠i1->c≠i2->s.heap.get? c=some o->h'.get? c=some o)->(∃ o,h'.get? e=some o/\o.cls = .type "StopIteration")->E (.ref e) { s with heap:=h' }) :
  wpAny (model prog w) A (Builtin.«zip.__next__» ⟨[.ref z],[]⟩) Q E s:=by
 show wpAny _ _ (field (.ref z) 2 >>= _) _ _ _
 refine mo (HV hz rfl (x:=.bool false) rfl ?_)
 show wpAny _ _ (field (.ref z) 3 >>= _) _ _ _
 refine mo (HV hz rfl (x:=.ref TI) rfl (mo (Ij hTI rfl ?_)))
 show wpAny _ _ (Builtin.SmallTypes.ownedTupleIsFree (.ref z) >>= _) _ _ _
 refine mo (mh hz hT fun ha hza ka sza=>?_)
 rw [if_neg (by decide)]
 simp only [IW,J0,Hy,<- Hy]
 refine mo (mo (mo (FI ?_)))
 show wpAny _ _ (Builtin.SmallTypes.nextOf (.ref i1) >>= _) _ _ _
 cases hx:xs[k1]? with
 | none =>
  exact mo (wpAny_nextOf_list_end hh (h1.at fun o e=>ka _ o D.i1z e) (eK.at fun o e=>ka _ o D.l1z e) hx fun hb e hsb he=>hE hb e (fun c o c1 c2 _ x=>hsb _ _ c2 (ka _ _ c1 x)) he)
 | some x =>
  have hy:ys[k2]? = none:=by rcases hend with h | h; rw [hx] at h; cases h; exact h
  refine mo (Jd (h1.at fun o e=>ka _ o D.i1z e) (eK.at fun o e=>ka _ o D.l1z e) hx fun hb h1b hsb=>EE (EE ?_))
  refine mo (mo (FI ?_))
  show wpAny _ _ (Builtin.SmallTypes.nextOf (.ref i2) >>= _) _ _ _
  exact mo (wpAny_nextOf_list_end hh ((h2.at fun o e=>ka _ o D.i2z e).extBut hsb.extBut D.i12.symm) ((eV.at fun o e=>ka _ o D.l2z e).extBut hsb.extBut D.l2i1) hy fun hc e hsc he=>hE hc e (fun c o c1 c2 c3 x=>hsc _ _ c3 (hsb.extBut _ _ c2 (ka _ _ c1 x))) he)
theorem vb {z TI TO T i1 i2 l1 l2:EK} {k1 k2:Nat} {xs ys:Array Ey} {x y:Ey} {b:Bool} {oT:Obj} {Q:Option Ey->Ez->Prop} (D:JX z TI TO i1 i2 l1 l2)
  (hz:gJ s.heap z TI TO T b) (hT:s.heap.get? T=some oT) (hTI:JL s.heap TI (.ref i1) (.ref i2)) (h1:s.heap.IsListIter i1 l1 k1) (h2:s.heap.IsListIter i2 l2 k2) (eK:s.heap.IsList l1 xs) (eV:s.heap.IsList l2 ys) (hx:xs[k1]? = some x) (hy:ys[k2]? = some y)
  (hQ:∀ h',gJ h' z TI TO T true->h'.IsListIter i1 l1 (k1+1)->h'.IsListIter i2 l2 (k2+1)->JL h' s.heap.objs.size x y->h'.objs.size=s.heap.objs.size+1 ->
   (∀ c o,c≠z->c≠i1->c≠i2->s.heap.get? c=some o->h'.get? c=some o)->Q (some (.ref s.heap.objs.size)) { s with heap:=h' }) :
  wpAny (model prog w) A (pyNext (.ref z)) Q E s:=by
 have hTy:s.TypeIs (.ref z) "zip":=⟨_,hz,rfl⟩
 unfold pyNext
 exact mo (JG (Ib (name:=Fh "__next__") hTy JM (GV JM hTy F.entry_zip_next
  (tX D hz hT hTI h1 h2 eK eV hx hy fun h' a1 a2 a3 a4 a5 a6=>EE (hQ h' a1 a2 a3 a4 a5 a6)) (F.args_zip_next_1 _))))
theorem wu {z TI TO T i1 i2 l1 l2:EK} {k1 k2:Nat} {xs ys:Array Ey} {b:Bool} {oT:Obj} {Q:Option Ey->Ez->Prop} (hh:A.handled=none) (D:JX z TI TO i1 i2 l1 l2)
  (hz:gJ s.heap z TI TO T b) (hT:s.heap.get? T=some oT) (hTI:JL s.heap TI (.ref i1) (.ref i2)) (h1:s.heap.IsListIter i1 l1 k1) (h2:s.heap.IsListIter i2 l2 k2) (eK:s.heap.IsList l1 xs) (eV:s.heap.IsList l2 ys) (hend:xs[k1]? = none\/ys[k2]? = none)
  (hQ:∀ h',(∀ c o,c≠z->c≠i1->c≠i2->s.heap.get? c=some o->h'.get? c=some o)->Q none { s with heap:=h' }):wpAny (model prog w) A (pyNext (.ref z)) Q E s:=by
 have hTy:s.TypeIs (.ref z) "zip":=⟨_,hz,rfl⟩
 unfold pyNext
 refine mo (JG (Ib (name:=Fh "__next__") hTy JM (GV JM hTy F.entry_zip_next (vM hh D hz hT hTI h1 h2 eK eV hend fun h' e hk he=>?_) (F.args_zip_next_1 _))))
 obtain ⟨o,ho,hc⟩:=he
 exact mo (Ky (T:="StopIteration") (b:=true) ⟨o,ho,hc⟩ isSubtype_stop (EE (hQ _ hk)))
end
end Zp
namespace Zp
open PySem PyProof.Rows
def Zs (h:GP) (z TI TO:EK) (ts:List EK):Prop:=(ts=[]/\IsZip h z TI TO .none/\∃ a b,JL h TO a b)\/∃ T b,T∈ts/\gJ h z TI TO T b
structure ZSt (h:GP) (z TI TO i1 i2 l1 l2:EK) (xs ys:Array Ey) (ts:List EK):Prop where
 zs:Zs h z TI TO ts
 ti:JL h TI (.ref i1) (.ref i2)
 it1:h.IsListIter i1 l1 ts.length
 it2:h.IsListIter i2 l2 ts.length
 li1:h.IsList l1 xs
 li2:h.IsList l2 ys
 tup:∀ (j:Nat) (T:EK),ts[j]? = some T->∃ x y,xs[j]? = some x/\ys[j]? = some y/\JL h T x y/\T≠z/\T≠TO/\T≠i1/\T≠i2
 nd:ts.Nodup
 tto:∃ o,h.get? TO=some o
theorem ZSt.keep {h h':GP} {z TI TO i1 i2 l1 l2:EK} {xs ys:Array Ey} {ts:List EK} (Z:ZSt h z TI TO i1 i2 l1 l2 xs ys ts) (k:∀ b o,h.get? b=some o->(b=z\/b=TI\/b=TO\/b=i1\/b=i2\/b=l1\/b=l2\/b∈ts)->h'.get? b=some o):ZSt h' z TI TO i1 i2 l1 l2 xs ys ts:=by
 refine ⟨?_,k _ _ Z.ti (by simp),Z.it1.at fun o e=>k _ o e (by simp),Z.it2.at fun o e=>k _ o e (by simp),Z.li1.at fun o e=>k _ o e (by simp),Z.li2.at fun o e=>k _ o e (by simp),fun j T hj=>?_,Z.nd,let ⟨o,e⟩:=Z.tto; ⟨o,k _ _ e (by simp)⟩⟩
 ·rcases Z.zs with ⟨e,hz,a,b,ho⟩ | ⟨T,b,hT,hz⟩
  ·exact .inl ⟨e,k _ _ hz (by simp),a,b,k _ _ ho (by simp)⟩
  ·exact .inr ⟨T,b,hT,k _ _ hz (by simp)⟩
 ·obtain ⟨x,y,h1,h2,h3,h4⟩:=Z.tup j T hj
  exact ⟨x,y,h1,h2,k _ _ h3 (by simp [ES hj]),h4⟩
section
variable {prog:Fm} {w:FH} {A:FE} {E:Ey->Ez->Prop} {s:Ez}
theorem yq {z TI TO i1 i2 l1 l2:EK} {xs ys:Array Ey} {ts:List EK} {Q:Option Ey->Ez->Prop} (D:JX z TI TO i1 i2 l1 l2) (Z:ZSt s.heap z TI TO i1 i2 l1 l2 xs ys ts) (lt:ts.length < min xs.size ys.size)
  (q:∀ h',ZSt h' z TI TO i1 i2 l1 l2 xs ys (ts++[s.heap.objs.size])->(∀ c o,c≠z->c≠TO->c≠i1->c≠i2->s.heap.get? c=some o->h'.get? c=some o)->Q (some (.ref s.heap.objs.size)) { s with heap:=h' }):wpAny (model prog w) A (pyNext (.ref z)) Q E s:=by
 have lx:ts.length < xs.size:=by lia
 have ly:ts.length < ys.size:=by lia
 have sx:=EI lx
 have sy:=EI ly
 have far:∀ {c o},s.heap.get? c=some o->s.heap.objs.size≠c:=fun e=>IU (EV e)
 have hzl:∃ o,s.heap.get? z=some o:=by
  rcases Z.zs with ⟨_,hz,_⟩ | ⟨T,b,_,hz⟩
  ·exact ⟨_,hz⟩
  ·exact ⟨_,hz⟩
 have fin:∀ h':GP,Zs h' z TI TO (ts++[s.heap.objs.size])->h'.IsListIter i1 l1 (ts.length+1)->h'.IsListIter i2 l2 (ts.length+1)->JL h' s.heap.objs.size xs[ts.length] ys[ts.length]->(∀ c o,c≠z->c≠TO->c≠i1->c≠i2->s.heap.get? c=some o->h'.get? c=some o)->(∃ o,h'.get? TO=some o)->Q (some (.ref s.heap.objs.size)) { s with heap:=h' }:=fun h' a1 a2 a3 a4 a5 aTO=>by
  have nTO:s.heap.objs.size≠TO:=let ⟨_,e⟩:=Z.tto; far e
  refine q h' ⟨a1,a5 _ _ D.TIz D.TITO D.TIi1 D.TIi2 Z.ti,by rw [EA]; exact a2,by rw [EA]; exact a3,Z.li1.at fun o e=>a5 _ o D.l1z D.l1TO D.l1i1 D.l1i2 e,Z.li2.at fun o e=>a5 _ o D.l2z D.l2TO D.l2i1 D.l2i2 e,fun j T hj=>?_,?_,aTO⟩ a5
  ·by_cases e:j < ts.length
   ·rw [GE e] at hj
    obtain ⟨x,y,h1,h2,h3,n1,n2,n3,n4⟩:=Z.tup j T hj
    exact ⟨x,y,h1,h2,a5 _ _ n1 n2 n3 n4 h3,n1,n2,n3,n4⟩
   ·rw [Gc (by lia)] at hj
    have ej:j=ts.length:=by
     have:=(EC.mp hj).1
     simp at this
     lia
    subst ej
    have eT:s.heap.objs.size=T:=by simpa using hj
    subst eT
    obtain ⟨o,ho⟩:=hzl
    exact ⟨_,_,sx,sy,a4,far ho,nTO,(by obtain ⟨_,e,_⟩:=Z.it1; exact far e),(by obtain ⟨_,e,_⟩:=Z.it2; exact far e)⟩
  ·refine Gf.mpr ⟨Z.nd,by simp,fun c hc d hd=>?_⟩
   have ed:d=s.heap.objs.size:=by simpa using hd
   obtain ⟨j,hj⟩:=Fy hc
   obtain ⟨x,y,_,_,h3,_⟩:=Z.tup j c hj
   rw [ed]
   exact (far h3).symm
 rcases Z.zs with ⟨e,hz,a,b,ho⟩ | ⟨T,b,hT,hz⟩
 ·exact wpAny_pyNext_zip_item D hz Z.ti ho Z.it1 Z.it2 Z.li1 Z.li2 sx sy fun h' a1 a2 a3 a4 a5 a6 a7=>fin h' (.inr ⟨_,false,by simp,a1⟩) a3 a4 a5 a7 ⟨_,a2⟩
 ·obtain ⟨j,hj⟩:=Fy hT
  obtain ⟨x,y,_,_,h3,_⟩:=Z.tup j T hj
  obtain ⟨o,eo⟩:=Z.tto
  exact vb D hz h3 Z.ti Z.it1 Z.it2 Z.li1 Z.li2 sx sy fun h' a1 a2 a3 a4 a5 a6=>fin h' (.inr ⟨T,true,by simp [hT],a1⟩) a2 a3 a4 (fun c o c1 _ c3 c4 e=>a6 c o c1 c3 c4 e) ⟨o,a6 _ _ D.TOz D.TOi1 D.TOi2 eo⟩
theorem AI {z TI TO i1 i2 l1 l2:EK} {xs ys:Array Ey} {ts:List EK} {Q:Option Ey->Ez->Prop} (hh:A.handled=none) (D:JX z TI TO i1 i2 l1 l2) (Z:ZSt s.heap z TI TO i1 i2 l1 l2 xs ys ts) (le:min xs.size ys.size<=ts.length)
  (q:∀ h',(∀ c o,c≠z->c≠TO->c≠i1->c≠i2->s.heap.get? c=some o->h'.get? c=some o)->Q none { s with heap:=h' }):wpAny (model prog w) A (pyNext (.ref z)) Q E s:=by
 have hend:xs[ts.length]? = none\/ys[ts.length]? = none:=by
  by_cases h:xs.size<=ts.length
  ·exact .inl (Gn h)
  ·exact .inr (Gn (by lia))
 rcases Z.zs with ⟨e,hz,a,b,ho⟩ | ⟨T,b,hT,hz⟩
 ·exact wpAny_pyNext_zip_end hh D hz Z.ti ho Z.it1 Z.it2 Z.li1 Z.li2 hend q
 ·obtain ⟨j,hj⟩:=Fy hT
  obtain ⟨x,y,_,_,h3,_⟩:=Z.tup j T hj
  exact wu hh D hz h3 Z.ti Z.it1 Z.it2 Z.li1 Z.li2 hend fun h' k=>q h' fun c o c1 _ c3 c4 e=>k c o c1 c3 c4 e
end
section
variable {prog:Fm} {w:FH} {A:FE} {R:Result->Ez->Prop}
theorem yw {z TI TO i1 i2 l1 l2 S:EK} {xs ys:Array Ey} {res:Ey} (hh:A.handled=none) (D:JX z TI TO i1 i2 l1 l2) (hS:S≠z/\S≠TI/\S≠TO/\S≠i1/\S≠i2/\S≠l1/\S≠l2) (hn:min xs.size ys.size<=1000000) :
  ∀ (k:Nat) (s:Ez) (ts:List EK) (acc:Array Ey) (c:Nat),min xs.size ys.size - ts.length=k->ts.length<=min xs.size ys.size->ZSt s.heap z TI TO i1 i2 l1 l2 xs ys ts->S∉ts->s.heap.get? S=some { cls:=.type "list",dict:=none,data:=.seq acc c,slots:=#[] }->acc.toList=ts.map E4 ->
  (∀ (h':GP) (ts':List EK) (acc':Array Ey) (c':Nat),(∀ b o,b≠S->b≠z->b≠TO->b≠i1->b≠i2->s.heap.get? b=some o->h'.get? b=some o)->h'.get? S=some { cls:=.type "list",dict:=none,data:=.seq acc' c',slots:=#[] }->acc'.toList=ts'.map E4->ts'.length=min xs.size ys.size->ts'.Nodup->S∉ts' ->
   (∀ (j:Nat) (T:EK),ts'[j]? = some T->(∃ x y,xs[j]? = some x/\ys[j]? = some y/\JL h' T x y)/\(T∈ts\/s.heap.objs.size<=T))->R (.ok (.ret res)) { s with heap:=h' }) ->
  codeAny (model prog w) A (.builtin "list.extend.loop" ⟨[.ref S,.ref z,res],[]⟩) R s:=by
 intro k
 induction k with
 | zero =>
  intro s ts acc c hk hi Z nS hl ea q
  refine Gd F.entry_extend_loop ?_
  rw [FL Hn _]
  show wpAny _ A.in1 (pyNext (.ref z) >>= _) _ _ s
  refine mo (AI (A:=A.in1) hh D Z (by lia) fun h' kk=>EE (q h' ts acc c (fun b o _ b1 b2 b3 b4 e=>kk b o b1 b2 b3 b4 e) (kk _ _ hS.1 hS.2.2.1 hS.2.2.2.1 hS.2.2.2.2.1 hl) ea (by lia) Z.nd nS fun j T hj=>?_))
  obtain ⟨x,y,h1,h2,h3,n1,n2,n3,n4⟩:=Z.tup j T hj
  exact ⟨⟨x,y,h1,h2,kk _ _ n1 n2 n3 n4 h3⟩,.inl (ES hj)⟩
 | succ k ih =>
  intro s ts acc c hk hi Z nS hl ea q
  have la:acc.size=ts.length:=by rw [<- EY,ea,Do]
  refine Gd F.entry_extend_loop ?_
  rw [FL Hn _]
  show wpAny _ A.in1 (pyNext (.ref z) >>= _) _ _ s
  refine mo (yq (A:=A.in1) D Z (by lia) fun h' Z' kk=>?_)
  have hl':=kk _ _ hS.1 hS.2.2.1 hS.2.2.2.1 hS.2.2.2.2.1 hl
  have nS':S≠s.heap.objs.size:=Fn (EV hl)
  have nST:S∉ts++[s.heap.objs.size]:=by simp [nS,nS']
  show wpAny _ A.in1 (updateSeq S (·.push (.ref s.heap.objs.size)) >>= _) _ _ _
  have oth:∀ b o,b≠S->h'.get? b=some o->(h'.update S (Fv (·.push (.ref s.heap.objs.size)))).get? b=some o:=fun b o n e=>(E7 _ _ (G4 n)).trans e
  have Z2:ZSt (h'.update S (Fv (·.push (.ref s.heap.objs.size)))) z TI TO i1 i2 l1 l2 xs ys (ts++[s.heap.objs.size]):=Z'.keep fun b o e hb=>oth b o (fun z=>by
   subst z
   rcases hb with h | h | h | h | h | h | h | h
   ·exact hS.1 h
   ·exact hS.2.1 h
   ·exact hS.2.2.1 h
   ·exact hS.2.2.2.1 h
   ·exact hS.2.2.2.2.1 h
   ·exact hS.2.2.2.2.2.1 h
   ·exact hS.2.2.2.2.2.2 h
   ·exact nST h) e
  refine mo (GR hl' rfl (EE ⟨Gz Hn _,ih { s with heap:=h'.update S (Fv (·.push (.ref s.heap.objs.size))) } (ts++[s.heap.objs.size]) (acc.push (.ref s.heap.objs.size)) _ (by rw [EA]; show _ - (ts.length+1)=k; lia) (by rw [EA]; show ts.length+1<=_; lia) Z2 nST (Fz _ hl' rfl) (by rw [Ft,ea,ED]; rfl) fun h2 ts' acc' c' kk2 eV ea2 lt2 nd2 nS2 tu=>?_⟩)
   (by rw [la,Gk]; lia) (by show (acc.push (.ref s.heap.objs.size)).size<=sizeLine+1; rw [Array.size_push,la,Gk]; lia))
  refine q h2 ts' acc' c' (fun b o b0 b1 b2 b3 b4 e=>kk2 b o b0 b1 b2 b3 b4 (oth b o b0 (kk b o b1 b2 b3 b4 e))) eV ea2 lt2 nd2 nS2 fun j T hj=>?_
  obtain ⟨g1,g2⟩:=tu j T hj
  refine ⟨g1,?_⟩
  rcases g2 with g | g
  ·rcases EN.mp g with g | g
   ·exact .inl g
   ·exact .inr (by rw [show T=s.heap.objs.size by simpa using g]; exact EF _)
  ·have hsz:s.heap.objs.size<=(h'.update S (Fv (·.push (.ref s.heap.objs.size)))).objs.size:=by
    rw [Ii]
    obtain ⟨x,y,_,_,h3,_⟩:=Z'.tup ts.length s.heap.objs.size (by simp)
    exact Jm (EV h3)
   exact .inr (FN hsz g)
end
end Zp
namespace Zp
open PySem PyProof.Rows
theorem xN:typeLookup (.type "zip") "__len__" = pure none:=by rw [JN,Ir]; kernel_rfl
theorem wH:typeLookup (.type "zip") "__length_hint__" = pure none:=by rw [JN,Ir]; kernel_rfl
section
variable {prog:Fm} {w:FH} {A:FE} {E:Ey->Ez->Prop} {s:Ez}
theorem wb {z:EK} {Q:Bool->Ez->Prop} (hT:s.TypeIs (.ref z) "zip") (q:Q true s):wpAny (model prog w) A (Builtin.List.listLengthHint (.ref z)) Q E s:=by
 unfold Builtin.List.listLengthHint
 refine mo (JO hT xN ?_)
 dsimp only
 exact mo (JO hT wH (EE q))
theorem ZSt.zip {h:GP} {z TI TO i1 i2 l1 l2:EK} {xs ys:Array Ey} (Z:ZSt h z TI TO i1 i2 l1 l2 xs ys []):IsZip h z TI TO .none:=by
 rcases Z.zs with ⟨_,hz,_⟩ | ⟨T,b,hT,_⟩
 ·exact hz
 ·cases hT
theorem sW {R:Result->Ez->Prop} {z TI TO i1 i2 l1 l2 S:EK} {xs ys:Array Ey} {res:Ey} {c:Nat} (hh:A.handled=none) (D:JX z TI TO i1 i2 l1 l2) (hS:S≠z/\S≠TI/\S≠TO/\S≠i1/\S≠i2/\S≠l1/\S≠l2) (hn:min xs.size ys.size<=1000000)
  (Z:ZSt s.heap z TI TO i1 i2 l1 l2 xs ys []) (hl:s.heap.get? S=some { cls:=.type "list",dict:=none,data:=.seq #[] c,slots:=#[] })
  (q:∀ (h':GP) (ts:List EK) (acc:Array Ey) (c':Nat),(∀ b o,b≠S->b≠z->b≠TO->b≠i1->b≠i2->s.heap.get? b=some o->h'.get? b=some o)->h'.get? S=some { cls:=.type "list",dict:=none,data:=.seq acc c',slots:=#[] }->acc.toList=ts.map E4->ts.length=min xs.size ys.size->ts.Nodup->S∉ts ->
   (∀ (j:Nat) (T:EK),ts[j]? = some T->(∃ x y,xs[j]? = some x/\ys[j]? = some y/\JL h' T x y)/\s.heap.objs.size<=T)->R (.ok (.ret res)) { s with heap:=h' }) :
  wpAny (model prog w) A.in1 (Builtin.List.listExtendWith (.ref S) (.ref z) res) (fun fin s'=>match fin with | .done f=>R (.ok f) s' | .again c'=>c'.quiet=true/\codeAny (model prog w) A c' R s') (fun e s'=>R (.error e) s') s:=by
 have hz:=Z.zip
 have n1:Builtin.List.listSameRef (.ref S) (.ref z)=false:=by simp [Builtin.List.listSameRef,hS.1]
 have n2:(HK "zip" == HK "list")=false:=by decide
 have n3:(HK "zip" == HK "tuple")=false:=by decide
 unfold Builtin.List.listExtendWith
 refine mo (KU (T:="zip") ⟨_,hz,rfl⟩ ?_)
 simp only [n1,n2,n3,Lh,EG,if_false]
 refine mo (wpAny_pyIter_zip hz (mo (FI (wb ⟨_,hz,rfl⟩ ?_))))
 simp only [Bool.true_or,if_true]
 refine mo (Ik (mo ?_))
 show wpAny _ _ (updateSeq S (·.push .none) >>= fun _=>updateSeq S (·.pop)) _ _ _
 have eV:=Fz (Fv (·.push FV)) hl rfl
 have fG:=Fz (Fv (·.pop)) eV rfl
 have oth:∀ b o,b≠S->s.heap.get? b=some o->((s.heap.update S (Fv (·.push FV))).update S (Fv (·.pop))).get? b=some o:=fun b o n e=>(E7 _ _ (G4 n)).trans ((E7 _ _ (G4 n)).trans e)
 refine mo (GR hl rfl (GR eV rfl (EE ⟨Gz Hn _,?_⟩) (by show 1<=sizeLine; rw [Gk]; lia) (by show 0<=_; exact EU _)) (EU _) (by show 1<=_; rw [Gk]; lia))
 refine yw (xs:=xs) (ys:=ys) hh D hS hn _ _ [] #[] _ rfl (EU _) (Z.keep fun b o e hb=>oth b o (fun x=>by
   subst x
   rcases hb with h | h | h | h | h | h | h | h
   ·exact hS.1 h
   ·exact hS.2.1 h
   ·exact hS.2.2.1 h
   ·exact hS.2.2.2.1 h
   ·exact hS.2.2.2.2.1 h
   ·exact hS.2.2.2.2.2.1 h
   ·exact hS.2.2.2.2.2.2 h
   ·cases h) e) (by simp) fG rfl fun h' ts acc c' k e1 e2 e3 e4 e5 e6=>q h' ts acc c' (fun b o b0 b1 b2 b3 b4 e=>k b o b0 b1 b2 b3 b4 (oth b o b0 e)) e1 e2 e3 e4 e5 fun j T hj=>?_
 obtain ⟨g1,g2⟩:=e6 j T hj
 refine ⟨g1,?_⟩
 rcases g2 with g | g
 ·cases g
 ·rw [Ii,Ii] at g
  exact g
theorem list_zip {Q:Ey->Ez->Prop} {z TI TO i1 i2 l1 l2:EK} {xs ys:Array Ey} (hh:A.handled=none) (D:JX z TI TO i1 i2 l1 l2) (hn:min xs.size ys.size<=1000000) (Z:ZSt s.heap z TI TO i1 i2 l1 l2 xs ys [])
  (q:∀ (h':GP) (ts:List EK) (acc:Array Ey) (c':Nat),(∀ b o,b≠z->b≠TO->b≠i1->b≠i2->s.heap.get? b=some o->h'.get? b=some o)->h'.get? s.heap.objs.size=some { cls:=.type "list",dict:=none,data:=.seq acc c',slots:=#[] }->acc.toList=ts.map E4->ts.length=min xs.size ys.size->ts.Nodup ->
   (∀ (j:Nat) (T:EK),ts[j]? = some T->(∃ x y,xs[j]? = some x/\ys[j]? = some y/\JL h' T x y)/\s.heap.objs.size < T)->Q (.ref s.heap.objs.size) { s with heap:=h' }) :
  wpAny (model prog w) A (call (.type "list") [.ref z]) Q E s:=by
 have hz:=Z.zip
 have far:∀ {c o},s.heap.get? c=some o->s.heap.objs.size≠c:=fun e=>IU (EV e)
 have hS:s.heap.objs.size≠z/\s.heap.objs.size≠TI/\s.heap.objs.size≠TO/\s.heap.objs.size≠i1/\s.heap.objs.size≠i2/\s.heap.objs.size≠l1/\s.heap.objs.size≠l2 :=
  ⟨far hz,far Z.ti,(let ⟨_,e⟩:=Z.tto; far e),(let ⟨_,e,_⟩:=Z.it1; far e),(let ⟨_,e,_⟩:=Z.it2; far e),(let ⟨_,e,_⟩:=Z.li1; far e),(let ⟨_,e,_⟩:=Z.li2; far e)⟩
 refine callType_codes (Q₁:=fun T s1=>T = .ref s.heap.objs.size/\s1={ s with heap:=s.heap.push { cls:=.type "list",data:=.seq #[] } }) F.called_list (F.typeCall_list_1 _) F.entry_list_init (code_list_new _ ⟨rfl,rfl⟩) fun T s1 e1=>?_
 obtain ⟨rfl,rfl⟩:=e1
 have g0:(s.heap.push { cls:=.type "list",data:=.seq #[] }).get? s.heap.objs.size=some { cls:=.type "list",data:=.seq #[] }:=Fd _ rfl
 have g1:=Fz (Fv (fun _=>(#[]:Array Ey))) g0 rfl
 have oth:∀ b o,s.heap.get? b=some o->((s.heap.push { cls:=.type "list",data:=.seq #[] }).update s.heap.objs.size (Fv (fun _=>(#[]:Array Ey)))).get? b=some o:=fun b o e=>(E7 _ _ (far e)).trans (EB _ e)
 refine ⟨⟨_,g0,rfl⟩,F.args_list_init_2 _ _,?_⟩
 show wpAny _ _ (do let was <- Builtin.List.listItems (.ref s.heap.objs.size); Builtin.List.listUpdate (.ref s.heap.objs.size) (fun _=>#[]); letGo was.toList.reverse; Builtin.List.listExtendWith (.ref s.heap.objs.size) (.ref z) .none) _ _ _
 refine mo ?_
 unfold Builtin.List.listItems
 refine mo (Ij g0 rfl (EE ?_))
 show wpAny _ _ (updateSeq s.heap.objs.size (fun _=>#[]) >>= fun _=>letGo (#[]:Array Ey).toList.reverse >>= fun _=>Builtin.List.listExtendWith (.ref s.heap.objs.size) (.ref z) .none) _ _ _
 refine mo (GR g0 rfl (mo (Kq ?_)) (EU _) (EU _))
 refine sW (s:={ s with heap:=(s.heap.push { cls:=.type "list",data:=.seq #[] }).update s.heap.objs.size (Fv (fun _=>(#[]:Array Ey))) }) (A:=A.in1) hh D hS hn (Z.keep fun b o e _=>oth b o e) g1 fun h' ts acc c' k e1 e2 e3 e4 e5 e6=>⟨rfl,q h' ts acc c' (fun b o b1 b2 b3 b4 e=>k b o (G4 (far e)) b1 b2 b3 b4 (oth b o e)) e1 e2 e3 e4 fun j T hj=>?_⟩
 obtain ⟨x1,x2⟩:=e6 j T hj
 rw [Ii,GC] at x2
 exact ⟨x1,x2⟩
end
end Zp
namespace Ck
open PySem L2
theorem mD {α β:Type} {R:α->β->Prop}:∀ {as:List α} {bs:List β},as.length=bs.length->(∀ (j:Nat) a b,as[j]? = some a->bs[j]? = some b->R a b)->IB R as bs
 | [],[],_,_=>.nil
 | a::as,b::bs,hl,h=>.cons (h 0 a b rfl rfl) (mD (by simpa using hl) fun j x y e1 e2=>h (j+1) x y (by simpa using e1) (by simpa using e2))
end Ck
namespace L2
open PySem PySem.Spec PyProof.Rows Ck
section
variable {X:Cx}
theorem pE {pins:List (EK × Obj)} {σ:St} {s:Ez} {ts:List EK} {ps:List Pair} (r:IB (fun (T:EK) (p:Pair)=>∃ t u,JL s.heap T (.int p.1 t) (.int p.2 u)) ts ps) :
  ∀ (H:Hp),Inv X pins σ H s->(∀ T∈ts,jV X pins H T)->ts.Nodup->∃ H',Inv X pins σ H' s/\ae H H'/\bu H' (ts.map V.ref) ps/\∀ b,b∉ts->H' b=H b:=by
 induction r with
 | nil=>exact fun H I _ _=>⟨H,I,ae.refl H,.nil,fun _ _=>rfl⟩
 | @cons T p ts ps h r ih =>
  intro H I o nd
  obtain ⟨t,u,h⟩:=h
  have oT:=o T (Fe ..)
  rw [Gs] at nd
  have ok:bR X.prog X.w (upd H T (.tup [.int p.1,.int p.2])) s.heap T (.tup [.int p.1,.int p.2]):=⟨sz (n:=2) (by decide),[.int p.1 t,.int p.2 u],.cons ⟨_,rfl⟩ (.cons ⟨_,rfl⟩ .nil),_,h,rfl,_,rfl⟩
  have I1:=I.trackO oT ok
  obtain ⟨H',I',s',pr,k⟩:=ih _ I1 (fun U hU=>by
   have ne:U≠T:=fun z=>nd.1 (z▸hU)
   have oU:=o U (EH _ hU)
   exact ⟨oU.new,(upd_ne ne).trans oU.free,oU.loc,oU.cell,oU.pin⟩) nd.2
  refine ⟨H',I',(ae.new (ae.refl H) oT.free _).trans s',.cons ⟨T,rfl,s' _ _ upd_same⟩ pr,fun b hb=>?_⟩
  rw [k b (fun z=>hb (EH _ z))]
  exact upd_ne fun z=>hb (by rw [z]; exact Fe ..)
noncomputable def Er (K:Fi) (ta:TA):TE:=fun σ H Q=>ta σ H fun vs H1=>∃ (p q:EK) (ns ms:List Int),vs=[.ref p,.ref q]/\aj K H1 p (ns.map V.int)/\aj K H1 q (ms.map V.int)/\ns.length<=1000000/\∀ (l:EK) (H2:Hp),ae H1 H2->H1 l=none->aT H2 l (ns.zip ms)->Q (.ref l) H2
theorem yt {K:Fi} {a b:Hq} {ta:TA} {p p2 pos pos2:Pos} (hK:X.K=K) (hc:X.calm=true) (hgl:Gl X "list") (hml:X.mg "list" = none) (hg:Gl X "zip") (hm:X.mg "zip" = none) (ha:PA X [a,b] ta) (hs:starEach [a,b] X.env=[(false,eval a X.env),(false,eval b X.env)]:=by rfl) (hs2:starEach [b] X.env=[(false,eval b X.env)]:=by rfl)
  (he:starEach [.Call (.Name "zip" p) [a,b] [] pos] X.env=[(false,eval (.Call (.Name "zip" p) [a,b] [] pos) X.env)]:=by rfl) :
  PE X (.Call (.Name "list" p2) [.Call (.Name "zip" p) [a,b] [] pos] [] pos2) (Er K ta):=by
 subst hK
 intro pins s σ H Q I h
 refine GB (dM I hgl hml dD ?_ (by decide) (by decide))
 refine FX ?_ he rfl
 rw [he]
 show wpAny _ _ (spliced ((false,eval (.Call (.Name "zip" p) [a,b] [] pos) X.env)::backTo pos2 [])) _ _ s
 refine IV (Call_ (dM I hg hm boot_zip (FX (aG (ha pos pins s σ H _ I h) fun us s1 ⟨vs,H1,I1,r1,q1⟩=>?_) (by rw [hs,hs2]) (by rw [hs2]; rfl))))
 obtain ⟨p1,p2,ns,ms,e,l1,l2,z1,q⟩:=q1
 subst e
 obtain ⟨u1,u2,rfl,ru1,ru2⟩:=vals2 r1
 cases ru1
 cases ru2
 obtain ⟨its,rv,pl,hz⟩:=I1.list l1
 obtain ⟨jts,rw_,pm,hz2⟩:=I1.list l2
 have hi:=intsAre_of rv
 have hj:=intsAre_of rw_
 have li:=hi.length
 have lj:=hj.length
 have lt1:p1 < s1.heap.objs.size:=by obtain ⟨_,e,_⟩:=pl.isList; exact EV e
 have lt2:p2 < s1.heap.objs.size:=by obtain ⟨_,e,_⟩:=pm.isList; exact EV e
 refine call_zip_2 pl.isList pm.isList fun h2 hzz hTI hTO hi1 hi2 hsz hk=>Jg ?_
 have D:=zipApart_new lt1 lt2
 have I2:Inv X pins σ H1 { s1 with heap:=h2 }:=I1.kept (t':=s1.toks) hk
 have Z:Zp.ZSt h2 (s1.heap.objs.size+4) (s1.heap.objs.size+2) (s1.heap.objs.size+3) s1.heap.objs.size (s1.heap.objs.size+1) p1 p2 its.toArray jts.toArray [] :=
  ⟨.inl ⟨rfl,hzz,_,_,hTO⟩,hTI,hi1,hi2,pl.isList.at fun o e=>hk _ o e,pm.isList.at fun o e=>hk _ o e,fun j T hj=>by simp at hj,IH,⟨_,hTO⟩⟩
 refine Zp.list_zip (s:={ s1 with heap:=h2 }) (I.ok.hd hc) D (by simp; lia) Z fun h3 ts acc c kk hl ea lts nd tu=>?_
 have k3:∀ b o,s1.heap.get? b=some o->h3.get? b=some o:=fun b o e=>by
  have lt:=EV e
  exact kk b o (Fn (Fj lt (He _ _))) (Fn (Fj lt (He _ _))) (Fn lt) (Fn (Fj lt (He _ _))) (hk b o e)
 have I3:Inv X pins σ H1 { s1 with heap:=h3 }:=I1.kept (t':=s1.toks) k3
 have our:∀ T,s1.heap.objs.size<=T->jV X pins H1 T:=fun T hT=>by
  have f:=I1.fpOk hT (I1.hok.fresh hT)
  exact ⟨Jx (FN I1.sz hT),f.1,f.2.1,f.2.2.2.2.1,f.2.2.2.2.2⟩
 have hgt:∀ T∈ts,h2.objs.size < T:=fun T hT=>by
  obtain ⟨j,hj⟩:=Fy hT
  exact (tu j T hj).2
 have lz:(ns.zip ms).length=ts.length:=by rw [lts,List.length_zip]; simp; lia
 have prd:IB (fun (T:EK) (p:Pair)=>∃ t u,JL h3 T (.int p.1 t) (.int p.2 u)) ts (ns.zip ms):=by
  refine mD lz.symm fun j T pr e1 e2=>?_
  obtain ⟨⟨x,y,hx,hy,hp⟩,_⟩:=tu j T e1
  have hx':its[j]? = some x:=by simpa using hx
  have hy':jts[j]? = some y:=by simpa using hy
  rw [G3] at e2
  obtain ⟨t,et⟩:=jc hi e2.1
  obtain ⟨u,eu⟩:=jc hj e2.2
  rw [et] at hx'
  rw [eu] at hy'
  cases hx'
  cases hy'
  exact ⟨t,u,hp⟩
 obtain ⟨H',I',s',prs,kf⟩:=pE prd H1 I3 (fun T hT=>our T (by have:=hgt T hT; lia)) nd
 have nS:h2.objs.size∉ts:=fun z=>FT _ (hgt _ z)
 have oS:=our h2.objs.size (by lia)
 have fS:H' h2.objs.size=none:=by rw [kf _ nS]; exact oS.free
 have vs:Vals (ts.map V.ref) acc.toList:=by
  rw [ea]
  have go:∀ ts:List EK,Vals (ts.map V.ref) (ts.map E4):=fun ts=>by
   induction ts with
   | nil=>exact .nil
   | cons T ts ih=>exact .cons rfl ih
  exact go ts
 have I4:=I'.trackO (o':=.lst (ts.map V.ref)) ⟨oS.new,fS,oS.loc,oS.cell,oS.pin⟩ ⟨by rw [Do,lts]; simp; exact sz (by lia),acc.toList,c,vs,hl⟩
 exact ⟨.ref h2.objs.size,_,I4,rfl,q _ _ (s'.trans (ae.new (ae.refl H') fS _)) oS.free ⟨_,upd_same,prs.updN fS _⟩⟩
end
end L2
namespace Ck
open PySem L2
theorem jt:∀ {r s:List Int},r.map V.int=s.map V.int->r=s
 | [],[],_=>rfl
 | a::r,b::s,h=>by
  rw [E2,E2] at h
  injection h with h1 h2
  injection h1 with h1
  rw [h1,jt h2]
noncomputable def mR (o:Option HO):Bool:=match o with | some (.lst [])=>true | _=>false
theorem md (r:List Int):mR (some (.lst (r.map V.int)))=decide (r=[]):=by
 cases r with
 | nil=>rfl
 | cons a r=>rw [decide_eq_false (by simp)]; rfl
end Ck
namespace L2
open PySem PySem.Spec PyProof.Rows Ck
theorem oR {X:Cx} {K:Fi} (hK:X.K=K):cQ X (.builtin "sorted") (fun xs H Q=>∃ (p:EK) (ns:List Int),xs=[.ref p]/\aj K H p (ns.map V.int)/\ns.length < 64/\∀ (q:EK) (ms:List Int),H q=none->ms.Perm ns->ms.Pairwise (·<=·)->Q (.ref q) (upd H q (.lst (ms.map V.int)))):=by
 subst hK
 exact jv
noncomputable def Dv:R2:=fun x y H Q=>∃ (a l:EK) (H0:Hp) (rs:List (List Int)),x = .ref a/\y = .ref l/\H a=some (.lst [])/\aM H0 H l rs/\Q (.bl (rs.any fun r=>decide (r=[]))) H
theorem zY {X:Cx} (hu:X.A.units+100 < cLine):cJ X (compareOp .In) Dv:=by
 intro pins s σ H x y u v Q I ru rv h
 obtain ⟨a,l,H0,rs,rfl,rfl,ha,⟨bs,hl,ro,nd⟩,q⟩:=h
 cases (show u=E4 _ from ru)
 cases (show v=E4 _ from rv)
 obtain ⟨its,r',pl,hz⟩:=I.list (aj.of hl)
 have ei:its=bs.map E4:=by
  have go:∀ (bs:List EK) (us:List Ey),Vals (bs.map V.ref) us->us=bs.map E4:=fun bs=>by
   induction bs with
   | nil=>intro us h; rw [Jp] at h; cases h; rfl
   | cons b bs ih =>
    intro us h
    rw [E2] at h
    cases h with
    | cons h t=>rw [ih _ t,E2]; cases (show _=E4 b from h); rfl
  exact go bs its r'
 have one:∀ (b:EK) (r:List Int),H b=some (.lst (r.map V.int))->aW X.K H 1 (.ref b) (.ref a) (decide (r=[])):=fun b r hb=>by
  by_cases e:b=a
  ·subst e
   rw [ha] at hb
   have:r=[]:=by
    injection hb with hb; injection hb with hb
    exact List.map_eq_nil_iff.mp hb.symm
   rw [decide_eq_true this]
   exact aW.same
  ·have:=aW.void (K:=X.K) (n:=0) e (aj.of hb) (aj.of ha)
   have e2:decide (r.map V.int=[])=decide (r=[]):=by
    cases r<;>simp
   rw [e2] at this
   exact this
 have ex:∀ (bs:List EK) (rs:List (List Int)),aJ H0 H l bs rs->∃ e:Ey->Bool,(∀ y∈bs.map E4,∃ (b:EK) (r:List Int),y = .ref b/\H b=some (.lst (r.map V.int))/\e y=decide (r=[]))/\(bs.map E4).any e=rs.any fun r=>decide (r=[]):=fun bs rs ro=>by
  refine ⟨fun y=>match y with | .ref b=>mR (H b) | _=>false,?_,?_⟩
  ·intro y hy
   obtain ⟨b,hb,rfl⟩:=ER.mp hy
   obtain ⟨⟨ns,e⟩,_⟩:=ro.all b hb
   refine ⟨b,ns,rfl,e,?_⟩
   show mR (H b)=_
   rw [e,md]
  ·induction ro with
   | nil=>rfl
   | cons h _ ih =>
    rw [E2,List.any_cons,List.any_cons,ih]
    congr 1
    show mR (H _)=_
    rw [h.1,md]
 obtain ⟨e,e1,e2⟩:=ex bs rs ro
 refine SeqAt.in_listAt (items:=its.toArray) e pl.isList (fun y hy=>?_) ⟨.bl _,H,I,rfl,?_⟩
 ·have hy':y∈bs.map E4:=by rw [ei] at hy; simpa using hy
  obtain ⟨b,r,rfl,hb,e3⟩:=e1 y hy'
  rw [e3]
  exact (one b r hb).at_ (A:=X.A.in1) (by show X.A.units+1+1 < cLine; lia) I rfl rfl
 ·rw [ei,List.any_toArray,e2]
  exact q
end L2
namespace Ck
open PySem L2
theorem aW.ints {K:Fi} {H:Hp} {n:Nat} {a b:EK} {r s:List Int} (ha:H a=some (.lst (r.map V.int))) (hb:H b=some (.lst (s.map V.int))):aW K H (n+1) (.ref a) (.ref b) (decide (r=s)):=by
 by_cases e:a=b
 ·subst e
  rw [ha] at hb
  have:r=s:=by
   injection hb with hb; injection hb with hb
   exact jt hb
  rw [decide_eq_true this]
  exact aW.same
 by_cases hl:r.length=s.length
 ·have h:=aW.lst (K:=K) (n:=n) (e:=fun j=>decide (r.getD j 0=s.getD j 0)) e (aj.of ha) (aj.of hb) (by simp [hl]) (fun j x y hx hy=>by
   obtain ⟨c,rfl⟩:=cX hx
   obtain ⟨d,rfl⟩:=cX hy
   rw [FD] at hx hy
   have ec:r.getD j 0=c:=by
    rw [AC]
    cases h:r[j]? with
    | none=>rw [h] at hx; cases hx
    | some z=>rw [h] at hx; injection hx with hx; injection hx
   have ed:s.getD j 0=d:=by
    rw [AC]
    cases h:s[j]? with
    | none=>rw [h] at hy; cases hy
    | some z=>rw [h] at hy; injection hy with hy; injection hy
   have z:=aW.flat (K:=K) (H:=H) (n:=n) (x:=V.int c) (y:=V.int d) rfl rfl
   rw [ec,ed]
   have e3:g5 (V.int c) (V.int d)=decide (c=d):=rfl
   rw [e3] at z
   exact z)
  have e2:(EM (r.map V.int).length).all (fun j=>decide (r.getD j 0=s.getD j 0))=decide (r=s):=by
   rw [Gr,Fq,decide_eq_true_iff]
   constructor
   ·intro h
    refine IK hl fun k h1 h2=>?_
    have:=of_decide_eq_true (h k (E6.mpr (by simpa using h1)))
    rw [AC,AC,Da h1,Da h2] at this
    exact this
   ·intro h k _
    rw [h]
    exact decide_eq_true rfl
  rw [e2] at h
  exact h
 ·rw [decide_eq_false fun z=>hl (by rw [z])]
  exact aW.lstN e (aj.of ha) (aj.of hb) (by simpa using hl)
theorem aW.rooms {K:Fi} {H0 H1 H:Hp} {a b:EK} {rs ss:List (List Int)} (h:aM H0 H a rs) (k:aM H1 H b ss) (ne:a≠b):aW K H 2 (.ref a) (.ref b) (decide (rs=ss)):=by
 obtain ⟨xs,ex,lx⟩:=h.len
 obtain ⟨ys,ey,ly⟩:=k.len
 by_cases hl:rs.length=ss.length
 ·have d:=aW.lst (K:=K) (n:=1) (e:=fun j=>decide (rs.getD j []=ss.getD j [])) ne (aj.of ex) (aj.of ey) (by lia) (fun j x y e1 e2=>by
   have hj:j < rs.length:=by rw [<- lx]; exact (EC.mp e1).1
   obtain ⟨c,f1,g1,_⟩:=h.get ex (Da hj)
   obtain ⟨d,f2,g2,_⟩:=k.get ey (Da (show j < ss.length by lia))
   rw [f1] at e1
   rw [f2] at e2
   cases e1
   cases e2
   rw [AC,AC,Da hj,Da (show j < ss.length by lia)]
   exact aW.ints g1 g2)
  have e:(EM xs.length).all (fun j=>decide (rs.getD j []=ss.getD j []))=decide (rs=ss):=by
   rw [Gr,Fq,decide_eq_true_iff]
   constructor
   ·intro h
    refine IK hl fun k h1 h2=>?_
    have:=of_decide_eq_true (h k (E6.mpr (by lia)))
    rw [AC,AC,Da h1,Da h2] at this
    exact this
   ·intro h k _
    rw [h]
    exact decide_eq_true rfl
  rw [e] at d
  exact d
 ·rw [decide_eq_false fun z=>hl (by rw [z])]
  exact aW.lstN ne (aj.of ex) (aj.of ey) (by lia)
end Ck
namespace Ck
open PySem L2
noncomputable def eG (rs:List (List Int)):List Pair:=(rs.map fun r=>r.zip (r.drop 1)).flatten
noncomputable def oM (rs:List (List Int)):Bool:=decide ((∀ r∈rs,r.Pairwise (· < ·))/\(rs.map hd).Pairwise (· < ·))
noncomputable def cF (rs:List (List Int)):Bool:=rs.all (fun r=>decide (r≠[]))&&(bW rs.flatten&&(oM rs&&!cf (eG rs)))
theorem wy {rs:List (List Int)} (h:∃ r∈rs,r=[]):cF rs=false:=by
 obtain ⟨r,hr,e⟩:=h
 unfold cF
 have:rs.all (fun r=>decide (r≠[]))=false:=List.all_eq_false.mpr ⟨r,hr,by simp [e]⟩
 rw [this,GY]
theorem vw {rs:List (List Int)} (h:bW rs.flatten=false):cF rs=false:=by
 unfold cF
 rw [h]
 simp
theorem ni {rs:List (List Int)} (hne:∀ r∈rs,r≠[]) (hE:bW rs.flatten=true):cF rs=(oM rs&&!cf (eG rs)):=by
 unfold cF
 have:rs.all (fun r=>decide (r≠[]))=true:=Fq.mpr fun r hr=>decide_eq_true (hne r hr)
 rw [this,hE,GI,GI]
theorem rj {rs:List (List Int)} (hE:bW rs.flatten=true):rs.flatten.Nodup:=((cn _).mp hE).nodup_iff.mpr (iY _)
theorem lD:∀ {rs:List (List Int)},rs.flatten.Nodup->(∀ r∈rs,r.Nodup)/\rs.Pairwise fun a b=>∀ x∈a,x∉b
 | [],_=>⟨fun r hr=>absurd hr (by simp),Jh⟩
 | r::rs,h=>by
  rw [GX,Gf] at h
  obtain ⟨h1,h2,h3⟩:=h
  obtain ⟨i1,i2⟩:=lD h2
  refine ⟨fun q hq=>?_,.cons (fun q hq x hx hx'=>h3 x hx x (IL.mpr ⟨q,hq,hx'⟩) rfl) i2⟩
  rcases ET.mp hq with z | z
  ·rw [z]; exact h1
  ·exact i1 q z
theorem tj {rs:List (List Int)} (h:rs.flatten.Nodup) {r:List Int} (hr:r∈rs):r.Nodup:=by
 exact (lD h).1 r hr
theorem uR {a b:List Int} (ha:a≠[]) (hb:b≠[]) (h:cw b a=false) (ne:hd a≠hd b):hd a < hd b:=by
 cases a with
 | nil=>exact absurd rfl ha
 | cons x a =>
  cases b with
  | nil=>exact absurd rfl hb
  | cons y b =>
   have ne':x≠y:=ne
   show x < y
   have h':(if y=x then cw b a else decide (y < x))=false:=h
   rw [if_neg (fun z=>ne' z.symm)] at h'
   have:=of_decide_eq_false h'
   lia
theorem mW {a b:List Int} (ha:a≠[]) (hb:b≠[]) (h:hd a < hd b):cw b a=false:=by
 cases a with
 | nil=>exact absurd rfl ha
 | cons x a =>
  cases b with
  | nil=>exact absurd rfl hb
  | cons y b =>
   have h':x < y:=h
   show (if y=x then cw b a else decide (y < x))=false
   rw [if_neg (by lia)]
   exact decide_eq_false (by lia)
theorem vH {rs:List (List Int)} (hne:∀ r∈rs,r≠[]) (h:rs.flatten.Nodup):rs.Pairwise fun a b=>hd a≠hd b:=by
 exact (lD h).2.imp_of_mem fun ha hb hd' e=>by
  have h1:=dH (hne _ ha)
  have h2:=dH (hne _ hb)
  rw [<- e] at h2
  exact hd' _ h1 h2
theorem t7 {r:List Int} (h:r.Pairwise (·<=·)) (nd:r.Nodup):r.Pairwise (· < ·):=by
 have:=List.Pairwise.and h nd
 exact this.imp fun ⟨h1,h2⟩=>by lia
theorem wX {rs ts ss:List (List Int)} (hts:IB (fun (r q:List Int)=>q.Perm r/\q.Pairwise (·<=·)) rs ts) (hp:ss.Perm ts) (hs:ss.Pairwise fun a b=>cw b a=false) (hne:∀ r∈rs,r≠[]) (hE:bW rs.flatten=true):decide (rs=ss)=oM rs:=by
 have nd:=rj hE
 unfold oM
 rw [Gr,decide_eq_true_iff,decide_eq_true_iff]
 constructor
 ·intro e
  constructor
  ·intro r hr
   have h1:r∈ts:=hp.mem_iff.mp (e▸hr)
   have go:∀ {rs ts:List (List Int)},IB (fun (r q:List Int)=>q.Perm r/\q.Pairwise (·<=·)) rs ts->∀ q∈ts,q.Pairwise (·<=·):=by
    intro rs ts h
    induction h with
    | nil=>intro q hq; cases hq
    | cons x _ ih =>
     intro q hq
     rcases ET.mp hq with z | z
     ·rw [z]; exact x.2
     ·exact ih q z
   exact t7 (go hts r h1) (tj nd hr)
  ·rw [FJ]
   rw [<- e] at hs
   exact (hs.and (vH hne nd)).imp_of_mem fun ha hb ⟨h1,h2⟩=>uR (hne _ ha) (hne _ hb) h1 h2
 ·rintro ⟨h1,h2⟩
  have et:ts=rs:=by
   have go:∀ {rs ts:List (List Int)},IB (fun (r q:List Int)=>q.Perm r/\q.Pairwise (·<=·)) rs ts->(∀ r∈rs,r.Pairwise (· < ·))->ts=rs:=by
    intro rs ts h
    induction h with
    | nil=>intro _; rfl
    | cons x _ ih =>
     intro hr
     rw [ih fun r hr'=>hr r (EH _ hr')]
     congr 1
     exact GL (le:=(·<=·)) (fun a b _ _ h1 h2=>Int.le_antisymm h1 h2) x.2 ((hr _ (Fe ..)).imp Gv) x.1
   exact go hts h1
  rw [et] at hp
  rw [FJ] at h2
  have h2':rs.Pairwise fun a b=>cw b a=false:=h2.imp_of_mem fun ha hb h=>mW (hne _ ha) (hne _ hb) h
  exact (GL (le:=fun a b=>cw b a=false) (fun a b _ _ h1 h2=>jO a b h2 h1) hs h2' hp).symm
theorem gap:∀ {r:List Int} {u v t:Int},r.Pairwise (· < ·)->u∈r->v∈r->u < t->t < v->t∉r->∃ p∈r.zip (r.drop 1),u<=p.1/\p.1 < t/\t < p.2/\p.2<=v
 | [],u,v,t,_,hu,_,_,_,_=>by cases hu
 | [x],u,v,t,_,hu,hv,h1,h2,_=>by
  have e1:u=x:=by simpa using hu
  have e2:v=x:=by simpa using hv
  lia
 | x::y::r,u,v,t,hp,hu,hv,h1,h2,h3=>by
  have hp':=Hc.mp hp
  have hy:=Hc.mp hp'.2
  have tx:t≠x:=fun z=>h3 (by rw [z]; simp)
  have ty:t≠y:=fun z=>h3 (by rw [z]; simp)
  by_cases c:t < y
  ·-- the step is the first one
   have ux:u=x:=by
    rcases ET.mp hu with z | z
    ·exact z
    ·rcases ET.mp z with z | z
     ·lia
     ·have:=hy.1 u z; lia
   have vy:y<=v:=by
    rcases ET.mp hv with z | z
    ·lia
    ·rcases ET.mp z with z | z
     ·lia
     ·have:=hy.1 v z; lia
   exact ⟨(x,y),by simp,by show u<=x; lia,by show x < t; lia,c,vy⟩
  ·have hv':v∈y::r:=by
    rcases ET.mp hv with z | z
    ·have:=hp'.1 y (by simp); lia
    ·exact z
   have hu':∃ u',u'∈y::r/\u<=u'/\u' < t:=by
    rcases ET.mp hu with z | z
    ·exact ⟨y,by simp,by have:=hp'.1 y (by simp); lia,by lia⟩
    ·exact ⟨u,z,FQ _,h1⟩
   obtain ⟨u',m1,m2,m3⟩:=hu'
   obtain ⟨p,hp1,q1,q2,q3,q4⟩:=gap hp'.2 m1 hv' m3 h2 (fun z=>h3 (EH _ z))
   exact ⟨p,by simp only [IQ,IE] at hp1 |-; exact EH _ hp1,by lia,q2,q3,q4⟩
theorem fz {rs:List (List Int)} {p:Pair}:p∈eG rs↔∃ r∈rs,p∈r.zip (r.drop 1):=by
 unfold eG
 rw [IL]
 constructor
 ·rintro ⟨l,hl,hp⟩
  obtain ⟨r,hr,rfl⟩:=ER.mp hl
  exact ⟨r,hr,hp⟩
 ·rintro ⟨r,hr,hp⟩
  exact ⟨_,ER.mpr ⟨r,hr,rfl⟩,hp⟩
theorem qu {r:List Int} {p:Pair} (h:p∈r.zip (r.drop 1)):∃ k,k+1 < r.length/\p.1=r.getD k 0/\p.2=r.getD (k+1) 0:=by
 obtain ⟨k,hk⟩:=Fy h
 rw [G3] at hk
 obtain ⟨h1,h2⟩:=hk
 rw [Im] at h2
 have hl:=(EC.mp h2).1
 refine ⟨k,by lia,?_,?_⟩
 ·rw [AC,h1]; rfl
 ·rw [AC,show k+1=1+k by lia,h2]; rfl
theorem D5 {r:List Int} {k:Nat} (h:k+1 < r.length):(r.getD k 0,r.getD (k+1) 0)∈r.zip (r.drop 1):=by
 refine ES (i:=k) ?_
 rw [G3]
 refine ⟨?_,?_⟩
 ·rw [AC,Da (show k < r.length by lia)]; rfl
 ·show (r.drop 1)[k]? = some (r.getD (k+1) 0)
  rw [Im,show 1+k=k+1 by lia,AC,Da h]
  rfl
noncomputable abbrev lst (r:List Int):Int:=r.getD (r.length - 1) 0
theorem qm {r:List Int} (h:r≠[]):lst r∈r:=by
 have:r.length - 1 < r.length:=by
  cases r with
  | nil=>exact absurd rfl h
  | cons a r=>simp
 unfold lst
 rw [AC,Da this]
 exact GH this
theorem CW {r:List Int} (h:r.Pairwise (· < ·)) {x:Int} (hx:x∈r):hd r<=x:=by
 cases r with
 | nil=>cases hx
 | cons a r =>
  show a<=x
  rcases ET.mp hx with z | z
  ·lia
  ·have:=(Hc.mp h).1 x z; lia
theorem qj {r:List Int} {p:Pair} (h:p∈r.zip (r.drop 1)):p.1∈r/\p.2∈r:=by
 obtain ⟨k,hk,e1,e2⟩:=qu h
 rw [e1,e2,AC,AC,Da (show k < r.length by lia),Da hk]
 exact ⟨GH _,GH _⟩
theorem nQ (k:Nat):iota k=cG k:=rfl
end Ck
namespace L2
open PySem PySem.Spec PyProof.Rows Ck
end L2
namespace Ck
open PySem L2
theorem kH {α β:Type} {R:α->β->Prop}:∀ {as cs:List α} {bs ds:List β},IB R as bs->IB R cs ds->IB R (as++cs) (bs++ds)
 | _,_,_,_,.nil,h=>h
 | _,_,_,_,.cons r t,h=>.cons r (kH t h)
def cT (H:Hp) (bs:List EK) (xss:List (List V)):Prop:=IB (fun (b:EK) (xs:List V)=>H b=some (.lst xs)) bs xss
theorem cT.same {H H':Hp} {bs:List EK} {xss:List (List V)} (h:cT H bs xss) (s:ae H H'):cT H' bs xss:=Paired.mapP h fun _ _ e=>s _ _ e
theorem cT.get {H:Hp}:∀ {bs:List EK} {xss:List (List V)},cT H bs xss->∀ {j:Nat} {v:V},(bs.map V.ref)[j]? = some v->∃ b xs,v = .ref b/\xss[j]? = some xs/\H b=some (.lst xs)
 | _,_,.nil,j,v,e=>by simp at e
 | _,_,.cons r t,0,v,e=>⟨_,_,(by simpa using e.symm),rfl,r⟩
 | _,_,.cons r t,j+1,v,e=>by
  obtain ⟨b,xs,h1,h2,h3⟩:=cT.get t (j:=j) (by simpa using e)
  exact ⟨b,xs,h1,by simpa using h2,h3⟩
theorem aM.rws {H0 H:Hp} {a:EK} {rs:List (List Int)} (h:aM H0 H a rs):∃ bs:List EK,H a=some (.lst (bs.map V.ref))/\cT H bs (rs.map fun r=>r.map V.int):=by
 obtain ⟨bs,e,r,_⟩:=h
 refine ⟨bs,e,?_⟩
 have go:∀ {bs:List EK} {rs:List (List Int)},aJ H0 H a bs rs->cT H bs (rs.map fun r=>r.map V.int):=by
  intro bs rs r
  induction r with
  | nil=>exact .nil
  | cons x _ ih=>exact .cons x.1 ih
 exact go r
theorem cT.len {H:Hp} {bs:List EK} {xss:List (List V)} (h:cT H bs xss):bs.length=xss.length:=Iw h
theorem nr (rs:List (List Int)):(rs.map fun r=>r.map V.int).flatten=rs.flatten.map V.int:=by
 rw [List.map_flatten]
end Ck
namespace Ck
open PySem L2
end Ck
namespace Ck
open PySem L2
end Ck
namespace Sx
open PySem PySem.SetTable
theorem sub_len:∀ {l1 l2:List Nat},l1.Nodup->(∀ x∈l1,x∈l2)->l1.length<=l2.length
 | [],l2,_,_=>EU _
 | a::l1,l2,nd,h=>by
  rw [Gs] at nd
  have ha:=h a (Fe ..)
  have:=sub_len (l1:=l1) (l2:=l2.erase a) nd.2 fun x hx=>(List.mem_erase_of_ne (fun e=>nd.1 (by rw [<- e]; exact hx))).mpr (h x (EH _ hx))
  rw [List.length_erase_of_mem ha] at this
  have hp:=List.length_pos_of_mem ha
  simp only [Fb]
  lia
theorem jQ {l:List Nat} {m:Nat} (h:l.length<=m):∃ t,t<=m/\t∉l:=by
 apply HF
 intro hn
 have:=sub_len (l1:=EM (m+1)) (l2:=l) Jv fun x hx=>by
  apply HF
  intro hx'
  exact hn ⟨x,G6.mp (E6.mp hx),hx'⟩
 rw [FR] at this
 lia
def cH (xs:List Nat):Prop:=xs.Pairwise (· < ·)
theorem jJ (xs:Array Nat) (j:Nat) (hr:cH xs.toList):∀ (fuel lo hi:Nat),hi - lo<=fuel->lo<=hi->hi<=xs.size->(∀ i x,i < lo->xs[i]? = some x->x < j)->(∀ i x,hi<=i->xs[i]? = some x->j<=x) ->
  below.go xs j fuel lo hi<=xs.size/\(∀ i x,i < below.go xs j fuel lo hi->xs[i]? = some x->x < j)/\∀ i x,below.go xs j fuel lo hi<=i->xs[i]? = some x->j<=x
 | 0,lo,hi,hf,hl,hh,h1,h2=>by
  have e:lo=hi:=by lia
  subst e
  exact ⟨hh,h1,h2⟩
 | fuel+1,lo,hi,hf,hl,hh,h1,h2=>by
  unfold below.go
  by_cases h:lo < hi
  ·rw [if_pos h]
   have hm:(lo+hi) / 2 < xs.size:=by lia
   have gm:xs[(lo+hi) / 2]? = some xs[(lo+hi) / 2]:=EI hm
   have gd:xs.getD ((lo+hi) / 2) j=xs[(lo+hi) / 2]:=by simp [hm]
   simp only [gd]
   have mono:∀ a b x y,a < b->xs[a]? = some x->xs[b]? = some y->x < y:=fun a b x y hab ha hb=>by
    obtain ⟨la,ea⟩:=Fk.mp ha
    obtain ⟨lb,eb⟩:=Fk.mp hb
    have:=E1.mp hr a b (by simpa using la) (by simpa using lb) hab
    simp only [JA] at this
    omega
   by_cases c:xs[(lo+hi) / 2] < j
   ·rw [if_pos c]
    refine jJ xs j hr fuel _ _ (by lia) (by lia) hh (fun i x hlt hx=>?_) h2
    by_cases e:i=(lo+hi) / 2
    ·subst e; rw [gm] at hx; cases hx; exact c
    ·have:=mono i ((lo+hi) / 2) x _ (by lia) hx gm; lia
   ·rw [if_neg c]
    refine jJ xs j hr fuel _ _ (by lia) (by lia) (by lia) h1 (fun i x hlt hx=>?_)
    by_cases e:i=(lo+hi) / 2
    ·subst e; rw [gm] at hx; cases hx; lia
    ·have:=mono ((lo+hi) / 2) i _ x (by lia) gm hx; lia
  ·rw [if_neg h]
   have e:lo=hi:=by lia
   subst e
   exact ⟨hh,h1,h2⟩
theorem below_at (xs:Array Nat) (j:Nat) (hr:cH xs.toList):below xs j<=xs.size/\(∀ i x,i < below xs j->xs[i]? = some x->x < j)/\∀ i x,below xs j<=i->xs[i]? = some x->j<=x:=by
 unfold below
 refine jJ xs j hr xs.size 0 xs.size (by lia) (EU _) (EF _) (fun i x hi _=>absurd hi (Hk _)) fun i x hi hx=>?_
 rw [Gn hi] at hx
 cases hx
theorem rK {xs:Array Nat} {j:Nat} (hr:cH xs.toList) (h:j∉xs.toList):(xs[below xs j]? == some j)=false:=by
 rw [beq_eq_false_iff_ne]
 intro e
 exact h (by rw [HJ]; exact Array.mem_of_getElem? e)
theorem uZ {t:FU} {j:Nat} (hr:cH t.place.toList) (hd:t.dummies = #[]) (h:j∉t.place.toList):t.slot j = .empty:=by
 unfold Lm
 simp only [rK hr h,EG,if_false]
 have:has t.dummies j=false:=by rw [hd]; rfl
 rw [this]
 rfl
theorem g9 {t:FU} {j:Nat} (hd:t.dummies = #[]):t.slot j = .empty\/∃ i,t.slot j = .live i:=by
 unfold Lm
 have:has t.dummies j=false:=by rw [hd]; rfl
 simp only [this]
 split
 ·exact .inr ⟨_,rfl⟩
 ·exact .inl rfl
theorem fU {t:FU} {j:Nat} (hr:cH t.place.toList) (h:t.slot j = .empty):j∉t.place.toList:=by
 intro hj
 unfold Lm at h
 obtain ⟨h0,h1,h2⟩:=below_at t.place j hr
 obtain ⟨i,hi⟩:=Fy hj
 have hi':t.place[i]? = some j:=by simpa using hi
 have e:below t.place j=i:=by
  rcases Ka i (below t.place j) with z | z | z
  ·have:=h1 i j z hi'; lia
  ·exact z.symm
  ·have lt:below t.place j < t.place.size:=Nat.lt_trans z (Fk.mp hi').1
   have g:=EI lt
   have:=h2 _ _ (EF _) g
   obtain ⟨li,ei⟩:=Fk.mp hi'
   have m:=E1.mp hr _ _ (by simpa using lt) (by simpa using li) z
   simp only [JA] at m
   lia
 simp only [e,hi',beq_self_eq_true,if_true] at h
 cases h
noncomputable def iter (m:Nat):Nat->Nat × Nat->Nat × Nat
 | 0,p=>p
 | k+1,p=>iter m k (leap m p.1 p.2)
theorem gz (m:Nat):∀ (a b:Nat) (p:Nat × Nat),iter m (a+b) p=iter m b (iter m a p)
 | 0,b,p=>by rw [GM]; rfl
 | a+1,b,p=>by rw [show a+1+b=(a+b)+1 by lia]; exact gz m a b _
theorem jB (m:Nat):∀ (k:Nat) (p:Nat × Nat),(iter m k p).2=p.2 / 32 ^ k
 | 0,p=>by show p.2=_; simp
 | k+1,p=>by
  show (iter m k (leap m p.1 p.2)).2=_
  rw [jB m k]
  show p.2 / 32 / 32 ^ k=_
  rw [Nat.div_div_eq_div_mul,Nat.pow_succ,Nat.mul_comm]
theorem oy (m:Nat):∀ (k:Nat) (p:Nat × Nat),p.1<=m->(iter m k p).1<=m
 | 0,p,h=>h
 | k+1,p,h=>oy m k _ (by show (p.1*5+1+p.2 / 32) % (m+1)<=m; exact G6.mp (Jj _ (G7 _)))
noncomputable def ra (m:Nat):Nat->Nat->List Nat
 | 0,_=>[]
 | k+1,i=>i::ra m k ((i*5+1) % (m+1))
theorem kr (m:Nat):∀ (k i t:Nat),t∈ra m k i->∃ n,n < k/\(iter m n (i,0)).1=t
 | k+1,i,t,h=>by
  rcases ET.mp h with rfl | h
  ·exact ⟨0,G7 _,rfl⟩
  ·obtain ⟨n,hn,e⟩:=kr m k _ t h
   exact ⟨n+1,by lia,by
    show (iter m n (leap m i 0)).1=t
    have:leap m i 0=((i*5+1) % (m+1),0):=rfl
    rw [this]; exact e⟩
def iI (m:Nat):Prop:=m=7\/m=31\/m=127
noncomputable def whole (m:Nat):Bool:=(let o:=ra m (m+1) 0; (EM (m+1)).all fun t=>o.contains t)&&decide (iter m (m+1) (0,0)=(0,0))
theorem yy:whole 7=true:=by decide +kernel
theorem wG:whole 31=true:=by decide +kernel
theorem uQ:whole 127=true:=by decide +kernel
theorem iI.whole {m:Nat} (h:iI m):whole m=true:=by
 rcases h with rfl | rfl | rfl
 ·exact yy
 ·exact wG
 ·exact uQ
theorem u6 (m:Nat) (k i:Nat):iter m k (i,0)=((iter m k (i,0)).1,0):=by
 have:(iter m k (i,0)).2=0:=by rw [jB]; exact Nat.zero_div _
 exact IX rfl this
theorem around {m i t:Nat} (hm:iI m) (hi:i<=m) (ht:t<=m):∃ n,n<=m/\(iter m n (i,0)).1=t:=by
 have hw:=hm.whole
 unfold Sx.whole at hw
 rw [EW,decide_eq_true_iff] at hw
 have at_:∀ s,s<=m->∃ n,n < m+1/\(iter m n (0,0)).1=s:=fun s hs=>by
  have:=Fq.mp hw.1 s (E6.mpr (G6.mpr hs))
  exact kr m (m+1) 0 s (by simpa using this)
 obtain ⟨a,ha,ea⟩:=at_ i hi
 obtain ⟨b,hb,eb⟩:=at_ t ht
 have ei:iter m a (0,0)=(i,0):=by rw [u6,ea]
 by_cases c:a<=b
 ·refine ⟨b - a,by lia,?_⟩
  rw [<- ei,<- gz,show a+(b - a)=b by lia,eb]
 ·refine ⟨b+(m+1) - a,by lia,?_⟩
  rw [<- ei,<- gz,show a+(b+(m+1) - a)=m+1+b by lia,gz,hw.2,eb]
theorem reach {m i x t:Nat} (hm:iI m) (hi:i<=m) (hx:x < 2 ^ 64) (ht:t<=m):∃ k,k<=13+m/\(iter m k (i,x)).1=t:=by
 have h13:(iter m 13 (i,x)).2=0:=by
  rw [jB]
  exact Nat.div_eq_of_lt (Fj hx (by decide))
 have hf:=oy m 13 (i,x) hi
 obtain ⟨n,hn,e⟩:=around hm hf ht
 refine ⟨13+n,by lia,?_⟩
 rw [gz,<- e]
 have ep:iter m 13 (i,x)=((iter m 13 (i,x)).1,0):=by rw [<- h13]
 rw [ep]
theorem kT (h:Int):bits h < 2 ^ 64:=by
 unfold bits
 have h0:=GT h (show (2 ^ 64:Int)≠0 by decide)
 have h1:=Hd h (show (0:Int) < 2 ^ 64 by decide)
 have e:(2:Int) ^ 64=18446744073709551616:=by decide
 have e2:(2:Nat) ^ 64=18446744073709551616:=by decide
 rw [e] at h0 h1 |-
 rw [e2]
 lia
noncomputable def begin_ (m i x:Nat):Probe:={ j:=i,more:=runEnd m i - i,i:=i,perturb:=x,dummy:=none }
theorem tO {t:FU} {hashAt:Nat->Int} {h:Int} (hd:t.dummies = #[]) (nh:∀ i,i < t.place.size->hashAt i≠h) (nl:∀ j i,t.slot j = .live i->i < t.place.size) :
  ∀ (r fuel:Nat) (p:Probe),p.more=r->p.dummy=none->p.j+r<=t.mask->r+1<=fuel->(∃ j,probe.go t hashAt h fuel p=some (.empty j none)/\t.slot j = .empty/\j<=t.mask)\/probe.go t hashAt h fuel p=probe.go t hashAt h (fuel - (r+1)) (begin_ t.mask (leap t.mask p.i p.perturb).1 (leap t.mask p.i p.perturb).2)
 | r,0,p,hr,hdm,hb,hf=>by lia
 | r,fuel+1,p,hr,hdm,hb,hf=>by
  rcases g9 (t:=t) (j:=p.j) hd with e | ⟨i,e⟩
  ·refine .inl ⟨p.j,?_,e,by lia⟩
   unfold probe.go
   rw [e,hdm]
  ·have ne:(hashAt i == h)=false:=beq_eq_false_iff_ne.mpr (nh i (nl _ _ e))
   have st:probe.go t hashAt h (fuel+1) p=probe.go t hashAt h fuel (t.advance p):=by
    conv=>lhs; unfold probe.go
    rw [e]
    simp only [ne,EG,if_false]
   rw [st]
   cases r with
   | zero =>
    refine .inr ?_
    have ea:t.advance p=begin_ t.mask (leap t.mask p.i p.perturb).1 (leap t.mask p.i p.perturb).2:=by
     unfold advance
     rw [hr,if_neg (FT _)]
     unfold begin_
     rw [hdm]
    rw [ea]
    rfl
   | succ r =>
    have ea:t.advance p={ p with j:=p.j+1,more:=r }:=by
     unfold advance
     rw [hr,if_pos (G7 _),GS]
    rw [ea]
    rcases tO hd nh nl r fuel { p with j:=p.j+1,more:=r } rfl hdm (by show p.j+1+r<=t.mask; lia) (by lia) with z | z
    ·exact .inl z
    ·refine .inr (z.trans ?_)
     rw [show fuel+1 - (r+1+1)=fuel - (r+1) by lia]
theorem ua (m i:Nat):runEnd m i - i<=9:=by unfold runEnd; split<;>lia
theorem ik {m i:Nat} (h:i<=m):i+(runEnd m i - i)<=m:=by unfold runEnd; split<;>lia
theorem oB {t:FU} {hashAt:Nat->Int} {h:Int} (hd:t.dummies = #[]) (nh:∀ i,i < t.place.size->hashAt i≠h) (nl:∀ j i,t.slot j = .live i->i < t.place.size) :
  ∀ (k fuel i x:Nat),i<=t.mask->t.slot (iter t.mask k (i,x)).1 = .empty->10*(k+1)<=fuel->∃ j,probe.go t hashAt h fuel (begin_ t.mask i x)=some (.empty j none)/\t.slot j = .empty/\j<=t.mask
 | 0,fuel,i,x,hi,he,hf=>by
  obtain ⟨f,rfl⟩:∃ f,fuel=f+1:=⟨fuel - 1,by lia⟩
  refine ⟨i,?_,he,hi⟩
  have he':t.slot (begin_ t.mask i x).j = .empty:=he
  unfold probe.go
  rw [he']
  rfl
 | k+1,fuel,i,x,hi,he,hf=>by
  have rl:=ua t.mask i
  rcases tO hd nh nl (runEnd t.mask i - i) fuel (begin_ t.mask i x) rfl rfl (ik hi) (by lia) with z | z
  ·exact z
  ·rw [z]
   exact oB hd nh nl k _ _ _ (by show (i*5+1+x / 32) % (t.mask+1)<=t.mask; exact G6.mp (Jj _ (G7 _))) he (by lia)
theorem iU {t:FU} {j i:Nat} (h:t.slot j = .live i):i < t.place.size:=by
 have e:t.slot j=if (t.place[below t.place j]? == some j)=true then .live (below t.place j) else if has t.dummies j=true then .dummy else .empty:=rfl
 rw [e] at h
 by_cases c:(t.place[below t.place j]? == some j)=true
 ·rw [if_pos c] at h
  cases h
  exact (Fk.mp (by simpa using c)).1
 ·rw [if_neg c] at h
  by_cases d:has t.dummies j=true
  ·rw [if_pos d] at h; cases h
  ·rw [if_neg d] at h; cases h
theorem sN {t:FU} {hashAt:Nat->Int} {h:Int} (hm:iI t.mask) (hr:cH t.place.toList) (hd:t.dummies = #[]) (hs:t.place.size<=t.mask) (nh:∀ i,i < t.place.size->hashAt i≠h) :
  ∃ j,t.probe hashAt h (t.probeStart h)=some (.empty j none)/\j∉t.place.toList/\j<=t.mask:=by
 obtain ⟨g,hg,ng⟩:=jQ (l:=t.place.toList) (m:=t.mask) (by simpa using hs)
 have hi:bits h % (t.mask+1)<=t.mask:=G6.mp (Jj _ (G7 _))
 obtain ⟨k,hk,ek⟩:=reach hm hi (kT h) hg
 obtain ⟨j,hj,he,jm⟩:=oB (hashAt:=hashAt) (h:=h) hd nh (fun j i e=>iU e) k (10*turns t.mask) (bits h % (t.mask+1)) (bits h) hi (by rw [ek]; exact uZ hr hd ng) (by unfold turns; lia)
 exact ⟨j,hj,fU hr he,jm⟩
theorem dq {α:Type} (xs:Array α) (p:Nat) (x:α) (hp:p<=xs.size):(insertAt xs p x).toList=xs.toList.take p++x::xs.toList.drop p:=by
 unfold insertAt
 rw [Array.toList_append,Ft,GU,GU]
 simp [List.extract_eq_drop_take]
 exact EL (by simp)
theorem gL {α:Type} (xs:List α) (p:Nat) (x:α):(xs.take p++x::xs.drop p).Perm (x::xs):=by
 have:=IP (a:=x) (l₁:=xs.take p) (l₂:=xs.drop p)
 rwa [G5] at this
theorem rb {xs:Array Nat} {j:Nat} (hr:cH xs.toList) (h:j∉xs.toList):cH (insertAt xs (below xs j) j).toList:=by
 obtain ⟨h0,h1,h2⟩:=below_at xs j hr
 rw [dq _ _ _ h0]
 have lt:∀ x∈xs.toList.take (below xs j),x < j:=fun x hx=>by
  obtain ⟨i,hi⟩:=Fy hx
  rw [List.getElem?_take] at hi
  split at hi
  ·rename_i hlt; exact h1 i x hlt (by simpa using hi)
  ·cases hi
 have gt:∀ x∈xs.toList.drop (below xs j),j < x:=fun x hx=>by
  obtain ⟨i,hi⟩:=Fy hx
  rw [Im] at hi
  have:=h2 (below xs j+i) x (He _ _) (by simpa using hi)
  have ne:x≠j:=fun e=>h (by rw [<- e]; exact ES hi)
  lia
 refine Fx.mpr ⟨hr.sublist (J5 _ _),Hc.mpr ⟨gt,hr.sublist (List.drop_sublist _ _)⟩,fun a ha b hb=>?_⟩
 rcases ET.mp hb with rfl | hb
 ·exact lt a ha
 ·exact Nat.lt_trans (lt a ha) (gt b hb)
structure Tab (t:FU) (n:Nat):Prop where
 msk:iI t.mask
 ris:cH t.place.toList
 top:∀ j∈t.place.toList,j<=t.mask
 dum:t.dummies = #[]
 len:t.place.size=n
 few:t.place.size<=t.mask
theorem Tab.fresh (f mv:Nat) (led:Bool):Tab (.fresh f mv led) 0:=⟨.inl rfl,Jh,(fun j h=>nomatch h),rfl,rfl,EU _⟩
theorem Tab.put {t:FU} {n j:Nat} (T:Tab t n) (hj:j∉t.place.toList) (hjm:j<=t.mask) (room:n+1<=t.mask):Tab (t.put j).1 (n+1)/\(t.put j).2=below t.place j/\(t.put j).1.plain=t.plain/\(t.put j).1.led=t.led/\(t.put j).1.mask=t.mask:=by
 have h0:=(below_at t.place j T.ris).1
 have hd:has t.dummies j=false:=by rw [T.dum]; rfl
 have el:=dq t.place (below t.place j) j h0
 have ls:(insertAt t.place (below t.place j) j).size=n+1:=by
  rw [<- EY,el,EA,E5,Fb,GG,EY,T.len]
  have:=T.len
  lia
 refine ⟨⟨T.msk,rb T.ris hj,fun i hi=>?_,?_,ls,by show (insertAt t.place (below t.place j) j).size<=t.mask; lia⟩,rfl,rfl,rfl,rfl⟩
 ·have hi':i∈(insertAt t.place (below t.place j) j).toList:=hi
  rw [el] at hi'
  rcases ET.mp ((gL t.place.toList (below t.place j) j).mem_iff.mp hi') with rfl | hi'
  ·exact hjm
  ·exact T.top i hi'
 ·show (if has t.dummies j=true then _ else t.dummies) = #[]
  rw [hd]
  exact T.dum
theorem h9 {m:Nat} {owner:Array (Option Nat)}:∀ (k fuel i x:Nat),(owner.getD (iter m k (i,x)).1 (some 0)).isNone=true->k+1<=fuel->∃ j,layClean.free m owner fuel i x=some j/\(owner.getD j (some 0)).isNone=true
 | k,0,i,x,_,hf=>by lia
 | k,fuel+1,i,x,he,hf=>by
  unfold layClean.free
  cases e:(EM (runEnd m i+1 - i)).find? fun k=>(owner.getD (i+k) (some 0)).isNone with
  | some a=>exact ⟨i+a,rfl,by have:=List.find?_some e; exact this⟩
  | none =>
   cases k with
   | zero =>
    have h0:(0:Nat)∈EM (runEnd m i+1 - i):=E6.mpr (by unfold runEnd; split<;>lia)
    have:=List.find?_eq_none.mp e 0 h0
    have he':(owner.getD i (some 0)).isNone=true:=he
    exact absurd he' (by simpa using this)
   | succ k=>exact h9 k fuel _ _ he (by lia)
structure Own (m:Nat) (owner:Array (Option Nat)) (js:List Nat):Prop where
 size:owner.size=m+1
 nd:js.Nodup
 top:∀ j∈js,j<=m
 own:∀ j k:Nat,owner.getD j none=some k↔js[k]? = some j
theorem Own.start (m:Nat):Own m (Array.replicate (m+1) none) [] where
 size:=by simp
 nd:=IH
 top:=fun j h=>nomatch h
 own:=fun j k=>by
  have e:(Array.replicate (m+1) (none:Option Nat)).getD j none=none:=by
   rw [FP,Array.getElem?_replicate]
   split<;>rfl
  rw [e]
  simp
theorem Own.at_none {m:Nat} {owner:Array (Option Nat)} {js:List Nat} (O:Own m owner js) {j:Nat} (hj:j<=m) (h:j∉js):(owner.getD j (some 0)).isNone=true:=by
 have lt:j < owner.size:=by rw [O.size]; lia
 have e1:owner.getD j (some 0)=owner.getD j none:=by simp [lt]
 rw [e1]
 cases e:owner.getD j none with
 | none=>rfl
 | some k=>exact absurd (ES ((O.own j k).mp e)) h
theorem Own.none_at {m:Nat} {owner:Array (Option Nat)} {js:List Nat} (O:Own m owner js) {j:Nat} (h:(owner.getD j (some 0)).isNone=true):j<=m/\j∉js:=by
 have lt:j < owner.size:=by
  apply HF
  intro hn
  have:owner.getD j (some 0)=some 0:=by simp [hn]
  rw [this] at h
  cases h
 refine ⟨by rw [O.size] at lt; lia,fun hj=>?_⟩
 obtain ⟨k,hk⟩:=Fy hj
 have:=(O.own j k).mpr hk
 have e1:owner.getD j (some 0)=owner.getD j none:=by simp [lt]
 rw [e1,this] at h
 cases h
theorem Own.step {m:Nat} {owner:Array (Option Nat)} {js:List Nat} (O:Own m owner js) {j:Nat} (hj:j<=m) (h:j∉js):Own m (owner.setIfInBounds j (some js.length)) (js++[j]):=by
 have lt:j < owner.size:=by rw [O.size]; lia
 refine ⟨by simp [O.size],Gf.mpr ⟨O.nd,by simp,fun a ha b hb=>by
  have:b=j:=by simpa using hb
  rw [this]; exact fun e=>h (e▸ha)⟩,fun i hi=>?_,fun i k=>?_⟩
 ·rcases EN.mp hi with hi | hi
  ·exact O.top i hi
  ·have:i=j:=by simpa using hi
   lia
 ·by_cases e:i=j
  ·subst e
   have:(owner.setIfInBounds i (some js.length)).getD i none=some js.length:=by simp [lt]
   rw [this]
   constructor
   ·intro h'
    have:js.length=k:=by simpa using h'
    rw [<- this]
    simp
   ·intro h'
    by_cases hk:k < js.length
    ·rw [GE hk] at h'
     exact absurd (ES h') h
    ·rw [Gc (by lia)] at h'
     have:k - js.length=0:=by
      have:=(EC.mp h').1
      simp at this
      lia
     rw [show k=js.length by lia]
  ·have:(owner.setIfInBounds j (some js.length)).getD i none=owner.getD i none:=by
    simp only [FP]
    rw [Array.getElem?_setIfInBounds_ne (G4 e)]
   rw [this,O.own]
   by_cases hk:k < js.length
   ·rw [GE hk]
   ·rw [Gc (by lia),Gu (by lia)]
    constructor
    ·intro z; cases z
    ·intro z
     have:i=j:=by
      have l:=(EC.mp z).1
      simp at l
      rw [show k - js.length=0 by lia] at z
      simpa using z.symm
     exact absurd this e
theorem qg {m:Nat} (hm:iI m):∀ (hs:List Int) (owner:Array (Option Nat)) (js:List Nat),Own m owner js->js.length+hs.length<=m ->
  ∃ owner' js',hs.foldl (fun acc h=>(do
   let (owner,k) <- acc
   let j <- layClean.free m owner (turns m) (bits h % (m+1)) (bits h)
   pure (owner.setIfInBounds j (some k),k+1))) (some (owner,js.length))=some (owner',js'.length)/\Own m owner' js'/\js'.length=js.length+hs.length
 | [],owner,js,O,_=>⟨owner,js,rfl,O,rfl⟩
 | h::hs,owner,js,O,hl=>by
  simp only [Fb] at hl
  obtain ⟨g,hg,ng⟩:=jQ (l:=js) (m:=m) (by lia)
  have hi:bits h % (m+1)<=m:=G6.mp (Jj _ (G7 _))
  obtain ⟨k,hk,ek⟩:=reach hm hi (kT h) hg
  obtain ⟨j,hj,fj⟩:=h9 (owner:=owner) k (turns m) (bits h % (m+1)) (bits h) (by rw [ek]; exact O.at_none hg ng) (by unfold turns; lia)
  obtain ⟨jm,nj⟩:=O.none_at fj
  obtain ⟨o',js',e,O',l'⟩:=qg hm hs _ _ (O.step jm nj) (by simp; lia)
  refine ⟨o',js',?_,O',by rw [l']; simp; lia⟩
  rw [KQ,<- e]
  congr 1
  show (do let j <- layClean.free m owner (turns m) (bits h % (m+1)) (bits h); pure (owner.setIfInBounds j (some js.length),js.length+1))=_
  rw [hj]
  simp
theorem pD {m:Nat} (hm:iI m) (hs:Array Int) (hl:hs.size<=m):∃ owner js,layClean m hs=some owner/\Own m owner js/\js.length=hs.size:=by
 obtain ⟨o',js',e,O',l'⟩:=qg hm hs.toList _ [] (Own.start m) (by simpa using hl)
 refine ⟨o',js',?_,O',by simpa using l'⟩
 unfold layClean
 rw [<- Array.foldl_toList]
 have e':=congrArg (Option.map (·.1)) e
 exact e'
noncomputable def bS (m:Nat) (owner:Array (Option Nat)):List (Nat × Nat):=(EM (m+1)).filterMap fun j=>(owner.getD j none).map (j,·)
theorem di {m:Nat} {owner:Array (Option Nat)} {js:List Nat} (O:Own m owner js) {j k:Nat}:(j,k)∈bS m owner↔js[k]? = some j:=by
 unfold bS
 rw [JV]
 constructor
 ·rintro ⟨i,hi,e⟩
  cases o:owner.getD i none with
  | none=>rw [o] at e; cases e
  | some q =>
   rw [o] at e
   have:i=j/\q=k:=by simpa using e
   rw [<- this.1,<- this.2]
   exact (O.own i q).mp o
 ·intro h
  have hj:=O.top j (ES h)
  exact ⟨j,E6.mpr (by lia),by rw [(O.own j k).mpr h]; rfl⟩
theorem iq {m:Nat} {owner:Array (Option Nat)}:((bS m owner).map (·.1)).Sublist (EM (m+1)):=by
 unfold bS
 generalize EM (m+1)=l
 induction l with
 | nil=>exact .slnil
 | cons j l ih =>
  rw [Gq]
  cases o:owner.getD j none with
  | none=>exact ih.cons j
  | some k=>exact ih.cons₂ j
theorem tF (n:Nat):(EM n).Pairwise (· < ·):=KG
theorem yE {l:List (Nat × Nat)} (h1:(l.map (·.1)).Nodup) (h2:∀ j j' k,(j,k)∈l->(j',k)∈l->j=j'):(l.map (·.2)).Nodup:=by
 induction l with
 | nil=>exact IH
 | cons p l ih =>
  rw [E2,Gs] at h1 |-
  refine ⟨fun z=>?_,ih h1.2 fun j j' k a b=>h2 j j' k (EH _ a) (EH _ b)⟩
  obtain ⟨q,hq,e⟩:=ER.mp z
  have:p.1=q.1:=h2 p.1 q.1 p.2 (Fe ..) (by rw [<- e]; exact EH _ hq)
  exact h1.1 (ER.mpr ⟨q,hq,this.symm⟩)
theorem yd {m:Nat} (hm:iI m) (f mv:Nat) (led plain:Bool) (hs:Array Int) (hl:hs.size<=m) :
  ∃ t order,Jb m f mv led plain hs=some (t,order)/\Tab t hs.size/\t.mask=m/\t.led=led/\t.plain=plain/\order.toList.Perm (EM hs.size):=by
 obtain ⟨owner,js,e,O,l⟩:=pD hm hs hl
 have nd1:((bS m owner).map (·.1)).Nodup:=(iq (m:=m) (owner:=owner)).nodup Jv
 have nd2:((bS m owner).map (·.2)).Nodup:=yE nd1 fun j j' k a b=>by
  have x:=(di O).mp a
  have y:=(di O).mp b
  rw [x] at y
  exact FB y
 have pm:((bS m owner).map (·.2)).Perm (EM hs.size):=by
  refine (JU nd2 Jv).mpr fun k=>?_
  rw [ER,E6]
  constructor
  ·rintro ⟨⟨j,k'⟩,h,rfl⟩
   have:=(EC.mp ((di O).mp h)).1
   show k' < hs.size
   lia
  ·intro h
   have g:js[k]? = some (js[k]'(by lia)):=Da (by lia)
   exact ⟨(_,k),(di O).mpr g,rfl⟩
 have len:(bS m owner).length=hs.size:=by have:=pm.length_eq; rwa [Do,FR] at this
 refine ⟨{ mask:=m,place:=((bS m owner).map (·.1)).toArray,dummies:=#[],finger:=f,led:=led,moves:=mv,plain:=plain },((bS m owner).map (·.2)).toArray,?_,⟨hm,?_,?_,rfl,?_,?_⟩,rfl,rfl,rfl,by simpa using pm⟩
 ·unfold Jb
  rw [e]
  rfl
 ·show cH (((bS m owner).map (·.1)).toArray).toList
  rw [JP]
  exact (tF (m+1)).sublist iq
 ·intro j hj
  have hj':j∈(((bS m owner).map (·.1)).toArray).toList:=hj
  rw [JP] at hj'
  have:=E6.mp (iq.subset hj')
  show j<=m
  lia
 ·show (((bS m owner).map (·.1)).toArray).size=hs.size
  simp [len]
 ·show (((bS m owner).map (·.1)).toArray).size<=m
  simp [len]
  exact hl
structure Good (t:FU) (n:Nat):Prop where
 tab:Tab t n
 lax:t.tooFull=false
theorem Good.room {t:FU} {n:Nat} (G:Good t n):n*5 < t.mask*3:=by
 have h:=G.lax
 unfold tooFull fill at h
 rw [G.tab.dum,G.tab.len] at h
 simp at h
 lia
theorem Good.fresh (f mv:Nat) (led:Bool):Good (.fresh f mv led) 0:=⟨Tab.fresh f mv led,by unfold tooFull fill SetTable.fresh; simp⟩
theorem Tab.fits {t:FU} {n:Nat} (T:Tab t n):(t.place.size != n || decide (t.fill > t.mask))=false:=by
 have:=T.few
 unfold fill
 rw [T.dum,T.len] at *
 simp
 lia
theorem Good.put {t:FU} {n j:Nat} (G:Good t n) (h64:n < 64) (hj:j∉t.place.toList) (hjm:j<=t.mask) :
  Tab (t.put j).1 (n+1)/\(t.put j).2=below t.place j/\(t.put j).1.plain=t.plain/\(t.put j).1.led=t.led /\
   ((t.put j).1.tooFull=true->∀ hs:Array Int,hs.size=n+1->sizeAbove (grown (n+1))<=128/\∃ t' order,(t.put j).1.relaid hs (grown (n+1))=some (t',order)/\Good t' (n+1)/\t'.led=t.led/\t'.plain=t.plain/\order.toList.Perm (EM (n+1))):=by
 have r:=G.room
 have hm:=G.tab.msk
 obtain ⟨T,e2,e3,e4,e5⟩:=G.tab.put hj hjm (by rcases hm with e | e | e<;>lia)
 refine ⟨T,e2,e3,e4,fun hf hs hsz=>?_⟩
 have hf':t.mask*3<=(n+1)*5:=by
  unfold tooFull fill at hf
  rw [T.dum,T.len,e5] at hf
  simpa using hf
 have key:∀ m,iI m->sizeAbove (grown (n+1))=m+1->n+1<=m->(n+1)*5 < m*3->∃ t' order,(t.put j).1.relaid hs (grown (n+1))=some (t',order)/\Good t' (n+1)/\t'.led=t.led/\t'.plain=t.plain/\order.toList.Perm (EM (n+1)):=fun m mm em le lx=>by
  unfold relaid
  rw [em,GS]
  obtain ⟨t',order,a1,a2,a3,a4,a5,a6⟩:=yd mm (t.put j).1.finger ((t.put j).1.movedTo m) (t.put j).1.led (t.put j).1.plain hs (by lia)
  rw [hsz] at a2 a6
  refine ⟨t',order,a1,⟨a2,?_⟩,a4.trans e4,a5.trans e3,a6⟩
  unfold tooFull fill
  rw [a2.dum,a2.len,a3]
  simp
  lia
 rcases hm with e | e | e
 ·have en:n=4:=by lia
  subst en
  exact ⟨by decide,key 31 (.inr (.inl rfl)) (by decide) (by decide) (by decide)⟩
 ·have en:n=18:=by lia
  subst en
  exact ⟨by decide,key 127 (.inr (.inr rfl)) (by decide) (by decide) (by decide)⟩
 ·lia
end Sx
namespace Sx
open PySem PyProof.Rows
noncomputable def ff (p:Int × Int):Int:=reduceHash (Builtin.Tuple.tupleHashOf [hashInt p.1,hashInt p.2])
section
variable {prog:Fm} {w:FH} {A:FE} {E:Ey->Ez->Prop} {s:Ez}
noncomputable abbrev cE (prog:Fm) (w:FH) (h:GP) (T:EK) (p:Int × Int):Prop:=IsTupleKey (intKind prog w) h [p.1,p.2] T
theorem yi {h:GP} {T:EK} {p:Int × Int} {o:Obj} {n:Nat} {t u:Tok} (ho:h.get? T=some o) (hc:o.cls = .type "tuple") (hd:o.data = .seq #[.int p.1 t,.int p.2 u] n):cE prog w h T p :=
 ⟨o,_,n,ho,hc,hd,.cons (intKind_is _ _ _ _) (.cons (intKind_is _ _ _ _) .nil)⟩
theorem iW {p:Int × Int} {items:List Ey} (h:ItemsAre (intKind prog w) [p.1,p.2] items):∃ t u,items=[.int p.1 t,.int p.2 u]:=by
 cases h with
 | cons h1 h =>
  cases h with
  | cons h2 h =>
   cases h
   obtain ⟨t,rfl⟩:=J2 h1
   obtain ⟨u,rfl⟩:=J2 h2
   exact ⟨t,u,rfl⟩
theorem o9 {T:EK} {p:Int × Int} {Q:Bool->Ez->Prop} (hk:cE prog w s.heap T p) (q:Q true s):wpAny (model prog w) A (hashByValue 8 (.ref T)) Q E s:=by
 have hT:=hk.typeIs
 obtain ⟨o,items,n,ho,hc,hd,hi⟩:=hk
 obtain ⟨t,u,ei⟩:=iW hi
 have ea:items = #[.int p.1 t,.int p.2 u]:=by
  cases items
  simp only at ei
  rw [ei]
 subst ea
 unfold hashByValue
 refine mo (JO hT F.slot_tuple_hash.lookup ?_)
 simp only
 refine mo ?_
 unfold seqItems?
 refine mo (wpAny_load ho ?_)
 rw [hd]
 refine EE ?_
 simp only [Ie,<- Hy,IW,J0,hashByValue,pure_bind]
 simp only [G1,EG,if_false,pure_bind]
 exact EE q
structure wg (h:GP) (a:EK) (led:Bool) (es:Array (Int × Ey)):Prop where
 at_:∃ o ep t,h.get? a=some o/\o.ExactSet/\o.data = .set es ep t/\Good t es.size/\t.led=led/\t.plain=true
theorem fits_of {t:FU} {n:Nat} (T:Tab t n):t.fits n=true:=by
 have h:=T.fits
 unfold SetTable.fits
 rw [Bool.or_eq_false_iff] at h
 rw [EW]
 refine ⟨by simpa using h.1,?_⟩
 have:=h.2
 simp at this
 simp
 lia
theorem j7 {h:GP} {a:EK} {o:Obj} {es es':Array (Int × Ey)} {ep:Nat} {t t':FU} (ho:h.get? a=some o) (hd:o.data = .set es ep t):(h.update a (K1 es' t')).get? a=some { o with data:=.set es' (ep+1) t' }:=by
 have:=Fz (K1 es' t') ho (by rw [putSet_of es' t' hd]; rfl)
 rw [putSet_of es' t' hd] at this
 exact this
theorem ju {α:Type} {es:Array α} {order:Array Nat} (h:order.toList.Perm (EM es.size)):(order.filterMap (es[·]?)).toList.Perm es.toList:=by
 rw [KI]
 refine (h.filterMap _).trans ?_
 have:(EM es.size).filterMap (fun i=>es[i]?)=es.toList:=by
  have e:(fun i=>es[i]?)=fun i=>es.toList[i]?:=funext fun i=>Fu.symm
  rw [e,show es.size=es.toList.length from EY.symm]
  generalize es.toList=l
  induction l with
  | nil=>rfl
  | cons a l ih =>
   rw [Fb,Ho,Gq]
   simp only [HU,List.filterMap_map]
   congr 1
 rw [this]
theorem wJ {a:EK} {o:Obj} {es:Array (Int × Ey)} {ep:Nat} {t t':FU} {order:Array Nat} {wanted:Nat} {Q:Unit->Ez->Prop} (ho:s.heap.get? a=some o) (hd:o.data = .set es ep t) (T:Tab t es.size) (h64:es.size<=64)
  (hz:SetTable.sizeAbove wanted<=128) (hr:t.relaid (es.map (·.1)) wanted=some (t',order)) (pm:order.toList.Perm (EM es.size))
  (q:Q () { s with heap:=s.heap.update a (K1 (order.filterMap (es[·]?)) t') }):wpAny (model prog w) A (setRelay a wanted) Q E s:=by
 have fp:=ju pm
 have fs:(order.filterMap (es[·]?)).size=es.size:=by rw [<- EY,fp.length_eq,EY]
 unfold setRelay
 refine mo (GO ho hd (fits_of T) ?_)
 simp only
 rw [if_neg (by rw [Gk]; lia),hr]
 refine mo ?_
 show wpAny (model prog w) A (if ((order.filterMap (es[·]?)).size != es.size)=true then _ else _) _ E s
 rw [if_neg (by rw [fs]; simp)]
 refine EE ?_
 exact wpAny_storeSet_of ho hd q (by rw [fs,Gk]; lia)
end
end Sx
namespace Sx
open PySem PyProof.Rows
theorem slot_next:Slot "set_iterator" "__next__" "set_iterator.__next__" :=
 .of (owner:="set_iterator") (n:="__next__") (by rw [JN,Ir]; kernel_rfl) (by decide +kernel) (by decide +kernel) (by decide +kernel)
  (by first | exact .inl (by decide +kernel) | exact .inr (by decide +kernel)) (by rw [isSubtype_type]; kernel_rfl)
theorem entry_next:entryFor table "set_iterator.__next__" = some Builtin.«set_iterator.__next__»:=entryFor_of_tree (by kernel_rfl)
theorem qI:entryFor table "set.__iter__" = some Builtin.«frozenset.__iter__» :=
 entryFor_alias (id':="frozenset.__iter__") (by kernel_rfl) rfl (by decide +kernel) (by kernel_rfl)
theorem nR:Manifest.owners.lookup (String.ofList ['r','o','t','a','r','e','t','i','_','t','e','s'].reverse)=some Manifest.sig_set_iterator:=by kernel_rfl
theorem args_next (a:Ey):argsOk "set_iterator.__next__" ⟨[a],[]⟩:=by
 unfold argsOk; rw [signature?_of (id:="set_iterator.__next__") (n:=['_','_','t','x','e','n','_','_']) (o:=['r','o','t','a','r','e','t','i','_','t','e','s']) (by kernel_rfl) nR]; kernel_rfl
theorem qz {α:Type} (next:Nat->Nat):∀ (fuel k:Nat) (left:List α) (out:Array α),left.length=fuel->(Lv next fuel k left out).toList.Perm (out.toList++left)
 | 0,k,left,out,h=>by
  have:left=[]:=Ih h
  subst this
  unfold Lv
  rw [Ff]
 | fuel+1,k,left,out,h=>by
  have lt:next k % left.length < left.length:=Jj _ (by lia)
  unfold Lv
  rw [Da lt]
  simp only
  refine (qz next fuel (k+1) _ _ (by rw [List.length_eraseIdx_of_lt lt]; lia)).trans ?_
  rw [Ft,E9]
  refine Ga _ ?_
  rw [List.eraseIdx_eq_take_drop_succ]
  have e:=IP (a:=left[next k % left.length]) (l₁:=left.take (next k % left.length)) (l₂:=left.drop (next k % left.length+1))
  rw [List.getElem_cons_drop,G5] at e
  exact e.symm
theorem uy {α:Type} (next:Nat->Nat) (xs:Array α):(pickOrder next xs).toList.Perm xs.toList:=by
 have:=qz next xs.size 0 xs.toList #[] (by simp)
 exact this
noncomputable def bL (w:FH):Bool:=w.params.followText "set-order"
noncomputable def wk (w:FH) (a:EK) (ep:Nat) (es:Array (Int × Ey)):Array (Int × Ey):=if bL w=true then pickOrder (w.params.setOrder a ep) es else es
theorem qv (w:FH) (a:EK) (ep:Nat) (es:Array (Int × Ey)):(wk w a ep es).toList.Perm es.toList:=by
 unfold wk
 split
 ·exact uy _ _
 ·exact .refl _
theorem gY (w:FH) (a:EK) (ep:Nat) (es:Array (Int × Ey)):(wk w a ep es).size=es.size:=by
 rw [<- EY,(qv w a ep es).length_eq,EY]
noncomputable abbrev xQ (h:GP) (I a:EK) (slot i n ep:Nat):Prop:=h.get? I=some { cls:=.type "set_iterator",dict:=none,data:=.fields #[rawInt slot,rawInt i,.ref a,rawInt n,rawInt ep],slots:=#[] }
theorem kj (xs:Array Nat) (hr:cH xs.toList):Il xs 0=0:=by
 obtain ⟨h0,h1,h2⟩:=below_at xs 0 hr
 rcases Nat.eq_zero_or_pos (Il xs 0) with z | z
 ·exact z
 ·have:=h1 0 xs[0] z (EI (by lia))
  lia
theorem qP {xs:Array Nat} {i j:Nat} (hr:cH xs.toList) (h:xs[i]? = some j):Il xs (j+1)=i+1:=by
 obtain ⟨h0,h1,h2⟩:=below_at xs (j+1) hr
 obtain ⟨li,ei⟩:=Fk.mp h
 have mono:∀ a b x y,a < b->xs[a]? = some x->xs[b]? = some y->x < y:=fun a b x y hab ha hb=>by
  obtain ⟨la,ea⟩:=Fk.mp ha
  obtain ⟨lb,eb⟩:=Fk.mp hb
  have:=E1.mp hr a b (by simpa using la) (by simpa using lb) hab
  simp only [JA] at this
  omega
 rcases Ka (Il xs (j+1)) (i+1) with z | z | z
 ·have:=h2 i j (by lia) h; lia
 ·exact z
 ·have l:i+1 < xs.size:=by lia
  have g:=EI l
  have a1:=h1 (i+1) _ z g
  have a2:=mono i (i+1) j _ (by lia) h g
  lia
section
variable {prog:Fm} {w:FH} {A:FE} {E:Ey->Ez->Prop} {s:Ez}
theorem ig {Q:Bool->Ez->Prop} (q:Q (bL w) s):wpAny (model prog w) A setsByText Q E s:=by
 unfold setsByText
 exact mo (Kz (EE q))
theorem wc {a:EK} {o:Obj} {es:Array (Int × Ey)} {ep:Nat} {t:FU} {Q:Ey->Ez->Prop} (ho:s.heap.get? a=some o) (hex:o.ExactSet) (hd:o.data = .set es ep t) (T:Tab t es.size) (pl:t.plain=true)
  (q:Q (.ref s.heap.objs.size) { s with heap:=s.heap.push { cls:=.type "set_iterator",dict:=none,data:=.fields #[rawInt 0,rawInt 0,.ref a,rawInt es.size,rawInt ep],slots:=#[] } }):wpAny (model prog w) A (pyIter (.ref a)) Q E s:=by
 have hT:s.TypeIs (.ref a) "set":=⟨o,ho,hex.1⟩
 refine wpAny_pyIter_slot hT F.slot_set_iter (GV F.slot_set_iter hT qI ?_ (F.args_set_iter_1 _))
 unfold Builtin.«frozenset.__iter__» Builtin.Frozenset.slot0 slotArgs
 simp only [KA,G1,EG,↓reduceIte,bind_assoc,KW,bne_self_eq_false]
 unfold Builtin.Frozenset.addrOf Builtin.Frozenset.sizeOf
 refine mo (EE ?_)
 try dsimp only
 refine mo (EE ?_)
 refine mo (mo (JQ ho hd (fits_of T) (EE ?_)))
 refine mo ?_
 unfold setDrawn
 refine mo (GO ho hd (fits_of T) ?_)
 refine mo (ig (EE ?_))
 have nd:¬ ((!bL w&&(!t.plain&&decide (es.size > 1)))=true):=by rw [pl]; simp
 refine Iu (fun h=>absurd h nd) (fun _=>?_)
 refine mo (EE ?_)
 refine mo (wpAny_setEpoch_of ho hd (fits_of T) ?_)
 unfold newFields
 refine mo (Hi ?_)
 refine EE ⟨_,rfl,"set_iterator",_,⟨_,Fd _ rfl,rfl⟩,slot_next.lookup,q⟩
structure jd (w:FH) (h:GP) (I a:EK) (es:Array (Int × Ey)) (ep:Nat) (t:FU) (i:Nat):Prop where
 it:∃ slot,xQ h I a slot i es.size ep/\(bL w=false->Il t.place slot=i)
 st:∃ o,h.get? a=some o/\o.data = .set es ep t
theorem pW {a:EK} {o:Obj} {es:Array (Int × Ey)} {ep slot i:Nat} {t:FU} {Q:Option (Ey × Nat)->Ez->Prop} (ho:s.heap.get? a=some o) (hd:o.data = .set es ep t) (T:Tab t es.size) (pl:t.plain=true) (ld:t.led = !bL w)
  (hs:bL w=false->Il t.place slot=i)
  (q0:es.size<=i->Q none s) (q1:∀ e nx,(wk w a ep es)[i]? = some e->(bL w=false->Il t.place nx=i+1)->Q (some (e.2,nx)) s):wpAny (model prog w) A (setNext a slot i ep) Q E s:=by
 unfold setNext
 refine mo (GO ho hd (fits_of T) ?_)
 refine mo (ig ?_)
 cases hb:bL w with
 | true =>
  simp only [if_true,bne_self_eq_false,EG,if_false]
  refine mo ?_
  unfold setWalk
  refine mo (GO ho hd (fits_of T) ?_)
  refine mo (ig ?_)
  simp only [hb,if_true]
  refine mo (Kz (EE (EE ?_)))
  have ew:wk w a ep es=pickOrder (w.params.setOrder a ep) es:=by unfold wk; rw [if_pos hb]
  show Q (((pickOrder (w.params.setOrder a ep) es)[i]?).map fun e=>(e.2,slot)) s
  rw [<- ew]
  by_cases hi:i < es.size
  ·rw [EI (show i < (wk w a ep es).size by rw [gY]; exact hi)]
   exact q1 _ slot (EI (show i < (wk w a ep es).size by rw [gY]; exact hi)) fun z=>by rw [hb] at z; cases z
  ·rw [Gn (by rw [gY]; lia)]
   exact q0 (by lia)
 | false =>
  simp only [EG,if_false]
  have nd:¬ ((!t.plain&&decide (es.size > 1))=true):=by rw [pl]; simp
  refine Iu (fun h=>absurd h nd) (fun _=>?_)
  refine mo ?_
  show wpAny (model prog w) A (if (!t.led&&!es.isEmpty)=true then _ else _) _ E s
  rw [if_neg (by rw [ld,hb]; simp)]
  refine EE (EE ?_)
  rw [hs hb]
  have ew:wk w a ep es=es:=by unfold wk; rw [hb,if_neg (by decide)]
  by_cases hi:i < es.size
  ·have g1:=EI hi
   have g2:=EI (show i < t.place.size by rw [T.len]; exact hi)
   rw [g1,g2]
   exact q1 _ _ (by rw [ew]; exact g1) fun _=>qP T.ris g2
  ·rw [Gn (show es.size<=i by lia)]
   exact q0 (by lia)
theorem uK {I a:EK} {es:Array (Int × Ey)} {ep i:Nat} {t:FU} {Q:Ey->Ez->Prop} (hne:a≠I) (S:jd w s.heap I a es ep t i) (T:Tab t es.size) (pl:t.plain=true) (ld:t.led = !bL w) (hi:i < es.size)
  (q:∀ e h',(wk w a ep es)[i]? = some e->jd w h' I a es ep t (i+1)->IT I s.heap h'->Q e.2 { s with heap:=h' }) :
  wpAny (model prog w) A (Builtin.«set_iterator.__next__» ⟨[.ref I],[]⟩) (fun fin s'=>∃ v,fin = .done (.ret v)/\Q v s') E s:=by
 obtain ⟨⟨slot,hit,hs⟩,o,ho,hd⟩:=S
 unfold Builtin.«set_iterator.__next__» slotArgs
 simp only [KA,G1,EG,↓reduceIte,KW,bne_self_eq_false,pure_bind]
 refine mo (wpAny_fieldsOf hit rfl ?_)
 show wpAny (model prog w) A (setEntries a >>= _) _ E s
 refine mo (JQ ho hd (fits_of T) ?_)
 rw [if_neg (by simp)]
 show wpAny (model prog w) A (setNext a ((slot:Int)).toNat ((i:Int)).toNat ((ep:Int)).toNat >>= _) _ E s
 rw [Gy,Gy,Gy]
 refine mo (pW ho hd T pl ld hs (fun z=>absurd z (by lia)) fun e nx he hn=>?_)
 show wpAny (model prog w) A (setField (.ref I) 0 (rawInt nx) >>= _) _ E s
 refine mo (Ja hit (by simp) fun h1 hit1 sb1=>?_)
 show wpAny (model prog w) A (setField (.ref I) 1 (rawInt ((i:Int)+1)) >>= _) _ E _
 refine mo (Ja hit1 (by simp) fun h2 hit2 sb2=>?_)
 have sb:=sb1.trans sb2
 refine EE ⟨_,rfl,q e h2 he ⟨⟨nx,?_,hn⟩,o,(sb.2 a hne).trans ho,hd⟩ sb⟩
 show h2.get? I=_
 rw [hit2]
 rfl
theorem vx {I a:EK} {es:Array (Int × Ey)} {ep i:Nat} {t:FU} {Q:Lz->Ez->Prop} (hh:A.handled=none) (S:jd w s.heap I a es ep t i) (T:Tab t es.size) (pl:t.plain=true) (ld:t.led = !bL w) (hi:es.size<=i)
  (hE:∀ h' e,Heap.ExtBut I s.heap h'->(∃ o,h'.get? e=some o/\o.cls = .type "StopIteration")->E (.ref e) { s with heap:=h' }) :
  wpAny (model prog w) A (Builtin.«set_iterator.__next__» ⟨[.ref I],[]⟩) Q E s:=by
 obtain ⟨⟨slot,hit,hs⟩,o,ho,hd⟩:=S
 unfold Builtin.«set_iterator.__next__» slotArgs
 simp only [KA,G1,EG,↓reduceIte,KW,bne_self_eq_false,pure_bind]
 refine mo (wpAny_fieldsOf hit rfl ?_)
 show wpAny (model prog w) A (setEntries a >>= _) _ E s
 refine mo (JQ ho hd (fits_of T) ?_)
 rw [if_neg (by simp)]
 show wpAny (model prog w) A (setNext a ((slot:Int)).toNat ((i:Int)).toNat ((ep:Int)).toNat >>= _) _ E s
 rw [Gy,Gy,Gy]
 refine mo (pW ho hd T pl ld hs (fun _=>?_) fun e nx he hn=>?_)
 ·show wpAny (model prog w) A (setField (.ref I) 2 .none >>= _) _ E s
  refine mo (Ja hit (by simp) fun h1 hit1 sb1=>?_)
  show wpAny _ _ (newExc (.type "StopIteration") [] >>= _) _ _ _
  refine mo ?_
  simp only [newExc,newTuple]
  refine mo (Hi ?_ (by size_fits))
  refine mo (m:=firstArgMember _ _) (wpAny_of_eq (a:=FV) (by first | rfl | (simp only [firstArgMember]; rfl)) ?_)
  refine Hi ?_ (by size_fits)
  simp only [raiseNew]
  refine mo (wpAny_handled ?_)
  rw [hh]
  refine mo (EE (wpAny_throw ?_))
  exact hE _ _ (fun b o hb e=>EB _ (EB _ (sb1.extBut b o hb e))) ⟨_,Fd _ rfl,rfl⟩
 ·have:=(Fk.mp he).1
  rw [gY] at this
  lia
theorem slot_self:Slot "set_iterator" "__iter__" "set_iterator.__iter__" :=
 .of (owner:="set_iterator") (n:="__iter__") (by rw [JN,Ir]; kernel_rfl) (by decide +kernel) (by decide +kernel) (by decide +kernel)
  (by first | exact .inl (by decide +kernel) | exact .inr (by decide +kernel)) (by rw [isSubtype_type]; kernel_rfl)
theorem entry_self:entryFor table "set_iterator.__iter__" = some Builtin.«dict_keyiterator.__iter__» :=
 entryFor_alias (id':="dict_keyiterator.__iter__") (by kernel_rfl) rfl (by decide +kernel) (by kernel_rfl)
theorem args_self (a:Ey):argsOk "set_iterator.__iter__" ⟨[a],[]⟩:=by
 unfold argsOk; rw [signature?_of (id:="set_iterator.__iter__") (n:=['_','_','r','e','t','i','_','_']) (o:=['r','o','t','a','r','e','t','i','_','t','e','s']) (by kernel_rfl) nR]; kernel_rfl
theorem va (hh:A.handled=none) (I a:EK) (hne:a≠I) (es:Array (Int × Ey)) (ep:Nat) (t:FU) (T:Tab t es.size) (pl:t.plain=true) (ld:t.led = !bL w) :
  Walks prog w A I [I,a] [I] es.size (fun i v=>∃ e,(wk w a ep es)[i]? = some e/\v=e.2) (fun i h=>jd w h I a es ep t i) where
 sub:=fun b hb=>by simp at hb; simp [hb]
 frame:=fun i h h' st hk=>by
  obtain ⟨⟨slot,hit,hs⟩,o,ho,hd⟩:=st
  exact ⟨⟨slot,hk I (by simp) _ hit,hs⟩,o,hk a (by simp) _ ho,hd⟩
 item:=fun i s Q E hi st hQ=>by
  obtain ⟨slot,hit,_⟩:=st.it
  have hT:s.TypeIs (.ref I) "set_iterator":=⟨_,hit,rfl⟩
  unfold pyNext
  refine mo (JG (Ib (name:=Fh "__next__") hT slot_next (GV slot_next hT entry_next
   (uK hne st T pl ld hi fun e h' he S' sb=>EE ?_) (args_next _))))
  exact hQ e.2 h' s.toks ⟨e,he,rfl⟩ S' fun b o hb x=>sb.extBut b o (fun z=>hb (by simp [z])) x
 done:=fun s Q E st hQ=>by
  obtain ⟨slot,hit,_⟩:=st.it
  have hT:s.TypeIs (.ref I) "set_iterator":=⟨_,hit,rfl⟩
  unfold pyNext
  refine mo (JG (Ib (name:=Fh "__next__") hT slot_next (GV slot_next hT entry_next
   (vx (A:=A.in1) hh st T pl ld (EF _) fun h' e k he=>?_) (args_next _))))
  obtain ⟨o,ho,hc⟩:=he
  exact mo (Ky (T:="StopIteration") (b:=true) ⟨o,ho,hc⟩ isSubtype_stop (EE (hQ _ s.toks fun b o hb x=>k b o (fun z=>hb (by simp [z])) x)))
 self:=fun i s Q E st hQ=>by
  obtain ⟨slot,hit,_⟩:=st.it
  have hT:s.TypeIs (.ref I) "set_iterator":=⟨_,hit,rfl⟩
  refine wpAny_pyIter_slot hT slot_self (GV slot_self hT entry_self ?_ (args_self _))
  show wpAny _ _ (ret (.ref I)) _ _ s
  exact EE ⟨_,rfl,"set_iterator",_,hT,slot_next.lookup,hQ⟩
end
end Sx
namespace Sx
open PySem PySem.SetTable PyProof.Rows
noncomputable def iB (m:Nat) (p:Probe):Probe :=
 if p.more > 0 then { p with j:=p.j+1,more:=p.more - 1 } else begin_ m (leap m p.i p.perturb).1 (leap m p.i p.perturb).2
noncomputable def bO (m:Nat):Nat->Probe->Probe
 | 0,p=>p
 | k+1,p=>bO m k (iB m p)
theorem bZ (m:Nat):∀ (a b:Nat) (p:Probe),bO m (a+b) p=bO m b (bO m a p)
 | 0,b,p=>by rw [GM]; rfl
 | a+1,b,p=>by rw [show a+1+b=(a+b)+1 by lia]; exact bZ m a b _
theorem uf {t:FU} {p:Probe} (h:p.dummy=none):t.advance p=iB t.mask p/\(iB t.mask p).dummy=none:=by
 unfold advance iB
 split
 ·exact ⟨rfl,h⟩
 ·refine ⟨?_,rfl⟩
  unfold begin_
  rw [h]
theorem my (m:Nat):∀ (k:Nat) {p:Probe},p.dummy=none->(bO m k p).dummy=none
 | 0,p,h=>h
 | k+1,p,h=>my m k (by unfold iB; split; exact h; rfl)
theorem uw {m:Nat}:∀ (k:Nat) {p:Probe},p.j+p.more<=m->(bO m k p).j+(bO m k p).more<=m
 | 0,p,h=>h
 | k+1,p,h=>uw k (by
  unfold iB
  split
  ·show p.j+1+(p.more - 1)<=m; lia
  ·exact ik (G6.mp (Jj _ (G7 _))))
noncomputable abbrev fR (m:Nat) (h:Int):Probe:=begin_ m (bits h % (m+1)) (bits h)
theorem yV (m:Nat) (h:Int):(fR m h).j+(fR m h).more<=m:=ik (G6.mp (Jj _ (G7 _)))
def Way (m:Nat) (oc:List Nat) (h:Int) (j:Nat):Prop:=∃ k,(bO m k (fR m h)).j=j/\∀ n < k,(bO m n (fR m h)).j∈oc
theorem Way.mono {m:Nat} {oc oc':List Nat} {h:Int} {j:Nat} (W:Way m oc h j) (s:∀ x∈oc,x∈oc'):Way m oc' h j:=by
 obtain ⟨k,e,a⟩:=W
 exact ⟨k,e,fun n hn=>s _ (a n hn)⟩
theorem lV {t:FU} {j i:Nat} (h:t.slot j = .live i):t.place[i]? = some j:=by
 have e:t.slot j=if (t.place[below t.place j]? == some j)=true then .live (below t.place j) else if has t.dummies j=true then .dummy else .empty:=rfl
 rw [e] at h
 by_cases c:(t.place[below t.place j]? == some j)=true
 ·rw [if_pos c] at h
  cases h
  simpa using c
 ·rw [if_neg c] at h
  by_cases d:has t.dummies j=true
  ·rw [if_pos d] at h; cases h
  ·rw [if_neg d] at h; cases h
theorem wN {t:FU} {j i:Nat} (h:t.slot j = .live i):j∈t.place.toList:=ES (i:=i) (by rw [Fu]; exact lV h)
theorem qA {t:FU} {h:Int} {j:Nat} (hd:t.dummies = #[]):∀ (fuel:Nat) (p:Probe),p.dummy=none->probe.go t (fun _=>h+1) h fuel p=some (.empty j none) ->
  ∃ K,K < fuel/\(bO t.mask K p).j=j/\t.slot j = .empty/\∀ n < K,∃ i,t.slot (bO t.mask n p).j = .live i
 | 0,p,_,e=>by unfold probe.go at e; cases e
 | fuel+1,p,hp,e=>by
  unfold probe.go at e
  rcases g9 (t:=t) (j:=p.j) hd with z | ⟨i,z⟩
  ·rw [z] at e
   have:p.j=j:=by simpa using congrArg (fun o=>match o with | some (Met.empty j _)=>j | _=>0) e
   exact ⟨0,G7 _,this,this▸z,fun n hn=>absurd hn (Hk _)⟩
  ·rw [z] at e
   have ne:((h+1:Int) == h)=false:=by rw [beq_eq_false_iff_ne]; lia
   simp only [ne,EG,if_false] at e
   obtain ⟨ea,da⟩:=uf (t:=t) hp
   rw [ea] at e
   obtain ⟨K,hK,e1,e2,e3⟩:=qA hd fuel _ da e
   refine ⟨K+1,by lia,e1,e2,fun n hn=>?_⟩
   cases n with
   | zero=>exact ⟨i,z⟩
   | succ n=>exact e3 n (by lia)
theorem vI {t:FU} {n:Nat} (T:Tab t n) (h:Int):∃ K,K < 10*turns t.mask/\t.slot (bO t.mask K (fR t.mask h)).j = .empty/\(bO t.mask K (fR t.mask h)).j<=t.mask/\∀ n < K,∃ i,t.slot (bO t.mask n (fR t.mask h)).j = .live i:=by
 obtain ⟨j,e,nj,jm⟩:=sN (t:=t) (hashAt:=fun _=>h+1) (h:=h) T.msk T.ris T.dum T.few fun i _=>by lia
 obtain ⟨K,hK,e1,e2,e3⟩:=qA T.dum _ (fR t.mask h) rfl e
 exact ⟨K,hK,by rw [e1]; exact e2,by rw [e1]; exact jm,e3⟩
theorem ki {t:FU} {hashAt:Nat->Int} {h:Int}:∀ (r fuel:Nat) (p:Probe),r < fuel->p.dummy=none->(∀ n < r,∃ i,t.slot (bO t.mask n p).j = .live i)->t.slot (bO t.mask r p).j = .empty ->
  (probe.go t hashAt h fuel p=some (.empty (bO t.mask r p).j none)/\∀ n < r,∀ i,t.slot (bO t.mask n p).j = .live i->hashAt i≠h) \/
  ∃ n i,n < r/\t.slot (bO t.mask n p).j = .live i/\hashAt i=h/\(∀ n' < n,∀ i',t.slot (bO t.mask n' p).j = .live i'->hashAt i'≠h)/\probe.go t hashAt h fuel p=some (.candidate (bO t.mask n p).j i (bO t.mask (n+1) p))
 | r,0,p,hf,_,_,_=>by lia
 | 0,fuel+1,p,_,hp,_,he=>by
  refine .inl ⟨?_,fun n hn=>absurd hn (Hk _)⟩
  have he':t.slot p.j = .empty:=he
  unfold probe.go
  rw [he',hp]
  rfl
 | r+1,fuel+1,p,hf,hp,hl,he=>by
  obtain ⟨i,hi⟩:=hl 0 (G7 _)
  have hi':t.slot p.j = .live i:=hi
  obtain ⟨ea,da⟩:=uf (t:=t) hp
  by_cases c:hashAt i=h
  ·refine .inr ⟨0,i,G7 _,hi,c,fun n' hn=>absurd hn (Hk _),?_⟩
   have cb:(hashAt i == h)=true:=beq_iff_eq.mpr c
   unfold probe.go
   rw [hi']
   simp only [cb,if_true,ea]
   rfl
  ·have cb:(hashAt i == h)=false:=beq_eq_false_iff_ne.mpr c
   have st:probe.go t hashAt h (fuel+1) p=probe.go t hashAt h fuel (iB t.mask p):=by
    conv=>lhs; unfold probe.go
    rw [hi',ea]
    simp only [cb,EG,if_false]
   rw [st]
   have first:∀ i',t.slot (bO t.mask 0 p).j = .live i'->hashAt i'≠h:=fun i' z=>by
    have z':t.slot p.j = .live i':=z
    rw [hi'] at z'
    cases z'
    exact c
   rcases ki r fuel (iB t.mask p) (by lia) da (fun n hn=>hl (n+1) (by lia)) he with ⟨a,b⟩ | ⟨n,i',a,b,d,e,f⟩
   ·refine .inl ⟨a,fun n hn=>?_⟩
    cases n with
    | zero=>exact first
    | succ n=>exact b n (by lia)
   ·refine .inr ⟨n+1,i',by lia,b,d,fun n' hn=>?_,f⟩
    cases n' with
    | zero=>exact first
    | succ n'=>exact e n' (by lia)
def iE (t:FU) (es:Array (Int × Ey)):Prop:=∀ q∈t.place.toList.zip es.toList,Way t.mask t.place.toList q.2.1 q.1
theorem iE.at_ {t:FU} {es:Array (Int × Ey)} (W:iE t es) {i j:Nat} {e:Int × Ey} (hj:t.place[i]? = some j) (he:es[i]? = some e):Way t.mask t.place.toList e.1 j:=by
 refine W (j,e) (ES (i:=i) ?_)
 rw [G3]
 exact ⟨by rw [Fu]; exact hj,by rw [Fu]; exact he⟩
theorem iE.fresh (f mv:Nat) (led:Bool):iE (.fresh f mv led) #[]:=fun q hq=>by cases hq
theorem iE.put {t:FU} {es:Array (Int × Ey)} {j:Nat} {e:Int × Ey} (W:iE t es) (T:Tab t es.size) (w:Way t.mask t.place.toList e.1 j):iE (t.put j).1 (insertAt es (below t.place j) e):=by
 have h0:=(below_at t.place j T.ris).1
 have el:=dq t.place (below t.place j) j h0
 have el2:=dq es (below t.place j) e (by rw [<- T.len]; exact h0)
 have sub:∀ x∈t.place.toList,x∈(insertAt t.place (below t.place j) j).toList:=fun x hx=>by
  rw [el]
  exact (gL _ _ _).mem_iff.mpr (EH _ hx)
 intro q hq
 show Way t.mask (insertAt t.place (below t.place j) j).toList q.2.1 q.1
 have hq':q∈(insertAt t.place (below t.place j) j).toList.zip (insertAt es (below t.place j) e).toList:=hq
 rw [el,el2,List.zip_append (by rw [E5,E5,EY,EY,T.len]),List.zip_cons_cons] at hq'
 have tz:∀ (a:List Nat) (b:List (Int × Ey)) (p:Nat),(a.take p).zip (b.take p)=(a.zip b).take p:=fun a b p=>by rw [IR,IR,List.take_zipWith]
 have dz:∀ (a:List Nat) (b:List (Int × Ey)) (p:Nat),(a.drop p).zip (b.drop p)=(a.zip b).drop p:=fun a b p=>by rw [IR,IR,List.drop_zipWith]
 rw [tz,dz] at hq'
 rcases EN.mp hq' with z | z
 ·exact (W q (Jz z)).mono sub
 ·rcases ET.mp z with rfl | z
  ·exact w.mono sub
  ·exact (W q (List.mem_of_mem_drop z)).mono sub
theorem gQ {m i x:Nat}:∀ n,n<=runEnd m i - i->bO m n (begin_ m i x)={ begin_ m i x with j:=i+n,more:=runEnd m i - i - n }
 | 0,_=>rfl
 | n+1,h=>by
  rw [bZ m n 1,gQ n (by lia)]
  show iB m _=_
  unfold iB
  rw [if_pos (show runEnd m i - i - n > 0 by lia)]
  simp only [Probe.mk.injEq,and_true]
  exact ⟨by lia,by lia⟩
theorem vJ {m i x:Nat}:bO m (runEnd m i - i+1) (begin_ m i x)=begin_ m (leap m i x).1 (leap m i x).2:=by
 rw [bZ m (runEnd m i - i) 1,gQ _ (EF _)]
 show iB m _=_
 unfold iB
 rw [if_neg (by show ¬ (runEnd m i - i - (runEnd m i - i) > 0); lia)]
 rfl
theorem mF {m:Nat} {owner:Array (Option Nat)}:∀ (fuel i x j:Nat),layClean.free m owner fuel i x=some j->∃ K,(bO m K (begin_ m i x)).j=j/\∀ n < K,(owner.getD (bO m n (begin_ m i x)).j (some 0)).isNone=false
 | 0,i,x,j,e=>by unfold layClean.free at e; cases e
 | fuel+1,i,x,j,e=>by
  have hre:i<=runEnd m i:=by unfold runEnd; split<;>lia
  unfold layClean.free at e
  cases f:(EM (runEnd m i+1 - i)).find? fun k=>(owner.getD (i+k) (some 0)).isNone with
  | some a =>
   rw [f] at e
   have e':i+a=j:=by simpa using e
   obtain ⟨f1,f2,f3⟩:=List.find?_range_eq_some.mp f
   have f2':=E6.mp f2
   refine ⟨a,by rw [gQ a (by lia)]; exact e',fun n hn=>?_⟩
   rw [gQ n (by lia)]
   simpa using f3 n hn
  | none =>
   rw [f] at e
   have e':layClean.free m owner fuel (leap m i x).1 (leap m i x).2=some j:=e
   obtain ⟨K,e1,e2⟩:=mF fuel _ _ j e'
   have f1:=List.find?_range_eq_none.mp f
   rw [<- vJ] at e1 e2
   refine ⟨runEnd m i - i+1+K,by rw [bZ]; exact e1,fun n hn=>?_⟩
   by_cases c:n<=runEnd m i - i
   ·rw [gQ n c]
    simpa using f1 n (by lia)
   ·have:=e2 (n - (runEnd m i - i+1)) (by lia)
    rw [<- bZ,show runEnd m i - i+1+(n - (runEnd m i - i+1))=n by lia] at this
    exact this
def qY (m:Nat) (js:List Nat) (hs:List Int):Prop:=∀ q∈js.zip hs,Way m js q.2 q.1
theorem nF {m:Nat} (hm:iI m):∀ (hs hs0:List Int) (owner:Array (Option Nat)) (js:List Nat),Own m owner js->hs0.length=js.length->qY m js hs0->js.length+hs.length<=m ->
  ∃ owner' js',hs.foldl (fun acc h=>(do
   let (owner,k) <- acc
   let j <- layClean.free m owner (turns m) (bits h % (m+1)) (bits h)
   pure (owner.setIfInBounds j (some k),k+1))) (some (owner,js.length))=some (owner',js'.length)/\Own m owner' js'/\js'.length=js.length+hs.length/\qY m js' (hs0++hs)
 | [],hs0,owner,js,O,_,w,_=>⟨owner,js,rfl,O,rfl,by rw [Ff]; exact w⟩
 | h::hs,hs0,owner,js,O,l0,w,hl=>by
  simp only [Fb] at hl
  obtain ⟨g,hg,ng⟩:=jQ (l:=js) (m:=m) (by lia)
  have hi:bits h % (m+1)<=m:=G6.mp (Jj _ (G7 _))
  obtain ⟨k,hk,ek⟩:=reach hm hi (kT h) hg
  obtain ⟨j,hj,fj⟩:=h9 (owner:=owner) k (turns m) (bits h % (m+1)) (bits h) (by rw [ek]; exact O.at_none hg ng) (by unfold turns; lia)
  obtain ⟨jm,nj⟩:=O.none_at fj
  obtain ⟨K,k1,k2⟩:=mF _ _ _ _ hj
  have wj:Way m (js++[j]) h j:=⟨K,k1,fun n hn=>by
   have z:=k2 n hn
   have le:=uw n (yV m h)
   apply HF
   intro hc
   have:=O.at_none (j:=(bO m n (fR m h)).j) (by lia) (fun hx=>hc (Gi _ hx))
   rw [this] at z
   cases z⟩
  have w2:qY m (js++[j]) (hs0++[h]):=fun q hq=>by
   rw [List.zip_append l0.symm] at hq
   rcases EN.mp hq with z | z
   ·exact (w q z).mono fun x hx=>Gi _ hx
   ·have:q=(j,h):=by simpa using z
    rw [this]
    exact wj
  obtain ⟨o',js',e,O',l',w'⟩:=nF hm hs (hs0++[h]) _ _ (O.step jm nj) (by simp [l0]) w2 (by simp; lia)
  refine ⟨o',js',?_,O',by rw [l']; simp; lia,by rw [E9] at w'; exact w'⟩
  rw [KQ,<- e]
  congr 1
  show (do let j <- layClean.free m owner (turns m) (bits h % (m+1)) (bits h); pure (owner.setIfInBounds j (some js.length),js.length+1))=_
  rw [hj]
  simp
end Sx
namespace Sx
open PySem PySem.SetTable PyProof.Rows
theorem nT {es:Array (Int × Ey)}:∀ (L:List (Nat × Nat)),(∀ q∈L,q.2 < es.size)->∀ r∈(L.map (·.1)).zip ((L.map (·.2)).filterMap (es[·]?)),∃ k,(r.1,k)∈L/\es[k]? = some r.2
 | [],_,r,h=>by cases h
 | q::L,hl,r,h=>by
  have hq:=hl q (Fe ..)
  rw [E2,E2,Gq,EI hq] at h
  simp only [List.zip_cons_cons] at h
  rcases ET.mp h with rfl | h
  ·exact ⟨q.2,Fe ..,EI hq⟩
  ·obtain ⟨k,a,b⟩:=nT L (fun q hq=>hl q (EH _ hq)) r h
   exact ⟨k,EH _ a,b⟩
theorem v5 {m f mv:Nat} {led plain:Bool} {es:Array (Int × Ey)} {t:FU} {order:Array Nat} (e:Jb m f mv led plain (es.map (·.1))=some (t,order)) (T:Tab t es.size):iE t (order.filterMap (es[·]?)):=by
 have hm:t.mask=m:=by
  unfold Jb at e
  cases o:layClean m (es.map (·.1)) with
  | none=>rw [o] at e; cases e
  | some ow=>rw [o] at e; cases e; rfl
 have hM:=T.msk
 have few:=T.few
 rw [T.len] at few
 rw [hm] at hM few
 obtain ⟨ow,js,e1,O,l,w⟩:=nF hM (es.map (·.1)).toList [] _ [] (Own.start m) rfl (fun q hq=>by cases hq) (by simpa using few)
 have ec:layClean m (es.map (·.1))=some ow:=by
  unfold layClean
  rw [<- Array.foldl_toList]
  exact congrArg (Option.map (·.1)) e1
 have el:Jb m f mv led plain (es.map (·.1))=some ({ mask:=m,place:=((bS m ow).map (·.1)).toArray,dummies:=#[],finger:=f,led:=led,moves:=mv,plain:=plain },((bS m ow).map (·.2)).toArray):=by
  unfold Jb
  rw [ec]
  rfl
 rw [el] at e
 cases e
 intro q hq
 have lj:js.length=es.size:=by simpa using l
 have hq':q∈((bS m ow).map (·.1)).zip (((bS m ow).map (·.2)).filterMap (es[·]?)):=by simpa [KI] using hq
 obtain ⟨k,hk,ek⟩:=nT _ (fun q hq=>by
  have:=(EC.mp ((di O).mp (show (q.1,q.2)∈_ from hq))).1
  lia) q hq'
 have hj:=(di O).mp hk
 have wq:Way m js q.2.1 q.1:=w (q.1,q.2.1) (ES (i:=k) (by
  rw [G3]
  refine ⟨hj,?_⟩
  rw [HQ,Array.toList_map,FD,Fu,ek]
  rfl))
 show Way m ((bS m ow).map (·.1)).toArray.toList q.2.1 q.1
 refine wq.mono fun x hx=>?_
 obtain ⟨i,hi⟩:=Fy hx
 rw [JP]
 exact ER.mpr ⟨(x,i),(di O).mpr hi,rfl⟩
section
variable {prog:Fm} {w:FH} {A:FE} {E:Ey->Ez->Prop} {s:Ez}
theorem jz {T:EK} {p:Int × Int} {Q:Bool->Ez->Prop} (hk:cE prog w s.heap T p) (q:Q false s):wpAny (model prog w) A (ofAClassStatement 8 (.ref T)) Q E s:=by
 have hT:=hk.typeIs
 obtain ⟨o,items,n,ho,hc,hd,hi⟩:=hk
 obtain ⟨t,u,ei⟩:=iW hi
 have ea:items = #[.int p.1 t,.int p.2 u]:=by
  cases items
  simp only at ei
  rw [ei]
 subst ea
 unfold ofAClassStatement
 refine mo (KU hT ?_)
 simp only [beq_self_eq_true,if_true,pure_bind,G1,EG,if_false]
 refine mo (Ij ho hd ?_)
 simp only [<- Hy,IW,J0,ofAClassStatement,pure_bind,EG,if_false]
 exact EE q
theorem vm {x:EK} {p:Int × Int} {Q:Bool->Ez->Prop} (hx:cE prog w s.heap x p) (l:List Ey) (hl:∀ v∈l,∃ b r,v = .ref b/\cE prog w s.heap b r) (q:Q false s):wpAny (model prog w) A (searchCouldBeSeen (.ref x) l) Q E s:=by
 unfold searchCouldBeSeen
 refine mo ?_
 refine wpAny_forIn_list _ (fun rest r s'=>r.1=none/\s'=s/\∀ v∈rest,∃ b r,v = .ref b/\cE prog w s.heap b r) _ ?_ ?_ _ _ ⟨rfl,rfl,hl⟩
 ·rintro v rest r s' ⟨hr,rfl,hall⟩
  obtain ⟨b,pr,rfl,hb⟩:=hall v Fe
  have hrest:∀ v∈rest,∃ b r,v=E4 b/\cE prog w s'.heap b r:=fun u hu=>hall u (EH _ hu)
  dsimp only
  refine Iu (fun _=>EE ⟨rfl,rfl,hrest⟩) (fun _=>?_)
  refine mo (wpAny_eqIsQuiet_tuple hx ?_)
  simp only [G1,EG,if_false]
  refine mo (wpAny_eqIsQuiet_tuple hb ?_)
  simp only [G1,EG,if_false]
  refine mo (jz hx ?_)
  simp only [EG,if_false]
  refine mo (jz hb ?_)
  simp only [EG,if_false]
  exact EE ⟨rfl,rfl,hrest⟩
 ·rintro ⟨r1,r2⟩ s' ⟨hr,rfl,_⟩
  simp only at hr
  subst hr
  exact EE q
noncomputable def lK (es:Array (Int × Ey)) (i:Nat):Int:=(es[i]?.map (·.1)).getD 0
noncomputable def gy (th:Int × Int->Int) (e:EK × (Int × Int)):Int × Ey:=(th e.2,.ref e.1)
theorem pA {th:Int × Int->Int} {a x:EK} {p:Int × Int} {o:Obj} {es:Array (Int × Ey)} {ep:Nat} {t:FU} {U:List (EK × (Int × Int))} {Q:SetFound->Ez->Prop} (hu:A.units < cLine) (ho:s.heap.get? a=some o) (hd:o.data = .set es ep t) (G:Good t es.size) (W:iE t es)
  (hU:∀ e∈es.toList,∃ f∈U,e=gy th f) (hP:∀ f∈U,cE prog w s.heap f.1 f.2) (hx:cE prog w s.heap x p)
  (q1:(∃ f∈U,f.2=p)->Q (.there none) s) (q2:∀ j,(∀ e∈es.toList,∀ f,e=gy th f->f∈U->f.2≠p)->j∉t.place.toList->j<=t.mask->Way t.mask t.place.toList (th p) j->Q (.free j false) s):wpAny (model prog w) A (setSearch a (.ref x) (th p) true) Q E s:=by
 have T:=G.tab
 obtain ⟨K,hK,k1,k2,k3⟩:=vI T (th p)
 have gw:t.gaveWay=false:=by
  unfold SetTable.gaveWay
  rcases T.msk with e | e | e<;>rw [e]<;>rfl
 have entry:∀ i j,t.slot j = .live i->∃ f,f∈U/\es[i]? = some (gy th f):=fun i j h=>by
  have li:=iU h
  rw [T.len] at li
  have g:=EI li
  obtain ⟨f,hf,e⟩:=hU es[i] (by rw [HJ]; exact Array.getElem_mem li)
  exact ⟨f,hf,by rw [g,e]⟩
 have main:∀ (r k fuel:Nat) (st:Option Probe),K=k+r->r < fuel->st.getD (t.probeStart (th p))=bO t.mask k (fR t.mask (th p)) ->
   (∀ n < k,∀ i,t.slot (bO t.mask n (fR t.mask (th p))).j = .live i->∀ f,f∈U->es[i]? = some (gy th f)->f.2≠p)->wpAny (model prog w) A (setSearchFrom a (.ref x) (th p) true fuel st) Q E s:=by
  intro r
  induction r using JK with
  | ind r ih =>
   intro k fuel st hk hf hst hno
   obtain ⟨fuel,rfl⟩:∃ f,fuel=f+1:=⟨fuel - 1,by lia⟩
   unfold setSearchFrom
   refine mo (GO ho hd (fits_of T) ?_)
   simp only [gw,EG,if_false]
   rw [hst]
   conv in (SetTable.probe _ _ _ _)=>change SetTable.probe t (lK es) (th p) (bO t.mask k (fR t.mask (th p)))
   have pf:=ki (t:=t) (hashAt:=(lK es)) (h:=th p) r (10*turns t.mask) (bO t.mask k (fR t.mask (th p))) (by lia) (my _ _ rfl) (fun n hn=>by rw [<- bZ]; exact k3 _ (by lia)) (by rw [<- bZ,<- hk]; exact k1)
   have hat:∀ i f,es[i]? = some (gy th f)->(lK es) i=th f.2:=fun i f h=>by
    unfold lK
    rw [h]
    rfl
   rcases pf with ⟨e,hn⟩ | ⟨n,i,hn,hs,hh,hb,e⟩
   ·have e':t.probe (lK es) (th p) (bO t.mask k (fR t.mask (th p)))=_:=e
    rw [e']
    simp only
    rw [<- bZ,<- hk]
    refine EE (q2 _ (fun g hg f hgf hf' hp=>?_) (fU T.ris k1) k2 ⟨K,rfl,fun n hn=>?_⟩)
    ·obtain ⟨i,hi⟩:=Fy hg
     rw [Fu,hgf] at hi
     have li:i < t.place.size:=by rw [T.len]; exact (Fk.mp hi).1
     have gp:=EI li
     obtain ⟨n,en,an⟩:=W.at_ gp hi
     have en':(bO t.mask n (fR t.mask (th p))).j=t.place[i]:=by rw [<- hp]; exact en
     have hnK:n < K:=by
      rcases Ka n K with z | z | z
      ·exact z
      ·rw [z] at en'
       exact absurd (by rw [en']; exact ES (i:=i) (by rw [Fu]; exact gp)) (fU T.ris k1)
      ·have:=an K z
       have:=fU T.ris k1
       rw [<- hp] at this
       exact absurd (an K z) this
     obtain ⟨i',hi'⟩:=k3 n hnK
     have pi':=lV hi'
     have ii:i'=i:=by
      rw [en'] at pi'
      have nd:t.place.toList.Nodup:=T.ris.imp fun h=>Fn h
      refine (List.getElem?_inj (l:=t.place.toList) (by rw [EY]; exact (Fk.mp pi').1) nd).mp ?_
      rw [Fu,Fu,pi',gp]
     subst ii
     by_cases c:n < k
     ·exact hno n c i' hi' f hf' hi hp
     ·have:=hn (n - k) (by lia) i' (by rw [<- bZ,show k+(n - k)=n by lia]; exact hi')
      rw [hat i' f hi,hp] at this
      exact this rfl
    ·obtain ⟨i,hi⟩:=k3 n hn
     exact wN hi
   ·have e':t.probe (lK es) (th p) (bO t.mask k (fR t.mask (th p)))=_:=e
    rw [e']
    simp only
    obtain ⟨f,hf',he⟩:=entry i _ hs
    have hPf:=hP f hf'
    cases hl:t.led with
    | true =>
     simp only [G1,EG,if_false,he]
     refine mo (FI (wpAny_eqBool_tuple hu hPf hx ?_))
     refine mo (GO ho hd (fits_of T) ?_)
     by_cases c:f.2=p
     ·rw [decide_eq_true (show [f.2.1,f.2.2]=[p.1,p.2] by rw [c])]
      simp only [Bool.and_self,if_true]
      exact EE (q1 ⟨f,hf',c⟩)
     ·rw [decide_eq_false (show ¬ [f.2.1,f.2.2]=[p.1,p.2] from fun z=>c (by
       have:f.2.1=p.1/\f.2.2=p.2:=by simpa using z
       exact IX this.1 this.2))]
      have sm:t.sameMemory t.moves t.mask=some true:=by unfold La; rw [beq_self_eq_true]; rfl
      simp only [ID,EG,if_false,sm,if_true,hs,he]
      have is:isSame (E4 f.1) (E4 f.1)=pure true:=by
       unfold isSame
       simp only [beq_self_eq_true,if_true]
      have is2:isSame (gy th f).2 (gy th f).2=pure true:=is
      rw [is2]
      simp only [pure_bind,if_true]
      refine ih (r - (n+1)) (by lia) (k+(n+1)) fuel _ (by lia) (by lia) ?_ fun n' hn' i' hi' f' hf1 he' hp'=>?_
      ·rw [Ie,<- bZ]
      ·by_cases c1:n' < k
       ·exact hno n' c1 i' hi' f' hf1 he' hp'
       ·by_cases c2:n' < k+n
        ·have:=hb (n' - k) (by lia) i' (by rw [<- bZ,show k+(n' - k)=n' by lia]; exact hi')
         rw [hat i' f' he',hp'] at this
         exact this rfl
        ·have en:n'=k+n:=by lia
         rw [en,bZ,hs] at hi'
         cases hi'
         rw [he] at he'
         have:gy th f=gy th f':=FB he'
         have e1:f.1=f'.1:=by
          have:=congrArg Lw this
          simpa [gy] using this
         have e2:cE prog w s.heap f.1 f'.2:=by rw [e1]; exact hP f' hf1
         have:=hPf.inj e2
         have z:f.2.1=f'.2.1/\f.2.2=f'.2.2:=by simpa using this
         exact c (by rw [<- hp']; exact IX z.1 z.2)
    | false =>
     simp only [J1,if_true]
     refine mo (vm hx _ (fun v hv=>?_) ?_)
     ·obtain ⟨g,hg,rfl⟩:=ER.mp hv
      have hg':g∈es.toList:=by
       have:=HJ.mp hg
       rw [Array.mem_filter] at this
       exact HJ.mpr this.1
      obtain ⟨f2,hf2,rfl⟩:=hU g hg'
      exact ⟨f2.1,f2.2,rfl,hP f2 hf2⟩
     simp only [EG,if_false,he]
     refine mo (FI (wpAny_eqBool_tuple hu hPf hx ?_))
     refine mo (GO ho hd (fits_of T) ?_)
     by_cases c:f.2=p
     ·rw [decide_eq_true (show [f.2.1,f.2.2]=[p.1,p.2] by rw [c])]
      simp only [Bool.and_self,if_true]
      exact EE (q1 ⟨f,hf',c⟩)
     ·rw [decide_eq_false (show ¬ [f.2.1,f.2.2]=[p.1,p.2] from fun z=>c (by
       have:f.2.1=p.1/\f.2.2=p.2:=by simpa using z
       exact IX this.1 this.2))]
      have sm:t.sameMemory t.moves t.mask=some true:=by unfold La; rw [beq_self_eq_true]; rfl
      simp only [ID,EG,if_false,sm,if_true,hs,he]
      have is:isSame (E4 f.1) (E4 f.1)=pure true:=by
       unfold isSame
       simp only [beq_self_eq_true,if_true]
      have is2:isSame (gy th f).2 (gy th f).2=pure true:=is
      rw [is2]
      simp only [pure_bind,if_true]
      refine ih (r - (n+1)) (by lia) (k+(n+1)) fuel _ (by lia) (by lia) ?_ fun n' hn' i' hi' f' hf1 he' hp'=>?_
      ·rw [Ie,<- bZ]
      ·by_cases c1:n' < k
       ·exact hno n' c1 i' hi' f' hf1 he' hp'
       ·by_cases c2:n' < k+n
        ·have:=hb (n' - k) (by lia) i' (by rw [<- bZ,show k+(n' - k)=n' by lia]; exact hi')
         rw [hat i' f' he',hp'] at this
         exact this rfl
        ·have en:n'=k+n:=by lia
         rw [en,bZ,hs] at hi'
         cases hi'
         rw [he] at he'
         have:gy th f=gy th f':=FB he'
         have e1:f.1=f'.1:=by
          have:=congrArg Lw this
          simpa [gy] using this
         have e2:cE prog w s.heap f.1 f'.2:=by rw [e1]; exact hP f' hf1
         have:=hPf.inj e2
         have z:f.2.1=f'.2.1/\f.2.2=f'.2.2:=by simpa using this
         exact c (by rw [<- hp']; exact IX z.1 z.2)
 have le:10*turns t.mask<=1420:=by
  unfold turns
  rcases T.msk with e | e | e<;>lia
 unfold setSearch
 exact main K 0 100000 none (by lia) (by lia) rfl fun n hn=>absurd hn (Hk _)
end
end Sx
namespace Sx
open PySem PyProof.Rows
noncomputable def el (e:EK × (Int × Int)):Int × Ey:=(ff e.2,.ref e.1)
theorem lP {prog:Fm} {w:FH} {h h':GP} {T:EK} {p:Int × Int} (k:cE prog w h T p) (e:∀ o,h.get? T=some o->h'.get? T=some o):cE prog w h' T p:=by
 obtain ⟨o,items,n,ho,r⟩:=k
 exact ⟨o,items,n,e o ho,r⟩
section
variable {prog:Fm} {w:FH} {A:FE} {R:Result->Ez->Prop} {I:EK} {fp wr:List EK} {G:Array Kf->Array Kf->Prop} {n:Nat} {P:Nat->Ey->Prop} {St:Nat->Ez->Prop}
end
section
variable {prog:Fm} {w:FH} {A:FE} {E:Ey->Ez->Prop} {s:Ez}
theorem xU (a:Ey) {Q₁:Ey->Ez->Prop} (h:Q₁ (.ref s.heap.objs.size) { s with heap:=s.heap.push { cls:=.type "set",dict:=none,data:=.set #[] 0 (.fresh 0 0 (!bL w)) } }) :
  codeAny (model prog w) A (.call (.builtin "set.__new__") ⟨[.type "set",a],[]⟩) (wants Q₁ E) s:=by
 refine codeAny_of_tree ?_
 show wpAny _ A.in1 (do checkBuiltinCall "set.__new__" ⟨[.type "set",a],[]⟩; again (.builtin "set.__new__" ⟨[.type "set",a],[]⟩)) _ _ s
 refine mo (wpAny_of_eq (F.newCall_set_1 a) (EE ⟨Gz F.plain_set_new _,Gd F.entry_set_new ?_⟩))
 rw [FL F.plain_set_new _]
 unfold Builtin.«set.__new__» Builtin.Frozenset.newClass
 have hsub:=sub_set_self
 obtain ⟨hp,g,d,tk,os⟩:=s
 dsimp only
 wp_walk
 refine Kz (EE ?_)
 dsimp only
 simp only [newObj]
 refine mo (wpAny_alloc (EE ?_))
 exact EE h
end
end Sx
namespace Sx
open PySem PyProof.Rows
section
variable {prog:Fm} {w:FH} {A:FE} {E:Ey->Ez->Prop} {s:Ez}
theorem vk {a:EK} {o:Obj} {Q:Bool->Ez->Prop} (ho:s.heap.get? a=some o) (hc:o.cls = .type "set") (q:Q false s):wpAny (model prog w) A (Builtin.List.listLengthHint (.ref a)) Q E s:=by
 have hT:s.TypeIs (.ref a) "set":=⟨o,ho,hc⟩
 unfold Builtin.List.listLengthHint
 refine mo (JO hT F.slot_set_len.lookup ?_)
 generalize hid:("set.__len__" : String)=id0
 wp_delta
 rw [show splitId id0=some ("set","__len__") from by subst hid; decide +kernel]
 subst hid
 refine mo (Ky (T:="set") (b:=true) hT (by rw [isSubtype_type]; kernel_rfl) ?_)
 refine Iu (fun hab=>absurd hab (by decide)) (fun _=>?_)
 refine Iu (fun _=>?_) (fun hab=>absurd (by decide +kernel) hab)
 refine mo (KU hT (EE ?_))
 exact q
theorem oX {a:EK} {o:Obj} {es:Array (Int × Ey)} {ep:Nat} {t:FU} {Q:List Ey->Ez->Prop} (hh:A.handled=none) (ho:s.heap.get? a=some o) (hex:o.ExactSet) (hd:o.data = .set es ep t) (T:Tab t es.size) (pl:t.plain=true) (ld:t.led = !bL w) (h64:es.size<=64)
  (q:∀ h' tk,(∀ b o,s.heap.get? b=some o->h'.get? b=some o)->Q ((wk w a ep es).toList.map (·.2)) { s with heap:=h',toks:=tk }):wpAny (model prog w) A (collect (.ref a)) Q E s:=by
 have lta:a < s.heap.objs.size:=EV ho
 have hz:es.size<=sizeLine:=by rw [Gk]; lia
 unfold collect
 refine mo (wpAny_runValue (Gd F.entry_proto_collect ?_))
 rw [FL F.plain_proto_collect _]
 show wpAny _ A.in1 (newList [] >>= fun l=>again (.builtin "list.__iadd__" ⟨[l,.ref a],[]⟩)) _ _ s
 refine mo (Hi ?_)
 refine EE ⟨Gz F.plain_list_iadd _,Gd F.entry_list_iadd ?_⟩
 rw [FL F.plain_list_iadd _]
 have ho1:(s.heap.push { cls:=.type "list",data:=.seq ([]:List Ey).toArray }).get? a=some o:=EB _ ho
 have hS1:(s.heap.push { cls:=.type "list",data:=.seq ([]:List Ey).toArray }).get? s.heap.objs.size=some { cls:=.type "list",data:=.seq ([]:List Ey).toArray }:=Fd _ rfl
 have sz1:(s.heap.push { cls:=.type "list",data:=.seq ([]:List Ey).toArray }).objs.size=s.heap.objs.size+1:=GC ..
 have keep1:∀ b o,s.heap.get? b=some o->(s.heap.push { cls:=.type "list",data:=.seq ([]:List Ey).toArray }).get? b=some o:=fun b o e=>EB _ e
 show wpAny _ A.in1 (Builtin.List.listExtendWith (.ref s.heap.objs.size) (.ref a) (.ref s.heap.objs.size)) _ _ _
 generalize s.heap.push { cls:=.type "list",data:=.seq ([]:List Ey).toArray }=h1 at ho1 hS1 sz1 keep1 |-
 unfold Builtin.List.listExtendWith
 refine mo (KU (T:="set") ⟨o,ho1,hex.1⟩ ?_)
 have e1:Builtin.List.listSameRef (.ref s.heap.objs.size) (.ref a)=false:=by simp [Builtin.List.listSameRef]; exact IU lta
 have e2:(HK "set" == HK "list")=false:=by decide
 have e3:(HK "set" == HK "tuple")=false:=by decide
 simp only [e1,e2,e3,Lh,EG,if_false]
 refine mo (wc (s:={ s with heap:=h1 }) ho1 hex hd T pl ?_)
 have hI:(h1.push { cls:=.type "set_iterator",dict:=none,data:=.fields #[rawInt 0,rawInt 0,.ref a,rawInt es.size,rawInt ep],slots:=#[] }).get? h1.objs.size=some _:=Fd _ rfl
 have up:∀ b o,h1.get? b=some o->(h1.push { cls:=.type "set_iterator",dict:=none,data:=.fields #[rawInt 0,rawInt 0,.ref a,rawInt es.size,rawInt ep],slots:=#[] }).get? b=some o:=fun b o e=>EB _ e
 have sz2:(h1.push { cls:=.type "set_iterator",dict:=none,data:=.fields #[rawInt 0,rawInt 0,.ref a,rawInt es.size,rawInt ep],slots:=#[] }).objs.size=h1.objs.size+1:=GC ..
 have ho2:=up _ _ ho1
 have hS2:=up _ _ hS1
 show wpAny _ A.in1 (holding [.ref h1.objs.size] (Builtin.List.listLengthHint (.ref a)) >>= _) _ _ { s with heap:=h1.push { cls:=.type "set_iterator",dict:=none,data:=.fields #[rawInt 0,rawInt 0,.ref a,rawInt es.size,rawInt ep],slots:=#[] } }
 generalize h1.push { cls:=.type "set_iterator",dict:=none,data:=.fields #[rawInt 0,rawInt 0,.ref a,rawInt es.size,rawInt ep],slots:=#[] }=h2 at hI up sz2 ho2 hS2 |-
 refine mo (FI (vk (s:={ s with heap:=h2 }) ho2 hex.1 ?_))
 have nSI:s.heap.objs.size≠h1.objs.size:=by rw [sz1]; exact Fn (IJ _)
 have naI:a≠h1.objs.size:=by rw [sz1]; exact Fn (HP lta)
 have naS:a≠s.heap.objs.size:=Fn lta
 have W:=(va (prog:=prog) (w:=w) (A:=A.in1) hh h1.objs.size a naI es ep t T pl ld).toS
 have key:∀ (h:GP) (c:Nat) (tk:Nat),jd w h h1.objs.size a es ep t 0->(∀ b o,b≠s.heap.objs.size->h2.get? b=some o->h.get? b=some o)->h.get? s.heap.objs.size=some { cls:=.type "list",data:=.seq #[] c } ->
   codeAny (model prog w) A (.builtin "list.extend.loop" ⟨[.ref s.heap.objs.size,.ref h1.objs.size,.ref s.heap.objs.size],[]⟩) (fun r s'=>match r with | .ok (.ret v)=>wpAny (model prog w) A (match v with | .ref a=>(load a >>= fun o=>match o.data with | .seq xs _=>pure xs.toList | _=>unsupported "internal:collect") | _=>unsupported "internal:collect") Q E s' | .ok _=>False | .error e=>E e s') { s with heap:=h,toks:=tk }:=by
  intro h c tk on kp hS
  refine codeAny_extend_loopS W hz s.heap.objs.size (by simp only [ET,Jw,or_false,not_or]; exact ⟨nSI,G4 naS⟩) _ es.size 0 _ #[] c rfl (EU _) on hS (ItemsOf.nil _) fun s' acc' c' hm hS' hacc=>?_
  rw [Moved.eq_with hm]
  show wpAny _ A (load s.heap.objs.size >>= _) _ _ _
  refine mo (wpAny_load hS' (EE ?_))
  have ea:acc'.toList=(wk w a ep es).toList.map (·.2):=by
   refine List.ext_getElem? fun j=>?_
   by_cases hj:j < es.size
   ·have lj:j < acc'.size:=by rw [hacc.1]; exact hj
    have g:=hacc.2 j acc'[j] (EI lj)
    obtain ⟨e,he,ev⟩:=g
    rw [Fu,EI lj,FD,Fu,he,ev]
    rfl
   ·rw [Gu (by rw [EY,hacc.1]; lia),Gu (by rw [Do,EY,gY]; lia)]
  rw [ea]
  refine q _ _ fun b o e=>?_
  have lb:=EV e
  exact hm.heap b o (by simp only [ET,Jw,or_false,not_or]; exact ⟨Fn lb,by rw [sz1]; exact Fn (HP lb)⟩) (kp b o (Fn lb) (up b o (keep1 b o e)))
 have on2:jd w h2 h1.objs.size a es ep t 0:=⟨⟨0,hI,fun _=>kj _ T.ris⟩,o,ho2,hd⟩
 refine Iu (fun _=>?_) (fun _=>EE ⟨Gz Hn _,key h2 0 _ on2 (fun b o _ e=>e) hS2⟩)
 refine mo (Ik ?_)
 refine mo ?_
 show wpAny _ _ (updateSeq s.heap.objs.size (·.push .none) >>= fun _=>updateSeq s.heap.objs.size (·.pop)) _ _ _
 have hS3:=Fz (Fv (·.push FV)) hS2 rfl
 have hS4:=Fz (Fv (·.pop)) hS3 rfl
 have oth:∀ b o,b≠s.heap.objs.size->h2.get? b=some o->((h2.update s.heap.objs.size (Fv (·.push FV))).update s.heap.objs.size (Fv (·.pop))).get? b=some o:=fun b o hb e=>(E7 _ _ (G4 hb)).trans ((E7 _ _ (G4 hb)).trans e)
 refine mo (GR (s:={ s with heap:=h2 }) hS2 rfl (GR hS3 rfl (EE ⟨Gz Hn _,key _ _ _ ⟨⟨0,oth _ _ (G4 nSI) hI,fun _=>kj _ T.ris⟩,o,oth _ _ naS ho2,hd⟩ oth hS4⟩) (by show 1<=sizeLine; rw [Gk]; lia) (by show 0<=_; exact EU _)) (EU _) (by show 1<=_; rw [Gk]; lia))
end
end Sx
namespace Ck
open PySem L2 Sx
theorem nL {α β:Type} {f:α->β} {L M:List β} (h:L.Perm M):∀ T:List α,M=T.map f->∃ T':List α,T'.Perm T/\L=T'.map f:=by
 induction h with
 | nil=>intro T e; exact ⟨T,.refl _,e⟩
 | @cons x l1 l2 _ ih =>
  intro T e
  cases T with
  | nil=>cases e
  | cons a T =>
   rw [E2,List.cons.injEq] at e
   obtain ⟨T',p,e'⟩:=ih T e.2
   exact ⟨a::T',.cons a p,by rw [E2,<- e',<- e.1]⟩
 | @swap x y l =>
  intro T e
  match T,e with
  | a::b::T,e =>
   simp only [E2,List.cons.injEq] at e
   exact ⟨b::a::T,.swap a b T,by simp only [E2,<- e.1,<- e.2.1,<- e.2.2]⟩
 | trans _ _ ih1 ih2 =>
  intro T e
  obtain ⟨T1,p1,e1⟩:=ih2 T e
  obtain ⟨T2,p2,e2⟩:=ih1 T1 e1
  exact ⟨T2,p2.trans p1,e2⟩
end Ck
namespace L2
open PySem PySem.Spec PyProof.Rows Ck Sx
section
variable {X:Cx}
theorem mI {pins:List (EK × Obj)} {σ:St} {H:Hp} {s:Ez} (I:Inv X pins σ H s):∀ {us:List V} {ps:List Pair} {vs:List Ey},bu H us ps->Vals us vs ->
  ∃ Tp:List (EK × Pair),us=Tp.map (fun e=>V.ref e.1)/\vs=Tp.map (fun e=>E4 e.1)/\Tp.map (·.2)=ps/\∀ e∈Tp,H e.1=some (.tup [.int e.2.1,.int e.2.2])/\cE X.prog X.w s.heap e.1 e.2
 | _,_,_,.nil,.nil=>⟨[],rfl,rfl,rfl,fun e h=>by cases h⟩
 | _,_,_,.cons (b:=p) r t,.cons rv tv=>by
  obtain ⟨a,rfl,ha⟩:=r
  cases rv
  obtain ⟨Tp,e1,e2,e3,e4⟩:=mI I t tv
  obtain ⟨its,r',tu,_⟩:=I.tuple (bb.of ha)
  refine ⟨(a,p)::Tp,by rw [e1]; rfl,by rw [e2]; rfl,by rw [<- e3]; rfl,fun e he=>?_⟩
  rcases ET.mp he with rfl | he
  ·refine ⟨ha,?_⟩
   cases r' with
   | cons x1 r2 =>
    cases r2 with
    | cons x2 r3 =>
     cases r3
     obtain ⟨t1,rfl⟩:=x1
     obtain ⟨t2,rfl⟩:=x2
     obtain ⟨o,ho,hc,n,hd⟩:=tu
     exact yi ho hc hd
  ·exact e4 e he
theorem xP:bootBuiltins "set" = some (.type "set"):=by decide +kernel
theorem j9 {h:GP} {prog:Fm} {w:FH}:∀ {Tp:List (EK × Pair)},(∀ e∈Tp,cE prog w h e.1 e.2)->gT h (Tp.map fun e=>E4 e.1) (Tp.map (·.2))
 | [],_=>.nil
 | e::Tp,hP=>by
  refine .cons ?_ (j9 fun f hf=>hP f (EH _ hf))
  obtain ⟨o,items,n,ho,hc,hd,hi⟩:=hP e (Fe ..)
  obtain ⟨t,u,ei⟩:=iW hi
  have ea:items = #[.int e.2.1 t,.int e.2.2 u]:=by
   cases items
   simp only at ei
   rw [ei]
  subst ea
  exact ⟨e.1,t,u,rfl,o,ho,hc,n,hd⟩
end
end L2
namespace Sx
open PySem PyProof.Rows
section
variable {prog:Fm} {w:FH} {A:FE} {E:Ey->Ez->Prop} {s:Ez}
structure gH (h:GP) (a:EK) (led:Bool) (es:Array (Int × Ey)):Prop where
 at_:∃ o ep t,h.get? a=some o/\o.ExactSet/\o.data = .set es ep t/\Good t es.size/\t.led=led/\t.plain=true/\iE t es
theorem gH.at' {h h':GP} {a:EK} {led:Bool} {es:Array (Int × Ey)} (S:gH h a led es) (e:∀ o,h.get? a=some o->h'.get? a=some o):gH h' a led es:=by
 obtain ⟨o,ep,t,ho,r⟩:=S.at_
 exact ⟨o,ep,t,e o ho,r⟩
theorem xK {a x:EK} {p:Int × Int} {led:Bool} {es:Array (Int × Ey)} {Q:Bool->Ez->Prop} (hu:A.units < cLine) (hS:gH s.heap a led es) (hk:cE prog w s.heap x p) {U:List (EK × (Int × Int))} (hU:es.toList.Perm (U.map el)) (hP:∀ f∈U,cE prog w s.heap f.1 f.2) (h64:es.size < 64) (q0:p∈U.map (·.2)->Q false { s with toks:=s.toks+3 })
  (q:∀ h' es',p∉U.map (·.2)->IT a s.heap h'->gH h' a led es'->es'.toList.Perm ((ff p,.ref x)::es.toList)->Q true { s with heap:=h',toks:=s.toks+3 }):wpAny (model prog w) A (setAdd a (.ref x)) Q E s:=by
 obtain ⟨o,ep,t,ho,hex,hd,G,ld,ep1,W⟩:=hS.at_
 unfold setAdd
 refine FI (mo (wpAny_pyHash_tuple hu hk ?_))
 show wpAny (model prog w) A (setAddHashed a (.ref x) (ff p)) Q E { s with toks:=s.toks+3 }
 unfold setAddHashed setAddHashedIn
 refine FI (mo (GO (s:={ s with toks:=s.toks+3 }) ho hd (fits_of G.tab) ?_))
 have bs:byScan (.ref x) es=false:=rfl
 simp only [bs,EG,if_false]
 refine mo (pA (th:=ff) (s:={ s with toks:=s.toks+3 }) (U:=U) hu ho hd G W (fun e he=>by
  obtain ⟨f,hf,rfl⟩:=ER.mp (hU.mem_iff.mp he)
  exact ⟨f,hf,rfl⟩) hP hk (fun ⟨f,hf,e⟩=>EE (q0 (ER.mpr ⟨f,hf,e⟩))) fun j nh nj jm wj=>?_)
 have nU:p∉U.map (·.2):=fun z=>by
  obtain ⟨f,hf,e⟩:=ER.mp z
  exact nh (el f) (hU.mem_iff.mpr (List.mem_map_of_mem hf)) f rfl hf e
 simp only
 refine mo (GO (s:={ s with toks:=s.toks+3 }) ho hd (fits_of G.tab) ?_)
 obtain ⟨T1,e2,e3,e4,rel⟩:=G.put h64 nj jm
 have W1:=W.put (e:=(ff p,E4 x)) G.tab wj
 rw [<- e2] at W1
 obtain ⟨t1,p1,e1⟩:∃ t1 p1,t.put j=(t1,p1):=⟨_,_,rfl⟩
 rw [e1] at T1 e2 e3 e4 rel W1
 simp only at T1 e2 e3 e4 rel W1
 simp only [e1]
 have pl:t1.plain=true:=by rw [e3,ep1]
 have h0:=(below_at t.place j G.tab.ris).1
 have hp1:p1<=es.size:=by rw [e2,<- G.tab.len]; exact h0
 have el1:=dq es p1 (ff p,E4 x) hp1
 have pm1:(Gh es p1 (ff p,.ref x)).toList.Perm ((ff p,.ref x)::es.toList):=by rw [el1]; exact gL _ _ _
 have sz1:(Gh es p1 (ff p,.ref x)).size=es.size+1:=by rw [<- EY,pm1.length_eq,Fb,EY]
 simp only [pl,if_true]
 refine mo (o9 (s:={ s with toks:=s.toks+3 }) hk ?_)
 simp only [if_true]
 refine mo (wpAny_storeSet_of (s:={ s with toks:=s.toks+3 }) ho hd ?_ (by rw [sz1,Gk]; lia))
 have g1:=j7 (es':=Gh es p1 (ff p,.ref x)) (t':=t1) ho hd
 have sb1:=Lb s.heap a (K1 (Gh es p1 (ff p,.ref x)) t1)
 cases hf:t1.tooFull with
 | false =>
  simp only [J1,GI,EG,if_false]
  refine EE (q _ _ nU sb1 ⟨_,ep+1,t1,g1,hex,rfl,⟨by rw [sz1]; exact T1,hf⟩,by rw [e4,ld],pl,W1⟩ pm1)
 | true =>
  simp only [J1,GI,if_true]
  obtain ⟨z1,t',order,r1,G2,l2,pl2,po⟩:=rel hf ((Gh es p1 (ff p,.ref x)).map (·.1)) (by rw [Array.size_map,sz1])
  have sz2:((Gh es p1 (ff p,.ref x))).size=es.size+1:=sz1
  refine mo (wJ (s:={ s with heap:=s.heap.update a (K1 (Gh es p1 (ff p,.ref x)) t1),toks:=s.toks+3 }) g1 rfl (by rw [sz1]; exact T1) (by lia) z1 r1 (by rw [sz1]; exact po) (EE ?_))
  have g2:=j7 (es':=order.filterMap ((Gh es p1 (ff p,.ref x))[·]?)) (t':=t') g1 rfl
  have fp:=ju (es:=Gh es p1 (ff p,.ref x)) (order:=order) (by rw [sz1]; exact po)
  have sz3:(order.filterMap ((Gh es p1 (ff p,.ref x))[·]?)).size=es.size+1:=by rw [<- EY,fp.length_eq,EY,sz1]
  have W2:iE t' (order.filterMap ((Gh es p1 (ff p,.ref x))[·]?)):=v5 r1 (by rw [sz1]; exact G2.tab)
  exact q _ _ nU (sb1.trans (Lb _ a _)) ⟨_,ep+1+1,t',g2,hex,rfl,by rw [sz3]; exact G2,by rw [l2,ld],by rw [pl2,ep1],W2⟩ (fp.trans pm1)
end
structure jo (Tp:List (EK × (Int × Int))) (i:Nat) (U:List (EK × (Int × Int))):Prop where
 sub:∀ f∈U,f∈Tp.take i
 nd:(U.map (·.2)).Nodup
 all:∀ f∈Tp.take i,f.2∈U.map (·.2)
 few:U.length<=i
theorem jo.old {Tp:List (EK × (Int × Int))} {i:Nat} {U:List (EK × (Int × Int))} {e:EK × (Int × Int)} (d:jo Tp i U) (he:Tp[i]? = some e) (z:e.2∈U.map (·.2)):jo Tp (i+1) U:=by
 refine ⟨fun f hf=>?_,d.nd,fun f hf=>?_,by have:=d.few; lia⟩
 ·rw [E3]
  exact Gi _ (d.sub f hf)
 ·rw [E3,he] at hf
  rcases EN.mp hf with hf | hf
  ·exact d.all f hf
  ·have:f=e:=by simpa using hf
   rw [this]; exact z
theorem jo.new {Tp:List (EK × (Int × Int))} {i:Nat} {U:List (EK × (Int × Int))} {e:EK × (Int × Int)} (d:jo Tp i U) (he:Tp[i]? = some e) (z:e.2∉U.map (·.2)):jo Tp (i+1) (U++[e]):=by
 refine ⟨fun f hf=>?_,?_,fun f hf=>?_,by have:=d.few; rw [EA]; simp; lia⟩
 ·rw [E3,he]
  rcases EN.mp hf with hf | hf
  ·exact Gi _ (d.sub f hf)
  ·exact FF _ hf
 ·rw [ED,Gf]
  refine ⟨d.nd,by simp,fun a ha b hb=>?_⟩
  have:b=e.2:=by simpa using hb
  rw [this]
  exact fun h=>z (h▸ha)
 ·rw [E3,he] at hf
  rw [ED]
  rcases EN.mp hf with hf | hf
  ·exact Gi _ (d.all f hf)
  ·have:f=e:=by simpa using hf
   rw [this]
   exact FF _ (by simp)
section
variable {prog:Fm} {w:FH} {A:FE} {R:Result->Ez->Prop} {I:EK} {fp wr:List EK} {G:Array Kf->Array Kf->Prop} {n:Nat} {P:Nat->Ey->Prop} {St:Nat->Ez->Prop}
theorem sI (W:WalksS prog w A.in1 I fp wr G n P St) (S:EK) (hSf:S∉fp) (hu:A.in1.units < cLine) (led:Bool) (Tp:List (EK × (Int × Int))) (hn:Tp.length=n) (hval:∀ i v,P i v->∃ e,Tp[i]? = some e/\v = .ref e.1)
  (hT:∀ e∈Tp,e.1≠S/\e.1∉wr) (n64:n<=64) :
  ∀ (k i:Nat) (s:Ez) (es:Array (Int × Ey)) (U:List (EK × (Int × Int))),n - i=k->i<=n->St i s->(∀ e∈Tp,cE prog w s.heap e.1 e.2)->gH s.heap S led es->es.toList.Perm (U.map el)->jo Tp i U ->
   (∀ s' es' U',Moved (S::wr) G s s'->gH s'.heap S led es'->es'.toList.Perm (U'.map el)->jo Tp n U'->R (.ok (.ret .none)) s') ->
   codeAny (model prog w) A (.builtin "set.update.loop" ⟨[.ref S,.ref I],[]⟩) R s:=by
 have hSw:S∉wr:=fun h=>hSf (W.sub _ h)
 have hsub:∀ b∈wr,b∈S::wr:=fun b hb=>EH _ hb
 intro k
 induction k with
 | zero =>
  intro i s es U hk hi hst hP hS hp dd hR
  have hin:i=n:=by lia
  subst hin
  refine Gd F.entry_set_update_loop ?_
  rw [FL Ic _]
  show wpAny _ A.in1 (pyNext (.ref I) >>= _) _ _ s
  refine mo (W.done s _ _ hst fun s' hm=>?_)
  show wpAny _ A.in1 (ret FV) _ _ s'
  exact EE (hR s' es U (hm.mono hsub) (hS.at' fun o e=>hm.heap S _ hSw e) hp dd)
 | succ k ih =>
  intro i s es U hk hi hst hP hS hp dd hR
  have hlt:i < n:=by lia
  refine Gd F.entry_set_update_loop ?_
  rw [FL Ic _]
  show wpAny _ A.in1 (pyNext (.ref I) >>= _) _ _ s
  refine mo (W.item i s _ _ hlt hst fun v s' hv hst' hm=>?_)
  obtain ⟨e,he,rfl⟩:=hval i v hv
  have em:=ES he
  have hS':gH s'.heap S led es:=hS.at' fun o x=>hm.heap S _ hSw x
  have hP':∀ f∈Tp,cE prog w s'.heap f.1 f.2:=fun f hf=>lP (hP f hf) fun o x=>hm.heap _ _ (hT f hf).2 x
  have les:es.size<=i:=by
   rw [<- EY,hp.length_eq,Do]
   exact dd.few
  have hPU:∀ f∈U,cE prog w s'.heap f.1 f.2:=fun f hf=>hP' f (Jz (dd.sub f hf))
  show wpAny _ A.in1 (holding [E4 e.1] (setAdd S (.ref e.1)) >>= _) _ _ s'
  have keepF:∀ h',IT S s'.heap h'->∀ b∈fp,∀ o,s'.heap.get? b=some o->h'.get? b=some o:=fun h' sb b hb o x=>by
   rw [sb.2 b (fun h:b=S=>hSf (by rw [<- h]; exact hb))]; exact x
  refine mo (FI (xK hu hS' (hP' e em) hp hPU (by lia) (fun z=>?_) fun h' es' nz sb S2 p2=>?_))
  ·refine EE ⟨Gz Ic _,ih (i+1) _ es U (by lia) hlt (W.frame _ s' _ _ hst' (He _ _) fun b hb o x=>x) hP' hS' hp (dd.old he z) fun s'' es'' U'' hm'' S'' p'' d''=>?_⟩
   exact hR s'' es'' U'' (Moved.trans W.gtrans ((hm.mono hsub).then_heap (He _ _) fun b o hb x=>x) hm'') S'' p'' d''
  ·refine EE ⟨Gz Ic _,ih (i+1) _ es' (U++[e]) (by lia) hlt (W.frame _ s' _ _ hst' (He _ _) fun b hb o x=>keepF h' sb b hb o x) (fun f hf=>lP (hP' f hf) fun o x=>(sb.2 _ (hT f hf).1).trans x) S2 ?_ (dd.new he nz) fun s'' es'' U'' hm'' S'' p'' d''=>?_⟩
   ·rw [ED]
    exact (p2.trans (K5 _ hp)).trans (List.perm_append_singleton (el e) _).symm
   ·refine hR s'' es'' U'' (Moved.trans W.gtrans ((hm.mono hsub).then_heap (He _ _) fun b o hb x=>?_) hm'') S'' p'' d''
    rw [sb.2 b (fun h:b=S=>hb (by rw [h]; exact Fe))]; exact x
end
section
variable {prog:Fm} {w:FH} {A:FE} {E:Ey->Ez->Prop} {s:Ez}
theorem ny {l:EK} {items:Array Ey} {Tp:List (EK × (Int × Int))} {Q:Ey->Ez->Prop} (hh:A.handled=none) (hu:A.units+10 < cLine) (hl:s.heap.IsList l items) (hi:items.toList=Tp.map fun e=>.ref e.1)
  (hP:∀ e∈Tp,cE prog w s.heap e.1 e.2) (n64:Tp.length<=64)
  (h:∀ (h':GP) (tk:Nat) (es:Array (Int × Ey)) (U:List (EK × (Int × Int))),gH h' s.heap.objs.size (!bL w) es->es.toList.Perm (U.map el)->jo Tp Tp.length U->(∀ b o,b < s.heap.objs.size->s.heap.get? b=some o->h'.get? b=some o)->Q (.ref s.heap.objs.size) { s with heap:=h',toks:=tk }) :
  wpAny (model prog w) A (call (.type "set") [.ref l]) Q E s:=by
 obtain ⟨c,tl,hmro⟩:=Iv.mro
 have hmade:=Iv.made
 have hsub:=Iv.sub
 refine wpAny_call (codeAny_of_tree ?_)
 show wpAny _ _ (callAny (.type "set") _) _ _ _
 refine EE ⟨Code.quiet_builtin _ (by decide +kernel),Gd F.entry_type_call ?_⟩
 rw [Around.under_plain (weight_type_call_type "set" [.ref l] []) rfl]
 have h1:=Iv.notType
 have h2:=Iv.canCreate
 have hct:=F.typeCall_set_1 (.ref l)
 repeat (any_goals (first | assumption | wp_step))
 refine Ip (xU (.ref l) (E:=E) (Q₁:=fun obj s₁=>obj = .ref s.heap.objs.size/\s₁={ s with heap:=s.heap.push { cls:=.type "set",dict:=none,data:=.set #[] 0 (.fresh 0 0 (!bL w)) } }) ⟨rfl,rfl⟩) fun r s₁ hr=>?_
 cases r with
 | error e=>exact hr
 | ok fl =>
  cases fl with
  | ret obj =>
   obtain ⟨rfl,rfl⟩:=hr
   have hS:(s.heap.push { cls:=.type "set",dict:=none,data:=.set #[] 0 (.fresh 0 0 (!bL w)) }).get? s.heap.objs.size=some { cls:=.type "set",dict:=none,data:=.set #[] 0 (.fresh 0 0 (!bL w)) }:=Fd _ rfl
   have hT:Shared.TypeIs { s with heap:=s.heap.push { cls:=.type "set",dict:=none,data:=.set #[] 0 (.fresh 0 0 (!bL w)) } } (.ref s.heap.objs.size) "set":=⟨_,hS,rfl⟩
   have hli:=Iv.init.lookup
   have hbi:=Iv.init.bind (.ref s.heap.objs.size)
   repeat (any_goals (first | assumption | wp_step))
   refine Ip (codeAny_call_builtin (R:=wants (fun r s₂=>r = .none/\∃ h' tk es U,s₂={ s with heap:=h',toks:=tk }/\gH h' s.heap.objs.size (!bL w) es/\es.toList.Perm (Kk el U)/\jo Tp Tp.length U /\
     (∀ b o,b < s.heap.objs.size->s.heap.get? b=some o->h'.get? b=some o)) E) Iv.init.plain F.entry_set_init (check_set_init_1 hT ?_)) fun r₂ s₂ hr₂=>?_
   ·obtain ⟨ol,hol,hcl,nl,hdl⟩:=hl
    obtain ⟨ocls,odict,odata,oslots⟩:=ol
    simp only at hcl hdl
    subst hcl; subst hdl
    have hol':(s.heap.push { cls:=.type "set",dict:=none,data:=.set #[] 0 (.fresh 0 0 (!bL w)) }).get? l=some { cls:=.type "list",dict:=odict,data:=.seq items nl,slots:=oslots }:=EB _ hol
    have hsls:=F.sub_list_set
    have hslf:=F.sub_list_frozenset
    have hne:(HK "list" == HK "dict")=false:=by decide
    have eK:(s.heap.push { cls:=.type "set",dict:=none,data:=.set #[] 0 (.fresh 0 0 (!bL w)) }).IsList l items:=⟨_,hol',rfl,nl,rfl⟩
    unfold Builtin.«set.__init__» noKeywords Builtin.Frozenset.updateFrom
    generalize hPI:pyIter=PI
    wp_walk
    subst hPI
    refine J4 eK ?_
    refine mo (wpAny_runValue ?_)
    have hlS:l < s.heap.objs.size:=EV hol
    have hh3:A.in1.in1.in1.handled=none:=by simp [hh]
    have hneI:l≠(s.heap.push { cls:=.type "set",dict:=none,data:=.set #[] 0 (.fresh 0 0 (!bL w)) }).objs.size:=by
     rw [GC]; exact Fn (HP hlS)
    have hSf:s.heap.objs.size∉[(s.heap.push { cls:=.type "set",dict:=none,data:=.set #[] 0 (.fresh 0 0 (!bL w)) }).objs.size,l]:=by
     rw [GC]; simp only [ET,FY,Jw,or_false,not_or]
     exact ⟨Fn (IJ _),IU hlS⟩
    have hlt:∀ e∈Tp,e.1 < s.heap.objs.size:=fun e he=>by
     obtain ⟨o,_,_,ho,_⟩:=hP e he
     exact EV ho
    have hsz:items.size=Tp.length:=by rw [<- EY,hi,Do]
    refine sI (R:=_) ((Walks.list hh3 _ l hneI items).toS) s.heap.objs.size hSf ?hu (!bL w) Tp hsz.symm (fun i v hv=>?hval) (fun e he=>⟨Fn (hlt e he),?hw⟩) (by lia) (items.size - 0) 0 _ #[] [] (by lia) (EU _)
     ⟨⟨_,Fd _ rfl,rfl,rfl⟩,(eK.push _)⟩ (fun e he=>lP (hP e he) fun o x=>EB _ (EB _ x)) ?hS0 (IF _) ⟨fun f hf=>(by cases hf),IH,fun f hf=>(by cases hf),EF _⟩ ?hR
    case hu=>simp only [Around.in1_units]; lia
    case hval =>
     have e1:items.toList[i]? = some v:=by rw [Fu]; exact hv
     rw [hi,FD] at e1
     cases g:Tp[i]? with
     | none=>rw [g] at e1; cases e1
     | some e=>rw [g] at e1; exact ⟨e,rfl,(FB e1).symm⟩
    case hw =>
     rw [GC]
     simp only [FY]
     exact Fn (HP (hlt e he))
    case hS0 =>
     exact ⟨_,0,_,EB _ hS,⟨rfl,rfl,rfl⟩,rfl,Good.fresh 0 0 _,rfl,rfl,iE.fresh 0 0 _⟩
    case hR =>
     intro s' es' U' hm hS' hp' dd'
     rw [hsz] at dd'
     obtain ⟨h',g',d',tk',os'⟩:=s'
     have eg:g'=s.gens:=hm.gens
     have ed:d'=s.drawn:=hm.drawn
     have eo:os'=s.os:=hm.os
     subst eg; subst ed; subst eo
     show wpAny _ _ _ _ _ _
     refine EE ?_
     show wpAny _ _ (ret FV) _ _ _
     refine EE ⟨rfl,h',tk',es',U',rfl,hS',hp',dd',fun b o hb e=>?_⟩
     have hb1:b≠s.heap.objs.size:=Fn hb
     have hb2:b≠(s.heap.push { cls:=.type "set",dict:=none,data:=.set #[] 0 (.fresh 0 0 (!bL w)) }).objs.size:=by
      rw [GC]; exact Fn (HP hb)
     exact hm.heap b o (by simp only [ET,FY,Jw,or_false,not_or]; exact ⟨hb1,hb2⟩) (EB _ (EB _ e))
   ·cases r₂ with
    | error e=>exact hr₂
    | ok fl₂ =>
     cases fl₂ with
     | ret r =>
      obtain ⟨rfl,h',tk,es,U,rfl,hS',hp',dd',hk'⟩:=hr₂
      repeat (any_goals (first | assumption | wp_step))
      exact h _ _ _ _ hS' hp' dd' hk'
     | _=>exact hr₂.elim
  | _=>exact hr.elim
end
end Sx
namespace L2
open PySem PySem.Spec PyProof.Rows Ck Sx
section
variable {X:Cx}
noncomputable def DA (ta:TA):TE:=fun σ H Q=>ta σ H fun vs H1=>∃ (l:EK) (ps:List Pair),vs=[.ref l]/\aT H1 l ps/\ps.length < 64 /\
 ∀ (q:EK) (qs:List Pair) (H':Hp),ae H1 H'->H1 q=none->aT H' q qs->qs.Nodup->(∀ x,x∈qs↔x∈ps)->qs.Pairwise bD->Q (.ref q) H'
theorem pj {a:Hq} {ta:TA} {p p2 pos pos2:Pos} (hc:X.calm=true) (hu:X.A.units+100 < cLine) (hgl:Gl X "sorted") (hml:X.mg "sorted" = none) (hg:Gl X "set") (hm:X.mg "set" = none) (ha:PA X [a] ta) (hs:starEach [a] X.env=[(false,eval a X.env)]:=by rfl)
  (he:starEach [.Call (.Name "set" p) [a] [] pos] X.env=[(false,eval (.Call (.Name "set" p) [a] [] pos) X.env)]:=by rfl) :
  PE X (.Call (.Name "sorted" p2) [.Call (.Name "set" p) [a] [] pos] [] pos2) (DA ta):=by
 intro pins s σ H Q I h
 refine GB (dM I hgl hml dc ?_ (by decide) (by decide))
 refine Jo ?_ he rfl
 rw [he]
 show wpAny _ _ (spliced ((false,eval (.Call (.Name "set" p) [a] [] pos) X.env)::backTo pos2 [])) _ _ s
 refine IV (Call_ (dM I hg hm xP (FX (aG (ha pos pins s σ H _ I h) fun us s1 ⟨vs,H1,I1,r1,q1⟩=>?_) hs rfl)))
 obtain ⟨l,ps,e,⟨ws,hl,pr⟩,h64,q⟩:=q1
 subst e
 obtain ⟨u,rfl,ru⟩:=vals1 r1
 cases ru
 obtain ⟨its,r',pl,hz⟩:=I1.list (aj.of hl)
 obtain ⟨Tp,e1,e2,e3,e4⟩:=mI I1 pr r'
 have lT:Tp.length=ps.length:=by rw [<- e3,Do]
 refine ny (I.ok.hd hc) (show X.A.units+10 < cLine by lia) pl.isList (Tp:=Tp) (by simpa using e2) (fun e he=>(e4 e he).2) (by lia) fun h' tk es U S pm dd kp=>Jg ?_
 obtain ⟨o,ep,t,ho,hex,hd,G,ld,plain,_⟩:=S.at_
 have lU:=dd.few
 have inU:∀ f∈U,f∈Tp:=fun f hf=>by
  have:=dd.sub f hf
  rwa [Ig] at this
 have les:es.size=U.length:=by rw [<- EY,pm.length_eq,Do]
 refine IG kind_sorted plain_sorted entry_sorted (args_sorted1 _) ?_
 unfold Builtin.«sorted»
 refine mo (m:=checkCount "sorted" 1 1 _) (EE (mo (oX (s:={ s1 with heap:=h',toks:=tk }) (A:=X.A.in1) (I.ok.hd hc) ho hex hd G.tab plain ld (by lia) fun h2 tk2 kp2=>?_)))
 obtain ⟨Tq,pq,eq⟩:=nL ((qv X.w s1.heap.objs.size ep es).trans pm) U rfl
 have ev:(wk X.w s1.heap.objs.size ep es).toList.map (·.2)=Tq.map fun e=>E4 e.1:=by
  rw [eq,FG]
  rfl
 rw [ev]
 have lq:Tq.length=U.length:=pq.length_eq
 have lv:(Tq.map fun e=>E4 e.1).length=Tq.length:=Do _
 have keep:∀ b o,s1.heap.get? b=some o->h2.get? b=some o:=fun b o e=>kp2 b o (kp b o (EV e) e)
 refine mo (JF ?_ (by rw [lv,Gk]; lia))
 have hoL:(h2.push (seqObj "list" (Tq.map fun e=>E4 e.1).toArray 0)).get? h2.objs.size=some (seqObj "list" (Tq.map fun e=>E4 e.1).toArray 0):=Fd _ rfl
 have up:∀ b o,h2.get? b=some o->(h2.push (seqObj "list" (Tq.map fun e=>E4 e.1).toArray 0)).get? b=some o:=fun b o e=>EB _ e
 show wpAny _ _ _ _ _ { s1 with heap:=h2.push (seqObj "list" (Tq.map fun e=>E4 e.1).toArray 0),toks:=tk2 }
 have hPq:∀ e∈Tq,cE X.prog X.w s1.heap e.1 e.2:=fun e he=>(e4 e (inU e (pq.mem_iff.mp he))).2
 have pv:=j9 hPq
 have hz2:s1.heap.objs.size<=h2.objs.size:=Jm (EV (kp2 _ _ ho))
 refine mo (FI (GV slot_list_sort ⟨_,hoL,rfl⟩ KP (oi (s:={ s1 with heap:=h2.push (seqObj "list" (Tq.map fun e=>E4 e.1).toArray 0),toks:=tk2 }) (Br (Tq.map (·.2))) hoL (by rw [lv]; lia)
  (fun h6 old h2'=>xB (s1:={ s1 with heap:=h6,toks:=tk2 }) (pv.mono fun b o e=>old b o (fun z=>by
   have lt:=EV (keep b o e)
   rw [z] at lt
   exact FT _ lt) (up b o (keep b o e))) h2') fun g ok ri=>⟨_,rfl,?_⟩) (args_list_sort _)))
 refine EE ⟨_,rfl,?_⟩
 obtain ⟨e,hat⟩:=sortedHeap_at (out:=(dW (Tq.map fun e=>E4 e.1) g).toArray) hoL
 have hb:∀ i∈g.toList,i < Tq.length:=fun i hi=>by
  have:=E6.mp (ok.mem_iff.mp hi)
  rwa [lv] at this
 have lg:g.toList.length=Tq.length:=by rw [ok.length_eq,FR,lv]
 have rq:Vals (Tq.map fun e=>V.ref e.1) (Tq.map fun e=>E4 e.1):=by
  clear hoL up hPq pv eq ev pq lq lv ok ri hat hb lg
  induction Tq with
  | nil=>exact .nil
  | cons a T ih=>exact .cons rfl ih
 have prq:bu H1 (Tq.map fun e=>V.ref e.1) (Tq.map (·.2)):=by
  have all:∀ e∈Tq,H1 e.1=some (.tup [.int e.2.1,.int e.2.2]):=fun e he=>(e4 e (inU e (pq.mem_iff.mp he))).1
  clear hoL up hPq pv eq ev pq lq lv ok ri hat hb lg rq
  induction Tq with
  | nil=>exact .nil
  | cons a T ih=>exact .cons ⟨a.1,rfl,all a (Fe ..)⟩ (ih fun e he=>all e (EH _ he))
 have vs2:Vals (g.toList.map fun i=>(Tq.map fun e=>V.ref e.1).getD i V.non) (dW (Tq.map fun e=>E4 e.1) g):=dg rq V.non FV g.toList (fun i hi=>by rw [Do]; exact hb i hi)
 have pr2:bu H1 (g.toList.map fun i=>(Tq.map fun e=>V.ref e.1).getD i V.non) (g.toList.map fun i=>(Tq.map (·.2)).getD i (0,0)):=dg prq V.non (0,0) g.toList (fun i hi=>by rw [Do]; exact hb i hi)
 have fr:H1 h2.objs.size=none:=I1.hok.fresh hz2
 have sz2:(g.toList.map fun i=>(Tq.map fun e=>V.ref e.1).getD i V.non).length<=sizeLine:=by rw [Do,lg]; exact sz (by lia)
 refine ⟨.ref h2.objs.size,_,I1.laid (t':=tk2) (o:=.lst (g.toList.map fun i=>(Tq.map fun e=>V.ref e.1).getD i V.non)) (fun b u x=>?_) hz2 ⟨sz2,dW (Tq.map fun e=>E4 e.1) g,e,vs2,by simpa [seqObj] using hat⟩,rfl,?_⟩
 ·have lt:=EV (keep b u x)
  rw [sortedHeap_old (Fn lt) (EV (up b u (keep b u x)))]
  exact up b u (keep b u x)
 have pmq:(Tq.map (·.2)).Perm (U.map (·.2)):=pq.map _
 have pmf:(g.toList.map fun i=>(Tq.map (·.2)).getD i (0,0)).Perm (U.map (·.2)):=(gE (0,0) (Tq.map (·.2)) (by rw [Do,<- lv]; exact ok)).trans pmq
 refine q _ _ _ (ae.new (ae.refl H1) fr _) fr ⟨_,upd_same,pr2.updN fr _⟩ (pmf.nodup_iff.mpr dd.nd) (fun x=>pmf.mem_iff.trans ⟨fun z=>?_,fun z=>?_⟩) ?_
 ·obtain ⟨f,hf,rfl⟩:=ER.mp z
  rw [<- e3]
  exact List.mem_map_of_mem (inU f hf)
 ·rw [<- e3] at z
  obtain ⟨f,hf,rfl⟩:=ER.mp z
  exact dd.all f (by rw [Ig]; exact hf)
 rw [FJ]
 have gs:g.size=Tq.length:=by rw [<- lg]; simp
 refine E1.mpr fun i j hi hj hij=>?_
 have:=ri i j (by lia) (by rw [lv,<- gs]; simpa using hj)
 rw [dO] at this
 unfold gA at this
 simpa [show i < g.size by simpa using hi,show j < g.size by simpa using hj] using this
end
end L2
namespace Ck
open PySem L2
def xm (m:Int) (p:Pair):Prop:=0<=p.1/\p.1 < p.2/\p.2 < m
def Ec (p q:Pair):Prop:=p.1 < q.1/\q.1 < p.2/\p.2 < q.2
def NC (ps:List Pair):Prop:=∀ p∈ps,∀ q∈ps,¬ Ec p q
theorem jI {ps:List Pair}:cf ps=false↔NC ps:=by
 constructor
 ·intro h p hp q hq c
  have:cf ps=true:=ir.mpr ⟨p,hp,q,hq,c.1,c.2.1,c.2.2⟩
  rw [h] at this
  cases this
 ·intro h
  cases e:cf ps with
  | false=>rfl
  | true =>
   obtain ⟨p,hp,q,hq,c⟩:=ir.mp e
   exact absurd c (h p hp q hq)
def Ct (c:Int) (p:Pair):Prop:=0<=p.1/\p.1+1 < p.2/\p.2 < c/\¬ (p.1=0/\p.2=c - 1)
structure wU (c:Int) (ps:List Pair):Prop where
 c2:2<=c
 len:(ps.length:Int)=if c - 3 > 0 then c - 3 else 0
 ct:∀ p∈ps,Ct c p
 nc:NC ps
 nd:ps.Nodup
 ris:ps.Pairwise bD
noncomputable def nm (x y:Int):Pair:=if x < y then (x,y) else (y,x)
end Ck
namespace Ck
open PySem L2
noncomputable def gI (c:Int) (p:Pair):Bool:=decide (0<=p.1)&&(decide (p.1 < p.2 - 1)&&(decide (p.2 < c)&&!(decide (p.1=0)&&decide (p.2=c - 1))))
noncomputable def stC (c:Int) (ps:List Pair) (k:Nat):Bool:=gI c (ps.getD k (0,0))&&(decide (k=0) || dm (ps.getD (k - 1) (0,0)) (ps.getD k (0,0)))
noncomputable def gq (c:Int) (n:Nat):Bool:=decide (2<=c)&&decide ((n:Int)=if c - 3 > 0 then c - 3 else 0)
noncomputable def flB (c:Int) (ps:List Pair):Bool:=gq c ps.length&&((EM ps.length).all (stC c ps)&&!cf ps)
theorem vS {c:Int} {p:Pair}:gI c p=true↔Ct c p:=by
 unfold gI Ct
 simp only [EW,decide_eq_true_iff,GA,Gw,decide_eq_false_iff_not]
 lia
theorem BV {c:Int} {ps:List Pair} (h:gq c ps.length=false):flB c ps=false:=by
 unfold flB
 rw [h,GY]
theorem tY {p q r:Pair} (h1:dm p q=true) (h2:dm q r=true):dm p r=true:=by
 unfold dm at *
 simp only [Jc,EW,decide_eq_true_iff] at *
 lia
theorem ug {p q:Pair} (h:dm p q=true):bD p q/\p≠q:=by
 unfold dm at h
 unfold bD
 simp only [Jc,EW,decide_eq_true_iff] at h
 refine ⟨by lia,fun e=>?_⟩
 subst e
 lia
theorem zX {p q:Pair} (h:bD p q) (n:p≠q):dm p q=true:=by
 unfold dm
 unfold bD at h
 simp only [Jc,EW,decide_eq_true_iff]
 by_cases e:p.1=q.1
 ·by_cases e2:p.2=q.2
  ·exact absurd (IX e e2) n
  ·lia
 ·lia
theorem yF {c:Int} {ps:List Pair} (h:(EM ps.length).all (stC c ps)=true):ps.Pairwise fun p q=>dm p q=true:=by
 have st:∀ k,0 < k->k < ps.length->dm (ps.getD (k - 1) (0,0)) (ps.getD k (0,0))=true:=fun k h0 hk=>by
  have:=Fq.mp h k (E6.mpr hk)
  unfold stC at this
  rw [EW,Jc,decide_eq_true_iff] at this
  rcases this.2 with z | z
  ·lia
  ·exact z
 have all:∀ j i,i < j->j < ps.length->dm (ps.getD i (0,0)) (ps.getD j (0,0))=true:=by
  intro j
  induction j with
  | zero=>intro i hi; lia
  | succ j ih =>
   intro i hi hj
   have s:=st (j+1) (by lia) hj
   rw [GS] at s
   by_cases e:i=j
   ·rw [e]; exact s
   ·exact tY (ih i (by lia) (by lia)) s
 refine E1.mpr fun i j hi hj hij=>?_
 have:=all j i hij hj
 rw [AC,AC,Da hi,Da hj] at this
 exact this
theorem xV {c:Int} {ps qs:List Pair} (nd:qs.Nodup) (mm:∀ x,x∈qs↔x∈ps) (rs:qs.Pairwise bD) (ne:ps≠qs):flB c ps=false:=by
 cases h:flB c ps with
 | false=>rfl
 | true =>
  unfold flB at h
  rw [EW,EW] at h
  have r:=yF h.2.1
  have n2:ps.Nodup:=r.imp fun z=>(ug z).2
  have pm:ps.Perm qs:=(JU n2 nd).mpr fun x=>(mm x).symm
  exact absurd (ip (r.imp fun z=>(ug z).1) rs pm) ne
theorem m8 {c:Int} {ps:List Pair} (nd:ps.Nodup) (rs:ps.Pairwise bD) (l:gq c ps.length=true):flB c ps=(!cf ps&&ps.all (gI c)):=by
 have e:(EM ps.length).all (stC c ps)=ps.all (gI c):=by
  rw [Gr,Fq,Fq]
  constructor
  ·intro h p hp
   obtain ⟨k,hk⟩:=Fy hp
   have:=h k (E6.mpr (EC.mp hk).1)
   unfold stC at this
   rw [EW,AC,hk] at this
   exact this.1
  ·intro h k hk
   have hk:=E6.mp hk
   unfold stC
   rw [EW,Jc,decide_eq_true_iff]
   refine ⟨?_,?_⟩
   ·rw [AC,Da hk]
    exact h _ (GH hk)
   ·by_cases z:k=0
    ·exact .inl z
    ·refine .inr ?_
     have k1:k - 1 < ps.length:=by lia
     rw [AC,AC,Da hk,Da k1]
     exact zX (E1.mp rs _ _ k1 hk (by lia)) (E1.mp nd _ _ k1 hk (by lia))
 unfold flB
 rw [l,e,GI,Bool.and_comm]
theorem wU.flB {c:Int} {ps:List Pair} (h:wU c ps):flB c ps=true:=by
 have l:gq c ps.length=true:=by
  unfold gq
  rw [EW,decide_eq_true_iff,decide_eq_true_iff]
  exact ⟨h.c2,h.len⟩
 rw [m8 h.nd h.ris l,jI.mpr h.nc]
 exact Fq.mpr fun p hp=>vS.mpr (h.ct p hp)
end Ck
namespace Ck
open PySem L2
noncomputable def one (n k:Nat):Nat:=if 0 < k/\0 < n then 1 else 0
end Ck
namespace Dk
open PySem PyProof.Rows
section
variable {prog:Fm} {w:FH} {K:Type} [DecidableEq K] {knd:KeyKind prog w K} {A:FE} {E:Ey->Ez->Prop} {s:Ez}
end
end Dk
namespace L2
open PySem PySem.Spec PyProof.Rows
end L2
namespace L2
open PySem PySem.Spec PyProof.Rows
end L2
namespace Ck
open PySem L2
end Ck
namespace L2
open PySem PySem.Spec PyProof.Rows Ck
section
variable {X:Cx}
end
end L2
namespace Ck
open PySem L2
end Ck
namespace Ck
open PySem L2
end Ck
namespace L2
open PySem PySem.Spec PyProof.Rows Ck
end L2
namespace L2
open PySem PySem.Spec PyProof.Rows Ck
end L2
namespace Ck
open PySem L2
noncomputable def cc:Bt->Int->List Pair
 | .leaf,_=>[]
 | .node l r,a=>(a,a+2+(l.size:Int)+(r.size:Int))::(cc l a++cc r (a+1+(l.size:Int)))
noncomputable def fe:Bt->Int->List Pair
 | .leaf,_=>[]
 | .node l r,a=>cc l a++cc r (a+1+(l.size:Int))
theorem lO:∀ (t:Bt) (a:Int),(cc t a).length=t.size
 | .leaf,_=>rfl
 | .node l r,a=>by
  show (_::(cc l a++cc r _)).length=l.size+r.size+1
  rw [Fb,EA,lO l,lO r]
theorem dw:∀ (t:Bt) (a:Int),∀ p∈cc t a,a<=p.1/\p.1+2<=p.2/\p.2<=a+1+(t.size:Int)
 | .leaf,_,p,hp=>nomatch hp
 | .node l r,a,p,hp=>by
  have sn:(Bt.node l r).size=l.size+r.size+1:=rfl
  rcases ET.mp hp with rfl | hp
  ·simp only
   lia
  ·rcases EN.mp hp with hp | hp
   ·have:=dw l a p hp
    lia
   ·have:=dw r _ p hp
    lia
theorem xc:∀ (t:Bt) (a:Int),∀ p∈fe t a,p≠(a,a+1+(t.size:Int))
 | .leaf,_,p,hp=>nomatch hp
 | .node l r,a,p,hp=>by
  have sn:(Bt.node l r).size=l.size+r.size+1:=rfl
  intro z
  subst z
  rcases EN.mp hp with hp | hp
  ·have:=dw l a _ hp
   simp only at this
   lia
  ·have:=dw r _ _ hp
   simp only at this
   lia
theorem og:∀ (t:Bt) (a:Int),(cc t a).Nodup
 | .leaf,_=>IH
 | .node l r,a=>by
  refine Gs.mpr ⟨fun h=>?_,Gf.mpr ⟨og l a,og r _,fun p hp q hq e=>?_⟩⟩
  ·refine xc (.node l r) a _ h ?_
   have sn:(Bt.node l r).size=l.size+r.size+1:=rfl
   rw [sn]
   congr 1
   lia
  ·have h1:=dw l a p hp
   have h2:=dw r _ q hq
   rw [e] at h1
   lia
theorem nq:∀ (t:Bt) (a:Int),NC (cc t a)
 | .leaf,_=>fun p hp=>nomatch hp
 | .node l r,a=>by
  have bd:=dw (.node l r) a
  have sn:(Bt.node l r).size=l.size+r.size+1:=rfl
  intro p hp q hq c
  have bp:=bd p hp
  have bq:=bd q hq
  have c1:=c.1; have c2:=c.2.1; have c3:=c.2.2
  rcases ET.mp hp with rfl | hp
  ·simp only at c1 c2 c3
   lia
  ·rcases ET.mp hq with rfl | hq
   ·simp only at c1 c2 c3
    lia
   ·rcases EN.mp hp with hp | hp<;>rcases EN.mp hq with hq | hq
    ·exact nq l a p hp q hq c
    ·have:=dw l a p hp
     have:=dw r _ q hq
     lia
    ·have:=dw r _ p hp
     have:=dw l a q hq
     lia
    ·exact nq r _ p hp q hq c
theorem nJ:∀ (t:Bt) (a:Int),∀ p∈fe t a,p∈cc t a
 | .leaf,_,p,hp=>hp
 | .node l r,a,p,hp=>EH _ hp
theorem uL:∀ (t:Bt) (a:Int),cc t a=(if t.size=0 then [] else [(a,a+1+(t.size:Int))])++fe t a
 | .leaf,_=>rfl
 | .node l r,a=>by
  have sn:(Bt.node l r).size=l.size+r.size+1:=rfl
  rw [if_neg (by lia),sn]
  show (a,a+2+(l.size:Int)+(r.size:Int))::(cc l a++cc r (a+1+(l.size:Int)))=(a,a+1+((l.size+r.size+1:Nat):Int))::(cc l a++cc r (a+1+(l.size:Int)))
  rw [show a+2+(l.size:Int)+(r.size:Int)=a+1+((l.size+r.size+1:Nat):Int) by lia]
theorem Ah (t:Bt) (a:Int):(fe t a).length=t.size - 1:=by
 have:=lO t a
 rw [uL,EA] at this
 split at this<;>simp at this<;>lia
theorem wZ {t:Bt} {qs:List Pair} (pm:qs.Perm (fe t 0)) (rs:qs.Pairwise bD):wU ((t.size:Int)+2) qs where
 c2:=by lia
 len:=by
  rw [pm.length_eq,Ah]
  split<;>lia
 ct:=fun p hp=>by
  have hm:=pm.mem_iff.mp hp
  have b:=dw t 0 p (nJ t 0 p hm)
  have n:=xc t 0 p hm
  refine ⟨by lia,by lia,by lia,fun z=>n (IX z.1 ?_)⟩
  show p.2=0+1+(t.size:Int)
  lia
 nc:=fun p hp q hq=>nq t 0 p (nJ t 0 p (pm.mem_iff.mp hp)) q (nJ t 0 q (pm.mem_iff.mp hq))
 nd:=by
  have:=og t 0
  rw [uL] at this
  exact pm.nodup_iff.mpr (Gf.mp this).2.1
 ris:=rs
end Ck
namespace Ck
open PySem L2
end Ck
namespace Dt
open PySem PyProof.Rows
section
variable {prog:Fm} {w:FH} {A:FE} {E:Ey->Ez->Prop} {s:Ez}
def At (h:GP) (d:EK) (es:Array JI) (ep:Nat):Prop:=∃ o,h.get? d=some o/\o.ExactDict/\o.data = .dict es ep
end
end Dt
namespace L2
open PySem PySem.Spec PyProof.Rows
end L2
namespace L2
open PySem
end L2
namespace Ck
open PySem L2
noncomputable def kk (p:Pair):List Key:=[.inl p.1,.inl p.2]
noncomputable def pO (n:Nat) (ps:List Pair):List Pair:=ps++((EM (n+1)).map fun (k:Nat)=>(((k:Int),(k:Int)+1):Pair))
end Ck
namespace Ck
open PySem L2
structure lJ (ps:List Pair):Prop where
 inr:∀ p∈ps,xm (2*(ps.length:Int)) p
 flat:(bx ps).Perm (cG (2*ps.length))
 nc:NC ps
 ris:ps.Pairwise bD
noncomputable def up1 (m x:Int):Int:=if x=m - 1 then 0 else x+1
theorem lJ.bows {ps:List Pair} (h:lJ ps):cI ps=true:=by
 have nd:(bx ps).Nodup:=h.flat.nodup_iff.mpr (iY _)
 unfold cI
 rw [EW,EW,GA]
 refine ⟨kU.mpr fun k hk=>?_,(cn _).mpr (by rw [gC]; exact h.flat),jI.mpr h.nc⟩
 have ek:∀ i (hi:i < ps.length),fO ps i=ps[i].1/\ue ps i=ps[i].2:=fun i hi=>by
  refine ⟨?_,?_⟩
  ·unfold fO; rw [AC,Da hi]; rfl
  ·unfold ue; rw [AC,Da hi]; rfl
 obtain ⟨e1,e2⟩:=ek k hk
 rw [e1,e2]
 refine ⟨(h.inr _ (GH hk)).2.1,?_⟩
 by_cases k0:k=0
 ·exact .inl k0
 ·refine .inr ?_
  have hk':k - 1 < ps.length:=by lia
  rw [(ek (k - 1) hk').1]
  have le:=E1.mp h.ris (k - 1) k hk' hk (by lia)
  have ne:=me nd
  have:=E1.mp ne (k - 1) k (by simpa using hk') (by simpa using hk) (by lia)
  unfold bD at le
  simp at this
  lia
end Ck
namespace L2
open PySem PySem.Spec PyProof.Rows
section
variable {X:Cx}
end
section
variable {X:Cx}
end
end L2
namespace Ck
open PySem L2
end Ck
namespace Ck
open PySem L2
end Ck
namespace Ck
open PySem L2
end Ck
namespace Ck
open PySem L2
end Ck
namespace Ck
open PySem L2
end Ck
namespace L2
open PySem PySem.Spec PyProof.Rows
section
variable {X:Cx}
end
end L2
namespace Ck
open PySem L2
end Ck
namespace Ck
open PySem L2
end Ck
namespace L2
open PySem PySem.Spec
variable {X:Cx}
noncomputable def Dg (K:Fi):V->List V->Hp->VK->Prop:=fun x vs H Q=>pY x vs H Q\/xF K x vs H Q
theorem yA:qh X "list.extend" (Dg X.K):=fun pins s σ H x vs v us Q I rx rv h =>
 h.elim (mr pins s σ H x vs v us Q I rx rv) (xW pins s σ H x vs v us Q I rx rv)
end L2
namespace Ck
open PySem L2
noncomputable def cY:Bt->List Pair
 | .leaf=>[]
 | .node l r=>b6 (cY l) (cY r)
theorem cu:∀ t:Bt,(cY t).length=t.size
 | .leaf=>rfl
 | .node l r=>by
  show (b6 (cY l) (cY r)).length=l.size+r.size+1
  unfold b6
  rw [Fb,EA,Do,Do,cu l,cu r]
theorem lI (d:Int):∀ ps:List Pair,bx (ps.map (up d))=(bx ps).map (·+d)
 | []=>rfl
 | p::ps=>by
  show (p.1+d)::(p.2+d)::bx (ps.map (up d))=(p.1+d)::(p.2+d)::(bx ps).map (·+d)
  rw [lI d ps]
theorem lF (a b:Nat):cG (a+b)=cG a++(cG b).map (·+(a:Int)):=by
 unfold cG
 rw [List.range_add,ED,FG,FG]
 refine congrArg _ (Fw fun k _=>?_)
 show ((a+k:Nat):Int)=(k:Int)+(a:Int)
 lia
theorem yx (a:Nat):cG (a+1)=0::(cG a).map (·+1):=by
 rw [Nat.add_comm,lF]
 rfl
theorem tW {ps qs:List Pair} (h:lJ ps) (k:lJ qs):lJ (b6 ps qs):=by
 have ln:(b6 ps qs).length=ps.length+qs.length+1:=by
  unfold b6
  rw [Fb,EA,Do,Do]
 have mem:∀ p∈b6 ps qs,p=(0,2*(ps.length:Int)+1)\/(∃ x∈ps,p=up 1 x)\/∃ x∈qs,p=up (2*(ps.length:Int)+2) x:=fun p hp=>by
  unfold b6 at hp
  rcases ET.mp hp with z | z
  ·exact .inl z
  ·rcases EN.mp z with z | z
   ·obtain ⟨x,hx,e⟩:=ER.mp z
    exact .inr (.inl ⟨x,hx,e.symm⟩)
   ·obtain ⟨x,hx,e⟩:=ER.mp z
    exact .inr (.inr ⟨x,hx,e.symm⟩)
 have b1:∀ x∈ps,(up 1 x).1=x.1+1/\(up 1 x).2=x.2+1/\xm (2*(ps.length:Int)) x:=fun x hx=>⟨rfl,rfl,h.inr x hx⟩
 have b2:∀ x∈qs,(up (2*(ps.length:Int)+2) x).1=x.1+(2*(ps.length:Int)+2)/\(up (2*(ps.length:Int)+2) x).2=x.2+(2*(ps.length:Int)+2)/\xm (2*(qs.length:Int)) x:=fun x hx=>⟨rfl,rfl,k.inr x hx⟩
 refine ⟨fun p hp=>?_,?_,fun p hp q hq c=>?_,?_⟩
 ·rw [ln]
  rcases mem p hp with rfl | ⟨x,hx,rfl⟩ | ⟨x,hx,rfl⟩
  ·refine ⟨FQ _,?_,?_⟩<;>show _ < _<;>lia
  ·obtain ⟨e1,e2,i0,i1,i2⟩:=b1 x hx
   refine ⟨?_,?_,?_⟩<;>lia
  ·obtain ⟨e1,e2,i0,i1,i2⟩:=b2 x hx
   refine ⟨?_,?_,?_⟩<;>lia
 ·rw [ln]
  unfold b6
  show ((0:Int)::(2*(ps.length:Int)+1)::bx (ps.map (up 1)++qs.map (up (2*(ps.length:Int)+2)))).Perm _
  rw [gG,lI,lI,show 2*(ps.length+qs.length+1)=(2*ps.length+1)+(1+2*qs.length) by lia,lF,yx,lF,ED,IM]
  refine K5 _ ?_
  have e1:(cG 1).map (·+((2*ps.length+1:Nat):Int))=[2*(ps.length:Int)+1]:=by
   show [((0:Nat):Int)+((2*ps.length+1:Nat):Int)]=_
   congr 1
   lia
  have e2:((cG (2*qs.length)).map (·+((1:Nat):Int))).map (·+((2*ps.length+1:Nat):Int))=(cG (2*qs.length)).map (·+(2*(ps.length:Int)+2)):=by
   rw [FG]
   refine Fw fun z _=>?_
   show z+((1:Nat):Int)+((2*ps.length+1:Nat):Int)=_
   lia
  rw [e1,e2]
  have p1:=h.flat.map (·+(1:Int))
  have p2:=k.flat.map (·+(2*(ps.length:Int)+2))
  exact ((p1.append p2).cons _).trans (IP.symm)
 ·obtain ⟨c1,c2,c3⟩:=c
  rcases mem p hp with rfl | ⟨x,hx,rfl⟩ | ⟨x,hx,rfl⟩<;>rcases mem q hq with rfl | ⟨y,hy,rfl⟩ | ⟨y,hy,rfl⟩
  ·exact absurd c1 (Int.lt_irrefl _)
  ·obtain ⟨e1,e2,i0,i1,i2⟩:=b1 y hy
   have c3':2*(ps.length:Int)+1 < (up 1 y).2:=c3
   lia
  ·obtain ⟨e1,e2,i0,i1,i2⟩:=b2 y hy
   have c2':(up (2*(ps.length:Int)+2) y).1 < 2*(ps.length:Int)+1:=c2
   lia
  ·obtain ⟨e1,e2,i0,i1,i2⟩:=b1 x hx
   have c1':(up 1 x).1 < 0:=c1
   lia
  ·obtain ⟨e1,e2,_⟩:=b1 x hx
   obtain ⟨f1,f2,_⟩:=b1 y hy
   exact h.nc x hx y hy ⟨by lia,by lia,by lia⟩
  ·obtain ⟨e1,e2,i0,i1,i2⟩:=b1 x hx
   obtain ⟨f1,f2,j0,j1,j2⟩:=b2 y hy
   lia
  ·obtain ⟨e1,e2,i0,i1,i2⟩:=b2 x hx
   have c1':(up (2*(ps.length:Int)+2) x).1 < 0:=c1
   lia
  ·obtain ⟨e1,e2,i0,i1,i2⟩:=b2 x hx
   obtain ⟨f1,f2,j0,j1,j2⟩:=b1 y hy
   lia
  ·obtain ⟨e1,e2,_⟩:=b2 x hx
   obtain ⟨f1,f2,_⟩:=b2 y hy
   exact k.nc x hx y hy ⟨by lia,by lia,by lia⟩
 ·unfold b6
  rw [Hc,Fx,FJ,FJ]
  refine ⟨fun p hp=>?_,h.ris.imp fun z=>?_,k.ris.imp fun z=>?_,fun p hp q hq=>?_⟩
  ·rcases EN.mp hp with z | z
   ·obtain ⟨x,hx,rfl⟩:=ER.mp z
    obtain ⟨e1,e2,i0,i1,i2⟩:=b1 x hx
    exact .inl (by show (0:Int) < (up 1 x).1; lia)
   ·obtain ⟨x,hx,rfl⟩:=ER.mp z
    obtain ⟨e1,e2,i0,i1,i2⟩:=b2 x hx
    exact .inl (by show (0:Int) < (up (2*(ps.length:Int)+2) x).1; lia)
  ·unfold bD up at *
   simp only
   lia
  ·unfold bD up at *
   simp only
   lia
  ·obtain ⟨x,hx,rfl⟩:=ER.mp hp
   obtain ⟨y,hy,rfl⟩:=ER.mp hq
   obtain ⟨e1,e2,i0,i1,i2⟩:=b1 x hx
   obtain ⟨f1,f2,j0,j1,j2⟩:=b2 y hy
   exact .inl (by lia)
theorem iJ:∀ t:Bt,lJ (cY t)
 | .leaf=>⟨fun p h=>(by cases h),IF _,fun p h=>(by cases h),.nil⟩
 | .node l r=>tW (iJ l) (iJ r)
noncomputable def bN:Bt->List Int
 | .leaf=>[]
 | .node l r=>(bN l).map (·+1)++[0]++(bN r).map (·+((bN l).length+1:Int))
theorem b8:∀ t:Bt,(bN t).length=t.size
 | .leaf=>rfl
 | .node l r=>by
  show ((bN l).map (·+1)++[0]++(bN r).map _).length=l.size+r.size+1
  rw [EA,EA,Do,Do,b8 l,b8 r]
  show l.size+1+r.size=_
  lia
theorem tp:∀ (t:Bt) {p r:List Int} {a:Nat},gu p r a->gu p (r++(bN t).map (·+(a:Int))) (a+t.size)
 | .leaf,p,r,a,h=>by
  show gu p (r++[]) (a+0)
  rw [Ff]
  exact h
 | .node l s,p,r,a,h=>by
  have h1:=tp l h.on
  have h2:=tp s h1.off
  have e:r++(bN l).map (·+((a+1:Nat):Int))++[(a:Int)]++(bN s).map (·+((a+1+l.size:Nat):Int))=r++(bN (.node l s)).map (·+(a:Int)):=by
   show _=r++((bN l).map (·+1)++[0]++(bN s).map (·+((bN l).length+1:Int))).map (·+(a:Int))
   rw [ED,ED,FG,FG,E9,E9,E9,b8]
   refine congrArg _ ?_
   have g1:(bN l).map (·+((a+1:Nat):Int))=(bN l).map ((·+(a:Int)) ∘ (·+1)):=Fw fun z _=>by show z+((a+1:Nat):Int)=z+1+(a:Int); lia
   have g2:(bN s).map (·+((a+1+l.size:Nat):Int))=(bN s).map ((·+(a:Int)) ∘ (·+((l.size:Int)+1))):=Fw fun z _=>by show z+((a+1+l.size:Nat):Int)=z+((l.size:Int)+1)+(a:Int); lia
   rw [g1,g2]
   show _++((a:Int)::_)=_++((0+(a:Int))::_)
   rw [Hx]
   rfl
  rw [e] at h2
  rw [show a+(Bt.node l s).size=a+1+l.size+s.size by show a+(l.size+s.size+1)=_; lia]
  exact h2
theorem oK (t:Bt):eZ (bN t)=true:=by
 have h:=tp t gu.start
 have e:([]:List Int)++(bN t).map (·+((0:Nat):Int))=bN t:=by
  rw [HQ]
  exact (Fw fun z _=>by show z+((0:Nat):Int)=id z; show z+0=z; lia).trans (Km _)
 rw [e,GM] at h
 exact h.turn (b8 t)
theorem iZ (d:Int):∀ (t:Bt) (a:Int),cc t (a+d)=(cc t a).map (up d)
 | .leaf,_=>rfl
 | .node l r,a=>by
  show (a+d,a+d+2+(l.size:Int)+(r.size:Int))::(cc l (a+d)++cc r (a+d+1+(l.size:Int)))=_
  rw [iZ d l a,show a+d+1+(l.size:Int)=a+1+(l.size:Int)+d by lia,iZ d r]
  show _=(a+d,a+2+(l.size:Int)+(r.size:Int)+d)::(cc l a++cc r (a+1+(l.size:Int))).map (up d)
  rw [ED,show a+d+2+(l.size:Int)+(r.size:Int)=a+2+(l.size:Int)+(r.size:Int)+d by lia]
noncomputable def topC (t:Bt) (a:Int):List Pair:=if t.size=0 then [] else [(a,a+1+(t.size:Int))]
theorem qt (t:Bt) (a:Int):cc t a=topC t a++fe t a:=by
 cases t with
 | leaf=>rfl
 | node l r =>
  unfold topC
  rw [if_neg (by show l.size+r.size+1≠0; lia)]
  show (a,a+2+(l.size:Int)+(r.size:Int))::_=(a,a+1+((l.size+r.size+1:Nat):Int))::_
  rw [show a+1+((l.size+r.size+1:Nat):Int)=a+2+(l.size:Int)+(r.size:Int) by lia]
  rfl
theorem kR (l r:Bt) {ps qs:List Pair} (hp:ps.Perm (fe l 0)) (hq:qs.Perm (fe r 0)):(cB l.size r.size ps qs).Perm (fe (.node l r) 0):=by
 have e:fe (.node l r) 0=(topC l 0++fe l 0)++(topC r 0++fe r 0).map (up ((l.size:Int)+1)):=by
  show cc l 0++cc r (0+1+(l.size:Int))=_
  rw [show (0:Int)+1+(l.size:Int)=0+((l.size:Int)+1) by lia,iZ,qt l,qt r]
 have es:dh l.size r.size=topC l 0++(topC r 0).map (up ((l.size:Int)+1)):=by
  unfold dh topC
  refine congr (congrArg _ ?_) ?_
  ·by_cases c:l.size=0
   ·rw [if_pos c,if_pos c]
   ·rw [if_neg c,if_neg c,show (0:Int)+1+(l.size:Int)=(l.size:Int)+1 by lia]
  ·by_cases c:r.size=0
   ·rw [if_pos c,if_pos c]; rfl
   ·rw [if_neg c,if_neg c]
    show _=[(0+((l.size:Int)+1),0+1+(r.size:Int)+((l.size:Int)+1))]
    rw [Hx,show (0:Int)+1+(r.size:Int)+((l.size:Int)+1)=(l.size:Int)+(r.size:Int)+2 by lia]
 unfold cB
 rw [e,es,ED]
 have p1:(ps++topC l 0).Perm (topC l 0++fe l 0):=(Hw).trans (Ga _ hp)
 have p2:((topC r 0).map (up ((l.size:Int)+1))++qs.map (up ((l.size:Int)+1))).Perm ((topC r 0).map (up ((l.size:Int)+1))++(fe r 0).map (up ((l.size:Int)+1))):=Ga _ (hq.map _)
 rw [<- E9,E9]
 exact p1.append p2
noncomputable def cO:Bt->List (List Int)
 | .leaf=>[]
 | .node l r=>joinR l.size (cO l) (cO r)
theorem cU:∀ t:Bt,cP t.size (cO t)
 | .leaf=>xR
 | .node l r=>(cU l).join (cU r)
theorem ve {a:Int} {r:List Int} {p:Pair} (h:p∈(a::r).zip ((a::r).drop 1)):(r≠[]/\p=(a,hd r))\/p∈r.zip (r.drop 1):=by
 cases r with
 | nil=>cases h
 | cons b r =>
  rcases ET.mp (show p∈(a,b)::(b::r).zip r from h) with z | z
  ·exact .inl ⟨by simp,z⟩
  ·exact .inr z
theorem kZ {d:Int} {r:List Int} {p:Pair} (h:p∈(aE d r).zip ((aE d r).drop 1)):∃ x∈r.zip (r.drop 1),p=up d x:=by
 unfold aE at h
 rw [<- Lk,List.zip_map] at h
 obtain ⟨x,hx,e⟩:=ER.mp h
 exact ⟨x,hx,e.symm⟩
theorem cP.uniq {k:Nat} {R:List (List Int)} (h:cP k R) {r s:List Int} (hr:r∈R) (hs:s∈R) {x:Int} (h1:x∈r) (h2:x∈s):r=s:=by
 have nd:R.flatten.Nodup:=h.flat.nodup_iff.mpr (iY k)
 have pd:=(List.pairwise_flatten.mp nd).2
 obtain ⟨i,hi,rfl⟩:=Hl hr
 obtain ⟨j,hj,rfl⟩:=Hl hs
 by_cases c:i=j
 ·subst c; rfl
 ·rcases Nat.lt_or_gt_of_ne c with w | w
  ·exact absurd rfl (E1.mp pd i j hi hj w x h1 x h2)
  ·exact absurd rfl (E1.mp pd j i hj hi w x h2 x h1)
theorem cP.nb {k:Nat} {R:List (List Int)} (h:cP k R) {p:Pair} (hp:p∈eG R):0<=p.1/\p.1 < p.2/\p.2 < (k:Int):=by
 obtain ⟨r,hr,z⟩:=fz.mp hp
 obtain ⟨m1,m2⟩:=qj z
 obtain ⟨i,hi,e1,e2⟩:=qu z
 have b1:=h.rng hr m1
 have b2:=h.rng hr m2
 refine ⟨b1.1,?_,b2.2⟩
 rw [e1,e2,AC,AC,Da (show i < r.length by lia),Da hi]
 exact E1.mp (h.inc r hr) i (i+1) (by lia) hi (by lia)
theorem vA {i j:Nat} {ls rs:List (List Int)} (h:cP i ls) (h':cP j rs) (n:NC (eG ls)) (n':NC (eG rs)):NC (eG (joinR i ls rs)):=by
 have kind:∀ p∈eG (joinR i ls rs),(∃ g∈ls,aQ i g=true/\p=(0,hd g+1))\/(∃ x∈eG ls,p=up 1 x)\/∃ x∈eG rs,p=up ((i:Int)+1) x:=fun p hp=>by
  obtain ⟨r,hr,z⟩:=fz.mp hp
  unfold joinR at hr
  rcases ET.mp hr with rfl | hr
  ·have g1:=eI h
   match e:ls.filter (aQ i),g1 with
   | [],_ =>
    rw [e] at z
    cases z
   | [R],_ =>
    rw [e] at z
    have hR:=FK.mp (show R∈ls.filter (aQ i) by rw [e]; simp)
    rw [show [R].flatten=R by simp] at z
    rcases ve z with ⟨_,rfl⟩ | z
    ·refine .inl ⟨R,hR.1,hR.2,?_⟩
     cases R with
     | nil=>exact absurd rfl (h.ne _ hR.1)
     | cons a R=>rfl
    ·obtain ⟨x,hx,rfl⟩:=kZ z
     exact .inr (.inl ⟨x,fz.mpr ⟨R,hR.1,hx⟩,rfl⟩)
   | _::_::_,g1=>simp at g1
  ·rcases EN.mp hr with y | y
   ·obtain ⟨s,hs,rfl⟩:=ER.mp y
    obtain ⟨x,hx,rfl⟩:=kZ z
    exact .inr (.inl ⟨x,fz.mpr ⟨s,(FK.mp hs).1,hx⟩,rfl⟩)
   ·obtain ⟨s,hs,rfl⟩:=ER.mp y
    obtain ⟨x,hx,rfl⟩:=kZ z
    exact .inr (.inr ⟨x,fz.mpr ⟨s,hs,hx⟩,rfl⟩)
 have u1:∀ x:Pair,(up 1 x).1=x.1+1/\(up 1 x).2=x.2+1:=fun _=>⟨rfl,rfl⟩
 have u2:∀ x:Pair,(up ((i:Int)+1) x).1=x.1+((i:Int)+1)/\(up ((i:Int)+1) x).2=x.2+((i:Int)+1):=fun _=>⟨rfl,rfl⟩
 intro p hp q hq ⟨c1,c2,c3⟩
 rcases kind p hp with ⟨g,hg,gg,rfl⟩ | ⟨x,hx,rfl⟩ | ⟨x,hx,rfl⟩<;>rcases kind q hq with ⟨g',hg',gg',rfl⟩ | ⟨y,hy,rfl⟩ | ⟨y,hy,rfl⟩
 ·exact absurd c1 (Int.lt_irrefl _)
 ·have b:=h.nb hy
  have e:=u1 y
  have c2':(up 1 y).1 < hd g+1:=c2
  have c3':hd g+1 < (up 1 y).2:=c3
  obtain ⟨R,hR,zy⟩:=fz.mp hy
  obtain ⟨m1,m2⟩:=qj zy
  have gne:=h.ne g hg
  have lg:lst g=(i:Int) - 1:=of_decide_eq_true gg
  by_cases c:y.2∈g
  ·have:=h.uniq hR hg m2 c
   subst this
   have:=CW (h.inc R hR) m1
   lia
  ·have ne:y.2≠(i:Int) - 1:=fun w=>c (by rw [w,<- lg]; exact qm gne)
   obtain ⟨r,hr,a1,a2,a3,_⟩:=gap (h.inc g hg) (dH gne) (qm gne) (show hd g < y.2 by lia) (show y.2 < lst g by lia) c
   exact n y hy r (fz.mpr ⟨g,hg,hr⟩) ⟨by lia,a2,a3⟩
 ·have b:=h'.nb hy
  have e:=u2 y
  have r:=h.rng hg (dH (h.ne g hg))
  have c2':(up ((i:Int)+1) y).1 < hd g+1:=c2
  lia
 ·have b:=h.nb hx
  have e:=u1 x
  have c1':(up 1 x).1 < 0:=c1
  lia
 ·have e:=u1 x
  have f:=u1 y
  exact n x hx y hy ⟨by lia,by lia,by lia⟩
 ·have b:=h.nb hx
  have b':=h'.nb hy
  have e:=u1 x
  have f:=u2 y
  lia
 ·have b:=h'.nb hx
  have e:=u2 x
  have c1':(up ((i:Int)+1) x).1 < 0:=c1
  lia
 ·have b:=h'.nb hx
  have b':=h.nb hy
  have e:=u2 x
  have f:=u1 y
  lia
 ·have e:=u2 x
  have f:=u2 y
  exact n' x hx y hy ⟨by lia,by lia,by lia⟩
theorem vV:∀ t:Bt,NC (eG (cO t))
 | .leaf=>fun p h=>(by cases h)
 | .node l r=>vA (cU l) (cU r) (vV l) (vV r)
theorem uk (t:Bt):cF (cO t)=true:=by
 have rm:=cU t
 have hE:bW (cO t).flatten=true:=(cn _).mpr (by
  have e:=rm.flat.length_eq
  rw [nQ,lN] at e
  rw [e]
  exact rm.flat)
 rw [ni rm.ne hE,EW]
 exact ⟨decide_eq_true ⟨rm.inc,rm.heads⟩,by rw [jI.mpr (vV t)]; rfl⟩
theorem uW {a b c:Pair} (h:bD a b) (k:bD b c):bD a c:=by
 unfold bD at *
 lia
theorem uj (a b:Pair):bD a b\/bD b a:=by
 unfold bD
 lia
theorem mJ (l:List Pair):∃ ps:List Pair,ps.Perm l/\ps.Pairwise bD:=by
 refine ⟨l.mergeSort (fun a b=>!dm b a),List.mergeSort_perm _ _,?_⟩
 have tr:∀ a b c:Pair,(!dm b a)=true->(!dm c b)=true->(!dm c a)=true:=fun a b c h k=>by
  rw [GA] at *
  exact dO.mpr (uW (dO.mp h) (dO.mp k))
 have to:∀ a b:Pair,((!dm b a) || !dm a b)=true:=fun a b=>by
  rcases uj a b with h | h
  ·rw [dO.mpr h]; rfl
  ·rw [dO.mpr h]; simp
 exact (List.pairwise_mergeSort tr to l).imp fun h=>dO.mp (by rw [GA] at h; exact h)
theorem fT {t:Bt} {cs:List Pair} (pm:cs.Perm (fe t 0)) (ri:cs.Pairwise bD):nZ t.size cs:=by
 have f:=wZ pm ri
 refine ⟨fun p hp=>?_,ri,?_⟩
 ·obtain ⟨h1,h2,h3,h4⟩:=f.ct p hp
  exact ⟨h1,h2,by lia,fun z=>h4 ⟨z.1,by lia⟩⟩
 ·have:=f.len
  split at this<;>lia
def Kn (w:Nat) (H0 H:Hp) (v:V) (t:Bt):Prop:=match w with
 | 0=>∃ p,v = .ref p/\H0 p=none/\aT H p (cY t)
 | 1=>∃ p,v = .ref p/\H0 p=none/\aM H0 H p (cO t)
 | 2=>∃ q l cs,v = .ref q/\H0 l=none/\H q=some (.tup [.int ((t.size:Int)+2),.ref l])/\aT H l cs/\cs.Perm (fe t 0)/\cs.Pairwise bD
 | _=>∃ p,v = .ref p/\H0 p=none/\H p=some (.lst ((bN t).map V.int))
theorem Kn.same {w:Nat} {H0 H H':Hp} {v:V} {t:Bt} (h:Kn w H0 H v t) (s:ae H H'):Kn w H0 H' v t:=by
 match w,h with
 | 0,⟨p,e,n,h⟩=>exact ⟨p,e,n,h.same s⟩
 | 1,⟨p,e,n,h⟩=>exact ⟨p,e,n,h.same s⟩
 | 2,⟨q,l,cs,e,n,h,k,r⟩=>exact ⟨q,l,cs,e,n,s _ _ h,k.same s,r⟩
 | _+3,⟨p,e,n,h⟩=>exact ⟨p,e,n,s _ _ h⟩
theorem Kn.since {w:Nat} {H0 H1 H:Hp} {v:V} {t:Bt} (h:Kn w H0 H v t) (s:ae H1 H0):Kn w H1 H v t:=by
 match w,h with
 | 0,⟨p,e,n,h⟩=>exact ⟨p,e,s.free n,h⟩
 | 1,⟨p,e,n,h⟩=>exact ⟨p,e,s.free n,h.since s⟩
 | 2,⟨q,l,cs,e,n,h⟩=>exact ⟨q,l,cs,e,s.free n,h⟩
 | _+3,⟨p,e,n,h⟩=>exact ⟨p,e,s.free n,h⟩
def Kr (w:Nat) (H:Hp) (v:V) (t:Bt):Prop:=∃ H0,Kn w H0 H v t
theorem Kr.same {w:Nat} {H H':Hp} {v:V} {t:Bt} (h:Kr w H v t) (s:ae H H'):Kr w H' v t:=let ⟨a,k⟩:=h; ⟨a,k.same s⟩
def eW (H0 H1 H H':Hp):Prop:=∀ c o,H c=some o->((∀ xs,o≠.lst xs)\/H0 c≠none\/H1 c=none)->H' c=some o
theorem eW.same {H0 H1 H H':Hp} (h:eW H0 H1 H H') (s:ae H0 H):ae H0 H':=fun c o e=>h c o (s _ _ e) (.inr (.inl (by rw [e]; simp)))
theorem Kn.two {w:Nat} {Ha Hb H:Hp} {v v':V} {t:Bt} (k1:Kn w Ha H v t) (k2:Kn w Hb H v' t) (h40:t.size<=40):∃ T:Tree,dep T<=3/\Rep H T v/\Rep H T v':=by
 rcases w with _ | _ | _ | w
 ·obtain ⟨p,e,_,h⟩:=k1
  obtain ⟨p',e',_,h'⟩:=k2
  subst e e'
  have l:(cY t).length<=1000000:=by rw [cu]; lia
  exact ⟨_,Nat.le_succ_of_le (pR _),h.rep l,h'.rep l⟩
 ·obtain ⟨p,e,_,h⟩:=k1
  obtain ⟨p',e',_,h'⟩:=k2
  subst e e'
  have rm:=(cU t).lens
  have l1:(cO t).length<=1000000:=by lia
  have l2:∀ r∈cO t,r.length<=1000000:=fun r hr=>by have:=rm.2 r hr; lia
  exact ⟨_,Nat.le_succ_of_le (uG _),h.rep l1 l2,h'.rep l1 l2⟩
 ·obtain ⟨q,l,cs,e,_,h,k,pm,ri⟩:=k1
  obtain ⟨q',l',cs',e',_,h',k',pm',ri'⟩:=k2
  subst e e'
  have z:cs'=cs:=ip ri' ri (pm'.trans pm.symm)
  subst z
  have lc:cs'.length<=1000000:=by have:=(fT pm ri).len; lia
  exact ⟨_,ym _ _,pH h k lc,pH h' k' lc⟩
 ·obtain ⟨p,e,_,h⟩:=k1
  obtain ⟨p',e',_,h'⟩:=k2
  subst e e'
  have l:(bN t).length<=1000000:=by rw [b8]; lia
  exact ⟨_,by rw [qx]; decide,kW h l,kW h' l⟩
theorem yj {K:Fi} {H:Hp}:∀ (n:Nat) (t:Tree) {x y:V},dep t<=n->Rep H t x->Rep H t y->aW K H n x y true:=by
 intro n
 induction n with
 | zero =>
  intro t x y hd rx ry
  rcases t with i | ts | ts
  ·unfold Rep at rx ry
   subst rx ry
   have z:=aW.flat (K:=K) (H:=H) (n:=0) (x:=V.int i) (y:=V.int i) rfl rfl
   rwa [show g5 (.int i) (.int i)=true by simp [g5]] at z
  all_goals
   unfold dep at hd
   exact absurd hd (by lia)
 | succ n ih =>
  intro t x y hd rx ry
  rcases t with i | ts | ts
  ·unfold Rep at rx ry
   subst rx ry
   have z:=aW.flat (K:=K) (H:=H) (n:=n+1) (x:=V.int i) (y:=V.int i) rfl rfl
   rwa [show g5 (.int i) (.int i)=true by simp [g5]] at z
  all_goals
   unfold Rep at rx ry
   unfold dep at hd
   obtain ⟨p,xs,rfl,hp,_,rx⟩:=rx
   obtain ⟨r,ys,rfl,hr,_,ry⟩:=ry
   by_cases ne:p=r
   ·subst ne
    exact .same
   have go:∀ (j:Nat) (x y:V),xs[j]? = some x->ys[j]? = some y->aW K H n x y true:=fun j x y ex ey=>by
    obtain ⟨t,et,r1⟩:=rx.get ex
    obtain ⟨t',et',r2⟩:=ry.get ey
    rw [et] at et'
    cases et'
    have:=jW et
    exact ih t (by lia) r1 r2
   have ll:xs.length=ys.length:=rx.length.trans ry.length.symm
   first
    | exact aW.lstT ne (aj.of hp) (aj.of hr) ll go
    | exact aW.tupT ne (bb.of hp) (bb.of hr) ll go
theorem BO:(EM (40+1)).map cR=dN 40:=by
 rw [ze]
 exact Fw fun j hj=>(rg (by have:=E6.mp hj; lia)).symm
theorem eW.refl (H0 H1 H:Hp):eW H0 H1 H H:=fun _ _ h _=>h
theorem eW.new {H0 H1 H H':Hp} (h:eW H0 H1 H H') {c:EK} (n:H' c=none) (o:HO):eW H0 H1 H (upd H' c o):=fun e o' h1 h2=>by
 have:=h e o' h1 h2
 rw [upd_ne (aq this n)]
 exact this
theorem eW.put {H0 H1 H H':Hp} (h:eW H0 H1 H H') (sm:ae H1 H) {c:EK} {ys:List V} (k:H1 c=some (.lst ys)) (n:H0 c=none) (o:HO):eW H0 H1 H (upd H' c o):=fun e o' h1 h2=>by
 by_cases z:e=c
 ·subst z
  rw [sm _ _ k] at h1
  cases h1
  rcases h2 with h2 | h2 | h2
  ·exact absurd rfl (h2 ys)
  ·exact absurd n h2
  ·rw [k] at h2
   cases h2
 ·rw [upd_ne z]
  exact h e o' h1 h2
theorem Kn.list {w:Nat} {H0 H:Hp} {v:V} {t:Bt} (k1:Kn w H0 H v t) (h2:w≠2) (h40:t.size<=40):∃ (l:EK) (xs:List V),v = .ref l/\H l=some (.lst xs)/\H0 l=none/\xs.length<=100/\∀ x∈xs,(∃ i,x = .int i)\/(∃ b ys,x = .ref b/\H b=some (.tup ys))\/(∃ b ns,x = .ref b/\b≠l/\H b=some (.lst ns)/\H0 b=none/\ns.length<=1000):=by
 match w,k1,h2 with
 | 0,⟨p,e,n,h⟩,_ =>
  obtain ⟨xs,ex,lx,pr⟩:=h.len
  rw [cu] at lx
  refine ⟨p,xs,e,ex,n,by lia,fun x hx=>.inr (.inl ?_)⟩
  obtain ⟨j,hj⟩:=Fy hx
  obtain ⟨_,tt,_,e',ht⟩:=pr.get hj
  exact ⟨tt,_,e',ht⟩
 | 1,⟨p,e,n,h⟩,_ =>
  have ln:=(cU t).lens
  obtain ⟨xs,ex,lx⟩:=h.len
  refine ⟨p,xs,e,ex,n,by lia,fun x hx=>.inr (.inr ?_)⟩
  obtain ⟨b,ns,e',hn,hb,f,ne⟩:=h.mem ex hx
  exact ⟨b,_,e',ne,hb,f,by rw [Do]; have:=ln.2 ns hn; lia⟩
 | 2,_,h2=>exact absurd rfl h2
 | _+3,⟨p,e,n,h⟩,_ =>
  refine ⟨p,_,e,h,n,by rw [Do,b8]; lia,fun x hx=>.inl ?_⟩
  obtain ⟨i,_,e'⟩:=ER.mp hx
  exact ⟨i,e'.symm⟩
theorem zh {n m:Nat} (h:m < n):0<=pre n m/\pre n m < sh n:=by
 obtain ⟨l,l1,l2⟩:=jC m 0 (FQ _) (by have:=dA m; lia)
 obtain ⟨r,r1,r2⟩:=jC (n - 1 - m) 0 (FQ _) (by have:=dA (n - 1 - m); lia)
 have e:bU (.node l r)=pre n m:=by
  show pre (l.size+r.size+1) l.size+bU l*sh r.size+bU r=_
  rw [l1,r1,l2,r2,show m+(n - 1 - m)+1=n by lia]
  lia
 have a:=dS (.node l r)
 have b:=g6 (.node l r)
 have z:(Bt.node l r).size=n:=by
  show l.size+r.size+1=n
  lia
 rw [e] at a b
 rw [z] at b
 exact ⟨a,b⟩
noncomputable def pI:Nat->Str
 | 0=>"bows"
 | 1=>"rooms"
 | 2=>"floor"
 | _=>"turns"
theorem Kn.apart {w:Nat} {H0 H H':Hp} {v v':V} {t t':Bt} (k1:Kn w H0 H v t) (k2:Kn w H H' v' t') (s:ae H H'):∃ a b,v' = .ref a/\v = .ref b/\a≠b:=by
 rcases w with _ | _ | _ | w
 ·obtain ⟨p,e,_,xs,h,_⟩:=k1
  obtain ⟨p',e',n,_⟩:=k2
  exact ⟨p',p,e',e,fun z=>by rw [z,h] at n; cases n⟩
 ·obtain ⟨p,e,_,xs,h,_⟩:=k1
  obtain ⟨p',e',n,_⟩:=k2
  exact ⟨p',p,e',e,fun z=>by rw [z,h] at n; cases n⟩
 ·obtain ⟨q,l,_,e,_,h,⟨xs,hl,_⟩,_⟩:=k1
  obtain ⟨q',l',_,e',n,h',_⟩:=k2
  exact ⟨q',q,e',e,fun z=>by
   rw [z,s _ _ h] at h'
   injection h' with h'
   injection h' with h'
   injection h' with _ h'
   injection h' with h'
   injection h' with h'
   rw [<- h',hl] at n
   cases n⟩
 ·obtain ⟨p,e,_,h⟩:=k1
  obtain ⟨p',e',n,_⟩:=k2
  exact ⟨p',p,e',e,fun z=>by rw [z,h] at n; cases n⟩
end Ck
namespace L2
open PySem PySem.Spec PyProof.Rows
noncomputable def pick {α:Type} (d:α):List α->Nat->α
 | [],_=>d
 | a::_,0=>a
 | _::r,n+1=>pick d r n
noncomputable def sel (a b c d:Nat):Nat->Nat
 | 0=>a
 | 1=>b
 | 2=>c
 | _=>d
theorem four {p:Nat->Prop} (a:p 0) (b:p 1) (c:p 2) (d:p 3):∀ i,i<=3->p i
 | 0,_=>a
 | 1,_=>b
 | 2,_=>c
 | 3,_=>d
 | n+4,h=>absurd h (by lia)
noncomputable def nN (C:Nat->EK) (m:Str) (sp:Nat->Sp) (E:XK) (ta:TE) (t:TA):TE:=fun σ H Q=>∃ i,i<=3/\i8 (C i) m (sp i) [] E ta t σ H Q
section
variable {X:Cx} {C f:Nat->EK} {fd:Nat->Ge} {ps:List Str} {sp:Nat->Sp} {m:Str} {apos pos:Pos} {o e:Hq} {es:List Hq} {ta:TE} {t:TA} {j k:Nat}
theorem xq {pl:Sem Bool} (ho:PE X o ta) (c:∀ i,i<=3->Cls X.K (C i)) (hm:∀ i,i<=3->Meth X.K (C i) m (f i)) (D:∀ i,i<=3->fo X.prog X.w X.K X.mg X.base ps j (sp i) (f i) (fd i)) (hr:bj k X.A) (ha:PA X (e::es) t) (hjk:j<=k:=by decide)
  (hst:starEach (e::es) X.env=(false,eval e X.env)::starEach es X.env:=by rfl) (hpl:(backTo pos (starEach es X.env)).any (·.1)=false:=by rfl)
  (ht:eval (.Call (.Attribute o m apos) (e::es) [] pos) X.env=(do
   let ov <- eval o X.env
   standAt apos.atName
   let (f,first) <- holding [ov] (getMethod ov m pl)
   callWith pos f first (backTo pos (starEach (e::es) X.env)) (backToKw pos (keywordEach [] X.env))):=by rfl) :
  PE X (.Call (.Attribute o m apos) (e::es) [] pos) (nN C m sp E0 ta t):=fun pins s σ H Q I ⟨i,hi,h⟩=>xC ho (c i hi) (hm i hi) (D i hi) hr ha hjk hst hpl ht pins s σ H Q I h
theorem DO {pl:Sem Bool} (ho:PE X o ta) (c:∀ i,i<=3->Cls X.K (C i)) (hm:∀ i,i<=3->Meth X.K (C i) m (f i)) (D:∀ i,i<=3->fo X.prog X.w X.K X.mg X.base ps j (sp i) (f i) (fd i)) (hr:bj k X.A) (hjk:j<=k:=by decide)
  (ht:eval (.Call (.Attribute o m apos) [] [] pos) X.env=(do
   let ov <- eval o X.env
   standAt apos.atName
   let (f,first) <- holding [ov] (getMethod ov m pl)
   callWith pos f first (backTo pos (starEach [] X.env)) (backToKw pos (keywordEach [] X.env))):=by rfl) :
  PE X (.Call (.Attribute o m apos) [] [] pos) (nN C m sp E0 ta jE):=fun pins s σ H Q I ⟨i,hi,h⟩=>y8 ho (c i hi) (hm i hi) (D i hi) hr hjk ht pins s σ H Q I h
theorem DS {E:XK} (T:p6 X E) {pl:Sem Bool} (ho:PE X o ta) (c:∀ i,i<=3->Cls X.K (C i)) (hm:∀ i,i<=3->Meth X.K (C i) m (f i)) (D:∀ i,i<=3->fo X.prog X.w X.K X.mg X.base ps j (sp i) (f i) (fd i)) (hr:bj k X.A) (ha:PA X (e::es) t) (hjk:j<=k:=by decide)
  (hst:starEach (e::es) X.env=(false,eval e X.env)::starEach es X.env:=by rfl) (hpl:(backTo pos (starEach es X.env)).any (·.1)=false:=by rfl)
  (ht:eval (.Call (.Attribute o m apos) (e::es) [] pos) X.env=(do
   let ov <- eval o X.env
   standAt apos.atName
   let (f,first) <- holding [ov] (getMethod ov m pl)
   callWith pos f first (backTo pos (starEach (e::es) X.env)) (backToKw pos (keywordEach [] X.env))):=by rfl) :
  PE X (.Call (.Attribute o m apos) (e::es) [] pos) (nN C m sp E ta t):=fun pins s σ H Q I ⟨i,hi,h⟩=>BY T ho (c i hi) (hm i hi) (D i hi) hr ha hjk hst hpl ht pins s σ H Q I h
end
theorem bo {N P:List Str} {sc:JR} (h1:sc.kind = .function:=by rfl) (h2:sc.isCoroutine=false:=by rfl) (h3:sc.isGenerator=false:=by rfl) (h4:N.Nodup:=by decide +kernel) (h5:N.take P.length=P:=by rfl)
  (h6:∀ x∈P,sc.names.lookup x=some .local\/sc.names.lookup x=some .cell:=by decide +kernel) (h7:∀ y∈sc.names,y.2≠.free:=by decide +kernel):aw N P sc:=⟨h1,h2,h3,h4,h5,h6,h7⟩
structure xl (K:Fi) (mg:Str->Option Ey) (x:Str) (st:HI) (f:EK) (fd:Ge):Prop where
 F:aR K x x st f fd
 m:mg x=some (.ref f)
section
variable {P:Fm} {w:FH} {K:Fi} {mg:Str->Option Ey} {base:GP} {x q:Str} {st:HI} {f:EK} {fd:Ge} {N ps:List Str} {k:Nat} {sp:Sp}
theorem de (F:aR K x q st f fd) (b:∀ (kV doc pm:Ey) (an:Option EK) (cdv ct:Ey) (us:List Ey),us.length=ps.length->bindArgs (Li x q (cV st) (cq st) (ar st) .none kV doc pm an cdv ct) ⟨us,[]⟩=pure (ps.zip us)) (ok:bA P w K mg base kO k f fd ps sp):fo P w K mg base ps k sp f fd:=⟨ok.up,F.binds b⟩
theorem D0 (F:aR K x q st f fd) (b:∀ (kV doc pm:Ey) (an:Option EK) (cdv ct:Ey) (us:List Ey),us.length=ps.length->bindArgs (Li x q (cV st) (cq st) (ar st) .none kV doc pm an cdv ct) ⟨us,[]⟩=pure (ps.zip us)) (ok:bA P w K mg base (fH P w) k f fd ps sp):fo P w K mg base ps k sp f fd:=⟨ok,F.binds b⟩
theorem eB (F:xl K mg x st f fd) (b:∀ (kV doc pm:Ey) (an:Option EK) (cdv ct:Ey) (us:List Ey),us.length=ps.length->bindArgs (Li x x (cV st) (cq st) (ar st) .none kV doc pm an cdv ct) ⟨us,[]⟩=pure (ps.zip us)) (ok:bA P w K mg base kO k f fd ps sp):Def P w K mg base x ps k sp f fd:=⟨ok.up,F.F.binds b,F.F.kp,F.m⟩
theorem DR (F:xl K mg x st f fd) (b:∀ (kV doc pm:Ey) (an:Option EK) (cdv ct:Ey) (us:List Ey),us.length=ps.length->bindArgs (Li x x (cV st) (cq st) (ar st) .none kV doc pm an cdv ct) ⟨us,[]⟩=pure (ps.zip us)) (ok:bA P w K mg base (fH P w) k f fd ps sp):Def P w K mg base x ps k sp f fd:=⟨ok,F.F.binds b,F.F.kp,F.m⟩
theorem vp {sp:Nat->Sp} (L M:Nat) (hL:L+M<=k) (F:xl K mg x st f fd) (b:∀ (kV doc pm:Ey) (an:Option EK) (cdv ct:Ey) (us:List Ey),us.length=ps.length->bindArgs (Li x x (cV st) (cq st) (ar st) .none kV doc pm an cdv ct) ⟨us,[]⟩=pure (ps.zip us))
  (ok:∀ n,Def P w K mg base x ps (L+n) (below n sp) f fd->bA P w K mg base (fH P w) (L+n+1) f fd ps (sp n)):Def P w K mg base x ps k (below M sp) f fd :=
 ⟨(oJ (L:=L) (N:=M) fun m _=>Ar (fun n q=>ok n ⟨oJ q,F.F.binds b,F.F.kp,F.m⟩) m).mono hL,F.F.binds b,F.F.kp,F.m⟩
end
theorem Ee {P:List Ey->Prop} (h:P []):∀ us:List Ey,us.length=0->P us
 | [],_=>h
 | _::_,e=>nomatch e
theorem xI {n:Nat} {P:List Ey->Prop} (h:∀ (a:Ey) (us:List Ey),us.length=n->P (a::us)):∀ us:List Ey,us.length=n+1->P us
 | a::us,e=>h a us (Nat.succ.inj e)
 | [],e=>nomatch e
theorem eO {P:List Ey->Prop} (h:∀ a:Ey,P [a]):∀ us:List Ey,us.length=1->P us:=xI fun a=>Ee (h a)
theorem eX {P:List Ey->Prop} (h:∀ a b:Ey,P [a,b]):∀ us:List Ey,us.length=2->P us:=xI fun a=>eO (h a)
theorem gv {P:List Ey->Prop} (h:∀ a b c:Ey,P [a,b,c]):∀ us:List Ey,us.length=3->P us:=xI fun a=>eX (h a)
theorem Dr {P:List Ey->Prop} (h:∀ a b c d:Ey,P [a,b,c,d]):∀ us:List Ey,us.length=4->P us:=xI fun a=>gv (h a)
end L2
namespace L2
open PySem
theorem sM {P:Fm} {w:FH} {K:Fi} {mg:Str->Option Ey} {base:GP} {ps:List Str} {j k:Nat} {sp:Sp} {f:EK} {fd:Ge} (d:fo P w K mg base ps j sp f fd) (h:j<=k:=by decide):fo P w K mg base ps k sp f fd:=⟨d.ok.mono h,d.b⟩
end L2
namespace L2
open PySem
end L2
namespace Ck
open PySem L2
def um (i:Nat) (H:Hp) (v:V) (b:Bool):Prop:=match i with
 | 0=>∃ (l:EK) (ps:List Pair),v = .ref l/\aT H l ps/\ps.length<=60/\cI ps=b
 | 1=>∃ (l:EK) (H0:Hp) (rs:List (List Int)),v = .ref l/\aM H0 H l rs/\rs.length<=60/\rs.flatten.length < 128/\(∀ r∈rs,r.length < 64)/\cF rs=b
 | 2=>∃ (t l:EK) (c:Int) (ps:List Pair),v = .ref t/\H t=some (.tup [.int c,.ref l])/\aT H l ps/\ps.length<=60/\flB c ps=b
 | _=>∃ (l:EK) (ns:List Int),v = .ref l/\H l=some (.lst (ns.map V.int))/\ns.length < 64/\eZ ns=b
theorem Kr.iso {w:Nat} {H:Hp} {v:V} {t:Bt} (h:Kr w H v t) (h40:t.size<=40):um w H v true:=by
 obtain ⟨Ha,k⟩:=h
 match w,k with
 | 0,⟨p,e,_,h⟩=>exact ⟨p,_,e,h,by rw [cu]; lia,(iJ t).bows⟩
 | 1,⟨p,e,_,h⟩ =>
  have rm:=cU t
  have ln:=rm.lens
  have lf:=rm.flat.length_eq
  rw [nQ,lN] at lf
  exact ⟨p,_,_,e,h,by lia,by lia,fun r hr=>by have:=ln.2 r hr; lia,uk t⟩
 | 2,⟨q,l,cs,e,_,ht,k,pm,ri⟩=>exact ⟨q,l,_,cs,e,ht,k,by have:=(fT pm ri).len; lia,(wZ pm ri).flB⟩
 | _+3,⟨p,e,_,h⟩=>exact ⟨p,_,e,h,by rw [b8]; lia,oK t⟩
noncomputable def qk (n:Nat):List Pair:=(EM n).map (fun (k:Nat)=>((2*(k:Int),2*(k:Int)+1+if decide (k+1=n)=true then 1 else 0):Pair))++[(2*(n:Int),2*(n:Int))]
theorem AK (n:Nat):cI (qk n)=false:=by
 cases e:cI (qk n) with
 | false=>rfl
 | true =>
  unfold cI at e
  rw [EW,EW,cn] at e
  have nd:(bx (qk n)).Nodup:=e.2.1.nodup_iff.mpr (iY _)
  unfold qk at nd
  rw [gG,Gf] at nd
  exact absurd nd.2.1 (by show ¬ [2*(n:Int),2*(n:Int)].Nodup; simp)
theorem zz (rs:List (List Int)):cF (rs++[[]])=false:=by
 cases e:cF (rs++[[]]) with
 | false=>rfl
 | true =>
  unfold cF at e
  have h:=Fq.mp (Gj.mp e).1 [] (by simp)
  simp at h
theorem zO {c:Int} {ps:List Pair} (h:c=(ps.length:Int)+4):flB c ps=false:=by
 unfold flB gq
 rw [show decide ((ps.length:Int)=if c - 3 > 0 then c - 3 else 0)=false from decide_eq_false (by rw [if_pos (by lia)]; lia)]
 simp
theorem AO (n:Nat):eZ ((EM (n+1)).map fun (k:Nat)=>(k:Int)+1)=false:=by
 unfold eZ
 cases e:bW ((EM (n+1)).map fun (k:Nat)=>(k:Int)+1) with
 | false=>rfl
 | true =>
  rw [cn] at e
  have m:(0:Int)∈(EM (n+1)).map fun (k:Nat)=>(k:Int)+1:=e.mem_iff.mpr (gf.mpr (by simp))
  obtain ⟨k,_,z⟩:=ER.mp m
  lia
theorem CG:cI [(0,2),(1,3)]=false:=by decide
theorem CI:cF [[0,2],[1,3]]=false:=by decide
theorem Cv:flB 5 [(0,2),(1,3)]=false:=by decide
theorem C7:eZ [2,0,1]=false:=by decide
end Ck
namespace L2
open PySem PySem.Spec PyProof.Rows
theorem uo {X:Cx} {es es':List Hq} {pos:Pos} {te:TE} {t:TA} (ha:PE X (.List es' pos) te) (hr:PA X es t):PA X (.List es' pos::es) (mT te t):=aa ha hr (by rfl)
theorem w6 {X:Cx} {es es':List Hq} {x1:Nat} {pos:Pos} {te:TE} {t:TA} (ha:PE X (.Tuple es' x1 pos) te) (hr:PA X es t):PA X (.Tuple es' x1 pos::es) (mT te t):=aa ha hr (by rfl)
end L2
namespace Ck
open PySem PySem.W PySem.Calls PyProof.Rows
noncomputable def pX {α:Type} (p q:Fm) (loose:List Str) (Xt:Ez->Bool) (Yf:Ez->α) (h0:GP) (s:Ez) :=
 ((staticsOk (importedModules p.main.body) h0 s.heap&&namesBound p s.heap&&gensDone s&&laidKept h0 s.heap),
  openSeen q loose (importedModules p.main.body) Xt true s,Yf s)
theorem rQ {p q:Fm} {loose:List Str} {Xt:Ez->Bool} {α:Type} {Yf:Ez->α} {Ya:FH->α} {N M m:Nat} {H:HG->GP} {gs:Array Kf} {dr:Drawn} {tk:Nat} {an:Option Ey}
  (o:∀ w:FH,(fencedOpening treeTable p w N).map (fun s=>(s.heap,s.gens,s.drawn,s.toks))=some (H w.params,gs,dr,tk))
  (z:∀ w:FH,((H w.params).isNs mainGlobals&&gs.size == 0,(H w.params).objs.size,(H w.params).nsMap mainGlobals "__annotations__")=(true,m,an))
  (r:∀ (w:FH) (os:Lc),∃ e,topRun treeTable p w m an M ⟨H w.params,gs,dr,tk,os⟩ (topStub p)=some e/\pX p q loose Xt Yf (H w.params) e=(true,openGood q loose,Ya w))
  (le:M<=N):LeftO p q loose Xt Yf Ya N:=by
 intro w
 have ow:=o w
 cases hf:fencedOpening treeTable p w N with
 | none=>rw [hf] at ow; cases ow
 | some s =>
  rw [hf] at ow
  have os:=FB ow
  have e1:s.heap=H w.params:=congrArg Lj os
  have e2:s.gens=gs:=congrArg (fun x=>x.2.1) os
  have e3:s.drawn=dr:=congrArg (fun x=>x.2.2.1) os
  have e4:s.toks=tk:=congrArg (fun x=>x.2.2.2) os
  obtain ⟨e,run,look⟩:=r w s.os
  have hs:s=⟨H w.params,gs,dr,tk,s.os⟩:=by rw [<- e1,<- e2,<- e3,<- e4]
  have run':=topRun_mono (N - M) _ _ _ _ run
  rw [Nat.add_sub_cancel' le] at run'
  have zw:=z w
  have z1:=congrArg Lj zw
  have z2:=congrArg (fun x=>x.2.1) zw
  have z3:=congrArg (fun x=>x.2.2) zw
  dsimp only at z1 z2 z3
  have l1:=congrArg Lj look
  have l2:=congrArg Lw look
  have tf:topFrom treeTable p w N s=some e:=by
   rw [hs]
   unfold topFrom
   dsimp only
   rw [z1,z2,z3,run']
   unfold pX at l1
   dsimp only at l1
   dsimp only [Option.bind]
   rw [l1]
  unfold openEnds
  rw [hf,Option.bind_some,tf]
  exact congrArg some l2
noncomputable def alive (o:Obj):Option Obj:=match o with
 | ⟨_,_,.freed,_⟩=>none
 | o=>some o
noncomputable def fF:List Obj->List Bool->List (Option Obj)
 | _,[]=>[]
 | [],true::m=>none::fF [] m
 | [],false::m=>fF [] m
 | o::os,true::m=>alive o::fF os m
 | _::os,false::m=>fF os m
noncomputable def iK:List Bool->Nat->List Nat
 | [],_=>[]
 | true::m,i=>i::iK m (i+1)
 | false::m,i=>iK m (i+1)
theorem lE:∀ (m:List Bool) (os:List Obj) (pre:List Obj),fF os m=(iK m pre.length).map fun a=>(pre++os)[a]?.bind alive
 | [],os,pre=>by cases os<;>rfl
 | b::m,[],pre=>by
  have k:=lE m [] (pre++[default])
  rw [EA,Jq] at k
  have e:∀ i,pre.length < i->((pre++[(default:Obj)])++[])[i]?.bind alive=(pre++[])[i]?.bind alive:=fun i hi=>by
   rw [Gu (by simp; lia),Gu (by simp; lia)]
  have lt:∀ (m:List Bool) (n i:Nat),i∈iK m n->n<=i:=by
   intro m
   induction m with
   | nil=>intro n i h; cases h
   | cons b m ih=>intro n i h; cases b with
    | true =>
     rcases ET.1 h with h | h
     ·lia
     ·have:=ih _ _ h; lia
    | false=>have:=ih _ _ h; lia
  have k':fF [] m=(iK m (pre.length+1)).map fun a=>(pre++[])[a]?.bind alive:=by
   rw [k]; exact Fw fun i hi=>e i (lt _ _ _ hi)
  cases b with
  | true=>show none::fF [] m=_::_; rw [k']; congr 1; simp
  | false=>exact k'
 | b::m,o::os,pre=>by
  have k:=lE m os (pre++[o])
  rw [EA,Jq,E9,List.singleton_append] at k
  cases b with
  | true=>show alive o::fF os m=_::_; rw [k]; congr 1; simp
  | false=>exact k
theorem tJ (h:GP) (a:EK):h.get? a=h.objs.toList[a]?.bind alive:=by
 unfold Heap.get?
 rw [Fu]
 cases h.objs[a]? with
 | none=>rfl
 | some o=>obtain ⟨c,d,x,s⟩:=o; cases x<;>rfl
theorem yo {m:List Bool} {as:List EK} (e:as=iK m 0) (h:GP):as.map h.get? = fF h.objs.toList m:=by
 rw [lE m h.objs.toList [],e]
 exact Fw fun a _=>tJ h a
section
variable {tb:String->Option Builtin} {p:Fm} {w:FH} {m:Nat} {an:Option Ey} {env:Env} {q:Pos}
noncomputable def lG {β:Type} (tb:String->Option Builtin) (p:Fm) (w:FH) (m:Nat) (an:Option Ey) (q:Pos) (c:Code) (n4:Nat) (L:Ez->β) (r:Flow × SharedT × Code × Pos):Flow × Code × Option β :=
 (r.1,r.2.2.1,(topRun tb p w m an n4 r.2.1.abs ⟨doneF .next,c,r.2.2.2,[topFrame q]⟩).map L)
theorem t6 {β:Type} {L:Ez->β} {b:List HI} {c:Code} {n1 n2 n3 n4:Nat} {S0 Sa:Ez} {Sb:SharedT} {pos0 pos1:Pos} {z:β} (hc:c = .body b env)
  (h1:topGo tb p w m an n1 S0 (topStub p)=some (Sa,⟨denote tb c,c,pos0,[topFrame q]⟩))
  (h2:segRun tb p w m an 1 n2 Sa (blockOf b env c pos0 [topFrame q])=some (.next,Sb.abs,c,pos1))
  (h3:(segRunT tb p w m an 1 n3 Sb (piecesOf b env c pos1 [topFrame q])).map (lG tb p w m an q c n4 L)=some (.next,c,some z)) :
  ∃ e,topRun tb p w m an (n1+(n2+(n3+n4))) S0 (topStub p)=some e/\L e=z:=by
 cases hr:segRunT tb p w m an 1 n3 Sb (piecesOf b env c pos1 [topFrame q]) with
 | none=>rw [hr] at h3; cases h3
 | some x =>
  obtain ⟨f,s,d,ps⟩:=x
  rw [hr] at h3
  have h3:=FB h3
  unfold lG at h3
  have a1:f = .next:=congrArg Lj h3
  have a2:d=c:=congrArg (fun x=>x.2.1) h3
  have a3:=congrArg (fun x=>x.2.2) h3
  dsimp only at a3
  subst a1 a2 hc
  cases ht:topRun tb p w m an n4 s.abs ⟨doneF .next,.body b env,ps,[topFrame q]⟩ with
  | none=>rw [ht] at a3; cases a3
  | some e =>
   rw [ht] at a3
   have k:=piece_app (rest:=[]) (segRun_of hr) (piece_nil ht)
   rw [Ff] at k
   exact ⟨e,go_top h1 (piece_block h2 k),FB a3⟩
end
end Ck
namespace Ck
open PySem L2
noncomputable def top (i:Nat):HI:=PySem.Challenge.pw_countkin_k24_four_families_by_parts.main.body.getD i (.Pass ⟨0,0,0,0⟩)
set_option genInjectivity false in
structure aS where
 C:Nat->EK
 f:Nat->EK
 fd:Nat->Ge
structure BS (K:Fi) (mg:Str->Option Ey) (ca:aS):Prop where
 AH:mg "Bows" = some (.ref (ca.C 0))
 yk:mg "Rooms" = some (.ref (ca.C 1))
 wR:mg "Floors" = some (.ref (ca.C 2))
 yD:mg "Turns" = some (.ref (ca.C 3))
 eD:mg "SplitFamily" = some (.ref (ca.C 4))
 wC:mg "Family" = some (.ref (ca.C 5))
 c4:∀ i,i<=3->Cls K (ca.C i)
 mt4_refuse_other:∀ i,i<=3->Meth K (ca.C i) "refuse_other" (ca.f 28)
 mt4_is_one:∀ i,i<=3->Meth K (ca.C i) "is_one" (ca.f (sel 20 22 24 26 i))
 mt4_size_of:∀ i,i<=3->Meth K (ca.C i) "size_of" (ca.f (sel 29 30 31 32 i))
 mt4_bare:∀ i,i<=3->Meth K (ca.C i) "bare" (ca.f (sel 34 35 36 37 i))
 mt4_parted:∀ i,i<=3->Meth K (ca.C i) "parted" (ca.f (sel 40 42 44 45 i))
 mt4_joined:∀ i,i<=3->Meth K (ca.C i) "joined" (ca.f (sel 47 48 49 50 i))
 na4_word:∀ i,i<=3->NoAttr K (ca.C i) "word"
 na4_least:∀ i,i<=3->NoAttr K (ca.C i) "least"
 mk_Bows:Mk K (ca.C 0) (ca.f 11)
 mk_Rooms:Mk K (ca.C 1) (ca.f 12)
 mk_Floors:Mk K (ca.C 2) (ca.f 13)
 mk_Turns:Mk K (ca.C 3) (ca.f 14)
 cm_SplitFamily___init___W:ClsM K (ca.C 4) "__init__" (ca.f 10)
 cm_Family___init___W:ClsM K (ca.C 5) "__init__" (ca.f 9)
 eE:mg "len" = none
 dX:mg "range" = none
 rC:mg "max" = none
 dZ:mg "list" = none
 dR:mg "sorted" = none
 bK:mg "isinstance" = none
 kQ:mg "tuple" = none
 xa:mg "all" = none
 Cm:mg "zip" = none
 CJ:mg "set" = none
 Cy:mg "sum" = none
 rp:mg "int" = none
 B6:mg "bool" = none
noncomputable abbrev rM:HI:=top 27
theorem zM:aw ["_law_script","_law_k"] ["_law_script","_law_k"] (ar rM):=bo
noncomputable abbrev sR:HI:=top 29
theorem oj:aw ["_law_most","_law_counts_here","_law_k"] ["_law_most"] (ar sR):=bo
noncomputable abbrev sL:HI:=top 30
theorem gr:aw ["_law_script","_law_size","_law_counts_here","_law_some","_law_number_here","_law_j","_law_cell"] ["_law_script","_law_size","_law_counts_here"] (ar sL):=bo
noncomputable abbrev tm:HI:=top 35
theorem BH:aw ["_law_word"] ["_law_word"] (ar tm):=bo
noncomputable abbrev vv:HI:=top 31
theorem jh:aw ["_law_left","_law_right","_law_i","_law_bows","_law_a","_law_b"] ["_law_left","_law_right","_law_i"] (ar vv):=bo
noncomputable abbrev vg:HI:=top 32
theorem mQ:aw ["_law_left","_law_right","_law_i","_law_rooms","_law_room"] ["_law_left","_law_right","_law_i"] (ar vg):=bo
noncomputable abbrev vL:HI:=top 33
theorem ji:aw ["_law_left","_law_right","_law_i","_law_last","_law_cuts","_law_part","_law_a","_law_b"] ["_law_left","_law_right","_law_i"] (ar vL):=bo
noncomputable abbrev qX:HI:=top 34
theorem BG:aw ["_law_word","_law_left","_law_right","_law_i"] ["_law_word","_law_left","_law_right","_law_i"] (ar qX):=bo
noncomputable abbrev rV:HI:=top 36
theorem gU:aw ["_law_word","_law_size","_law_number_here","_law_counts_here","_law_i","_law_rest","_law_left"] ["_law_word","_law_size","_law_number_here","_law_counts_here"] (ar rV):=bo
noncomputable abbrev wM:HI:=inClass (top 5) 0
theorem CP:aw ["self","word","least"] ["self","word","least"] (ar wM):=bo
noncomputable abbrev v7:HI:=inClass (top 6) 0
theorem CH:aw ["self","word"] ["self","word"] (ar v7):=bo
noncomputable abbrev qW:HI:=inClass (top 16) 0
theorem zU:aw ["self"] ["self"] (ar qW):=bo
noncomputable abbrev wD:HI:=inClass (top 17) 0
theorem CY:aw ["self"] ["self"] (ar wD):=bo
noncomputable abbrev wQ:HI:=inClass (top 20) 0
theorem CB:aw ["self"] ["self"] (ar wQ):=bo
noncomputable abbrev sr:HI:=inClass (top 24) 0
theorem Bj:aw ["self"] ["self"] (ar sr):=bo
noncomputable abbrev se:HI:=top 38
theorem yP:aw ["_law_word"] ["_law_word"] (ar se):=bo
noncomputable abbrev sU:HI:=top 37
theorem Ao:aw ["_law_thing_here"] ["_law_thing_here"] (ar sU):=bo
noncomputable abbrev sT:HI:=top 13
theorem zZ:aw ["numbers"] ["numbers"] (ar sT):=bo
noncomputable abbrev qK:HI:=top 12
theorem nE:aw ["rows","found","row"] ["rows"] (ar qK):=bo
noncomputable abbrev sO:HI:=top 14
theorem iO:aw ["pairs","a","b","c","d"] ["pairs"] (ar sO):=bo
noncomputable abbrev rW:HI:=inClass (top 16) 2
theorem B0:aw ["self","thing"] ["self","thing"] (ar rW):=bo
noncomputable abbrev rF:HI:=top 18
theorem Ae:aw ["rooms"] ["rooms"] (ar rF):=bo
noncomputable abbrev qL:HI:=inClass (top 17) 2
theorem A7:aw ["self","thing"] ["self","thing"] (ar qL):=bo
noncomputable abbrev rR:HI:=top 21
theorem AB:aw ["corners","a","b"] ["corners","a","b"] (ar rR):=bo
noncomputable abbrev sv:HI:=inClass (top 20) 2
theorem oo:aw ["self","thing","corners","cuts"] ["self","thing"] (ar sv):=bo
noncomputable abbrev vQ:HI:=top 25
theorem kG:aw ["numbers","stack","put","number"] ["numbers"] (ar vQ):=bo
noncomputable abbrev rn:HI:=inClass (top 24) 2
theorem Aj:aw ["self","thing"] ["self","thing"] (ar rn):=bo
noncomputable abbrev v8:HI:=inClass (top 5) 7
theorem CT:aw ["self","thing"] ["self","thing"] (ar v8):=bo
noncomputable abbrev sd:HI:=inClass (top 16) 1
theorem zg:aw ["self","thing"] ["self","thing"] (ar sd):=bo
noncomputable abbrev rX:HI:=inClass (top 17) 1
theorem Bp:aw ["self","thing"] ["self","thing"] (ar rX):=bo
noncomputable abbrev wF:HI:=inClass (top 20) 1
theorem CK:aw ["self","thing"] ["self","thing"] (ar wF):=bo
noncomputable abbrev sH:HI:=inClass (top 24) 1
theorem BC:aw ["self","thing"] ["self","thing"] (ar sH):=bo
noncomputable abbrev qS:HI:=inClass (top 16) 3
theorem AW:aw ["self"] ["self"] (ar qS):=bo
noncomputable abbrev sJ:HI:=inClass (top 17) 3
theorem zH:aw ["self"] ["self"] (ar sJ):=bo
noncomputable abbrev sj:HI:=inClass (top 20) 3
theorem zR:aw ["self"] ["self"] (ar sj):=bo
noncomputable abbrev qZ:HI:=inClass (top 24) 3
theorem Aq:aw ["self"] ["self"] (ar qZ):=bo
noncomputable abbrev qM:HI:=top 11
theorem BL:aw ["pairs","step"] ["pairs","step"] (ar qM):=bo
noncomputable abbrev sV:HI:=inClass (top 16) 4
theorem kM:aw ["self","thing","left_size","left","right"] ["self","thing"] (ar sV):=bo
noncomputable abbrev qO:HI:=top 10
theorem A2:aw ["numbers","step"] ["numbers","step"] (ar qO):=bo
noncomputable abbrev sX:HI:=inClass (top 17) 4
theorem j8:aw ["self","thing","left_size","within","behind"] ["self","thing"] (ar sX):=bo
noncomputable abbrev rD:HI:=top 22
theorem zF:aw ["cuts","begin","end"] ["cuts","begin","end"] (ar rD):=bo
noncomputable abbrev sG:HI:=inClass (top 20) 4
theorem gR:aw ["self","thing","last","cuts","third","left","right"] ["self","thing"] (ar sG):=bo
noncomputable abbrev sg:HI:=inClass (top 24) 4
theorem uI:aw ["self","thing","left_size"] ["self","thing"] (ar sg):=bo
noncomputable abbrev si:HI:=inClass (top 16) 5
theorem uF:aw ["self","left","right","end"] ["self","left","right"] (ar si):=bo
noncomputable abbrev rh:HI:=inClass (top 17) 5
theorem iN:aw ["self","left","right","left_size","first","others","room"] ["self","left","right"] (ar rh):=bo
noncomputable abbrev r9:HI:=inClass (top 20) 5
theorem ko:aw ["self","left","right","third","last","cuts"] ["self","left","right"] (ar r9):=bo
noncomputable abbrev qV:HI:=inClass (top 24) 5
theorem zq:aw ["self","left","right"] ["self","left","right"] (ar qV):=bo
noncomputable abbrev sQ:HI:=top 8
theorem kA:aw ["one","other","thing","parts","left","right"] ["one","other","thing"] (ar sQ):=bo
noncomputable abbrev rS:HI:=top 7
theorem BJ:aw ["one","other","thing"] ["one","other","thing"] (ar rS):=bo
noncomputable abbrev sS:HI:=top 40
theorem Bq:aw ["_law_word","_law_size","_law_some"] ["_law_word","_law_size","_law_some"] (ar sS):=bo
noncomputable abbrev su:HI:=top 28
theorem tE:aw ["_law_found","_law_due","_law_k"] ["_law_found","_law_due"] (ar su):=bo
noncomputable abbrev rA:HI:=top 39
theorem uA:aw ["_law_thing_here","_law_room"] ["_law_thing_here"] (ar rA):=bo
noncomputable abbrev i9:HI:=top 41
theorem cK:aw ["_law_script","_law_size","_law_word","_law_other","_law_counts_here","_law_number_here","_law_thing_here","_law_due","_law_kin_here","_law_handed","_law_refused","_law_k","_law_found"] ["_law_script"] (ar i9):=bo
noncomputable def dI (K:Fi) (ca:aS) (i:Nat):Sp:=fun vs H Q _=>∃ (x:EK) (v:V) (b:Bool),vs=[.ref x,v]/\um i H v b/\∀ H',ae H H'->Q (.bl b) H'
noncomputable def dv (K:Fi) (ca:aS) (i:Nat):Sp:=fun vs H Q _=>∃ (x:EK) (v:V) (bt:Bt),vs=[.ref x,v]/\Kr i H v bt/\bt.size<=40/\∀ H',ae H H'->Q (.int (bt.size:Int)) H'
noncomputable def eP (K:Fi) (ca:aS) (i:Nat):Sp:=fun vs H Q _=>∃ x,vs=[.ref x]/\∀ (v:V) (H':Hp),ae H H'->Kn i H H' v .leaf->Q v H'
noncomputable def dP (K:Fi) (ca:aS) (i:Nat):Sp:=fun vs H Q _=>∃ (x:EK) (v:V) (bl br:Bt),vs=[.ref x,v]/\Kr i H v (.node bl br)/\bl.size+br.size<=39/\∀ (p:EK) (vl vr:V) (H':Hp),ae H H'->H' p=some (.tup [vl,vr])->Kn i H H' vl bl->Kn i H H' vr br->Q (.ref p) H'
noncomputable def dF (K:Fi) (ca:aS) (i:Nat):Sp:=fun vs H Q _=>∃ (x dx:EK) (fs:List (Str × V)) (wd:Str) (vl vr:V) (bl br:Bt),vs=[.ref x,vl,vr]/\H x=some (.ins (ca.C i) dx fs)/\eF fs wd 0/\Kr i H vl bl/\Kr i H vr br/\bl.size+br.size<=39/\∀ (v:V) (H':Hp),ae H H'->Kn i H H' v (.node bl br)->Q v H'
noncomputable def BA (K:Fi) (_:aS):Sp:=fun vs H Q _=>∃ (a:EK) (ns:List Int) (k:Int),vs=[.ref a,.int k]/\aj K H a (ns.map V.int)/\0<=k/\Q (.int (ns.getD k.toNat 0)) H
noncomputable def Bl (K:Fi) (_:aS):Sp:=fun vs H Q _=>∃ (k:Nat),vs=[.int (k:Int)]/\k<=60/\∀ (p:EK) (H':Hp),ae H H'->H p=none->H' p=some (.lst (((EM (k+1)).map cR).map V.int))->Q (.ref p) H'
noncomputable def zJ (K:Fi) (_:aS):Sp:=fun vs H Q _=>∃ (a pc:EK) (ns:List Int) (n:Nat),vs=[.ref a,.int (n:Int),.ref pc]/\aj K H a (ns.map V.int)/\ns.length<=63/\H pc=some (.lst ((dN 40).map V.int))/\n<=40/\∀ (m:Int) (H':Hp),ae H H'->0<=m->m < sh n->Q (.int m) H'
noncomputable def Be (_:Fi) (_:aS):Sp:=fun vs H Q _=>∃ (w:Nat),vs=[.int (w:Int)]/\w<=3/\∀ (v:V) (H':Hp),ae H H'->Kn w H H' v .leaf->Q v H'
noncomputable def Cr (K:Fi) (_:aS):Sp:=fun vs H Q _=>∃ (l r:EK) (ps qs:List Pair),vs=[.ref l,.ref r,.int (ps.length:Int)]/\aT H l ps/\aT H r qs/\ps.length+qs.length<=40/\∀ (p:EK) (H':Hp),ae H H'->H p=none->aT H' p (b6 ps qs)->Q (.ref p) H'
noncomputable def Dc (K:Fi) (_:aS):Sp:=fun vs H Q _=>∃ (l r:EK) (Ha Hb:Hp) (i j:Nat) (ls rs:List (List Int)),vs=[.ref l,.ref r,.int (i:Int)]/\aM Ha H l ls/\aM Hb H r rs/\cP i ls/\cP j rs/\i+j<=40 /\
 ∀ (p:EK) (H':Hp),ae H H'->H p=none->aM H H' p (joinR i ls rs)->Q (.ref p) H'
noncomputable def Ci (K:Fi) (_:aS):Sp:=fun vs H Q _=>∃ (tl tr l r:EK) (i j:Nat) (ps qs:List Pair),vs=[.ref tl,.ref tr,.int (i:Int)]/\H tl=some (.tup [.int ((i:Int)+2),.ref l])/\H tr=some (.tup [.int ((j:Int)+2),.ref r])/\aT H l ps/\aT H r qs/\nZ i ps/\nZ j qs/\i+j<=40 /\
 ∀ (t p:EK) (cs:List Pair) (H':Hp),ae H H'->H t=none->H p=none->H' t=some (.tup [.int ((i:Int)+(j:Int)+3),.ref p])->aT H' p cs->cs.Perm (cB i j ps qs)->cs.Pairwise bD->Q (.ref t) H'
noncomputable def Bf (_:Fi) (_:aS):Sp:=fun vs H Q _=>∃ (w:Nat) (vl vr:V) (bl br:Bt),vs=[.int (w:Int),vl,vr,.int (bl.size:Int)]/\w<=3/\Kr w H vl bl/\Kr w H vr br/\bl.size+br.size<=39/\∀ (v:V) (H':Hp),ae H H'->Kn w H H' v (.node bl br)->Q v H'
noncomputable def yQ (_:Fi) (_:aS) (n:Nat):Sp:=fun vs H Q _=>∃ (w:Nat) (pc:EK) (t:Bt),vs=[.int (w:Int),.int (n:Int),.int (bU t),.ref pc]/\w<=3/\H pc=some (.lst ((dN 40).map V.int))/\t.size=n/\n<=40/\∀ (v:V) (H':Hp),ae H H'->Kn w H H' v t->Q v H'
noncomputable def Dd (_:Fi) (ca:aS):Sp:=fun vs H Q _=>∃ (fw:Nat),fw<=3/\∃ (x dx:EK) (w:Str) (l:Int),vs=[.ref x,.str w,.int l]/\H x=some (.ins (ca.C fw) dx [])/\∀ (fs:List (Str × V)) (H':Hp),H'=upd H x (.ins (ca.C fw) dx fs)->eF fs w l->Q .non H'
noncomputable def Cd (_:Fi) (ca:aS):Sp:=fun vs H Q _=>∃ (fw:Nat),fw<=3/\∃ (x dx:EK) (w:Str),vs=[.ref x,.str w]/\H x=some (.ins (ca.C fw) dx [])/\∀ (fs:List (Str × V)) (H':Hp),H'=upd H x (.ins (ca.C fw) dx fs)->eF fs w 0->Q .non H'
noncomputable def AE (_:Fi) (ca:aS):Sp:=fun vs H Q _=>∃ x dx,vs=[.ref x]/\H x=some (.ins (ca.C 0) dx [])/\∀ (fs:List (Str × V)) (H':Hp),H'=upd H x (.ins (ca.C 0) dx fs)->eF fs (pI 0) 0->Q .non H'
noncomputable def Cs (_:Fi) (ca:aS):Sp:=fun vs H Q _=>∃ x dx,vs=[.ref x]/\H x=some (.ins (ca.C 1) dx [])/\∀ (fs:List (Str × V)) (H':Hp),H'=upd H x (.ins (ca.C 1) dx fs)->eF fs (pI 1) 0->Q .non H'
noncomputable def CU (_:Fi) (ca:aS):Sp:=fun vs H Q _=>∃ x dx,vs=[.ref x]/\H x=some (.ins (ca.C 2) dx [])/\∀ (fs:List (Str × V)) (H':Hp),H'=upd H x (.ins (ca.C 2) dx fs)->eF fs (pI 2) 0->Q .non H'
noncomputable def BE (_:Fi) (ca:aS):Sp:=fun vs H Q _=>∃ x dx,vs=[.ref x]/\H x=some (.ins (ca.C 3) dx [])/\∀ (fs:List (Str × V)) (H':Hp),H'=upd H x (.ins (ca.C 3) dx fs)->eF fs (pI 3) 0->Q .non H'
noncomputable def y9 (K:Fi) (ca:aS):Sp:=fun vs H Q _=>∃ (w:Nat),vs=[.int (w:Int)]/\w<=3/\∀ (x dx:EK) (fs:List (Str × V)) (H':Hp),ae H H'->H' x=some (.ins (ca.C w) dx fs)->eF fs (pI w) 0->Q (.ref x) H'
noncomputable def zE (_:Fi) (_:aS):Sp:=fun vs H Q _=>∃ (w:Nat) (v:V) (t:Bt),vs=[v]/\w<=3/\Kr w H v t/\t.size<=40/\∀ (v':V) (H':Hp),ae H H'->Kn w H H' v' t->Q v' H'
noncomputable def yY (K:Fi) (_:aS):Sp:=fun vs H Q _=>∃ (l:EK) (ns:List Int),vs=[.ref l]/\H l=some (.lst (ns.map V.int))/\ns.length < 128/\∀ H',ae H H'->Q (.bl (bW ns)) H'
noncomputable def A0 (K:Fi) (_:aS):Sp:=fun vs H Q _=>∃ (l:EK),vs=[.ref l]/\((∃ (ps:List Pair),aT H l ps/\ps.length<=1000/\∀ (p:EK) (H':Hp),ae H H'->H p=none->H' p=some (.lst ((bx ps).map V.int))->Q (.ref p) H')\/(∃ (bs:List EK) (xss:List (List V)),H l=some (.lst (bs.map V.ref))/\cT H bs xss/\xss.flatten.length<=1000/\∀ (p:EK) (H':Hp),ae H H'->H p=none->H' p=some (.lst xss.flatten)->Q (.ref p) H'))
noncomputable def By (K:Fi) (_:aS):Sp:=fun vs H Q _=>∃ (l:EK) (ps:List Pair),vs=[.ref l]/\aT H l ps/\Q (.bl (cf ps)) H
noncomputable def Ca (K:Fi) (ca:aS):Sp:=dI K ca 0
noncomputable def B4 (K:Fi) (_:aS):Sp:=fun vs H Q _=>∃ (l:EK) (H0:Hp) (rs:List (List Int)),vs=[.ref l]/\aM H0 H l rs/\rs.length<=100/\rs.flatten.length<=1000/\∀ (p:EK) (H':Hp),ae H H'->H p=none->aT H' p (eG rs)->Q (.ref p) H'
noncomputable def BQ (K:Fi) (ca:aS):Sp:=dI K ca 1
noncomputable def A8 (K:Fi) (_:aS):Sp:=fun vs H Q _=>∃ (c a b:Int),vs=[.int c,.int a,.int b]/\∀ H',ae H H'->Q (.bl (gI c (a,b))) H'
noncomputable def zm (K:Fi) (ca:aS):Sp:=dI K ca 2
noncomputable def Co (K:Fi) (_:aS):Sp:=fun vs H Q _=>∃ (l:EK) (ns:List Int),vs=[.ref l]/\H l=some (.lst (ns.map V.int))/\ns.length < 64/\bW ns=true/\∀ H',ae H H'->Q (.bl (jY ns)) H'
noncomputable def BM (K:Fi) (ca:aS):Sp:=dI K ca 3
noncomputable def Cc (K:Fi) (ca:aS) (er:l7):Sp:=fun vs H Q E=>∃ (fw:Nat),fw<=3/\∃ (x dx:EK) (fs:List (Str × V)) (wd:Str) (v:V) (b:Bool),vs=[.ref x,v]/\H x=some (.ins (ca.C fw) dx fs)/\eF fs wd 0/\um fw H v b/\(b=true->∀ H',ae H H'->Q .non H')/\(b=false->∀ H',ae H H'->E (.ref er.thing) none H')
noncomputable def yS (K:Fi) (ca:aS):Sp:=dv K ca 0
noncomputable def Av (K:Fi) (ca:aS):Sp:=dv K ca 1
noncomputable def Cf (K:Fi) (ca:aS):Sp:=dv K ca 2
noncomputable def BF (K:Fi) (ca:aS):Sp:=dv K ca 3
noncomputable def yK (K:Fi) (ca:aS):Sp:=eP K ca 0
noncomputable def yL (K:Fi) (ca:aS):Sp:=eP K ca 1
noncomputable def Ad (K:Fi) (ca:aS):Sp:=eP K ca 2
noncomputable def zk (K:Fi) (ca:aS):Sp:=eP K ca 3
noncomputable def zl (K:Fi) (_:aS):Sp:=fun vs H Q _=>∃ (l:EK) (ps:List Pair) (d:Int),vs=[.ref l,.int d]/\aT H l ps/\ps.length<=1000/\∀ (p:EK) (H':Hp),ae H H'->H p=none->aT H' p (ps.map (up d))->Q (.ref p) H'
noncomputable def BP (K:Fi) (ca:aS):Sp:=dP K ca 0
noncomputable def z7 (K:Fi) (_:aS):Sp:=fun vs H Q _=>∃ (l:EK) (ns:List Int) (d:Int),vs=[.ref l,.int d]/\aj K H l (ns.map V.int)/\ns.length<=1000/\∀ (p:EK) (H':Hp),ae H H'->H p=none->H' p=some (.lst ((ns.map (·+d)).map V.int))->Q (.ref p) H'
noncomputable def yU (K:Fi) (ca:aS):Sp:=dP K ca 1
noncomputable def A9 (K:Fi) (_:aS):Sp:=fun vs H Q _=>∃ (l:EK) (cs:List Pair) (la:Int),vs=[.ref l,.int 0,.int la]/\aT H l cs/\cs.length<=1000 /\
 ∀ (M:Int) (H':Hp),ae H H'->((cs.filter (eA la)).map (·.2)=[]->M=1)->((cs.filter (eA la)).map (·.2)≠[]->M∈(cs.filter (eA la)).map (·.2)/\∀ y∈(cs.filter (eA la)).map (·.2),y<=M)->Q (.int M) H'
noncomputable def Bv (K:Fi) (ca:aS):Sp:=dP K ca 2
noncomputable def za (K:Fi) (ca:aS):Sp:=dP K ca 3
noncomputable def Bx (K:Fi) (ca:aS):Sp:=dF K ca 0
noncomputable def AR (K:Fi) (ca:aS):Sp:=dF K ca 1
noncomputable def zc (K:Fi) (ca:aS):Sp:=dF K ca 2
noncomputable def cS (ps qs:List Int):List Int:=ps.map (·+1)++[0]++qs.map (·+((ps.length:Int)+1))
theorem tP (ps qs:List Int):(cS ps qs).length=ps.length+qs.length+1:=by unfold cS; simp; lia
noncomputable def yW (K:Fi) (ca:aS):Sp:=dF K ca 3
noncomputable def BB (K:Fi) (ca:aS) (n:Nat):Sp:=fun vs H Q _=>∃ (fw fu:Nat),fw<=3/\fu<=3/\∃ (x dx:EK) (fs:List (Str × V)) (wd:Str) (y dy:EK) (gs:List (Str × V)) (we:Str) (v:V) (t:Bt),vs=[.ref x,.ref y,v]/\H x=some (.ins (ca.C fw) dx fs)/\eF fs wd 0/\H y=some (.ins (ca.C fu) dy gs)/\eF gs we 0/\Kr fw H v t/\t.size=n/\n<=40/\∀ (g:V) (H':Hp),ae H H'->Kn fu H H' g t->Q g H'
noncomputable def B5 (K:Fi) (ca:aS) (er:l7):Sp:=fun vs H Q E=>∃ (fw fu:Nat),fw<=3/\fu<=3/\∃ (x dx:EK) (fs:List (Str × V)) (wd:Str) (y dy:EK) (gs:List (Str × V)) (we:Str) (v:V),vs=[.ref x,.ref y,v]/\H x=some (.ins (ca.C fw) dx fs)/\eF fs wd 0/\H y=some (.ins (ca.C fu) dy gs)/\eF gs we 0/\((∃ t,Kr fw H v t/\t.size<=40/\∀ (g:V) (H':Hp),ae H H'->Kn fu H H' g t->Q g H')\/(um fw H v false/\∀ H',ae H H'->E (.ref er.thing) none H'))
noncomputable def zu (K:Fi) (ca:aS):Sp:=fun vs H Q _=>∃ (w n s:Nat),vs=[.int (w:Int),.int (n:Int),.int (s:Int)]/\w<=3/\n<=40/\∀ (v:V) (H':Hp),ae H H'->um w H' v false->Q v H'
noncomputable def AJ (_:Fi) (_:aS) (n:Nat):Sp:=fun vs H Q _=>∃ (x y:V) (t:Tree),vs=[x,y]/\Rep H t x/\Rep H t y/\dep t<=n/\Q (.bl true) H
noncomputable def Ai (_:Fi) (_:aS):Sp:=fun vs H Q _=>∃ (w:Nat) (v:V) (t:Bt) (H0 H1:Hp),vs=[v]/\w<=3/\Kn w H0 H1 v t/\ae H1 H/\t.size<=40/\∀ (H':Hp),eW H0 H1 H H'->Q .non H'
noncomputable def Bc (K:Fi) (_:aS) (er:l7):Sp:=fun vs H Q _=>∃ (a:EK) (ns:List Int),vs=[.ref a]/\aj K H a (ns.map V.int)/\ns.length<=63/\∀ H',Q (.bl true) H'
section
variable (P:Fm) (w:FH) (K:Fi) (mg:Str->Option Ey) (base:GP) (ca:aS) (er:l7)
noncomputable abbrev Dm (n:Nat) (ps:List Str) (k:Nat) (sp:Sp):Prop:=fo P w K mg base ps k sp (ca.f n) (ca.fd n)
noncomputable abbrev Df (n:Nat) (x:Str) (ps:List Str) (k:Nat) (sp:Sp):Prop:=Def P w K mg base x ps k sp (ca.f n) (ca.fd n)
noncomputable def DL:List Prop:=[Df P w K mg base ca 0 "_law_cell_at" ["_law_script","_law_k"] 1 (BA K ca),Df P w K mg base ca 1 "_law_counts" ["_law_most"] 1 (Bl K ca),Df P w K mg base ca 2 "_law_number" ["_law_script","_law_size","_law_counts_here"] 2 (zJ K ca),Df P w K mg base ca 3 "_law_bare" ["_law_word"] 1 (Be K ca),Df P w K mg base ca 4 "_law_bows_joined" ["_law_left","_law_right","_law_i"] 1 (Cr K ca),Df P w K mg base ca 5 "_law_rooms_joined" ["_law_left","_law_right","_law_i"] 1 (Dc K ca),Df P w K mg base ca 6 "_law_floors_joined" ["_law_left","_law_right","_law_i"] 1 (Ci K ca),Df P w K mg base ca 7 "_law_joined" ["_law_word","_law_left","_law_right","_law_i"] 2 (Bf K ca),Df P w K mg base ca 8 "_law_thing" ["_law_word","_law_size","_law_number_here","_law_counts_here"] 44 (below 41 (yQ K ca)),Dm P w K mg base ca 9 ["self","word","least"] 1 (Dd K ca),Dm P w K mg base ca 10 ["self","word"] 3 (Cd K ca),Dm P w K mg base ca 11 ["self"] 5 (AE K ca),Dm P w K mg base ca 12 ["self"] 5 (Cs K ca),Dm P w K mg base ca 13 ["self"] 5 (CU K ca),Dm P w K mg base ca 14 ["self"] 5 (BE K ca),Df P w K mg base ca 15 "_law_kin" ["_law_word"] 7 (y9 K ca),Df P w K mg base ca 16 "_law_copy" ["_law_thing_here"] 1 (zE K ca),Df P w K mg base ca 17 "each_once" ["numbers"] 1 (yY K ca),Df P w K mg base ca 18 "flat" ["rows"] 1 (A0 K ca),Df P w K mg base ca 19 "any_cross" ["pairs"] 1 (By K ca),Dm P w K mg base ca 20 ["self","thing"] 2 (Ca K ca),Df P w K mg base ca 21 "neighbours" ["rooms"] 2 (B4 K ca),Dm P w K mg base ca 22 ["self","thing"] 3 (BQ K ca),Df P w K mg base ca 23 "may_be_cut" ["corners","a","b"] 1 (A8 K ca),Dm P w K mg base ca 24 ["self","thing"] 2 (zm K ca),Df P w K mg base ca 25 "comes_off_a_stack" ["numbers"] 1 (Co K ca),Dm P w K mg base ca 26 ["self","thing"] 2 (BM K ca),∀ i,i<=3->Dm P w K mg base ca (sel 20 22 24 26 i) ["self","thing"] 3 (dI K ca i),Dm P w K mg base ca 28 ["self","thing"] 4 (Cc K ca er),Dm P w K mg base ca 29 ["self","thing"] 1 (yS K ca),Dm P w K mg base ca 30 ["self","thing"] 1 (Av K ca),Dm P w K mg base ca 31 ["self","thing"] 1 (Cf K ca),Dm P w K mg base ca 32 ["self","thing"] 1 (BF K ca),∀ i,i<=3->Dm P w K mg base ca (sel 29 30 31 32 i) ["self","thing"] 1 (dv K ca i),Dm P w K mg base ca 34 ["self"] 1 (yK K ca),Dm P w K mg base ca 35 ["self"] 1 (yL K ca),Dm P w K mg base ca 36 ["self"] 1 (Ad K ca),Dm P w K mg base ca 37 ["self"] 1 (zk K ca),∀ i,i<=3->Dm P w K mg base ca (sel 34 35 36 37 i) ["self"] 1 (eP K ca i),Df P w K mg base ca 39 "pairs_raised_by" ["pairs","step"] 1 (zl K ca),Dm P w K mg base ca 40 ["self","thing"] 2 (BP K ca),Df P w K mg base ca 41 "raised_by" ["numbers","step"] 1 (z7 K ca),Dm P w K mg base ca 42 ["self","thing"] 2 (yU K ca),Df P w K mg base ca 43 "third_corner" ["cuts","begin","end"] 1 (A9 K ca),Dm P w K mg base ca 44 ["self","thing"] 2 (Bv K ca),Dm P w K mg base ca 45 ["self","thing"] 2 (za K ca),∀ i,i<=3->Dm P w K mg base ca (sel 40 42 44 45 i) ["self","thing"] 2 (dP K ca i),Dm P w K mg base ca 47 ["self","left","right"] 2 (Bx K ca),Dm P w K mg base ca 48 ["self","left","right"] 2 (AR K ca),Dm P w K mg base ca 49 ["self","left","right"] 2 (zc K ca),Dm P w K mg base ca 50 ["self","left","right"] 2 (yW K ca),∀ i,i<=3->Dm P w K mg base ca (sel 47 48 49 50 i) ["self","left","right"] 2 (dF K ca i),Df P w K mg base ca 52 "led_by_parts" ["one","other","thing"] 44 (below 41 (BB K ca)),Df P w K mg base ca 53 "by_parts" ["one","other","thing"] 45 (B5 K ca er),Df P w K mg base ca 54 "_law_amiss" ["_law_word","_law_size","_law_some"] 1 (zu K ca),Df P w K mg base ca 55 "_law_alike" ["_law_found","_law_due"] 6 (below 5 (AJ K ca)),Df P w K mg base ca 56 "_law_spoiled" ["_law_thing_here"] 1 (Ai K ca)]
def D (n:Nat):Prop:=pick True (DL P w K mg base ca er) n
def Al (k:Nat):Prop:=∀ j,j < k->D P w K mg base ca er j
end
section
variable {P:Fm} {w:FH} {K:Fi} {mg:Str->Option Ey} {base:GP} {ca:aS} {er:l7}
theorem Al.g {k:Nat} (h:Al P w K mg base ca er k) (j:Nat) (hj:j < k:=by decide):D P w K mg base ca er j:=h j hj
theorem Al.s {k:Nat} (h:Al P w K mg base ca er k) (d:D P w K mg base ca er k):Al P w K mg base ca er (k+1):=fun j hj=>if e:j=k then e▸d else h j (by lia)
noncomputable abbrev cM (K:Fi) (ca:aS) (n:Nat) (x q:Str) (s:HI):Prop:=aR K x q s (ca.f n) (ca.fd n)
noncomputable abbrev Fg (K:Fi) (mg:Str->Option Ey) (ca:aS) (n:Nat) (x:Str) (s:HI):Prop:=xl K mg x s (ca.f n) (ca.fd n)
variable (CA:BS K mg ca)
include CA
theorem El:Al P w K mg base ca er 0:=fun _ h=>absurd h (Hk _)
variable (EO:rN K mg er)
include EO
theorem Aa (aL:Al P w K mg base ca er 0) (F:Fg K mg ca 0 "_law_cell_at" rM):D P w K mg base ca er 0:=by
 refine eB F (fun _ _ _ _ _ _=>eX fun _ _=>rfl) (F.F.ok zM (fun vs H Q E h=>?_) (fun cZ AZ oZ sZ H vs Q E hr h=>?_))
 ·obtain ⟨a,ns,k,rfl,hS,h0,q⟩:=h
  rfl
 obtain ⟨a,ns,k,rfl,hS,h0,q⟩:=h
 refine ⟨_,ai (aO (aA eU (pv 1) (aH bw rfl CA.eE dj (aa (pv 0) af)) (aC _)) (ah (au (aK a9 (pv 0) (pv 1) (fun _ _=>rfl)))) aI)
  (ah (au ag)),?_⟩
 have hl:(ns.map V.int).length=ns.length:=Do _
 refine ⟨_,rfl,_,rfl,a,_,rfl,.inl hS,_,_,rfl,rfl,_,rfl,nX (fun c=>?_) (fun c=>?_)⟩
 ·have c':k < (((ns.map V.int).length:Nat):Int):=of_decide_eq_true c
  rw [hl] at c'
  exact ⟨_,rfl,_,rfl,a,_,_,_,rfl,rfl,hS,gX h0 c',q⟩
 ·have c':¬ k < (((ns.map V.int).length:Nat):Int):=of_decide_eq_false (Bool.eq_false_iff.mpr c)
  rw [hl] at c'
  have e:ns.getD k.toNat 0=0:=by rw [AC,Gu (by lia)]; rfl
  rw [e] at q
  exact q
theorem As (aL:Al P w K mg base ca er 1) (F:Fg K mg ca 1 "_law_counts" sR):D P w K mg base ca er 1:=by
 refine eB F (fun _ _ _ _ _ _=>eO fun _=>rfl) (F.F.ok oj (fun vs H Q E h=>?_) (fun cZ AZ oZ sZ H vs Q E hr h=>?_))
 ·obtain ⟨k,rfl,hk,q⟩:=h
  rfl
 obtain ⟨k,rfl,hk,q⟩:=h
 refine ⟨_,ai (aD (i:=1) oj.nd rfl (Fs rfl) (ba (aa ag af)))
  (ai (b7 FC rfl (c9 rfl CA.dX (aa (pv 0) af)) (az (i:=2) oj.nd rfl (Fs rfl)) (ah (aZ (cC E8 Fo Fp bz (pv 1) (aa (ao gx (ao cx (aK a9 (pv 1) (pv 2) (fun _ _=>rfl)) (ao aB (ao cx ag (pv 2)) ag)) (ao aB (pv 2) ag)) af)))))
  (ah (au (pv 1)))),?_⟩
 refine ⟨(by show 1<=sizeLine; decide),fun p hp=>?_⟩
 refine ⟨_,rfl,(k:Int),rfl,by lia,by lia,gF (lo:=0) (n:=((k:Int)).toNat) (fun i σ H'=>∃ o,σ=[some (.int (k:Int)),some (.ref p),o]/\ae H H'/\H' p=some (.lst (((EM (i+1)).map cR).map V.int))) ⟨_,rfl,ae.new (ae.refl H) hp _,upd_same⟩ ?_ ?_⟩
 ·rintro i σ H1 hi ⟨o,rfl,sm,hp1⟩
  have l1:((EM (i+1)).map cR).length=i+1:=by simp
  have a1:=gX (ns:=(EM (i+1)).map cR) (i:=(0:Int)+(i:Int)) (by lia) (by lia)
  have e1:((EM (i+1)).map cR).getD ((0:Int)+(i:Int)).toNat 0=cR i:=by
   rw [show ((0:Int)+(i:Int)).toNat=i by lia,AC]
   simp
  rw [e1] at a1
  refine ⟨_,rfl,.inl ⟨rfl,_,aj.of hp1⟩,_,rfl,_,rfl,p,_,_,_,rfl,rfl,aj.of hp1,a1,_,rfl,_,_,rfl,rfl,.inl ⟨by decide,by decide⟩,_,_,rfl,rfl,_,_,rfl,rfl,.inr ⟨by lia,by lia⟩,_,rfl,_,_,rfl,rfl,_,_,rfl,rfl,⟨by lia,Hu (Nat.log2_le_self _) (by lia)⟩,p,_,_,rfl,rfl,hp1,by rw [Do,l1]; exact gk (by lia),?_⟩
  refine ⟨_,rfl,sm.upd hp _,?_⟩
  have e:(EM (i+1+1)).map cR=(EM (i+1)).map cR++[cR (i+1)]:=by rw [GQ,ED]; rfl
  rw [upd_same,e,ED]
  show some (HO.lst (_++[V.int (cR i*(4*(0+(i:Int))+2) / (0+(i:Int)+2))]))=some (HO.lst (_++[V.int (cR (i+1))]))
  rw [Hx]
  rfl
 ·rintro σ H1 ⟨o,rfl,sm,hp1⟩
  rw [Gy] at hp1
  exact ⟨_,rfl,q p H1 sm hp hp1⟩
theorem An (aL:Al P w K mg base ca er 2) (F:Fg K mg ca 2 "_law_number" sL):D P w K mg base ca er 2:=by
 refine eB F (fun _ _ _ _ _ _=>gv fun _ _ _=>rfl) (F.F.ok gr (fun vs H Q E h=>?_) (fun cZ AZ oZ sZ H vs Q E hr h=>?_))
 ·obtain ⟨a,pc,ns,n,rfl,hS,h63,hc,k40,q⟩:=h
  rfl
 obtain ⟨a,pc,ns,n,rfl,hS,h63,hc,k40,q⟩:=h
 refine ⟨_,ai (aD (i:=3) gr.nd rfl (Fs rfl) (ao eh (aF (aL.g 0) hr (aa (pv 0) (aa ag af))) ag))
  (ai (aO (aA b9 (pv 3) ag (aC _)) (ah (au ag)) aI)
  (ai (aO (aA b9 (pv 3) ag (aC _)) (ah (au (ao bh (aK a9 (pv 2) (pv 1) (fun _ _=>rfl)) ag))) aI)
  (ai (aD (i:=4) gr.nd rfl (Fs rfl) ag)
  (ai (aO (PW.pt (iH (aA eU (pv 3) ag (aC _)) (gW (aA iA (pv 1) ag (aC _))))) (ai (b7 FC rfl (c9 rfl CA.dX (aa (ao eh (aF (aL.g 0) hr (aa (pv 0) (aa ag af))) (pv 1)) af)) (az (i:=5) gr.nd rfl (Fs rfl)) (ah (aD (i:=4) gr.nd rfl (Fs rfl) (ao aB (pv 4) (ao cx (aK a9 (pv 2) (pv 5) (fun _ _=>rfl)) (aK a9 (pv 2) (ao bh (ao bh (pv 1) ag) (pv 5)) (fun _ _=>rfl)))))))
  (ah (au (aH (mz rfl) rfl CA.rC m5 (aa (ao bh (pv 4) (ao eh (pv 3) ag)) (aa ag af)))))) aI)
  (ai (b7 FC rfl (aN (df dY (pv 0) eH (dC ag))) (az (i:=6) gr.nd rfl (Fs rfl)) (ah (aD (i:=4) gr.nd rfl (Fs rfl) (ao eh (ao aB (ao aB (ao cx (pv 4) ag) (ao eh (pv 6) (ao zd ag ag))) ag) (aK a9 (pv 2) (pv 1) (fun _ _=>rfl))))))
  (ah (au (pv 4)))))))),?_⟩
 have lk:(dN 40).length=40+1:=ck 40
 have at_:∀ (j:Nat) (z:Int),z=(j:Int)->j<=40->bX ((dN 40).map V.int) z=some (.int (sh j)):=fun j z ez hj=>by
  have:=gX (ns:=dN 40) (i:=z) (by lia) (by lia)
  rw [show z.toNat=j by lia,ft 40 j hj] at this
  exact this
 have pp:=dA n
 have an:=at_ n (n:Int) rfl k40
 have r0:=GT (ns.getD (1:Int).toNat 0) (show (6:Int)≠0 by decide)
 refine ⟨_,rfl,a,ns,1,rfl,hS,by decide,_,_,rfl,rfl,pm (by decide),?_⟩
 try dsimp only
 generalize ns.getD (1:Int).toNat 0 % 6=so at r0 |-
 refine ⟨_,rfl,rfl,_,rfl,nX (fun _=>q _ _ (ae.refl H) (by lia) (by lia)) (fun _=>⟨_,rfl,rfl,_,rfl,nX (fun _=>⟨_,rfl,_,rfl,pc,_,_,_,rfl,rfl,aj.of hc,an,_,_,rfl,rfl,q _ _ (ae.refl H) (by lia) (by lia)⟩) (fun _=>?_)⟩)⟩
 have walk:True:=trivial
 refine ⟨_,rfl,_,_,rfl,rfl,_,rfl,nX (fun _=>⟨_,rfl,_,_,rfl,rfl,_,rfl,nX (fun c2=>?_) (fun _=>?_)⟩) (fun _=>bH ?_)⟩
 ·have c2:(0:Int) < (n:Int):=of_decide_eq_true c2
  have c0:=GT (ns.getD (2:Int).toNat 0) (show (n:Int)≠0 by lia)
  have c1:=Hd (ns.getD (2:Int).toNat 0) (show 0 < (n:Int) by lia)
  refine ⟨_,rfl,a,ns,2,rfl,hS,by decide,_,rfl,_,_,rfl,rfl,by lia,_,rfl,by lia,by lia,gF (lo:=0) (n:=(ns.getD (2:Int).toNat 0 % (n:Int)).toNat) (fun i σ H'=>∃ (o5 o6:Option V),σ=[some (.ref a),some (.int (n:Int)),some (.ref pc),some (.int so),some (.int (pre n i)),o5,o6]/\H=H') ⟨_,_,rfl,rfl⟩ ?_ ?_⟩
  ·rintro i σ H' hi ⟨o5,o6,rfl,rfl⟩
   generalize ns.getD (2:Int).toNat 0 % (n:Int)=e at c0 c1 hi
   have a1:=at_ i ((0:Int)+(i:Int)) (by lia) (by lia)
   have a2:=at_ (n - 1 - i) ((n:Int) - 1 - ((0:Int)+(i:Int))) (by lia) (by lia)
   have p1:=dA i
   have p2:=dA (n - 1 - i)
   have mc:lr (sh i) (sh (n - 1 - i)):=mulC (a:=i) (b:=n - 1 - i) (by lia) (by lia) (FQ _) (by lia) (FQ _)
   refine ⟨_,rfl,_,rfl,_,rfl,pc,_,_,_,rfl,rfl,aj.of hc,a1,_,rfl,_,rfl,_,_,rfl,rfl,_,rfl,_,_,rfl,rfl,pc,_,_,_,rfl,rfl,aj.of hc,a2,_,_,rfl,rfl,mc,_,_,rfl,rfl,some (.int ((0:Int)+(i:Int))),o6,?_,rfl⟩
   rw [fE]
   rfl
  ·rintro σ H' ⟨o5,o6,rfl,rfl⟩
   have pb:=zh (n:=n) (m:=(ns.getD (2:Int).toNat 0 % (n:Int)).toNat) (by lia)
   have e0:=GT so (show (2:Int)≠0 by decide)
   refine ⟨_,rfl,_,rfl,_,_,rfl,rfl,pm (by decide),_,_,rfl,rfl,_,_,rfl,q _ _ (ae.refl H) ?_ ?_⟩
   all_goals
    split<;>lia
 all_goals
  refine ⟨_,rfl,_,rfl,a,_,rfl,hS,fun p hp=>⟨p,rfl,⟨_,aj.of upd_same⟩,?_⟩⟩
  rw [oG]
  have s1:=ae.new (ae.refl H) hp (.lst ((jH ns none (some 63)).map V.int))
  refine bQ (xs:=(jH ns none (some 63)).map V.int) (fun i σ H'=>∃ (o1 o2:Option V) (m:Int),σ=[some (.ref a),some (.int (n:Int)),some (.ref pc),some (.int so),some (.int m),o1,o2]/\ae H H'/\H' p=some (.lst ((jH ns none (some 63)).map V.int))/\0<=m/\m < sh n) ⟨_,_,0,rfl,s1,upd_same,by lia,by lia⟩ (fun i σ H' _ h=>by obtain ⟨_,_,_,_,_,h,_⟩:=h; exact aj.of h) ?_ ?_
  ·rintro i x σ H' hx ⟨o1,o2,m,rfl,sm,hp',m0,m1⟩
   obtain ⟨c,rfl⟩:=cX hx
   refine ⟨_,rfl,_,_,rfl,rfl,.inr ⟨by decide,by decide⟩,_,rfl,_,_,rfl,rfl,⟨by decide,by decide,by decide⟩,_,_,rfl,rfl,(by show (0:Int) < 10 ^ 40; decide),_,_,rfl,rfl,_,_,rfl,rfl,_,rfl,_,rfl,pc,_,_,_,rfl,rfl,aj.of (sm _ _ hc),an,_,_,rfl,rfl,by lia,?_⟩
   exact ⟨_,_,_,rfl,sm,hp',GT _ (by lia),Hd _ (by lia)⟩
  ·rintro σ H1 ⟨o1,o2,m,rfl,sm,_,m0,m1⟩
   exact ⟨_,rfl,q _ _ sm m0 m1⟩
theorem z6 (aL:Al P w K mg base ca er 3) (F:Fg K mg ca 3 "_law_bare" tm):D P w K mg base ca er 3:=by
 refine eB F (fun _ _ _ _ _ _=>eO fun _=>rfl) (F.F.ok BH (fun vs H Q E h=>?_) (fun cZ AZ oZ sZ H vs Q E hr h=>?_))
 ·obtain ⟨w,rfl,hw,q⟩:=h
  rfl
 obtain ⟨w,rfl,hw,q⟩:=h
 refine ⟨_,ai (aO (aA b9 (pv 0) ag (aC _)) (ah (au (aP (aa ag (aa (ba af) af))))) aI)
  (ah (au (ba af))),?_⟩
 refine ⟨_,rfl,rfl,_,rfl,?_⟩
 rcases (by lia:w=2\/w≠2) with rfl | h
 ·refine bB rfl ⟨EU _,fun p hp=>⟨(by show 2<=sizeLine; decide),fun t ht=>?_⟩⟩
  have s1:=ae.new (ae.refl H) hp (.lst [])
  have s2:=ae.new (ae.refl _) ht (.tup [.int 2,.ref p])
  exact q _ _ (s1.trans s2) ⟨t,p,[],rfl,hp,upd_same,⟨[],s2 _ _ upd_same,.nil⟩,.refl _,.nil⟩
 ·refine aX (fun z=>h (by injection z with z; lia)) ⟨EU _,fun p hp=>q _ _ (ae.new (ae.refl H) hp _) ?_⟩
  rcases (by lia:w=0\/w=1\/w=3) with rfl | rfl | rfl
  ·exact ⟨p,rfl,hp,[],upd_same,.nil⟩
  ·exact ⟨p,rfl,hp,aM.nil upd_same⟩
  ·exact ⟨p,rfl,hp,upd_same⟩
theorem CQ (aL:Al P w K mg base ca er 4) (F:Fg K mg ca 4 "_law_bows_joined" vv):D P w K mg base ca er 4:=by
 refine eB F (fun _ _ _ _ _ _=>gv fun _ _ _=>rfl) (F.F.ok jh (fun vs H Q E h=>?_) (fun cZ AZ oZ sZ H vs Q E hr h=>?_))
 ·obtain ⟨l,r,ps,qs,rfl,hl,hr2,hij,q⟩:=h
  rfl
 obtain ⟨l,r,ps,qs,rfl,hl,hr2,hij,q⟩:=h
 refine ⟨_,ai (aD (i:=3) jh.nd rfl (Fs rfl) (ba (aa (aP (aa ag (aa (ao aB (ao cx ag (pv 2)) ag) af))) af)))
  (ai (b7 FC rfl (aN (pv 0)) (g8 rfl (aV (az (i:=4) jh.nd rfl (Fs rfl)) (aV (az (i:=5) jh.nd rfl (Fs rfl)) cW))) (ah (aZ (cC E8 Fo Fp bz (pv 3) (aa (aP (aa (ao aB (pv 4) ag) (aa (ao aB (pv 5) ag) af))) af)))))
  (ai (b7 FC rfl (aN (pv 1)) (g8 rfl (aV (az (i:=4) jh.nd rfl (Fs rfl)) (aV (az (i:=5) jh.nd rfl (Fs rfl)) cW))) (ah (aZ (cC E8 Fo Fp bz (pv 3) (aa (aP (aa (ao aB (ao aB (pv 4) (ao cx ag (pv 2))) ag) (aa (ao aB (ao aB (pv 5) (ao cx ag (pv 2))) ag) af))) af)))))
  (ah (au (pv 3))))),?_⟩
 obtain ⟨xs,el,lx,prl⟩:=hl.len
 obtain ⟨zs,er,lz,prz⟩:=hr2.len
 refine ⟨_,rfl,_,_,rfl,rfl,.inl ⟨by decide,by decide⟩,_,_,rfl,rfl,(by show 2<=sizeLine; decide),fun t0 ht0=>⟨(by show 1<=sizeLine; decide),fun pc hpc=>?_⟩⟩
 have s0:=ae.new (ae.refl H) ht0 (.tup [.int 0,.int (2*(ps.length:Int)+1)])
 have s1:=ae.new s0 hpc (.lst [.ref t0])
 have hc1:aT (upd (upd H t0 (.tup [.int 0,.int (2*(ps.length:Int)+1)])) pc (.lst [.ref t0])) pc [((0:Int),2*(ps.length:Int)+1)]:=⟨_,upd_same,.cons ⟨t0,rfl,(upd_ne (aq upd_same hpc)).trans upd_same⟩ .nil⟩
 have hpc:H pc=none:=s0.free hpc
 generalize upd (upd H t0 (.tup [.int 0,.int (2*(ps.length:Int)+1)])) pc (.lst [.ref t0])=H1 at s1 hc1 |-
 refine ⟨_,rfl,l,rfl,⟨_,aj.of (s1 _ _ el)⟩,bQ (xs:=xs) (fun k σ H'=>∃ (o1 o2:Option V),σ=[some (.ref l),some (.ref r),some (.int (ps.length:Int)),some (.ref pc),o1,o2]/\ae H H'/\aT H' pc (((0:Int),2*(ps.length:Int)+1)::(ps.take k).map (up 1))) ⟨_,_,rfl,s1,hc1⟩ (fun k σ H' _ h=>by obtain ⟨_,_,_,h,_⟩:=h; exact aj.of (h _ _ el)) ?_ ?_⟩
 ·rintro k v σ H5 hv ⟨o1,o2,rfl,s5,hc5⟩
  obtain ⟨p,tt,hpp,rfl,htt⟩:=(prl.same s5).get hv
  obtain ⟨ys,ey,ly,pry⟩:=hc5.len
  simp only [Fb,EA,Do,E5] at ly
  refine ⟨tt,_,rfl,bb.of htt,rfl,_,_,rfl,_,_,rfl,rfl,?_⟩
  refine ⟨_,rfl,.inl ⟨rfl,_,aj.of ey⟩,_,rfl,_,_,rfl,rfl,_,rfl,_,_,rfl,rfl,(by show 2<=sizeLine; decide),fun t3 ht3=>?_⟩
  refine ⟨pc,_,_,rfl,rfl,(upd_ne (aq ey ht3)).trans ey,gk (by lia),?_⟩
  refine ⟨_,_,rfl,(ae.new s5 ht3 _).upd hpc _,?_⟩
  rw [E3,hpp,ED,<- IM]
  exact aT.push ey pry ht3
 rintro σ H2 ⟨o1,o2,rfl,s2,hc2⟩
 rw [lx,Ig] at hc2
 refine ⟨_,rfl,r,rfl,⟨_,aj.of (s2 _ _ er)⟩,bQ (xs:=zs) (fun k σ H'=>∃ (o1 o2:Option V),σ=[some (.ref l),some (.ref r),some (.int (ps.length:Int)),some (.ref pc),o1,o2]/\ae H H'/\aT H' pc (((0:Int),2*(ps.length:Int)+1)::(ps.map (up 1)++(qs.take k).map (up (2*(ps.length:Int)+2))))) ⟨_,_,rfl,s2,by simpa using hc2⟩ (fun k σ H' _ h=>by obtain ⟨_,_,_,h,_⟩:=h; exact aj.of (h _ _ er)) ?_ ?_⟩
 ·rintro k v σ H5 hv ⟨o1,o2,rfl,s5,hc5⟩
  obtain ⟨p,tt,hpp,rfl,htt⟩:=(prz.same s5).get hv
  obtain ⟨ys,ey,ly,pry⟩:=hc5.len
  simp only [Fb,EA,Do,E5] at ly
  refine ⟨tt,_,rfl,bb.of htt,rfl,_,_,rfl,_,_,rfl,rfl,?_⟩
  refine ⟨_,rfl,.inl ⟨rfl,_,aj.of ey⟩,_,rfl,_,rfl,_,_,rfl,rfl,.inl ⟨by decide,by decide⟩,_,_,rfl,rfl,_,_,rfl,rfl,_,rfl,_,rfl,_,_,rfl,rfl,.inl ⟨by decide,by decide⟩,_,_,rfl,rfl,_,_,rfl,rfl,(by show 2<=sizeLine; decide),fun t3 ht3=>?_⟩
  refine ⟨pc,_,_,rfl,rfl,(upd_ne (aq ey ht3)).trans ey,gk (by lia),?_⟩
  refine ⟨_,_,rfl,(ae.new s5 ht3 _).upd hpc _,?_⟩
  rw [E3,hpp,ED,<- E9,<- IM]
  dsimp only
  rw [IA,IA]
  exact aT.push ey pry ht3
 rintro σ H3 ⟨o1,o2,rfl,s3,hc3⟩
 rw [lz,Ig] at hc3
 exact ⟨_,rfl,q pc H3 s3 hpc hc3⟩
theorem Cw (aL:Al P w K mg base ca er 5) (F:Fg K mg ca 5 "_law_rooms_joined" vg):D P w K mg base ca er 5:=by
 refine eB F (fun _ _ _ _ _ _=>gv fun _ _ _=>rfl) (F.F.ok mQ (fun vs H Q E h=>?_) (fun cZ AZ oZ sZ H vs Q E hr h=>?_))
 ·obtain ⟨l,r,Ha,Hb,i,j,ls,rs,rfl,hl,hr2,rm,rm2,hij,q⟩:=h
  rfl
 obtain ⟨l,r,Ha,Hb,i,j,ls,rs,rfl,hl,hr2,rm,rm2,hij,q⟩:=h
 refine ⟨_,ai (aD (i:=3) mQ.nd rfl (Fs rfl) (ba (aa (ba (aa ag af)) af)))
  (ai (b7 FC rfl (aN (pv 0)) (az (i:=4) mQ.nd rfl (Fs rfl)) (ah (aO (aA b9 (aK a9 (pv 4) (e7 dJ ag) (fun _ _=>rfl)) (ao bh (pv 2) ag) (aC _)) (ah (Bo (ao dk (ba (aa ag af)) (bG rfl (aN (pv 4)) rfl rfl rfl rfl (N:=["_law_number_here"]) (.own .nil) (fun _ _ _ _ _ _=>(az (i:=0) (by show FM (["_law_number_here"]:List Str); decide +kernel) rfl (Fs rfl))) (fun _ _ _ _ _ _=>bI) (fun _ _ _ _ _ _=>(ao aB (pv 0) ag)))) (zL (pv 3) ag set_list))) (ah (aZ (cC E8 Fo Fp bz (pv 3) (aa (bG rfl (aN (pv 4)) rfl rfl rfl rfl (N:=["_law_number_here"]) (.own .nil) (fun _ _ _ _ _ _=>(az (i:=0) (by show FM (["_law_number_here"]:List Str); decide +kernel) rfl (Fs rfl))) (fun _ _ _ _ _ _=>bI) (fun _ _ _ _ _ _=>(ao aB (pv 0) ag))) af)))))))
  (ai (b7 FC rfl (aN (pv 1)) (az (i:=4) mQ.nd rfl (Fs rfl)) (ah (aZ (cC E8 Fo Fp bz (pv 3) (aa (bG rfl (aN (pv 4)) rfl rfl rfl rfl (N:=["_law_number_here","_law_i"]) (.own (.cap (j:=2) rfl rfl rfl .nil)) (fun _ _ _ _ _ _=>(az (i:=0) (by show FM (["_law_number_here","_law_i"]:List Str); decide +kernel) rfl (Fs rfl))) (fun _ _ _ _ _ _=>bI) (fun _ _ _ _ _ _=>(ao aB (ao aB (pv 0) (pv 1)) ag))) af)))))
  (ah (au (pv 3))))),?_⟩
 obtain ⟨xs,el,lxs⟩:=hl.len
 obtain ⟨zs,ez,lzs⟩:=hr2.len
 have ln:=rm.lens
 have ln2:=rm2.lens
 refine ⟨(by show 1<=sizeLine; decide),fun q0 hq0=>⟨(by show 1<=sizeLine; decide),fun pr hpr=>?_⟩⟩
 have s1:=ae.new (ae.refl H) hq0 (.lst [.int 0])
 have s2:=ae.new s1 hpr (.lst [.ref q0])
 have n0:q0≠pr:=aq upd_same hpr
 have fpr:H pr=none:=s1.free hpr
 have l2:aM H (upd (upd H q0 (.lst [.int 0])) pr (.lst [.ref q0])) pr [[(0:Int)]]:=⟨[q0],upd_same,.cons ⟨(upd_ne n0).trans upd_same,hq0,n0⟩ .nil,by simp⟩
 have st2:fi H (upd (upd H q0 (.lst [.int 0])) pr (.lst [.ref q0])):=fun b hb=>s2.free hb
 generalize upd (upd H q0 (.lst [.int 0])) pr (.lst [.ref q0])=H2 at s2 l2 st2 |-
 -- a room raised
 have up1:∀ (d:Int) (ns:List Int),(ns.map V.int).map (fun v=>match v with | .int c=>V.int (c+d) | v=>v)=(aE d ns).map V.int:=fun d ns=>by unfold aE; rw [FG,FG]; rfl
 refine ⟨_,rfl,l,rfl,⟨_,aj.of (s2 _ _ el)⟩,bQ (xs:=xs) (fun k σ H'=>∃ (o:Option V),σ=[some (.ref l),some (.ref r),some (.int (i:Int)),some (.ref pr),o]/\ae H H'/\aM H H' pr (((0:Int)::aE 1 ((ls.take k).filter (aQ i)).flatten)::((ls.take k).filter fun r=>!aQ i r).map (aE 1))/\k<=ls.length) ⟨_,rfl,s2,l2,EU _⟩ (fun k σ H' _ h=>by obtain ⟨o,_,sm,_⟩:=h; exact aj.of (sm _ _ el)) ?_ ?_⟩
 ·rintro k v σ H' hv ⟨o,rfl,sm,lk,hk⟩
  obtain ⟨b,ns,rfl,hn,hb,_⟩:=hl.at el hv
  have hlt:k < ls.length:=(EC.mp hn).1
  have hm:ns∈ls:=ES hn
  have pO:=ln.2 ns hm
  have mns:(ns.map V.int).length=ns.length:=Do _
  have tk:=cy (f:=aQ i) hn
  have tk2:=cy (f:=fun r=>!aQ i r) hn
  obtain ⟨ys,ey,ly⟩:=lk.len
  have lf:=FA (fun r=>!aQ i r) (ls.take k)
  rw [Fb,Do] at ly
  rw [E5] at lf
  have hbk:=sm _ _ hb
  refine ⟨_,rfl,_,rfl,b,_,_,_,rfl,rfl,aj.of hbk,i3 (rm.ne ns hm),_,rfl,_,_,rfl,rfl,rfl,_,rfl,?_⟩
  by_cases g:ns.getD (ns.length - 1) 0=(i:Int) - 1
  ·have hg:aQ i ns=true:=decide_eq_true g
   have e0:=jr rm hn hg
   refine bB (congrArg V.int g) ⟨(by show 1<=sizeLine; decide),fun qa hqa=>?_⟩
   have k1:=ae.new (ae.refl H') hqa (.lst [.int 0])
   refine ⟨_,rfl,b,rfl,⟨_,aj.of (k1 _ _ hbk)⟩,fun D hD=>eJ (fun v=>match v with | .int c=>.int (c+1) | v=>v) (by rw [mns]; exact sz (by lia)) (aj.of (k1 _ _ hbk)) hD (fun m x H9 R R0 hx hb9 hR=>?_) ?_⟩
   ·obtain ⟨c,rfl⟩:=cX hx
    exact ⟨Ext.set rfl,fg (bg ⟨_,rfl,_,_,rfl,rfl,hR⟩)⟩
   rw [up1]
   have k2:=ae.new k1 hD (.lst ((aE 1 ns).map V.int))
   have n1:qa≠D:=aq upd_same hD
   refine ⟨qa,D,_,_,rfl,rfl,(upd_ne n1).trans upd_same,upd_same,sz (by rw [Do,fm]; simp; lia),fun qc hqc=>?_⟩
   have k3:=ae.new k2 hqc (.lst ([.int 0]++(aE 1 ns).map V.int))
   have hc3:upd (upd (upd H' qa (.lst [.int 0])) D (.lst ((aE 1 ns).map V.int))) qc (.lst ([.int 0]++(aE 1 ns).map V.int)) qc=some (.lst (((0:Int)::aE 1 ns).map V.int)):=upd_same
   generalize upd (upd (upd H' qa (.lst [.int 0])) D (.lst ((aE 1 ns).map V.int))) qc (.lst ([.int 0]++(aE 1 ns).map V.int))=H5 at k3 hc3 |-
   have fc:H' qc=none:=k2.free hqc
   have hj:iP ys.length 0=some 0:=by
    unfold iP
    rw [if_pos (by decide),if_pos (by lia)]
    rfl
   refine ⟨_,rfl,pr,ys,0,0,rfl,rfl,k3 _ _ ey,hj,?_⟩
   refine ⟨_,rfl,(sm.trans k3).upd fpr _,?_,hlt⟩
   rw [tk,if_pos hg,e0,HQ,tk2,if_neg (by rw [hg]; decide),Ff]
   have:=lk.swap ey k3 fc hc3 (sm.free fc)
   have e1:[ns].flatten=ns:=by simp
   rw [e1]
   exact this
  ·have hg:¬ aQ i ns=true:=fun z=>g (of_decide_eq_true z)
   have hg':(!aQ i ns)=true:=by cases e:aQ i ns with
    | true=>exact absurd e hg
    | false=>rfl
   refine aX (fun z=>g (by injection z)) ⟨_,rfl,.inl ⟨rfl,_,aj.of ey⟩,_,rfl,b,rfl,⟨_,aj.of hbk⟩,fun D hD=>eJ (fun v=>match v with | .int c=>.int (c+1) | v=>v) (by rw [mns]; exact sz (by lia)) (aj.of hbk) hD (fun m x H9 R R0 hx hb9 hR=>?_) ?_⟩
   ·obtain ⟨c,rfl⟩:=cX hx
    exact ⟨Ext.set rfl,fg (bg ⟨_,rfl,_,_,rfl,rfl,hR⟩)⟩
   rw [up1]
   have k1:=ae.new (ae.refl H') hD (.lst ((aE 1 ns).map V.int))
   refine ⟨pr,_,_,rfl,rfl,k1 _ _ ey,gk (by lia),?_⟩
   refine ⟨_,rfl,(sm.trans k1).upd fpr _,?_,hlt⟩
   rw [tk,if_neg hg,Ff,tk2,if_pos hg',ED]
   exact lk.push ey k1 hD upd_same (sm.free hD)
 ·rintro σ H5 ⟨o,rfl,s5,l5,hk⟩
  rw [EL (by lia)] at l5
  have lf:=FA (fun r=>!aQ i r) ls
  refine ⟨_,rfl,r,rfl,⟨_,aj.of (s5 _ _ ez)⟩,bQ (xs:=zs) (fun k σ H'=>∃ (o:Option V),σ=[some (.ref l),some (.ref r),some (.int (i:Int)),some (.ref pr),o]/\ae H H'/\aM H H' pr (((0:Int)::aE 1 (ls.filter (aQ i)).flatten)::((ls.filter fun r=>!aQ i r).map (aE 1)++(rs.take k).map (aE ((i:Int)+1))))/\k<=rs.length) ⟨_,rfl,s5,by rw [List.take_zero,Jp,Ff]; exact l5,EU _⟩ (fun k σ H' _ h=>by obtain ⟨o,_,sm,_⟩:=h; exact aj.of (sm _ _ ez)) ?_ ?_⟩
  ·rintro k v σ H' hv ⟨o,rfl,sm,lk,hk⟩
   obtain ⟨b,ns,rfl,hn,hb,_⟩:=hr2.at ez hv
   have hlt:k < rs.length:=(EC.mp hn).1
   have pO:=ln2.2 ns (ES hn)
   have mns:(ns.map V.int).length=ns.length:=Do _
   obtain ⟨ys,ey,ly⟩:=lk.len
   rw [Fb,EA,Do,Do,E5] at ly
   have hbk:=sm _ _ hb
   refine ⟨_,rfl,.inl ⟨rfl,_,aj.of ey⟩,_,rfl,b,rfl,⟨_,aj.of hbk⟩,fun D hD=>eJ (fun v=>match v with | .int c=>.int (c+((i:Int)+1)) | v=>v) (by rw [mns]; exact sz (by lia)) (aj.of hbk) hD (fun m x H9 R R0 hx hb9 hR=>?_) ?_⟩
   ·obtain ⟨c,rfl⟩:=cX hx
    refine ⟨Ext.set rfl,fg (bg ⟨_,rfl,_,rfl,_,_,rfl,rfl,_,_,rfl,rfl,?_⟩)⟩
    show R (.int (c+(i:Int)+1)) H9
    rw [IA]
    exact hR
   rw [up1]
   have k1:=ae.new (ae.refl H') hD (.lst ((aE ((i:Int)+1) ns).map V.int))
   refine ⟨pr,_,_,rfl,rfl,k1 _ _ ey,gk (by lia),?_⟩
   refine ⟨_,rfl,(sm.trans k1).upd fpr _,?_,hlt⟩
   rw [E3,hn,ED,<- E9,<- IM]
   exact lk.push ey k1 hD upd_same (sm.free hD)
  ·rintro σ H6 ⟨o,rfl,s6,l6,hk⟩
   rw [EL (by lia)] at l6
   exact ⟨_,rfl,q pr H6 s6 fpr l6⟩
theorem Cu (aL:Al P w K mg base ca er 6) (F:Fg K mg ca 6 "_law_floors_joined" vL):D P w K mg base ca er 6:=by
 refine eB F (fun _ _ _ _ _ _=>gv fun _ _ _=>rfl) (F.F.ok ji (fun vs H Q E h=>?_) (fun cZ AZ oZ sZ H vs Q E hr h=>?_))
 ·obtain ⟨tl,tr,l,r,i,j,ps,qs,rfl,htl,htr,hl,hr2,fp,fq,hij,q⟩:=h
  rfl
 obtain ⟨tl,tr,l,r,i,j,ps,qs,rfl,htl,htr,hl,hr2,fp,fq,hij,q⟩:=h
 refine ⟨_,ai (aD (i:=3) ji.nd rfl (Fs rfl) (ao aB (pv 2) (aK bJ (pv 1) ag (fun _ _=>rfl))))
  (ai (aD (i:=4) ji.nd rfl (Fs rfl) (fI eY rfl CA.dZ dD (aa (aK bJ (pv 0) ag (fun _ _=>rfl)) af)))
  (ai (b7 FC rfl (aN (ba (aa (aP (aa ag (aa (ao aB (pv 2) ag) af))) (aa (aP (aa (ao aB (pv 2) ag) (aa (pv 3) af))) af)))) (az (i:=5) ji.nd rfl (Fs rfl)) (ah (aO (aA iA (ao bh (aK bJ (pv 5) ag (fun _ _=>rfl)) (aK bJ (pv 5) ag (fun _ _=>rfl))) ag (aC _)) (ah (aZ (cC E8 Fo Fp bz (pv 4) (aa (pv 5) af)))) aI)))
  (ai (b7 FC rfl (aN (aK bJ (pv 1) ag (fun _ _=>rfl))) (g8 rfl (aV (az (i:=6) ji.nd rfl (Fs rfl)) (aV (az (i:=7) ji.nd rfl (Fs rfl)) cW))) (ah (aZ (cC E8 Fo Fp bz (pv 4) (aa (aP (aa (ao aB (ao aB (pv 6) (pv 2)) ag) (aa (ao aB (ao aB (pv 7) (pv 2)) ag) af))) af)))))
  (ah (au (aP (aa (ao aB (pv 3) ag) (aa (aH gn rfl CA.dR dc (aa (pv 4) af)) af)))))))),?_⟩
 have lp:=fp.len
 have lq:=fq.len
 have at0:∀ (c:Int) (a:EK),bX [V.int c,.ref a] 0=some (.int c):=fun _ _=>rfl
 have at1:∀ (c:Int) (a:EK),bX [V.int c,.ref a] 1=some (.ref a):=fun _ _=>rfl
 have ai0:∀ c d:Int,bX [V.int c,.int d] 0=some (.int c):=fun _ _=>rfl
 have ai1:∀ c d:Int,bX [V.int c,.int d] 1=some (.int d):=fun _ _=>rfl
 refine ⟨_,rfl,_,rfl,tr,_,_,_,rfl,rfl,bb.of htr,at0 _ _,_,_,rfl,rfl,?_⟩
 try dsimp only
 rw [<- IA]
 obtain ⟨xs,el,lx,prl⟩:=hl.len
 obtain ⟨zs,ez,lz,prz⟩:=hr2.len
 refine ⟨_,rfl,tl,_,_,_,rfl,rfl,bb.of htl,at1 _ _,l,_,rfl,.inl (aj.of el),fun pc hpc=>?_⟩
 have s1:=ae.new (ae.refl H) hpc (.lst xs)
 have hc1:aT (upd H pc (.lst xs)) pc ps:=⟨_,upd_same,prl.same s1⟩
 generalize upd H pc (.lst xs)=H1 at s1 hc1 |-
 refine ⟨_,rfl,_,_,rfl,rfl,(by show 2<=sizeLine; decide),fun t1 ht1=>⟨_,rfl,_,_,rfl,rfl,_,rfl,(by show 2<=sizeLine; decide),fun t2 ht2=>⟨(by show 2<=sizeLine; decide),fun pf hpf=>?_⟩⟩⟩
 have k1:=ae.new (ae.refl H1) ht1 (.tup [.int 0,.int ((i:Int)+1)])
 have k2:=ae.new (ae.refl _) ht2 (.tup [.int ((i:Int)+1),.int ((i:Int)+(j:Int)+2)])
 have k3:=ae.new (ae.refl _) hpf (.lst [.ref t1,.ref t2])
 have k23:=k2.trans k3
 have k13:=k1.trans k23
 have g1:=k23 _ _ (upd_same (H:=H1) (a:=t1) (o:=.tup [.int 0,.int ((i:Int)+1)]))
 have g2:=k3 _ _ (upd_same (H:=upd H1 t1 (.tup [.int 0,.int ((i:Int)+1)])) (a:=t2) (o:=.tup [.int ((i:Int)+1),.int ((i:Int)+(j:Int)+2)]))
 have g3:upd (upd (upd H1 t1 (.tup [.int 0,.int ((i:Int)+1)])) t2 (.tup [.int ((i:Int)+1),.int ((i:Int)+(j:Int)+2)])) pf (.lst [.ref t1,.ref t2]) pf=some (.lst [.ref t1,.ref t2]):=upd_same
 have s2:=s1.trans k13
 have hc2:=hc1.same k13
 have nfc:pf≠pc:=fun z=>by
  obtain ⟨ys,h,_⟩:=hc1
  have:=(k1.trans k2) _ _ h
  rw [z,this] at hpf
  cases hpf
 generalize upd (upd (upd H1 t1 (.tup [.int 0,.int ((i:Int)+1)])) t2 (.tup [.int ((i:Int)+1),.int ((i:Int)+(j:Int)+2)])) pf (.lst [.ref t1,.ref t2])=H2 at g1 g2 g3 s2 hc2 |-
 have prp:bu H2 [.ref t1,.ref t2] [((0:Int),(i:Int)+1),((i:Int)+1,(i:Int)+(j:Int)+2)]:=.cons ⟨t1,rfl,g1⟩ (.cons ⟨t2,rfl,g2⟩ .nil)
 refine ⟨pf,rfl,⟨_,aj.of g3⟩,bQ (xs:=[.ref t1,.ref t2]) (fun k σ H'=>∃ (o1 o2 o3:Option V),σ=[some (.ref tl),some (.ref tr),some (.int (i:Int)),some (.int ((i:Int)+(j:Int)+2)),some (.ref pc),o1,o2,o3]/\ae H H'/\H' pf=some (.lst [.ref t1,.ref t2])/\bu H' [.ref t1,.ref t2] [((0:Int),(i:Int)+1),((i:Int)+1,(i:Int)+(j:Int)+2)]/\aT H' pc (ps++(([((0:Int),(i:Int)+1),((i:Int)+1,(i:Int)+(j:Int)+2)]:List Pair).take k).filter h8))
  ⟨_,_,_,rfl,s2,g3,prp,by simpa using hc2⟩ (fun k σ H' _ h=>by obtain ⟨_,_,_,_,_,h,_⟩:=h; exact aj.of h) ?_ ?_⟩
 ·rintro k v σ H5 hv ⟨o1,o2,o3,rfl,s5,hf5,pp5,hc5⟩
  obtain ⟨p,tt,hpp,rfl,htt⟩:=pp5.get hv
  have tk:=gN h8 hpp
  obtain ⟨ys,ey,ly,pry⟩:=hc5.len
  have l2:((([((0:Int),(i:Int)+1),((i:Int)+1,(i:Int)+(j:Int)+2)]:List Pair).take k).filter h8).length<=2:=FN (FA _ _) (by rw [E5]; exact Nat.min_le_right _ _)
  rw [EA] at ly
  refine ⟨_,rfl,tt,_,_,_,rfl,rfl,bb.of htt,ai1 _ _,_,rfl,tt,_,_,_,rfl,rfl,bb.of htt,ai0 _ _,_,_,rfl,rfl,_,_,rfl,rfl,_,rfl,?_⟩
  by_cases h:p.2 - p.1 > 1
  ·refine bB h ⟨_,rfl,.inl ⟨rfl,_,aj.of ey⟩,_,rfl,pc,_,_,rfl,rfl,ey,gk (by lia),?_⟩
   refine ⟨_,_,_,rfl,s5.upd hpc _,(upd_ne nfc).trans hf5,pp5.updL ey _,?_⟩
   rw [tk,if_pos (show h8 _=true from decide_eq_true h),<- E9]
   exact aT.put ey pry htt
  ·refine aX h ⟨_,_,_,rfl,s5,hf5,pp5,?_⟩
   rw [tk,if_neg (by unfold h8; simpa using h),Ff]
   exact hc5
 rintro σ H3 ⟨o1,o2,o3,rfl,s3,hf3,pp3,hc3⟩
 rw [show (([((0:Int),(i:Int)+1),((i:Int)+1,(i:Int)+(j:Int)+2)]:List Pair).take [V.ref t1,V.ref t2].length).filter h8=dh i j from vB i j] at hc3
 have ls:=mG i j
 refine ⟨_,rfl,tr,_,_,_,rfl,rfl,bb.of (s3 _ _ htr),at1 _ _,r,rfl,⟨_,aj.of (s3 _ _ ez)⟩,bQ (xs:=zs) (fun k σ H'=>∃ (o1 o2 o3:Option V),σ=[some (.ref tl),some (.ref tr),some (.int (i:Int)),some (.int ((i:Int)+(j:Int)+2)),some (.ref pc),o1,o2,o3]/\ae H H'/\aT H' pc (ps++dh i j++(qs.take k).map (up ((i:Int)+1))))
  ⟨_,_,_,rfl,s3,by simpa using hc3⟩ (fun k σ H' _ h=>by obtain ⟨_,_,_,_,h,_⟩:=h; exact aj.of (h _ _ ez)) ?_ ?_⟩
 ·rintro k v σ H5 hv ⟨o1,o2,o3,rfl,s5,hc5⟩
  obtain ⟨p,tt,hpp,rfl,htt⟩:=(prz.same s5).get hv
  obtain ⟨ys,ey,ly,pry⟩:=hc5.len
  have lk:((qs.take k).map (up ((i:Int)+1))).length<=qs.length:=by rw [Do,E5]; exact Nat.min_le_right _ _
  rw [EA,EA] at ly
  refine ⟨tt,_,rfl,bb.of htt,rfl,_,_,rfl,_,_,rfl,rfl,?_⟩
  refine ⟨_,rfl,.inl ⟨rfl,_,aj.of ey⟩,_,rfl,_,rfl,_,_,rfl,rfl,_,_,rfl,rfl,_,rfl,_,rfl,_,_,rfl,rfl,_,_,rfl,rfl,(by show 2<=sizeLine; decide),fun t3 ht3=>?_⟩
  refine ⟨pc,_,_,rfl,rfl,(upd_ne (aq ey ht3)).trans ey,gk (by lia),?_⟩
  refine ⟨_,_,_,rfl,(ae.new s5 ht3 _).upd hpc _,?_⟩
  rw [E3,hpp,ED,<- E9]
  dsimp only
  rw [IA,IA]
  exact aT.push ey pry ht3
 rintro σ H4 ⟨o1,o2,o3,rfl,s4,hc4⟩
 rw [lz,Ig] at hc4
 have l5:=i6 fp fq
 have hc4:aT H4 pc (cB i j ps qs):=hc4
 refine ⟨_,rfl,_,_,rfl,rfl,_,rfl,pc,_,rfl,hc4,by lia,fun p cs H5 s5 fp5 hp5 pm5 rs5=>⟨(by show 2<=sizeLine; decide),fun t ht=>?_⟩⟩
 have s45:=s4.trans s5
 have s6:=ae.new (ae.refl H5) ht (.tup [.int ((i:Int)+(j:Int)+2+1),.ref p])
 have h6:upd H5 t (.tup [.int ((i:Int)+(j:Int)+2+1),.ref p]) t=some (.tup [.int ((i:Int)+(j:Int)+3),.ref p]):=by rw [upd_same,show (i:Int)+(j:Int)+2+1=(i:Int)+(j:Int)+3 by lia]
 exact q t p cs _ (s45.trans s6) (s45.free ht) (s4.free fp5) h6 (hp5.same s6) pm5 rs5
theorem zb (aL:Al P w K mg base ca er 7) (F:Fg K mg ca 7 "_law_joined" qX):D P w K mg base ca er 7:=by
 refine eB F (fun _ _ _ _ _ _=>Dr fun _ _ _ _=>rfl) (F.F.ok BG (fun vs H Q E h=>?_) (fun cZ AZ oZ sZ H vs Q E hr h=>?_))
 ·obtain ⟨w,vl,vr,bl,br,rfl,hw,thl,thr,h39,q⟩:=h
  rfl
 obtain ⟨w,vl,vr,bl,br,rfl,hw,thl,thr,h39,q⟩:=h
 refine ⟨_,ai (aO (aA b9 (pv 0) ag (aC _)) (ah (au (aF (aL.g 4) hr (aa (pv 1) (aa (pv 2) (aa (pv 3) af)))))) aI)
  (ai (aO (aA b9 (pv 0) ag (aC _)) (ah (au (aF (aL.g 5) hr (aa (pv 1) (aa (pv 2) (aa (pv 3) af)))))) aI)
  (ai (aO (aA b9 (pv 0) ag (aC _)) (ah (au (aF (aL.g 6) hr (aa (pv 1) (aa (pv 2) (aa (pv 3) af)))))) aI)
  (ah (au (ao dk (ao dk (bG rfl (aN (pv 1)) rfl rfl rfl rfl (N:=["_law_number_here"]) (.own .nil) (fun _ _ _ _ _ _=>(az (i:=0) (by show FM (["_law_number_here"]:List Str); decide +kernel) rfl (Fs rfl))) (fun _ _ _ _ _ _=>bI) (fun _ _ _ _ _ _=>(ao aB (pv 0) ag))) (ba (aa ag af))) (bG rfl (aN (pv 2)) rfl rfl rfl rfl (N:=["_law_number_here","_law_i"]) (.own (.cap (j:=3) rfl rfl rfl .nil)) (fun _ _ _ _ _ _=>(az (i:=0) (by show FM (["_law_number_here","_law_i"]:List Str); decide +kernel) rfl (Fs rfl))) (fun _ _ _ _ _ _=>bI) (fun _ _ _ _ _ _=>(ao aB (ao aB (pv 0) (pv 1)) ag)))))))),?_⟩
 refine ⟨_,rfl,rfl,_,rfl,?_⟩
 rcases (by lia:w=0\/w=1\/w=2\/w=3) with rfl | rfl | rfl | rfl
 ·obtain ⟨_,l,rfl,_,hl⟩:=thl
  obtain ⟨_,r,rfl,_,hr2⟩:=thr
  exact bB rfl ⟨_,rfl,_,rfl,_,rfl,l,r,cY bl,cY br,by rw [cu]; rfl,hl,hr2,by rw [cu,cu]; lia,fun p H' s f h=>q _ _ s ⟨p,rfl,f,h⟩⟩
 ·obtain ⟨Ha,l,rfl,_,hl⟩:=thl
  obtain ⟨Hb,r,rfl,_,hr2⟩:=thr
  exact aX (by decide) ⟨_,rfl,rfl,_,rfl,bB rfl ⟨_,rfl,_,rfl,_,rfl,l,r,Ha,Hb,bl.size,br.size,cO bl,cO br,rfl,hl,hr2,cU bl,cU br,by lia,fun p H' s f h=>q _ _ s ⟨p,rfl,f,h⟩⟩⟩
 ·obtain ⟨_,tl,l,ps,rfl,_,htl,hl,pmp,rip⟩:=thl
  obtain ⟨_,tr,r,qs,rfl,_,htr,hr2,pmq,riq⟩:=thr
  exact aX (by decide) ⟨_,rfl,rfl,_,rfl,aX (by decide) ⟨_,rfl,rfl,_,rfl,bB rfl ⟨_,rfl,_,rfl,_,rfl,tl,tr,l,r,bl.size,br.size,ps,qs,rfl,htl,htr,hl,hr2,fT pmp rip,fT pmq riq,by lia,fun t p cs H' s f f' h h' pm ri=>q _ _ s ⟨t,p,cs,rfl,f',by rw [h,show (((Bt.node bl br).size:Nat):Int)+2=(bl.size:Int)+(br.size:Int)+3 by show ((bl.size+br.size+1:Nat):Int)+2=_; lia],h',pm.trans (kR bl br pmp pmq),ri⟩⟩⟩⟩
 ·refine aX (by decide) ⟨_,rfl,rfl,_,rfl,aX (by decide) ⟨_,rfl,rfl,_,rfl,aX (by decide) ?_⟩⟩
  obtain ⟨_,l,rfl,_,hl⟩:=thl
  obtain ⟨_,r,rfl,_,hr2⟩:=thr
  have q:∀ (p:EK) (H':Hp),ae H H'->H p=none->H' p=some (.lst ((cS (bN bl) (bN br)).map V.int))->Q (.ref p) H':=fun p H' s f h=>q _ _ s ⟨p,rfl,f,h⟩
  have z1:=b8 bl
  have z2:=b8 br
  rw [<- z1]
  rw [<- z1,<- z2] at h39
  generalize bN bl=ps at hl h39 q
  generalize bN br=qs at hr2 h39 q
  have m1:(ps.map V.int).length=ps.length:=Do _
  have m2:(qs.map V.int).length=qs.length:=Do _
  have up1:∀ (d:Int) (ns:List Int),(ns.map V.int).map (fun v=>match v with | .int c=>V.int (c+d) | v=>v)=(aE d ns).map V.int:=fun d ns=>by unfold aE; rw [FG,FG]; rfl
  refine ⟨_,rfl,l,rfl,⟨_,aj.of hl⟩,fun D hD=>eJ (fun v=>match v with | .int c=>.int (c+1) | v=>v) (by rw [m1]; exact sz (by lia)) (aj.of hl) hD (fun m x H9 R R0 hx hb9 hR=>?_) ?_⟩
  ·obtain ⟨c,rfl⟩:=cX hx
   exact ⟨Ext.set rfl,fg (bg ⟨_,rfl,_,_,rfl,rfl,hR⟩)⟩
  rw [up1]
  have k1:=ae.new (ae.refl H) hD (.lst ((aE 1 ps).map V.int))
  have h1:upd H D (.lst ((aE 1 ps).map V.int)) D=some (.lst ((aE 1 ps).map V.int)):=upd_same
  generalize upd H D (.lst ((aE 1 ps).map V.int))=H1 at k1 h1 |-
  refine ⟨(by show 1<=sizeLine; decide),fun z hz=>?_⟩
  have k2:=ae.new (ae.refl H1) hz (.lst [.int 0])
  refine ⟨D,z,_,_,rfl,rfl,k2 _ _ h1,upd_same,sz (by rw [Do,fm]; simp; lia),fun p1 hp1=>?_⟩
  have k3:=ae.new (k1.trans k2) hp1 (.lst ((aE 1 ps).map V.int++[.int 0]))
  have h3:upd (upd H1 z (.lst [.int 0])) p1 (.lst ((aE 1 ps).map V.int++[.int 0])) p1=some (.lst ((aE 1 ps).map V.int++[.int 0])):=upd_same
  generalize upd (upd H1 z (.lst [.int 0])) p1 (.lst ((aE 1 ps).map V.int++[.int 0]))=H3 at k3 h3 |-
  refine ⟨_,rfl,r,rfl,⟨_,aj.of (k3 _ _ hr2)⟩,fun D2 hD2=>eJ (fun v=>match v with | .int c=>.int (c+((ps.length:Int)+1)) | v=>v) (by rw [m2]; exact sz (by lia)) (aj.of (k3 _ _ hr2)) hD2 (fun m x H9 R R0 hx hb9 hR=>?_) ?_⟩
  ·obtain ⟨c,rfl⟩:=cX hx
   refine ⟨Ext.set rfl,fg (bg ⟨_,rfl,_,rfl,_,_,rfl,rfl,_,_,rfl,rfl,?_⟩)⟩
   show R (.int (c+(ps.length:Int)+1)) H9
   rw [IA]
   exact hR
  rw [up1]
  have k4:=ae.new k3 hD2 (.lst ((aE ((ps.length:Int)+1) qs).map V.int))
  refine ⟨p1,D2,_,_,rfl,rfl,(upd_ne (aq h3 hD2)).trans h3,upd_same,sz (by simp [fm]; lia),fun p hp=>?_⟩
  refine q p _ (ae.new k4 hp _) (k4.free hp) ?_
  rw [upd_same]
  unfold cS aE
  simp
theorem zW (aL:Al P w K mg base ca er 8) (F:Fg K mg ca 8 "_law_thing" rV):D P w K mg base ca er 8:=by
 refine vp 2 41 (by decide) F (fun _ _ _ _ _ _=>Dr fun _ _ _ _=>rfl) fun n gh=>bA.up (F.F.ok gU (fun vs H Q E h=>?_) (fun cZ AZ oZ sZ H vs Q E hr h=>?_))
 ·obtain ⟨w,pc,t,rfl,hw,hc,hn,k40,q⟩:=h
  rfl
 obtain ⟨w,pc,t,rfl,hw,hc,hn,k40,q⟩:=h
 refine ⟨_,ai (aO (aA b9 (pv 1) ag (aC _)) (ah (au (aF (aL.g 3) hr (aa (pv 0) af) (hjk:=by lia)))) aI)
  (ai (aD (i:=4) gU.nd rfl (Fs rfl) ag)
  (ai (nk FC (aA xi (pv 2) (ao cx (aK a9 (pv 3) (pv 4) (fun _ _=>rfl)) (aK a9 (pv 3) (ao bh (ao bh (pv 1) ag) (pv 4)) (fun _ _=>rfl))) (aC _)) (ai (aD (i:=2) gU.nd rfl (Fs rfl) (ao bh (pv 2) (ao cx (aK a9 (pv 3) (pv 4) (fun _ _=>rfl)) (aK a9 (pv 3) (ao bh (ao bh (pv 1) ag) (pv 4)) (fun _ _=>rfl)))))
  (ah (aD (i:=4) gU.nd rfl (Fs rfl) (ao aB (pv 4) ag)))))
  (ai (aD (i:=5) gU.nd rfl (Fs rfl) (ao bh (ao bh (pv 1) ag) (pv 4)))
  (ai (aD (i:=6) gU.nd rfl (Fs rfl) (aF gh hr (aa (pv 0) (aa (pv 4) (aa (ao gx (pv 2) (aK a9 (pv 3) (pv 5) (fun _ _=>rfl))) (aa (pv 3) af)))) (hjk:=by lia)))
  (ah (au (aF (aL.g 7) hr (aa (pv 0) (aa (pv 6) (aa (aF gh hr (aa (pv 0) (aa (pv 5) (aa (ao eh (pv 2) (aK a9 (pv 3) (pv 5) (fun _ _=>rfl))) (aa (pv 3) af)))) (hjk:=by lia)) (aa (pv 4) af)))) (hjk:=by lia)))))))),?_⟩
 refine ⟨_,rfl,rfl,_,rfl,?_⟩
 cases t with
 | leaf =>
  have hn:0=n:=hn
  exact bB (congrArg V.int (by lia)) ⟨_,rfl,w,rfl,hw,q⟩
 | node l r =>
  have hn:l.size+r.size+1=n:=hn
  have lk:(dN 40).length=40+1:=ck 40
  have at_:∀ (j:Nat) (z:Int),z=(j:Int)->j<=40->bX ((dN 40).map V.int) z=some (.int (sh j)):=fun j z ez hj=>by
   have:=gX (ns:=dN 40) (i:=z) (by lia) (by lia)
   rw [show z.toNat=j by lia,ft 40 j hj] at this
   exact this
  refine aX (fun z=>by injection z with z; lia) ?_
  refine ⟨fun mm σ H5=>∃ (o1 o2:Option V) (j:Nat),σ=[some (.int (w:Int)),some (.int (n:Int)),some (.int (bU (.node l r) - pre n j)),some (.ref pc),some (.int (j:Int)),o1,o2]/\H=H5/\j<=l.size/\mm=n - j,⟨_,_,_,0,by rw [show pre n 0=0 from rfl,Int.sub_zero]; rfl,rfl,by lia,rfl⟩,?_⟩
  rintro mm σ H5 ⟨o1,o2,j,rfl,rfl,hj,rfl⟩
  have p1:=dA j
  have p2:=dA (n - 1 - j)
  have a1:=at_ j (j:Int) rfl (by lia)
  have a2:=at_ (n - 1 - j) ((n:Int) - 1 - (j:Int)) (by lia) (by lia)
  have mc:lr (sh j) (sh (n - 1 - j)):=mulC (a:=j) (b:=n - 1 - j) (by lia) (by lia) (FQ _) (by lia) (FQ _)
  refine ⟨_,rfl,_,rfl,_,rfl,pc,_,_,_,rfl,rfl,aj.of hc,a1,_,rfl,_,rfl,_,_,rfl,rfl,_,rfl,_,_,rfl,rfl,pc,_,_,_,rfl,rfl,aj.of hc,a2,_,_,rfl,rfl,mc,_,_,rfl,rfl,_,rfl,?_⟩
  have ps:=fE n j
  by_cases h:j < l.size
  ·have go:=yI (r:=r) h
   rw [hn,show l.size+r.size - j=n - 1 - j by lia] at go
   refine bB (by lia) ⟨fun σ' H6=>σ'=[some (.int (w:Int)),some (.int (n:Int)),some (.int (bU (.node l r) - pre n j - sh j*sh (n - 1 - j))),some (.ref pc),some (.int ((j:Int)+1)),o1,o2]/\H=H6,?_,?_⟩
   ·rintro σ' H6 ⟨rfl,rfl⟩
    refine ⟨n - (j+1),by lia,o1,o2,j+1,?_,rfl,h,rfl⟩
    rw [show bU (.node l r) - pre n (j+1)=bU (.node l r) - pre n j - sh j*sh (n - 1 - j) by lia]
    rfl
   ·exact ⟨_,rfl,_,rfl,_,rfl,pc,_,_,_,rfl,rfl,aj.of hc,a1,_,rfl,_,rfl,_,_,rfl,rfl,_,rfl,_,_,rfl,rfl,pc,_,_,_,rfl,rfl,aj.of hc,a2,_,_,rfl,rfl,mc,_,_,rfl,rfl,_,rfl,_,_,rfl,rfl,rfl,rfl⟩
  have ej:j=l.size:=by lia
  subst ej
  have bO:=tT l r
  rw [hn] at bO
  have er:n - 1 - l.size=r.size:=by lia
  have b1:=dS l
  have b2:=dS r
  have b3:=g6 r
  have lt:=pT (g6 l) b2 b3
  rw [er] at p2
  refine aX (by rw [er,bO]; lia) ⟨_,rfl,_,_,rfl,rfl,_,rfl,_,_,rfl,rfl,?_⟩
  try dsimp only
  have eb:(n:Int) - 1 - (l.size:Int)=(r.size:Int):=by lia
  rw [eb,bO]
  have pd:=wo (x:=bU l) b2 b3
  have a3:=at_ r.size (r.size:Int) rfl (by lia)
  refine ⟨_,rfl,_,rfl,_,rfl,_,rfl,_,rfl,pc,_,_,_,rfl,rfl,aj.of hc,a3,_,_,rfl,rfl,DT (by lia) (AF (by lia)),_,rfl,l.size,by lia,w,pc,l,congrArg (fun z=>[V.int (w:Int),V.int (l.size:Int),V.int z,V.ref pc]) pd.1,hw,hc,rfl,by lia,fun vl H1 s1 th1=>?_⟩
  refine ⟨_,rfl,_,rfl,_,rfl,_,rfl,_,rfl,_,rfl,_,rfl,pc,_,_,_,rfl,rfl,aj.of (s1 _ _ hc),a3,_,_,rfl,rfl,by lia,_,rfl,r.size,by lia,w,pc,r,congrArg (fun z=>[V.int (w:Int),V.int (r.size:Int),V.int z,V.ref pc]) pd.2,hw,s1 _ _ hc,rfl,by lia,fun vr H2 s2 th2=>?_⟩
  have s12:=s1.trans s2
  exact ⟨_,rfl,w,vl,vr,l,r,rfl,hw,⟨_,th1.same s2⟩,⟨_,th2⟩,by lia,fun v H' s th=>q v H' (s12.trans s) (th.since s12)⟩
theorem Dh (aL:Al P w K mg base ca er 9) (F:cM K ca 9 "__init__" "Family.__init__" wM):D P w K mg base ca er 9:=by
 refine de F (fun _ _ _ _ _ _=>gv fun _ _ _=>rfl) (F.ok CP (fun vs H Q E h=>?_) (fun cZ AZ oZ sZ H vs Q E hr h=>?_))
 ·obtain ⟨fw,hf,x,dx,w,l,rfl,hx,q⟩:=h
  rfl
 obtain ⟨fw,hf,x,dx,w,l,rfl,hx,q⟩:=h
 refine ⟨_,ai (uC (pv 0) (pv 1) rfl)
  (ah (uC (pv 0) (pv 2) rfl)),?_⟩
 refine ⟨_,rfl,_,rfl,x,(ca.C fw),dx,_,rfl,hx,(CA.c4 fw hf),(CA.na4_word fw hf),(by show 0 < 1000; decide),?_⟩
 refine ⟨_,rfl,_,rfl,x,(ca.C fw),dx,_,rfl,upd_same,(CA.c4 fw hf),(CA.na4_least fw hf),(by show 1 < 1000; decide),?_⟩
 exact q _ _ lM (xX w l)
theorem Di (aL:Al P w K mg base ca er 10) (F:cM K ca 10 "__init__" "SplitFamily.__init__" v7):D P w K mg base ca er 10:=by
 refine de F (fun _ _ _ _ _ _=>eX fun _ _=>rfl) (F.ok CH (fun vs H Q E h=>?_) (fun cZ AZ oZ sZ H vs Q E hr h=>?_))
 ·obtain ⟨fw,hf,x,dx,w,rfl,hx,q⟩:=h
  rfl
 obtain ⟨fw,hf,x,dx,w,rfl,hx,q⟩:=h
 refine ⟨_,ah (aZ (oE CA.wC CA.cm_Family___init___W (aL.g 9) hr (aa (pv 0) (aa (pv 1) (aa ag af))))),?_⟩
 exact ⟨_,rfl,_,rfl,fw,hf,x,dx,w,0,rfl,hx,fun fs H' e f=>q fs H' e f⟩
theorem BN (aL:Al P w K mg base ca er 11) (F:cM K ca 11 "__init__" "Bows.__init__" qW):D P w K mg base ca er 11:=by
 refine de F (fun _ _ _ _ _ _=>eO fun _=>rfl) (F.ok zU (fun vs H Q E h=>?_) (fun cZ AZ oZ sZ H vs Q E hr h=>?_))
 ·obtain ⟨x,dx,rfl,hx,q⟩:=h
  rfl
 obtain ⟨x,dx,rfl,hx,q⟩:=h
 refine ⟨_,ah (aZ (oE CA.eD CA.cm_SplitFamily___init___W (aL.g 10) hr (aa (pv 0) (aa iV af)))),?_⟩
 exact ⟨_,rfl,0,by decide,x,dx,_,rfl,hx,fun fs H' e f=>q fs H' e f⟩
theorem CN (aL:Al P w K mg base ca er 12) (F:cM K ca 12 "__init__" "Rooms.__init__" wD):D P w K mg base ca er 12:=by
 refine de F (fun _ _ _ _ _ _=>eO fun _=>rfl) (F.ok CY (fun vs H Q E h=>?_) (fun cZ AZ oZ sZ H vs Q E hr h=>?_))
 ·obtain ⟨x,dx,rfl,hx,q⟩:=h
  rfl
 obtain ⟨x,dx,rfl,hx,q⟩:=h
 refine ⟨_,ah (aZ (oE CA.eD CA.cm_SplitFamily___init___W (aL.g 10) hr (aa (pv 0) (aa iV af)))),?_⟩
 exact ⟨_,rfl,1,by decide,x,dx,_,rfl,hx,fun fs H' e f=>q fs H' e f⟩
theorem Cp (aL:Al P w K mg base ca er 13) (F:cM K ca 13 "__init__" "Floors.__init__" wQ):D P w K mg base ca er 13:=by
 refine de F (fun _ _ _ _ _ _=>eO fun _=>rfl) (F.ok CB (fun vs H Q E h=>?_) (fun cZ AZ oZ sZ H vs Q E hr h=>?_))
 ·obtain ⟨x,dx,rfl,hx,q⟩:=h
  rfl
 obtain ⟨x,dx,rfl,hx,q⟩:=h
 refine ⟨_,ah (aZ (oE CA.eD CA.cm_SplitFamily___init___W (aL.g 10) hr (aa (pv 0) (aa iV af)))),?_⟩
 exact ⟨_,rfl,2,by decide,x,dx,_,rfl,hx,fun fs H' e f=>q fs H' e f⟩
theorem Au (aL:Al P w K mg base ca er 14) (F:cM K ca 14 "__init__" "Turns.__init__" sr):D P w K mg base ca er 14:=by
 refine de F (fun _ _ _ _ _ _=>eO fun _=>rfl) (F.ok Bj (fun vs H Q E h=>?_) (fun cZ AZ oZ sZ H vs Q E hr h=>?_))
 ·obtain ⟨x,dx,rfl,hx,q⟩:=h
  rfl
 obtain ⟨x,dx,rfl,hx,q⟩:=h
 refine ⟨_,ah (aZ (oE CA.eD CA.cm_SplitFamily___init___W (aL.g 10) hr (aa (pv 0) (aa iV af)))),?_⟩
 exact ⟨_,rfl,3,by decide,x,dx,_,rfl,hx,fun fs H' e f=>q fs H' e f⟩
theorem Ab (aL:Al P w K mg base ca er 15) (F:Fg K mg ca 15 "_law_kin" se):D P w K mg base ca er 15:=by
 refine eB F (fun _ _ _ _ _ _=>eO fun _=>rfl) (F.F.ok yP (fun vs H Q E h=>?_) (fun cZ AZ oZ sZ H vs Q E hr h=>?_))
 ·obtain ⟨w,rfl,hw,q⟩:=h
  rfl
 obtain ⟨w,rfl,hw,q⟩:=h
 refine ⟨_,ai (aO (aA b9 (pv 0) ag (aC _)) (ah (au (kB CA.mk_Bows CA.AH (aL.g 11) hr))) aI)
  (ai (aO (aA b9 (pv 0) ag (aC _)) (ah (au (kB CA.mk_Rooms CA.yk (aL.g 12) hr))) aI)
  (ai (aO (aA b9 (pv 0) ag (aC _)) (ah (au (kB CA.mk_Floors CA.wR (aL.g 13) hr))) aI)
  (ah (au (kB CA.mk_Turns CA.yD (aL.g 14) hr))))),?_⟩
 refine ⟨_,rfl,rfl,_,rfl,?_⟩
 have mk:∀ (x dx:EK) (fs:List (Str × V)) (H1:Hp),H x=none->H dx=none->H1=upd (upd (upd H dx (.own x)) x (.ins (ca.C w) dx [])) x (.ins (ca.C w) dx fs)->eF fs (pI w) 0->Q (.ref x) H1:=fun x dx fs H1 nx ndx ex fx=>q x dx fs H1 (by rw [ex]; exact ((ae.new (ae.refl H) ndx _).upd nx _).upd nx _) (by rw [ex]; exact upd_same) fx
 rcases (by lia:w=0\/w=1\/w=2\/w=3) with rfl | rfl | rfl | rfl
 ·exact bB rfl fun x dx nx ndx _=>⟨x,dx,rfl,upd_same,fun fs H1 ex fx=>⟨rfl,mk x dx fs H1 nx ndx ex fx⟩⟩
 ·exact aX (by decide) ⟨_,rfl,rfl,_,rfl,bB rfl fun x dx nx ndx _=>⟨x,dx,rfl,upd_same,fun fs H1 ex fx=>⟨rfl,mk x dx fs H1 nx ndx ex fx⟩⟩⟩
 ·exact aX (by decide) ⟨_,rfl,rfl,_,rfl,aX (by decide) ⟨_,rfl,rfl,_,rfl,bB rfl fun x dx nx ndx _=>⟨x,dx,rfl,upd_same,fun fs H1 ex fx=>⟨rfl,mk x dx fs H1 nx ndx ex fx⟩⟩⟩⟩
 ·exact aX (by decide) ⟨_,rfl,rfl,_,rfl,aX (by decide) ⟨_,rfl,rfl,_,rfl,aX (by decide) fun x dx nx ndx _=>⟨x,dx,rfl,upd_same,fun fs H1 ex fx=>⟨rfl,mk x dx fs H1 nx ndx ex fx⟩⟩⟩⟩
theorem B8 (aL:Al P w K mg base ca er 16) (F:Fg K mg ca 16 "_law_copy" sU):D P w K mg base ca er 16:=by
 refine eB F (fun _ _ _ _ _ _=>eO fun _=>rfl) (F.F.ok Ao (fun vs H Q E h=>?_) (fun cZ AZ oZ sZ H vs Q E hr h=>?_))
 ·obtain ⟨w,v,t,rfl,hw,th,h40,q⟩:=h
  rfl
 obtain ⟨w,v,t,rfl,hw,th,h40,q⟩:=h
 refine ⟨_,ai (aO (cz (aH bP rfl CA.bK bE (aa (pv 0) (aa (dB (v:=.ty "tuple") rfl CA.kQ jF rfl) af)))) (ah (au (aP (aa (aK bJ (pv 0) ag (fun _ _=>rfl)) (aa (fI eY rfl CA.dZ dD (aa (aK bJ (pv 0) ag (fun _ _=>rfl)) af)) af))))) aI)
  (ai (aO (PW.pt (iH (aA iA (aH bw rfl CA.eE dj (aa (pv 0) af)) ag (aC _)) (gW (cz (aH bP rfl CA.bK bE (aa (aK a9 (pv 0) ag (fun _ _=>rfl)) (aa (dB (v:=.ty "list") rfl CA.dZ dD rfl) af))))))) (ah (au (bG rfl (aN (pv 0)) rfl rfl rfl rfl (N:=["_law_room"]) (.own .nil) (fun _ _ _ _ _ _=>(az (i:=0) (by show FM (["_law_room"]:List Str); decide +kernel) rfl (Fs rfl))) (fun _ _ _ _ _ _=>bI) (fun _ _ _ _ _ _=>(fI (mK (K:=K) rfl) rfl CA.dZ dD (aa (pv 0) af)))))) aI)
  (ah (au (fI eY rfl CA.dZ dD (aa (pv 0) af))))),?_⟩
 obtain ⟨Ha,th⟩:=th
 rcases (by lia:w=2\/w≠2) with rfl | h2
 ·obtain ⟨u,l,cs,rfl,_,ht,hl,pm,ri⟩:=th
  obtain ⟨xs,el,pr⟩:=hl
  have at0:∀ (c:Int) (a:EK),bX [V.int c,.ref a] 0=some (.int c):=fun _ _=>rfl
  have at1:∀ (c:Int) (a:EK),bX [V.int c,.ref a] 1=some (.ref a):=fun _ _=>rfl
  refine ⟨_,rfl,_,_,_,_,_,rfl,cA,.tup ht,eQ,_,rfl,bg ⟨_,rfl,u,_,_,_,rfl,rfl,bb.of ht,at0 _ _,_,rfl,u,_,_,_,rfl,rfl,bb.of ht,at1 _ _,l,_,rfl,.inl (aj.of el),fun l' hl'=>⟨(by show 2<=sizeLine; decide),fun t' ht'=>?_⟩⟩⟩
  have s1:=ae.new (ae.refl H) hl' (.lst xs)
  have s2:=ae.new (ae.refl _) ht' (.tup [.int ((t.size:Int)+2),.ref l'])
  exact q _ _ (s1.trans s2) ⟨t',l',cs,rfl,hl',upd_same,⟨xs,s2 _ _ upd_same,pr.same (s1.trans s2)⟩,pm,ri⟩
 have key:∃ (l:EK) (xs:List V),v = .ref l/\H l=some (.lst xs)/\(((∀ x,xs[0]? = some x->∃ k,eL K H x k/\JB K k (.type "list")=some false)/\∀ l',H l'=none->Kn w H (upd H l' (.lst xs)) (.ref l') t)\/(w=1/\aM Ha H l (cO t)/\cO t≠[])):=by
  rcases (by lia:w=0\/w=1\/w=3) with rfl | rfl | rfl
  ·obtain ⟨l,rfl,_,xs,el,pr⟩:=th
   refine ⟨l,xs,rfl,el,.inl ⟨fun x hx=>?_,fun l' hl'=>⟨l',rfl,hl',xs,upd_same,pr.same (ae.new (ae.refl H) hl' _)⟩⟩⟩
   obtain ⟨_,tt,_,rfl,htt⟩:=pr.get hx
   exact ⟨_,.tup htt,fA⟩
  ·obtain ⟨l,rfl,_,hl⟩:=th
   obtain ⟨xs,el,lx⟩:=hl.len
   by_cases e:cO t=[]
   ·rw [e] at lx
    have:xs=[]:=Ks.mp lx
    subst this
    refine ⟨l,[],rfl,el,.inl ⟨fun x hx=>(by cases hx),fun l' hl'=>⟨l',rfl,hl',?_⟩⟩⟩
    rw [e]
    exact aM.nil upd_same
   ·exact ⟨l,xs,rfl,el,.inr ⟨rfl,hl,e⟩⟩
  ·obtain ⟨l,rfl,_,hl⟩:=th
   refine ⟨l,_,rfl,hl,.inl ⟨fun x hx=>?_,fun l' hl'=>⟨l',rfl,hl',upd_same⟩⟩⟩
   obtain ⟨c,rfl⟩:=cX hx
   exact ⟨_,.int c,rfl⟩
 clear th
 obtain ⟨l,xs,rfl,el,hh⟩:=key
 refine ⟨_,rfl,_,_,_,_,_,rfl,cA,.lst el,gZ,_,rfl,bH ⟨_,rfl,l,xs,rfl,.inl (aj.of el),_,_,rfl,rfl,_,rfl,?_⟩⟩
 rcases hh with ⟨hd,kn⟩ | ⟨rfl,hl,ne⟩
 ·cases xs with
  | nil=>exact aX (by decide) (bH ⟨_,rfl,l,_,rfl,.inl (aj.of el),fun l' hl'=>q _ _ (ae.new (ae.refl H) hl' _) (kn l' hl')⟩)
  | cons x ys =>
   obtain ⟨k,ty,kk⟩:=hd x rfl
   have ax:bX (x::ys) 0=some x:=fB (show (x::ys)[0]? = some x from rfl)
   exact bB (by rw [Fb]; lia) ⟨_,rfl,l,_,_,_,rfl,rfl,aj.of el,ax,_,_,_,_,_,rfl,cA,ty,kk,_,rfl,bH ⟨_,rfl,l,_,rfl,.inl (aj.of el),fun l' hl'=>q _ _ (ae.new (ae.refl H) hl' _) (kn l' hl')⟩⟩
 ·have ln:=(cU t).lens
  obtain ⟨xs',el',lxs⟩:=hl.len
  rw [el] at el'
  cases el'
  have q:∀ (p:EK) (H':Hp),ae H H'->H p=none->aM H H' p (cO t)->Q (.ref p) H':=fun p H' s f h=>q _ _ s ⟨p,rfl,f,h⟩
  have hz:(cO t).length<=40:=by lia
  generalize cO t=ls at hl ne lxs hz q
  have pos:0 < xs.length:=by rw [lxs]; exact Hm.mpr ne
  obtain ⟨b0,_,e0,_,hb0,_⟩:=hl.at el (Da pos)
  have a0:bX xs 0=some (.ref b0):=by rw [<- e0]; exact fB (Da pos)
  refine bB (by lia) ⟨_,rfl,l,_,_,_,rfl,rfl,aj.of el,a0,_,_,_,_,_,rfl,cA,.lst hb0,eC,_,rfl,bg ?_⟩
  refine ⟨_,rfl,l,rfl,⟨_,aj.of el⟩,fun D hD=>bM (xs:=xs) (fun k ys H'=>ae H H'/\H' D=some (.lst ys)/\aM H H' D (ls.take k)/\k<=ls.length) (sz (by lia)) ⟨ae.new (ae.refl H) hD _,upd_same,aM.nil upd_same,EU _⟩ (fun k ys H' hk h=>⟨aj.of (h.1 _ _ el),?_⟩) (fun k v ys H' R R0 hx h r r0=>?_) (fun ys H' h=>?_)⟩
  ·obtain ⟨us,eu,lu⟩:=h.2.2.1.len
   rw [h.2.1] at eu
   cases eu
   rw [lu,E5]
   lia
  ·obtain ⟨sk,hy,lk,hk⟩:=h
   obtain ⟨b,ns,rfl,hn,hb,_⟩:=hl.at el hx
   have hlt:k < ls.length:=(EC.mp hn).1
   refine ⟨Ext.set rfl,fg (bg ⟨_,rfl,b,_,rfl,.inl (aj.of (sk _ _ hb)),fun c hc=>?_⟩)⟩
   have k9:=ae.new (ae.refl H') hc (.lst (ns.map V.int))
   refine r _ _ (k9 _ _ hy) ⟨(sk.trans k9).upd hD _,upd_same,?_,hlt⟩
   rw [E3,hn]
   exact lk.push hy k9 hc upd_same (sk.free hc)
  ·obtain ⟨sk,hy,lk,hk⟩:=h
   rw [EL (by lia)] at lk
   exact q D H' sk hD lk
theorem AM (aL:Al P w K mg base ca er 17) (F:Fg K mg ca 17 "each_once" sT):D P w K mg base ca er 17:=by
 refine eB F (fun _ _ _ _ _ _=>eO fun _=>rfl) (F.F.ok zZ (fun vs H Q E h=>?_) (fun cZ AZ oZ sZ H vs Q E hr h=>?_))
 ·obtain ⟨l,ns,rfl,hl,h64,q⟩:=h
  rfl
 obtain ⟨l,ns,rfl,hl,h64,q⟩:=h
 refine ⟨_,ah (au (fh (qT (D7 hr)) (aH m7 rfl CA.dR dc (aa (pv 0) af)) (Bw rfl rfl CA.dZ rfl CA.dX (aa (aH bw rfl CA.eE dj (aa (pv 0) af)) af)) (aC _))),?_⟩
 have lm:(ns.map V.int).length=ns.length:=Do _
 refine ⟨_,rfl,l,ns,rfl,aj.of hl,h64,fun ps ms hps hp hs=>?_⟩
 have s1:=ae.new (ae.refl H) hps (.lst (ms.map V.int))
 have hm1:upd H ps (.lst (ms.map V.int)) ps=some (.lst (ms.map V.int)):=upd_same
 generalize upd H ps (.lst (ms.map V.int))=H1 at s1 hm1 |-
 refine ⟨_,rfl,l,_,rfl,.inl (aj.of (s1 _ _ hl)),_,rfl,by lia,by lia,by lia,fun pr hpr=>?_⟩
 have s2:=ae.new (ae.refl H1) hpr (.lst (fv 0 (((ns.map V.int).length:Nat):Int).toNat))
 refine ⟨ps,pr,_,_,rfl,rfl,aj.of (s2 _ _ hm1),aj.of upd_same,l9 ms,?_,?_⟩
 ·rw [l8]; exact l9 _
 have e:jy (ms.map V.int) (fv 0 (((ns.map V.int).length:Nat):Int).toNat)=bW ns:=by
  rw [l8,nH,nI hp hs,show (((ns.map V.int).length:Nat):Int).toNat=ns.length by lia]
 have last:∀ b:Bool,b=bW ns->Q (.bl b) (upd H1 pr (.lst (fv 0 (((ns.map V.int).length:Nat):Int).toNat))):=fun b z=>by rw [z]; exact q _ (s1.trans s2)
 exact last _ e
theorem AS (aL:Al P w K mg base ca er 18) (F:Fg K mg ca 18 "flat" qK):D P w K mg base ca er 18:=by
 refine eB F (fun _ _ _ _ _ _=>eO fun _=>rfl) (F.F.ok nE (fun vs H Q E h=>?_) (fun cZ AZ oZ sZ H vs Q E hr h=>?_))
 ·obtain ⟨l,rfl,hor⟩:=h
  rfl
 obtain ⟨l,rfl,hor⟩:=h
 refine ⟨_,ai (aD (i:=1) nE.nd rfl (Fs rfl) (ba af))
  (ai (b7 FC rfl (aN (pv 0)) (az (i:=2) nE.nd rfl (Fs rfl)) (ah (aZ (cC E8 Kb Kc yA (pv 1) (aa (pv 2) af)))))
  (ah (au (pv 1)))),?_⟩
 rcases hor with ⟨ps,hl,hz,q⟩ | ⟨bs,xss,hl,rw_,hz,q⟩
 ·obtain ⟨xs,el,lxs,pr⟩:=hl.len
  refine ⟨EU _,fun pf hpf=>?_⟩
  have s1:=ae.new (ae.refl H) hpf (.lst [])
  refine ⟨_,rfl,l,rfl,⟨_,aj.of (s1 _ _ el)⟩,bQ (xs:=xs) (fun i σ H'=>∃ (o1:Option V),σ=[some (.ref l),some (.ref pf),o1]/\ae H H'/\H' pf=some (.lst ((bx (ps.take i)).map V.int))) ⟨_,rfl,s1,upd_same⟩ (fun i σ H' _ h=>aj.of (h.choose_spec.2.1 _ _ el)) ?_ ?_⟩
  ·rintro i v σ H2 hv ⟨o1,rfl,sm,hf⟩
   obtain ⟨pp,tt,hpp,rfl,htt⟩:=pr.get hv
   have hz2:((bx (ps.take i)).map V.int).length<=2000:=by
    rw [Do,gC,E5]
    lia
   refine ⟨_,rfl,.inl ⟨rfl,_,aj.of hf⟩,_,rfl,.inr ⟨pf,tt,_,_,rfl,rfl,hf,bb.of (sm _ _ htt),(by show _+2<=_; exact sz (by lia)),?_⟩⟩
   refine ⟨_,rfl,sm.upd hpf _,?_⟩
   rw [upd_same,E3,hpp,gG,ED]
   rfl
  ·rintro σ H2 ⟨o1,rfl,sm,hf⟩
   rw [EL (by lia)] at hf
   exact ⟨_,rfl,q pf H2 sm hpf hf⟩
 ·have lb:=rw_.len
  refine ⟨EU _,fun pf hpf=>?_⟩
  have s1:=ae.new (ae.refl H) hpf (.lst [])
  refine ⟨_,rfl,l,rfl,⟨_,aj.of (s1 _ _ hl)⟩,bQ (xs:=bs.map V.ref) (fun i σ H'=>∃ (o1:Option V),σ=[some (.ref l),some (.ref pf),o1]/\ae H H'/\H' pf=some (.lst (xss.take i).flatten)) ⟨_,rfl,s1,upd_same⟩ (fun i σ H' _ h=>aj.of (h.choose_spec.2.1 _ _ hl)) ?_ ?_⟩
  ·rintro i v σ H2 hv ⟨o1,rfl,sm,hf⟩
   obtain ⟨b,xs,rfl,hx,hb⟩:=rw_.get hv
   have et:(xss.take (i+1)).flatten=(xss.take i).flatten++xs:=by
    rw [E3,hx,GJ]
    simp
   have hz2:(xss.take i).flatten.length+xs.length<=1000:=by
    have h1:(xss.take (i+1)).flatten.length<=xss.flatten.length:=by
     conv=>rhs; rw [<- G5 (i+1) xss,GJ,EA]
     lia
    rw [et,EA] at h1
    lia
   have nb:b≠pf:=aq hb hpf
   refine ⟨_,rfl,.inl ⟨rfl,_,aj.of hf⟩,_,rfl,.inl ⟨pf,b,_,_,rfl,rfl,hf,sm _ _ hb,sz (by lia),?_⟩⟩
   exact ⟨_,rfl,sm.upd hpf _,by rw [upd_same,et]⟩
  ·rintro σ H2 ⟨o1,rfl,sm,hf⟩
   rw [EL (by rw [Do]; lia)] at hf
   exact ⟨_,rfl,q pf H2 sm hpf hf⟩
theorem AX (aL:Al P w K mg base ca er 19) (F:Fg K mg ca 19 "any_cross" sO):D P w K mg base ca er 19:=by
 refine eB F (fun _ _ _ _ _ _=>eO fun _=>rfl) (F.F.ok iO (fun vs H Q E h=>?_) (fun cZ AZ oZ sZ H vs Q E hr h=>?_))
 ·obtain ⟨l,ps,rfl,hl,q⟩:=h
  rfl
 obtain ⟨l,ps,rfl,hl,q⟩:=h
 refine ⟨_,ai (b7 FC rfl (aN (pv 0)) (g8 rfl (aV (az (i:=1) iO.nd rfl (Fs rfl)) (aV (az (i:=2) iO.nd rfl (Fs rfl)) cW))) (ah (b7 FC rfl (aN (pv 0)) (g8 rfl (aV (az (i:=3) iO.nd rfl (Fs rfl)) (aV (az (i:=4) iO.nd rfl (Fs rfl)) cW))) (ah (aO (yX eU eU eU (pv 1) (pv 3) (pv 2) (pv 4)) (ah (au cj)) aI)))))
  (ah (au cj)),?_⟩
 obtain ⟨xs,el,lxs,pr⟩:=hl.len
 refine ⟨_,rfl,l,rfl,⟨_,aj.of el⟩,bQ (xs:=xs) (fun i σ H'=>∃ (o1 o2 o3 o4:Option V),σ=[some (.ref l),o1,o2,o3,o4]/\H=H'/\∀ p∈ps.take i,ps.any (gO p)=false) ⟨_,_,_,_,rfl,rfl,by simp⟩ (fun i σ H' _ h=>by obtain ⟨_,_,_,_,_,rfl,_⟩:=h; exact aj.of el) ?_ ?_⟩
 ·rintro i v σ H2 hv ⟨o1,o2,o3,o4,rfl,rfl,al⟩
  obtain ⟨pp,tt,hpp,rfl,htt⟩:=pr.get hv
  refine ⟨tt,_,rfl,bb.of htt,rfl,_,_,rfl,_,_,rfl,rfl,?_⟩
  refine ⟨_,rfl,l,rfl,⟨_,aj.of el⟩,bQ (xs:=xs) (fun j σ H'=>∃ (o3 o4:Option V),σ=[some (.ref l),some (.int pp.1),some (.int pp.2),o3,o4]/\H=H'/\∀ r∈ps.take j,gO pp r=false) ⟨_,_,rfl,rfl,by simp⟩ (fun i σ H' _ h=>by obtain ⟨_,_,_,rfl,_⟩:=h; exact aj.of el) ?_ ?_⟩
  ·rintro j v σ H3 hv ⟨o3,o4,rfl,rfl,al2⟩
   obtain ⟨rr,t2,hrr,rfl,ht2⟩:=pr.get hv
   refine ⟨t2,_,rfl,bb.of ht2,rfl,_,_,rfl,_,_,rfl,rfl,?_⟩
   have next:gO pp rr=false->∀ r∈ps.take (j+1),gO pp r=false:=fun hc r hr=>by
    rw [E3,hrr] at hr
    rcases EN.mp hr with z | z
    ·exact al2 r z
    ·have:r=rr:=by simpa using z
     rw [this]; exact hc
   refine ⟨_,rfl,_,rfl,_,_,rfl,rfl,_,rfl,?_⟩
   by_cases c1:pp.1 < rr.1
   ·refine bB c1 ⟨_,rfl,_,_,rfl,rfl,_,rfl,?_⟩
    by_cases c2:rr.1 < pp.2
    ·refine bB c2 ⟨_,rfl,_,_,rfl,rfl,_,rfl,?_⟩
     by_cases c3:pp.2 < rr.2
     ·refine bB c3 ?_
      have:cf ps=true:=ir.mpr ⟨pp,ES hpp,rr,ES hrr,c1,c2,c3⟩
      rw [this] at q
      exact q
     ·exact aX c3 ⟨_,_,rfl,rfl,next (by unfold gO; simp [c3])⟩
    ·exact aX c2 ⟨_,rfl,bH ⟨_,_,rfl,rfl,next (by unfold gO; simp [c2])⟩⟩
   ·exact aX c1 ⟨_,rfl,bH ⟨_,_,rfl,rfl,next (by unfold gO; simp [c1])⟩⟩
  ·rintro σ H3 ⟨o3,o4,rfl,rfl,al2⟩
   rw [EL (by lia)] at al2
   refine ⟨_,_,_,_,rfl,rfl,fun p hp=>?_⟩
   rw [E3,hpp] at hp
   rcases EN.mp hp with z | z
   ·exact al p z
   ·have:p=pp:=by simpa using z
    rw [this,Je]
    intro r hr
    rw [al2 r hr]
    decide
 ·rintro σ H2 ⟨o1,o2,o3,o4,rfl,rfl,al⟩
  rw [EL (by lia)] at al
  have:cf ps=false:=by
   unfold cf
   rw [Je]
   intro p hp
   rw [al p hp]
   decide
  rw [this] at q
  exact q
theorem BU (aL:Al P w K mg base ca er 20) (F:cM K ca 20 "is_one" "Bows.is_one" rW):D P w K mg base ca er 20:=by
 refine de F (fun _ _ _ _ _ _=>eX fun _ _=>rfl) (F.ok B0 (fun vs H Q E h=>?_) (fun cZ AZ oZ sZ H vs Q E hr h=>?_))
 ·obtain ⟨x,v,b,rfl,th,q⟩:=h
  rfl
 obtain ⟨x,v,b,rfl,th,q⟩:=h
 refine ⟨_,ai (aO (PW.pt (mU (fK (cz (aF (aL.g 17) hr (aa (aF (aL.g 18) hr (aa (pv 1) af)) af)))) (ku (aA (iT (e8 hr)) (pv 1) (aH gn rfl CA.dR dc (aa (pv 1) af)) (aC _))))) (ah (au cj)) aI)
  (ah (au (gi (aH (n8 rfl) rfl CA.xa ub (aa (bG rfl (aN (pv 1)) rfl rfl rfl rfl (N:=["a","b"]) (.own (.own .nil)) (fun _ _ _ _ _ _=>(gc (K:=K) (n:=2) rfl rfl (aV (az (i:=0) (by show FM (["a","b"]:List Str); decide +kernel) rfl (Fs rfl)) (aV (az (i:=1) (by show FM (["a","b"]:List Str); decide +kernel) rfl (Fs rfl)) cW)))) (fun _ _ _ _ _ _=>bI) (fun _ _ _ _ _ _=>(fh eU (pv 0) (pv 1) (aC _)))) af)) (iQ (nA (aF (aL.g 19) hr (aa (pv 1) af))))))),?_⟩
 obtain ⟨l,ps,rfl,hl,hz,rfl⟩:=th
 refine ⟨_,rfl,l,rfl,.inl ⟨ps,hl,by lia,fun pf H1 s1 f1 h1=>⟨pf,_,rfl,h1,by rw [gC]; lia,fun H2 s2=>⟨_,rfl,?_⟩⟩⟩⟩
 have s12:=s1.trans s2
 have eV:=hl.same s12
 cases hE:bW (bx ps) with
 | false =>
  rw [uO hE] at q
  exact bg (bg (q _ s12))
 | true =>
  refine bH ⟨_,rfl,_,rfl,l,ps,rfl,eV,by lia,fun pq qs H3 s3 f3 h3 hp hs=>?_⟩
  have s13:=s12.trans s3
  have fG:=hl.same s13
  have ne:l≠pq:=by
   obtain ⟨_,e,_⟩:=eV
   exact aq e f3
  refine ⟨2,_,by decide,aW.prs ne fG h3,⟨l,pq,rfl,rfl,ne⟩,_,rfl,?_⟩
  by_cases e:ps=qs
  ·rw [o7 hp hs hE e] at q
   obtain ⟨xs,el,lxs,pr⟩:=fG.len
   rw [decide_eq_true e]
   refine bH ⟨_,rfl,l,rfl,⟨_,aj.of el⟩,fun D hD=>bM (xs:=xs) (fun i ys H'=>ae H3 H'/\H' D=some (.lst ys)/\ys=((ps.take i).map fun p=>decide (p.1 < p.2)).map V.bl/\i<=ps.length) (sz (by lia)) ⟨ae.new (ae.refl H3) hD _,upd_same,rfl,EU _⟩ (fun i ys H' hi h=>⟨aj.of (h.1 _ _ el),?_⟩) (fun i x ys H' R R0 hx h r r0=>?_) (fun ys H' h=>?_)⟩
   ·rw [h.2.2.1]
    simp
    lia
   ·obtain ⟨sm,hy,ey,hi⟩:=h
    obtain ⟨pp,tt,hpp,rfl,htt⟩:=pr.get hx
    have hlt:i < ps.length:=(EC.mp hpp).1
    refine ⟨tt,_,rfl,bb.of (sm _ _ htt),rfl,_,_,rfl,_,_,rfl,rfl,(Ext.set rfl).trans (Ext.set rfl),fg (bg ⟨_,rfl,_,rfl,_,_,rfl,rfl,?_⟩)⟩
    refine r _ _ hy ⟨sm.upd hD _,upd_same,?_,hlt⟩
    rw [E3,hpp,ED,ED,<- ey]
    rfl
   ·obtain ⟨sm,hy,ey,hi⟩:=h
    rw [EL (by lia)] at ey
    have ha:(((ps.map fun p=>decide (p.1 < p.2)).map V.bl).length)=ps.length:=by simp
    rw [ey] at hy
    refine ⟨D,_,rfl,aj.of hy,_,rfl,?_⟩
    have e2:((ps.map fun p=>decide (p.1 < p.2)).all id)=ps.all fun p=>decide (p.1 < p.2):=by rw [KM]; rfl
    rw [e2]
    cases hA:ps.all fun p=>decide (p.1 < p.2) with
    | false =>
     rw [hA,GY] at q
     exact bH (q _ (s13.trans sm))
    | true =>
     rw [hA,GI] at q
     exact bg ⟨_,rfl,l,ps,rfl,fG.same sm,_,rfl,q _ (s13.trans sm)⟩
  ·rw [rf hp hs hE e] at q
   rw [decide_eq_false e]
   exact bg (q _ s13)
theorem Bd (aL:Al P w K mg base ca er 21) (F:Fg K mg ca 21 "neighbours" rF):D P w K mg base ca er 21:=by
 refine eB F (fun _ _ _ _ _ _=>eO fun _=>rfl) (F.F.ok Ae (fun vs H Q E h=>?_) (fun cZ AZ oZ sZ H vs Q E hr h=>?_))
 ·obtain ⟨l,H0,rs,rfl,hl,hz,hz2,q⟩:=h
  rfl
 obtain ⟨l,H0,rs,rfl,hl,hz,hz2,q⟩:=h
 refine ⟨_,ah (au (aF (aL.g 18) hr (aa (bG rfl (aN (pv 0)) rfl rfl rfl rfl (N:=["room"]) (.own .nil) (fun _ _ _ _ _ _=>(az (i:=0) (by show FM (["room"]:List Str); decide +kernel) rfl (Fs rfl))) (fun _ _ _ _ _ _=>bI) (fun _ _ _ _ _ _=>(yt (K:=K) rfl rfl rfl CA.dZ rfl CA.Cm (aa (pv 0) (aa (df (wK (K:=K) rfl) (pv 0) (dC ag) eH) af))))) af))),?_⟩
 obtain ⟨xs,el,lxs⟩:=hl.len
 refine ⟨_,rfl,l,rfl,⟨_,aj.of el⟩,fun D hD=>bM (xs:=xs) (fun k ys H'=>∃ (bs:List EK) (xss:List (List V)),ae H H'/\H' D=some (.lst ys)/\ys=bs.map V.ref/\cT H' bs xss/\(∀ b∈bs,b≠D)/\bu H' xss.flatten (eG (rs.take k))/\k<=rs.length/\bs.length=k) (sz (by lia)) ⟨[],[],ae.new (ae.refl H) hD _,upd_same,rfl,.nil,fun b hb=>absurd hb (by simp),.nil,EU _,rfl⟩ (fun k ys H' hk h=>?_) (fun k v ys H' R R0 hx h r r0=>?_) (fun ys H' h=>?_)⟩
 ·obtain ⟨bs,xss,sm,_,rfl,_,_,_,_,lb⟩:=h
  exact ⟨aj.of (sm _ _ el),by rw [Do]; lia⟩
 ·obtain ⟨bs,xss,sm,hy,rfl,rws,nD,pr,hk,lb⟩:=h
  obtain ⟨b,ns,rfl,hn,hb,_⟩:=hl.at el hx
  have hlt:k < rs.length:=(EC.mp hn).1
  have hb2:=sm _ _ hb
  have ln:ns.length<=rs.flatten.length:=len_one rs ns (ES hn)
  refine ⟨Ext.set rfl,fg (bg ⟨_,rfl,_,rfl,_,rfl,b,_,rfl,aj.of hb2,fun ps hps=>?_⟩)⟩
  have s3:=ae.new (ae.refl H') hps (.lst (c6 (ns.map V.int) (some 1) none))
  have e1:c6 (ns.map V.int) (some 1) none=(ns.drop 1).map V.int:=by rw [oG,tV]
  refine ⟨b,ps,ns,ns.drop 1,rfl,aj.of (s3 _ _ hb2),aj.of (by rw [upd_same,e1]),by lia,fun pz H3 s4 f4 h4=>?_⟩
  have s5:=s3.trans s4
  obtain ⟨zs,ez,lz,pz4⟩:=h4.len
  have hy5:=s5 _ _ hy
  have nz:pz≠D:=fun z=>by
   rw [z] at f4
   rw [s3 _ _ hy] at f4
   cases f4
  refine r _ _ hy5 ⟨bs++[pz],xss++[zs],(sm.trans s5).upd hD _,upd_same,by rw [ED]; rfl,?_,?_,?_,hlt,by rw [EA]; show bs.length+1=k+1; lia⟩
  ·have up:∀ {c:EK} {ws:List V},c≠D->H3 c=some (.lst ws)->upd H3 D (.lst (bs.map V.ref++[.ref pz])) c=some (.lst ws):=fun n e=>(upd_ne n).trans e
   have go:∀ {bs:List EK} {xss:List (List V)},cT H' bs xss->(∀ b∈bs,b≠D)->cT (upd H3 D (.lst (bs.map V.ref++[.ref pz]))) bs xss->True:=fun _ _ _=>trivial
   have rws5:=rws.same s5
   have g:∀ {cs:List EK} {wss:List (List V)},cT H3 cs wss->(∀ c∈cs,c≠D)->cT (upd H3 D (.lst (bs.map V.ref++[.ref pz]))) (cs++[pz]) (wss++[zs]):=by
    intro cs wss h hc
    induction h with
    | nil=>exact .cons (up nz ez) .nil
    | cons x _ ih=>exact .cons (up (hc _ (by simp)) x) (ih fun c hc'=>hc c (by simp [hc']))
   exact g rws5 nD
  ·intro c hc
   rcases EN.mp hc with z | z
   ·exact nD c z
   ·rw [show c=pz by simpa using z]; exact nz
  ·have e2:eG (rs.take (k+1))=eG (rs.take k)++ns.zip (ns.drop 1):=by
    unfold eG
    rw [E3,hn,ED,GJ]
    simp
   rw [e2,GJ]
   have p1:=(pr.same s5).app pz4
   rw [show ([zs]:List (List V)).flatten=zs by simp]
   exact p1.updL hy5 _
 ·obtain ⟨bs,xss,sm,hy,rfl,rws,nD,pr,hk,lb⟩:=h
  rw [EL (by lia)] at pr
  have lf:(eG rs).length<=rs.flatten.length:=by
   unfold eG
   rw [List.length_flatten,List.length_flatten,FG]
   have go:∀ rs:List (List Int),(rs.map (List.length ∘ fun r=>r.zip (r.drop 1))).sum<=(rs.map List.length).sum:=fun rs=>by
    induction rs with
    | nil=>exact EF _
    | cons r rs ih =>
     rw [E2,E2,Iy,Iy]
     have:(r.zip (r.drop 1)).length<=r.length:=by rw [List.length_zip]; exact Nat.min_le_left _ _
     show (r.zip (r.drop 1)).length+_<=_
     lia
   exact go rs
  refine ⟨D,rfl,.inr ⟨bs,xss,hy,rws,by rw [pr.length]; lia,fun pf H3 s3 f3 h3=>q pf H3 (sm.trans s3) (sm.free f3) ⟨_,h3,pr.same s3⟩⟩⟩
theorem yT (aL:Al P w K mg base ca er 22) (F:cM K ca 22 "is_one" "Rooms.is_one" qL):D P w K mg base ca er 22:=by
 refine de F (fun _ _ _ _ _ _=>eX fun _ _=>rfl) (F.ok A7 (fun vs H Q E h=>?_) (fun cZ AZ oZ sZ H vs Q E hr h=>?_))
 ·obtain ⟨x,v,b,rfl,th,q⟩:=h
  rfl
 obtain ⟨x,v,b,rfl,th,q⟩:=h
 refine ⟨_,ai (aO (PW.pt (mU (aA (zY (e8 hr)) (ba af) (pv 1) (by rfl)) (ku (fK (cz (aF (aL.g 17) hr (aa (aF (aL.g 18) hr (aa (pv 1) af)) af))))))) (ah (au cj)) aI)
  (ah (au (gi (fh (AL (e8 hr)) (pv 1) (aH (i5 (e8 hr)) rfl CA.dR dc (aa (bG rfl (aN (pv 1)) rfl rfl rfl rfl (N:=["room"]) (.own .nil) (fun _ _ _ _ _ _=>(az (i:=0) (by show FM (["room"]:List Str); decide +kernel) rfl (Fs rfl))) (fun _ _ _ _ _ _=>bI) (fun _ _ _ _ _ _=>(aH (oR (K:=K) rfl) rfl CA.dR dc (aa (pv 0) af)))) af)) (aC _)) (iQ (nA (aF (aL.g 19) hr (aa (aF (aL.g 21) hr (aa (pv 1) af)) af))))))),?_⟩
 obtain ⟨l,H0,rs,rfl,hl,hz,hz2,hz1,rfl⟩:=th
 refine ⟨EU _,fun pe hpe=>?_⟩
 have s1:=ae.new (ae.refl H) hpe (.lst [])
 have eK:=hl.same s1
 have he1:upd H pe (.lst []) pe=some (.lst []):=upd_same
 generalize upd H pe (.lst [])=H1 at s1 eK he1 |-
 refine ⟨_,rfl,pe,l,H0,rs,rfl,rfl,he1,eK,_,rfl,?_⟩
 cases hv:rs.any fun r=>decide (r=[]) with
 | true =>
  obtain ⟨r,hr,e⟩:=Hs.mp hv
  rw [wy ⟨r,hr,of_decide_eq_true e⟩] at q
  exact bg (bg (q _ s1))
 | false =>
  have hne:∀ r∈rs,r≠[]:=fun r hr e=>by
   have:=Je.mp hv r hr
   exact this (decide_eq_true e)
  obtain ⟨bs,el,rws⟩:=eK.rws
  refine bH ⟨_,rfl,l,rfl,.inr ⟨bs,_,el,rws,by rw [nr,Do]; lia,fun pf H2 s2 f2 h2=>?_⟩⟩
  rw [nr] at h2
  refine ⟨pf,rs.flatten,rfl,h2,hz2,fun H3 s3=>⟨_,rfl,?_⟩⟩
  have s13:=s1.trans (s2.trans s3)
  have fG:=hl.same s13
  cases hE:bW rs.flatten with
  | false =>
   rw [vw hE] at q
   exact bg (q _ s13)
  | true =>
   rw [ni hne hE] at q
   obtain ⟨xs,ex,lxs⟩:=fG.len
   refine bH ⟨_,rfl,_,rfl,l,rfl,⟨_,aj.of ex⟩,fun D hD=>bM (xs:=xs) (fun k ys H'=>∃ ts:List (List Int),ae H3 H'/\H' D=some (.lst ys)/\aM H3 H' D ts/\IB (fun (r t:List Int)=>t.Perm r/\t.Pairwise (·<=·)) (rs.take k) ts/\k<=rs.length) (sz (by lia)) ⟨[],ae.new (ae.refl H3) hD _,upd_same,aM.nil upd_same,.nil,EU _⟩ (fun k ys H' hk h=>?_) (fun k v ys H' R R0 hx h r r0=>?_) (fun ys H' h=>?_)⟩
   ·obtain ⟨ts,sm,hy,lt,pt,hk'⟩:=h
    obtain ⟨us,eu,lu⟩:=lt.len
    rw [hy] at eu
    cases eu
    refine ⟨aj.of (sm _ _ ex),?_⟩
    rw [lu,<- Iw pt,E5]
    lia
   ·obtain ⟨ts,sm,hy,lt,pt,hk'⟩:=h
    obtain ⟨b,ns,rfl,hn,hb,_⟩:=fG.at ex hx
    have hlt:k < rs.length:=(EC.mp hn).1
    refine ⟨Ext.set rfl,fg (bg ⟨_,rfl,b,ns,rfl,aj.of (sm _ _ hb),hz1 ns (ES hn),fun c ms hc hp hs=>?_⟩)⟩
    have k9:=ae.new (ae.refl H') hc (.lst (ms.map V.int))
    refine r _ _ (k9 _ _ hy) ⟨ts++[ms],(sm.trans k9).upd hD _,upd_same,lt.push hy k9 hc upd_same (sm.free hc),?_,hlt⟩
    rw [E3,hn]
    exact kH pt (.cons ⟨hp,hs⟩ .nil)
   ·obtain ⟨ts,sm,hy,lt,pt,hk'⟩:=h
    rw [EL (by lia)] at pt
    have ltl:=Iw pt
    refine ⟨D,_,ts,rfl,lt,by lia,fun pq ss H5 s5 f5 l5 hp hs _=>?_⟩
    have s15:=s13.trans (sm.trans s5)
    have hl5:=hl.same s15
    have ne:l≠pq:=by
     obtain ⟨_,e,_⟩:=fG.same sm
     exact aq e f5
    refine ⟨2,_,by decide,aW.rooms hl5 l5 ne,⟨l,pq,rfl,rfl,ne⟩,_,rfl,?_⟩
    rw [wX pt hp hs hne hE]
    cases hR:oM rs with
    | false =>
     rw [hR,GY] at q
     exact bH (q _ s15)
    | true =>
     rw [hR,GI] at q
     exact bg ⟨_,rfl,l,H0,rs,rfl,hl5,by lia,by lia,fun pn H6 s6 f6 h6=>⟨pn,eG rs,rfl,h6,_,rfl,q _ (s15.trans s6)⟩⟩
theorem BI (aL:Al P w K mg base ca er 23) (F:Fg K mg ca 23 "may_be_cut" rR):D P w K mg base ca er 23:=by
 refine eB F (fun _ _ _ _ _ _=>gv fun _ _ _=>rfl) (F.F.ok AB (fun vs H Q E h=>?_) (fun cZ AZ oZ sZ H vs Q E hr h=>?_))
 ·obtain ⟨c,a,b,rfl,q⟩:=h
  rfl
 obtain ⟨c,a,b,rfl,q⟩:=h
 refine ⟨_,ah (au (gi (vh rZ eU ag (pv 1) (ao bh (pv 2) ag)) (gi (fh eU (pv 2) (pv 0) (aC _)) (iQ (fh (iT (e8 hr)) (aP (aa (pv 1) (aa (pv 2) af))) (aP (aa ag (aa (ao bh (pv 0) ag) af))) (aC _)))))),?_⟩
 unfold gI at q
 dsimp only at q
 refine ⟨_,rfl,_,_,rfl,rfl,_,rfl,?_⟩
 by_cases c1:0<=a
 ·rw [decide_eq_true c1,GI] at q
  refine bB c1 ⟨_,rfl,_,_,rfl,rfl,_,_,rfl,rfl,_,rfl,?_⟩
  by_cases c2:a < b - 1
  ·rw [decide_eq_true c2,GI] at q
   refine bB c2 ⟨_,rfl,_,rfl,_,_,rfl,rfl,_,rfl,?_⟩
   by_cases c3:b < c
   ·rw [decide_eq_true c3,GI] at q
    refine bB c3 ⟨_,rfl,_,rfl,(by show 2<=sizeLine; decide),fun t1 ht1=>⟨_,rfl,_,_,rfl,rfl,(by show 2<=sizeLine; decide),fun t2 ht2=>?_⟩⟩
    have n12:t1≠t2:=aq upd_same ht2
    have h1:=(upd_ne (o:=.tup [.int 0,.int (c - 1)]) n12).trans (upd_same (H:=H) (a:=t1) (o:=.tup [.int a,.int b]))
    have s2:=ae.new (ae.new (ae.refl H) ht1 (.tup [.int a,.int b])) ht2 (.tup [.int 0,.int (c - 1)])
    exact ⟨1,_,by decide,aW.two n12 h1 upd_same,⟨t1,t2,rfl,rfl,n12⟩,q _ s2⟩
   ·rw [decide_eq_false c3] at q
    exact aX c3 (q H (ae.refl H))
  ·rw [decide_eq_false c2,GY] at q
   exact aX c2 (q H (ae.refl H))
 ·rw [decide_eq_false c1,GY] at q
  exact aX c1 ⟨_,rfl,bH (q H (ae.refl H))⟩
theorem Bz (aL:Al P w K mg base ca er 24) (F:cM K ca 24 "is_one" "Floors.is_one" sv):D P w K mg base ca er 24:=by
 refine de F (fun _ _ _ _ _ _=>eX fun _ _=>rfl) (F.ok oo (fun vs H Q E h=>?_) (fun cZ AZ oZ sZ H vs Q E hr h=>?_))
 ·obtain ⟨x,v,b,rfl,th,q⟩:=h
  rfl
 obtain ⟨x,v,b,rfl,th,q⟩:=h
 refine ⟨_,ai (aD (i:=2) oo.nd rfl (Ly rfl) (aK bJ (pv 1) ag (fun _ _=>rfl)))
  (ai (aD (i:=3) oo.nd rfl (Fs rfl) (aK bJ (pv 1) ag (fun _ _=>rfl)))
  (ai (aO (PW.pt (mU (aA eU (pv 2) ag (aC _)) (ku (aA sF (aH bw rfl CA.eE dj (aa (pv 3) af)) (aH (mz rfl) rfl CA.rC m5 (aa ag (aa (ao bh (pv 2) ag) af))) (aC _))))) (ah (au cj)) aI)
  (ai (aO (PW.pt (mU (aA (iT (e8 hr)) (pv 3) (pj rfl (e8 hr) rfl CA.dR rfl CA.CJ (aa (pv 3) af)) (aC _)) (ku (cz (aF (aL.g 19) hr (aa (pv 3) af)))))) (ah (au cj)) aI)
  (ah (au (aH (n8 rfl) rfl CA.xa ub (aa (bG rfl (aN (pv 3)) rfl rfl rfl rfl (N:=["a","b","corners"]) (.own (.own (.cap (j:=2) rfl rfl rfl .nil))) (fun _ _ _ _ _ _=>(gc (K:=K) (n:=2) rfl rfl (aV (az (i:=0) (by show FM (["a","b","corners"]:List Str); decide +kernel) rfl (Fs rfl)) (aV (az (i:=1) (by show FM (["a","b","corners"]:List Str); decide +kernel) rfl (Fs rfl)) cW)))) (fun _ _ _ _ _ _=>bI) (fun _ _ _ _ _ _=>(aF (aL.g 23) hr (aa (pv 2) (aa (pv 0) (aa (pv 1) af)))))) af))))))),?_⟩
 obtain ⟨t,l,c,ps,rfl,ht,hl,h60,rfl⟩:=th
 obtain ⟨xs,el,lxs,pr⟩:=hl.len
 have nolen:gq c ps.length=false->Q (.bl false) H:=fun z=>by
  have:=q H (ae.refl H)
  rw [BV z] at this
  exact this
 refine ⟨_,rfl,t,_,_,_,rfl,rfl,bb.of ht,rfl,_,rfl,t,_,_,_,rfl,rfl,bb.of ht,rfl,?_⟩
 refine ⟨_,rfl,_,_,rfl,rfl,_,rfl,?_⟩
 by_cases c1:c < 2
 ·exact bB c1 (bg (nolen (by unfold gq; rw [decide_eq_false (by lia),GY])))
 refine aX c1 ⟨_,rfl,l,_,rfl,.inl (aj.of el),_,rfl,_,_,rfl,rfl,_,_,rfl,rfl,_,rfl,?_⟩
 by_cases c2:((xs.length:Nat):Int)=if c - 3 > 0 then c - 3 else 0
 case neg =>
  refine xg (ne_int c2) (nolen ?_)
  unfold gq
  rw [decide_eq_false (show ¬ ((ps.length:Nat):Int)=_ by rw [<- lxs]; exact c2),ID]
 have lb:gq c ps.length=true:=by
  unfold gq
  rw [EW,decide_eq_true_iff,decide_eq_true_iff]
  exact ⟨by lia,by rw [<- lxs]; exact c2⟩
 refine qN (congrArg V.int c2) ⟨_,rfl,_,rfl,l,ps,rfl,hl,by lia,fun pq qs H1 s1 f1 h1 nd mm rs=>?_⟩
 have eK:=hl.same s1
 have ne:l≠pq:=aq el f1
 refine ⟨2,_,by decide,aW.prs ne eK h1,⟨l,pq,rfl,rfl,ne⟩,_,rfl,?_⟩
 by_cases e:ps=qs
 case neg =>
  rw [xV nd mm rs e] at q
  rw [decide_eq_false e]
  exact bg (bg (q _ s1))
 rw [decide_eq_true e]
 subst e
 rw [m8 nd rs lb] at q
 refine bH ⟨_,rfl,l,ps,rfl,eK,_,rfl,?_⟩
 cases hc:cf ps with
 | true =>
  rw [hc,G1,GY] at q
  exact bg (q _ s1)
 | false =>
  rw [hc,J1,GI] at q
  refine bH ⟨_,rfl,l,rfl,⟨_,aj.of (s1 _ _ el)⟩,fun D hD=>bM (xs:=xs) (fun i ys H'=>ae H1 H'/\H' D=some (.lst ys)/\ys=((ps.take i).map fun p=>gI c p).map V.bl/\i<=ps.length) (sz (by lia)) ⟨ae.new (ae.refl H1) hD _,upd_same,rfl,EU _⟩ (fun i ys H' hi h=>⟨aj.of (h.1 _ _ (s1 _ _ el)),?_⟩) (fun i y ys H' R R0 hx h r r0=>?_) (fun ys H' h=>?_)⟩
  ·rw [h.2.2.1,Do,Do,E5]
   lia
  ·obtain ⟨sm,hy,ey,hi⟩:=h
   obtain ⟨pp,tt,hpp,rfl,htt⟩:=(pr.same s1).get hx
   have hlt:i < ps.length:=(EC.mp hpp).1
   refine ⟨tt,_,rfl,bb.of (sm _ _ htt),rfl,_,_,rfl,_,_,rfl,rfl,(Ext.set rfl).trans (Ext.set rfl),fg (bg ?_)⟩
   refine ⟨_,rfl,_,rfl,_,rfl,c,pp.1,pp.2,rfl,fun H3 s3=>r _ _ (s3 _ _ hy) ⟨(sm.trans s3).upd hD _,upd_same,?_,hlt⟩⟩
   rw [E3,hpp,ED,ED,<- ey]
   rfl
  ·obtain ⟨sm,hy,ey,hi⟩:=h
   rw [EL (by lia)] at ey
   rw [ey] at hy
   refine ⟨D,_,rfl,aj.of hy,?_⟩
   have e2:((ps.map fun p=>gI c p).all id)=ps.all (gI c):=by rw [KM]; rfl
   rw [e2]
   exact q _ (s1.trans sm)
theorem Cj (aL:Al P w K mg base ca er 25) (F:Fg K mg ca 25 "comes_off_a_stack" vQ):D P w K mg base ca er 25:=by
 refine eB F (fun _ _ _ _ _ _=>eO fun _=>rfl) (F.F.ok kG (fun vs H Q E h=>?_) (fun cZ AZ oZ sZ H vs Q E hr h=>?_))
 ·obtain ⟨l,row,rfl,hl,h64,hB,q⟩:=h
  rfl
 obtain ⟨l,row,rfl,hl,h64,hB,q⟩:=h
 refine ⟨_,ai (aD (i:=1) kG.nd rfl (Fs rfl) (ba af))
  (ai (aD (i:=2) kG.nd rfl (Fs rfl) ag)
  (ai (b7 FC rfl (aN (pv 0)) (az (i:=3) kG.nd rfl (Fs rfl)) (ai (nk FC (aA rZ (pv 2) (pv 3) (aC _)) (ai (aZ (cC E8 Fo Fp bz (pv 1) (aa (pv 2) af)))
  (ah (Ap (i:=2) kG.nd rfl (Fs rfl) ag zr))))
  (ah (aO (aA sF (z9 E8 PySem.F.slot_list_pop PySem.F.type_list_pop Bm (pv 1)) (pv 3) (aC _)) (ah (au cj)) aI))))
  (ah (au cj)))),?_⟩
 have hperm:=(cn row).mp hB
 have lm:(row.map V.int).length=row.length:=Do _
 refine ⟨EU _,fun ps hps=>?_⟩
 have s1:=ae.new (ae.refl H) hps (.lst [])
 have hs1:upd H ps (.lst []) ps=some (.lst ((stk row 0 0).map V.int)):=upd_same
 generalize upd H ps (.lst [])=H1 at s1 hs1 |-
 refine ⟨_,rfl,l,rfl,⟨_,aj.of (s1 _ _ hl)⟩,bQ (xs:=row.map V.int) (fun i σ H'=>∃ (o1:Option V) (p:Nat),σ=[some (.ref l),some (.ref ps),some (.int p),o1]/\ae H H'/\H' ps=some (.lst ((stk row i p).map V.int))/\Off row i p/\p<=100) ⟨_,0,rfl,s1,hs1,Off.start row,by lia⟩ (fun i σ H' _ h=>aj.of (h.choose_spec.choose_spec.2.1 _ _ hl)) ?_ ?_⟩
 ·rintro i v σ H2 hv ⟨o1,p,rfl,sm,hst,off,p100⟩
  obtain ⟨x,rfl⟩:=cX hv
  have hx:row[i]? = some x:=by
   rw [FD] at hv
   cases h:row[i]? with
   | none=>rw [h] at hv; cases hv
   | some d=>rw [h] at hv; injection hv with hv; injection hv with hv; rw [hv]
  have hi:i < row.length:=(EC.mp hx).1
  have xr:=gf.mp (hperm.mem_iff.mp (ES hx))
  refine ⟨fun m σ H'=>∃ (d:Nat),σ=[some (.ref l),some (.ref ps),some (.int ((p+d:Nat):Int)),some (.int x)]/\ae H H'/\H' ps=some (.lst ((stk row i (p+d)).map V.int))/\m=(x+1 - (p:Int) - (d:Int)).toNat/\(d=0\/((p+d:Nat):Int)<=x+1),⟨_,0,rfl,sm,hst,rfl,.inl rfl⟩,?_⟩
  rintro m σ H3 ⟨d,rfl,sm3,hst3,hm,hd⟩
  have lst:∀ k p:Nat,((stk row k p).map V.int).length<=p:=fun k p=>by
   rw [Do]
   unfold stk
   exact FN (FA _ _) (by rw [lN]; exact EF _)
  refine ⟨_,rfl,_,rfl,_,_,rfl,rfl,_,rfl,?_⟩
  by_cases hle:((p+d:Nat):Int)<=x
  ·refine bB hle ⟨fun σ' H'=>σ'=[some (.ref l),some (.ref ps),some (.int ((p+d:Nat)+1:Int)),some (.int x)]/\ae H H'/\H' ps=some (.lst ((stk row i (p+d+1)).map V.int)),?_,?_⟩
   ·rintro σ' H' ⟨rfl,a1,a2⟩
    exact ⟨(x+1 - (p:Int) - ((d+1:Nat):Int)).toNat,by lia,d+1,by rw [show ((p+d:Nat):Int)+1=((p+(d+1):Nat):Int) by lia],a1,a2,rfl,.inr (by lia)⟩
   ·have hn:((p+d:Nat):Int)∉row.take i:=fun z=>by have:=off.below _ z; lia
    have:=lst i (p+d)
    refine ⟨_,rfl,.inl ⟨rfl,_,aj.of hst3⟩,_,rfl,ps,_,_,rfl,rfl,hst3,gk (by lia),?_⟩
    refine ⟨_,rfl,_,_,rfl,rfl,rfl,sm3.upd hps _,?_⟩
    rw [upd_same,wm hn,ED]
    rfl
  ·have hp':(((p+d:Nat):Nat):Int)=if (p:Int)<=x then x+1 else (p:Int):=by
    split<;>lia
   obtain ⟨l0,t,el,good,bad⟩:=off.step hperm hx hp'
   have lt:=lst i (p+d)
   rw [el] at hst3 lt
   have hlast:((l0++[t]).map V.int)[((l0++[t]).map V.int).length - 1]? = some (.int t):=by
    rw [Do,EA,ED]
    show (l0.map V.int++[V.int t])[l0.length+1 - 1]? = _
    rw [GS,Gc (by simp)]
    simp
   have hdl:((l0++[t]).map V.int).dropLast=l0.map V.int:=by rw [ED]; exact List.dropLast_concat
   refine aX hle ⟨_,rfl,.inl ⟨rfl,_,aj.of hst3⟩,ps,_,_,rfl,rfl,hst3,hlast,?_⟩
   rw [hdl]
   refine ⟨_,rfl,rfl,_,rfl,?_⟩
   by_cases e:t=x
   ·obtain ⟨g1,g2⟩:=good e
    refine qN (by rw [e]) ⟨_,p+d,rfl,sm3.upd hps _,by rw [upd_same,g1],g2,by lia⟩
   ·refine xg (ne_int e) ?_
    have:=qG hi (bad e)
    rw [this] at q
    exact q _ (sm3.upd hps _)
 ·rintro σ H2 ⟨o1,p,rfl,sm,hst,off,_⟩
  have:jY row=true:=mw fun k hk=>off.fine k (by rw [lm]; exact hk)
  rw [this] at q
  exact q _ sm
theorem A1 (aL:Al P w K mg base ca er 26) (F:cM K ca 26 "is_one" "Turns.is_one" rn):D P w K mg base ca er 26:=by
 refine de F (fun _ _ _ _ _ _=>eX fun _ _=>rfl) (F.ok Aj (fun vs H Q E h=>?_) (fun cZ AZ oZ sZ H vs Q E hr h=>?_))
 ·obtain ⟨x,v,b,rfl,th,q⟩:=h
  rfl
 obtain ⟨x,v,b,rfl,th,q⟩:=h
 refine ⟨_,ah (au (gi (aF (aL.g 17) hr (aa (pv 1) af)) (iQ (aF (aL.g 25) hr (aa (pv 1) af))))),?_⟩
 obtain ⟨l,ns,rfl,hl,h64,rfl⟩:=th
 refine ⟨_,rfl,l,ns,rfl,hl,by lia,fun H1 s1=>⟨_,rfl,?_⟩⟩
 unfold eZ at q
 cases hB:bW ns with
 | false =>
  rw [hB,GY] at q
  exact bH (q _ s1)
 | true =>
  rw [hB,GI] at q
  exact bg ⟨_,rfl,l,ns,rfl,s1 _ _ hl,h64,hB,fun H2 s2=>q _ (s1.trans s2)⟩
theorem Ce (aL:Al P w K mg base ca er 28) (F:cM K ca 28 "refuse_other" "Family.refuse_other" v8):D P w K mg base ca er 28:=by
 refine D0 F (fun _ _ _ _ _ _=>eX fun _ _=>rfl) (F.okE CT (fun vs H Q E h=>?_) (fun cZ AZ oZ sZ H vs Q E hr h=>?_))
 ·obtain ⟨fw,hf,x,dx,fs,wd,v,b,rfl,hx,fl,th,q,q'⟩:=h
  rfl
 obtain ⟨fw,hf,x,dx,fs,wd,v,b,rfl,hx,fl,th,q,q'⟩:=h
 refine ⟨_,ah (aO (fK (cz (xq (pv 0) CA.c4 CA.mt4_is_one (aL.g 27) hr (aa (pv 1) af)))) (ah (wx qf EO.x_thing rfl EO.m_thing (aa iV af))) aI),?_⟩
 cases b
 ·exact ⟨fw,hf,_,rfl,x,dx,fs,rfl,hx,fl.no "is_one" (by decide) (by decide),_,rfl,x,v,false,rfl,th,fun H1 s1=>⟨_,rfl,bg ⟨sz (n:=1) (by decide),q' rfl H1 s1⟩⟩⟩
 ·exact ⟨fw,hf,_,rfl,x,dx,fs,rfl,hx,fl.no "is_one" (by decide) (by decide),_,rfl,x,v,true,rfl,th,fun H1 s1=>⟨_,rfl,bH (q rfl H1 s1)⟩⟩
theorem AG (aL:Al P w K mg base ca er 29) (F:cM K ca 29 "size_of" "Bows.size_of" sd):D P w K mg base ca er 29:=by
 refine de F (fun _ _ _ _ _ _=>eX fun _ _=>rfl) (F.ok zg (fun vs H Q E h=>?_) (fun cZ AZ oZ sZ H vs Q E hr h=>?_))
 ·obtain ⟨x,v,bt,rfl,th,h40,q⟩:=h
  rfl
 obtain ⟨x,v,bt,rfl,th,h40,q⟩:=h
 refine ⟨_,ah (au (aH bw rfl CA.eE dj (aa (pv 1) af))),?_⟩
 obtain ⟨_,l,rfl,_,hl⟩:=th
 obtain ⟨xs,el,lxs,pr⟩:=hl.len
 rw [cu] at lxs
 refine ⟨_,rfl,l,_,rfl,.inl (aj.of el),?_⟩
 rw [lxs]
 exact q _ (ae.refl H)
theorem AU (aL:Al P w K mg base ca er 30) (F:cM K ca 30 "size_of" "Rooms.size_of" rX):D P w K mg base ca er 30:=by
 refine de F (fun _ _ _ _ _ _=>eX fun _ _=>rfl) (F.ok Bp (fun vs H Q E h=>?_) (fun cZ AZ oZ sZ H vs Q E hr h=>?_))
 ·obtain ⟨x,v,bt,rfl,th,h40,q⟩:=h
  rfl
 obtain ⟨x,v,bt,rfl,th,h40,q⟩:=h
 refine ⟨_,ah (au (aH (v9 rfl) rfl CA.Cy zo (aa (bG rfl (aN (pv 1)) rfl rfl rfl rfl (N:=["room"]) (.own .nil) (fun _ _ _ _ _ _=>(az (i:=0) (by show FM (["room"]:List Str); decide +kernel) rfl (Fs rfl))) (fun _ _ _ _ _ _=>bI) (fun _ _ _ _ _ _=>(aH (mL (K:=K) rfl) rfl CA.eE dj (aa (pv 0) af)))) af))),?_⟩
 obtain ⟨Ha,l,rfl,_,hl⟩:=th
 have rm:=cU bt
 have hi:bt.size<=1000:=by lia
 generalize cO bt=ls at hl rm
 generalize bt.size=i at rm hi q
 obtain ⟨xs,el,lxs⟩:=hl.len
 have ln:=rm.lens
 refine ⟨_,rfl,l,rfl,⟨_,aj.of el⟩,fun D hD=>bM (xs:=xs) (fun k ys H'=>ae H H'/\H' D=some (.lst ys)/\ys=((ls.take k).map fun r=>(r.length:Int)).map V.int/\k<=ls.length) (sz (by lia)) ⟨ae.new (ae.refl H) hD _,upd_same,rfl,EU _⟩ (fun k ys H' hk h=>⟨aj.of (h.1 _ _ el),?_⟩) (fun k v ys H' R R0 hx h r r0=>?_) (fun ys H' h=>?_)⟩
 ·rw [h.2.2.1,Do,Do,E5]; lia
 ·obtain ⟨sm,hy,ey,hk⟩:=h
  obtain ⟨b,ns,rfl,hn,hb,_⟩:=hl.at el hx
  have hlt:k < ls.length:=(EC.mp hn).1
  refine ⟨Ext.set rfl,fg (bg ⟨_,rfl,b,_,rfl,.inl (aj.of (sm _ _ hb)),r _ _ hy ⟨sm.upd hD _,upd_same,?_,hlt⟩⟩)⟩
  rw [E3,hn,ED,ED,<- ey,Do]
  rfl
 ·obtain ⟨sm,hy,ey,hk⟩:=h
  rw [EL (by lia)] at ey
  rw [ey] at hy
  refine ⟨D,_,rfl,aj.of hy,?_⟩
  rw [rm.size]
  exact q _ sm
theorem Cz (aL:Al P w K mg base ca er 31) (F:cM K ca 31 "size_of" "Floors.size_of" wF):D P w K mg base ca er 31:=by
 refine de F (fun _ _ _ _ _ _=>eX fun _ _=>rfl) (F.ok CK (fun vs H Q E h=>?_) (fun cZ AZ oZ sZ H vs Q E hr h=>?_))
 ·obtain ⟨x,v,bt,rfl,th,h40,q⟩:=h
  rfl
 obtain ⟨x,v,bt,rfl,th,h40,q⟩:=h
 refine ⟨_,ah (au (ao bh (aK bJ (pv 1) ag (fun _ _=>rfl)) ag)),?_⟩
 obtain ⟨_,t0,l,cs,rfl,_,ht,_⟩:=th
 refine ⟨_,rfl,t0,_,_,_,rfl,rfl,bb.of ht,rfl,_,_,rfl,rfl,?_⟩
 try dsimp only
 rw [show (bt.size:Int)+2 - 2=(bt.size:Int) by lia]
 exact q _ (ae.refl H)
theorem AN (aL:Al P w K mg base ca er 32) (F:cM K ca 32 "size_of" "Turns.size_of" sH):D P w K mg base ca er 32:=by
 refine de F (fun _ _ _ _ _ _=>eX fun _ _=>rfl) (F.ok BC (fun vs H Q E h=>?_) (fun cZ AZ oZ sZ H vs Q E hr h=>?_))
 ·obtain ⟨x,v,bt,rfl,th,h40,q⟩:=h
  rfl
 obtain ⟨x,v,bt,rfl,th,h40,q⟩:=h
 refine ⟨_,ah (au (aH bw rfl CA.eE dj (aa (pv 1) af))),?_⟩
 obtain ⟨_,p,rfl,_,hp⟩:=th
 refine ⟨_,rfl,p,_,rfl,.inl (aj.of hp),?_⟩
 rw [Do,b8]
 exact q _ (ae.refl H)
theorem Bn (aL:Al P w K mg base ca er 34) (F:cM K ca 34 "bare" "Bows.bare" qS):D P w K mg base ca er 34:=by
 refine de F (fun _ _ _ _ _ _=>eO fun _=>rfl) (F.ok AW (fun vs H Q E h=>?_) (fun cZ AZ oZ sZ H vs Q E hr h=>?_))
 ·obtain ⟨x,rfl,q⟩:=h
  rfl
 obtain ⟨x,rfl,q⟩:=h
 refine ⟨_,ah (au (ba af)),?_⟩
 have q:∀ (p:EK) (H':Hp),ae H H'->H p=none->H' p=some (.lst [])->Q (.ref p) H':=fun p H' s f h=>q _ _ s ⟨p,rfl,f,⟨[],h,.nil⟩⟩
 exact ⟨EU _,fun p hp=>q p _ (ae.new (ae.refl H) hp _) hp upd_same⟩
theorem A3 (aL:Al P w K mg base ca er 35) (F:cM K ca 35 "bare" "Rooms.bare" sJ):D P w K mg base ca er 35:=by
 refine de F (fun _ _ _ _ _ _=>eO fun _=>rfl) (F.ok zH (fun vs H Q E h=>?_) (fun cZ AZ oZ sZ H vs Q E hr h=>?_))
 ·obtain ⟨x,rfl,q⟩:=h
  rfl
 obtain ⟨x,rfl,q⟩:=h
 refine ⟨_,ah (au (ba af)),?_⟩
 have q:∀ (p:EK) (H':Hp),ae H H'->H p=none->H' p=some (.lst [])->Q (.ref p) H':=fun p H' s f h=>q _ _ s ⟨p,rfl,f,aM.nil h⟩
 exact ⟨EU _,fun p hp=>q p _ (ae.new (ae.refl H) hp _) hp upd_same⟩
theorem yM (aL:Al P w K mg base ca er 36) (F:cM K ca 36 "bare" "Floors.bare" sj):D P w K mg base ca er 36:=by
 refine de F (fun _ _ _ _ _ _=>eO fun _=>rfl) (F.ok zR (fun vs H Q E h=>?_) (fun cZ AZ oZ sZ H vs Q E hr h=>?_))
 ·obtain ⟨x,rfl,q⟩:=h
  rfl
 obtain ⟨x,rfl,q⟩:=h
 refine ⟨_,ah (au (aP (aa ag (aa (ba af) af)))),?_⟩
 have q:∀ (t p:EK) (H':Hp),ae H H'->H t=none->H p=none->H' t=some (.tup [.int 2,.ref p])->H' p=some (.lst [])->Q (.ref t) H':=fun t p H' s f f' h h'=>q _ _ s ⟨t,p,[],rfl,f',h,⟨[],h',.nil⟩,.refl _,.nil⟩
 refine ⟨EU _,fun p hp=>⟨(by show 2<=sizeLine; decide),fun t ht=>?_⟩⟩
 have s1:=ae.new (ae.refl H) hp (.lst [])
 have s2:=ae.new s1 ht (.tup [.int 2,.ref p])
 exact q t p _ s2 (s1.free ht) hp upd_same ((upd_ne (aq upd_same ht)).trans upd_same)
theorem Bs (aL:Al P w K mg base ca er 37) (F:cM K ca 37 "bare" "Turns.bare" qZ):D P w K mg base ca er 37:=by
 refine de F (fun _ _ _ _ _ _=>eO fun _=>rfl) (F.ok Aq (fun vs H Q E h=>?_) (fun cZ AZ oZ sZ H vs Q E hr h=>?_))
 ·obtain ⟨x,rfl,q⟩:=h
  rfl
 obtain ⟨x,rfl,q⟩:=h
 refine ⟨_,ah (au (ba af)),?_⟩
 have q:∀ (p:EK) (H':Hp),ae H H'->H p=none->H' p=some (.lst [])->Q (.ref p) H':=fun p H' s f h=>q _ _ s ⟨p,rfl,f,h⟩
 exact ⟨EU _,fun p hp=>q p _ (ae.new (ae.refl H) hp _) hp upd_same⟩
theorem Af (aL:Al P w K mg base ca er 39) (F:Fg K mg ca 39 "pairs_raised_by" qM):D P w K mg base ca er 39:=by
 refine eB F (fun _ _ _ _ _ _=>eX fun _ _=>rfl) (F.F.ok BL (fun vs H Q E h=>?_) (fun cZ AZ oZ sZ H vs Q E hr h=>?_))
 ·obtain ⟨l,ps,d,rfl,hl,hz,q⟩:=h
  rfl
 obtain ⟨l,ps,d,rfl,hl,hz,q⟩:=h
 refine ⟨_,ah (au (bG rfl (aN (pv 0)) rfl rfl rfl rfl (N:=["a","b","step"]) (.own (.own (.cap (j:=1) rfl rfl rfl .nil))) (fun _ _ _ _ _ _=>(gc (K:=K) (n:=2) rfl rfl (aV (az (i:=0) (by show FM (["a","b","step"]:List Str); decide +kernel) rfl (Fs rfl)) (aV (az (i:=1) (by show FM (["a","b","step"]:List Str); decide +kernel) rfl (Fs rfl)) cW)))) (fun _ _ _ _ _ _=>bI) (fun _ _ _ _ _ _=>(aP (aa (ao aB (pv 0) (pv 2)) (aa (ao aB (pv 1) (pv 2)) af)))))),?_⟩
 obtain ⟨xs,el,lxs,pr⟩:=hl.len
 refine ⟨_,rfl,l,rfl,⟨_,aj.of el⟩,fun D hD=>bM (xs:=xs) (fun i ys H'=>ae H H'/\H' D=some (.lst ys)/\bu H' ys ((ps.take i).map (up d))/\i<=ps.length) (sz (by lia)) ⟨ae.new (ae.refl H) hD _,upd_same,.nil,EU _⟩ (fun i ys H' hi h=>⟨aj.of (h.1 _ _ el),?_⟩) (fun i x ys H' R R0 hx h r r0=>?_) (fun ys H' h=>?_)⟩
 ·have:=h.2.2.1.length
  rw [Do,E5] at this
  lia
 ·obtain ⟨sm,hy,py,hi⟩:=h
  obtain ⟨pp,tt,hpp,rfl,htt⟩:=pr.get hx
  have hlt:i < ps.length:=(EC.mp hpp).1
  refine ⟨tt,_,rfl,bb.of (sm _ _ htt),rfl,_,_,rfl,_,_,rfl,rfl,(Ext.set rfl).trans (Ext.set rfl),fg (bg ?_)⟩
  refine ⟨_,rfl,_,rfl,_,_,rfl,rfl,_,rfl,_,rfl,_,_,rfl,rfl,(by show 2<=sizeLine; decide),fun t1 ht1=>?_⟩
  have n1:D≠t1:=aq hy ht1
  have hy1:=(upd_ne (o:=.tup [.int (pp.1+d),.int (pp.2+d)]) n1).trans hy
  refine r _ _ hy1 ⟨(ae.new sm ht1 _).upd hD _,upd_same,?_,hlt⟩
  have:=((py.updN ht1 (.tup [.int (pp.1+d),.int (pp.2+d)])).snoc (t:=t1) (p:=up d pp) upd_same).updL hy1 (.lst (ys++[.ref t1]))
  rw [E3,hpp,ED]
  exact this
 ·obtain ⟨sm,hy,py,hi⟩:=h
  rw [EL (by lia)] at py
  exact q D H' sm hD ⟨ys,hy,py⟩
theorem zS (aL:Al P w K mg base ca er 40) (F:cM K ca 40 "parted" "Bows.parted" sV):D P w K mg base ca er 40:=by
 refine de F (fun _ _ _ _ _ _=>eX fun _ _=>rfl) (F.ok kM (fun vs H Q E h=>?_) (fun cZ AZ oZ sZ H vs Q E hr h=>?_))
 ·obtain ⟨x,v,bl,br,rfl,th,h39,q⟩:=h
  rfl
 obtain ⟨x,v,bl,br,rfl,th,h39,q⟩:=h
 refine ⟨_,ai (aD (i:=2) kM.nd rfl (Fs rfl) (ao gx (aK bJ (aK a9 (pv 1) ag (fun _ _=>rfl)) ag (fun _ _=>rfl)) ag))
  (ai (aD (i:=3) kM.nd rfl (Fs rfl) (aF (aL.g 39) hr (aa (df dY (pv 1) (dC ag) (dC (ao aB (pv 2) ag))) (aa (e7 dJ ag) af))))
  (ai (aD (i:=4) kM.nd rfl (Fs rfl) (aF (aL.g 39) hr (aa (df dY (pv 1) (dC (ao aB (pv 2) ag)) eH) (aa (ao bh (ao cx (e7 dJ ag) (pv 2)) ag) af))))
  (ah (au (aP (aa (pv 3) (aa (pv 4) af))))))),?_⟩
 obtain ⟨_,d,rfl,_,hd⟩:=th
 have hd:aT H d (b6 (cY bl) (cY br)):=hd
 have lps:(cY bl).length<=40:=by rw [cu]; lia
 have lqs:(cY br).length<=40:=by rw [cu]; lia
 have bp:∀ x∈cY bl,x.2 < 2*(cY bl).length:=fun x hx=>((iJ bl).inr x hx).2.2
 have bq:∀ x∈cY br,0<=x.2:=fun x hx=>by have:=(iJ br).inr x hx; unfold xm at this; lia
 have q:∀ (t l r:EK) (H':Hp),ae H H'->H l=none->H r=none->l≠r->H' t=some (.tup [.ref l,.ref r])->aT H' l (cY bl)->aT H' r (cY br)->Q (.ref t) H':=fun t l r H' s f f' _ h pl pr=>q t _ _ H' s h ⟨l,rfl,f,pl⟩ ⟨r,rfl,f',pr⟩
 generalize cY bl=ps at hd lps bp q
 generalize cY br=qs at hd lqs bq q
 obtain ⟨xs,ed,lxs,pr⟩:=hd.len
 have lj:(b6 ps qs).length=ps.length+qs.length+1:=by unfold b6; simp
 obtain ⟨v0,hv0⟩:∃ v,xs[0]? = some v:=⟨_,Da (show 0 < xs.length by lia)⟩
 obtain ⟨p0,t0,hp0,rfl,ht0⟩:=pr.get hv0
 have e0:p0=(0,2*(ps.length:Int)+1):=by unfold b6 at hp0; simpa using hp0.symm
 subst e0
 have at0:bX xs 0=some (.ref t0):=fB (j:=0) hv0
 refine ⟨_,rfl,d,_,_,_,rfl,rfl,aj.of ed,at0,t0,_,_,_,rfl,rfl,bb.of ht0,(rfl:bX [V.int 0,V.int (2*(ps.length:Int)+1)] 1=some _),_,_,rfl,rfl,⟨by decide,by decide +kernel⟩,?_⟩
 try dsimp only
 rw [show (2*(ps.length:Int)+1) / 2=(ps.length:Int) by lia]
 have c1:c6 xs (some 1) (some ((ps.length:Int)+1))=(xs.drop 1).take ps.length:=by
  have:=uH xs 1 (ps.length+1) (by lia)
  rw [show ((1:Nat):Int)=1 from rfl,show ((ps.length+1:Nat):Int)=(ps.length:Int)+1 by lia,GS] at this
  exact this
 have c2:c6 xs (some ((ps.length:Int)+1)) none=xs.drop (ps.length+1):=by
  rw [show ((ps.length:Int)+1)=((ps.length+1:Nat):Int) by lia,gB]
 have j1:((b6 ps qs).drop 1).take ps.length=ps.map (up 1):=by
  unfold b6
  rw [IQ,IE,List.take_left' (by simp)]
 have j2:(b6 ps qs).drop (ps.length+1)=qs.map (up (2*(ps.length:Int)+2)):=by
  unfold b6
  rw [IQ,List.drop_left' (by simp)]
 have p1:=(pr.drop 1).take ps.length
 have p2:=pr.drop (ps.length+1)
 rw [j1] at p1
 rw [j2] at p2
 refine ⟨_,rfl,_,rfl,_,rfl,_,_,rfl,rfl,_,rfl,d,_,rfl,aj.of ed,fun c hc=>?_⟩
 rw [c1]
 have s1:=ae.new (ae.refl H) hc (.lst ((xs.drop 1).take ps.length))
 refine ⟨_,rfl,c,ps.map (up 1),-1,rfl,⟨_,upd_same,p1.same s1⟩,by simp; lia,fun l H2 s2 fl hl=>?_⟩
 have s12:=s1.trans s2
 rw [rB] at hl
 refine ⟨_,rfl,_,rfl,_,_,rfl,rfl,_,rfl,d,_,rfl,aj.of (s12 _ _ ed),fun c' hc'=>?_⟩
 rw [c2]
 have s3:=ae.new s12 hc' (.lst (xs.drop (ps.length+1)))
 have k3:=ae.new (ae.refl H2) hc' (.lst (xs.drop (ps.length+1)))
 refine ⟨_,rfl,_,rfl,_,_,rfl,rfl,.inl ⟨by decide,by decide⟩,_,_,rfl,rfl,c',qs.map (up (2*(ps.length:Int)+2)),_,rfl,⟨_,upd_same,p2.same s3⟩,by simp; lia,fun r H4 s4 fr hr2=>?_⟩
 have e2:(qs.map (up (2*(ps.length:Int)+2))).map (up (-2*(ps.length:Int) - 2))=qs:=by
  rw [show -2*(ps.length:Int) - 2 = -(2*(ps.length:Int)+2) by lia,rB]
 rw [e2] at hr2
 have fl':H l=none:=s1.free fl
 have fr':H r=none:=s3.free fr
 have fG:=hl.same k3
 have nlr:l≠r:=by
  obtain ⟨ys,h,_⟩:=fG
  exact aq h fr
 refine ⟨_,rfl,_,rfl,(by show 2<=sizeLine; decide),fun t ht=>?_⟩
 have s5:=ae.new (ae.refl _) ht (.tup [.ref l,.ref r])
 exact q t l r _ ((s3.trans s4).trans s5) fl' fr' nlr upd_same (fG.same (s4.trans s5)) (hr2.same s5)
theorem zV (aL:Al P w K mg base ca er 41) (F:Fg K mg ca 41 "raised_by" qO):D P w K mg base ca er 41:=by
 refine eB F (fun _ _ _ _ _ _=>eX fun _ _=>rfl) (F.F.ok A2 (fun vs H Q E h=>?_) (fun cZ AZ oZ sZ H vs Q E hr h=>?_))
 ·obtain ⟨l,ns,d,rfl,hl,hz,q⟩:=h
  rfl
 obtain ⟨l,ns,d,rfl,hl,hz,q⟩:=h
 refine ⟨_,ah (au (bG rfl (aN (pv 0)) rfl rfl rfl rfl (N:=["number","step"]) (.own (.cap (j:=1) rfl rfl rfl .nil)) (fun _ _ _ _ _ _=>(az (i:=0) (by show FM (["number","step"]:List Str); decide +kernel) rfl (Fs rfl))) (fun _ _ _ _ _ _=>bI) (fun _ _ _ _ _ _=>(ao aB (pv 0) (pv 1))))),?_⟩
 have ml:(ns.map V.int).length=ns.length:=Do _
 refine ⟨_,rfl,l,rfl,⟨_,hl⟩,fun D hD=>eJ (fun v=>match v with | .int c=>.int (c+d) | v=>v) (by rw [ml]; exact sz (by lia)) hl hD (fun i x H' R R0 hx hb hR=>?_) ?_⟩
 ·obtain ⟨c,rfl⟩:=cX hx
  exact ⟨Ext.set rfl,fg (bg ⟨_,rfl,_,rfl,_,_,rfl,rfl,hR⟩)⟩
 have e1:(ns.map V.int).map (fun v=>match v with | .int c=>V.int (c+d) | v=>v)=(ns.map (·+d)).map V.int:=by rw [FG,FG]; rfl
 rw [e1]
 exact q D _ (ae.new (ae.refl H) hD _) hD upd_same
theorem y6 (aL:Al P w K mg base ca er 42) (F:cM K ca 42 "parted" "Rooms.parted" sX):D P w K mg base ca er 42:=by
 refine de F (fun _ _ _ _ _ _=>eX fun _ _=>rfl) (F.ok j8 (fun vs H Q E h=>?_) (fun cZ AZ oZ sZ H vs Q E hr h=>?_))
 ·obtain ⟨x,v,bl,br,rfl,th,h39,q⟩:=h
  rfl
 obtain ⟨x,v,bl,br,rfl,th,h39,q⟩:=h
 refine ⟨_,ai (aD (i:=2) j8.nd rfl (Ly rfl) (aK a9 (aK a9 (pv 1) ag (fun _ _=>rfl)) (e7 dJ ag) (fun _ _=>rfl)))
  (ai (fW (i:=3) j8.nd rfl (Fs rfl) rfl rfl (aN (df dY (pv 1) (dC ag) eH)) rfl rfl rfl rfl (N:=["room","left_size"]) (.own (.cap (j:=2) rfl rfl rfl .nil)) (fun _ _ _ _ _ _=>(az (i:=0) (by show FM (["room","left_size"]:List Str); decide +kernel) rfl (Fs rfl))) (fun _ _ _ _ _ _=>(g7 (aA eU (aK (iy (K:=K) rfl) (pv 0) ag (fun _ _=>rfl)) (pv 1) (aC _)))) (fun _ _ _ _ _ _=>(aF (aL.g 41) hr (aa (pv 0) (aa (e7 dJ ag) af)))))
  (ai (fW (i:=4) j8.nd rfl (Fs rfl) rfl rfl (aN (df dY (pv 1) (dC ag) eH)) rfl rfl rfl rfl (N:=["room","left_size"]) (.own (.cap (j:=2) rfl rfl rfl .nil)) (fun _ _ _ _ _ _=>(az (i:=0) (by show FM (["room","left_size"]:List Str); decide +kernel) rfl (Fs rfl))) (fun _ _ _ _ _ _=>(g7 (aA iA (aK (iy (K:=K) rfl) (pv 0) ag (fun _ _=>rfl)) (pv 1) (aC _)))) (fun _ _ _ _ _ _=>(aF (aL.g 41) hr (aa (pv 0) (aa (ao bh (e7 dJ (pv 1)) ag) af)))))
  (kY (aO (aA iA (pv 2) ag (aC _)) (ah (aZ (cC E8 Fo Fp bz (pv 3) (aa (aF (aL.g 41) hr (aa (df dY (aK a9 (pv 1) ag (fun _ _=>rfl)) (dC ag) eH) (aa (e7 dJ ag) af))) af)))) aI)
  (ah (au (aP (aa (aH (i5 (e8 hr)) rfl CA.dR dc (aa (pv 3) af)) (aa (pv 4) af)))))))),?_⟩
 obtain ⟨Ha,d,rfl,_,hl⟩:=th
 have hl:aM Ha H d (joinR bl.size (cO bl) (cO br)):=hl
 have rm:=cU bl
 have rm2:=cU br
 have q:∀ (t p1 p2:EK) (H':Hp),ae H H'->H p1=none->H p2=none->H' t=some (.tup [.ref p1,.ref p2])->aM H H' p1 (cO bl)->aM H H' p2 (cO br)->Apart H' p1 p2->Q (.ref t) H':=fun t p1 p2 H' s f f' h l1 l2 _=>q t _ _ H' s h ⟨p1,rfl,f,l1⟩ ⟨p2,rfl,f',l2⟩
 have hij:bl.size+br.size<=40:=by lia
 generalize cO bl=ls at hl rm q
 generalize cO br=rs at hl rm2 q
 generalize bl.size=i at hl rm hij
 generalize br.size=j at rm2 hij
 obtain ⟨xs,el,lxs⟩:=hl.len
 have ln:=rm.lens
 have ln2:=rm2.lens
 have lj:=uq rm rm2
 have jne:=nM rm rm2
 have j0:(joinR i ls rs)[0]? = some ((0:Int)::aE 1 (ls.filter (aQ i)).flatten):=rfl
 obtain ⟨b0,g0,hb0,_⟩:=hl.get el j0
 have at0:bX xs 0=some (.ref b0):=fB (j:=0) g0
 have atl:bX (((0:Int)::aE 1 (ls.filter (aQ i)).flatten).map V.int) (-1)=some (.int (i:Int)):=by
  rw [i3 (by simp),rH rm]
 have l0:xs.length=(joinR i ls rs).tail.length+1:=by rw [lxs]; unfold joinR; simp
 have tl:∀ (k:Nat),(xs.drop 1)[k]? = xs[k+1]?/\(joinR i ls rs).tail[k]? = (joinR i ls rs)[k+1]?:=fun k=>⟨by rw [Im,Nat.add_comm],by rw [List.getElem?_tail]⟩
 have cut:c6 xs (some 1) none=xs.drop 1:=gB xs 1
 have ld:(xs.drop 1).length=(joinR i ls rs).tail.length:=by rw [GG]; lia
 refine ⟨_,rfl,d,_,_,_,rfl,rfl,aj.of el,at0,_,rfl,b0,_,_,_,rfl,rfl,aj.of hb0,atl,?_⟩
 refine ⟨_,rfl,_,rfl,d,_,rfl,aj.of el,fun c1 hc1=>?_⟩
 rw [cut]
 have s1:=ae.new (ae.refl H) hc1 (.lst (xs.drop 1))
 have hc1':upd H c1 (.lst (xs.drop 1)) c1=some (.lst (xs.drop 1)):=upd_same
 generalize upd H c1 (.lst (xs.drop 1))=H1 at s1 hc1' |-
 refine ⟨c1,rfl,⟨_,aj.of hc1'⟩,fun D1 hD1=>bM (xs:=xs.drop 1) (fun k ys H'=>ae H1 H'/\H' D1=some (.lst ys)/\aM H1 H' D1 ((((joinR i ls rs).tail.take k).filter fun r=>decide (hd r < (i:Int))).map (aE (-1)))/\k<=(joinR i ls rs).tail.length) (sz (by lia)) ⟨ae.new (ae.refl H1) hD1 _,upd_same,aM.nil upd_same,EU _⟩ (fun k ys H' hk h=>⟨aj.of (h.1 _ _ hc1'),?_⟩) (fun k v ys H' R R0 hx h r r0=>?_) (fun ys1 H2 h=>?_)⟩
 ·obtain ⟨us,eu,lu⟩:=h.2.2.1.len
  rw [h.2.1] at eu
  cases eu
  rw [lu,Do]
  exact FN (FA _ _) (by rw [E5]; lia)
 ·obtain ⟨sk,hy,lk,hk⟩:=h
  rw [(tl k).1] at hx
  obtain ⟨b,ns,rfl,hn,hb,_⟩:=hl.at el hx
  have hn':=(tl k).2.trans hn
  have hlt:k < (joinR i ls rs).tail.length:=(EC.mp hn').1
  have hm:=ES hn
  have pO:=lj.2 ns hm
  have tk:=cy (f:=fun r=>decide (hd r < (i:Int))) hn'
  have hbk:=(s1.trans sk) _ _ hb
  refine ⟨Ext.set rfl,_,rfl,b,_,_,_,rfl,rfl,aj.of hbk,ud (jne ns hm),_,rfl,_,_,rfl,rfl,_,rfl,?_⟩
  by_cases e1:hd ns < (i:Int)
  ·refine bB e1 ⟨_,rfl,_,rfl,b,ns,-1,rfl,aj.of hbk,by lia,fun c H9 s9 fc hc=>r _ _ (s9 _ _ hy) ⟨(sk.trans s9).upd hD1 _,upd_same,?_,hlt⟩⟩
   rw [tk,if_pos (decide_eq_true e1),ED]
   exact lk.push hy s9 fc hc (sk.free fc)
  ·refine aX e1 (r0 _ ⟨sk,hy,?_,hlt⟩)
   rw [tk,if_neg (fun z=>e1 (of_decide_eq_true z)),Ff]
   exact lk
 obtain ⟨s2,hD1',lw,_⟩:=h
 rw [EL (by lia),xT rm rm2,pU] at lw
 have s12:=s1.trans s2
 have el2:=s12 _ _ el
 have hb2:=s12 _ _ hb0
 refine ⟨_,rfl,_,rfl,d,_,rfl,aj.of el2,fun c2 hc2=>?_⟩
 rw [cut]
 have k3:=ae.new (ae.refl H2) hc2 (.lst (xs.drop 1))
 have hc2':upd H2 c2 (.lst (xs.drop 1)) c2=some (.lst (xs.drop 1)):=upd_same
 generalize upd H2 c2 (.lst (xs.drop 1))=H3 at k3 hc2' |-
 have s3:=s12.trans k3
 refine ⟨c2,rfl,⟨_,aj.of hc2'⟩,fun D2 hD2=>bM (xs:=xs.drop 1) (fun k ys H'=>ae H3 H'/\H' D2=some (.lst ys)/\aM H3 H' D2 ((((joinR i ls rs).tail.take k).filter fun r=>decide (hd r > (i:Int))).map (aE (-(i:Int) - 1)))/\k<=(joinR i ls rs).tail.length) (sz (by lia)) ⟨ae.new (ae.refl H3) hD2 _,upd_same,aM.nil upd_same,EU _⟩ (fun k ys H' hk h=>⟨aj.of (h.1 _ _ hc2'),?_⟩) (fun k v ys H' R R0 hx h r r0=>?_) (fun ys2 H4 h=>?_)⟩
 ·obtain ⟨us,eu,lu⟩:=h.2.2.1.len
  rw [h.2.1] at eu
  cases eu
  rw [lu,Do]
  exact FN (FA _ _) (by rw [E5]; lia)
 ·obtain ⟨sk,hy,lk,hk⟩:=h
  rw [(tl k).1] at hx
  obtain ⟨b,ns,rfl,hn,hb,_⟩:=hl.at el hx
  have hn':=(tl k).2.trans hn
  have hlt:k < (joinR i ls rs).tail.length:=(EC.mp hn').1
  have hm:=ES hn
  have pO:=lj.2 ns hm
  have tk:=cy (f:=fun r=>decide (hd r > (i:Int))) hn'
  have hbk:=(s3.trans sk) _ _ hb
  refine ⟨Ext.set rfl,_,rfl,b,_,_,_,rfl,rfl,aj.of hbk,ud (jne ns hm),_,rfl,_,_,rfl,rfl,_,rfl,?_⟩
  by_cases e1:hd ns > (i:Int)
  ·refine bB e1 ⟨_,rfl,_,rfl,_,rfl,_,_,rfl,rfl,b,ns,_,rfl,aj.of hbk,by lia,fun c H9 s9 fc hc=>r _ _ (s9 _ _ hy) ⟨(sk.trans s9).upd hD2 _,upd_same,?_,hlt⟩⟩
   rw [tk,if_pos (decide_eq_true e1),ED]
   exact lk.push hy s9 fc hc (sk.free fc)
  ·refine aX e1 (r0 _ ⟨sk,hy,?_,hlt⟩)
   rw [tk,if_neg (fun z=>e1 (of_decide_eq_true z)),Ff]
   exact lk
 obtain ⟨s4,hD2',lb,_⟩:=h
 rw [EL (by lia),vn rm rm2,show -(i:Int) - 1 = -((i:Int)+1) by lia,pU] at lb
 have k34:=k3.trans s4
 have s34:=s3.trans s4
 have fD1:H D1=none:=s1.free hD1
 have fD2:H D2=none:=s3.free hD2
 have w4:=s34 _ _ el
 have n12:D1≠D2:=aq (k3 _ _ hD1') hD2
 have lf:=FA (fun r=>!aQ i r) ls
 -- what lies in within,and that it is apart from behind
 refine ⟨fun σ H'=>∃ (ws:List V),σ=[some (.ref x),some (.ref d),some (.int (i:Int)),some (.ref D1),some (.ref D2)]/\ae H H'/\H' D1=some (.lst ws)/\aM H H' D1 ((ls.filter fun r=>!aQ i r)++ls.filter (aQ i))/\aM H H' D2 rs/\H' D2=some (.lst ys2)/\(∀ c,V.ref c∈ws->c≠D2/\V.ref c∉ys2),?_,?_⟩
 ·have inW:∀ c,V.ref c∈ys1->c≠D2/\V.ref c∉ys2:=fun c hc=>by
   obtain ⟨b,ns,e,_,hb,_⟩:=lw.mem hD1' hc
   cases e
   have hb3:=k3 _ _ hb
   refine ⟨aq hb3 hD2,fun hc2=>?_⟩
   obtain ⟨b,ns,e,_,_,hb,_⟩:=lb.mem hD2' hc2
   cases e
   rw [hb] at hb3
   cases hb3
  refine ⟨_,rfl,_,_,rfl,rfl,_,rfl,?_⟩
  by_cases h0:(i:Int) > 0
  ·obtain ⟨R,eR,hR,_⟩:=oN rm (show 0 < i by lia)
   have lR:=ln.2 R hR
   rw [eR] at hb0
   have hb4:=s34 _ _ hb0
   have e1:[R].flatten=R:=by simp
   rw [e1] at hb4
   have hD14:=k34 _ _ hD1'
   refine bB h0 ⟨_,rfl,.inl ⟨rfl,_,aj.of hD14⟩,_,rfl,d,_,_,_,rfl,rfl,aj.of w4,at0,_,rfl,b0,_,rfl,aj.of hb4,fun c3 hc3=>?_⟩
   have c4:c6 (((0:Int)::aE 1 R).map V.int) (some 1) none=(aE 1 R).map V.int:=by
    refine (gB _ 1).trans ?_
    rw [E2,IQ,IE]
   rw [c4]
   have k5:=ae.new (ae.refl H4) hc3 (.lst ((aE 1 R).map V.int))
   have hc3':upd H4 c3 (.lst ((aE 1 R).map V.int)) c3=some (.lst ((aE 1 R).map V.int)):=upd_same
   generalize upd H4 c3 (.lst ((aE 1 R).map V.int))=H5 at k5 hc3' |-
   refine ⟨_,rfl,c3,aE 1 R,-1,rfl,aj.of hc3',by rw [fm]; lia,fun b H6 s6 fb hb=>?_⟩
   have hb':H6 b=some (.lst (R.map V.int)):=by
    rw [hb]
    exact congrArg (fun z:List Int=>some (HO.lst (z.map V.int))) (qC 1 R)
   have k46:=k5.trans s6
   have hD16:=k46 _ _ hD14
   have hD26:=k46 _ _ hD2'
   have f4b:H4 b=none:=k5.free fb
   have k26:=k34.trans k46
   obtain ⟨us,eu,lu⟩:=lw.len
   rw [hD1'] at eu
   cases eu
   refine ⟨D1,_,_,rfl,rfl,hD16,gk (by lia),?_⟩
   refine ⟨_,rfl,(s34.trans k46).upd fD1 _,upd_same,?_,?_,(upd_ne (G4 n12)).trans hD26,fun c hc=>?_⟩
   ·rw [eR]
    exact ((lw.since s1).same k34).push hD14 k46 f4b hb' (s34.free f4b)
   ·exact ((lb.same k46).updC (k3 _ _ hD1') (G4 n12)).since s3
   ·rcases EN.mp hc with z | z
    ·exact inW c z
    ·have:c=b:=by simpa using z
     subst this
     refine ⟨fun z=>(by rw [z,hD2'] at f4b; cases f4b),fun z=>?_⟩
     obtain ⟨b',ns,e,_,hbb,_⟩:=lb.mem hD2' z
     cases e
     rw [hbb] at f4b
     cases f4b
  ·have e0:i=0:=by lia
   have eN:ls.filter (aQ i)=[]:=by rw [none_of rm e0]; rfl
   refine aX h0 ⟨ys1,rfl,s34,k34 _ _ hD1',?_,lb.since s3,hD2',inW⟩
   rw [eN,Ff]
   exact (lw.since s1).same k34
 rintro σ H5 ⟨ws,rfl,s5,hw,lw5,lb5,hD25,ap⟩
 have lf2:=eI rm
 refine ⟨_,rfl,D1,H,_,rfl,lw5,by rw [EA]; lia,fun p1 ss H6 s6 f6 l6 pm6 ri6 mem6=>?_⟩
 have es:=uP rm pm6 ri6
 subst es
 refine ⟨_,rfl,(by show 2<=sizeLine; decide),fun t ht=>?_⟩
 have s7:=ae.new (ae.refl H6) ht (.tup [.ref p1,.ref D2])
 obtain ⟨vs1,ev1,_⟩:=l6.len
 have np:D2≠p1:=fun z=>by rw [z] at hD25; rw [hD25] at f6; cases f6
 refine q t p1 D2 _ ((s5.trans s6).trans s7) (s5.free f6) fD2 upd_same (l6.same s7) ((lb5.same s6).same s7) ?_
 have key:∀ c,(∀ v,V.ref c∈ws->False)->c≠p1->rO (upd H6 t (.tup [.ref p1,.ref D2])) p1 c:=fun c hc n=>⟨n,fun zs hz hm=>by
  rw [s7 _ _ ev1] at hz
  cases hz
  exact hc () (mem6 _ _ hw ev1 _ hm)⟩
 refine ⟨key D2 (fun _ z=>(ap D2 z).1 rfl) np,fun zs c hz hm=>?_⟩
 rw [s7 _ _ (s6 _ _ hD25)] at hz
 cases hz
 refine key c (fun _ z=>(ap c z).2 hm) (fun z=>?_)
 obtain ⟨b,ns,e,_,hbb,_⟩:=lb5.mem hD25 hm
 cases e
 rw [z,f6] at hbb
 cases hbb
theorem z8 (aL:Al P w K mg base ca er 43) (F:Fg K mg ca 43 "third_corner" rD):D P w K mg base ca er 43:=by
 refine eB F (fun _ _ _ _ _ _=>gv fun _ _ _=>rfl) (F.F.ok zF (fun vs H Q E h=>?_) (fun cZ AZ oZ sZ H vs Q E hr h=>?_))
 ·obtain ⟨l,cs,la,rfl,hl,hz,q⟩:=h
  rfl
 obtain ⟨l,cs,la,rfl,hl,hz,q⟩:=h
 refine ⟨_,ah (au (tH (uv rfl) rfl CA.rC m5 (aa (bG rfl (aN (pv 0)) rfl rfl rfl rfl (N:=["a","b","begin","end"]) (.own (.own (.cap (j:=1) rfl rfl rfl (.cap (j:=2) rfl rfl rfl .nil)))) (fun _ _ _ _ _ _=>(gc (K:=K) (n:=2) rfl rfl (aV (az (i:=0) (by show FM (["a","b","begin","end"]:List Str); decide +kernel) rfl (Fs rfl)) (aV (az (i:=1) (by show FM (["a","b","begin","end"]:List Str); decide +kernel) rfl (Fs rfl)) cW)))) (fun _ _ _ _ _ _=>(g7 (PW.pt (iH (aA b9 (pv 0) (pv 2) (aC _)) (gW (aA eU (pv 1) (pv 3) (aC _))))))) (fun _ _ _ _ _ _=>(pv 1))) af) (yp (ao aB (pv 1) ag) Ay))),?_⟩
 obtain ⟨xs,el,lxs,pr⟩:=hl.len
 refine ⟨_,rfl,l,rfl,⟨_,aj.of el⟩,fun D hD=>bM (xs:=xs) (fun i ys H'=>ae H H'/\H' D=some (.lst ys)/\ys=(((cs.take i).filter (eA la)).map (·.2)).map V.int/\i<=cs.length) (sz (by lia)) ⟨ae.new (ae.refl H) hD _,upd_same,rfl,EU _⟩ (fun i ys H' hi h=>⟨aj.of (h.1 _ _ el),?_⟩) (fun i x ys H' R R0 hx h r r0=>?_) (fun ys H' h=>?_)⟩
 ·rw [h.2.2.1,Do,Do]
  exact FN (FA _ _) (by rw [E5]; lia)
 ·obtain ⟨sm,hy,ey,hi⟩:=h
  obtain ⟨pp,tt,hpp,rfl,htt⟩:=pr.get hx
  have hlt:i < cs.length:=(EC.mp hpp).1
  have tk:(cs.take (i+1)).filter (eA la)=(cs.take i).filter (eA la)++(if eA la pp=true then [pp] else []):=by
   rw [E3,hpp,FZ]
   congr 1
   by_cases h:eA la pp=true
   ·rw [if_pos h]; exact HY h
   ·rw [if_neg h]; exact HZ h
  refine ⟨tt,_,rfl,bb.of (sm _ _ htt),rfl,_,_,rfl,_,_,rfl,rfl,(Ext.set rfl).trans (Ext.set rfl),?_⟩
  refine ⟨_,rfl,_,rfl,rfl,_,rfl,?_⟩
  by_cases e1:pp.1=0
  ·refine bB (congrArg V.int e1) ⟨_,rfl,_,rfl,_,_,rfl,rfl,_,rfl,?_⟩
   by_cases e2:pp.2 < la
   ·have ht:eA la pp=true:=by unfold eA; simp [e1,e2]
    refine bB e2 ⟨_,rfl,r _ _ hy ⟨sm.upd hD _,upd_same,?_,hlt⟩⟩
    rw [tk,if_pos ht,ED,ED,<- ey]
    rfl
   ·have ht:¬ eA la pp=true:=by unfold eA; simp [e2]
    refine aX e2 (r0 _ ⟨sm,hy,?_,hlt⟩)
    rw [tk,if_neg ht,Ff]
    exact ey
  ·have ht:¬ eA la pp=true:=by unfold eA; simp [e1]
   refine aX (Et e1) (bH (r0 _ ⟨sm,hy,?_,hlt⟩))
   rw [tk,if_neg ht,Ff]
   exact ey
 ·obtain ⟨sm,hy,ey,hi⟩:=h
  rw [EL (by lia)] at ey
  rw [ey] at hy
  refine ⟨_,rfl,_,_,rfl,rfl,D,_,_,rfl,rfl,aj.of hy,fun e=>?_,fun ne M hM al=>?_⟩
  ·exact q 1 H' sm (fun _=>rfl) (fun z=>absurd e z)
  ·exact q M H' sm (fun z=>absurd z ne) (fun _=>⟨hM,al⟩)
theorem zi (aL:Al P w K mg base ca er 44) (F:cM K ca 44 "parted" "Floors.parted" sG):D P w K mg base ca er 44:=by
 refine de F (fun _ _ _ _ _ _=>eX fun _ _=>rfl) (F.ok gR (fun vs H Q E h=>?_) (fun cZ AZ oZ sZ H vs Q E hr h=>?_))
 ·obtain ⟨x,v,bl,br,rfl,th,h39,q⟩:=h
  rfl
 obtain ⟨x,v,bl,br,rfl,th,h39,q⟩:=h
 refine ⟨_,ai (aD (i:=2) gR.nd rfl (Ly rfl) (ao bh (aK bJ (pv 1) ag (fun _ _=>rfl)) ag))
  (ai (aD (i:=3) gR.nd rfl (Fs rfl) (aK bJ (pv 1) ag (fun _ _=>rfl)))
  (ai (aD (i:=4) gR.nd rfl (Ly rfl) (aF (aL.g 43) hr (aa (pv 3) (aa ag (aa (pv 2) af)))))
  (ai (fW (i:=5) gR.nd rfl (Fs rfl) rfl rfl (aN (pv 3)) rfl rfl rfl rfl (N:=["a","b","third"]) (.own (.own (.cap (j:=4) rfl rfl rfl .nil))) (fun _ _ _ _ _ _=>(gc (K:=K) (n:=2) rfl rfl (aV (az (i:=0) (by show FM (["a","b","third"]:List Str); decide +kernel) rfl (Fs rfl)) (aV (az (i:=1) (by show FM (["a","b","third"]:List Str); decide +kernel) rfl (Fs rfl)) cW)))) (fun _ _ _ _ _ _=>(g7 (PW.pt (iH (aA rZ (pv 1) (pv 2) (aC _)) (gW (aA (qq (K:=K) rfl (e8 hr)) (aP (aa (pv 0) (aa (pv 1) af))) (aP (aa ag (aa (pv 2) af))) (aC _))))))) (fun _ _ _ _ _ _=>(aP (aa (pv 0) (aa (pv 1) af)))))
  (ai (fW (i:=6) gR.nd rfl (Fs rfl) rfl rfl (aN (pv 3)) rfl rfl rfl rfl (N:=["a","b","third","last"]) (.own (.own (.cap (j:=4) rfl rfl rfl (.cap (j:=2) rfl rfl rfl .nil)))) (fun _ _ _ _ _ _=>(gc (K:=K) (n:=2) rfl rfl (aV (az (i:=0) (by show FM (["a","b","third","last"]:List Str); decide +kernel) rfl (Fs rfl)) (aV (az (i:=1) (by show FM (["a","b","third","last"]:List Str); decide +kernel) rfl (Fs rfl)) cW)))) (fun _ _ _ _ _ _=>(g7 (PW.pt (iH (aA xi (pv 0) (pv 2) (aC _)) (gW (aA (qq (K:=K) rfl (e8 hr)) (aP (aa (pv 0) (aa (pv 1) af))) (aP (aa (pv 2) (aa (pv 3) af))) (aC _))))))) (fun _ _ _ _ _ _=>(aP (aa (pv 0) (aa (pv 1) af)))))
  (ah (au (aP (aa (aP (aa (ao aB (pv 4) ag) (aa (pv 5) af))) (aa (aP (aa (ao aB (ao bh (pv 2) (pv 4)) ag) (aa (aF (aL.g 39) hr (aa (pv 6) (aa (e7 dJ (pv 4)) af))) af))) af))))))))),?_⟩
 obtain ⟨_,t,l,cs,rfl,_,ht,hl,pm,ris⟩:=th
 obtain ⟨ps,pmp,rip⟩:=mJ (fe bl 0)
 obtain ⟨qs,pmq,riq⟩:=mJ (fe br 0)
 have fp:=fT pmp rip
 have fq:=fT pmq riq
 have pm:cs.Perm (cB bl.size br.size ps qs):=pm.trans (kR bl br pmp pmq).symm
 have ht:H t=some (.tup [.int ((bl.size:Int)+(br.size:Int)+3),.ref l]):=by rw [ht,show (((Bt.node bl br).size:Nat):Int)+2=(bl.size:Int)+(br.size:Int)+3 by show ((bl.size+br.size+1:Nat):Int)+2=_; lia]
 have hij:bl.size+br.size<=40:=by lia
 have q:∀ (t0 t1 t2 p1 p2:EK) (H':Hp),ae H H'->H p1=none->H p2=none->p1≠p2->H' t0=some (.tup [.ref t1,.ref t2])->H' t1=some (.tup [.int ((bl.size:Int)+2),.ref p1])->H' t2=some (.tup [.int ((br.size:Int)+2),.ref p2])->aT H' p1 ps->aT H' p2 qs->Q (.ref t0) H':=fun t0 t1 t2 p1 p2 H' s f f' _ h h1 h2 l1 l2=>q t0 _ _ H' s h ⟨t1,p1,ps,rfl,f,h1,l1,pmp,rip⟩ ⟨t2,p2,qs,rfl,f',h2,l2,pmq,riq⟩
 clear pmp pmq rip riq
 generalize bl.size=i at *
 generalize br.size=j at *
 have lc:=pm.length_eq
 have lj:=i6 fp fq
 have at0:∀ (c:Int) (a:EK),bX [V.int c,.ref a] 0=some (.int c):=fun _ _=>rfl
 have at1:∀ (c:Int) (a:EK),bX [V.int c,.ref a] 1=some (.ref a):=fun _ _=>rfl
 refine ⟨_,rfl,t,_,_,_,rfl,rfl,bb.of ht,at0 _ _,_,_,rfl,rfl,?_⟩
 try dsimp only
 rw [show (i:Int)+(j:Int)+3 - 1=(i:Int)+(j:Int)+2 by lia]
 refine ⟨_,rfl,t,_,_,_,rfl,rfl,bb.of ht,at1 _ _,?_⟩
 refine ⟨_,rfl,_,rfl,l,cs,_,rfl,hl,by lia,fun M H1 s1 m0 m1=>?_⟩
 have eM:M=(i:Int)+1:=by
  by_cases h0:i=0
  ·rw [m0 (wO fp fq pm ris h0)]; lia
  ·have hin:=vU fp fq pm ris h0
   obtain ⟨hM,hle⟩:=m1 (fun z=>by rw [z] at hin; cases hin)
   have:=vX fp fq pm ris M hM
   have:=hle _ hin
   lia
 subst eM
 obtain ⟨xs,el,lxs,pr⟩:=hl.len
 have e1l:=s1 _ _ el
 have pr1:=pr.same s1
 refine ⟨_,rfl,l,rfl,⟨_,aj.of e1l⟩,fun p1 hD1=>bM (xs:=xs) (fun k ys H'=>ae H1 H'/\H' p1=some (.lst ys)/\bu H' ys ((cs.take k).filter (fN ((i:Int)+1)))/\k<=cs.length) (sz (by lia)) ⟨ae.new (ae.refl H1) hD1 _,upd_same,.nil,EU _⟩ (fun k ys H' hk h=>⟨aj.of (h.1 _ _ e1l),?_⟩) (fun k v ys H' R R0 hx h r r0=>?_) (fun ys1 H2 h=>?_)⟩
 ·rw [h.2.2.1.length]
  exact FN (FA _ _) (by rw [E5]; lia)
 ·obtain ⟨sm,hy,py,hk⟩:=h
  obtain ⟨pp,tt,hpp,rfl,htt⟩:=(pr1).get hx
  have hlt:k < cs.length:=(EC.mp hpp).1
  have tk:=gN (fN ((i:Int)+1)) hpp
  refine ⟨tt,_,rfl,bb.of (sm _ _ htt),rfl,_,_,rfl,_,_,rfl,rfl,(Ext.set rfl).trans (Ext.set rfl),?_⟩
  refine ⟨_,rfl,_,rfl,_,_,rfl,rfl,_,rfl,?_⟩
  by_cases e1:pp.2<=((i:Int)+1)
  ·refine bB e1 ⟨_,rfl,_,rfl,(by show 2<=sizeLine; decide),fun u1 lZ=>?_⟩
   have nD1:p1≠u1:=aq hy lZ
   have y1:=(upd_ne (o:=.tup [.int pp.1,.int pp.2]) nD1).trans hy
   refine ⟨_,rfl,(by show 2<=sizeLine; decide),fun u2 hu2=>?_⟩
   have nD2:p1≠u2:=aq y1 hu2
   have n12:u1≠u2:=aq upd_same hu2
   have y2:=(upd_ne (o:=.tup [.int 0,.int ((i:Int)+1)]) nD2).trans y1
   have g1:=(upd_ne (o:=.tup [.int 0,.int ((i:Int)+1)]) n12).trans (upd_same (H:=H') (a:=u1) (o:=.tup [.int pp.1,.int pp.2]))
   have sm2:=ae.new (ae.new sm lZ (.tup [.int pp.1,.int pp.2])) hu2 (.tup [.int 0,.int ((i:Int)+1)])
   have py2:=(py.updN lZ (.tup [.int pp.1,.int pp.2])).updN hu2 (.tup [.int 0,.int ((i:Int)+1)])
   refine ⟨1,_,by decide,aW.two (n:=0) n12 g1 upd_same,⟨u1,u2,rfl,rfl,n12⟩,_,rfl,?_⟩
   cases e2:(decide (pp.1=0)&&decide (pp.2=((i:Int)+1))) with
   | false =>
    have ht:fN ((i:Int)+1) pp=true:=by unfold fN; rw [e2,decide_eq_true e1]; rfl
    refine tw rfl ⟨_,rfl,_,rfl,(by show 2<=sizeLine; decide),fun t1 ht1=>?_⟩
    have y3:=(upd_ne (o:=.tup [.int pp.1,.int pp.2]) (aq y2 ht1)).trans y2
    refine r _ _ y3 ⟨(ae.new sm2 ht1 _).upd hD1 _,upd_same,?_,hlt⟩
    rw [tk,if_pos ht]
    exact ((py2.updN ht1 (.tup [.int pp.1,.int pp.2])).snoc (t:=t1) (p:=pp) upd_same).updL y3 _
   | true =>
    have ht:¬ fN ((i:Int)+1) pp=true:=by unfold fN; rw [e2]; simp
    refine mZ rfl (r0 _ ⟨sm2,y2,?_,hlt⟩)
    rw [tk,if_neg ht,Ff]
    exact py2
  ·have ht:¬ fN ((i:Int)+1) pp=true:=by unfold fN; rw [decide_eq_false e1]; simp
   refine aX e1 (bH (r0 _ ⟨sm,hy,?_,hlt⟩))
   rw [tk,if_neg ht,Ff]
   exact py
 obtain ⟨s2,hy,py,_⟩:=h
 rw [EL (by lia)] at py
 have hL:aT H2 p1 (cs.filter (fN ((i:Int)+1))):=⟨ys1,hy,py⟩
 rw [CL fp fq pm ris] at hL
 have t2:=s1.trans s2
 have fD:H p1=none:=s1.free hD1
 have e2l:=t2 _ _ el
 have pr2:=pr.same t2
 clear hy py
 refine ⟨_,rfl,l,rfl,⟨_,aj.of e2l⟩,fun D hD=>bM (xs:=xs) (fun k ys H'=>ae H2 H'/\H' D=some (.lst ys)/\bu H' ys ((cs.take k).filter (dQ ((i:Int)+1) ((i:Int)+(j:Int)+2)))/\k<=cs.length) (sz (by lia)) ⟨ae.new (ae.refl H2) hD _,upd_same,.nil,EU _⟩ (fun k ys H' hk h=>⟨aj.of (h.1 _ _ e2l),?_⟩) (fun k v ys H' R R0 hx h r r0=>?_) (fun ys H' h=>?_)⟩
 ·rw [h.2.2.1.length]
  exact FN (FA _ _) (by rw [E5]; lia)
 ·obtain ⟨sm,hy,py,hk⟩:=h
  obtain ⟨pp,tt,hpp,rfl,htt⟩:=(pr2).get hx
  have hlt:k < cs.length:=(EC.mp hpp).1
  have tk:=gN (dQ ((i:Int)+1) ((i:Int)+(j:Int)+2)) hpp
  refine ⟨tt,_,rfl,bb.of (sm _ _ htt),rfl,_,_,rfl,_,_,rfl,rfl,(Ext.set rfl).trans (Ext.set rfl),?_⟩
  refine ⟨_,rfl,_,rfl,_,_,rfl,rfl,_,rfl,?_⟩
  by_cases e1:pp.1 ≥ ((i:Int)+1)
  ·refine bB e1 ⟨_,rfl,_,rfl,(by show 2<=sizeLine; decide),fun u1 lZ=>?_⟩
   have nD1:D≠u1:=aq hy lZ
   have y1:=(upd_ne (o:=.tup [.int pp.1,.int pp.2]) nD1).trans hy
   refine ⟨_,rfl,_,rfl,(by show 2<=sizeLine; decide),fun u2 hu2=>?_⟩
   have nD2:D≠u2:=aq y1 hu2
   have n12:u1≠u2:=aq upd_same hu2
   have y2:=(upd_ne (o:=.tup [.int ((i:Int)+1),.int ((i:Int)+(j:Int)+2)]) nD2).trans y1
   have g1:=(upd_ne (o:=.tup [.int ((i:Int)+1),.int ((i:Int)+(j:Int)+2)]) n12).trans (upd_same (H:=H') (a:=u1) (o:=.tup [.int pp.1,.int pp.2]))
   have sm2:=ae.new (ae.new sm lZ (.tup [.int pp.1,.int pp.2])) hu2 (.tup [.int ((i:Int)+1),.int ((i:Int)+(j:Int)+2)])
   have py2:=(py.updN lZ (.tup [.int pp.1,.int pp.2])).updN hu2 (.tup [.int ((i:Int)+1),.int ((i:Int)+(j:Int)+2)])
   refine ⟨1,_,by decide,aW.two (n:=0) n12 g1 upd_same,⟨u1,u2,rfl,rfl,n12⟩,_,rfl,?_⟩
   cases e2:(decide (pp.1=((i:Int)+1))&&decide (pp.2=((i:Int)+(j:Int)+2))) with
   | false =>
    have ht:dQ ((i:Int)+1) ((i:Int)+(j:Int)+2) pp=true:=by unfold dQ; rw [e2,decide_eq_true e1]; rfl
    refine tw rfl ⟨_,rfl,_,rfl,(by show 2<=sizeLine; decide),fun t1 ht1=>?_⟩
    have y3:=(upd_ne (o:=.tup [.int pp.1,.int pp.2]) (aq y2 ht1)).trans y2
    refine r _ _ y3 ⟨(ae.new sm2 ht1 _).upd hD _,upd_same,?_,hlt⟩
    rw [tk,if_pos ht]
    exact ((py2.updN ht1 (.tup [.int pp.1,.int pp.2])).snoc (t:=t1) (p:=pp) upd_same).updL y3 _
   | true =>
    have ht:¬ dQ ((i:Int)+1) ((i:Int)+(j:Int)+2) pp=true:=by unfold dQ; rw [e2]; simp
    refine mZ rfl (r0 _ ⟨sm2,y2,?_,hlt⟩)
    rw [tk,if_neg ht,Ff]
    exact py2
  ·have ht:¬ dQ ((i:Int)+1) ((i:Int)+(j:Int)+2) pp=true:=by unfold dQ; rw [decide_eq_false e1]; simp
   refine aX e1 (bH (r0 _ ⟨sm,hy,?_,hlt⟩))
   rw [tk,if_neg ht,Ff]
   exact py
 obtain ⟨s3,hy,py,_⟩:=h
 rw [EL (by lia)] at py
 have hR:aT H' D (cs.filter (dQ ((i:Int)+1) ((i:Int)+(j:Int)+2))):=⟨ys,hy,py⟩
 rw [CD fp fq pm ris] at hR
 have t3:=t2.trans s3
 refine ⟨_,rfl,_,_,rfl,rfl,_,rfl,(by show 2<=sizeLine; decide),fun t1 ht1=>?_⟩
 have s4:=ae.new (ae.refl H') ht1 (.tup [.int ((i:Int)+1+1),.ref p1])
 refine ⟨_,rfl,_,rfl,_,_,rfl,rfl,_,_,rfl,rfl,_,rfl,_,rfl,_,rfl,D,_,_,rfl,hR.same s4,by rw [Do]; have:=fq.len; lia,fun p2 H5 s5 f5 h5=>⟨(by show 2<=sizeLine; decide),fun t2' ht2=>⟨(by show 2<=sizeLine; decide),fun t0 ht0=>?_⟩⟩⟩
 rw [rB] at h5
 have s6:=ae.new (ae.refl H5) ht2 (.tup [.int ((i:Int)+(j:Int)+2 - ((i:Int)+1)+1),.ref p2])
 have s7:=ae.new (ae.refl _) ht0 (.tup [.ref t1,.ref t2'])
 have s67:=s6.trans s7
 have s47:=(s4.trans s5).trans s67
 have f2:H p2=none:=(t3.trans s4).free f5
 have hL':=(hL.same s3).same s4
 have n12:p1≠p2:=by
  obtain ⟨ys,h,_⟩:=hL'
  exact aq h f5
 have g1:=(s5.trans s67) _ _ (upd_same (H:=H') (a:=t1) (o:=.tup [.int ((i:Int)+1+1),.ref p1]))
 have g2:=s7 _ _ (upd_same (H:=H5) (a:=t2') (o:=.tup [.int ((i:Int)+(j:Int)+2 - ((i:Int)+1)+1),.ref p2]))
 rw [show (i:Int)+1+1=(i:Int)+2 by lia] at g1
 rw [show (i:Int)+(j:Int)+2 - ((i:Int)+1)+1=(j:Int)+2 by lia] at g2
 exact q t0 t1 t2' p1 p2 _ (t3.trans s47) fD f2 n12 upd_same g1 g2 (hL'.same (s5.trans s67)) (h5.same s67)
theorem zT (aL:Al P w K mg base ca er 45) (F:cM K ca 45 "parted" "Turns.parted" sg):D P w K mg base ca er 45:=by
 refine de F (fun _ _ _ _ _ _=>eX fun _ _=>rfl) (F.ok uI (fun vs H Q E h=>?_) (fun cZ AZ oZ sZ H vs Q E hr h=>?_))
 ·obtain ⟨x,v,bl,br,rfl,th,h39,q⟩:=h
  rfl
 obtain ⟨x,v,bl,br,rfl,th,h39,q⟩:=h
 refine ⟨_,ai (aD (i:=2) uI.nd rfl (Fs rfl) (cC E8 Kl PySem.F.type_list_index vN (pv 1) (aa ag af)))
  (ah (au (aP (aa (aF (aL.g 41) hr (aa (df dY (pv 1) eH (dC (pv 2))) (aa (e7 dJ ag) af))) (aa (aF (aL.g 41) hr (aa (df dY (pv 1) (dC (ao aB (pv 2) ag)) eH) (aa (ao bh (e7 dJ (pv 2)) ag) af))) af))))),?_⟩
 obtain ⟨_,d,rfl,_,hd⟩:=th
 have hd:H d=some (.lst ((cS (bN bl) (bN br)).map V.int)):=hd
 have lps:(bN bl).length<=40:=by rw [b8]; lia
 have lqs:(bN br).length<=40:=by rw [b8]; lia
 have nn:∀ bt:Bt,∀ x∈bN bt,0<=x:=fun bt x hx=>by
  have h:=oK bt
  unfold eZ at h
  exact (gf.mp (((cn _).mp (Gj.mp h).1).mem_iff.mp hx)).1
 have bp:=nn bl
 have bq:=nn br
 have q:∀ (t l r:EK) (H':Hp),ae H H'->H l=none->H r=none->l≠r->H' t=some (.tup [.ref l,.ref r])->H' l=some (.lst ((bN bl).map V.int))->H' r=some (.lst ((bN br).map V.int))->Q (.ref t) H':=fun t l r H' s f f' _ h pl pr=>q t _ _ H' s h ⟨l,rfl,f,pl⟩ ⟨r,rfl,f',pr⟩
 clear nn
 generalize bN bl=ps at hd lps bp q
 generalize bN br=qs at hd lqs bq q
 have lj:=tP ps qs
 have h0:(0:Int)∈cS ps qs:=by unfold cS; simp
 have e0:(cS ps qs).idxOf 0=ps.length:=by
  unfold cS
  rw [E9,List.idxOf_append,if_neg (by
   intro z
   obtain ⟨y,hy,e⟩:=ER.mp z
   have:=bp y hy
   lia)]
  simp
 have c1:c6 ((cS ps qs).map V.int) none (some (ps.length:Int))=(ps.map (·+1)).map V.int:=by
  rw [xZ,<- List.map_take]
  unfold cS
  rw [E9,List.take_left' (by simp)]
 have c2:c6 ((cS ps qs).map V.int) (some ((ps.length:Int)+1)) none=(qs.map (·+((ps.length:Int)+1))).map V.int:=by
  rw [show ((ps.length:Int)+1)=((ps.length+1:Nat):Int) by lia,gB,<- Lk]
  unfold cS
  rw [List.drop_left' (by simp)]
  rfl
 refine ⟨_,rfl,.inl ⟨rfl,_,aj.of hd⟩,d,cS ps qs,0,rfl,rfl,aj.of hd,h0,?_⟩
 rw [e0]
 refine ⟨_,rfl,_,rfl,_,rfl,d,_,rfl,aj.of hd,fun c hc=>?_⟩
 rw [c1]
 have s1:=ae.new (ae.refl H) hc (.lst ((ps.map (·+1)).map V.int))
 refine ⟨_,rfl,c,ps.map (·+1),-1,rfl,aj.of upd_same,by simp; lia,fun l H2 s2 fl hl=>?_⟩
 have s12:=s1.trans s2
 rw [jj] at hl
 refine ⟨_,rfl,_,rfl,_,_,rfl,rfl,_,rfl,d,_,rfl,aj.of (s12 _ _ hd),fun c' hc'=>?_⟩
 rw [c2]
 have s3:=ae.new s12 hc' (.lst ((qs.map (·+((ps.length:Int)+1))).map V.int))
 refine ⟨_,rfl,_,rfl,_,_,rfl,rfl,c',qs.map (·+((ps.length:Int)+1)),_,rfl,aj.of upd_same,by simp; lia,fun r H4 s4 fr hr2=>?_⟩
 have e2:(qs.map (·+((ps.length:Int)+1))).map (·+(-(ps.length:Int) - 1))=qs:=by
  rw [show -(ps.length:Int) - 1 = -((ps.length:Int)+1) by lia,jj]
 rw [e2] at hr2
 have fl':H l=none:=s1.free fl
 have fr':H r=none:=s3.free fr
 have fG:=(ae.new (ae.refl _) hc' (.lst ((qs.map (·+((ps.length:Int)+1))).map V.int))) _ _ hl
 have nlr:l≠r:=aq fG fr
 refine ⟨(by show 2<=sizeLine; decide),fun t ht=>?_⟩
 have s5:=ae.new (ae.refl _) ht (.tup [.ref l,.ref r])
 exact q t l r _ ((s3.trans s4).trans s5) fl' fr' nlr upd_same (s5 _ _ (s4 _ _ fG)) (s5 _ _ hr2)
theorem yZ (aL:Al P w K mg base ca er 47) (F:cM K ca 47 "joined" "Bows.joined" si):D P w K mg base ca er 47:=by
 refine de F (fun _ _ _ _ _ _=>gv fun _ _ _=>rfl) (F.ok uF (fun vs H Q E h=>?_) (fun cZ AZ oZ sZ H vs Q E hr h=>?_))
 ·obtain ⟨x,dx,fs,wd,vl,vr,bl,br,rfl,hx,fl,thl,thr,h39,q⟩:=h
  rfl
 obtain ⟨x,dx,fs,wd,vl,vr,bl,br,rfl,hx,fl,thl,thr,h39,q⟩:=h
 refine ⟨_,ai (aD (i:=3) uF.nd rfl (Fs rfl) (ao aB (ao cx ag (aH bw rfl CA.eE dj (aa (pv 1) af))) ag))
  (ah (au (ao dk (ao dk (ba (aa (aP (aa ag (aa (pv 3) af))) af)) (aF (aL.g 39) hr (aa (pv 1) (aa ag af)))) (aF (aL.g 39) hr (aa (pv 2) (aa (ao aB (pv 3) ag) af)))))),?_⟩
 obtain ⟨_,l,rfl,_,hl⟩:=thl
 obtain ⟨_,r,rfl,_,hr2⟩:=thr
 have lps:(cY bl).length<=40:=by rw [cu]; lia
 have lqs:(cY br).length<=40:=by rw [cu]; lia
 have q:∀ (p:EK) (H':Hp),ae H H'->H p=none->aT H' p (b6 (cY bl) (cY br))->Q (.ref p) H':=fun p H' s f h=>q _ _ s ⟨p,rfl,f,h⟩
 generalize cY bl=ps at hl lps q
 generalize cY br=qs at hr2 lqs q
 obtain ⟨xs,el,lxs,prl⟩:=hl.len
 refine ⟨_,rfl,l,xs,rfl,.inl (aj.of el),_,_,rfl,rfl,.inl ⟨by decide,by decide⟩,_,_,rfl,rfl,?_⟩
 try dsimp only
 rw [lxs]
 refine ⟨_,rfl,(by show 2<=sizeLine; decide),fun t0 ht0=>⟨(by show 1<=sizeLine; decide),fun p0 hp0=>?_⟩⟩
 have s1:=ae.new (ae.refl H) ht0 (.tup [.int 0,.int (2*(ps.length:Int)+1)])
 have s2:=ae.new s1 hp0 (.lst [.ref t0])
 have ntp:t0≠p0:=aq upd_same hp0
 have hp0':upd (upd H t0 (.tup [.int 0,.int (2*(ps.length:Int)+1)])) p0 (.lst [.ref t0]) p0=some (.lst [.ref t0]):=upd_same
 have pr0:bu (upd (upd H t0 (.tup [.int 0,.int (2*(ps.length:Int)+1)])) p0 (.lst [.ref t0])) [.ref t0] [(0,2*(ps.length:Int)+1)]:=.cons ⟨t0,rfl,(upd_ne ntp).trans upd_same⟩ .nil
 generalize upd (upd H t0 (.tup [.int 0,.int (2*(ps.length:Int)+1)])) p0 (.lst [.ref t0])=H2 at s2 hp0' pr0 |-
 refine ⟨_,rfl,l,ps,1,rfl,hl.same s2,by lia,fun D H3 s3 fD hD=>?_⟩
 obtain ⟨zs,ez,lz,prz⟩:=hD.len
 have s23:=s2.trans s3
 refine ⟨p0,D,_,_,rfl,rfl,s3 _ _ hp0',ez,?_,fun p1 hp1=>?_⟩
 ·rw [lz,Do]; exact sz (by simp; lia)
 have s4:=ae.new s23 hp1 (.lst ([.ref t0]++zs))
 have k4:=ae.new (ae.refl H3) hp1 (.lst ([.ref t0]++zs))
 have pr4:bu (upd H3 p1 (.lst ([.ref t0]++zs))) ([.ref t0]++zs) ([(0,2*(ps.length:Int)+1)]++ps.map (up 1)):=((pr0.same s3).app prz).same k4
 have h14:upd H3 p1 (.lst ([.ref t0]++zs)) p1=some (.lst ([.ref t0]++zs)):=upd_same
 generalize upd H3 p1 (.lst ([.ref t0]++zs))=H4 at s4 pr4 h14 |-
 refine ⟨_,rfl,_,rfl,_,_,rfl,rfl,?_⟩
 try dsimp only
 refine ⟨r,qs,_,rfl,hr2.same s4,by lia,fun D2 H5 s5 fD2 hD2=>?_⟩
 obtain ⟨ws,ew,lw,prw⟩:=hD2.len
 have s45:=s4.trans s5
 refine ⟨p1,D2,_,_,rfl,rfl,s5 _ _ h14,ew,?_,fun p hp=>?_⟩
 ·rw [EA,lz,lw,Do,Do]; exact sz (by simp; lia)
 have k6:=ae.new (ae.refl H5) hp (.lst (([.ref t0]++zs)++ws))
 refine q p _ (s45.trans k6) (s45.free hp) ⟨_,upd_same,?_⟩
 have:=((pr4.same s5).app prw).same k6
 unfold b6
 rw [show 2*(ps.length:Int)+1+1=2*(ps.length:Int)+2 by lia] at this
 exact this
theorem BZ (aL:Al P w K mg base ca er 48) (F:cM K ca 48 "joined" "Rooms.joined" rh):D P w K mg base ca er 48:=by
 refine de F (fun _ _ _ _ _ _=>gv fun _ _ _=>rfl) (F.ok iN (fun vs H Q E h=>?_) (fun cZ AZ oZ sZ H vs Q E hr h=>?_))
 ·obtain ⟨x,dx,fs,wd,vl,vr,bl,br,rfl,hx,fl,thl,thr,h39,q⟩:=h
  rfl
 obtain ⟨x,dx,fs,wd,vl,vr,bl,br,rfl,hx,fl,thl,thr,h39,q⟩:=h
 refine ⟨_,ai (aD (i:=3) iN.nd rfl (Ly rfl) (xC (pv 0) (CA.c4 1 (by decide)) (CA.mt4_size_of 1 (by decide)) (aL.g 30) hr (aa (pv 1) af)))
  (ai (aD (i:=4) iN.nd rfl (Fs rfl) (ba (aa ag af)))
  (ai (aD (i:=5) iN.nd rfl (Fs rfl) (ba af))
  (ai (b7 FC rfl (aN (pv 1)) (az (i:=6) iN.nd rfl (Fs rfl)) (ah (aO (aA b9 (aK a9 (pv 6) (e7 dJ ag) (fun _ _=>rfl)) (ao bh (pv 3) ag) (aC _)) (ah (aZ (cC E8 Kb Kc mr (pv 4) (aa (aF (aL.g 41) hr (aa (pv 6) (aa ag af))) af)))) (ah (aZ (cC E8 Fo Fp bz (pv 5) (aa (aF (aL.g 41) hr (aa (pv 6) (aa ag af))) af)))))))
  (ah (au (ao dk (ao dk (ba (aa (pv 4) af)) (pv 5)) (bG rfl (aN (pv 2)) rfl rfl rfl rfl (N:=["room","left_size"]) (.own (.cap (j:=3) rfl rfl rfl .nil)) (fun _ _ _ _ _ _=>(az (i:=0) (by show FM (["room","left_size"]:List Str); decide +kernel) rfl (Fs rfl))) (fun _ _ _ _ _ _=>bI) (fun _ _ _ _ _ _=>(aF (aL.g 41) hr (aa (pv 0) (aa (ao aB (pv 1) ag) af))))))))))),?_⟩
 have thk:=thl
 obtain ⟨Ha,l,rfl,_,hl⟩:=thl
 obtain ⟨Hb,r,rfl,_,hr2⟩:=thr
 have rm:=cU bl
 have rm2:=cU br
 have hij:bl.size+br.size<=40:=by lia
 have fno:fs.lookup ("size_of" : Str)=none:=fl.no "size_of" (by decide) (by decide)
 have q:∀ (p:EK) (H':Hp),ae H H'->H p=none->aM H H' p (joinR bl.size (cO bl) (cO br))->Q (.ref p) H':=fun p H' s f h=>q _ _ s ⟨p,rfl,f,h⟩
 generalize cO bl=ls at hl rm q
 generalize cO br=rs at hr2 rm2 q
 generalize ei:bl.size=i at rm hij q
 generalize br.size=j at rm2 hij
 obtain ⟨xs,el,lxs⟩:=hl.len
 obtain ⟨zs,ez,lzs⟩:=hr2.len
 have ln:=rm.lens
 have ln2:=rm2.lens
 refine ⟨_,rfl,x,dx,fs,rfl,hx,fno,_,rfl,x,.ref l,bl,rfl,thk,by lia,fun H1 s1=>?_⟩
 rw [ei]
 refine ⟨(by show 1<=sizeLine; decide),fun pf hpf=>⟨EU _,fun po hpo=>?_⟩⟩
 have k2:=ae.new s1 hpf (.lst [.int 0])
 have s3:=ae.new k2 hpo (.lst [])
 have fpf:H pf=none:=s1.free hpf
 have fpo:H po=none:=k2.free hpo
 have nfo:pf≠po:=aq upd_same hpo
 have h3f:upd (upd H1 pf (.lst [.int 0])) po (.lst []) pf=some (.lst [.int 0]):=(upd_ne nfo).trans upd_same
 have h3o:upd (upd H1 pf (.lst [.int 0])) po (.lst []) po=some (.lst []):=upd_same
 generalize upd (upd H1 pf (.lst [.int 0])) po (.lst [])=H3 at s3 h3f h3o |-
 refine ⟨_,rfl,l,rfl,⟨_,aj.of (s3 _ _ el)⟩,bQ (xs:=xs) (fun k σ H'=>∃ (o:Option V),σ=[some (.ref x),some (.ref l),some (.ref r),some (.int (i:Int)),some (.ref pf),some (.ref po),o]/\ae H H'/\fi H3 H'/\H' pf=some (.lst (((0:Int)::aE 1 ((ls.take k).filter (aQ i)).flatten).map V.int))/\aM H3 H' po (((ls.take k).filter fun r=>!aQ i r).map (aE 1))/\k<=ls.length) ⟨_,rfl,s3,fi.refl H3,h3f,aM.nil h3o,EU _⟩ (fun k σ H' _ h=>by obtain ⟨o,_,sm,_⟩:=h; exact aj.of (sm _ _ el)) ?_ ?_⟩
 ·rintro k v σ H' hv ⟨o,rfl,sm,st,hf,ho,hk⟩
  obtain ⟨b,ns,rfl,hn,hb,_⟩:=hl.at el hv
  have hlt:k < ls.length:=(EC.mp hn).1
  have hm:ns∈ls:=ES hn
  have pO:=ln.2 ns hm
  have tk:=cy (f:=aQ i) hn
  have tk2:=cy (f:=fun r=>!aQ i r) hn
  refine ⟨_,rfl,_,rfl,b,_,_,_,rfl,rfl,aj.of (sm _ _ hb),i3 (rm.ne ns hm),_,rfl,_,_,rfl,rfl,rfl,_,rfl,?_⟩
  by_cases g:ns.getD (ns.length - 1) 0=(i:Int) - 1
  ·have hg:aQ i ns=true:=decide_eq_true g
   have e0:=jr rm hn hg
   rw [e0] at hf
   refine bB (congrArg V.int g) ⟨_,rfl,.inl ⟨rfl,_,aj.of hf⟩,_,rfl,b,ns,1,rfl,aj.of (sm _ _ hb),by lia,fun c H5 s5 fc hc=>⟨pf,c,_,_,rfl,rfl,s5 _ _ hf,hc,?_,?_⟩⟩
   ·simp only [Do,List.flatten_nil,Fb]; exact sz (by unfold aE; simp; lia)
   refine ⟨_,rfl,(sm.trans s5).upd fpf _,(st.same s5).upd pf _,?_,?_,hlt⟩
   ·rw [upd_same,tk,if_pos hg,e0,HQ,<- ED]
    unfold aE
    simp
   ·rw [tk2,if_neg (by rw [hg]; decide),Ff]
    exact (ho.same s5).updC h3f (G4 nfo)
  ·have hg:¬ aQ i ns=true:=fun z=>g (of_decide_eq_true z)
   have hg':(!aQ i ns)=true:=by cases e:aQ i ns with
    | true=>exact absurd e hg
    | false=>rfl
   obtain ⟨ys,ey,ly⟩:=ho.len
   have lf:=FA (fun r=>!aQ i r) (ls.take k)
   rw [Do] at ly
   rw [E5] at lf
   refine aX (fun z=>g (by injection z)) ⟨_,rfl,.inl ⟨rfl,_,aj.of ey⟩,_,rfl,b,ns,1,rfl,aj.of (sm _ _ hb),by lia,fun c H5 s5 fc hc=>⟨po,_,_,rfl,rfl,s5 _ _ ey,gk (by lia),?_⟩⟩
   refine ⟨_,rfl,(sm.trans s5).upd fpo _,(st.same s5).upd po _,?_,?_,hlt⟩
   ·rw [upd_ne nfo,tk,if_neg hg,Ff]
    exact s5 _ _ hf
   ·rw [tk2,if_pos hg',ED]
    exact ho.push ey s5 fc hc (st.free' fc)
 ·rintro σ H5 ⟨o,rfl,sm,st,hf,ho,hk⟩
  rw [EL (by lia)] at hf ho
  refine ⟨_,rfl,(by show 1<=sizeLine; decide),fun p1 hp1=>?_⟩
  have k6:=ae.new (ae.refl H5) hp1 (.lst [.ref pf])
  have nf1:pf≠p1:=aq hf hp1
  have l1:aM H (upd H5 p1 (.lst [.ref pf])) p1 [(0:Int)::aE 1 (ls.filter (aQ i)).flatten]:=⟨[pf],upd_same,.cons ⟨(upd_ne nf1).trans hf,fpf,nf1⟩ .nil,by simp⟩
  have h1:upd H5 p1 (.lst [.ref pf]) p1=some (.lst [.ref pf]):=upd_same
  have lo:=ho.same k6
  have s6:=sm.trans k6
  generalize upd H5 p1 (.lst [.ref pf])=H6 at l1 h1 lo s6 |-
  obtain ⟨ys,ey,ly⟩:=lo.len
  have lf:=FA (fun r=>!aQ i r) ls
  rw [Do] at ly
  refine ⟨_,rfl,p1,po,_,_,rfl,rfl,h1,ey,sz (by simp; lia),fun p2 hp2=>?_⟩
  have s7:=ae.new s6 hp2 (.lst ([.ref pf]++ys))
  have l2:=l1.cat h1 lo ey s3 (fun c hc=>by
   have:c=pf:=by simpa using hc
   rw [this,h3f]; simp) hp2
  have h2:upd H6 p2 (.lst ([.ref pf]++ys)) p2=some (.lst ([.ref pf]++ys)):=upd_same
  generalize upd H6 p2 (.lst ([.ref pf]++ys))=H7 at s7 l2 h2 |-
  have ez7:=s7 _ _ ez
  refine ⟨_,rfl,r,rfl,⟨_,aj.of ez7⟩,fun D hD=>bM (xs:=zs) (fun k ws H'=>ae H7 H'/\H' D=some (.lst ws)/\aM H7 H' D ((rs.take k).map (aE ((i:Int)+1)))/\k<=rs.length) (sz (by lia)) ⟨ae.new (ae.refl H7) hD _,upd_same,aM.nil upd_same,EU _⟩ (fun k ws H' hk h=>⟨aj.of (h.1 _ _ ez7),?_⟩) (fun k v ws H' R R0 hx h r0 r1=>?_) (fun ws H' h=>?_)⟩
  ·obtain ⟨us,eu,lu⟩:=h.2.2.1.len
   rw [h.2.1] at eu
   cases eu
   rw [lu,Do,E5]
   lia
  ·obtain ⟨sk,hw,lk,hk⟩:=h
   obtain ⟨b,ns,rfl,hn,hb,_⟩:=hr2.at ez hx
   have hlt:k < rs.length:=(EC.mp hn).1
   have pO:=ln2.2 ns (ES hn)
   refine ⟨Ext.set rfl,fg (bg ⟨_,rfl,_,rfl,_,_,rfl,rfl,b,ns,_,rfl,aj.of ((s7.trans sk) _ _ hb),by lia,fun c H9 s9 fc hc=>r0 _ _ (s9 _ _ hw) ⟨(sk.trans s9).upd hD _,upd_same,?_,hlt⟩⟩)⟩
   rw [E3,hn,ED]
   exact lk.push hw s9 fc hc (sk.free fc)
  ·obtain ⟨sk,hw,lk,hk⟩:=h
   rw [EL (by lia)] at lk
   obtain ⟨us,eu,lu⟩:=lk.len
   rw [hw] at eu
   cases eu
   rw [Do] at lu
   refine ⟨p2,D,_,_,rfl,rfl,sk _ _ h2,hw,sz (by simp; lia),fun p hp=>?_⟩
   have s8:=s7.trans sk
   refine q p _ (ae.new s8 hp _) (s8.free hp) ?_
   exact (l2.same sk).cat (sk _ _ h2) lk hw s7 (fun c hc z=>by
    obtain ⟨b,ns,e,_,hb,_⟩:=l2.mem h2 hc
    cases e
    rw [hb] at z
    cases z) hp
theorem zI (aL:Al P w K mg base ca er 49) (F:cM K ca 49 "joined" "Floors.joined" r9):D P w K mg base ca er 49:=by
 refine de F (fun _ _ _ _ _ _=>gv fun _ _ _=>rfl) (F.ok ko (fun vs H Q E h=>?_) (fun cZ AZ oZ sZ H vs Q E hr h=>?_))
 ·obtain ⟨x,dx,fs,wd,vl,vr,bl,br,rfl,hx,fl,thl,thr,h39,q⟩:=h
  rfl
 obtain ⟨x,dx,fs,wd,vl,vr,bl,br,rfl,hx,fl,thl,thr,h39,q⟩:=h
 refine ⟨_,ai (aD (i:=3) ko.nd rfl (Fs rfl) (ao bh (aK bJ (pv 1) ag (fun _ _=>rfl)) ag))
  (ai (aD (i:=4) ko.nd rfl (Fs rfl) (ao bh (ao aB (pv 3) (aK bJ (pv 2) ag (fun _ _=>rfl))) ag))
  (ai (aD (i:=5) ko.nd rfl (Fs rfl) (ao dk (aK bJ (pv 1) ag (fun _ _=>rfl)) (aF (aL.g 39) hr (aa (aK bJ (pv 2) ag (fun _ _=>rfl)) (aa (pv 3) af)))))
  (kY (aO (aA iA (pv 3) ag (aC _)) (ah (aZ (cC E8 Fo Fp bz (pv 5) (aa (aP (aa ag (aa (pv 3) af))) af)))) aI)
  (kY (aO (aA iA (ao bh (pv 4) (pv 3)) ag (aC _)) (ah (aZ (cC E8 Fo Fp bz (pv 5) (aa (aP (aa (pv 3) (aa (pv 4) af))) af)))) aI)
  (ah (au (aP (aa (ao aB (pv 4) ag) (aa (aH gn rfl CA.dR dc (aa (pv 5) af)) af))))))))),?_⟩
 obtain ⟨_,tl,l,ps,rfl,_,htl,hl,pmp,rip⟩:=thl
 obtain ⟨_,tr,r,qs,rfl,_,htr,hr2,pmq,riq⟩:=thr
 have fp:=fT pmp rip
 have fq:=fT pmq riq
 have hij:bl.size+br.size<=40:=by lia
 have q:∀ (t p:EK) (cs:List Pair) (H':Hp),ae H H'->H t=none->H p=none->H' t=some (.tup [.int ((bl.size:Int)+(br.size:Int)+3),.ref p])->aT H' p cs->cs.Perm (cB bl.size br.size ps qs)->cs.Pairwise bD->Q (.ref t) H':=fun t p cs H' s f f' h h' pm ri=>q _ _ s ⟨t,p,cs,rfl,f',by rw [h,show (((Bt.node bl br).size:Nat):Int)+2=(bl.size:Int)+(br.size:Int)+3 by show ((bl.size+br.size+1:Nat):Int)+2=_; lia],h',pm.trans (kR bl br pmp pmq),ri⟩
 clear pmp pmq rip riq
 generalize bl.size=i at *
 generalize br.size=j at *
 have lp:=fp.len
 have lq:=fq.len
 have at0:∀ (c:Int) (a:EK),bX [V.int c,.ref a] 0=some (.int c):=fun _ _=>rfl
 have at1:∀ (c:Int) (a:EK),bX [V.int c,.ref a] 1=some (.ref a):=fun _ _=>rfl
 refine ⟨_,rfl,tl,_,_,_,rfl,rfl,bb.of htl,at0 _ _,_,_,rfl,rfl,?_⟩
 try dsimp only
 rw [show (i:Int)+2 - 1=(i:Int)+1 by lia]
 refine ⟨_,rfl,_,rfl,tr,_,_,_,rfl,rfl,bb.of htr,at0 _ _,_,_,rfl,rfl,_,_,rfl,rfl,?_⟩
 try dsimp only
 rw [show (i:Int)+1+((j:Int)+2) - 1=(i:Int)+(j:Int)+2 by lia]
 refine ⟨_,rfl,tl,_,_,_,rfl,rfl,bb.of htl,at1 _ _,_,rfl,tr,_,_,_,rfl,rfl,bb.of htr,at1 _ _,_,rfl,r,qs,_,rfl,hr2,by lia,fun pu H1 s1 fu hu=>?_⟩
 obtain ⟨xs,el,lx,prl⟩:=(hl.same s1).len
 obtain ⟨zs,ez,lz,prz⟩:=hu.len
 rw [Do] at lz
 refine ⟨l,pu,_,_,rfl,rfl,el,ez,sz (by lia),fun pc hpc=>?_⟩
 have s2:=ae.new s1 hpc (.lst (xs++zs))
 have fpc:H pc=none:=s1.free hpc
 have k2:=ae.new (ae.refl H1) hpc (.lst (xs++zs))
 have hc2:aT (upd H1 pc (.lst (xs++zs))) pc (ps++qs.map (up ((i:Int)+1))):=⟨_,upd_same,(prl.app prz).same k2⟩
 generalize upd H1 pc (.lst (xs++zs))=H2 at s2 hc2 |-
 refine ⟨fun σ H'=>σ=[some (.ref x),some (.ref tl),some (.ref tr),some (.int ((i:Int)+1)),some (.int ((i:Int)+(j:Int)+2)),some (.ref pc)]/\ae H H'/\aT H' pc (ps++qs.map (up ((i:Int)+1))++(if i=0 then [] else [(0,(i:Int)+1)])),?_,?_⟩
 ·refine ⟨_,rfl,_,_,rfl,rfl,_,rfl,?_⟩
  by_cases h:(i:Int)+1 > 1
  ·refine bB h ?_
   obtain ⟨ys,ey,ly,pry⟩:=hc2.len
   simp only [EA,Do] at ly
   refine ⟨_,rfl,.inl ⟨rfl,_,aj.of ey⟩,_,rfl,(by show 2<=sizeLine; decide),fun t1 ht1=>?_⟩
   refine ⟨pc,_,_,rfl,rfl,(upd_ne (aq ey ht1)).trans ey,gk (by lia),rfl,(ae.new s2 ht1 _).upd fpc _,?_⟩
   rw [if_neg (by lia)]
   exact aT.push ey pry ht1
  ·refine aX h ⟨rfl,s2,?_⟩
   rw [if_pos (by lia),Ff]
   exact hc2
 rintro σ H3 ⟨rfl,s3,hc3⟩
 refine ⟨fun σ H'=>σ=[some (.ref x),some (.ref tl),some (.ref tr),some (.int ((i:Int)+1)),some (.int ((i:Int)+(j:Int)+2)),some (.ref pc)]/\ae H H'/\aT H' pc (ps++qs.map (up ((i:Int)+1))++(if i=0 then [] else [(0,(i:Int)+1)])++(if j=0 then [] else [((i:Int)+1,(i:Int)+(j:Int)+2)])),?_,?_⟩
 ·refine ⟨_,rfl,_,rfl,_,_,rfl,rfl,_,_,rfl,rfl,_,rfl,?_⟩
  by_cases h:(i:Int)+(j:Int)+2 - ((i:Int)+1) > 1
  ·refine bB h ?_
   obtain ⟨ys,ey,ly,pry⟩:=hc3.len
   have l1:(if i=0 then ([]:List Pair) else [(0,(i:Int)+1)]).length<=1:=by split<;>simp
   simp only [EA,Do] at ly
   refine ⟨_,rfl,.inl ⟨rfl,_,aj.of ey⟩,_,rfl,_,rfl,(by show 2<=sizeLine; decide),fun t1 ht1=>?_⟩
   refine ⟨pc,_,_,rfl,rfl,(upd_ne (aq ey ht1)).trans ey,gk (by lia),rfl,(ae.new s3 ht1 _).upd fpc _,?_⟩
   rw [if_neg (show ¬ j=0 by lia)]
   exact aT.push ey pry ht1
  ·refine aX h ⟨rfl,s3,?_⟩
   rw [if_pos (show j=0 by lia),Ff]
   exact hc3
 rintro σ H4 ⟨rfl,s4,hc4⟩
 have pm4:(ps++qs.map (up ((i:Int)+1))++(if i=0 then [] else [(0,(i:Int)+1)])++(if j=0 then [] else [((i:Int)+1,(i:Int)+(j:Int)+2)])).Perm (cB i j ps qs):=by
  unfold cB dh
  rw [E9,E9,E9]
  refine Ga ps ?_
  exact Hw
 have l4:=pm4.length_eq
 have l5:=i6 fp fq
 refine ⟨_,rfl,_,_,rfl,rfl,_,rfl,pc,_,rfl,hc4,by lia,fun p cs H5 s5 fp5 hp5 pm5 rs5=>⟨(by show 2<=sizeLine; decide),fun t ht=>?_⟩⟩
 have s45:=s4.trans s5
 have s6:=ae.new (ae.refl H5) ht (.tup [.int ((i:Int)+(j:Int)+2+1),.ref p])
 have h6:upd H5 t (.tup [.int ((i:Int)+(j:Int)+2+1),.ref p]) t=some (.tup [.int ((i:Int)+(j:Int)+3),.ref p]):=by rw [upd_same,show (i:Int)+(j:Int)+2+1=(i:Int)+(j:Int)+3 by lia]
 exact q t p cs _ (s45.trans s6) (s45.free ht) (s4.free fp5) h6 (hp5.same s6) (pm5.trans pm4) rs5
theorem AV (aL:Al P w K mg base ca er 50) (F:cM K ca 50 "joined" "Turns.joined" qV):D P w K mg base ca er 50:=by
 refine de F (fun _ _ _ _ _ _=>gv fun _ _ _=>rfl) (F.ok zq (fun vs H Q E h=>?_) (fun cZ AZ oZ sZ H vs Q E hr h=>?_))
 ·obtain ⟨x,dx,fs,wd,vl,vr,bl,br,rfl,hx,fl,thl,thr,h39,q⟩:=h
  rfl
 obtain ⟨x,dx,fs,wd,vl,vr,bl,br,rfl,hx,fl,thl,thr,h39,q⟩:=h
 refine ⟨_,ah (au (ao dk (ao dk (aF (aL.g 41) hr (aa (pv 1) (aa ag af))) (ba (aa ag af))) (aF (aL.g 41) hr (aa (pv 2) (aa (ao aB (aH bw rfl CA.eE dj (aa (pv 1) af)) ag) af))))),?_⟩
 obtain ⟨_,l,rfl,_,hl⟩:=thl
 obtain ⟨_,r,rfl,_,hr2⟩:=thr
 have lps:(bN bl).length<=40:=by rw [b8]; lia
 have lqs:(bN br).length<=40:=by rw [b8]; lia
 have q:∀ (p:EK) (H':Hp),ae H H'->H p=none->H' p=some (.lst ((cS (bN bl) (bN br)).map V.int))->Q (.ref p) H':=fun p H' s f h=>q _ _ s ⟨p,rfl,f,h⟩
 generalize bN bl=ps at hl lps q
 generalize bN br=qs at hr2 lqs q
 have ml:(ps.map V.int).length=ps.length:=Do _
 refine ⟨_,rfl,l,ps,1,rfl,aj.of hl,by lia,fun D H1 s1 fD hD=>?_⟩
 refine ⟨(by show 1<=sizeLine; decide),fun p0 hp0=>?_⟩
 have s2:=ae.new s1 hp0 (.lst [.int 0])
 have nD0:D≠p0:=aq hD hp0
 refine ⟨D,p0,_,_,rfl,rfl,(upd_ne nD0).trans hD,upd_same,?_,fun p1 hp1=>?_⟩
 ·rw [Do,Do]; exact sz (by simp; lia)
 have s3:=ae.new s2 hp1 (.lst ((ps.map (·+1)).map V.int++[.int 0]))
 have h13:upd (upd H1 p0 (.lst [.int 0])) p1 (.lst ((ps.map (·+1)).map V.int++[.int 0])) p1=some (.lst ((ps.map (·+1)).map V.int++[.int 0])):=upd_same
 generalize upd (upd H1 p0 (.lst [.int 0])) p1 (.lst ((ps.map (·+1)).map V.int++[.int 0]))=H3 at s3 h13 |-
 refine ⟨_,rfl,_,rfl,l,_,rfl,.inl (aj.of (s3 _ _ hl)),_,_,rfl,rfl,?_⟩
 try dsimp only
 rw [ml]
 refine ⟨r,qs,_,rfl,aj.of (s3 _ _ hr2),by lia,fun D2 H4 s4 fD2 hD2=>?_⟩
 have s34:=s3.trans s4
 refine ⟨p1,D2,_,_,rfl,rfl,s4 _ _ h13,hD2,?_,fun p hp=>?_⟩
 ·simp only [EA,Do]; exact sz (by simp; lia)
 refine q p _ (ae.new s34 hp _) (s34.free hp) ?_
 rw [upd_same]
 unfold cS
 rw [ED,ED]
 rfl
theorem B9 (aL:Al P w K mg base ca er 52) (F:Fg K mg ca 52 "led_by_parts" sQ):D P w K mg base ca er 52:=by
 refine vp 2 41 (by decide) F (fun _ _ _ _ _ _=>gv fun _ _ _=>rfl) fun n gh=>bA.up (F.F.ok kA (fun vs H Q E h=>?_) (fun cZ AZ oZ sZ H vs Q E hr h=>?_))
 ·obtain ⟨fw,fu,hf,hu,x,dx,fs,wd,y,dy,gs,we,v,t,rfl,hx,fl,hy,gl,th,hn,h40,q⟩:=h
  rfl
 obtain ⟨fw,fu,hf,hu,x,dx,fs,wd,y,dy,gs,we,v,t,rfl,hx,fl,hy,gl,th,hn,h40,q⟩:=h
 refine ⟨_,ai (aO (aA b9 (xq (pv 0) CA.c4 CA.mt4_size_of (aL.g 33) hr (aa (pv 2) af) (hjk:=by lia)) ag (aC _)) (ah (au (DO (pv 1) CA.c4 CA.mt4_bare (aL.g 38) hr (hjk:=by lia)))) aI)
  (ai (aD (i:=3) kA.nd rfl (Fs rfl) (xq (pv 0) CA.c4 CA.mt4_parted (aL.g 46) hr (aa (pv 2) af) (hjk:=by lia)))
  (ai (aD (i:=4) kA.nd rfl (Fs rfl) (aF gh hr (aa (pv 0) (aa (pv 1) (aa (aK bJ (pv 3) ag (fun _ _=>rfl)) af))) (hjk:=by lia)))
  (ai (aD (i:=5) kA.nd rfl (Fs rfl) (aF gh hr (aa (pv 0) (aa (pv 1) (aa (aK bJ (pv 3) ag (fun _ _=>rfl)) af))) (hjk:=by lia)))
  (ah (au (xq (pv 1) CA.c4 CA.mt4_joined (aL.g 51) hr (aa (pv 4) (aa (pv 5) af)) (hjk:=by lia))))))),?_⟩
 refine ⟨fw,hf,_,rfl,x,dx,fs,rfl,hx,fl.no "size_of" (by decide) (by decide),_,rfl,x,v,t,rfl,th,by lia,fun H1 s1=>⟨rfl,_,rfl,?_⟩⟩
 cases t with
 | leaf=>exact bB rfl ⟨fu,hu,_,rfl,y,dy,gs,rfl,s1 _ _ hy,gl.no "bare" (by decide) (by decide),y,rfl,fun g H2 s2 tg=>q g H2 (s1.trans s2) (tg.since s1)⟩
 | node l r =>
  have hn:l.size+r.size+1=n:=hn
  refine aX (fun z=>by injection z with z; have z:((l.size+r.size+1:Nat):Int)=0:=z; lia) ?_
  refine ⟨fw,hf,_,rfl,x,dx,fs,rfl,s1 _ _ hx,fl.no "parted" (by decide) (by decide),_,rfl,x,v,l,r,rfl,th.same s1,by lia,fun p vl vr H2 s2 hp tl tr=>?_⟩
  have s12:=s1.trans s2
  refine ⟨_,rfl,_,rfl,_,rfl,p,_,_,_,rfl,rfl,bb.of hp,rfl,l.size,by lia,fw,fu,hf,hu,x,dx,fs,wd,y,dy,gs,we,vl,l,rfl,s12 _ _ hx,fl,s12 _ _ hy,gl,⟨_,tl⟩,rfl,by lia,fun g1 H3 s3 k3=>?_⟩
  have s13:=s12.trans s3
  refine ⟨_,rfl,_,rfl,_,rfl,p,_,_,_,rfl,rfl,bb.of (s3 _ _ hp),rfl,r.size,by lia,fw,fu,hf,hu,x,dx,fs,wd,y,dy,gs,we,vr,r,rfl,s13 _ _ hx,fl,s13 _ _ hy,gl,⟨_,tr.same s3⟩,rfl,by lia,fun g2 H4 s4 k4=>?_⟩
  have s14:=s13.trans s4
  exact ⟨fu,hu,_,rfl,y,dy,gs,rfl,s14 _ _ hy,gl.no "joined" (by decide) (by decide),_,rfl,_,rfl,y,dy,gs,we,g1,g2,l,r,rfl,s14 _ _ hy,gl,⟨_,k3.same s4⟩,⟨_,k4⟩,by lia,fun g H5 s5 tg=>q g H5 (s14.trans s5) (tg.since s14)⟩
theorem zt (aL:Al P w K mg base ca er 53) (F:Fg K mg ca 53 "by_parts" rS):D P w K mg base ca er 53:=by
 refine DR F (fun _ _ _ _ _ _=>gv fun _ _ _=>rfl) (F.F.okE BJ (fun vs H Q E h=>?_) (fun cZ AZ oZ sZ H vs Q E hr h=>?_))
 ·obtain ⟨fw,fu,hf,hu,x,dx,fs,wd,y,dy,gs,we,v,rfl,hx,fl,hy,gl,q⟩:=h
  rfl
 obtain ⟨fw,fu,hf,hu,x,dx,fs,wd,y,dy,gs,we,v,rfl,hx,fl,hy,gl,q⟩:=h
 refine ⟨_,ai (aZ (DS qf (pv 0) CA.c4 CA.mt4_refuse_other (fun _ _=>(aL.g 28)) hr (aa (pv 2) af)))
  (ah (au (aF (aL.g 52) hr (aa (pv 0) (aa (pv 1) (aa (pv 2) af)))))),?_⟩
 rcases q with ⟨t,th,h40,q⟩ | ⟨bad,q⟩
 ·refine ⟨fw,hf,_,rfl,x,dx,fs,rfl,hx,fl.no "refuse_other" (by decide) (by decide),_,rfl,fw,hf,x,dx,fs,wd,v,true,rfl,hx,fl,th.iso h40,fun _ H1 s1=>?_,nofun⟩
  exact ⟨_,rfl,_,rfl,_,rfl,t.size,by lia,fw,fu,hf,hu,x,dx,fs,wd,y,dy,gs,we,v,t,rfl,s1 _ _ hx,fl,s1 _ _ hy,gl,th.same s1,rfl,h40,fun g H2 s2 k=>q g H2 (s1.trans s2) (k.since s1)⟩
 ·exact ⟨fw,hf,_,rfl,x,dx,fs,rfl,hx,fl.no "refuse_other" (by decide) (by decide),_,rfl,fw,hf,x,dx,fs,wd,v,false,rfl,hx,fl,bad,nofun,fun _=>q⟩
theorem Ax (aL:Al P w K mg base ca er 54) (F:Fg K mg ca 54 "_law_amiss" sS):D P w K mg base ca er 54:=by
 refine eB F (fun _ _ _ _ _ _=>gv fun _ _ _=>rfl) (F.F.ok Bq (fun vs H Q E h=>?_) (fun cZ AZ oZ sZ H vs Q E hr h=>?_))
 ·obtain ⟨w,n,s,rfl,hw,n40,q⟩:=h
  rfl
 obtain ⟨w,n,s,rfl,hw,n40,q⟩:=h
 refine ⟨_,ai (aO (aA b9 (pv 2) ag (aC _)) (by refine' ah ?q1; (case q1=>refine' au ?q2; (case q2=>(with_reducible refine' aK a9 ?q3 ?q4 ?q5); (case q4=>exact pv 0); (case q5=>exact fun _ _=>rfl); (case q3=>repeat' (first | (with_reducible refine' ba ?_) | (with_reducible refine' aP ?_) | (with_reducible refine' uo ?_ ?_) | (with_reducible refine' w6 ?_ ?_) | refine' aa ag ?_ | exact af))))) aI)
  (ai (aO (aA b9 (pv 0) ag (aC _)) (ah (au (ao dk (bG rfl (c9 rfl CA.dX (aa (pv 1) af)) rfl rfl rfl rfl (N:=["_law_k","_law_size"]) (.own (.cap (j:=1) rfl rfl rfl .nil)) (fun _ _ _ _ _ _=>(az (i:=0) (by show FM (["_law_k","_law_size"]:List Str); decide +kernel) rfl (Fs rfl))) (fun _ _ _ _ _ _=>bI) (fun _ _ _ _ _ _=>(aP (aa (ao cx ag (pv 0)) (aa (ao aB (ao aB (ao cx ag (pv 0)) ag) (fI uE rfl CA.rp oO (aa (fh b9 (pv 0) (ao bh (pv 1) ag) (aC _)) af))) af))))) (ba (w6 (aP (aa (ao cx ag (pv 1)) (aa (ao cx ag (pv 1)) af))) af))))) aI)
  (ai (aO (aA b9 (pv 0) ag (aC _)) (ah (au (ao dk (bG rfl (c9 rfl CA.dX (aa (pv 1) af)) rfl rfl rfl rfl (N:=["_law_k"]) (.own .nil) (fun _ _ _ _ _ _=>(az (i:=0) (by show FM (["_law_k"]:List Str); decide +kernel) rfl (Fs rfl))) (fun _ _ _ _ _ _=>bI) (fun _ _ _ _ _ _=>(ba (aa (pv 0) af)))) (ba (uo (ba af) af))))) aI)
  (ai (aO (aA b9 (pv 0) ag (aC _)) (ah (au (aP (aa (ao aB (pv 1) ag) (aa (bG rfl (c9 rfl CA.dX (aa (pv 1) af)) rfl rfl rfl rfl (N:=["_law_k"]) (.own .nil) (fun _ _ _ _ _ _=>(az (i:=0) (by show FM (["_law_k"]:List Str); decide +kernel) rfl (Fs rfl))) (fun _ _ _ _ _ _=>bI) (fun _ _ _ _ _ _=>(aP (aa ag (aa (ao aB (pv 0) ag) af))))) af))))) aI)
  (ah (au (bG rfl (c9 rfl CA.dX (aa (ao aB (pv 1) ag) af)) rfl rfl rfl rfl (N:=["_law_k"]) (.own .nil) (fun _ _ _ _ _ _=>(az (i:=0) (by show FM (["_law_k"]:List Str); decide +kernel) rfl (Fs rfl))) (fun _ _ _ _ _ _=>bI) (fun _ _ _ _ _ _=>(ao aB (pv 0) ag)))))))),?_⟩
 refine ⟨_,rfl,rfl,_,rfl,?_⟩
 by_cases h0:s=0
 ·refine bB (by rw [h0]; rfl) ?_
  refine ⟨(by show 2<=sizeLine; decide),fun t1 f1=>⟨(by show 2<=sizeLine; decide),fun t2 f2=>⟨(by show 2<=sizeLine; decide),fun l1 f3=>⟨(by show 2<=sizeLine; decide),fun r1 f4=>⟨(by show 2<=sizeLine; decide),fun r2 f5=>⟨(by show 2<=sizeLine; decide),fun l2 f6=>⟨(by show 2<=sizeLine; decide),fun t3 f7=>⟨(by show 2<=sizeLine; decide),fun t4 f8=>⟨(by show 2<=sizeLine; decide),fun l3 f9=>⟨(by show 2<=sizeLine; decide),fun t5 f10=>⟨(by show 3<=sizeLine; decide),fun l4 f11=>⟨(by show 4<=sizeLine; decide),fun L f12=>?_⟩⟩⟩⟩⟩⟩⟩⟩⟩⟩⟩⟩
  have s1:=ae.new (ae.refl _) f1 (.tup [.int 0,.int 2])
  have s2:=ae.new (ae.refl _) f2 (.tup [.int 1,.int 3])
  have s3:=ae.new (ae.refl _) f3 (.lst [.ref t1,.ref t2])
  have s4:=ae.new (ae.refl _) f4 (.lst [.int 0,.int 2])
  have s5:=ae.new (ae.refl _) f5 (.lst [.int 1,.int 3])
  have s6:=ae.new (ae.refl _) f6 (.lst [.ref r1,.ref r2])
  have s7:=ae.new (ae.refl _) f7 (.tup [.int 0,.int 2])
  have s8:=ae.new (ae.refl _) f8 (.tup [.int 1,.int 3])
  have s9:=ae.new (ae.refl _) f9 (.lst [.ref t3,.ref t4])
  have s10:=ae.new (ae.refl _) f10 (.tup [.int 5,.ref l3])
  have s11:=ae.new (ae.refl _) f11 (.lst [.int 2,.int 0,.int 1])
  have s12:=ae.new (ae.refl _) f12 (.lst [.ref l1,.ref l2,.ref t5,.ref l4])
  have T12:=s12
  have T11:=s11.trans T12
  have T10:=s10.trans T11
  have T9:=s9.trans T10
  have T8:=s8.trans T9
  have T7:=s7.trans T8
  have T6:=s6.trans T7
  have T5:=s5.trans T6
  have T4:=s4.trans T5
  have T3:=s3.trans T4
  have T2:=s2.trans T3
  have T1:=s1.trans T2
  have h4:H r1=none:=(s1.trans (s2.trans s3)).free f4
  have h5:H r2=none:=(s1.trans (s2.trans (s3.trans s4))).free f5
  have n1:r1≠l2:=aq (s5 _ _ upd_same) f6
  have n2:r2≠l2:=aq upd_same f6
  have n3:r1≠r2:=aq upd_same f5
  rcases (by lia:w=0\/w=1\/w=2\/w=3) with rfl | rfl | rfl | rfl
  ·exact ⟨_,rfl,L,_,_,_,rfl,rfl,aj.of upd_same,rfl,q _ _ T1 ⟨l1,[(0,2),(1,3)],rfl,⟨_,T4 _ _ upd_same,.cons ⟨t1,rfl,T2 _ _ upd_same⟩ (.cons ⟨t2,rfl,T3 _ _ upd_same⟩ .nil)⟩,by decide,CG⟩⟩
  ·exact ⟨_,rfl,L,_,_,_,rfl,rfl,aj.of upd_same,rfl,q _ _ T1 ⟨l2,H,[[0,2],[1,3]],rfl,⟨[r1,r2],T7 _ _ upd_same,.cons ⟨T5 _ _ upd_same,h4,n1⟩ (.cons ⟨T6 _ _ upd_same,h5,n2⟩ .nil),by simp [n3]⟩,by decide,by decide,by decide,CI⟩⟩
  ·exact ⟨_,rfl,L,_,_,_,rfl,rfl,aj.of upd_same,rfl,q _ _ T1 ⟨t5,l3,5,[(0,2),(1,3)],rfl,T11 _ _ upd_same,⟨_,T10 _ _ upd_same,.cons ⟨t3,rfl,T8 _ _ upd_same⟩ (.cons ⟨t4,rfl,T9 _ _ upd_same⟩ .nil)⟩,by decide,Cv⟩⟩
  ·exact ⟨_,rfl,L,_,_,_,rfl,rfl,aj.of upd_same,rfl,q _ _ T1 ⟨l4,[2,0,1],rfl,T12 _ _ upd_same,by decide,C7⟩⟩
 refine aX (fun z=>h0 (by injection z with z; lia)) ⟨_,rfl,rfl,_,rfl,?_⟩
 rcases (by lia:w=0\/w=1\/w=2\/w=3) with rfl | rfl | rfl | rfl
 ·refine bB rfl ⟨_,rfl,_,rfl,by lia,by lia,fun D hD=>gK (lo:=0) (n:=((n:Nat):Int).toNat) (fun i ys H'=>ae H H'/\H' D=some (.lst ys)/\bu H' ys ((EM i).map fun (k:Nat)=>((2*(k:Int),2*(k:Int)+1+if decide (k+1=n)=true then 1 else 0):Pair))/\ys.length<=i) (sz (by lia)) ⟨ae.new (ae.refl H) hD _,upd_same,.nil,EF _⟩ (fun i ys H' _ h=>h.2.2.2) ?_ ?_⟩
  ·rintro i ys H5 R R0 hi ⟨s5,hD5,pr,ly⟩ hR hR0
   refine ⟨Ext.set rfl,fg (bg ⟨_,rfl,_,_,rfl,rfl,.inl ⟨by decide,by decide⟩,_,rfl,_,_,rfl,rfl,.inl ⟨by decide,by decide⟩,_,_,rfl,rfl,_,rfl,_,rfl,_,_,rfl,rfl,rfl,.inr ⟨_,rfl,_,_,rfl,rfl,(by show 2<=sizeLine; decide),fun b hb=>?_⟩⟩)⟩
   have ee:decide (V.int ((0:Int)+(i:Int))=V.int ((n:Int) - 1))=decide (i+1=n):=by
    by_cases c:i+1=n
    ·rw [decide_eq_true c]
     exact decide_eq_true (congrArg V.int (by lia))
    ·rw [decide_eq_false c]
     exact decide_eq_false fun z=>c (by injection z with z; lia)
   dsimp only
   rw [ee,Hx]
   have hy:=(upd_ne (o:=.tup [.int (2*(i:Int)),.int (2*(i:Int)+1+if decide (i+1=n)=true then 1 else 0)]) (aq hD5 hb)).trans hD5
   refine hR _ _ hy ⟨(ae.new s5 hb _).upd hD _,upd_same,?_,by rw [EA]; exact KB ly⟩
   have:=((pr.updN hb (.tup [.int (2*(i:Int)),.int (2*(i:Int)+1+if decide (i+1=n)=true then 1 else 0)])).snoc (t:=b) (p:=(2*(i:Int),2*(i:Int)+1+if decide (i+1=n)=true then 1 else 0)) upd_same).updL hy (.lst (ys++[.ref b]))
   rw [GQ,ED]
   exact this
  ·rintro ys H5 ⟨s5,hD5,pr,ly⟩
   have lp:=pr.length
   rw [Do,FR] at lp
   rw [Gy] at pr
   refine ⟨_,rfl,_,_,rfl,rfl,.inl ⟨by decide,by decide⟩,_,rfl,_,_,rfl,rfl,.inl ⟨by decide,by decide⟩,(by show 2<=sizeLine; decide),fun t ht=>⟨(by show 1<=sizeLine; decide),fun p hp=>?_⟩⟩
   have k1:=ae.new (ae.refl H5) ht (.tup [.int (2*(n:Int)),.int (2*(n:Int))])
   have k2:=ae.new (ae.refl _) hp (.lst [.ref t])
   refine ⟨D,p,_,_,rfl,rfl,(k1.trans k2) _ _ hD5,upd_same,sz (by simp; lia),fun r hr=>?_⟩
   have k3:=ae.new (ae.refl _) hr (.lst (ys++[.ref t]))
   exact q _ _ (s5.trans (k1.trans (k2.trans k3))) ⟨r,qk n,rfl,⟨_,upd_same,(pr.same (k1.trans (k2.trans k3))).snoc (t:=t) (p:=(2*(n:Int),2*(n:Int))) ((k2.trans k3) _ _ upd_same)⟩,by unfold qk; rw [EA,Do,FR]; show _+1<=_; lia,AK n⟩
 ·refine aX (by decide) ⟨_,rfl,rfl,_,rfl,bB rfl ⟨_,rfl,_,rfl,by lia,by lia,fun D hD=>gK (lo:=0) (n:=((n:Nat):Int).toNat) (fun i ys H'=>ae H H'/\H' D=some (.lst ys)/\aM H H' D ((EM i).map fun (k:Nat)=>[(k:Int)])/\ys.length<=i) (sz (by lia)) ⟨ae.new (ae.refl H) hD _,upd_same,aM.nil upd_same,EF _⟩ (fun i ys H' _ h=>h.2.2.2) ?_ ?_⟩⟩
  ·rintro i ys H5 R R0 hi ⟨s5,hD5,ll,ly⟩ hR hR0
   refine ⟨Ext.set rfl,fg (bg ⟨_,rfl,(by show 1<=sizeLine; decide),fun b hb=>?_⟩)⟩
   have hy:=(upd_ne (o:=.lst [.int ((0:Int)+(i:Int))]) (aq hD5 hb)).trans hD5
   refine hR _ _ hy ⟨(ae.new s5 hb _).upd hD _,upd_same,?_,by rw [EA]; exact KB ly⟩
   rw [GQ,ED]
   have:=ll.snoc hD5 hb (s5.free hb) [(0:Int)+(i:Int)]
   rw [Hx] at this |-
   exact this
  ·rintro ys H5 ⟨s5,hD5,ll,ly⟩
   rw [Gy] at ll ly
   refine ⟨EU _,fun e he=>⟨(by show 1<=sizeLine; decide),fun p hp=>?_⟩⟩
   have k1:=ae.new (ae.refl H5) he (.lst [])
   have k2:=ae.new (ae.refl _) hp (.lst [.ref e])
   have lk:aM H5 (upd (upd H5 e (.lst [])) p (.lst [.ref e])) p [[]]:=⟨[e],upd_same,.cons ⟨k2 _ _ upd_same,he,aq upd_same hp⟩ .nil,by simp⟩
   refine ⟨D,p,_,_,rfl,rfl,(k1.trans k2) _ _ hD5,upd_same,sz (by simp; lia),fun r hr=>?_⟩
   have k3:=ae.new (ae.refl _) hr (.lst (ys++[.ref e]))
   have l3:=(ll.same (k1.trans k2)).cat ((k1.trans k2) _ _ hD5) lk upd_same s5 (fun c hc z=>by
    obtain ⟨b,ns,e,_,hb,_⟩:=ll.mem hD5 hc
    cases e
    rw [hb] at z
    cases z) hr
   have fl:∀ m:Nat,((EM m).map fun (k:Nat)=>[(k:Int)]).flatten.length=m:=fun m=>by
    induction m with
    | zero=>rfl
    | succ m ih=>rw [GQ,ED,GJ,EA,ih]; rfl
   refine q _ _ (s5.trans (k1.trans (k2.trans k3))) ⟨r,H,_,rfl,l3,by rw [EA,Do,FR]; show _+1<=_; lia,by rw [GJ,EA,fl]; show _+0 < _; lia,fun z hz=>?_,zz _⟩
   rcases EN.mp hz with y | y
   ·obtain ⟨_,_,rfl⟩:=ER.mp y
    show 1 < 64
    decide
   ·rw [FY.mp y]
    decide
 ·refine aX (by decide) ⟨_,rfl,rfl,_,rfl,aX (by decide) ⟨_,rfl,rfl,_,rfl,bB rfl ⟨_,rfl,_,_,rfl,rfl,_,rfl,_,rfl,by lia,by lia,fun D hD=>gK (lo:=0) (n:=((n:Nat):Int).toNat) (fun i ys H'=>ae H H'/\H' D=some (.lst ys)/\bu H' ys ((EM i).map fun (k:Nat)=>((0,(k:Int)+2):Pair))/\ys.length<=i) (sz (by lia)) ⟨ae.new (ae.refl H) hD _,upd_same,.nil,EF _⟩ (fun i ys H' _ h=>h.2.2.2) ?_ ?_⟩⟩⟩
  ·rintro i ys H5 R R0 hi ⟨s5,hD5,pr,ly⟩ hR hR0
   refine ⟨Ext.set rfl,fg (bg ⟨_,rfl,_,_,rfl,rfl,(by show 2<=sizeLine; decide),fun b hb=>?_⟩)⟩
   have hy:=(upd_ne (o:=.tup [.int 0,.int ((0:Int)+(i:Int)+2)]) (aq hD5 hb)).trans hD5
   refine hR _ _ hy ⟨(ae.new s5 hb _).upd hD _,upd_same,?_,by rw [EA]; exact KB ly⟩
   have:=((pr.updN hb (.tup [.int 0,.int ((0:Int)+(i:Int)+2)])).snoc (t:=b) (p:=(0,(0:Int)+(i:Int)+2)) upd_same).updL hy (.lst (ys++[.ref b]))
   rw [GQ,ED]
   rw [Hx] at this |-
   exact this
  ·rintro ys H5 ⟨s5,hD5,pr,ly⟩
   refine ⟨(by show 2<=sizeLine; decide),fun t ht=>?_⟩
   have s6:=ae.new (ae.refl H5) ht (.tup [.int ((n:Int)+4),.ref D])
   exact q _ _ (s5.trans s6) ⟨t,D,_,_,rfl,upd_same,⟨ys,s6 _ _ hD5,pr.same s6⟩,by rw [Do,FR]; lia,zO (by rw [Do,FR]; lia)⟩
 ·refine aX (by decide) ⟨_,rfl,rfl,_,rfl,aX (by decide) ⟨_,rfl,rfl,_,rfl,aX (by decide) ⟨_,rfl,_,_,rfl,rfl,_,rfl,by lia,by lia,fun D hD=>rY (lo:=0) (n:=((n:Int)+1).toNat) (fun (k:Nat)=>.int ((k:Int)+1)) (sz (by lia)) (fun k H4 R R0 hk hb hR=>?_) ?_⟩⟩⟩
  ·refine ⟨Ext.set rfl,fg (bg ⟨_,rfl,_,_,rfl,rfl,?_⟩)⟩
   rw [Hx]
   exact hR
  ·have s6:=ae.new (ae.refl H) hD (.lst ((EM ((n:Int)+1).toNat).map fun (k:Nat)=>V.int ((k:Int)+1)))
   refine q _ _ s6 ⟨D,(EM (n+1)).map fun (k:Nat)=>(k:Int)+1,rfl,?_,by rw [Do,FR]; lia,AO n⟩
   rw [upd_same,show ((n:Int)+1).toNat=n+1 by lia,FG]
   rfl
theorem zQ (aL:Al P w K mg base ca er 55) (F:Fg K mg ca 55 "_law_alike" su):D P w K mg base ca er 55:=by
 refine vp 0 5 (by decide) F (fun _ _ _ _ _ _=>eX fun _ _=>rfl) fun n gh=>bA.up (F.F.ok tE (fun vs H Q E h=>?_) (fun cZ AZ oZ sZ H vs Q E hr h=>?_))
 ·obtain ⟨x,y,t,rfl,rx,ry,hd,q⟩:=h
  rfl
 obtain ⟨x,y,t,rfl,rx,ry,hd,q⟩:=h
 refine ⟨_,ai (aO (cz (aH bP rfl CA.bK bE (aa (pv 1) (aa (dB (v:=.ty "int") rfl CA.rp oO rfl) af)))) (ah (au (gi (aH bP rfl CA.bK bE (aa (pv 0) (aa (dB (v:=.ty "int") rfl CA.rp oO rfl) af))) (gi (nA (aH bP rfl CA.bK bE (aa (pv 0) (aa (dB (v:=.ty "bool") rfl CA.B6 ye rfl) af)))) (iQ (fh b9 (pv 0) (pv 1) (aC _))))))) aI)
  (ai (aO (cz (aH bP rfl CA.bK bE (aa (pv 1) (aa (dB (v:=.ty "list") rfl CA.dZ dD rfl) af)))) (ah (aO (fK (cz (aH bP rfl CA.bK bE (aa (pv 0) (aa (dB (v:=.ty "list") rfl CA.dZ dD rfl) af))))) (ah (au cj)) aI)) (ah (aO (fK (cz (aH bP rfl CA.bK bE (aa (pv 0) (aa (dB (v:=.ty "tuple") rfl CA.kQ jF rfl) af))))) (ah (au cj)) aI)))
  (ai (aO (aA sF (aH bw rfl CA.eE dj (aa (pv 0) af)) (aH bw rfl CA.eE dj (aa (pv 1) af)) (aC _)) (ah (au cj)) aI)
  (ai (b7 FC rfl (c9 rfl CA.dX (aa (aH bw rfl CA.eE dj (aa (pv 1) af)) af)) (az (i:=2) tE.nd rfl (Fs rfl)) (ah (aO (fK (cz (aF gh hr (aa (aK uD (pv 0) (pv 2) (fun _ _=>rfl)) (aa (aK uD (pv 1) (pv 2) (fun _ _=>rfl)) af)) (hjk:=by lia)))) (ah (au cj)) aI)))
  (ah (au cj))))),?_⟩
 rcases t with i | ts | ts
 ·unfold Rep at rx ry
  subst rx ry
  exact ⟨_,rfl,_,_,_,_,_,rfl,cA,.int _,jq,_,rfl,bg ⟨_,rfl,_,_,_,_,_,rfl,cA,.int _,jq,_,rfl,bg ⟨_,rfl,_,_,_,_,_,rfl,cA,.int _,oP,_,rfl,_,rfl,bg ⟨_,rfl,_,rfl,rfl,by rw [decide_eq_true rfl]; exact q⟩⟩⟩⟩
 all_goals
  unfold Rep at rx ry
  unfold dep at hd
  obtain ⟨p,xs,rfl,hp,lts,rx⟩:=rx
  obtain ⟨r,ys,rfl,hr',_,ry⟩:=ry
  have sx:aj K H p xs\/bb K H p xs:=by first | exact .inl (aj.of hp) | exact .inr (bb.of hp)
  have sy:aj K H r ys\/bb K H r ys:=by first | exact .inl (aj.of hr') | exact .inr (bb.of hr')
  have l1:=rx.length
  have l2:=ry.length
  have e0:V.int (xs.length:Int)=V.int (ys.length:Int):=congrArg V.int (by lia)
  first
   | refine ⟨_,rfl,_,_,_,_,_,rfl,cA,.lst hr',oC,_,rfl,bH ⟨_,rfl,_,_,_,_,_,rfl,cA,.lst hr',eC,_,rfl,bg ⟨_,rfl,_,_,_,_,_,rfl,cA,.lst hp,eC,_,rfl,bH ?_⟩⟩⟩
   | refine ⟨_,rfl,_,_,_,_,_,rfl,cA,.tup hr',mM,_,rfl,bH ⟨_,rfl,_,_,_,_,_,rfl,cA,.tup hr',fA,_,rfl,bH ⟨_,rfl,_,_,_,_,_,rfl,cA,.tup hp,eQ,_,rfl,bH ?_⟩⟩⟩
  refine ⟨_,rfl,p,xs,rfl,sx,_,rfl,r,ys,rfl,sy,rfl,_,rfl,qN e0 ?_⟩
  refine ⟨_,rfl,r,ys,rfl,sy,_,rfl,by lia,by lia,gF (lo:=0) (n:=((ys.length:Nat):Int).toNat) (fun i σ H'=>H=H'/\∃ o,σ=[some (.ref p),some (.ref r),o]) ⟨rfl,_,rfl⟩ ?_ ?_⟩
  ·rintro i σ H' hi ⟨rfl,o,rfl⟩
   have hi':i < ys.length:=by lia
   obtain ⟨t1,et1,r1⟩:=rx.get (Da (show i < xs.length by lia))
   obtain ⟨t2,et2,r2⟩:=ry.get (Da hi')
   rw [et1] at et2
   cases et2
   have dt:=jW et1
   have ax:bX xs ((0:Int)+(i:Int))=some xs[i]:=by rw [Hx]; exact fB (Da (show i < xs.length by lia))
   have ay:bX ys ((0:Int)+(i:Int))=some ys[i]:=by rw [Hx]; exact fB (Da hi')
   have ix:∀ (a:EK) (zs:List V) (z:V) (Q':VK),(aj K H a zs\/bb K H a zs)->bX zs ((0:Int)+(i:Int))=some z->Q' z H->Dj K (.ref a) (.int ((0:Int)+(i:Int))) H Q':=fun a zs z Q' h e q=>by
    rcases h with h | h
    ·exact .inl ⟨a,_,_,_,rfl,rfl,h,e,q⟩
    ·exact .inr (.inl ⟨a,_,_,_,rfl,rfl,h,e,q⟩)
   exact ⟨_,rfl,_,rfl,ix p xs _ _ sx ax ⟨_,rfl,_,rfl,ix r ys _ _ sy ay ⟨dep t1,by lia,_,_,t1,rfl,r1,r2,EF _,_,rfl,bH ⟨rfl,_,rfl⟩⟩⟩⟩
  ·rintro σ H' ⟨rfl,o,rfl⟩
   exact q
theorem zD (aL:Al P w K mg base ca er 56) (F:Fg K mg ca 56 "_law_spoiled" rA):D P w K mg base ca er 56:=by
 refine eB F (fun _ _ _ _ _ _=>eO fun _=>rfl) (F.F.ok uA (fun vs H Q E h=>?_) (fun cZ AZ oZ sZ H vs Q E hr h=>?_))
 ·obtain ⟨w,v,t,H0,H1,rfl,hw,th,sm,h40,q⟩:=h
  rfl
 obtain ⟨w,v,t,H0,H1,rfl,hw,th,sm,h40,q⟩:=h
 refine ⟨_,ah (aO (cz (aH bP rfl CA.bK bE (aa (pv 0) (aa (dB (v:=.ty "tuple") rfl CA.kQ jF rfl) af)))) (ah (aZ (cC E8 Fo Fp bz (aK bJ (pv 0) ag (fun _ _=>rfl)) (aa (aP (aa ag (aa ag af))) af)))) (ai (b7 FC rfl (aN (pv 0)) (az (i:=1) uA.nd rfl (Fs rfl)) (ah (aO (cz (aH bP rfl CA.bK bE (aa (pv 1) (aa (dB (v:=.ty "list") rfl CA.dZ dD rfl) af)))) (ah (aZ (cC E8 Fo Fp bz (pv 1) (aa ag af)))) aI)))
  (ah (aZ (cC E8 Fo Fp bz (pv 0) (aa (ba (aa ag af)) af)))))),?_⟩
 rcases (by lia:w=2\/w≠2) with rfl | h2
 ·obtain ⟨u,l,cs,rfl,n0,ht,hl,pm,ri⟩:=th
  obtain ⟨xs,el,lx,_⟩:=hl.len
  have lc:=(fT pm ri).len
  have at1:∀ (c:Int) (a:EK),bX [V.int c,.ref a] 1=some (.ref a):=fun _ _=>rfl
  have el2:=sm _ _ el
  refine ⟨_,rfl,_,_,_,_,_,rfl,cA,.tup (sm _ _ ht),eQ,_,rfl,bg ⟨_,rfl,u,_,_,_,rfl,rfl,bb.of (sm _ _ ht),at1 _ _,.inl ⟨rfl,_,aj.of el2⟩,(by show 2<=sizeLine; decide),fun t3 ht3=>⟨l,_,_,rfl,rfl,(upd_ne (aq el2 ht3)).trans el2,gk (by lia),?_⟩⟩⟩
  exact q _ (((eW.refl H0 H1 H).new ht3 _).put sm el n0 _)
 obtain ⟨l,xs,rfl,el,n0,lx,al⟩:=th.list h2 h40
 have el2:=sm _ _ el
 refine ⟨_,rfl,_,_,_,_,_,rfl,cA,.lst el2,gZ,_,rfl,bH ⟨_,rfl,l,rfl,⟨_,aj.of el2⟩,bQ (xs:=xs) (fun k σ H'=>∃ (o:Option V),σ=[some (.ref l),o]/\H' l=some (.lst xs)/\eW H0 H1 H H'/\∀ x∈xs,(∃ i,x = .int i)\/(∃ b ys,x = .ref b/\H' b=some (.tup ys))\/(∃ b ns ms,x = .ref b/\b≠l/\H1 b=some (.lst ns)/\H0 b=none/\H' b=some (.lst ms)/\ms.length<=1000+k)) ⟨_,rfl,el2,eW.refl _ _ _,fun x hx=>?_⟩ (fun k σ H' _ h=>by obtain ⟨o,_,h,_⟩:=h; exact aj.of h) ?_ ?_⟩⟩
 ·rcases al x hx with h | ⟨b,ys,e,h⟩ | ⟨b,ns,e,n,h,f,z⟩
  ·exact .inl h
  ·exact .inr (.inl ⟨b,ys,e,sm _ _ h⟩)
  ·exact .inr (.inr ⟨b,ns,ns,e,n,h,f,sm _ _ h,z⟩)
 ·rintro k v σ H' hv ⟨o,rfl,h1,sp,al⟩
  have hk:k < xs.length:=(EC.mp hv).1
  have mono:∀ x∈xs,(∃ i,x = .int i)\/(∃ b ys,x = .ref b/\H' b=some (.tup ys))\/(∃ b ns ms,x = .ref b/\b≠l/\H1 b=some (.lst ns)/\H0 b=none/\H' b=some (.lst ms)/\ms.length<=1000+(k+1)):=fun x hx=>by
   rcases al x hx with h | h | ⟨b,ns,ms,e,n,h,f,g,z⟩
   ·exact .inl h
   ·exact .inr (.inl h)
   ·exact .inr (.inr ⟨b,ns,ms,e,n,h,f,g,by lia⟩)
  rcases al _ (ES hv) with ⟨i,rfl⟩ | ⟨b,ys,rfl,h⟩ | ⟨b,ns,ms,rfl,n,h,f,g,z⟩
  ·exact ⟨_,rfl,_,_,_,_,_,rfl,cA,.int i,rfl,_,rfl,bH ⟨_,rfl,h1,sp,mono⟩⟩
  ·exact ⟨_,rfl,_,_,_,_,_,rfl,cA,.tup h,fA,_,rfl,bH ⟨_,rfl,h1,sp,mono⟩⟩
  ·refine ⟨_,rfl,_,_,_,_,_,rfl,cA,.lst g,eC,_,rfl,bg ⟨_,rfl,.inl ⟨rfl,_,aj.of g⟩,b,_,_,rfl,rfl,g,gk (by lia),?_⟩⟩
   refine ⟨_,rfl,(upd_ne (G4 n)).trans h1,sp.put sm h f _,fun x hx=>?_⟩
   rcases mono x hx with h | ⟨b',ys,e,h⟩ | ⟨b',ns',ms',e,n',h',f',g',z'⟩
   ·exact .inl h
   ·refine .inr (.inl ⟨b',ys,e,?_⟩)
    rw [upd_ne (fun y=>by rw [y,g] at h; cases h)]
    exact h
   ·by_cases y:b'=b
    ·subst y
     exact .inr (.inr ⟨b',ns',_,e,n',h',f',upd_same,by rw [EA]; simp; lia⟩)
    ·exact .inr (.inr ⟨b',ns',ms',e,n',h',f',(upd_ne y).trans g',z'⟩)
 ·rintro σ H' ⟨o,rfl,h1,sp,_⟩
  exact ⟨_,rfl,.inl ⟨rfl,_,aj.of h1⟩,(by show 1<=sizeLine; decide),fun c hc=>⟨l,_,_,rfl,rfl,(upd_ne (aq h1 hc)).trans h1,gk (by lia),q _ ((sp.new hc _).put sm el n0 _)⟩⟩
theorem Bg (aL:Al P w K mg base ca er 57) (F:cM K ca 57 "law" "law" i9):bA P w K mg base kO 46 (ca.f 57) (ca.fd 57) ["_law_script"] (Bc K ca er):=by
 refine F.ok cK (fun vs H Q E h=>?_) (fun cZ AZ oZ sZ H vs Q E hr h=>?_)
 ·obtain ⟨a,ns,rfl,hS,h63,q⟩:=h
  rfl
 obtain ⟨a,ns,rfl,hS,h63,q⟩:=h
 refine ⟨_,ai (aD (i:=1) cK.nd rfl (Fs rfl) (ao eh (ao gx (aF (aL.g 0) hr (aa (pv 0) (aa ag af))) ag) ag))
  (ai (aD (i:=2) cK.nd rfl (Fs rfl) (ao eh (aF (aL.g 0) hr (aa (pv 0) (aa ag af))) ag))
  (ai (aD (i:=3) cK.nd rfl (Fs rfl) (ao eh (ao gx (aF (aL.g 0) hr (aa (pv 0) (aa ag af))) ag) ag))
  (ai (aD (i:=4) cK.nd rfl (Fs rfl) (aF (aL.g 1) hr (aa ag af)))
  (ai (aD (i:=5) cK.nd rfl (Fs rfl) (aF (aL.g 2) hr (aa (pv 0) (aa (pv 1) (aa (pv 4) af)))))
  (ai (aD (i:=6) cK.nd rfl (Fs rfl) (aF (aL.g 8) hr (aa (pv 2) (aa (pv 1) (aa (pv 5) (aa (pv 4) af))))))
  (ai (aD (i:=7) cK.nd rfl (Fs rfl) (aF (aL.g 8) hr (aa (pv 3) (aa (pv 1) (aa (pv 5) (aa (pv 4) af))))))
  (ai (aD (i:=8) cK.nd rfl (Fs rfl) (ba (aa (aF (aL.g 15) hr (aa (pv 2) af)) (aa (aF (aL.g 15) hr (aa (pv 3) af)) af))))
  (ai (aD (i:=9) cK.nd rfl (Fs rfl) (aF (aL.g 16) hr (aa (pv 6) af)))
  (ai (aD (i:=10) cK.nd rfl (Fs rfl) cj)
  (ai (vz rfl rfl rfl rfl EO.m_thing (yC (aL.g 53) hr (fun _ _=>(aa (aK (iy (K:=K) rfl) (pv 8) ag (fun _ _=>rfl)) (aa (aK (iy (K:=K) rfl) (pv 8) ag (fun _ _=>rfl)) (aa (aF (aL.g 54) hr (aa (pv 2) (aa (pv 1) (aa (ao eh (aF (aL.g 0) hr (aa (pv 0) (aa ag af))) ag) af)))) af))))) (fun _=>(ah (aD (i:=10) cK.nd rfl (Fs rfl) cj))))
  (ai (aO (fK (cz (pv 10))) (ah (au cj)) aI)
  (ai (b7 FC rfl (c9 rfl CA.dX (aa ag af)) (az (i:=11) cK.nd rfl (Fs rfl)) (ai (aD (i:=12) cK.nd rfl (Fs rfl) (aF (aL.g 53) hr (aa (aK a9 (pv 8) ag (fun _ _=>rfl)) (aa (aK a9 (pv 8) ag (fun _ _=>rfl)) (aa (pv 9) af)))))
  (ai (aO (fK (cz (aF (aL.g 55) hr (aa (pv 12) (aa (pv 7) af))))) (ah (au cj)) aI)
  (ai (aZ (aF (aL.g 56) hr (aa (pv 12) af)))
  (ah (aO (aA (iT (e8 hr)) (pv 9) (pv 6) (aC _)) (ah (au cj)) aI))))))
  (ah (au cj)))))))))))))),?_⟩
 have w0:=GT (ns.getD (0:Int).toNat 0) (show (4:Int)≠0 by decide)
 have w3:=Hd (ns.getD (0:Int).toNat 0) (show (0:Int) < 4 by decide)
 have u0:=GT (ns.getD (0:Int).toNat 0 / 4) (show (4:Int)≠0 by decide)
 have u3:=Hd (ns.getD (0:Int).toNat 0 / 4) (show (0:Int) < 4 by decide)
 have z0:=GT (ns.getD (0:Int).toNat 0 / 16) (show (41:Int)≠0 by decide)
 have z1:=Hd (ns.getD (0:Int).toNat 0 / 16) (show (0:Int) < 41 by decide)
 have g0:=GT (ns.getD (3:Int).toNat 0) (show (2:Int)≠0 by decide)
 refine ⟨_,rfl,a,ns,0,rfl,hS,by decide,_,_,rfl,rfl,⟨by decide,by decide +kernel⟩,_,_,rfl,rfl,pm (by decide),?_⟩
 refine ⟨_,rfl,a,ns,0,rfl,hS,by decide,_,_,rfl,rfl,pm (by decide),?_⟩
 refine ⟨_,rfl,a,ns,0,rfl,hS,by decide,_,_,rfl,rfl,⟨by decide,by decide +kernel⟩,_,_,rfl,rfl,pm (by decide),?_⟩
 try dsimp only
 obtain ⟨w,ew⟩:∃ w:Nat,ns.getD (0:Int).toNat 0 % 4=(w:Int):=⟨_,(IS w0).symm⟩
 obtain ⟨u,eu⟩:∃ u:Nat,ns.getD (0:Int).toNat 0 / 4 % 4=(u:Int):=⟨_,(IS u0).symm⟩
 obtain ⟨n,en⟩:∃ n:Nat,ns.getD (0:Int).toNat 0 / 16 % 41=(n:Int):=⟨_,(IS z0).symm⟩
 obtain ⟨sm,es⟩:∃ s:Nat,ns.getD (3:Int).toNat 0 % 2=(s:Int):=⟨_,(IS g0).symm⟩
 rw [ew] at w3 |-
 rw [eu] at u3 |-
 rw [en] at z1 |-
 have hw:w<=3:=by lia
 have hu:u<=3:=by lia
 have n40:n<=40:=by lia
 clear ew eu en w0 u0 z0 w3 u3 z1 g0
 refine ⟨40,rfl,by decide,fun pc H2 s2 fc hc=>?_⟩
 rw [BO] at hc
 refine ⟨_,rfl,_,rfl,_,rfl,a,pc,ns,n,rfl,s2.seq hS,h63,hc,n40,fun m H3 s3 m0 m1=>?_⟩
 obtain ⟨t,rfl,rfl⟩:=jC n m m0 m1
 refine ⟨_,rfl,_,rfl,_,rfl,_,rfl,t.size,by lia,w,pc,t,rfl,hw,s3 _ _ hc,rfl,n40,fun v H4 s4 kv=>?_⟩
 refine ⟨_,rfl,_,rfl,_,rfl,_,rfl,t.size,by lia,u,pc,t,rfl,hu,(s3.trans s4) _ _ hc,rfl,n40,fun d H5 s5 kd=>?_⟩
 refine ⟨_,rfl,w,rfl,hw,fun x dx fs H6 s6 hx fl=>⟨_,rfl,u,rfl,hu,fun y dy gs H7 s7 hy gl=>⟨(by show 2<=sizeLine; decide),fun pk hpk=>?_⟩⟩⟩
 have s8:=ae.new (ae.refl H7) hpk (.lst [.ref x,.ref y])
 have uu:upd H7 pk (.lst [.ref x,.ref y]) pk=some (.lst [.ref x,.ref y]):=upd_same
 have hx8:=(s7.trans s8) _ _ hx
 have hy8:=s8 _ _ hy
 have t8:=s2.trans (s3.trans (s4.trans (s5.trans (s6.trans (s7.trans s8)))))
 have kv8:=kv.same (s5.trans (s6.trans (s7.trans s8)))
 have kd8:=kd.same (s6.trans (s7.trans s8))
 clear hx hy hc s2 s3 s4 s5 s6 s7 kv kd
 generalize upd H7 pk (.lst [.ref x,.ref y])=H8 at s8 uu hx8 hy8 t8 kv8 kd8 |-
 clear s8
 refine ⟨_,rfl,w,v,t,rfl,hw,⟨_,kv8⟩,n40,fun hv H9 s9 kh=>?_⟩
 have pQ:=s9 _ _ uu
 have hx9:=s9 _ _ hx8
 have hy9:=s9 _ _ hy8
 have hS9:=(t8.trans s9).seq hS
 have kd9:=kd8.same s9
 have kv9:=kv8.same s9
 obtain ⟨p3,p4,e3,e4,n34⟩:=kv8.apart kh s9
 have a0:bX [V.ref x,.ref y] 0=some (.ref x):=rfl
 have a1:bX [V.ref x,.ref y] 1=some (.ref y):=rfl
 clear uu hx8 hy8 t8 kd8 kv8
 refine ⟨_,rfl,pk,_,_,_,rfl,rfl,aj.of pQ,a0,_,rfl,pk,_,_,_,rfl,rfl,aj.of pQ,a1,_,rfl,_,rfl,_,rfl,a,ns,3,rfl,hS9,by decide,_,_,rfl,rfl,pm (by decide),?_⟩
 try dsimp only
 rw [es]
 refine ⟨w,t.size,sm,rfl,hw,n40,fun av HA sA iso=>⟨w,u,hw,hu,x,dx,fs,_,y,dy,gs,_,av,rfl,sA _ _ hx9,fl,sA _ _ hy9,gl,.inr ⟨iso,fun HB sB=>⟨EO.t_thing,?_⟩⟩⟩⟩
 have sAB:=sA.trans sB
 refine ⟨_,rfl,_,rfl,bH ?_⟩
 refine ⟨2,rfl,by decide,by decide,gF (lo:=0) (n:=(2:Int).toNat) (fun i σ H'=>∃ (o11 o12:Option V),σ=[some (.ref a),some (.int (t.size:Int)),some (.int (w:Int)),some (.int (u:Int)),some (.ref pc),some (.int (bU t)),some v,some d,some (.ref pk),some hv,some (.bl true),o11,o12]/\ae H9 H') ⟨_,_,rfl,sAB⟩ ?_ ?_⟩
 ·rintro i σ HC hi ⟨o11,o12,rfl,sC⟩
  refine ⟨_,rfl,pk,_,_,_,rfl,rfl,aj.of (sC _ _ pQ),a0,_,rfl,pk,_,_,_,rfl,rfl,aj.of (sC _ _ pQ),a1,_,rfl,w,u,hw,hu,x,dx,fs,_,y,dy,gs,_,hv,rfl,sC _ _ hx9,fl,sC _ _ hy9,gl,.inl ⟨t,⟨_,kh.same sC⟩,n40,fun g HD sD kg=>?_⟩⟩
  have sCD:=sC.trans sD
  obtain ⟨T,dT,r1,r2⟩:=kg.two (kd9.same sCD) n40
  refine ⟨_,rfl,_,rfl,dep T,by lia,_,_,T,rfl,r1,r2,EF _,_,rfl,bH ?_⟩
  refine ⟨_,rfl,u,g,t,HC,HD,rfl,hu,kg,ae.refl _,n40,fun HE sp=>?_⟩
  have sE:=sC.trans (sp.same sD)
  obtain ⟨T2,dT2,r3,r4⟩:=(kh.same sE).two (kv9.same sE) n40
  exact ⟨_,rfl,_,rfl,3,true,by decide,yj 3 T2 dT2 r3 r4,⟨p3,p4,e3,e4,n34⟩,_,rfl,mZ rfl ⟨_,_,rfl,sE⟩⟩
 ·rintro σ H' ⟨o11,o12,rfl,sC⟩
  exact q _
end
noncomputable abbrev Gb (K:Fi) (x:Str) (a:EK):Prop:=Kd K mainGlobals x=some (some (.ref a))
noncomputable def Az (K:Fi):Sp:=fun vs H Q _=>∃ (a:EK) (ns:List Int),vs=[.ref a]/\aj K H a (ns.map V.int)/\ns.length<=63/\∀ H',Q (.bl true) H'
theorem all_mk {l:W.OpenLaw} {w:FH} {K:Fi} {h:GP} {mg:Str->Option Ey} {fa:EK} (X:K.In h) (G:h.Ns mainGlobals mg) (hfa:mg "law" = some (.ref fa)) {C0 C1 C2 C3 C4 C5 f0 f1 f2 f3 f4 f5 f6 f7 f8 f9 f10 f11 f12 f13 f14 f15 f16 f17 f18 f19 f20 f21 f22 f23 f24 f25 f26 f28 f29 f30 f31 f32 f34 f35 f36 f37 f39 f40 f41 f42 f43 f44 f45 f47 f48 f49 f50 f52 f53 f54 f55 f56 f57:EK} {d0 d1 d2 d3 d4 d5 d6 d7 d8 d9 d10 d11 d12 d13 d14 d15 d16 d17 d18 d19 d20 d21 d22 d23 d24 d25 d26 d28 d29 d30 d31 d32 d34 d35 d36 d37 d39 d40 d41 d42 d43 d44 d45 d47 d48 d49 d50 d52 d53 d54 d55 d56 d57:Ge}
  (yn:Gb K "Bows" C0)
  (vi:Gb K "Rooms" C1)
  (tG:Gb K "Floors" C2)
  (vP:Gb K "Turns" C3)
  (kS:Gb K "SplitFamily" C4)
  (t9:Gb K "Family" C5)
  (c4_0:Cls K C0)
  (c4_1:Cls K C1)
  (c4_2:Cls K C2)
  (c4_3:Cls K C3)
  (q0_refuse_other:Meth K C0 "refuse_other" f28)
  (q1_refuse_other:Meth K C1 "refuse_other" f28)
  (q2_refuse_other:Meth K C2 "refuse_other" f28)
  (q3_refuse_other:Meth K C3 "refuse_other" f28)
  (q0_is_one:Meth K C0 "is_one" f20)
  (q1_is_one:Meth K C1 "is_one" f22)
  (q2_is_one:Meth K C2 "is_one" f24)
  (q3_is_one:Meth K C3 "is_one" f26)
  (q0_size_of:Meth K C0 "size_of" f29)
  (q1_size_of:Meth K C1 "size_of" f30)
  (q2_size_of:Meth K C2 "size_of" f31)
  (q3_size_of:Meth K C3 "size_of" f32)
  (q0_bare:Meth K C0 "bare" f34)
  (q1_bare:Meth K C1 "bare" f35)
  (q2_bare:Meth K C2 "bare" f36)
  (q3_bare:Meth K C3 "bare" f37)
  (q0_parted:Meth K C0 "parted" f40)
  (q1_parted:Meth K C1 "parted" f42)
  (q2_parted:Meth K C2 "parted" f44)
  (q3_parted:Meth K C3 "parted" f45)
  (q0_joined:Meth K C0 "joined" f47)
  (q1_joined:Meth K C1 "joined" f48)
  (q2_joined:Meth K C2 "joined" f49)
  (q3_joined:Meth K C3 "joined" f50)
  (n0_word:NoAttr K C0 "word")
  (n1_word:NoAttr K C1 "word")
  (n2_word:NoAttr K C2 "word")
  (n3_word:NoAttr K C3 "word")
  (n0_least:NoAttr K C0 "least")
  (n1_least:NoAttr K C1 "least")
  (n2_least:NoAttr K C2 "least")
  (n3_least:NoAttr K C3 "least")
  (mk_Bows:Mk K C0 f11)
  (mk_Rooms:Mk K C1 f12)
  (mk_Floors:Mk K C2 f13)
  (mk_Turns:Mk K C3 f14)
  (cm_SplitFamily___init__:ClsM K C4 "__init__" f10)
  (cm_Family___init__:ClsM K C5 "__init__" f9)
  (z_len:Kd K mainGlobals "len" = some none)
  (z_range:Kd K mainGlobals "range" = some none)
  (z_max:Kd K mainGlobals "max" = some none)
  (z_list:Kd K mainGlobals "list" = some none)
  (z_sorted:Kd K mainGlobals "sorted" = some none)
  (z_isinstance:Kd K mainGlobals "isinstance" = some none)
  (z_tuple:Kd K mainGlobals "tuple" = some none)
  (z_all:Kd K mainGlobals "all" = some none)
  (z_zip:Kd K mainGlobals "zip" = some none)
  (z_set:Kd K mainGlobals "set" = some none)
  (z_sum:Kd K mainGlobals "sum" = some none)
  (z_int:Kd K mainGlobals "int" = some none)
  (z_bool:Kd K mainGlobals "bool" = some none)
  {jb:EK}
  (yz:Gb K "NoThing" jb)
  (t_err:lh K ⟨jb⟩=true)
  (a0:Gb K "_law_cell_at" f0)
  (F0:aR K "_law_cell_at" "_law_cell_at" rM f0 d0)
  (a1:Gb K "_law_counts" f1)
  (F1:aR K "_law_counts" "_law_counts" sR f1 d1)
  (a2:Gb K "_law_number" f2)
  (F2:aR K "_law_number" "_law_number" sL f2 d2)
  (a3:Gb K "_law_bare" f3)
  (F3:aR K "_law_bare" "_law_bare" tm f3 d3)
  (a4:Gb K "_law_bows_joined" f4)
  (F4:aR K "_law_bows_joined" "_law_bows_joined" vv f4 d4)
  (a5:Gb K "_law_rooms_joined" f5)
  (F5:aR K "_law_rooms_joined" "_law_rooms_joined" vg f5 d5)
  (a6:Gb K "_law_floors_joined" f6)
  (F6:aR K "_law_floors_joined" "_law_floors_joined" vL f6 d6)
  (a7:Gb K "_law_joined" f7)
  (F7:aR K "_law_joined" "_law_joined" qX f7 d7)
  (a8:Gb K "_law_thing" f8)
  (F8:aR K "_law_thing" "_law_thing" rV f8 d8)
  (F9:aR K "__init__" "Family.__init__" wM f9 d9)
  (F10:aR K "__init__" "SplitFamily.__init__" v7 f10 d10)
  (F11:aR K "__init__" "Bows.__init__" qW f11 d11)
  (F12:aR K "__init__" "Rooms.__init__" wD f12 d12)
  (F13:aR K "__init__" "Floors.__init__" wQ f13 d13)
  (F14:aR K "__init__" "Turns.__init__" sr f14 d14)
  (a15:Gb K "_law_kin" f15)
  (F15:aR K "_law_kin" "_law_kin" se f15 d15)
  (a16:Gb K "_law_copy" f16)
  (F16:aR K "_law_copy" "_law_copy" sU f16 d16)
  (a17:Gb K "each_once" f17)
  (F17:aR K "each_once" "each_once" sT f17 d17)
  (a18:Gb K "flat" f18)
  (F18:aR K "flat" "flat" qK f18 d18)
  (a19:Gb K "any_cross" f19)
  (F19:aR K "any_cross" "any_cross" sO f19 d19)
  (F20:aR K "is_one" "Bows.is_one" rW f20 d20)
  (a21:Gb K "neighbours" f21)
  (F21:aR K "neighbours" "neighbours" rF f21 d21)
  (F22:aR K "is_one" "Rooms.is_one" qL f22 d22)
  (a23:Gb K "may_be_cut" f23)
  (F23:aR K "may_be_cut" "may_be_cut" rR f23 d23)
  (F24:aR K "is_one" "Floors.is_one" sv f24 d24)
  (a25:Gb K "comes_off_a_stack" f25)
  (F25:aR K "comes_off_a_stack" "comes_off_a_stack" vQ f25 d25)
  (F26:aR K "is_one" "Turns.is_one" rn f26 d26)
  (F28:aR K "refuse_other" "Family.refuse_other" v8 f28 d28)
  (F29:aR K "size_of" "Bows.size_of" sd f29 d29)
  (F30:aR K "size_of" "Rooms.size_of" rX f30 d30)
  (F31:aR K "size_of" "Floors.size_of" wF f31 d31)
  (F32:aR K "size_of" "Turns.size_of" sH f32 d32)
  (F34:aR K "bare" "Bows.bare" qS f34 d34)
  (F35:aR K "bare" "Rooms.bare" sJ f35 d35)
  (F36:aR K "bare" "Floors.bare" sj f36 d36)
  (F37:aR K "bare" "Turns.bare" qZ f37 d37)
  (a39:Gb K "pairs_raised_by" f39)
  (F39:aR K "pairs_raised_by" "pairs_raised_by" qM f39 d39)
  (F40:aR K "parted" "Bows.parted" sV f40 d40)
  (a41:Gb K "raised_by" f41)
  (F41:aR K "raised_by" "raised_by" qO f41 d41)
  (F42:aR K "parted" "Rooms.parted" sX f42 d42)
  (a43:Gb K "third_corner" f43)
  (F43:aR K "third_corner" "third_corner" rD f43 d43)
  (F44:aR K "parted" "Floors.parted" sG f44 d44)
  (F45:aR K "parted" "Turns.parted" sg f45 d45)
  (F47:aR K "joined" "Bows.joined" si f47 d47)
  (F48:aR K "joined" "Rooms.joined" rh f48 d48)
  (F49:aR K "joined" "Floors.joined" r9 f49 d49)
  (F50:aR K "joined" "Turns.joined" qV f50 d50)
  (a52:Gb K "led_by_parts" f52)
  (F52:aR K "led_by_parts" "led_by_parts" sQ f52 d52)
  (a53:Gb K "by_parts" f53)
  (F53:aR K "by_parts" "by_parts" rS f53 d53)
  (a54:Gb K "_law_amiss" f54)
  (F54:aR K "_law_amiss" "_law_amiss" sS f54 d54)
  (a55:Gb K "_law_alike" f55)
  (F55:aR K "_law_alike" "_law_alike" su f55 d55)
  (a56:Gb K "_law_spoiled" f56)
  (F56:aR K "_law_spoiled" "_law_spoiled" rA f56 d56)
  (a57:Gb K "law" f57)
  (F57:aR K "law" "law" i9 f57 d57) :
  ∃ fd:Ge,(∀ (s:Ez) (v:Ey),BindsTo s fd ⟨[v],[]⟩ [("_law_script",v)])/\∀ base:GP,K.In base->base.Ns mainGlobals mg->bA l.prog w K mg base kO 46 fa fd ["_law_script"] (Az K):=by
 have e:=hfa.symm.trans (GF X G a57)
 cases e
 have CA:BS K mg ⟨pick 0 [C0,C1,C2,C3,C4,C5],pick 0 [f0,f1,f2,f3,f4,f5,f6,f7,f8,f9,f10,f11,f12,f13,f14,f15,f16,f17,f18,f19,f20,f21,f22,f23,f24,f25,f26,0,f28,f29,f30,f31,f32,0,f34,f35,f36,f37,0,f39,f40,f41,f42,f43,f44,f45,0,f47,f48,f49,f50,0,f52,f53,f54,f55,f56,fa],pick d0 [d0,d1,d2,d3,d4,d5,d6,d7,d8,d9,d10,d11,d12,d13,d14,d15,d16,d17,d18,d19,d20,d21,d22,d23,d24,d25,d26,d0,d28,d29,d30,d31,d32,d0,d34,d35,d36,d37,d0,d39,d40,d41,d42,d43,d44,d45,d0,d47,d48,d49,d50,d0,d52,d53,d54,d55,d56,d57]⟩:=⟨GF X G yn,GF X G vi,GF X G tG,GF X G vP,GF X G kS,GF X G t9,four c4_0 c4_1 c4_2 c4_3,four q0_refuse_other q1_refuse_other q2_refuse_other q3_refuse_other,four q0_is_one q1_is_one q2_is_one q3_is_one,four q0_size_of q1_size_of q2_size_of q3_size_of,four q0_bare q1_bare q2_bare q3_bare,four q0_parted q1_parted q2_parted q3_parted,four q0_joined q1_joined q2_joined q3_joined,four n0_word n1_word n2_word n3_word,four n0_least n1_least n2_least n3_least,mk_Bows,mk_Rooms,mk_Floors,mk_Turns,cm_SplitFamily___init__,cm_Family___init__,GW X G z_len,GW X G z_range,GW X G z_max,GW X G z_list,GW X G z_sorted,GW X G z_isinstance,GW X G z_tuple,GW X G z_all,GW X G z_zip,GW X G z_set,GW X G z_sum,GW X G z_int,GW X G z_bool⟩
 have EO:rN K mg ⟨jb⟩:=B1 t_err (GF X G yz)
 obtain ⟨oc,od,kV,doc,pm,an,cdv,ct,osl,e,lk,hcd⟩:=F57.ex
 subst e
 refine ⟨Li "law" "law" (cV i9) (cq i9) (ar i9) .none kV doc pm an cdv ct,fun s v=>.of_eq rfl,fun base kb _=>?_⟩
 have a:=El (P:=l.prog) (w:=w) (base:=base) (er:=⟨jb⟩) CA
 have a:=a.s (Aa CA EO a ⟨F0,GF X G a0⟩)
 have a:=a.s (As CA EO a ⟨F1,GF X G a1⟩)
 have a:=a.s (An CA EO a ⟨F2,GF X G a2⟩)
 have a:=a.s (z6 CA EO a ⟨F3,GF X G a3⟩)
 have a:=a.s (CQ CA EO a ⟨F4,GF X G a4⟩)
 have a:=a.s (Cw CA EO a ⟨F5,GF X G a5⟩)
 have a:=a.s (Cu CA EO a ⟨F6,GF X G a6⟩)
 have a:=a.s (zb CA EO a ⟨F7,GF X G a7⟩)
 have a:=a.s (zW CA EO a ⟨F8,GF X G a8⟩)
 have a:=a.s (Dh CA EO a F9)
 have a:=a.s (Di CA EO a F10)
 have a:=a.s (BN CA EO a F11)
 have a:=a.s (CN CA EO a F12)
 have a:=a.s (Cp CA EO a F13)
 have a:=a.s (Au CA EO a F14)
 have a:=a.s (Ab CA EO a ⟨F15,GF X G a15⟩)
 have a:=a.s (B8 CA EO a ⟨F16,GF X G a16⟩)
 have a:=a.s (AM CA EO a ⟨F17,GF X G a17⟩)
 have a:=a.s (AS CA EO a ⟨F18,GF X G a18⟩)
 have a:=a.s (AX CA EO a ⟨F19,GF X G a19⟩)
 have a:=a.s (BU CA EO a F20)
 have a:=a.s (Bd CA EO a ⟨F21,GF X G a21⟩)
 have a:=a.s (yT CA EO a F22)
 have a:=a.s (BI CA EO a ⟨F23,GF X G a23⟩)
 have a:=a.s (Bz CA EO a F24)
 have a:=a.s (Cj CA EO a ⟨F25,GF X G a25⟩)
 have a:=a.s (A1 CA EO a F26)
 have a:=a.s (four (sM (a.g 20)) (a.g 22) (sM (a.g 24)) (sM (a.g 26)))
 have a:=a.s (Ce CA EO a F28)
 have a:=a.s (AG CA EO a F29)
 have a:=a.s (AU CA EO a F30)
 have a:=a.s (Cz CA EO a F31)
 have a:=a.s (AN CA EO a F32)
 have a:=a.s (four (a.g 29) (a.g 30) (a.g 31) (a.g 32))
 have a:=a.s (Bn CA EO a F34)
 have a:=a.s (A3 CA EO a F35)
 have a:=a.s (yM CA EO a F36)
 have a:=a.s (Bs CA EO a F37)
 have a:=a.s (four (a.g 34) (a.g 35) (a.g 36) (a.g 37))
 have a:=a.s (Af CA EO a ⟨F39,GF X G a39⟩)
 have a:=a.s (zS CA EO a F40)
 have a:=a.s (zV CA EO a ⟨F41,GF X G a41⟩)
 have a:=a.s (y6 CA EO a F42)
 have a:=a.s (z8 CA EO a ⟨F43,GF X G a43⟩)
 have a:=a.s (zi CA EO a F44)
 have a:=a.s (zT CA EO a F45)
 have a:=a.s (four (a.g 40) (a.g 42) (a.g 44) (a.g 45))
 have a:=a.s (yZ CA EO a F47)
 have a:=a.s (BZ CA EO a F48)
 have a:=a.s (zI CA EO a F49)
 have a:=a.s (AV CA EO a F50)
 have a:=a.s (four (a.g 47) (a.g 48) (a.g 49) (a.g 50))
 have a:=a.s (B9 CA EO a ⟨F52,GF X G a52⟩)
 have a:=a.s (zt CA EO a ⟨F53,GF X G a53⟩)
 have a:=a.s (Ax CA EO a ⟨F54,GF X G a54⟩)
 have a:=a.s (zQ CA EO a ⟨F55,GF X G a55⟩)
 have a:=a.s (zD CA EO a ⟨F56,GF X G a56⟩)
 exact Bg CA EO a F57
theorem walk {l:W.OpenLaw} {q:Fm} {loose:List Str} {XP:(Str->Option Ey)->GP->Prop} {YP:FH->GP->Prop} {d:DefRec} {K:HG->Fi} (hn:l.most=some 63) (hdf:d.params.defaults=[])
  (hY:∀ (w:FH) (h:GP),YP w h->(K w.params).In h)
  (F:∀ (w:FH) (mg:Str->Option Ey) (fa:EK) (h:GP),(K w.params).In h->h.Ns mainGlobals mg->mg d.name=some (.ref fa) ->
   ∃ fd:Ge,(∀ (s:Ez) (u:Ey),BindsTo s fd ⟨[u],[]⟩ [("_law_script",u)])/\∀ base:GP,(K w.params).In base->base.Ns mainGlobals mg->bA l.prog w (K w.params) mg base kO 46 fa fd ["_law_script"] (Az (K w.params))) :
  W.WalkO q loose XP YP l.row.toRowW d [] (fun f vs=>PySem.call f vs) :=
 L2.walk_of (n:=63) (k:=46) (x:="_law_script") (CX:=fun _=>kO) (sp:=fun w=>Az (K w.params)) hn (by decide) hdf ⟨rfl,by decide,by decide⟩ hY F (fun _ _ a ns hl _ hS=>⟨a,ns,rfl,hS,hl,fun _=>rfl⟩) fun _ _ _ _ _ z=>z
end Ck
open L2
namespace Ck
open PySem PySem.W PySem.Calls PyProof.Rows
noncomputable def hB:List HI:=behindTheImports PySem.Challenge.pw_countkin_k24_four_families_by_parts
noncomputable def hE:Env:={ scope:=PySem.Challenge.pw_countkin_k24_four_families_by_parts.main.scope,locals:=mainNs,globals:=mainNs,cells:=[],code:=(.ref 13),frame:=some 14 }
noncomputable def hC:Code:=.body hB hE
noncomputable def kV (a:Array Ey):Obj:=⟨.type "tuple",none,.seq a 0,#[]⟩
noncomputable def kD (P:HG) (x:Str) (n:Tok) (v:Ey):JI:=⟨PyData.keyHash P x,.str x n,v⟩
noncomputable def kF (a b:Str) (s:HI) (m:Str) (n:Tok) (c:EK):Obj:=⟨.type "function",none,.func (fnOf a b (cV s) (cq s) (ar s) .none .none .none (.str m n) none (.ref c) .none),#[]⟩
noncomputable def kC (a b:Str) (t:Nat) (l n:Int) (r q x y z w:Ey) (e:Nat):Obj:=⟨.type "code",none,.fields #[.str a t,.str b (t+1),.str "/claim/cut.py" (t+2),.int l 0,.int n 0,.int 0 0,.int 0 0,.int 3 0,r,.bool true,.int 181 0,q,x,y,z,w,.int (Int.ofNat e) 0,.int l 0,.str "/claim/cut.py" (e+1)],#[]⟩
noncomputable def hTree (P:HG):BT:=(.node (boot_o_0 P) (.node (boot_o_1 P) (.node (boot_o_3 P) (.node (boot_o_7 P) .nil .nil) (.node ⟨(.type "tuple"),none,(.seq #[] 0),#[]⟩ .nil .nil)) (.node (boot_o_5 P) (.node (boot_o_9 P) .nil .nil) (.node ⟨(.type "code"),none,(.fields #[(.str "<module>" 182),(.str "<module>" 183),(.str "/claim/cut.py" 184),(.int 1 0),(.int 0 0),(.int 0 0),(.int 0 0),(.int 0 0),(.ref 11),(.bool false),(.int 181 0),(.ref 12),.none,.none,.none,.none,(.int 185 0),(.int 1 0),(.str "/claim/cut.py" 186)]),#[]⟩ .nil .nil))) (.node (boot_o_2 P) (.node (boot_o_4 P) (.node (boot_o_8 P) .nil .nil) (.node ⟨.none,none,(.fields #[]),#[]⟩ .nil .nil)) (.node (boot_o_6 P) (.node (boot_o_10 P) .nil .nil) (.node ⟨(.type "frame"),none,.plain,#[(some (.ref 13)),(some (.ref 3)),(some (.ref 3)),none,(some (.str "__main__" 164)),none,(some (.ref 0))]⟩ .nil .nil))))
noncomputable def hS (w:FH) (os:Lc):SharedT:=⟨hTree w.params,15,({}:Life),Array.mk [],⟨0,0,0,0⟩,187,os⟩
noncomputable def hQ:Fm:={ PySem.Challenge.pw_countkin_k24_four_families_by_parts with main:={ PySem.Challenge.pw_countkin_k24_four_families_by_parts.main with body:=[top 41] } }
noncomputable def fG:List Str:=Fh "_law_copy"::Fh "_law_kin"::Fh "_law_spoiled"::Fh "_law_amiss"::[]
noncomputable def eV:List Str:=Fh "_law_cell_at"::Fh "_law_alike"::Fh "_law_counts"::Fh "_law_number"::Fh "_law_bows_joined"::Fh "_law_rooms_joined"::Fh "_law_floors_joined"::Fh "_law_joined"::Fh "_law_bare"::Fh "_law_thing"::fG
noncomputable def eK:List Str:=Fh "each_once"::Fh "any_cross"::Fh "Bows"::Fh "Rooms"::Fh "neighbours"::Fh "Floors"::Fh "may_be_cut"::Fh "third_corner"::Fh "Turns"::Fh "comes_off_a_stack"::eV
noncomputable def Ek:List Str:=Fh "_wall"::Fh "KinError"::Fh "NoThing"::Fh "Family"::Fh "SplitFamily"::Fh "by_parts"::Fh "led_by_parts"::Fh "raised_by"::Fh "pairs_raised_by"::Fh "flat"::eK
noncomputable def hL:List Str:=Ek
noncomputable def hK:HG->Frag:=fun P=>(nat_lit 2,⟨.none,none,(.dict #[] 0),#[]⟩)::(nat_lit 3,⟨(.type "dict"),none,(.dict (Js (kD P "__name__" 165 (.str "law_countkin_k24_four_families_by_parts" 781)::kD P "__doc__" 166 .none::kD P "__package__" 167 .none::kD P "__loader__" 168 (.builtin "__main__.__loader__#opaque")::kD P "__spec__" 169 .none::kD P "__annotations__" 170 (.ref 6)::kD P "__builtins__" 171 (.ref 4)::kD P "__file__" 173 (.str "/claim/cut.py" 172)::kD P "__cached__" 174 .none::kD P "_wall" 193 (.ref 21)::kD P "KinError" 213 (.ref 31)::kD P "NoThing" 229 (.ref 44)::kD P "Family" 344 (.ref 133)::kD P "SplitFamily" 436 (.ref 210)::kD P "by_parts" 445 (.ref 219)::kD P "led_by_parts" 457 (.ref 226)::kD P "raised_by" 465 (.ref 231)::kD P "pairs_raised_by" 471 (.ref 236)::kD P "flat" 480 (.ref 243)::kD P "each_once" 487 (.ref 250)::kD P "any_cross" 498 (.ref 257)::kD P "Bows" 565 (.ref 307)::kD P "Rooms" 619 (.ref 353)::kD P "neighbours" 625 (.ref 360)::kD P "Floors" 689 (.ref 408)::kD P "may_be_cut" 698 (.ref 417)::kD P "third_corner" 704 (.ref 422)::kD P "Turns" 770 (.ref 474)::kD P "comes_off_a_stack" 780 (.ref 483)::kD P "_law_cell_at" 790 (.ref 490)::kD P "_law_alike" 799 (.ref 497)::kD P "_law_counts" 808 (.ref 504)::kD P "_law_number" 821 (.ref 511)::kD P "_law_bows_joined" 833 (.ref 518)::kD P "_law_rooms_joined" 839 (.ref 523)::kD P "_law_floors_joined" 853 (.ref 530)::kD P "_law_joined" 859 (.ref 535)::kD P "_law_bare" 866 (.ref 542)::kD P "_law_thing" 879 (.ref 549)::kD P "_law_copy" 885 (.ref 554)::kD P "_law_kin" 892 (.ref 561)::kD P "_law_spoiled" 900 (.ref 568)::kD P "_law_amiss" 906 (.ref 573)::kD P "law" 925 (.ref 580)::[])) 44),#[]⟩)::(nat_lit 30,⟨(.type "dict"),none,(.dict #[kD P "__module__" 203 (.str "countkin.errors" 194),kD P "__firstlineno__" 207 (.int 5 206),kD P "__static_attributes__" 208 (.ref 29),kD P "__weakref__" 210 (.ref 32),kD P "__doc__" 211 .none] 3),#[]⟩)::(nat_lit 31,⟨(.type "type"),none,(.cls ⟨"KinError",[(.type "ValueError")],[(.ref 31),(.type "ValueError"),(.type "Exception"),(.type "BaseException"),(.type "object")],30,"KinError",true,[],[(.ref 44)],false,none,false⟩),#[(some (.ref 22)),none,(some (.str "KinError" 196)),(some (.str "KinError" 204)),(some (.builtin "ValueError.__new__")),(some (.bool true))]⟩)::(nat_lit 32,⟨(.type "getset_descriptor"),none,(.fields #[(.str "__weakref__" 209),(.ref 31),(.builtin "ExceptionGroup.__weakref__"),.none]),#[]⟩)::(nat_lit 43,⟨(.type "dict"),none,(.dict #[kD P "__module__" 221 (.str "countkin.errors" 194),kD P "__firstlineno__" 225 (.int 7 224),kD P "__static_attributes__" 226 (.ref 42),kD P "__doc__" 227 .none] 2),#[]⟩)::(nat_lit 44,⟨(.type "type"),none,(.cls ⟨"NoThing",[(.ref 31)],[(.ref 44),(.ref 31),(.type "ValueError"),(.type "Exception"),(.type "BaseException"),(.type "object")],43,"NoThing",true,[],[],false,none,false⟩),#[(some (.ref 35)),none,(some (.str "NoThing" 214)),(some (.str "NoThing" 222)),(some (.builtin "ValueError.__new__")),(some (.bool true))]⟩)::(nat_lit 59,(kC "__init__" "Family.__init__" 244 12 3 (.ref 54) (.ref 55) .none (.ref 56) (.ref 57) (.ref 58) 250))::(nat_lit 60,(kF "__init__" "Family.__init__" (inClass (top 5) 0) "countkin.kin" 230 59))::(nat_lit 108,(kC "refuse_other" "Family.refuse_other" 302 34 2 (.ref 103) (.ref 104) .none (.ref 105) (.ref 106) (.ref 107) 307))::(nat_lit 109,(kF "refuse_other" "Family.refuse_other" (inClass (top 5) 7) "countkin.kin" 230 108))::(nat_lit 132,⟨(.type "dict"),none,(.dict #[kD P "__module__" 239 (.str "countkin.kin" 230),kD P "__firstlineno__" 243 (.int 10 242),kD P "__init__" 252 (.ref 60),kD P "size_of" 260 (.ref 67),kD P "is_one" 268 (.ref 74),kD P "unchecked_many" 276 (.ref 81),kD P "unchecked_number" 284 (.ref 88),kD P "unchecked_thing" 293 (.ref 95),kD P "many" 301 (.ref 102),kD P "refuse_other" 309 (.ref 109),kD P "number_of" 317 (.ref 116),kD P "thing_of" 326 (.ref 123),kD P "next_of" 334 (.ref 130),kD P "__static_attributes__" 337 (.ref 131),kD P "__dict__" 339 (.ref 134),kD P "__weakref__" 341 (.ref 135),kD P "__doc__" 342 .none] 4),#[]⟩)::(nat_lit 133,⟨(.type "type"),none,(.cls ⟨"Family",[(.type "object")],[(.ref 133),(.type "object")],132,"Family",true,[],[(.ref 210)],false,none,false⟩),#[none,none,(some (.str "Family" 232)),(some (.str "Family" 240)),(some (.builtin "object.__new__")),(some (.bool true))]⟩)::(nat_lit 134,⟨(.type "getset_descriptor"),none,(.fields #[(.str "__dict__" 338),(.ref 133),(.builtin "function.__dict__"),(.builtin "function.__dict__#set")]),#[]⟩)::(nat_lit 135,⟨(.type "getset_descriptor"),none,(.fields #[(.str "__weakref__" 340),(.ref 133),(.builtin "ExceptionGroup.__weakref__"),.none]),#[]⟩)::(nat_lit 150,(kC "__init__" "SplitFamily.__init__" 357 48 2 (.ref 145) (.ref 146) .none (.ref 147) (.ref 148) (.ref 149) 362))::(nat_lit 151,(kF "__init__" "SplitFamily.__init__" (inClass (top 6) 0) "countkin.kin" 230 150))::(nat_lit 209,⟨(.type "dict"),none,(.dict #[kD P "__module__" 352 (.str "countkin.kin" 230),kD P "__firstlineno__" 356 (.int 46 355),kD P "__init__" 364 (.ref 151),kD P "bare" 371 (.ref 158),kD P "parted" 379 (.ref 165),kD P "joined" 388 (.ref 172),kD P "unchecked_many" 396 (.ref 179),kD P "unchecked_number" 404 (.ref 186),kD P "unchecked_thing" 413 (.ref 193),kD P "number_by_parts" 422 (.ref 200),kD P "thing_by_parts" 432 (.ref 207),kD P "__static_attributes__" 433 (.ref 208),kD P "__doc__" 434 .none] 2),#[]⟩)::(nat_lit 210,⟨(.type "type"),none,(.cls ⟨"SplitFamily",[(.ref 133)],[(.ref 210),(.ref 133),(.type "object")],209,"SplitFamily",true,[],[(.ref 307),(.ref 353),(.ref 408),(.ref 474)],false,none,false⟩),#[(some (.ref 138)),none,(some (.str "SplitFamily" 345)),(some (.str "SplitFamily" 353)),(some (.builtin "object.__new__")),(some (.bool true))]⟩)::(nat_lit 218,(kC "by_parts" "by_parts" 437 74 3 (.ref 213) (.ref 214) .none (.ref 215) (.ref 216) (.ref 217) 443))::(nat_lit 219,(kF "by_parts" "by_parts" (top 7) "countkin.kin" 230 218))::(nat_lit 225,(kC "led_by_parts" "led_by_parts" 446 77 3 (.ref 220) (.ref 221) .none (.ref 222) (.ref 223) (.ref 224) 455))::(nat_lit 226,(kF "led_by_parts" "led_by_parts" (top 8) "countkin.kin" 230 225))::(nat_lit 230,(kC "raised_by" "raised_by" 460 85 2 (.ref 227) (.ref 228) .none .none .none (.ref 229) 463))::(nat_lit 231,(kF "raised_by" "raised_by" (top 10) "countkin.common" 458 230))::(nat_lit 235,(kC "pairs_raised_by" "pairs_raised_by" 466 87 2 (.ref 232) (.ref 233) .none .none .none (.ref 234) 469))::(nat_lit 236,(kF "pairs_raised_by" "pairs_raised_by" (top 11) "countkin.common" 458 235))::(nat_lit 242,(kC "flat" "flat" 472 89 1 (.ref 237) (.ref 238) .none (.ref 239) (.ref 240) (.ref 241) 478))::(nat_lit 243,(kF "flat" "flat" (top 12) "countkin.common" 458 242))::(nat_lit 249,(kC "each_once" "each_once" 481 94 1 (.ref 244) (.ref 245) .none (.ref 246) (.ref 247) (.ref 248) 485))::(nat_lit 250,(kF "each_once" "each_once" (top 13) "countkin.common" 458 249))::(nat_lit 256,(kC "any_cross" "any_cross" 488 96 1 (.ref 251) (.ref 252) .none (.ref 253) (.ref 254) (.ref 255) 496))::(nat_lit 257,(kF "any_cross" "any_cross" (top 14) "countkin.common" 458 256))::(nat_lit 270,(kC "__init__" "Bows.__init__" 513 105 1 (.ref 265) (.ref 266) .none (.ref 267) (.ref 268) (.ref 269) 517))::(nat_lit 271,(kF "__init__" "Bows.__init__" (inClass (top 16) 0) "countkin.bends" 499 270))::(nat_lit 277,(kC "size_of" "Bows.size_of" 520 108 2 (.ref 272) (.ref 273) .none (.ref 274) (.ref 275) (.ref 276) 525))::(nat_lit 278,(kF "size_of" "Bows.size_of" (inClass (top 16) 1) "countkin.bends" 499 277))::(nat_lit 282,(kC "is_one" "Bows.is_one" 528 111 2 (.ref 279) (.ref 280) .none .none .none (.ref 281) 531))::(nat_lit 283,(kF "is_one" "Bows.is_one" (inClass (top 16) 2) "countkin.bends" 499 282))::(nat_lit 289,(kC "bare" "Bows.bare" 534 116 1 (.ref 284) (.ref 285) .none (.ref 286) (.ref 287) (.ref 288) 538))::(nat_lit 290,(kF "bare" "Bows.bare" (inClass (top 16) 3) "countkin.bends" 499 289))::(nat_lit 296,(kC "parted" "Bows.parted" 541 119 2 (.ref 291) (.ref 292) .none (.ref 293) (.ref 294) (.ref 295) 549))::(nat_lit 297,(kF "parted" "Bows.parted" (inClass (top 16) 4) "countkin.bends" 499 296))::(nat_lit 303,(kC "joined" "Bows.joined" 552 125 3 (.ref 298) (.ref 299) .none (.ref 300) (.ref 301) (.ref 302) 559))::(nat_lit 304,(kF "joined" "Bows.joined" (inClass (top 16) 5) "countkin.bends" 499 303))::(nat_lit 306,⟨(.type "dict"),none,(.dict #[kD P "__module__" 508 (.str "countkin.bends" 499),kD P "__firstlineno__" 512 (.int 103 511),kD P "__init__" 519 (.ref 271),kD P "size_of" 527 (.ref 278),kD P "is_one" 533 (.ref 283),kD P "bare" 540 (.ref 290),kD P "parted" 551 (.ref 297),kD P "joined" 561 (.ref 304),kD P "__static_attributes__" 562 (.ref 305),kD P "__doc__" 563 .none] 2),#[]⟩)::(nat_lit 307,⟨(.type "type"),none,(.cls ⟨"Bows",[(.ref 210)],[(.ref 307),(.ref 210),(.ref 133),(.type "object")],306,"Bows",true,[],[],false,none,false⟩),#[(some (.ref 258)),none,(some (.str "Bows" 501)),(some (.str "Bows" 509)),(some (.builtin "object.__new__")),(some (.bool true))]⟩)::(nat_lit 322,(kC "__init__" "Rooms.__init__" 578 130 1 (.ref 317) (.ref 318) .none (.ref 319) (.ref 320) (.ref 321) 582))::(nat_lit 323,(kF "__init__" "Rooms.__init__" (inClass (top 17) 0) "countkin.bends" 499 322))::(nat_lit 327,(kC "size_of" "Rooms.size_of" 585 133 2 (.ref 324) (.ref 325) .none .none .none (.ref 326) 588))::(nat_lit 328,(kF "size_of" "Rooms.size_of" (inClass (top 17) 1) "countkin.bends" 499 327))::(nat_lit 332,(kC "is_one" "Rooms.is_one" 591 136 2 (.ref 329) (.ref 330) .none .none .none (.ref 331) 594))::(nat_lit 333,(kF "is_one" "Rooms.is_one" (inClass (top 17) 2) "countkin.bends" 499 332))::(nat_lit 339,(kC "bare" "Rooms.bare" 597 141 1 (.ref 334) (.ref 335) .none (.ref 336) (.ref 337) (.ref 338) 601))::(nat_lit 340,(kF "bare" "Rooms.bare" (inClass (top 17) 3) "countkin.bends" 499 339))::(nat_lit 344,(kC "parted" "Rooms.parted" 604 144 2 (.ref 341) (.ref 342) .none .none .none (.ref 343) 607))::(nat_lit 345,(kF "parted" "Rooms.parted" (inClass (top 17) 4) "countkin.bends" 499 344))::(nat_lit 349,(kC "joined" "Rooms.joined" 610 152 3 (.ref 346) (.ref 347) .none .none .none (.ref 348) 613))::(nat_lit 350,(kF "joined" "Rooms.joined" (inClass (top 17) 5) "countkin.bends" 499 349))::(nat_lit 352,⟨(.type "dict"),none,(.dict #[kD P "__module__" 573 (.str "countkin.bends" 499),kD P "__firstlineno__" 577 (.int 128 576),kD P "__init__" 584 (.ref 323),kD P "size_of" 590 (.ref 328),kD P "is_one" 596 (.ref 333),kD P "bare" 603 (.ref 340),kD P "parted" 609 (.ref 345),kD P "joined" 615 (.ref 350),kD P "__static_attributes__" 616 (.ref 351),kD P "__doc__" 617 .none] 2),#[]⟩)::(nat_lit 353,⟨(.type "type"),none,(.cls ⟨"Rooms",[(.ref 210)],[(.ref 353),(.ref 210),(.ref 133),(.type "object")],352,"Rooms",true,[],[],false,none,false⟩),#[(some (.ref 310)),none,(some (.str "Rooms" 566)),(some (.str "Rooms" 574)),(some (.builtin "object.__new__")),(some (.bool true))]⟩)::(nat_lit 359,(kC "neighbours" "neighbours" 620 162 1 (.ref 356) (.ref 357) .none .none .none (.ref 358) 623))::(nat_lit 360,(kF "neighbours" "neighbours" (top 18) "countkin.bends" 499 359))::(nat_lit 373,(kC "__init__" "Floors.__init__" 640 167 1 (.ref 368) (.ref 369) .none (.ref 370) (.ref 371) (.ref 372) 644))::(nat_lit 374,(kF "__init__" "Floors.__init__" (inClass (top 20) 0) "countkin.floors" 626 373))::(nat_lit 380,(kC "size_of" "Floors.size_of" 647 170 2 (.ref 375) (.ref 376) .none (.ref 377) (.ref 378) (.ref 379) 652))::(nat_lit 381,(kF "size_of" "Floors.size_of" (inClass (top 20) 1) "countkin.floors" 626 380))::(nat_lit 385,(kC "is_one" "Floors.is_one" 655 173 2 (.ref 382) (.ref 383) .none .none .none (.ref 384) 658))::(nat_lit 386,(kF "is_one" "Floors.is_one" (inClass (top 20) 2) "countkin.floors" 626 385))::(nat_lit 392,(kC "bare" "Floors.bare" 661 182 1 (.ref 387) (.ref 388) .none (.ref 389) (.ref 390) (.ref 391) 665))::(nat_lit 393,(kF "bare" "Floors.bare" (inClass (top 20) 3) "countkin.floors" 626 392))::(nat_lit 397,(kC "parted" "Floors.parted" 668 185 2 (.ref 394) (.ref 395) .none .none .none (.ref 396) 671))::(nat_lit 398,(kF "parted" "Floors.parted" (inClass (top 20) 4) "countkin.floors" 626 397))::(nat_lit 404,(kC "joined" "Floors.joined" 674 193 3 (.ref 399) (.ref 400) .none (.ref 401) (.ref 402) (.ref 403) 683))::(nat_lit 405,(kF "joined" "Floors.joined" (inClass (top 20) 5) "countkin.floors" 626 404))::(nat_lit 407,⟨(.type "dict"),none,(.dict #[kD P "__module__" 635 (.str "countkin.floors" 626),kD P "__firstlineno__" 639 (.int 165 638),kD P "__init__" 646 (.ref 374),kD P "size_of" 654 (.ref 381),kD P "is_one" 660 (.ref 386),kD P "bare" 667 (.ref 393),kD P "parted" 673 (.ref 398),kD P "joined" 685 (.ref 405),kD P "__static_attributes__" 686 (.ref 406),kD P "__doc__" 687 .none] 2),#[]⟩)::(nat_lit 408,⟨(.type "type"),none,(.cls ⟨"Floors",[(.ref 210)],[(.ref 408),(.ref 210),(.ref 133),(.type "object")],407,"Floors",true,[],[],false,none,false⟩),#[(some (.ref 361)),none,(some (.str "Floors" 628)),(some (.str "Floors" 636)),(some (.builtin "object.__new__")),(some (.bool true))]⟩)::(nat_lit 416,(kC "may_be_cut" "may_be_cut" 690 202 3 (.ref 411) (.ref 412) .none (.ref 413) (.ref 414) (.ref 415) 696))::(nat_lit 417,(kF "may_be_cut" "may_be_cut" (top 21) "countkin.floors" 626 416))::(nat_lit 421,(kC "third_corner" "third_corner" 699 204 3 (.ref 418) (.ref 419) .none .none .none (.ref 420) 702))::(nat_lit 422,(kF "third_corner" "third_corner" (top 22) "countkin.floors" 626 421))::(nat_lit 435,(kC "__init__" "Turns.__init__" 719 209 1 (.ref 430) (.ref 431) .none (.ref 432) (.ref 433) (.ref 434) 723))::(nat_lit 436,(kF "__init__" "Turns.__init__" (inClass (top 24) 0) "countkin.rows" 705 435))::(nat_lit 442,(kC "size_of" "Turns.size_of" 726 212 2 (.ref 437) (.ref 438) .none (.ref 439) (.ref 440) (.ref 441) 731))::(nat_lit 443,(kF "size_of" "Turns.size_of" (inClass (top 24) 1) "countkin.rows" 705 442))::(nat_lit 449,(kC "is_one" "Turns.is_one" 734 215 2 (.ref 444) (.ref 445) .none (.ref 446) (.ref 447) (.ref 448) 739))::(nat_lit 450,(kF "is_one" "Turns.is_one" (inClass (top 24) 2) "countkin.rows" 705 449))::(nat_lit 456,(kC "bare" "Turns.bare" 742 218 1 (.ref 451) (.ref 452) .none (.ref 453) (.ref 454) (.ref 455) 746))::(nat_lit 457,(kF "bare" "Turns.bare" (inClass (top 24) 3) "countkin.rows" 705 456))::(nat_lit 463,(kC "parted" "Turns.parted" 749 221 2 (.ref 458) (.ref 459) .none (.ref 460) (.ref 461) (.ref 462) 755))::(nat_lit 464,(kF "parted" "Turns.parted" (inClass (top 24) 4) "countkin.rows" 705 463))::(nat_lit 470,(kC "joined" "Turns.joined" 758 225 3 (.ref 465) (.ref 466) .none (.ref 467) (.ref 468) (.ref 469) 764))::(nat_lit 471,(kF "joined" "Turns.joined" (inClass (top 24) 5) "countkin.rows" 705 470))::(nat_lit 473,⟨(.type "dict"),none,(.dict #[kD P "__module__" 714 (.str "countkin.rows" 705),kD P "__firstlineno__" 718 (.int 207 717),kD P "__init__" 725 (.ref 436),kD P "size_of" 733 (.ref 443),kD P "is_one" 741 (.ref 450),kD P "bare" 748 (.ref 457),kD P "parted" 757 (.ref 464),kD P "joined" 766 (.ref 471),kD P "__static_attributes__" 767 (.ref 472),kD P "__doc__" 768 .none] 2),#[]⟩)::(nat_lit 474,⟨(.type "type"),none,(.cls ⟨"Turns",[(.ref 210)],[(.ref 474),(.ref 210),(.ref 133),(.type "object")],473,"Turns",true,[],[],false,none,false⟩),#[(some (.ref 423)),none,(some (.str "Turns" 707)),(some (.str "Turns" 715)),(some (.builtin "object.__new__")),(some (.bool true))]⟩)::(nat_lit 482,(kC "comes_off_a_stack" "comes_off_a_stack" 771 227 1 (.ref 477) (.ref 478) .none (.ref 479) (.ref 480) (.ref 481) 778))::(nat_lit 483,(kF "comes_off_a_stack" "comes_off_a_stack" (top 25) "countkin.rows" 705 482))::(nat_lit 489,(kC "_law_cell_at" "_law_cell_at" 783 238 2 (.ref 484) (.ref 485) .none (.ref 486) (.ref 487) (.ref 488) 788))::(nat_lit 490,(kF "_law_cell_at" "_law_cell_at" (top 27) "law_countkin_k24_four_families_by_parts" 781 489))::(nat_lit 496,(kC "_law_alike" "_law_alike" 791 242 2 (.ref 491) (.ref 492) .none (.ref 493) (.ref 494) (.ref 495) 797))::(nat_lit 497,(kF "_law_alike" "_law_alike" (top 28) "law_countkin_k24_four_families_by_parts" 781 496))::(nat_lit 503,(kC "_law_counts" "_law_counts" 800 256 1 (.ref 498) (.ref 499) .none (.ref 500) (.ref 501) (.ref 502) 806))::(nat_lit 504,(kF "_law_counts" "_law_counts" (top 29) "law_countkin_k24_four_families_by_parts" 781 503))::(nat_lit 510,(kC "_law_number" "_law_number" 809 261 3 (.ref 505) (.ref 506) .none (.ref 507) (.ref 508) (.ref 509) 819))::(nat_lit 511,(kF "_law_number" "_law_number" (top 30) "law_countkin_k24_four_families_by_parts" 781 510))::(nat_lit 517,(kC "_law_bows_joined" "_law_bows_joined" 822 275 3 (.ref 512) (.ref 513) .none (.ref 514) (.ref 515) (.ref 516) 831))::(nat_lit 518,(kF "_law_bows_joined" "_law_bows_joined" (top 31) "law_countkin_k24_four_families_by_parts" 781 517))::(nat_lit 522,(kC "_law_rooms_joined" "_law_rooms_joined" 834 282 3 (.ref 519) (.ref 520) .none .none .none (.ref 521) 837))::(nat_lit 523,(kF "_law_rooms_joined" "_law_rooms_joined" (top 32) "law_countkin_k24_four_families_by_parts" 781 522))::(nat_lit 529,(kC "_law_floors_joined" "_law_floors_joined" 840 292 3 (.ref 524) (.ref 525) .none (.ref 526) (.ref 527) (.ref 528) 851))::(nat_lit 530,(kF "_law_floors_joined" "_law_floors_joined" (top 33) "law_countkin_k24_four_families_by_parts" 781 529))::(nat_lit 534,(kC "_law_joined" "_law_joined" 854 301 4 (.ref 531) (.ref 532) .none .none .none (.ref 533) 857))::(nat_lit 535,(kF "_law_joined" "_law_joined" (top 34) "law_countkin_k24_four_families_by_parts" 781 534))::(nat_lit 541,(kC "_law_bare" "_law_bare" 860 309 1 (.ref 536) (.ref 537) .none (.ref 538) (.ref 539) (.ref 540) 864))::(nat_lit 542,(kF "_law_bare" "_law_bare" (top 35) "law_countkin_k24_four_families_by_parts" 781 541))::(nat_lit 548,(kC "_law_thing" "_law_thing" 867 313 4 (.ref 543) (.ref 544) .none (.ref 545) (.ref 546) (.ref 547) 877))::(nat_lit 549,(kF "_law_thing" "_law_thing" (top 36) "law_countkin_k24_four_families_by_parts" 781 548))::(nat_lit 553,(kC "_law_copy" "_law_copy" 880 323 1 (.ref 550) (.ref 551) .none .none .none (.ref 552) 883))::(nat_lit 554,(kF "_law_copy" "_law_copy" (top 37) "law_countkin_k24_four_families_by_parts" 781 553))::(nat_lit 560,(kC "_law_kin" "_law_kin" 886 329 1 (.ref 555) (.ref 556) .none (.ref 557) (.ref 558) (.ref 559) 890))::(nat_lit 561,(kF "_law_kin" "_law_kin" (top 38) "law_countkin_k24_four_families_by_parts" 781 560))::(nat_lit 567,(kC "_law_spoiled" "_law_spoiled" 893 337 1 (.ref 562) (.ref 563) .none (.ref 564) (.ref 565) (.ref 566) 898))::(nat_lit 568,(kF "_law_spoiled" "_law_spoiled" (top 39) "law_countkin_k24_four_families_by_parts" 781 567))::(nat_lit 572,(kC "_law_amiss" "_law_amiss" 901 345 3 (.ref 569) (.ref 570) .none .none .none (.ref 571) 904))::(nat_lit 573,(kF "_law_amiss" "_law_amiss" (top 40) "law_countkin_k24_four_families_by_parts" 781 572))::(nat_lit 579,(kC "law" "law" 907 355 1 (.ref 574) (.ref 575) .none (.ref 576) (.ref 577) (.ref 578) 923))::(nat_lit 580,(kF "law" "law" (top 41) "law_countkin_k24_four_families_by_parts" 781 579))::[]
noncomputable def BK (P:HG):List JI:=kD P "_law_kin" 892 (.ref 561)::kD P "_law_spoiled" 900 (.ref 568)::kD P "_law_amiss" 906 (.ref 573)::kD P "law" 925 (.ref 580)::[]
noncomputable def y4 (P:HG):List JI:=kD P "_law_alike" 799 (.ref 497)::kD P "_law_counts" 808 (.ref 504)::kD P "_law_number" 821 (.ref 511)::kD P "_law_bows_joined" 833 (.ref 518)::kD P "_law_rooms_joined" 839 (.ref 523)::kD P "_law_floors_joined" 853 (.ref 530)::kD P "_law_joined" 859 (.ref 535)::kD P "_law_bare" 866 (.ref 542)::kD P "_law_thing" 879 (.ref 549)::kD P "_law_copy" 885 (.ref 554)::BK P
noncomputable def AQ (P:HG):List JI:=kD P "any_cross" 498 (.ref 257)::kD P "Bows" 565 (.ref 307)::kD P "Rooms" 619 (.ref 353)::kD P "neighbours" 625 (.ref 360)::kD P "Floors" 689 (.ref 408)::kD P "may_be_cut" 698 (.ref 417)::kD P "third_corner" 704 (.ref 422)::kD P "Turns" 770 (.ref 474)::kD P "comes_off_a_stack" 780 (.ref 483)::kD P "_law_cell_at" 790 (.ref 490)::y4 P
noncomputable def Bb (P:HG):List JI:=kD P "KinError" 213 (.ref 31)::kD P "NoThing" 229 (.ref 44)::kD P "Family" 344 (.ref 133)::kD P "SplitFamily" 436 (.ref 210)::kD P "by_parts" 445 (.ref 219)::kD P "led_by_parts" 457 (.ref 226)::kD P "raised_by" 465 (.ref 231)::kD P "pairs_raised_by" 471 (.ref 236)::kD P "flat" 480 (.ref 243)::kD P "each_once" 487 (.ref 250)::AQ P
noncomputable def Bi (P:HG):List JI:=kD P "__name__" 165 (.str "law_countkin_k24_four_families_by_parts" 781)::kD P "__doc__" 166 .none::kD P "__package__" 167 .none::kD P "__loader__" 168 (.builtin "__main__.__loader__#opaque")::kD P "__spec__" 169 .none::kD P "__annotations__" 170 (.ref 6)::kD P "__builtins__" 171 (.ref 4)::kD P "__file__" 173 (.str "/claim/cut.py" 172)::kD P "__cached__" 174 .none::kD P "_wall" 193 (.ref 21)::Bb P
noncomputable def Dx (P:HG):Frag:=(nat_lit 561,(kF "_law_kin" "_law_kin" (top 38) "law_countkin_k24_four_families_by_parts" 781 560))::(nat_lit 567,(kC "_law_spoiled" "_law_spoiled" 893 337 1 (.ref 562) (.ref 563) .none (.ref 564) (.ref 565) (.ref 566) 898))::(nat_lit 568,(kF "_law_spoiled" "_law_spoiled" (top 39) "law_countkin_k24_four_families_by_parts" 781 567))::(nat_lit 572,(kC "_law_amiss" "_law_amiss" 901 345 3 (.ref 569) (.ref 570) .none .none .none (.ref 571) 904))::(nat_lit 573,(kF "_law_amiss" "_law_amiss" (top 40) "law_countkin_k24_four_families_by_parts" 781 572))::(nat_lit 579,(kC "law" "law" 907 355 1 (.ref 574) (.ref 575) .none (.ref 576) (.ref 577) (.ref 578) 923))::(nat_lit 580,(kF "law" "law" (top 41) "law_countkin_k24_four_families_by_parts" 781 579))::[]
noncomputable def DM (P:HG):Frag:=(nat_lit 530,(kF "_law_floors_joined" "_law_floors_joined" (top 33) "law_countkin_k24_four_families_by_parts" 781 529))::(nat_lit 534,(kC "_law_joined" "_law_joined" 854 301 4 (.ref 531) (.ref 532) .none .none .none (.ref 533) 857))::(nat_lit 535,(kF "_law_joined" "_law_joined" (top 34) "law_countkin_k24_four_families_by_parts" 781 534))::(nat_lit 541,(kC "_law_bare" "_law_bare" 860 309 1 (.ref 536) (.ref 537) .none (.ref 538) (.ref 539) (.ref 540) 864))::(nat_lit 542,(kF "_law_bare" "_law_bare" (top 35) "law_countkin_k24_four_families_by_parts" 781 541))::(nat_lit 548,(kC "_law_thing" "_law_thing" 867 313 4 (.ref 543) (.ref 544) .none (.ref 545) (.ref 546) (.ref 547) 877))::(nat_lit 549,(kF "_law_thing" "_law_thing" (top 36) "law_countkin_k24_four_families_by_parts" 781 548))::(nat_lit 553,(kC "_law_copy" "_law_copy" 880 323 1 (.ref 550) (.ref 551) .none .none .none (.ref 552) 883))::(nat_lit 554,(kF "_law_copy" "_law_copy" (top 37) "law_countkin_k24_four_families_by_parts" 781 553))::(nat_lit 560,(kC "_law_kin" "_law_kin" 886 329 1 (.ref 555) (.ref 556) .none (.ref 557) (.ref 558) (.ref 559) 890))::Dx P
noncomputable def DB (P:HG):Frag:=(nat_lit 497,(kF "_law_alike" "_law_alike" (top 28) "law_countkin_k24_four_families_by_parts" 781 496))::(nat_lit 503,(kC "_law_counts" "_law_counts" 800 256 1 (.ref 498) (.ref 499) .none (.ref 500) (.ref 501) (.ref 502) 806))::(nat_lit 504,(kF "_law_counts" "_law_counts" (top 29) "law_countkin_k24_four_families_by_parts" 781 503))::(nat_lit 510,(kC "_law_number" "_law_number" 809 261 3 (.ref 505) (.ref 506) .none (.ref 507) (.ref 508) (.ref 509) 819))::(nat_lit 511,(kF "_law_number" "_law_number" (top 30) "law_countkin_k24_four_families_by_parts" 781 510))::(nat_lit 517,(kC "_law_bows_joined" "_law_bows_joined" 822 275 3 (.ref 512) (.ref 513) .none (.ref 514) (.ref 515) (.ref 516) 831))::(nat_lit 518,(kF "_law_bows_joined" "_law_bows_joined" (top 31) "law_countkin_k24_four_families_by_parts" 781 517))::(nat_lit 522,(kC "_law_rooms_joined" "_law_rooms_joined" 834 282 3 (.ref 519) (.ref 520) .none .none .none (.ref 521) 837))::(nat_lit 523,(kF "_law_rooms_joined" "_law_rooms_joined" (top 32) "law_countkin_k24_four_families_by_parts" 781 522))::(nat_lit 529,(kC "_law_floors_joined" "_law_floors_joined" 840 292 3 (.ref 524) (.ref 525) .none (.ref 526) (.ref 527) (.ref 528) 851))::DM P
noncomputable def pQ (P:HG):Frag:=(nat_lit 464,(kF "parted" "Turns.parted" (inClass (top 24) 4) "countkin.rows" 705 463))::(nat_lit 470,(kC "joined" "Turns.joined" 758 225 3 (.ref 465) (.ref 466) .none (.ref 467) (.ref 468) (.ref 469) 764))::(nat_lit 471,(kF "joined" "Turns.joined" (inClass (top 24) 5) "countkin.rows" 705 470))::(nat_lit 473,⟨(.type "dict"),none,(.dict #[kD P "__module__" 714 (.str "countkin.rows" 705),kD P "__firstlineno__" 718 (.int 207 717),kD P "__init__" 725 (.ref 436),kD P "size_of" 733 (.ref 443),kD P "is_one" 741 (.ref 450),kD P "bare" 748 (.ref 457),kD P "parted" 757 (.ref 464),kD P "joined" 766 (.ref 471),kD P "__static_attributes__" 767 (.ref 472),kD P "__doc__" 768 .none] 2),#[]⟩)::(nat_lit 474,⟨(.type "type"),none,(.cls ⟨"Turns",[(.ref 210)],[(.ref 474),(.ref 210),(.ref 133),(.type "object")],473,"Turns",true,[],[],false,none,false⟩),#[(some (.ref 423)),none,(some (.str "Turns" 707)),(some (.str "Turns" 715)),(some (.builtin "object.__new__")),(some (.bool true))]⟩)::(nat_lit 482,(kC "comes_off_a_stack" "comes_off_a_stack" 771 227 1 (.ref 477) (.ref 478) .none (.ref 479) (.ref 480) (.ref 481) 778))::(nat_lit 483,(kF "comes_off_a_stack" "comes_off_a_stack" (top 25) "countkin.rows" 705 482))::(nat_lit 489,(kC "_law_cell_at" "_law_cell_at" 783 238 2 (.ref 484) (.ref 485) .none (.ref 486) (.ref 487) (.ref 488) 788))::(nat_lit 490,(kF "_law_cell_at" "_law_cell_at" (top 27) "law_countkin_k24_four_families_by_parts" 781 489))::(nat_lit 496,(kC "_law_alike" "_law_alike" 791 242 2 (.ref 491) (.ref 492) .none (.ref 493) (.ref 494) (.ref 495) 797))::DB P
noncomputable def uu (P:HG):Frag:=(nat_lit 422,(kF "third_corner" "third_corner" (top 22) "countkin.floors" 626 421))::(nat_lit 435,(kC "__init__" "Turns.__init__" 719 209 1 (.ref 430) (.ref 431) .none (.ref 432) (.ref 433) (.ref 434) 723))::(nat_lit 436,(kF "__init__" "Turns.__init__" (inClass (top 24) 0) "countkin.rows" 705 435))::(nat_lit 442,(kC "size_of" "Turns.size_of" 726 212 2 (.ref 437) (.ref 438) .none (.ref 439) (.ref 440) (.ref 441) 731))::(nat_lit 443,(kF "size_of" "Turns.size_of" (inClass (top 24) 1) "countkin.rows" 705 442))::(nat_lit 449,(kC "is_one" "Turns.is_one" 734 215 2 (.ref 444) (.ref 445) .none (.ref 446) (.ref 447) (.ref 448) 739))::(nat_lit 450,(kF "is_one" "Turns.is_one" (inClass (top 24) 2) "countkin.rows" 705 449))::(nat_lit 456,(kC "bare" "Turns.bare" 742 218 1 (.ref 451) (.ref 452) .none (.ref 453) (.ref 454) (.ref 455) 746))::(nat_lit 457,(kF "bare" "Turns.bare" (inClass (top 24) 3) "countkin.rows" 705 456))::(nat_lit 463,(kC "parted" "Turns.parted" 749 221 2 (.ref 458) (.ref 459) .none (.ref 460) (.ref 461) (.ref 462) 755))::pQ P
noncomputable def Eg (P:HG):Frag:=(nat_lit 393,(kF "bare" "Floors.bare" (inClass (top 20) 3) "countkin.floors" 626 392))::(nat_lit 397,(kC "parted" "Floors.parted" 668 185 2 (.ref 394) (.ref 395) .none .none .none (.ref 396) 671))::(nat_lit 398,(kF "parted" "Floors.parted" (inClass (top 20) 4) "countkin.floors" 626 397))::(nat_lit 404,(kC "joined" "Floors.joined" 674 193 3 (.ref 399) (.ref 400) .none (.ref 401) (.ref 402) (.ref 403) 683))::(nat_lit 405,(kF "joined" "Floors.joined" (inClass (top 20) 5) "countkin.floors" 626 404))::(nat_lit 407,⟨(.type "dict"),none,(.dict #[kD P "__module__" 635 (.str "countkin.floors" 626),kD P "__firstlineno__" 639 (.int 165 638),kD P "__init__" 646 (.ref 374),kD P "size_of" 654 (.ref 381),kD P "is_one" 660 (.ref 386),kD P "bare" 667 (.ref 393),kD P "parted" 673 (.ref 398),kD P "joined" 685 (.ref 405),kD P "__static_attributes__" 686 (.ref 406),kD P "__doc__" 687 .none] 2),#[]⟩)::(nat_lit 408,⟨(.type "type"),none,(.cls ⟨"Floors",[(.ref 210)],[(.ref 408),(.ref 210),(.ref 133),(.type "object")],407,"Floors",true,[],[],false,none,false⟩),#[(some (.ref 361)),none,(some (.str "Floors" 628)),(some (.str "Floors" 636)),(some (.builtin "object.__new__")),(some (.bool true))]⟩)::(nat_lit 416,(kC "may_be_cut" "may_be_cut" 690 202 3 (.ref 411) (.ref 412) .none (.ref 413) (.ref 414) (.ref 415) 696))::(nat_lit 417,(kF "may_be_cut" "may_be_cut" (top 21) "countkin.floors" 626 416))::(nat_lit 421,(kC "third_corner" "third_corner" 699 204 3 (.ref 418) (.ref 419) .none .none .none (.ref 420) 702))::uu P
noncomputable def D9 (P:HG):Frag:=(nat_lit 353,⟨(.type "type"),none,(.cls ⟨"Rooms",[(.ref 210)],[(.ref 353),(.ref 210),(.ref 133),(.type "object")],352,"Rooms",true,[],[],false,none,false⟩),#[(some (.ref 310)),none,(some (.str "Rooms" 566)),(some (.str "Rooms" 574)),(some (.builtin "object.__new__")),(some (.bool true))]⟩)::(nat_lit 359,(kC "neighbours" "neighbours" 620 162 1 (.ref 356) (.ref 357) .none .none .none (.ref 358) 623))::(nat_lit 360,(kF "neighbours" "neighbours" (top 18) "countkin.bends" 499 359))::(nat_lit 373,(kC "__init__" "Floors.__init__" 640 167 1 (.ref 368) (.ref 369) .none (.ref 370) (.ref 371) (.ref 372) 644))::(nat_lit 374,(kF "__init__" "Floors.__init__" (inClass (top 20) 0) "countkin.floors" 626 373))::(nat_lit 380,(kC "size_of" "Floors.size_of" 647 170 2 (.ref 375) (.ref 376) .none (.ref 377) (.ref 378) (.ref 379) 652))::(nat_lit 381,(kF "size_of" "Floors.size_of" (inClass (top 20) 1) "countkin.floors" 626 380))::(nat_lit 385,(kC "is_one" "Floors.is_one" 655 173 2 (.ref 382) (.ref 383) .none .none .none (.ref 384) 658))::(nat_lit 386,(kF "is_one" "Floors.is_one" (inClass (top 20) 2) "countkin.floors" 626 385))::(nat_lit 392,(kC "bare" "Floors.bare" 661 182 1 (.ref 387) (.ref 388) .none (.ref 389) (.ref 390) (.ref 391) 665))::Eg P
noncomputable def D8 (P:HG):Frag:=(nat_lit 328,(kF "size_of" "Rooms.size_of" (inClass (top 17) 1) "countkin.bends" 499 327))::(nat_lit 332,(kC "is_one" "Rooms.is_one" 591 136 2 (.ref 329) (.ref 330) .none .none .none (.ref 331) 594))::(nat_lit 333,(kF "is_one" "Rooms.is_one" (inClass (top 17) 2) "countkin.bends" 499 332))::(nat_lit 339,(kC "bare" "Rooms.bare" 597 141 1 (.ref 334) (.ref 335) .none (.ref 336) (.ref 337) (.ref 338) 601))::(nat_lit 340,(kF "bare" "Rooms.bare" (inClass (top 17) 3) "countkin.bends" 499 339))::(nat_lit 344,(kC "parted" "Rooms.parted" 604 144 2 (.ref 341) (.ref 342) .none .none .none (.ref 343) 607))::(nat_lit 345,(kF "parted" "Rooms.parted" (inClass (top 17) 4) "countkin.bends" 499 344))::(nat_lit 349,(kC "joined" "Rooms.joined" 610 152 3 (.ref 346) (.ref 347) .none .none .none (.ref 348) 613))::(nat_lit 350,(kF "joined" "Rooms.joined" (inClass (top 17) 5) "countkin.bends" 499 349))::(nat_lit 352,⟨(.type "dict"),none,(.dict #[kD P "__module__" 573 (.str "countkin.bends" 499),kD P "__firstlineno__" 577 (.int 128 576),kD P "__init__" 584 (.ref 323),kD P "size_of" 590 (.ref 328),kD P "is_one" 596 (.ref 333),kD P "bare" 603 (.ref 340),kD P "parted" 609 (.ref 345),kD P "joined" 615 (.ref 350),kD P "__static_attributes__" 616 (.ref 351),kD P "__doc__" 617 .none] 2),#[]⟩)::D9 P
noncomputable def Eh (P:HG):Frag:=(nat_lit 290,(kF "bare" "Bows.bare" (inClass (top 16) 3) "countkin.bends" 499 289))::(nat_lit 296,(kC "parted" "Bows.parted" 541 119 2 (.ref 291) (.ref 292) .none (.ref 293) (.ref 294) (.ref 295) 549))::(nat_lit 297,(kF "parted" "Bows.parted" (inClass (top 16) 4) "countkin.bends" 499 296))::(nat_lit 303,(kC "joined" "Bows.joined" 552 125 3 (.ref 298) (.ref 299) .none (.ref 300) (.ref 301) (.ref 302) 559))::(nat_lit 304,(kF "joined" "Bows.joined" (inClass (top 16) 5) "countkin.bends" 499 303))::(nat_lit 306,⟨(.type "dict"),none,(.dict #[kD P "__module__" 508 (.str "countkin.bends" 499),kD P "__firstlineno__" 512 (.int 103 511),kD P "__init__" 519 (.ref 271),kD P "size_of" 527 (.ref 278),kD P "is_one" 533 (.ref 283),kD P "bare" 540 (.ref 290),kD P "parted" 551 (.ref 297),kD P "joined" 561 (.ref 304),kD P "__static_attributes__" 562 (.ref 305),kD P "__doc__" 563 .none] 2),#[]⟩)::(nat_lit 307,⟨(.type "type"),none,(.cls ⟨"Bows",[(.ref 210)],[(.ref 307),(.ref 210),(.ref 133),(.type "object")],306,"Bows",true,[],[],false,none,false⟩),#[(some (.ref 258)),none,(some (.str "Bows" 501)),(some (.str "Bows" 509)),(some (.builtin "object.__new__")),(some (.bool true))]⟩)::(nat_lit 322,(kC "__init__" "Rooms.__init__" 578 130 1 (.ref 317) (.ref 318) .none (.ref 319) (.ref 320) (.ref 321) 582))::(nat_lit 323,(kF "__init__" "Rooms.__init__" (inClass (top 17) 0) "countkin.bends" 499 322))::(nat_lit 327,(kC "size_of" "Rooms.size_of" 585 133 2 (.ref 324) (.ref 325) .none .none .none (.ref 326) 588))::D8 P
noncomputable def Ej (P:HG):Frag:=(nat_lit 250,(kF "each_once" "each_once" (top 13) "countkin.common" 458 249))::(nat_lit 256,(kC "any_cross" "any_cross" 488 96 1 (.ref 251) (.ref 252) .none (.ref 253) (.ref 254) (.ref 255) 496))::(nat_lit 257,(kF "any_cross" "any_cross" (top 14) "countkin.common" 458 256))::(nat_lit 270,(kC "__init__" "Bows.__init__" 513 105 1 (.ref 265) (.ref 266) .none (.ref 267) (.ref 268) (.ref 269) 517))::(nat_lit 271,(kF "__init__" "Bows.__init__" (inClass (top 16) 0) "countkin.bends" 499 270))::(nat_lit 277,(kC "size_of" "Bows.size_of" 520 108 2 (.ref 272) (.ref 273) .none (.ref 274) (.ref 275) (.ref 276) 525))::(nat_lit 278,(kF "size_of" "Bows.size_of" (inClass (top 16) 1) "countkin.bends" 499 277))::(nat_lit 282,(kC "is_one" "Bows.is_one" 528 111 2 (.ref 279) (.ref 280) .none .none .none (.ref 281) 531))::(nat_lit 283,(kF "is_one" "Bows.is_one" (inClass (top 16) 2) "countkin.bends" 499 282))::(nat_lit 289,(kC "bare" "Bows.bare" 534 116 1 (.ref 284) (.ref 285) .none (.ref 286) (.ref 287) (.ref 288) 538))::Eh P
noncomputable def Eb (P:HG):Frag:=(nat_lit 219,(kF "by_parts" "by_parts" (top 7) "countkin.kin" 230 218))::(nat_lit 225,(kC "led_by_parts" "led_by_parts" 446 77 3 (.ref 220) (.ref 221) .none (.ref 222) (.ref 223) (.ref 224) 455))::(nat_lit 226,(kF "led_by_parts" "led_by_parts" (top 8) "countkin.kin" 230 225))::(nat_lit 230,(kC "raised_by" "raised_by" 460 85 2 (.ref 227) (.ref 228) .none .none .none (.ref 229) 463))::(nat_lit 231,(kF "raised_by" "raised_by" (top 10) "countkin.common" 458 230))::(nat_lit 235,(kC "pairs_raised_by" "pairs_raised_by" 466 87 2 (.ref 232) (.ref 233) .none .none .none (.ref 234) 469))::(nat_lit 236,(kF "pairs_raised_by" "pairs_raised_by" (top 11) "countkin.common" 458 235))::(nat_lit 242,(kC "flat" "flat" 472 89 1 (.ref 237) (.ref 238) .none (.ref 239) (.ref 240) (.ref 241) 478))::(nat_lit 243,(kF "flat" "flat" (top 12) "countkin.common" 458 242))::(nat_lit 249,(kC "each_once" "each_once" 481 94 1 (.ref 244) (.ref 245) .none (.ref 246) (.ref 247) (.ref 248) 485))::Ej P
noncomputable def En (P:HG):Frag:=(nat_lit 109,(kF "refuse_other" "Family.refuse_other" (inClass (top 5) 7) "countkin.kin" 230 108))::(nat_lit 132,⟨(.type "dict"),none,(.dict #[kD P "__module__" 239 (.str "countkin.kin" 230),kD P "__firstlineno__" 243 (.int 10 242),kD P "__init__" 252 (.ref 60),kD P "size_of" 260 (.ref 67),kD P "is_one" 268 (.ref 74),kD P "unchecked_many" 276 (.ref 81),kD P "unchecked_number" 284 (.ref 88),kD P "unchecked_thing" 293 (.ref 95),kD P "many" 301 (.ref 102),kD P "refuse_other" 309 (.ref 109),kD P "number_of" 317 (.ref 116),kD P "thing_of" 326 (.ref 123),kD P "next_of" 334 (.ref 130),kD P "__static_attributes__" 337 (.ref 131),kD P "__dict__" 339 (.ref 134),kD P "__weakref__" 341 (.ref 135),kD P "__doc__" 342 .none] 4),#[]⟩)::(nat_lit 133,⟨(.type "type"),none,(.cls ⟨"Family",[(.type "object")],[(.ref 133),(.type "object")],132,"Family",true,[],[(.ref 210)],false,none,false⟩),#[none,none,(some (.str "Family" 232)),(some (.str "Family" 240)),(some (.builtin "object.__new__")),(some (.bool true))]⟩)::(nat_lit 134,⟨(.type "getset_descriptor"),none,(.fields #[(.str "__dict__" 338),(.ref 133),(.builtin "function.__dict__"),(.builtin "function.__dict__#set")]),#[]⟩)::(nat_lit 135,⟨(.type "getset_descriptor"),none,(.fields #[(.str "__weakref__" 340),(.ref 133),(.builtin "ExceptionGroup.__weakref__"),.none]),#[]⟩)::(nat_lit 150,(kC "__init__" "SplitFamily.__init__" 357 48 2 (.ref 145) (.ref 146) .none (.ref 147) (.ref 148) (.ref 149) 362))::(nat_lit 151,(kF "__init__" "SplitFamily.__init__" (inClass (top 6) 0) "countkin.kin" 230 150))::(nat_lit 209,⟨(.type "dict"),none,(.dict #[kD P "__module__" 352 (.str "countkin.kin" 230),kD P "__firstlineno__" 356 (.int 46 355),kD P "__init__" 364 (.ref 151),kD P "bare" 371 (.ref 158),kD P "parted" 379 (.ref 165),kD P "joined" 388 (.ref 172),kD P "unchecked_many" 396 (.ref 179),kD P "unchecked_number" 404 (.ref 186),kD P "unchecked_thing" 413 (.ref 193),kD P "number_by_parts" 422 (.ref 200),kD P "thing_by_parts" 432 (.ref 207),kD P "__static_attributes__" 433 (.ref 208),kD P "__doc__" 434 .none] 2),#[]⟩)::(nat_lit 210,⟨(.type "type"),none,(.cls ⟨"SplitFamily",[(.ref 133)],[(.ref 210),(.ref 133),(.type "object")],209,"SplitFamily",true,[],[(.ref 307),(.ref 353),(.ref 408),(.ref 474)],false,none,false⟩),#[(some (.ref 138)),none,(some (.str "SplitFamily" 345)),(some (.str "SplitFamily" 353)),(some (.builtin "object.__new__")),(some (.bool true))]⟩)::(nat_lit 218,(kC "by_parts" "by_parts" 437 74 3 (.ref 213) (.ref 214) .none (.ref 215) (.ref 216) (.ref 217) 443))::Eb P
noncomputable def xE (P:HG):Frag:=(nat_lit 2,⟨.none,none,(.dict #[] 0),#[]⟩)::(nat_lit 3,⟨(.type "dict"),none,(.dict (Js (Bi P)) 44),#[]⟩)::(nat_lit 30,⟨(.type "dict"),none,(.dict #[kD P "__module__" 203 (.str "countkin.errors" 194),kD P "__firstlineno__" 207 (.int 5 206),kD P "__static_attributes__" 208 (.ref 29),kD P "__weakref__" 210 (.ref 32),kD P "__doc__" 211 .none] 3),#[]⟩)::(nat_lit 31,⟨(.type "type"),none,(.cls ⟨"KinError",[(.type "ValueError")],[(.ref 31),(.type "ValueError"),(.type "Exception"),(.type "BaseException"),(.type "object")],30,"KinError",true,[],[(.ref 44)],false,none,false⟩),#[(some (.ref 22)),none,(some (.str "KinError" 196)),(some (.str "KinError" 204)),(some (.builtin "ValueError.__new__")),(some (.bool true))]⟩)::(nat_lit 32,⟨(.type "getset_descriptor"),none,(.fields #[(.str "__weakref__" 209),(.ref 31),(.builtin "ExceptionGroup.__weakref__"),.none]),#[]⟩)::(nat_lit 43,⟨(.type "dict"),none,(.dict #[kD P "__module__" 221 (.str "countkin.errors" 194),kD P "__firstlineno__" 225 (.int 7 224),kD P "__static_attributes__" 226 (.ref 42),kD P "__doc__" 227 .none] 2),#[]⟩)::(nat_lit 44,⟨(.type "type"),none,(.cls ⟨"NoThing",[(.ref 31)],[(.ref 44),(.ref 31),(.type "ValueError"),(.type "Exception"),(.type "BaseException"),(.type "object")],43,"NoThing",true,[],[],false,none,false⟩),#[(some (.ref 35)),none,(some (.str "NoThing" 214)),(some (.str "NoThing" 222)),(some (.builtin "ValueError.__new__")),(some (.bool true))]⟩)::(nat_lit 59,(kC "__init__" "Family.__init__" 244 12 3 (.ref 54) (.ref 55) .none (.ref 56) (.ref 57) (.ref 58) 250))::(nat_lit 60,(kF "__init__" "Family.__init__" (inClass (top 5) 0) "countkin.kin" 230 59))::(nat_lit 108,(kC "refuse_other" "Family.refuse_other" 302 34 2 (.ref 103) (.ref 104) .none (.ref 105) (.ref 106) (.ref 107) 307))::En P
noncomputable def hKs:HG->Frag:=fun P=>xE P
noncomputable def bT:Bool:=true
noncomputable def bF:Bool:=false
noncomputable def hM:List Bool:=(bF::bF::bT::bT::bF::bF::bF::bF::bF::bF::bF::bF::bF::bF::bF::bF::bF::bF::bF::bF::bF::bF::bF::bF::bF::bF::bF::bF::bF::bF::bT::bT::bT::bF::bF::bF::bF::bF::bF::bF::bF::bF::bF::bT::bT::bF::bF::bF::bF::bF::bF::bF::bF::bF::bF::bF::bF::bF::bF::bT::bT::bF::bF::bF::bF::bF::bF::bF::bF::bF::bF::bF::bF::bF::bF::bF::bF::bF::bF::bF::bF::bF::bF::bF::bF::bF::bF::bF::bF::bF::bF::bF::bF::bF::bF::bF::bF::bF::bF::bF::bF::bF::bF::bF::bF::bF::bF::bF::bT::bT::bF::bF::bF::bF::bF::bF::bF::bF::bF::bF::bF::bF::bF::bF::bF::bF::bF::bF::bF::bF::bF::bF::bT::bT::bT::bT::bF::bF::bF::bF::bF::bF::bF::bF::bF::bF::bF::bF::bF::bF::bT::bT::bF::bF::bF::bF::bF::bF::bF::bF::bF::bF::bF::bF::bF::bF::bF::bF::bF::bF::bF::bF::bF::bF::bF::bF::bF::bF::bF::bF::bF::bF::bF::bF::bF::bF::bF::bF::bF::bF::bF::bF::bF::bF::bF::bF::bF::bF::bF::bF::bF::bF::bF::bF::bF::bF::bF::bF::bF::bT::bT::bF::bF::bF::bF::bF::bF::bF::bT::bT::bF::bF::bF::bF::bF::bT::bT::bF::bF::bF::bT::bT::bF::bF::bF::bT::bT::bF::bF::bF::bF::bF::bT::bT::bF::bF::bF::bF::bF::bT::bT::bF::bF::bF::bF::bF::bT::bT::bF::bF::bF::bF::bF::bF::bF::bF::bF::bF::bF::bF::bT::bT::bF::bF::bF::bF::bF::bT::bT::bF::bF::bF::bT::bT::bF::bF::bF::bF::bF::bT::bT::bF::bF::bF::bF::bF::bT::bT::bF::bF::bF::bF::bF::bT::bT::bF::bT::bT::bF::bF::bF::bF::bF::bF::bF::bF::bF::bF::bF::bF::bF::bF::bT::bT::bF::bF::bF::bT::bT::bF::bF::bF::bT::bT::bF::bF::bF::bF::bF::bT::bT::bF::bF::bF::bT::bT::bF::bF::bF::bT::bT::bF::bT::bT::bF::bF::bF::bF::bF::bT::bT::bF::bF::bF::bF::bF::bF::bF::bF::bF::bF::bF::bF::bT::bT::bF::bF::bF::bF::bF::bT::bT::bF::bF::bF::bT::bT::bF::bF::bF::bF::bF::bT::bT::bF::bF::bF::bT::bT::bF::bF::bF::bF::bF::bT::bT::bF::bT::bT::bF::bF::bF::bF::bF::bF::bF::bT::bT::bF::bF::bF::bT::bT::bF::bF::bF::bF::bF::bF::bF::bF::bF::bF::bF::bF::bT::bT::bF::bF::bF::bF::bF::bT::bT::bF::bF::bF::bF::bF::bT::bT::bF::bF::bF::bF::bF::bT::bT::bF::bF::bF::bF::bF::bT::bT::bF::bF::bF::bF::bF::bT::bT::bF::bT::bT::bF::bF::bF::bF::bF::bF::bF::bT::bT::bF::bF::bF::bF::bF::bT::bT::bF::bF::bF::bF::bF::bT::bT::bF::bF::bF::bF::bF::bT::bT::bF::bF::bF::bF::bF::bT::bT::bF::bF::bF::bF::bF::bT::bT::bF::bF::bF::bT::bT::bF::bF::bF::bF::bF::bT::bT::bF::bF::bF::bT::bT::bF::bF::bF::bF::bF::bT::bT::bF::bF::bF::bF::bF::bT::bT::bF::bF::bF::bT::bT::bF::bF::bF::bF::bF::bT::bT::bF::bF::bF::bF::bF::bT::bT::bF::bF::bF::bT::bT::bF::bF::bF::bF::bF::bT::bT::[])
noncomputable def hA:List EK:=iK hM 0
theorem hAM:hA=iK hM 0:=rfl
noncomputable abbrev hX:Ez->Bool:=(fun s=>xlAt hQ [] s&&recOk (RowW.records (OpenRow.toRowW (OpenLaw.row PySem.Challenge.rw_countkin_k24_four_families_by_parts))) s)
theorem hKA:∀ P:HG,hA=(hK P).map (·.1):=fun _=>by kernel_rfl
noncomputable abbrev hH:Hook:=kHook hK hA hKA
noncomputable def hLook (P:HG) (s:Ez):=((staticsOk (importedModules PySem.Challenge.pw_countkin_k24_four_families_by_parts.main.body) (KY P) s.heap&&namesBound PySem.Challenge.pw_countkin_k24_four_families_by_parts s.heap&&gensDone s&&laidKept (KY P) s.heap),openSeen hQ hL (importedModules PySem.Challenge.pw_countkin_k24_four_families_by_parts.main.body) hX true s,fF s.heap.objs.toList hM)
noncomputable def hPreF (w:FH) (os:Lc):=topGo treeTable PySem.Challenge.pw_countkin_k24_four_families_by_parts w 11 (some (.ref 6)) 12 ⟨KY w.params,Array.mk [],boot_drawn,boot_toks,os⟩ (topStub PySem.Challenge.pw_countkin_k24_four_families_by_parts)
noncomputable def hPreG (w:FH) (os:Lc):Option (Ez × Thread):=some ((hS w os).abs,⟨denote treeTable hC,hC,⟨0,0,0,0⟩,[topFrame ⟨0,0,0,0⟩]⟩)
noncomputable def hBlkF (w:FH) (os:Lc):=segRun treeTable PySem.Challenge.pw_countkin_k24_four_families_by_parts w 11 (some (.ref 6)) 1 1 (hS w os).abs (blockOf hB hE hC ⟨0,0,0,0⟩ [topFrame ⟨0,0,0,0⟩])
noncomputable def hBlkG (w:FH) (os:Lc):Option (Flow × Ez × Code × Pos):=some (.next,(hS w os).abs,hC,⟨0,0,0,0⟩)
noncomputable def hRunF (w:FH) (os:Lc):=(segRunT treeTable PySem.Challenge.pw_countkin_k24_four_families_by_parts w 11 (some (.ref 6)) 1 3979 (hS w os) (piecesOf hB hE hC ⟨0,0,0,0⟩ [topFrame ⟨0,0,0,0⟩])).map (lG treeTable PySem.Challenge.pw_countkin_k24_four_families_by_parts w 11 (some (.ref 6)) ⟨0,0,0,0⟩ hC 2 (hLook w.params))
noncomputable def hRunG (w:FH) (_:Lc):=some (Flow.next,hC,some (true,openGood hQ hL,(hKs w.params).map fun p=>some p.2))
noncomputable def hSizF (w:FH):=((KY w.params).isNs mainGlobals&&(Array.mk []:Array Kf).size == 0,(KY w.params).objs.size,(KY w.params).nsMap mainGlobals "__annotations__")
noncomputable def hSizG (_:FH):Bool × Nat × Option Ey:=(true,11,(some (.ref 6)))
theorem hSeed:(fun _ _ _ _ _ _ _ _=>true) hPreF hPreG hBlkF hBlkG hRunF hRunG hSizF hSizG=true:=by k_qdec
theorem hPre:hPreF=hPreG:=K2 PySem.W.Fast.te5317814654954331368 (K2 (by kernel_rfl) (Eq.symm PySem.W.Fast.te14277440360295502494))
theorem hBlk:hBlkF=hBlkG:=K2 PySem.W.Fast.te2033988648308832629 (K2 (by kernel_rfl) (Eq.symm PySem.W.Fast.te1798457917166677164))
theorem hRun:hRunF=hRunG:=K2 PySem.W.Fast.te6412348297585774662 (K2 (by kernel_rfl) (Eq.symm PySem.W.Fast.te15447895654253735931))
theorem hSiz:hSizF=hSizG:=K2 PySem.W.Fast.te13693962943478796877 (by kernel_rfl)
theorem hLeft:LeftO PySem.Challenge.pw_countkin_k24_four_families_by_parts hQ hL hX (Hook.obs hH) (Hook.val hH) 8082 :=
 rQ (boot_open (by kernel_rfl) (by decide) (fun _=>by kernel_rfl)) (fun w=>congrFun hSiz w)
  (fun w os=>by
   obtain ⟨e,r,l⟩:=t6 (b:=hB) (env:=hE) (L:=hLook w.params) rfl (congrFun (congrFun hPre w) os) (congrFun (congrFun hBlk w) os) (congrFun (congrFun hRun w) os)
   exact ⟨e,r,(congrArg (fun z=>(_,_,z)) (yo hAM e.heap)).trans l⟩) (by decide)
end Ck
open PySem PySem.W PyProof.Rows
set_option maxRecDepth 100000 in
set_option maxHeartbeats 0 in
theorem PySem.Challenge.cw_countkin_k24_four_families_by_parts_holds : PySem.Challenge.rw_countkin_k24_four_families_by_parts.Holds := by
 w_on; o_law
 refine holds_open (q:=Ck.hQ) (loose:=Ck.hL) (Xt:=Ck.hX) (XP:=XL Ck.hQ []) (Yf:=Hook.obs (kHook Ck.hK Ck.hA Ck.hKA)) (Ya:=Hook.val (kHook Ck.hK Ck.hA Ck.hKA)) (YP:=Hook.says (kHook Ck.hK Ck.hA Ck.hKA)) (N:=8082) Ck.hLeft (Hook.of (kHook Ck.hK Ck.hA Ck.hKA)) (Hook.keeps (kHook Ck.hK Ck.hA Ck.hKA))
  (fun s e=>xl_of s (Gj.mp e).1) XL.keeps (by rfl) (by rfl) (by rfl) (fun s e=>recFacts_of (Gj.mp e).2) (by rfl) (by first | assumption | decide +kernel) (by decide +kernel) ⟨rfl,rfl,rfl,rfl,rfl,by decide +kernel⟩ ?hw ?hc
 case hw=>w_witness2
 k_fill
 refine Ck.walk (l:=PySem.Challenge.rw_countkin_k24_four_families_by_parts) rfl rfl (fun w h Y=>W.kIn_of Y) ?F
 case F =>
  intro w mg fa h KX G hmg
  refine' Ck.all_mk KX G hmg ?_ ?_ ?_ ?_ ?_ ?_ ?_ ?_ ?_ ?_ ?_ ?_ ?_ ?_ ?_ ?_ ?_ ?_ ?_ ?_ ?_ ?_ ?_ ?_ ?_ ?_ ?_ ?_ ?_ ?_ ?_ ?_ ?_ ?_ ?_ ?_ ?_ ?_ ?_ ?_ ?_ ?_ ?_ ?_ ?_ ?_ ?_ ?_ ?_ ?_ ?_ ?_ ?_ ?_ ?_ ?_ ?_ ?_ ?_ ?_ ?_ ?_ ?_ ?_ ?_ ?_ ?_ ?_ ?_ ?_ ?_ ?_ ?_ ?_ ?_ ?_ ?_ ?_ ?_ ?_ ?_ ?_ ?_ ?_ ?_ ?_ ?_ ?_ ?_ ?_ ?_ ?_ ?_ ?_ ?_ ?_ ?_ ?_ ?_ ?_ ?_ ?_ ?_ ?_ ?_ ?_ ?_ ?_ ?_ ?_ ?_ ?_ ?_ ?_ ?_ ?_ ?_ ?_ ?_ ?_ ?_ ?_ ?_ ?_ ?_ ?_ ?_ ?_ ?_ ?_ ?_ ?_ ?_ ?_ ?_ ?_ ?_ ?_ ?_ ?_ ?_ ?_
  any_goals first | refine' L2.Meth.mk ?_ ?_ ?_ | refine' L2.Cls.mk ?_ ?_ ?_ ?_ | refine' L2.InsT.mk (L2.Cls.mk ?_ ?_ ?_ ?_) ?_ ?_ ?_ ?_ | refine' L2.Mk.mk ?_ ?_ ?_ ?_ | refine' L2.ClsM.mk ?_ ?_ ?_ ?_ | refine' L2.fun_mk ?_ ?_ ?_ | unfold L2.NoAttr | unfold Ck.Gb
  any_goals k_is
  all_goals kernel_rfl
