import PyProof.Rows.All
import Wide.All
import OpenK.AllK
import Wide.FinOn
import Lean
import PyProof.EqAt
import PyProof.EqKinds
import PyProof.TupleCall
import KE.KMinBuiltin
import KE.KRevSl
import KE.KSortTup
import KE.KTryMore
import Open.Pieces
import OpenK.KQuick
import OpenK.KWalk
import PyProof.CollectWalk
import PyProof.DictWalks
import PyProof.EnumMake
import PyProof.ExcAttrAll.ValueError
import PyProof.FitsBits
import PyProof.ListRange
import PyProof.NeKinds
import PyProof.Rows.SetFrom
import PyProof.Rows.SortRuns
import PyProof.Rows.StrInSeq3
import PyProof.SetRoads
import PyProof.TupleKey
import PyProof.ZipIter
import PySem.Challenge.RW_countkin_k22_four_families_numbered
open Array renaming getElem?_eq_getElem→Fz, length_toList→FM, toList_push→Gp, getElem?_toList→Gq, getElem?_eq_some_iff→Gu, getD_eq_getD_getElem?→GO, getElem?_eq_none→G5, toList_extract→HJ, perm_iff_toList_perm→Iz, forIn_toList→IH, mem_toList_iff→IM, toList_reverse→Jx, append_empty→JS, append_push→J2, getElem_toList→Kj, toList_filterMap→Ly, modify→LJ, ext'→Mb
open Array.Perm renaming refl→LI
open Bool renaming false_eq_true→Fx, and_eq_true→FO, false_ne_true→Gh, eq_iff_iff→G8, and_eq_false_iff→He, not_eq_true'→Hi, true_and→Hs, false_and→HP, not_true→HV, and_false→Jy, or_eq_true→JW, and_eq_true_iff→Kk, not_false→KR, or_false→L4
open Classical renaming byContradiction→IK
open Eq renaming trans→LQ
open False renaming elim→Il
open ForInStep renaming yield→IR
open Int renaming le_refl→GA, toNat_natCast→GI, le_of_lt→Hd, le_trans→Hy, emod_nonneg→HX, emod_lt_of_pos→Ie, not_lt→IW, add_assoc→Jv, zero_add→JN, toNat_of_nonneg→KF, mul_nonneg→KP, add_neg_cancel_right→K2
open List renaming getD_eq_getElem?_getD→AC, getElem?_eq_getElem→Da, length_map→Do, getElem?_eq_some_iff→Fs, map_append→Fu, length_append→Fw, take_of_length_le→FB, range→FC, mem_cons_of_mem→FE, mem_append→FF, mem_of_getElem?→FG, mem_map→FH, mem_cons→FL, size_toArray→FN, pairwise_iff_getElem→FP, map_cons→FQ, take_add_one→FT, length_take→FU, mem_range→FV, append_assoc→FX, length_cons→FZ, mem_cons_self→Ge, append_nil→Gj, all_eq_true→Gn, map_congr_left→Gw, pairwise_append→Gx, getElem?_of_mem→Gy, length_filter_le→Gz, map_map→GC, getElem?_map→GD, mem_append_right→GE, pairwise_map→GJ, mem_filter→GK, Nodup→GP, drop_eq_nil_of_le→GR, filter_append→GV, getElem?_append_right→GX, filter_eq_nil_iff→G4, nodup_cons→G9, getElem?_eq_none→Hc, mem_append_left→Hj, getElem?_append_left→Hn, length_drop→Hq, getElem_mem→Hr, nodup_append→Hx, flatten_cons→HN, drop_eq_getElem_cons→HR, getElem?_zip_eq_some→HW, take_append_drop→HY, mem_singleton→Ib, pairwise_cons→Ic, pairwise_singleton→Ik, length_range→Im, filterMap_cons→Ip, getElem_of_mem→Ir, length_pos_iff→Iu, flatten_append→Iv, range_succ_eq_map→Iy, any_eq_true→ID, perm_append_comm→IG, take_succ_eq_append_getElem→IL, getElem?_take_of_lt→IQ, range_succ→IT, nil_append→IV, getElem?_cons_zero→IY, filter_eq_self→IZ, filter_cons_of_pos→Ja, filter_cons_of_neg→Jb, take_length→Jh, eq_nil_of_length_eq_zero→Ji, getElem?_drop→Jn, sum_cons→Jt, drop_zero→Jz, nodup_nil→JC, extract_eq_take_drop→JD, ext_getElem→JF, mem_flatten→JG, cons_append→JH, perm_middle→JI, drop_succ_cons→JJ, zip_eq_zipWith→JK, forIn_cons→JP, any_eq_false→JY, lookup→JZ, map_nil→Ka, length_singleton→Kb, toArray→Kc, nodup_range→Kf, not_mem_nil→Kg, getElem?_set_ne→Kh, mem_of_mem_take→Ki, dropLast_concat_getLast→Km, getElem?_range→Kv, toList_toArray→KC, perm_ext_iff_of_nodup→KI, mem_filterMap→KJ, forIn_nil→KQ, take_sublist→K0, map→Lc, map_id→Le, length_eq_zero_iff→Lj, filter_append_perm→Ll, getElem_map→Lo, isEmpty_nil→Lr, getElem?_set_self→Ls, pairwise_lt_range→Lw, of_mem_zip→LB, all_map→LC, foldl_cons→LH, length_nil→LL, map_drop→L6, all_cons→L7
open List.Pairwise renaming nil→J1, imp_of_mem→K3
open List.Perm renaming append_left→GW, eq_of_pairwise→Hv, refl→JA, trans→LF, cons→LU
open Nat renaming le_refl→Fy, zero_le→FI, ne_of_lt→Gk, lt_of_lt_of_le→Gm, le_trans→GM, lt_irrefl→Hg, zero_add→Hw, add_sub_cancel→HI, lt_succ_iff→HZ, succ_pos→Ia, le_add_right→Ig, not_lt_zero→Iq, lt_of_le_of_lt→IF, le_succ→IJ, lt_succ_of_lt→IU, lt_succ_self→JE, mod_lt→J3, le_of_lt→J6, ne_of_gt→J7, strongRecOn→Kw, lt_trichotomy→K5
open Ne renaming symm→Ih
open Option renaming getD_some→Jg
open Option.some renaming inj→GB
open Or renaming inl→Gd, inr→LS
open Prod renaming ext→JQ, fst→L5, snd→Ml
open PyProof.Rows renaming wpS_bind→FA, wpS_pure→FJ, wpS_forRange→GN, callWith_type1→GU, Keyed→GZ, SortSt→G6, wpS_mono→HS, IntsAre→Ii, mirror_perm→I0, wpS_reverse→Jo, wpS_modify→Ju, wpS_get→JR, K_mirror→JT, K_mirror_equal→J5, callWith_builtin1→J9, listUpdate_at→Ko, wpS_lift→KL, AllBare→K8, sortedAll_old→Lf, seqEpoch_at→Lh, sortedAll_at→LD, entry_list_sort→LG
open PyProof.Rows.F renaming plain_set_update_loop→Je
open PySem renaming wpAny_bind→mo, Value→Fk, Shared→Fq, wpAny_pure→Fv, Addr→FD, Program→Gi, World→GF, Around→GG, wpAny_holding→GH, SetTable→GS, wpAny_truthy_bool→GT, codeAny_builtin→GY, Params→G1, sizeLine_eq→G3, FuncData→G7, wpAny_loadPart'→Hf, plainId_quiet→Hh, wpAny_setState_of→Hz, wpAny_Call_Name_kw→HD, wpAny_updateSeq→HH, wpAny_call_entry→HK, Heap→HM, Stmt→IB, wpAny_mono→IC, Expr→II, wpAny_passesOwn→IP, wpAny_newObj_type→IS, mem_of_lookup→IX, wpAny_callSpecial?_slot→Jd, DictEntry→Jf, wpAny_seqItems→Jk, wpAny_rule→Jl, builtinLookup_eq_fast→Jp, wpAny_ite_split→Jq, Paired→Jw, codeAny_mono→JM, wpAny_setField_rec→JU, wpAny_nextOf_list_item→JX, wpAny_tryCatch→J4, wpAny_eqBool_int→Kd, wpAny_newList→Kp, wpAny_attempt→Kq, wpAny_execs_nil→Kt, wpAny_field→Kx, IsPair→Ky, typeLookup_type→KA, wpAny_specialOf→KB, wpAny_setEntries_of→KD, Scope→KG, ZipApart→KM, wpAny_pyIter_list→KY, call_meets→K1, GenState→K9, wpAny_standAt→La, wpAny_letGo→Li, wpAny_execs_cons→Lm, wpAny_isInstance→Lp, wpAny_askSetting→Lq, wpAny_typeOf→LK, NameKind→LN, OsState→LZ, Within→Mc, Fin→Mo
open PySem.Around renaming under_plainId→GL, under→Me
open PySem.AutoSeq1 renaming wpAny_loadPart'→K4, sub_list_list→Lx
open PySem.Calls renaming call_function_entry→JB, spliced_cons→JO, spliced_nil→J0, Name_function_global→KH, callWith_builtin→Lv
open PySem.Code renaming isFrame→Mf
open PySem.F renaming plainAttrs_list→FR, slot_list_append→Gf, type_list_append→Gg, plain_extend_loop→Iw, plain_max_loop→IE, called_set→Jr, slot_zip_next→Kz, slot_list_extend→K6, type_list_extend→K7, slot_list_index→Ld, entry_max_loop→Ln
open PySem.Heap renaming get?_push_of_some→Ft, lt_size→FK, get?_push_size→Gc, get?_update_other→Gv, get?_update_self→GQ, size_push→Hk, size_update→Jj, SameBut→JL
open PySem.Heap.SameBut renaming update→LY
open PySem.MeetsSeq3 renaming plain_eq_loop→Jc, entry_eq_loop→Lk
open PySem.NameKind renaming free→Kl
open PySem.Obj renaming mapSeq→Gs, putSet→LP
open PySem.Paired renaming length→Js
open PySem.PassesOwn renaming never→Gr
open PySem.SeqAt renaming eq_list_lengthsAt→Lb
open PySem.SeqAt.EqAt renaming int_str→L0, str_int→L1, same→Mn
open PySem.SetTable renaming insertAt→G0, below→Jm, laid→JV, sameMemory→LX, slot→L8
open PySem.Str renaming ofString→FY
open PySem.Value renaming ref→FS, none→Ht, type→IA, isInt_shape→KS, bool→KU, int→Lz, str→Mm
open PySem.W renaming Frag→FW, Frag→Ga, kia_one→Hm, mg_of→Ho, emptyDict→Hu, mg_none_of→HL, findIn→HQ, kitOne→Ij, instObj→Io, methodCall_KW→J8, plainGet→Ke, plainGet_of→Ku, nsIn→KN, lookIn→KO, methodObj→KW, hasDictIn→KZ, cellsFrom_some→Lu, takerIn→LA, boot_heap→LM, Frag→LO, keepIn→LR, callWith_K0→LV, kas_rev→LW, callWith_K→L3, isFn→Md, fnOf→Mi
open PySem.pickOrder renaming go→Mj
open Sum renaming inl→L9, inr→Ma
open True renaming intro→Ks
set_option Elab.async false
set_option linter.all false
set_option maxRecDepth 100000
namespace L2
open PySem PySem.Spec PyProof.Rows
noncomputable abbrev Key:=Sum Int Str
noncomputable def xw:Key->Fk->Bool
 | .inl k,v=>Value.isInt k v
 | .inr x,v=>Value.isStrOf x v
noncomputable def EE (w:GF):Key->Int
 | .inl k=>hashInt k
 | .inr x=>hashStr w x
theorem cc:∀ {k:Key} {v:Fk},xw k v=true->(∃ i t,k=L9 i/\v=Lz i t)\/(∃ x t,k=Ma x/\v=Mm x t)
 | .inl i,v,h=>by
  obtain ⟨t,e⟩:=KS (k:=i) (v:=v) h
  exact .inl ⟨i,t,rfl,e⟩
 | .inr x,v,h=>by
  obtain ⟨t,e⟩:=Value.isStrOf_shape (x:=x) (v:=v) h
  exact .inr ⟨x,t,rfl,e⟩
theorem BA (a b:Int):decide ((L9 a:Key)=L9 b)=(a == b):=by
 by_cases e:a=b
 ·subst e; simp
 ·have h:¬ (L9 a:Key)=L9 b:=fun q=>e (Sum.inl.inj q)
  rw [decide_eq_false h]
  exact (beq_eq_false_iff_ne.mpr e).symm
theorem Bk (a b:Str):decide ((Ma a:Key)=Ma b)=decide (a=b):=by
 by_cases e:a=b
 ·subst e; simp
 ·have h:¬ (Ma a:Key)=Ma b:=fun q=>e (Sum.inr.inj q)
  rw [decide_eq_false h,decide_eq_false e]
theorem zI (a:Int) (b:Str):decide ((L9 a:Key)=Ma b)=false:=decide_eq_false (fun q=>nomatch q)
theorem Cw (a:Str) (b:Int):decide ((Ma a:Key)=L9 b)=false:=decide_eq_false (fun q=>nomatch q)
noncomputable def qk (prog:Gi) (w:GF):PySem.KeyKind prog w Key where
 is:=xw
 hash:=EE w
 inj:=fun v a b ha hb=>by
  rcases cc ha with ⟨i,t,rfl,rfl⟩ | ⟨x,t,rfl,rfl⟩
  ·rcases cc hb with ⟨j,u,rfl,e⟩ | ⟨y,u,rfl,e⟩
   ·injection e with e1 _; rw [e1]
   ·exact nomatch e
  ·rcases cc hb with ⟨j,u,rfl,e⟩ | ⟨y,u,rfl,e⟩
   ·exact nomatch e
   ·injection e with e1 _; rw [e1]
 byValue:=fun k v h=>by
  rcases cc h with ⟨i,t,rfl,rfl⟩ | ⟨x,t,rfl,rfl⟩<;>rfl
 pyHash:=fun hv h=>by
  rcases cc hv with ⟨i,t,rfl,rfl⟩ | ⟨x,t,rfl,rfl⟩
  ·exact wpAny_pyHash_int h
  ·exact wpAny_pyHash_str h
 eqBool:=fun hu hv h=>by
  rcases cc hu with ⟨i,t,rfl,rfl⟩ | ⟨x,t,rfl,rfl⟩
  ·rcases cc hv with ⟨j,u,rfl,rfl⟩ | ⟨y,u,rfl,rfl⟩
   ·rw [BA] at h; exact Kd h
   ·rw [zI] at h; exact L0 i t y u _ _ _ _ h
  ·rcases cc hv with ⟨j,u,rfl,rfl⟩ | ⟨y,u,rfl,rfl⟩
   ·rw [Cw] at h; exact L1 x t j u _ _ _ _ h
   ·rw [Bk] at h; exact wpAny_eqBool_str h
 «strs»:=fun k x t v h=>by
  rcases cc h with ⟨i,u,rfl,e⟩ | ⟨y,u,rfl,e⟩
  ·exact nomatch e
  ·injection e with e1 _
   subst e1
   cases v<;>rfl
end L2
namespace L2
open PySem PySem.Spec PyProof.Rows
inductive V where
 | non | bl (b:Bool) | int (i:Int) | str (x:Str) | byt (b:Array UInt8) | flt (b:UInt64) | ref (a:FD) | ty (n:String)
 deriving DecidableEq
noncomputable def RelV:V->Fk->Prop
 | .non,u=>u=Ht
 | .bl b,u=>u=KU b
 | .int i,u=>∃ t,u=Lz i t
 | .str x,u=>∃ t,u=Mm x t
 | .byt b,u=>∃ t,u=Value.bytes b t
 | .flt b,u=>∃ t,u=Value.float b t
 | .ref a,u=>u=FS a
 | .ty n,u=>u=IA n
noncomputable abbrev Vals:List V->List Fk->Prop:=Jw RelV
theorem Vals.length {xs:List V} {us:List Fk} (r:Vals xs us):xs.length=us.length:=Js r
theorem Vals.get:∀ {xs:List V} {us:List Fk} {i:Nat} {x:V},Vals xs us->xs[i]? = some x->∃ u,us[i]? = some u/\RelV x u
 | _,_,_,_,.nil,e=>by simp at e
 | _,_,0,_,.cons r _,e=>by simp at e; subst e; exact ⟨_,rfl,r⟩
 | _,_,i+1,x,.cons _ t,e=>by
  obtain ⟨u,h1,h2⟩:=Vals.get (i:=i) (x:=x) t (by simpa using e)
  exact ⟨u,by simpa using h1,h2⟩
theorem Vals.set {x:V} {u:Fk} (r:RelV x u):∀ {xs:List V} {us:List Fk} (i:Nat),Vals xs us->Vals (xs.set i x) (us.set i u)
 | _,_,_,.nil=>.nil
 | _,_,0,.cons _ t=>.cons r t
 | _,_,i+1,.cons q t=>.cons q (Vals.set r i t)
theorem Vals.append:∀ {xs ys:List V} {us ws:List Fk},Vals xs us->Vals ys ws->Vals (xs++ys) (us++ws)
 | _,_,_,_,.nil,s=>s
 | _,_,_,_,.cons r t,s=>.cons r (Vals.append t s)
theorem Vals.take:∀ {xs:List V} {us:List Fk} (n:Nat),Vals xs us->Vals (xs.take n) (us.take n)
 | _,_,0,_=>.nil
 | _,_,_+1,.nil=>.nil
 | _,_,n+1,.cons r t=>.cons r (Vals.take n t)
theorem Vals.drop:∀ {xs:List V} {us:List Fk} (n:Nat),Vals xs us->Vals (xs.drop n) (us.drop n)
 | _,_,0,r=>r
 | _,_,_+1,.nil=>.nil
 | _,_,n+1,.cons _ t=>Vals.drop n t
noncomputable def gN:Option V->Option Fk->Prop
 | some v,some u=>RelV v u
 | none,none=>True
 | _,_=>False
noncomputable def KV {κ:Type}:List (κ × V)->List (κ × Fk)->Prop:=Jw fun (p:κ × V) (q:κ × Fk)=>p.1=q.1/\RelV p.2 q.2
noncomputable def kV:Key->V
 | .inl i=>.int i
 | .inr x=>.str x
inductive HO where
 | lst (xs:List V)
 | tup (xs:List V)
 | dK (kvs:List (Key × V)) | dT (kvs:List (List Key × V))
 | set (S:Int->Bool) (n:Nat)
 | ins (C dx:FD) (fs:List (Str × V))
 | own (x:FD)
 | xd (fs:List (Str × V))
 | met (f x:FD)
 | rng (lo hi:Int)
 | frz (o:Obj) (u:HO)
 | tbl (ps:Array Fk)
 | ext (φ:HM->Prop)
noncomputable abbrev Hp:=FD->Option HO
noncomputable def upd (H:Hp) (a:FD) (o:HO):Hp:=fun b=>if b=a then some o else H b
theorem upd_same {H:Hp} {a:FD} {o:HO}:upd H a o a=some o:=by unfold upd; rw [if_pos rfl]
theorem upd_ne {H:Hp} {a b:FD} {o:HO} (h:b≠a):upd H a o b=H b:=by unfold upd; rw [if_neg h]
theorem l3 {H:Hp} {a:FD} {o u:HO}:upd (upd H a o) a u=upd H a u:=by
 funext b; unfold upd; split<;>rfl
theorem CW {H:Hp} {a b:FD} {o u:HO} (h:H a=some o) (h':H b=some u) (d:o≠u):a≠b:=by
 intro e; subst e; rw [h] at h'; exact d (GB h')
theorem ar {H:Hp} {a b:FD} {o:HO} (h:H a=some o) (h':H b=none):a≠b:=by
 intro e; subst e; rw [h] at h'; cases h'
section
variable (P:Gi) (w:GF)
noncomputable def cf (H:Hp) (h:HM) (a:FD):HO->Prop
 | .lst xs=>xs.length<=sizeLine/\∃ (its:List Fk) (n:Nat),Vals xs its/\h.get? a=some { cls:=.type "list",data:=.seq its.toArray n }
 | .tup xs=>xs.length<=sizeLine/\∃ its:List Fk,Vals xs its/\IsTup h a its.toArray
 | .dK kvs=>kvs.length<=sizeLine/\(a == sysModules)=false/\∃ vs,KV kvs vs/\h.DictOf (qk P w) a vs
 | .dT kvs=>kvs.length<=sizeLine/\(a == sysModules)=false/\∃ xs:List (List Key × FD × Fk),
   Jw (fun (p:List Key × V) (q:List Key × FD × Fk)=>p.1=q.1/\H q.2.1=some (.tup (p.1.map kV))/\RelV p.2 q.2.2) kvs xs /\
   ∃ o es ep,h.get? a=some o/\o.ExactDict/\o.data = .dict es ep/\es.toList=xs.map (entryOfKey (tupleKind (qk P w)))/\(xs.map (·.1)).Nodup
 | .set S n=>h.SetOf (intKind P w) a S n
 | .ins C dx fs=>H dx=some (.own a)/\fs.length<=1000/\dx≠a/\h.get? a=some (Io C dx) /\
   ∃ mA,h.Ns1 dx mA/\(∀ f,gN (fs.lookup f) (mA f))/\Mc mA (fs.map (·.1))
 | .own _=>∃ o,h.get? a=some o
 | .xd fs=>∃ mA,h.Ns1 a mA/\∀ f,gN (fs.lookup f) (mA f)
 | .rng lo hi=>∃ t u v,h.get? a=some { cls:=.type "range",data:=.fields #[.int lo t,.int hi u,.int 1 v] }
 | .frz o u=>h.get? a=some o/\cf H h a u
 | .tbl ps=>h.get? a=some { cls:=.none,data:=.fields ps }
 | .met f x=>h.get? a=some (KW (.ref f) (.ref x))
 | .ext φ=>φ h/\(∃ o,h.get? a=some o)/\∀ h1 h2:HM,φ h1->(∀ o,h1.get? a=some o->h2.get? a=some o)->φ h2
def dm (H:Hp) (h:HM):Prop:=∀ a o,H a=some o->cf P w H h a o
end
section
variable {P:Gi} {w:GF} {H H':Hp} {h h':HM} {a:FD} {o:HO}
theorem cf.lt (x:cf P w H h a o):a < h.objs.size:=by
 cases o with
 | lst xs=>obtain ⟨_,_,_,_,e⟩:=x; exact FK e
 | tup xs=>obtain ⟨_,_,_,p⟩:=x; exact p.lt
 | dK kvs=>obtain ⟨_,_,_,_,o,_,_,e,_⟩:=x; exact FK e
 | dT kvs=>obtain ⟨_,_,_,_,o,_,_,e,_⟩:=x; exact FK e
 | set S n=>obtain ⟨o,_,_,_,e,_⟩:=x; exact FK e
 | ins C dx fs=>obtain ⟨_,_,_,e,_⟩:=x; exact FK e
 | own y=>obtain ⟨_,e⟩:=x; exact FK e
 | xd fs=>obtain ⟨_,⟨_,_,_,e,_⟩,_⟩:=x; exact FK e
 | rng lo hi=>obtain ⟨_,_,_,e⟩:=x; exact FK e
 | frz ob u=>obtain ⟨e,_⟩:=x; exact FK e
 | tbl ps=>exact FK (show h.get? a=some _ from x)
 | met f y=>exact FK (show h.get? a=some _ from x)
 | ext φ=>obtain ⟨_,⟨_,e⟩,_⟩:=x; exact FK e
theorem Paired.mapP {α β:Type} {F G:α->β->Prop}:∀ {l₁:List α} {l₂:List β},Jw F l₁ l₂->(∀ a b,F a b->G a b)->Jw G l₁ l₂
 | _,_,.nil,_=>.nil
 | _,_,.cons r t,f=>.cons (f _ _ r) (Paired.mapP t f)
theorem cf.stay (x:cf P w H h a o) (k:∀ b u,(b=a\/H b=some (.own a))->h.get? b=some u->h'.get? b=some u)
  (ho:∀ b,H b=some (.own a)->H' b=some (.own a)) (ht:∀ b xs,H b=some (.tup xs)->H' b=some (.tup xs)):cf P w H' h' a o:=by
 induction o with
 | lst xs=>obtain ⟨z,its,n,r,e⟩:=x; exact ⟨z,its,n,r,k _ _ (.inl rfl) e⟩
 | tup xs=>obtain ⟨z,its,r,ob,e,c⟩:=x; exact ⟨z,its,r,ob,k _ _ (.inl rfl) e,c⟩
 | dK kvs=>obtain ⟨z,y,vs,r,ob,es,ep,e,c⟩:=x; exact ⟨z,y,vs,r,ob,es,ep,k _ _ (.inl rfl) e,c⟩
 | dT kvs =>
  obtain ⟨z,y,xs,r,ob,es,ep,e,c⟩:=x
  exact ⟨z,y,xs,Paired.mapP r fun p q z=>⟨z.1,ht _ _ z.2.1,z.2.2⟩,ob,es,ep,k _ _ (.inl rfl) e,c⟩
 | set S n=>obtain ⟨ob,es,ep,t,e,c⟩:=x; exact ⟨ob,es,ep,t,k _ _ (.inl rfl) e,c⟩
 | ins C dx fs =>
  obtain ⟨d,z,ne,e,mA,⟨od,es,ep,e2,c⟩,r⟩:=x
  exact ⟨ho _ d,z,ne,k _ _ (.inl rfl) e,mA,⟨od,es,ep,k _ _ (.inr d) e2,c⟩,r⟩
 | own y=>obtain ⟨ob,e⟩:=x; exact ⟨ob,k _ _ (.inl rfl) e⟩
 | xd fs=>obtain ⟨mA,⟨od,es,ep,e,c⟩,r⟩:=x; exact ⟨mA,⟨od,es,ep,k _ _ (.inl rfl) e,c⟩,r⟩
 | rng lo hi=>obtain ⟨t,u,v,e⟩:=x; exact ⟨t,u,v,k _ _ (.inl rfl) e⟩
 | frz ob u ih=>obtain ⟨e,q⟩:=x; exact ⟨k _ _ (.inl rfl) e,ih q⟩
 | tbl ps =>
  have e:h.get? a=some { cls:=.none,data:=.fields ps }:=x
  show h'.get? a=some { cls:=.none,data:=.fields ps }
  exact k a _ (.inl rfl) e
 | met f y =>
  have e:h.get? a=some (KW (.ref f) (.ref y)):=x
  show h'.get? a=some (KW (.ref f) (.ref y))
  exact k a _ (.inl rfl) e
 | ext φ=>obtain ⟨p,⟨o,e⟩,st⟩:=x; exact ⟨st _ _ p fun o q=>k _ _ (.inl rfl) q,⟨o,k _ _ (.inl rfl) e⟩,st⟩
theorem dm.lt (x:dm P w H h) (e:H a=some o):a < h.objs.size:=(x a o e).lt
theorem dm.fresh (x:dm P w H h) (e:h.objs.size<=a):H a=none:=by
 cases q:H a with
 | none=>rfl
 | some u=>exact absurd (Gm (x.lt q) e) (Hg _)
theorem dm.kept (x:dm P w H h) (k:∀ b u,h.get? b=some u->h'.get? b=some u):dm P w H h':=fun a o e =>
 (x a o e).stay (fun b u _ q=>k b u q) (fun _ q=>q) fun _ _ q=>q
theorem dm.laid (x:dm P w H h) (k:∀ b u,h.get? b=some u->h'.get? b=some u) (hp:h.objs.size<=a) (new:cf P w (upd H a o) h' a o):dm P w (upd H a o) h':=fun b u e=>by
 have hn:=x.fresh hp
 by_cases hb:b=a
 ·subst hb; rw [upd_same] at e; cases e; exact new
 ·rw [upd_ne hb] at e
  exact (x b u e).stay (fun c v _ q=>k c v q) (fun c q=>by rw [upd_ne (ar q hn)]; exact q) fun c xs q=>by rw [upd_ne (ar q hn)]; exact q
end
def Rd (H:Hp) (a:FD) (u:HO):Prop:=H a=some u\/∃ o,H a=some (.frz o u)
theorem Rd.ok {P:Gi} {w:GF} {H:Hp} {h:HM} {a:FD} {u:HO} (r:Rd H a u) (x:dm P w H h):cf P w H h a u:=by
 rcases r with r | ⟨o,r⟩
 ·exact x a u r
 ·obtain ⟨_,q⟩:=x a _ r
  exact q
noncomputable def xB:Option HO->Prop
 | some (.lst _)=>True
 | some (.dK _)=>True
 | some (.dT _)=>True
 | some (.set _ _)=>True
 | some (.ins _ _ _)=>True
 | some (.ext _)=>True
 | _=>False
section
variable {P:Gi} {w:GF} {H:Hp} {h h':HM} {x e:FD} {o':HO}
theorem dm.write (ok:dm P w H h) (mu:xB (H x)) (he:e=x\/H e=some (.own x)) (k:∀ b u,b≠e->h.get? b=some u->h'.get? b=some u) (heo:∃ u,h'.get? e=some u)
  (new:cf P w (upd H x o') h' x o'):dm P w (upd H x o') h':=fun b u q=>by
 have nown:∀ c y,H c=some (.own y)->c≠x:=fun c y r z=>by subst z; rw [r] at mu; exact mu
 have ntup:∀ c xs,H c=some (.tup xs)->c≠x:=fun c xs r z=>by subst z; rw [r] at mu; exact mu
 by_cases hb:b=x
 ·subst hb; rw [upd_same] at q; cases q; exact new
 ·rw [upd_ne hb] at q
  by_cases hbe:b=e
  ·have q':H b=some (.own x):=by
    rcases he with z | z
    ·exact absurd (hbe.trans z) hb
    ·rw [hbe]; exact z
   rw [q] at q'; cases q'
   obtain ⟨v,hv⟩:=heo
   exact ⟨v,by rw [hbe]; exact hv⟩
  ·refine (ok b u q).stay (fun c v hc r=>k c v ?_ r) (fun c r=>by rw [upd_ne (nown c b r)]; exact r) fun c xs r=>by rw [upd_ne (ntup c xs r)]; exact r
   rcases hc with rfl | hc
   ·exact hbe
   ·rintro rfl
    rcases he with z | z
    ·exact nown c b hc z
    ·rw [hc] at z; cases z; exact hb rfl
end
structure Un (fs ex:List FD) (H H':Hp) (h h':HM):Prop where
 keep:∀ b o,h.get? b=some o->H b=none->b∉fs->b∉ex->h'.get? b=some o
 slot:∀ b o,h.get? b=some o->H b=none->b∈fs->b∉ex->∃ sl,h'.get? b=some { o with slots:=sl }
 free:∀ b o,h.get? b=some o->H b=none->b∉ex->H' b=none
 there:∀ b o,h.get? b=some o->b∉ex->∃ o',h'.get? b=some o'
 tups:∀ b xs,H b=some (.tup xs)->H' b=some (.tup xs)
 frzs:∀ b o u,H b=some (.frz o u)->H' b=some (.frz o u)
 tbls:∀ b ps,H b=some (.tbl ps)->∃ more,H' b=some (.tbl (ps++more))
section
variable {fs fs' ex ex':List FD} {H H1 H2:Hp} {h h1 h2 h':HM} {a x e:FD} {o:HO}
theorem Un.any (u:Un fs ex H H1 h h1) {b:FD} {ob:Obj} (q:h.get? b=some ob) (n:H b=none) (hx:b∉ex):∃ sl,h1.get? b=some { ob with slots:=sl }:=by
 by_cases hb:b∈fs
 ·exact u.slot b ob q n hb hx
 ·exact ⟨ob.slots,u.keep b ob q n hb hx⟩
theorem Un.kept (k:∀ b u,h.get? b=some u->h'.get? b=some u):Un fs ex H H h h' :=
 ⟨fun b ob q _ _ _=>k b ob q,fun b ob q _ _ _=>⟨ob.slots,k b ob q⟩,fun _ _ _ n _=>n,fun b ob q _=>⟨ob,k b ob q⟩,fun _ _ q=>q,fun _ _ _ q=>q,fun _ ps q=>⟨#[],by rw [q]; simp⟩⟩
theorem Un.refl:Un fs ex H H h h:=Un.kept fun _ _ q=>q
theorem Un.laid (k:∀ b u,h.get? b=some u->h'.get? b=some u) (hp:h.objs.size<=a) (hn:H a=none):Un fs ex H (upd H a o) h h' where
 keep:=fun b u q _ _ _=>k b u q
 slot:=fun b u q _ _ _=>⟨u.slots,k b u q⟩
 free:=fun b u q n _=>by rw [upd_ne (Gk (Gm (FK q) hp))]; exact n
 there:=fun b u q _=>⟨u,k b u q⟩
 tups:=fun b xs q=>by rw [upd_ne (ar q hn)]; exact q
 frzs:=fun b u xs q=>by rw [upd_ne (ar q hn)]; exact q
 tbls:=fun b ps q=>⟨#[],by rw [upd_ne (ar q hn),q]; simp⟩
theorem Un.write (mu:xB (H x)) (he:e=x\/H e=some (.own x)) (k:∀ b u,b≠e->h.get? b=some u->h'.get? b=some u) (heo:∃ u,h'.get? e=some u):Un fs ex H (upd H x o) h h':=by
 have hx:∀ b,H b=none->b≠x:=fun b n z=>by subst z; rw [n] at mu; exact mu
 have hb:∀ b,H b=none->b≠e:=fun b n z=>by
  subst z
  rcases he with r | r
  ·exact hx b n r
  ·rw [n] at r; cases r
 have hm:∀ b u,H b=some u->¬ xB (some u)->b≠x:=fun b u q nm z=>by subst z; rw [q] at mu; exact nm mu
 refine ⟨fun b u q n _ _=>k b u (hb b n) q,fun b u q n _ _=>⟨u.slots,k b u (hb b n) q⟩,fun b u q n _=>by rw [upd_ne (hx b n)]; exact n,fun b u q _=>?_,
  fun b xs q=>by rw [upd_ne (hm b _ q fun z=>z)]; exact q,fun b u xs q=>by rw [upd_ne (hm b _ q fun z=>z)]; exact q,fun b ps q=>⟨#[],by rw [upd_ne (hm b _ q fun z=>z),q]; simp⟩⟩
 by_cases hbe:b=e
 ·subst hbe; exact heo
 ·exact ⟨u,k b u hbe q⟩
end
noncomputable def xT (h:HM) (H:Hp):List FD:=(FC h.objs.size).filter fun a=>(H a).isSome
noncomputable def iz (h:HM) (H:Hp):HM:=PySem.W.hideAll h (xT h H)
theorem va (h:HM) (H:Hp):(iz h H).objs.size=h.objs.size:=PySem.W.hideAll_size _ _
theorem wc {h:HM} {H:Hp} {b:FD} {o:Obj} (e:h.get? b=some o) (n:H b=none):(iz h H).get? b=some o :=
 PySem.W.hideAll_get _ e fun hm=>by
  have q:(H b).isSome=true:=(GK.mp hm).2
  rw [n] at q; simp at q
theorem yS {h:HM} {H:Hp} {b:FD} {o:Obj} (e:(iz h H).get? b=some o):h.get? b=some o/\H b=none:=by
 have e':h.get? b=some o:=PySem.W.of_hideAll (xT h H) e
 refine ⟨e',?_⟩
 cases q:H b with
 | none=>rfl
 | some x =>
  have hm:b∈xT h H:=GK.mpr ⟨FV.mpr (FK e'),by simp [q]⟩
  have z:(iz h H).get? b=none:=PySem.W.hideAll_none (xT h H) hm
  rw [z] at e; cases e
noncomputable def yl (g h:HM) (L:FD):List (FD × Obj):=(FC h.objs.size).filterMap fun a=>if a=L\/(g.get? a).isSome=true then none else (h.get? a).map fun o=>(a,o)
noncomputable def rest (g h:HM) (L d:FD):List (FD × Obj):=(yl g h L).filter fun p=>decide (p.1≠d)
end L2
namespace L2
open PySem PySem.Spec PyProof.Rows
structure Mod (K:FW) (mg:Str->Option Fk) (base:HM):Prop where
 kin:K.In base
 glob:base.Ns mainGlobals mg
 blt:∃ mb,base.Ns builtinsNs mb/\∀ x:Str,x≠"__name__"->mb x=bootBuiltins x
 nolimit:base.NoLimit
structure Cx where
 prog:Gi
 w:GF
 K:FW
 mg:Str->Option Fk
 base:HM
 A:GG
 N:List Str
 s₀:Fq
 H₀:Hp
 env:Env
 outer:List Env
 stack:List Env
 ex:List FD
 fn:Str->Bool
 calm:Bool
 pn:List (FD × Obj)
 xe:Fk->Fq->Prop
noncomputable def g8 (l:List Env):List FD:=l.filterMap (·.frame)
noncomputable abbrev Cx.fs (X:Cx):List FD:=g8 X.outer
def xF (sc:KG) (x:Str):Prop:=sc.names.lookup x=some .local\/sc.names.lookup x=some .cell\/sc.names.lookup x=some .free
def Loc (sc:KG) (x:Str):Prop:=sc.names.lookup x=some .local\/sc.names.lookup x=some .cell
def Look (env:Env) (h:HM) (m:Str->Option Fk) (x:Str) (u:Fk):Prop :=
 (env.kindOf x=some .local/\m x=some u)\/((env.kindOf x=some .cell\/env.kindOf x=some .free)/\∃ c,env.cells.lookup x=some c/\h.IsCell c (some u))
structure Cx.Ok (X:Cx):Prop where
 mod:Mod X.K X.mg X.base
 kind:X.env.scope.kind = .function
 glob:X.env.globals=mainGlobals
 blt:X.env.builtins=builtinsNs
 above:X.s₀.heap.objs.size<=X.env.locals
 inj:∀ x y c,X.env.cells.lookup x=some c->X.env.cells.lookup y=some c->x=y
 has:∀ x,(X.env.kindOf x=some .cell\/X.env.kindOf x=some .free)->∃ c,X.env.cells.lookup x=some c
 cab:∀ x c,X.fn x=true->X.env.cells.lookup x=some c->X.s₀.heap.objs.size<=c
 hd:X.calm=true->X.A.handled=none
 frames:X.A.frames=some X.stack
 stk:X.stack=X.outer\/(X.stack=X.env::X.outer/\X.env.frame=some X.env.locals)
 exf:∀ b∈X.ex,b≠X.env.locals/\∀ x c,X.env.cells.lookup x=some c->c≠b
 bs:∀ b o,X.base.get? b=some o->X.s₀.heap.get? b=some o/\X.H₀ b=none
 bsz:X.base.objs.size<=X.s₀.heap.objs.size
 noex:∀ b o,X.base.get? b=some o->b∉X.ex
 exfs:∀ b∈X.ex,b∉X.fs
 funs:X.s₀.heap.FunFrames X.base X.outer
 frf:∀ b∈X.fs,X.H₀ b=none
structure Inv (X:Cx) (pins:List (FD × Obj)) (σ:List (Option V)) (H:Hp) (s:Fq):Prop where
 ok:X.Ok
 os:s.os=X.s₀.os
 bare:K8 s.gens
 base:Un X.fs X.ex X.H₀ H X.s₀.heap s.heap
 loc:∃ m,s.heap.Ns X.env.locals m/\∀ (i:Nat) (x:Str) (v:V),X.N[i]? = some x->σ[i]? = some (some v)->xF X.env.scope x->∃ u,RelV v u/\Look X.env s.heap m x u
 cell:∀ x c,X.env.cells.lookup x=some c->∃ v,s.heap.IsCell c v
 free:H X.env.locals=none
 freeC:∀ x c,X.env.cells.lookup x=some c->H c=none
 pin:∀ p∈X.pn++pins,s.heap.get? p.1=some p.2/\H p.1=none/\p.1≠X.env.locals/\p.1∉X.fs/\∀ v,p.2.data≠.cell v
 hok:dm X.prog X.w H s.heap
 len:σ.length=X.N.length
section
variable {X:Cx} {pins:List (FD × Obj)} {σ:List (Option V)} {H H':Hp} {s:Fq} {h':HM}
theorem Cx.Ok.nofr (ok:X.Ok) {b:FD} {o:Obj} (e:X.base.get? b=some o):b∉X.fs:=fun hb=>by
 have:=(ok.funs.mem hb).1
 rw [e] at this; cases this
theorem Inv.bs (I:Inv X pins σ H s):∀ b o,X.base.get? b=some o->s.heap.get? b=some o/\H b=none:=fun b o e =>
 ⟨I.base.keep b o (I.ok.bs b o e).1 (I.ok.bs b o e).2 (I.ok.nofr e) (I.ok.noex b o e),I.base.free b o (I.ok.bs b o e).1 (I.ok.bs b o e).2 (I.ok.noex b o e)⟩
theorem Inv.bk (I:Inv X pins σ H s):∀ b o,X.base.get? b=some o->s.heap.get? b=some o:=fun b o e=>(I.bs b o e).1
theorem Inv.mod (I:Inv X pins σ H s):Mod X.K X.mg X.base:=I.ok.mod
theorem Inv.kIn (I:Inv X pins σ H s):X.K.In s.heap:=I.ok.mod.kin.keeps I.bk
theorem Inv.fr (I:Inv X pins σ H s):∃ m,Fr X.base X.env.locals s.heap m :=
 let ⟨m,hn,_⟩:=I.loc
 ⟨m,hn,I.bk,GM I.ok.bsz I.ok.above⟩
theorem Inv.lt (I:Inv X pins σ H s):X.env.locals < s.heap.objs.size:=let ⟨_,hn,_⟩:=I.loc; hn.lt
theorem Inv.sz (I:Inv X pins σ H s):X.s₀.heap.objs.size<=s.heap.objs.size:=GM I.ok.above (J6 I.lt)
theorem Inv.nofs (I:Inv X pins σ H s) {a:FD} (h:s.heap.objs.size<=a):a∉X.fs:=fun hb=>by
 obtain ⟨_,o,ho,_⟩:=I.ok.funs.mem hb
 exact absurd (Gm (FK ho) (GM I.sz h)) (Hg _)
theorem Inv.cne (I:Inv X pins σ H s):∀ x c,X.env.cells.lookup x=some c->c≠X.env.locals:=fun x c e z=>by
 obtain ⟨v,o,ho,hd⟩:=I.cell x c e
 obtain ⟨m,⟨o',es,ep,ho',hd',_⟩,_⟩:=I.loc
 rw [z,ho'] at ho; cases ho; rw [hd'] at hd; cases hd
theorem Inv.funs (I:Inv X pins σ H s):s.heap.FunFrames X.base X.outer:=by
 have all:∀ (l:List Env),(∀ b∈g8 l,b∈X.fs)->X.s₀.heap.FunFrames X.base l->s.heap.FunFrames X.base l:=by
  intro l
  induction l with
  | nil=>intro _ _; trivial
  | cons env r ih =>
   intro hs hl
   obtain ⟨hk,⟨L,o,hf,hn,ho,hd⟩,hr⟩:=hl
   have hL:L∈X.fs:=hs L (by unfold g8; rw [Ip,hf]; exact Ge)
   obtain ⟨sl,e⟩:=I.base.slot L o ho (I.ok.frf L hL) hL fun z=>I.ok.exfs L z hL
   exact ⟨hk,⟨L,_,hf,hn,e,hd⟩,ih (fun b hb=>hs b (by unfold g8; rw [Ip,hf]; exact FE _ hb)) hr⟩
 exact all X.outer (fun _ hb=>hb) I.ok.funs
theorem Inv.stack (I:Inv X pins σ H s):s.heap.FunFrames X.base X.stack:=by
 rcases I.ok.stk with e | ⟨e,hf⟩
 ·rw [e]; exact I.funs
 ·rw [e]
  obtain ⟨m,hn,_⟩:=I.loc
  refine .cons (by rw [I.ok.kind]; decide) hf hn ?_ I.funs
  exact Heap.get?_none_of_le (GM I.ok.bsz I.ok.above)
theorem Inv.stkSub (I:Inv X pins σ H s):∀ b∈g8 X.stack,b∈X.env.locals::X.fs:=fun b hb=>by
 rcases I.ok.stk with e | ⟨e,hf⟩
 ·rw [e] at hb; exact FE _ hb
 ·rw [e] at hb
  unfold g8 at hb
  rw [Ip,hf] at hb
  exact hb
theorem Inv.stkFree (I:Inv X pins σ H s):∀ b∈g8 X.stack,H b=none:=fun b hb=>by
 rcases FL.mp (I.stkSub b hb) with e | hb
 ·rw [e]; exact I.free
 ·obtain ⟨_,o,ho,_⟩:=I.ok.funs.mem hb
  exact I.base.free b o ho (I.ok.frf b hb) fun z=>I.ok.exfs b z hb
theorem Inv.step {g':Array K9} {t':Nat} {d':Drawn} {ch:List FD} (I:Inv X pins σ H s)
  (hch:∀ b∈ch,(b∈X.ex\/X.s₀.heap.objs.size<=b)/\b≠X.env.locals/\(∀ x c,X.env.cells.lookup x=some c->c≠b)/\∀ p∈X.pn++pins,p.1≠b)
  (keep:∀ b o,b≠X.env.locals->b∉X.fs->b∉ch->s.heap.get? b=some o->H b=none->h'.get? b=some o)
  (slot:∀ b o,b≠X.env.locals->b∈X.fs->b∉ch->s.heap.get? b=some o->H b=none->∃ sl,h'.get? b=some { o with slots:=sl }) (free:∀ b o,b∉ch->s.heap.get? b=some o->H b=none->H' b=none)
  (there:∀ b o,b∉ch->s.heap.get? b=some o->∃ o',h'.get? b=some o')
  (tups:∀ b xs,H b=some (.tup xs)->H' b=some (.tup xs)) (frzs:∀ b o u,H b=some (.frz o u)->H' b=some (.frz o u)) (tbls:∀ b ps,H b=some (.tbl ps)->∃ more,H' b=some (.tbl (ps++more)))
  (ns:∀ m,s.heap.Ns X.env.locals m->h'.Ns X.env.locals m) (hok:dm X.prog X.w H' h') (hg:K8 g') :
  Inv X pins σ H' { s with heap:=h',gens:=g',drawn:=d',toks:=t' }:=by
 have neL:∀ b o,X.s₀.heap.get? b=some o->b≠X.env.locals:=fun b o e=>Gk (Gm (FK e) I.ok.above)
 have neC:∀ b o,X.s₀.heap.get? b=some o->b∉X.ex->b∉ch:=fun b o e hx hb=>by
  rcases (hch b hb).1 with z | z
  ·exact hx z
  ·exact absurd (Gm (FK e) z) (Hg _)
 have cellK:∀ x c,X.env.cells.lookup x=some c->∀ v,s.heap.IsCell c v->h'.IsCell c v:=fun x c e v ⟨o,ho,hd⟩=>by
  have nch:c∉ch:=fun z=>(hch c z).2.2.1 x c e rfl
  by_cases hc:c∈X.fs
  ·obtain ⟨sl,q⟩:=slot c o (I.cne x c e) hc nch ho (I.freeC x c e)
   exact ⟨_,q,hd⟩
  ·exact ⟨o,keep c o (I.cne x c e) hc nch ho (I.freeC x c e),hd⟩
 refine ⟨I.ok,I.os,hg,⟨fun b o e n hb hx=>?_,fun b o e n hb hx=>?_,fun b o e n hx=>?_,fun b o e hx=>?_,fun b xs e=>tups b xs (I.base.tups b xs e),fun b o xs e=>frzs b o xs (I.base.frzs b o xs e),fun b ps e=>?_⟩,?_,fun x c e=>?_,?_,fun x c e=>?_,fun p hp=>?_,hok,I.len⟩
 ·exact keep b o (neL b o e) hb (neC b o e hx) (I.base.keep b o e n hb hx) (I.base.free b o e n hx)
 ·obtain ⟨sl,e1⟩:=I.base.slot b o e n hb hx
  obtain ⟨sl',e2⟩:=slot b _ (neL b o e) hb (neC b o e hx) e1 (I.base.free b o e n hx)
  exact ⟨sl',e2⟩
 ·obtain ⟨o',e1⟩:=I.base.there b o e hx
  exact free b o' (neC b o e hx) e1 (I.base.free b o e n hx)
 ·obtain ⟨o',e1⟩:=I.base.there b o e hx
  exact there b o' (neC b o e hx) e1
 ·obtain ⟨m1,e1⟩:=I.base.tbls b ps e
  obtain ⟨m2,e2⟩:=tbls b _ e1
  exact ⟨m1++m2,by rw [e2,Array.append_assoc]⟩
 ·obtain ⟨m,hn,hl⟩:=I.loc
  refine ⟨m,ns m hn,fun i x v e1 e2 e3=>?_⟩
  obtain ⟨u,r,l⟩:=hl i x v e1 e2 e3
  refine ⟨u,r,?_⟩
  rcases l with l | ⟨k,c,e,z⟩
  ·exact .inl l
  ·exact .inr ⟨k,c,e,cellK x c e _ z⟩
 ·obtain ⟨v,z⟩:=I.cell x c e
  exact ⟨v,cellK x c e v z⟩
 ·obtain ⟨m,⟨o,_,_,ho,_⟩,_⟩:=I.loc
  exact free _ o (fun z=>(hch _ z).2.1 rfl) ho I.free
 ·obtain ⟨v,o,ho,hd⟩:=I.cell x c e
  exact free c o (fun z=>(hch c z).2.2.1 x c e rfl) ho (I.freeC x c e)
 ·obtain ⟨e,n,ne,nf,d⟩:=I.pin p hp
  have nch:p.1∉ch:=fun z=>(hch p.1 z).2.2.2 p hp rfl
  exact ⟨keep p.1 p.2 ne nf nch e n,free p.1 p.2 nch e n,ne,nf,d⟩
theorem Inv.un {t':Nat} (I:Inv X pins σ H s) (u:Un X.fs [] H H' s.heap h') (hok:dm X.prog X.w H' h'):Inv X pins σ H' { s with heap:=h',toks:=t' }:=by
 obtain ⟨m,⟨o,es,ep,ho,r⟩,_⟩:=id I.loc
 obtain ⟨sl,hL⟩:=u.any ho I.free (by simp)
 exact I.step (g':=s.gens) (d':=s.drawn) (ch:=[]) (fun _ z=>nomatch z) (fun b o _ hb _ e n=>u.keep b o e n hb (by simp)) (fun b o _ hb _ e n=>u.slot b o e n hb (by simp)) (fun b o _ e n=>u.free b o e n (by simp)) (fun b o _ e=>u.there b o e (by simp)) u.tups u.frzs u.tbls (fun m' hm=>by
  obtain ⟨o',es',ep',ho',r'⟩:=hm
  rw [ho] at ho'; cases ho'
  exact ⟨_,es',ep',hL,r'⟩) hok I.bare
theorem Inv.call {g':Array K9} {t':Nat} {d':Drawn} {ch:List FD} (I:Inv X pins σ H s) (u:Un (g8 X.stack) ch H H' s.heap h') (hok:dm X.prog X.w H' h') (hg:K8 g')
  (hch:∀ b∈ch,(b∈X.ex\/X.s₀.heap.objs.size<=b)/\b≠X.env.locals/\(∀ x c,X.env.cells.lookup x=some c->c≠b)/\∀ p∈X.pn++pins,p.1≠b) :
  Inv X pins σ H' { s with heap:=h',gens:=g',drawn:=d',toks:=t' }:=by
 obtain ⟨m,⟨o,es,ep,ho,r⟩,_⟩:=id I.loc
 obtain ⟨sl,hL⟩:=u.any ho I.free fun z=>(hch _ z).2.1 rfl
 exact I.step (ch:=ch) hch (fun b o hL hb hc e n=>u.keep b o e n (fun z=>(FL.mp (I.stkSub b z)).elim hL hb) hc) (fun b o _ _ hc e n=>u.any e n hc) (fun b o hc e n=>u.free b o e n hc) (fun b o hc e=>u.there b o e hc) u.tups u.frzs u.tbls (fun m' hm=>by
  obtain ⟨o',es',ep',ho',r'⟩:=hm
  rw [ho] at ho'; cases ho'
  exact ⟨_,es',ep',hL,r'⟩) hok hg
theorem Inv.turned {t':Nat} {it:FD} (I:Inv X pins σ H s) (k:∀ b o,b≠it->s.heap.get? b=some o->h'.get? b=some o) (hn:H it=none) (hL:it≠X.env.locals)
  (h1:it∈X.ex\/X.s₀.heap.objs.size<=it) (h2:∀ x c,X.env.cells.lookup x=some c->c≠it) (h3:∀ p∈X.pn++pins,p.1≠it):Inv X pins σ H { s with heap:=h',toks:=t' }:=by
 have nit:∀ b u,H b=some u->b≠it:=fun b u e z=>by rw [z,hn] at e; cases e
 refine I.step (g':=s.gens) (d':=s.drawn) (ch:=[it]) (fun b hb=>?_) (fun b o _ _ hc e _=>k b o (fun z=>hc (by simp [z])) e) (fun b o _ _ hc e _=>⟨o.slots,k b o (fun z=>hc (by simp [z])) e⟩) (fun _ _ _ _ n=>n)
  (fun b o hc e=>⟨o,k b o (fun z=>hc (by simp [z])) e⟩) (fun _ _ e=>e) (fun _ _ _ e=>e) (fun b ps e=>⟨#[],by rw [e]; simp⟩) (fun m hm=>?_) (fun b u e=>?_) I.bare
 ·have e:b=it:=by simpa using hb
  subst e
  exact ⟨h1,hL,h2,h3⟩
 ·obtain ⟨o,es,ep,ho,r⟩:=hm
  exact ⟨o,es,ep,k _ o (Ih hL) ho,r⟩
 ·refine (I.hok b u e).stay (fun c v hc q=>k c v ?_ q) (fun _ q=>q) fun _ _ q=>q
  rcases hc with z | z
  ·rw [z]; exact nit b u e
  ·exact nit c _ z
theorem Inv.tok (I:Inv X pins σ H s) (t:Nat):Inv X pins σ H { s with toks:=t }:=I.un (h':=s.heap) (t':=t) Un.refl I.hok
theorem Inv.kept {t':Nat} (I:Inv X pins σ H s) (k:∀ b u,s.heap.get? b=some u->h'.get? b=some u):Inv X pins σ H { s with heap:=h',toks:=t' }:=I.un (Un.kept k) (I.hok.kept k)
theorem Inv.laid {a:FD} {o:HO} {t':Nat} (I:Inv X pins σ H s) (k:∀ b u,s.heap.get? b=some u->h'.get? b=some u) (hp:s.heap.objs.size<=a) (new:cf X.prog X.w (upd H a o) h' a o) :
  Inv X pins σ (upd H a o) { s with heap:=h',toks:=t' }:=I.un (Un.laid k hp (I.hok.fresh hp)) (I.hok.laid k hp new)
theorem Inv.write {x e:FD} {o:HO} {t':Nat} (I:Inv X pins σ H s) (mu:xB (H x)) (he:e=x\/H e=some (.own x)) (k:∀ b u,b≠e->s.heap.get? b=some u->h'.get? b=some u) (heo:∃ u,h'.get? e=some u)
  (new:cf X.prog X.w (upd H x o) h' x o):Inv X pins σ (upd H x o) { s with heap:=h',toks:=t' }:=I.un (Un.write mu he k heo) (I.hok.write mu he k heo new)
theorem Inv.weak {σ':List (Option V)} (I:Inv X pins σ H s) (hl:σ'.length=σ.length) (w:∀ (i:Nat) v,σ'[i]? = some (some v)->σ[i]? = some (some v)):Inv X pins σ' H s :=
 ⟨I.ok,I.os,I.bare,I.base,let ⟨m,hn,hl'⟩:=I.loc; ⟨m,hn,fun i x v e1 e2 e3=>hl' i x v e1 (w i v e2) e3⟩,I.cell,I.free,I.freeC,I.pin,I.hok,hl.trans I.len⟩
theorem Inv.pins_of {pins':List (FD × Obj)} (I:Inv X pins σ H s) (h:∀ p∈pins',s.heap.get? p.1=some p.2/\H p.1=none/\p.1≠X.env.locals/\p.1∉X.fs/\∀ v,p.2.data≠.cell v):Inv X pins' σ H s :=
 ⟨I.ok,I.os,I.bare,I.base,I.loc,I.cell,I.free,I.freeC,fun p hp=>(FF.mp hp).elim (fun z=>I.pin p (Hj _ z)) (h p),I.hok,I.len⟩
theorem oA {N:List Str} (hN:N.Nodup) {i j:Nat} {x:Str} (a:N[i]? = some x) (b:N[j]? = some x):i=j:=by
 obtain ⟨h1,e1⟩:=Fs.mp a
 obtain ⟨h2,e2⟩:=Fs.mp b
 exact (List.getElem_inj hN).mp (e1.trans e2.symm)
theorem mx {M:Model} {A:GG} {E:Fk->Fq->Prop} {i:Nat} {x:Str} {v:V} {u:Fk} {Q:Unit->Fq->Prop} (I:Inv X pins σ H s) (hN:X.N.Nodup) (hi:X.N[i]? = some x) (hx:Loc X.env.scope x) (r:RelV v u)
  (h:∀ s',Inv X pins (σ.set i (some v)) H s'->(∃ a,JL a s.heap s'.heap/\(a=X.env.locals\/X.env.cells.lookup x=some a))->Q () s') (hf:X.fn x=true\/X.env.scope.names.lookup x=some .local:=by first | exact .inl rfl | exact .inr rfl | assumption):wpAny M A (storeName X.env x u) Q E s:=by
 obtain ⟨m,hn,hl⟩:=id I.loc
 have hcls:(X.env.scope.kind == .class || (X.env.scope.kind == .module&&X.env.locals != X.env.globals))=false:=by rw [I.ok.kind]; rfl
 have hiσ:i < σ.length:=by rw [I.len]; exact (Fs.mp hi).1
 have cne:=I.cne
 have tracked:∀ {a:FD} {h':HM},(∃ o,s.heap.get? a=some o/\H a=none)->JL a s.heap h'->dm X.prog X.w H h':=fun {a h'} ha hs b ob e=>by
  obtain ⟨_,_,hfree⟩:=ha
  refine (I.hok b ob e).stay (fun c w' hc q=>(hs.2 c ?_).trans q) (fun _ q=>q) fun _ _ q=>q
  rintro rfl
  rcases hc with rfl | hc
  ·rw [hfree] at e; cases e
  ·rw [hfree] at hc; cases hc
 rcases hx with hk | hk
 ·refine wpAny_storeName_local hk hn (fun h' hn' hs=>?_) hcls
  obtain ⟨oL,_,_,hoL,_⟩:=id hn
  refine h _ ⟨I.ok,I.os,I.bare,⟨fun b o e n hb hx=>?_,fun b o e n hb hx=>?_,I.base.free,fun b o e hx=>?_,I.base.tups,I.base.frzs,I.base.tbls⟩,⟨_,hn',fun j y v' e1 e2 e3=>?_⟩,fun y c e=>?_,I.free,I.freeC,fun p hp=>?_,tracked ⟨oL,hoL,I.free⟩ hs,by simpa using I.len⟩ ⟨_,hs,.inl rfl⟩
  ·exact (hs.2 b (Gk (Gm (FK e) I.ok.above))).trans (I.base.keep b o e n hb hx)
  ·obtain ⟨sl,e1⟩:=I.base.slot b o e n hb hx
   exact ⟨sl,(hs.2 b (Gk (Gm (FK e) I.ok.above))).trans e1⟩
  ·obtain ⟨o',e1⟩:=I.base.there b o e hx
   exact ⟨o',(hs.2 b (Gk (Gm (FK e) I.ok.above))).trans e1⟩
  ·by_cases hj:j=i
   ·subst hj
    rw [hi] at e1; cases e1
    rw [Ls hiσ] at e2
    cases e2
    exact ⟨u,r,.inl ⟨hk,by simp⟩⟩
   ·rw [Kh (Ih hj)] at e2
    obtain ⟨u',r',q⟩:=hl j y v' e1 e2 e3
    refine ⟨u',r',?_⟩
    rcases q with ⟨k,e⟩ | ⟨k,c,e,z⟩
    ·refine .inl ⟨k,?_⟩
     have:y≠x:=fun e=>hj (oA hN e1 (e▸hi))
     simp [this,e]
    ·exact .inr ⟨k,c,e,z.sameBut hs (cne y c e)⟩
  ·obtain ⟨w',z⟩:=I.cell y c e
   exact ⟨w',z.sameBut hs (cne y c e)⟩
  ·obtain ⟨e,n,ne,nf,d⟩:=I.pin p hp
   exact ⟨(hs.2 p.1 ne).trans e,n,ne,nf,d⟩
 ·have hfn:X.fn x=true:=by
   rcases hf with z | z
   ·exact z
   ·rw [z] at hk; cases hk
  obtain ⟨c,hc⟩:=I.ok.has x (.inl hk)
  obtain ⟨w',z⟩:=I.cell x c hc
  refine wpAny_storeName_cell I.ok.kind hk hc z (fun h' hc' hs=>?_)
  obtain ⟨oc,hoc,hocd⟩:=id z
  refine h { s with heap:=h' } ⟨I.ok,I.os,I.bare,⟨fun b o e n hb hx=>?_,fun b o e n hb hx=>?_,I.base.free,fun b o e hx=>?_,I.base.tups,I.base.frzs,I.base.tbls⟩,⟨m,hn.sameBut hs (Ih (cne x c hc)),fun j y v' e1 e2 e3=>?_⟩,fun y c' e=>?_,I.free,I.freeC,fun p hp=>?_,tracked ⟨oc,hoc,I.freeC x c hc⟩ hs,by simpa using I.len⟩ ⟨c,hs,.inr hc⟩
  ·exact (hs.2 b (Gk (Gm (FK e) (I.ok.cab x c hfn hc)))).trans (I.base.keep b o e n hb hx)
  ·obtain ⟨sl,e1⟩:=I.base.slot b o e n hb hx
   exact ⟨sl,(hs.2 b (Gk (Gm (FK e) (I.ok.cab x c hfn hc)))).trans e1⟩
  ·obtain ⟨o',e1⟩:=I.base.there b o e hx
   exact ⟨o',(hs.2 b (Gk (Gm (FK e) (I.ok.cab x c hfn hc)))).trans e1⟩
  ·by_cases hj:j=i
   ·subst hj
    rw [hi] at e1; cases e1
    rw [Ls hiσ] at e2
    cases e2
    exact ⟨u,r,.inr ⟨.inl hk,c,hc,hc'⟩⟩
   ·rw [Kh (Ih hj)] at e2
    obtain ⟨u',r',q⟩:=hl j y v' e1 e2 e3
    refine ⟨u',r',?_⟩
    rcases q with q | ⟨k,c',e,z'⟩
    ·exact .inl q
    ·refine .inr ⟨k,c',e,z'.sameBut hs ?_⟩
     rintro rfl
     exact hj (oA hN e1 (I.ok.inj _ _ _ e hc▸hi))
  ·by_cases hcc:c'=c
   ·subst hcc; exact ⟨_,hc'⟩
   ·obtain ⟨w2,z2⟩:=I.cell y c' e
    exact ⟨w2,z2.sameBut hs hcc⟩
  ·obtain ⟨e,n,ne,nf,d⟩:=I.pin p hp
   refine ⟨(hs.2 p.1 ?_).trans e,n,ne,nf,d⟩
   intro q
   rw [q,hoc] at e
   have q':oc=p.2:=GB e
   exact d w' (by rw [<- q']; exact hocd)
theorem kq {M:Model} {A:GG} {E:Fk->Fq->Prop} {i:Nat} {x:Str} {v:V} {u:Fk} {Q:Unit->Fq->Prop} (I:Inv X pins σ H s) (hN:X.N.Nodup) (hi:X.N[i]? = some x) (hx:Loc X.env.scope x) (r:RelV v u)
  (h:∀ s',Inv X pins (σ.set i (some v)) H s'->Q () s') (hf:X.fn x=true\/X.env.scope.names.lookup x=some .local:=by first | exact .inl rfl | exact .inr rfl | assumption):wpAny M A (storeName X.env x u) Q E s :=
 mx I hN hi hx r (fun s' I' _=>h s' I') hf
theorem Inv.call' {s':Fq} {ch:List FD} (I:Inv X pins σ H s) (ho:s'.os=s.os) (u:Un (g8 X.stack) ch H H' s.heap s'.heap) (hok:dm X.prog X.w H' s'.heap) (hg:K8 s'.gens)
  (hch:∀ b∈ch,(b∈X.ex\/X.s₀.heap.objs.size<=b)/\b≠X.env.locals/\(∀ x c,X.env.cells.lookup x=some c->c≠b)/\∀ p∈X.pn++pins,p.1≠b):Inv X pins σ H' s':=by
 obtain ⟨h',g',d',t',o'⟩:=s'
 have e:o'=s.os:=ho
 subst e
 exact I.call (g':=g') (t':=t') (d':=d') u hok hg hch
end
noncomputable abbrev XK:=Fk->Option FD->Hp->Prop
noncomputable abbrev St:=List (Option V)
noncomputable abbrev VK:=V->Hp->Prop
noncomputable abbrev TE:=St->Hp->VK->Prop
noncomputable abbrev TT:=St->Hp->(Bool->Hp->Prop)->Prop
noncomputable abbrev TA:=St->Hp->(List V->Hp->Prop)->Prop
structure Ends where
 nx:St->Hp->Prop
 rt:VK
 bk:St->Hp->Prop:=fun _ _=>False
 ct:St->Hp->Prop:=fun _ _=>False
noncomputable abbrev TS:=Ends->St->Hp->Prop
def EP (X:Cx) (pins:List (FD × Obj)) (σ:St) (Q:VK) (u:Fk) (s':Fq):Prop:=∃ v H',Inv X pins σ H' s'/\RelV v u/\Q v H'
def TP (X:Cx) (pins:List (FD × Obj)) (σ:St) (Q:Bool->Hp->Prop) (b:Bool) (s':Fq):Prop:=∃ H',Inv X pins σ H' s'/\Q b H'
def AP (X:Cx) (pins:List (FD × Obj)) (σ:St) (Q:List V->Hp->Prop) (us:List Fk) (s':Fq):Prop:=∃ vs H',Inv X pins σ H' s'/\Vals vs us/\Q vs H'
def SP (X:Cx) (pins:List (FD × Obj)) (D:Ends) (f:Flow) (s':Fq):Prop :=
 match f with
 | .next=>∃ σ' H',Inv X pins σ' H' s'/\D.nx σ' H'
 | .brk=>∃ σ' H',Inv X pins σ' H' s'/\D.bk σ' H'
 | .cont=>∃ σ' H',Inv X pins σ' H' s'/\D.ct σ' H'
 | .ret u=>∃ v σ' H',Inv X pins σ' H' s'/\RelV v u/\D.rt v H'
def PE (X:Cx) (e:II) (t:TE):Prop :=
 ∀ (pins:List (FD × Obj)) (s:Fq) (σ:St) (H:Hp) (Q:VK),Inv X pins σ H s->t σ H Q->wpAny (model X.prog X.w) X.A (eval e X.env) (EP X pins σ Q) X.xe s
def PT (X:Cx) (e:II) (t:TT):Prop :=
 ∀ (pins:List (FD × Obj)) (s:Fq) (σ:St) (H:Hp) (Q:Bool->Hp->Prop),Inv X pins σ H s->t σ H Q->wpAny (model X.prog X.w) X.A (isTrue e X.env (eval e X.env)) (TP X pins σ Q) X.xe s
def PW (X:Cx) (e:II) (t:TT):Prop :=
 ∀ (whole:Sem Fk) (pins:List (FD × Obj)) (s:Fq) (σ:St) (H:Hp) (Q:Bool->Hp->Prop),Inv X pins σ H s->t σ H Q->wpAny (model X.prog X.w) X.A (isTrue e X.env whole) (TP X pins σ Q) X.xe s
theorem PW.pt {X:Cx} {e:II} {t:TT} (h:PW X e t):PT X e t:=h _
def PA (X:Cx) (es:List II) (t:TA):Prop :=
 ∀ (pos:Pos) (pins:List (FD × Obj)) (s:Fq) (σ:St) (H:Hp) (Q:List V->Hp->Prop),Inv X pins σ H s->t σ H Q->wpAny (model X.prog X.w) X.A (spliced (backTo pos (starEach es X.env))) (AP X pins σ Q) X.xe s
def PS (X:Cx) (st:IB) (t:TS):Prop :=
 ∀ (pins:List (FD × Obj)) (s:Fq) (σ:St) (H:Hp) (D:Ends),Inv X pins σ H s->t D σ H->wpAny (model X.prog X.w) X.A (exec st X.env) (SP X pins D) X.xe s
def gr (X:Cx) (st:List IB) (t:TS):Prop :=
 ∀ (pins:List (FD × Obj)) (s:Fq) (σ:St) (H:Hp) (D:Ends),Inv X pins σ H s->t D σ H->wpAny (model X.prog X.w) X.A (execs st X.env) (SP X pins D) X.xe s
theorem aI {α:Type} {t:Sem α} {Q Q':α->Fq->Prop} {M:Model} {A:GG} {E:Fk->Fq->Prop} {s:Fq} (h:wpAny M A t Q E s) (hQ:∀ a s,Q a s->Q' a s):wpAny M A t Q' E s:=IC h hQ fun _ _ x=>x
end L2
namespace L2
open PySem PySem.Spec PyProof.Rows
section
variable {X:Cx}
theorem bin {a b:II} {ta tb:TE} (ha:PE X a ta) (hb:PE X b tb) {pins:List (FD × Obj)} {s:Fq} {σ:St} {H:Hp} {R:V->V->Hp->Prop} (I:Inv X pins σ H s) (h:ta σ H fun x H1=>tb σ H1 fun y H2=>R x y H2)
  {α:Type} {Q:α->Fq->Prop} {f:Fk->Fk->Sem α}
  (hf:∀ v u s2 x y H2,Inv X pins σ H2 s2->RelV x v->RelV y u->R x y H2->wpAny (model X.prog X.w) X.A (f v u) Q X.xe s2) :
  wpAny (model X.prog X.w) X.A (eval a X.env) (fun v s₁=>wpAny (model X.prog X.w) X.A (eval b X.env) (fun u s₂=>wpAny (model X.prog X.w) X.A (f v u) Q X.xe s₂) X.xe s₁) X.xe s:=by
 refine aI (ha pins s σ H _ I h) fun v s1 ⟨x,H1,I1,r1,q1⟩=>?_
 refine aI (hb pins s1 σ H1 _ I1 q1) fun u s2 ⟨y,H2,I2,r2,q2⟩=>?_
 exact hf v u s2 x y H2 I2 r1 r2 q2
noncomputable def zS (i:Nat):TE:=fun σ H Q=>∃ v,σ[i]? = some (some v)/\Q v H
noncomputable def tC (v:V):TE:=fun _ H Q=>Q v H
theorem zO {i:Nat} {x:Str} {pos:Pos} (hN:X.N[i]? = some x) (hv:xF X.env.scope x) (hd:(x == ("__debug__" : Str))=false:=by decide) (hcd:(x == ("__classdict__" : Str))=false:=by decide):PE X (.Name x pos) (zS i):=by
 intro pins s σ H Q I h
 obtain ⟨v,e,h⟩:=h
 obtain ⟨m,hn,hl⟩:=I.loc
 obtain ⟨u,r,l⟩:=hl i x v hN e hv
 have fin:EP X pins σ Q u s:=⟨v,H,I,r,h⟩
 rcases l with ⟨hk,hm⟩ | ⟨hk,c,hc,hcell⟩
 ·exact wpAny_Name (wpAny_loadName_local I.ok.kind hk hn hm fin) hd
 ·rcases hk with hk | hk
  ·exact wpAny_Name (wpAny_loadName_cell I.ok.kind hk hc hcell fin) hd
  ·exact wpAny_Name (wpAny_loadName_free I.ok.kind hk hc hcell fin hcd) hd
theorem af {i j pos}:PE X (.Constant (.int i) j pos) (tC (.int i)):=fun _ _ _ H _ I h=>wpAny_Constant_int ⟨.int i,H,I.tok _,⟨_,rfl⟩,h⟩
theorem cj {b j pos}:PE X (.Constant (.bool b) j pos) (tC (.bl b)):=fun _ _ _ H _ I h=>Constant_bool ⟨.bl b,H,I,rfl,h⟩
theorem lC {j pos}:PE X (.Constant .none j pos) (tC .non):=fun _ _ _ H _ I h=>Constant_none ⟨.non,H,I,rfl,h⟩
theorem fL {x j pos}:PE X (.Constant (.str x) j pos) (tC (.str x)):=fun _ _ _ H _ I h=>Calls.Constant_str ⟨.str x,H,I.tok _,⟨_,rfl⟩,h⟩
def Gl (X:Cx) (x:Str):Prop:=X.env.kindOf x=some .globalImplicit
theorem jv {E:Fk->Fq->Prop} {pins:List (FD × Obj)} {s:Fq} {σ:St} {H:Hp} {x:Str} {u:Fk} {pos:Pos} {Q:Fk->Fq->Prop} (I:Inv X pins σ H s) (hg:Gl X x) (hm:X.mg x=some u) (h:Q u s)
  (hd:(x == ("__debug__" : Str))=false:=by decide):wpAny (model X.prog X.w) X.A (eval (.Name x pos) X.env) Q E s :=
 KH I.ok.kind hg (Calls.loadGlobal_global (by rw [I.ok.glob]; exact I.mod.glob.keeps I.bk) hm h) hd
theorem dQ {E:Fk->Fq->Prop} {pins:List (FD × Obj)} {s:Fq} {σ:St} {H:Hp} {x:Str} {u:Fk} {pos:Pos} {Q:Fk->Fq->Prop} (I:Inv X pins σ H s) (hg:Gl X x) (hm:X.mg x=none) (hv:bootBuiltins x=some u) (h:Q u s)
  (hn:x≠"__name__":=by decide) (hd:(x == ("__debug__" : Str))=false:=by decide):wpAny (model X.prog X.w) X.A (eval (.Name x pos) X.env) Q E s:=by
 obtain ⟨mb,h1,h2⟩:=I.mod.blt
 exact KH I.ok.kind hg (Calls.loadGlobal_builtin (by rw [I.ok.glob]; exact I.mod.glob.keeps I.bk) hm (by rw [I.ok.blt]; exact h1.keeps I.bk) ((h2 x hn).trans hv) h) hd
theorem lM {x:Str} {v:V} {u:Fk} {pos:Pos} (hg:Gl X x) (hm:X.mg x=some u) (r:RelV v u) (hd:(x == ("__debug__" : Str))=false:=by decide):PE X (.Name x pos) (tC v) :=
 fun _ _ _ H _ I h=>jv I hg hm ⟨v,H,I,r,h⟩ hd
theorem cI {x:Str} {v:V} {u:Fk} {pos:Pos} (hg:Gl X x) (hm:X.mg x=none) (hv:bootBuiltins x=some u) (r:RelV v u) (hn:x≠"__name__":=by decide) (hd:(x == ("__debug__" : Str))=false:=by decide):PE X (.Name x pos) (tC v) :=
 fun _ _ _ H _ I h=>dQ I hg hm hv ⟨v,H,I,r,h⟩ hn hd
variable {a b:II} {ta tb:TE} {pos:Pos}
def PC (X:Cx) (op:CmpOp) (a b:II) (t:TE):Prop :=
 ∀ (pins:List (FD × Obj)) (s:Fq) (σ:St) (H:Hp) (Q:VK),Inv X pins σ H s->t σ H Q ->
  wpAny (model X.prog X.w) X.A (eval a X.env) (fun v s₁=>wpAny (model X.prog X.w) X.A (eval b X.env) (fun u s₂=>wpAny (model X.prog X.w) X.A (compareOp op v u) (EP X pins σ Q) X.xe s₂) X.xe s₁) X.xe s
theorem wC (b:II) {op:CmpOp} (h:op≠.In) (h2:op≠.NotIn):behindInMarks op b=false:=by
 have e1:(op == CmpOp.In)=false:=by cases op<;>first | rfl | exact absurd rfl h
 have e2:(op == CmpOp.NotIn)=false:=by cases op<;>first | rfl | exact absurd rfl h2
 cases b<;>simp [behindInMarks,e1,e2]
noncomputable def tB (t:TE):TT:=fun σ H Q=>t σ H fun x H1=>∃ c,x = .bl c/\Q c H1
theorem Fi {op:CmpOp} {t:TE} (h:PC X op a b t) (h1:behindInMarks op b=false:=by first | exact wC _ (by decide) (by decide) | rfl):PT X (.Compare a [op] [b] pos) (tB t):=by
 intro pins s σ H Q I hw
 refine wpAny_isTrue_Compare1 (aI (h pins s σ H _ I hw) fun v s1 h1=>aI h1 fun u s2 h2=>aI h2 fun c s3 ⟨x,H1,I1,r1,q1⟩=>?_) h1
 obtain ⟨d,rfl,q⟩:=q1
 cases r1
 exact GT ⟨H1,I1,q⟩
theorem bQ {e:II} {t:TE} (h:PE X e t) (he:∀ whole,isTrue e X.env whole=(do let v <- whole; standAt e.pos; holding [v] (truthy v)):=by intro _; rfl):PT X e (tB t):=by
 intro pins s σ H Q I hw
 refine isTrue_plain (aI (h pins s σ H _ I hw) fun v s1 ⟨x,H1,I1,r1,q1⟩=>?_) (he _)
 obtain ⟨d,rfl,q⟩:=q1
 cases r1
 exact GT ⟨H1,I1,q⟩
variable {tA tB':TT} {rest:List II}
noncomputable def Ep (t u:TT):TT:=fun σ H Q=>t σ H fun c H1=>if c=true then u σ H1 Q else Q false H1
noncomputable def ER (t u:TT):TT:=fun σ H Q=>t σ H fun c H1=>if c=true then Q true H1 else u σ H1 Q
noncomputable def Ef (t:TT):TT:=fun σ H Q=>t σ H fun c H1=>Q (!c) H1
theorem hW (ha:PT X a tA):PW X (.BoolOp .And [a] pos) tA:=by
 intro wh pins s σ H Q I h
 refine isTrue_and (aI (ha pins s σ H Q I h) fun c s1 e=>?_)
 cases c with
 | true=>exact isTrue_and_nil e
 | false=>exact e
theorem ff (ha:PT X a tA):PW X (.BoolOp .Or [a] pos) tA:=by
 intro wh pins s σ H Q I h
 refine isTrue_or (aI (ha pins s σ H Q I h) fun c s1 e=>?_)
 cases c with
 | false=>exact isTrue_or_nil e
 | true=>exact e
theorem iU (ha:PT X a tA) (hb:PW X (.BoolOp .And (b::rest) pos) tB'):PW X (.BoolOp .And (a::b::rest) pos) (Ep tA tB'):=by
 intro wh pins s σ H Q I h
 refine isTrue_and (aI (ha pins s σ H _ I h) fun c s1 ⟨H1,I1,q1⟩=>?_)
 cases c with
 | true=>exact hb wh pins s1 σ H1 Q I1 q1
 | false=>exact ⟨H1,I1,q1⟩
theorem fZ (ha:PT X a tA) (hb:PW X (.BoolOp .Or (b::rest) pos) tB'):PW X (.BoolOp .Or (a::b::rest) pos) (ER tA tB'):=by
 intro wh pins s σ H Q I h
 refine isTrue_or (aI (ha pins s σ H _ I h) fun c s1 ⟨H1,I1,q1⟩=>?_)
 cases c with
 | true=>exact ⟨H1,I1,q1⟩
 | false=>exact hb wh pins s1 σ H1 Q I1 q1
theorem cV (ha:PT X a tA):PT X (.UnaryOp .Not a pos) (Ef tA):=by
 intro pins s σ H Q I h
 exact isTrue_not (ha pins s σ H (fun c H1=>Q (!c) H1) I h)
noncomputable def Ds (ta tb:TE):TE:=fun σ H Q=>ta σ H fun x H1=>∃ c,x = .bl c/\if c=true then tb σ H1 Q else Q (.bl false) H1
noncomputable def DB (ta:TE):TE:=fun σ H Q=>ta σ H fun x H1=>∃ c,x = .bl c/\Q (.bl (!c)) H1
theorem hV {op} {t:TE} (h:PE X a t):PE X (.BoolOp op [a] pos) t:=fun pins s σ H Q I hw=>BoolOp_one (h pins s σ H Q I hw)
theorem fO (ha:PE X a ta) (hb:PE X (.BoolOp .And (b::rest) pos) tb):PE X (.BoolOp .And (a::b::rest) pos) (Ds ta tb):=by
 intro pins s σ H Q I h
 refine BoolOp_and (aI (ha pins s σ H _ I h) fun v s1 ⟨x,H1,I1,r1,q1⟩=>?_)
 obtain ⟨c,rfl,q1⟩:=q1
 cases r1
 refine GT ?_
 cases c with
 | true=>exact hb pins s1 σ H1 Q I1 q1
 | false=>exact ⟨.bl false,H1,I1,rfl,q1⟩
theorem lh (ha:PE X a ta):PE X (.UnaryOp .Not a pos) (DB ta):=by
 intro pins s σ H Q I h
 refine UnaryOp_ (aI (ha pins s σ H _ I h) fun v s1 ⟨x,H1,I1,r1,q1⟩=>?_)
 obtain ⟨c,rfl,q1⟩:=q1
 cases r1
 exact not_of (GT ⟨.bl (!c),H1,I1,rfl,q1⟩)
end
end L2
namespace L2
open PySem PySem.Spec PyProof.Rows
def ai (K:FW) (H:Hp) (a:FD) (xs:List V):Prop :=
 Rd H a (.lst xs) \/
  ∃ (o:Obj) (its:Array Fk) (n:Nat),K.lookup a=some o/\o.cls = .type "list"/\o.dict=none/\o.data = .seq its n/\its.size<=sizeLine/\Vals xs its.toList
def bg (K:FW) (H:Hp) (a:FD) (xs:List V):Prop :=
 Rd H a (.tup xs) \/
  ∃ (o:Obj) (its:Array Fk) (n:Nat),K.lookup a=some o/\o.cls = .type "tuple"/\o.data = .seq its n/\its.size<=sizeLine/\Vals xs its.toList
noncomputable def EG:Fk->Option V
 | .none=>some .non
 | .bool b=>some (.bl b)
 | .int i _=>some (.int i)
 | .str x _=>some (.str x)
 | .bytes b _=>some (.byt b)
 | .float b _=>some (.flt b)
 | .ref a=>some (.ref a)
 | .type n=>some (.ty n)
 | _=>none
theorem RelV.abs {x:V} {u:Fk} (r:RelV x u):EG u=some x:=by
 cases x with
 | non=>cases r; rfl
 | bl _=>cases r; rfl
 | int _=>obtain ⟨t,rfl⟩:=r; rfl
 | str _=>obtain ⟨t,rfl⟩:=r; rfl
 | byt _=>obtain ⟨t,rfl⟩:=r; rfl
 | flt _=>obtain ⟨t,rfl⟩:=r; rfl
 | ref _=>cases r; rfl
 | ty _=>cases r; rfl
theorem RelV.inj {x y:V} {u:Fk} (r:RelV x u) (q:RelV y u):x=y:=GB (r.abs.symm.trans q.abs)
theorem Vals.inj:∀ {xs ys:List V} {us:List Fk},Vals xs us->Vals ys us->xs=ys
 | _,_,_,.nil,.nil=>rfl
 | _,_,_,.cons r t,.cons r' t'=>by rw [r.inj r',Vals.inj t t']
section
variable {X:Cx} {pins:List (FD × Obj)} {σ:St} {H:Hp} {s:Fq} {a:FD} {xs ys:List V}
theorem ai.of {K:FW} (h:H a=some (.lst xs)):ai K H a xs:=.inl (.inl h)
theorem bg.of {K:FW} (h:H a=some (.tup xs)):bg K H a xs:=.inl (.inl h)
theorem Inv.list (I:Inv X pins σ H s) (h:ai X.K H a xs):∃ its:List Fk,Vals xs its/\PlainL s.heap a its.toArray/\xs.length<=sizeLine:=by
 rcases h with h | ⟨o,its,n,hk,hc,hd,hs,hz,r⟩
 ·obtain ⟨z,its,n,r,e⟩:=h.ok I.hok
  exact ⟨its,r,⟨_,n,e,rfl,rfl,rfl⟩,z⟩
 ·refine ⟨its.toList,r,⟨o,n,I.kIn a o hk,hc,hd,by simpa using hs⟩,?_⟩
  have e:=r.length
  simp only [FM] at e
  lia
theorem Inv.tuple (I:Inv X pins σ H s) (h:bg X.K H a xs):∃ its:List Fk,Vals xs its/\IsTup s.heap a its.toArray/\xs.length<=sizeLine:=by
 rcases h with h | ⟨o,its,n,hk,hc,hs,hz,r⟩
 ·obtain ⟨z,its,r,p⟩:=h.ok I.hok
  exact ⟨its,r,p,z⟩
 ·refine ⟨its.toList,r,⟨o,I.kIn a o hk,hc,n,by simpa using hs⟩,?_⟩
  have e:=r.length
  simp only [FM] at e
  lia
theorem Inv.list_inj (I:Inv X pins σ H s) (h:ai X.K H a xs) (h':ai X.K H a ys):xs=ys:=by
 obtain ⟨its,r,⟨o,n,e,_,_,d⟩,_⟩:=I.list h
 obtain ⟨its',r',⟨o',n',e',_,_,d'⟩,_⟩:=I.list h'
 rw [e] at e'; cases e'
 rw [d] at d'
 injection d' with d1 _
 have:its=its':=by simpa using congrArg Array.toList d1
 subst this
 exact r.inj r'
end
noncomputable abbrev Cx.wish (X:Cx) (E:Fk->Fq->Prop):Cx:={ X with xe:=E }
noncomputable abbrev Cx.nox (X:Cx):Cx:=X.wish fun _ _=>False
theorem Cx.Ok.wish {X:Cx} (ok:X.Ok) (E:Fk->Fq->Prop):(X.wish E).Ok :=
 ⟨ok.mod,ok.kind,ok.glob,ok.blt,ok.above,ok.inj,ok.has,ok.cab,ok.hd,ok.frames,ok.stk,ok.exf,ok.bs,ok.bsz,ok.noex,ok.exfs,ok.funs,ok.frf⟩
theorem Cx.Ok.unwish {X:Cx} {E:Fk->Fq->Prop} (ok:(X.wish E).Ok):X.Ok :=
 ⟨ok.mod,ok.kind,ok.glob,ok.blt,ok.above,ok.inj,ok.has,ok.cab,ok.hd,ok.frames,ok.stk,ok.exf,ok.bs,ok.bsz,ok.noex,ok.exfs,ok.funs,ok.frf⟩
section
variable {X:Cx} {pins:List (FD × Obj)} {σ:St} {H:Hp} {s:Fq} {E:Fk->Fq->Prop}
theorem Inv.wish (I:Inv X pins σ H s) (E:Fk->Fq->Prop):Inv (X.wish E) pins σ H s:=⟨I.ok.wish E,I.os,I.bare,I.base,I.loc,I.cell,I.free,I.freeC,I.pin,I.hok,I.len⟩
theorem Inv.unwish (I:Inv (X.wish E) pins σ H s):Inv X pins σ H s:=⟨I.ok.unwish,I.os,I.bare,I.base,I.loc,I.cell,I.free,I.freeC,I.pin,I.hok,I.len⟩
theorem SP.unwish {D:Ends} {f:Flow} {s':Fq} (h:SP (X.wish E) pins D f s'):SP X pins D f s':=by
 cases f with
 | next=>obtain ⟨σ',H',I,q⟩:=h; exact ⟨σ',H',I.unwish,q⟩
 | brk=>obtain ⟨σ',H',I,q⟩:=h; exact ⟨σ',H',I.unwish,q⟩
 | cont=>obtain ⟨σ',H',I,q⟩:=h; exact ⟨σ',H',I.unwish,q⟩
 | ret u=>obtain ⟨v,σ',H',I,r,q⟩:=h; exact ⟨v,σ',H',I.unwish,r,q⟩
theorem gr.nox {st:List IB} {t:TS} (h:gr X.nox st t):gr X st t:=fun pins s σ H D I hw =>
 IC (h pins s σ H D (I.wish _) hw) (fun _ _ q=>q.unwish) fun _ _ z=>Il z
end
section
variable {X:Cx} {st:IB} {rest:List IB} {t u:TS} {e:II} {te:TE} {pos:Pos}
noncomputable def CT:TS:=fun D σ H=>D.nx σ H
noncomputable def bo (t u:TS):TS:=fun D σ H=>t { D with nx:=u D } σ H
theorem aD:gr X [] CT:=fun _ _ σ H _ I h=>Kt ⟨σ,H,I,h⟩
theorem ah (h1:PS X st t) (h2:gr X rest u):gr X (st::rest) (bo t u):=by
 intro pins s σ H D I h
 refine Lm (aI (h1 pins s σ H { D with nx:=u D } I h) fun f s1 q=>?_)
 cases f with
 | next =>
  obtain ⟨σ',H',I',q⟩:=q
  exact h2 pins s1 σ' H' D I' q
 | ret v=>exact q
 | brk=>exact q
 | cont=>exact q
theorem ag (h1:PS X st t):gr X [st] t:=by
 intro pins s σ H D I h
 refine Lm (aI (h1 pins s σ H D I h) fun f s1 q=>?_)
 cases f with
 | next=>exact Kt q
 | ret v=>exact q
 | brk=>exact q
 | cont=>exact q
theorem Inv.quiet {pins:List (FD × Obj)} {σ:St} {H:Hp} {s:Fq} (I:Inv X pins σ H s):interactive X.env=false:=by simp [interactive,I.ok.kind]
noncomputable def Dz (te:TE):TS:=fun D σ H=>te σ H fun _ H1=>D.nx σ H1
theorem aW (he:PE X e te) (hs:swapsWith e none pos.line X.env=pure false:=by rfl):PS X (.Expr e pos) (Dz te):=by
 intro pins s σ H D I h
 exact wpAny_Expr_any (aI (he pins s σ H _ I h) fun v s1 ⟨x,H1,I1,r1,q1⟩=>⟨σ,H1,I1,q1⟩) I.quiet hs
noncomputable def Ej (te:TE):TS:=fun D σ H=>te σ H D.rt
theorem aq (he:PE X e te):PS X (.Return (some e) pos) (Ej te):=by
 intro pins s σ H D I h
 exact wpAny_Return_some (aI (he pins s σ H _ I h) fun v s1 ⟨x,H1,I1,r1,q1⟩=>⟨x,σ,H1,I1,r1,q1⟩)
noncomputable def Ea (c:TT) (t u:TS):TS:=fun D σ H=>c σ H fun b H1=>if b=true then t D σ H1 else u D σ H1
theorem aJ {c:II} {a b:List IB} {tc:TT} (hc:PT X c tc) (ha:gr X a t) (hb:gr X b u):PS X (.If c a b pos) (Ea tc t u):=by
 intro pins s σ H D I h
 refine wpAny_If (aI (hc pins s σ H _ I h) fun d s1 ⟨H1,I1,q1⟩=>?_)
 cases d with
 | true=>exact ha pins s1 σ H1 D I1 q1
 | false=>exact hb pins s1 σ H1 D I1 q1
noncomputable def z9:TS:=fun _ _ _=>False
theorem j5:PS X st z9:=fun _ _ _ _ _ _ h=>h.elim
end
noncomputable abbrev TG:=V->St->Hp->(St->Hp->Prop)->Prop
noncomputable abbrev mH:=List V->St->Hp->(St->Hp->Prop)->Prop
def PG (X:Cx) (target:II) (t:TG):Prop :=
 ∀ (pins:List (FD × Obj)) (s:Fq) (σ:St) (H:Hp) (v:V) (u:Fk) (Q:St->Hp->Prop),Inv X pins σ H s->RelV v u->t v σ H Q ->
  wpAny (model X.prog X.w) X.A (assign target X.env u) (fun _ s'=>∃ σ' H',Inv X pins σ' H' s'/\Q σ' H') X.xe s
def vm (X:Cx) (ts:List II) (t:mH):Prop :=
 ∀ (pins:List (FD × Obj)) (s:Fq) (σ:St) (H:Hp) (vs:List V) (us:List Fk) (Q:St->Hp->Prop),Inv X pins σ H s->Vals vs us->t vs σ H Q ->
  wpAny (model X.prog X.w) X.A (assignInOrder ((assignEach ts X.env).map (·.2)) us) (fun _ s'=>∃ σ' H',Inv X pins σ' H' s'/\Q σ' H') X.xe s
noncomputable abbrev wM:=V->V->V->Hp->(Hp->Prop)->Prop
def AS (X:Cx) (t:wM):Prop :=
 ∀ (pins:List (FD × Obj)) (s:Fq) (σ:St) (H:Hp) (o i v:V) (ov iv u:Fk) (Q:Hp->Prop),Inv X pins σ H s->RelV o ov->RelV i iv->RelV v u->t o i v H Q ->
  wpAny (model X.prog X.w) X.A (setItem ov iv u) (fun _ s'=>∃ H',Inv X pins σ H' s'/\Q H') X.xe s
noncomputable abbrev xu:=V->V->Hp->VK->Prop
def zX (X:Cx) (op:Operator) (t:xu):Prop :=
 ∀ (pins:List (FD × Obj)) (s:Fq) (σ:St) (H:Hp) (x y:V) (v u:Fk) (Q:VK),Inv X pins σ H s->RelV x v->RelV y u->t x y H Q ->
  wpAny (model X.prog X.w) X.A (inplaceOp op v u) (EP X pins σ Q) X.xe s
section
variable {X:Cx} {pos:Pos}
noncomputable def xK (i:Nat):TG:=fun v σ H Q=>Q (σ.set i (some v)) H
theorem az {i:Nat} {x:Str} (hN:X.N.Nodup) (hi:X.N[i]? = some x) (hx:Loc X.env.scope x) (hf:X.fn x=true\/X.env.scope.names.lookup x=some .local:=by first | exact .inl rfl | exact .inr rfl | assumption):PG X (.Name x pos) (xK i):=by
 intro pins s σ H v u Q I r h
 exact wpAny_assign_Name (kq I hN hi hx r (fun s' I'=>⟨_,H,I',h⟩) hf)
noncomputable def EF:mH:=fun vs σ H Q=>vs=[]/\Q σ H
noncomputable def DE (t:TG) (u:mH):mH:=fun vs σ H Q=>∃ v r,vs=v::r/\t v σ H fun σ' H'=>u r σ' H' Q
theorem cY:vm X [] EF:=by
 intro pins s σ H vs us Q I r h
 obtain ⟨e,h⟩:=h
 subst e
 cases r
 exact assignInOrder_nil ⟨σ,H,I,h⟩
theorem a9 {e:II} {es:List II} {t:TG} {u:mH} (h1:PG X e t) (h2:vm X es u)
  (hs:(assignEach (e::es) X.env).map (·.2)=assign e X.env::(assignEach es X.env).map (·.2):=by rfl):vm X (e::es) (DE t u):=by
 intro pins s σ H vs us Q I r h
 obtain ⟨v,vr,e1,h⟩:=h
 subst e1
 cases r with
 | cons r rr =>
  rw [hs]
  refine assignInOrder_cons (aI (h1 pins s σ H _ _ _ I r h) fun _ s1 ⟨σ1,H1,I1,q1⟩=>?_)
  exact h2 pins s1 σ1 H1 _ _ Q I1 rr q1
noncomputable def Ci (K:FW) (n:Nat) (t:mH):TG:=fun v σ H Q=>∃ a xs,v = .ref a/\bg K H a xs/\xs.length=n/\t xs σ H Q
theorem ik {es:List II} {k:Nat} {t:mH} {n:Nat} (hc:X.calm=true) (h:vm X es t)
  (hn:(assignEach es X.env).length=n:=by rfl) (hst:(assignEach es X.env).findIdx? (·.1)=none:=by rfl):PG X (.Tuple es k pos) (Ci X.K n t):=by
 intro pins s σ H v u Q I r hw
 obtain ⟨a,xs,e1,hq,hl,hw⟩:=hw
 subst e1
 cases r
 obtain ⟨its,rv,ht,hz⟩:=I.tuple hq
 refine assign_Tuple_tuple (I.ok.hd hc) ht (by simp [hn,<- hl,rv.length]) hst fun h' hx=>?_
 have I1:Inv X pins σ H { s with heap:=h' }:=I.kept (t':=s.toks) fun b o e=>hx b o (Gk (FK e)) e
 exact h pins _ σ H xs _ Q I1 (by simpa using rv) hw
noncomputable def D4 (to ti:TE) (t:wM):TG:=fun v σ H Q=>to σ H fun o H1=>ti σ H1 fun i H2=>t o i v H2 fun H3=>Q σ H3
theorem A5 {o i:II} {to ti:TE} {t:wM} (ho:PE X o to) (hi:PE X i ti) (hs:AS X t)
  (ha:∀ v,assign (.Subscript o i pos) X.env v=(do
   let ov <- holding [v] (eval o X.env)
   let iv <- holding [v,ov] (eval i X.env)
   standAt pos
   holding [v,ov,iv] (setItem ov iv v)
   release [v,ov,iv] []):=by intro _; rfl):PG X (.Subscript o i pos) (D4 to ti t):=by
 intro pins s σ H v u Q I r h
 rw [ha]
 refine mo (GH (aI (ho pins s σ H _ I h) fun ov s1 ⟨x,H1,I1,r1,q1⟩=>?_))
 refine mo (GH (aI (hi pins s1 σ H1 _ I1 q1) fun iv s2 ⟨y,H2,I2,r2,q2⟩=>?_))
 refine mo (La (mo (GH (aI (hs pins s2 σ H2 x y v ov iv u _ I2 r1 r2 r q2) fun _ s3 ⟨H3,I3,q3⟩=>?_))))
 exact wpAny_release ⟨σ,H3,I3,q3⟩
noncomputable def yW (te:TE) (g:TG):TS:=fun D σ H=>te σ H fun x H1=>g x σ H1 D.nx
theorem yV {tg e:II} {te:TE} {g:TG} (he:PE X e te) (hg:PG X tg g) (hs:swapsWithSole [tg] e pos.line X.env=pure false:=by rfl) (hw:swappedStores [tg] e X.env=pure none:=by rfl)
  (h1:(assignEach [tg] X.env).map (·.2)=[assign tg X.env]:=by rfl):PS X (.Assign [tg] e pos) (yW te g):=by
 intro pins s σ H D I h
 refine wpAny_Assign_stores (aI (he pins s σ H _ I h) fun v s1 ⟨x,H1,I1,r1,q1⟩=>?_) hs hw
 rw [h1]
 exact aI (hg pins s1 σ H1 x v _ I1 r1 q1) fun _ s2 q=>q
theorem av {i:Nat} {x:Str} {e:II} {te:TE} {pos':Pos} (hN:X.N.Nodup) (hi:X.N[i]? = some x) (hx:Loc X.env.scope x) (he:PE X e te) (hs:swapsWith e (some (.Name x pos')) pos.line X.env=pure false:=by rfl) (hf:X.fn x=true\/X.env.scope.names.lookup x=some .local:=by first | exact .inl rfl | exact .inr rfl | assumption) :
  PS X (.Assign [.Name x pos'] e pos) (yW te (xK i)):=by
 intro pins s σ H D I h
 refine wpAny_Assign_Name (aI (he pins s σ H _ I h) fun v s1 ⟨y,H1,I1,r1,q1⟩=>?_) hs
 exact kq I1 hN hi hx r1 (fun s2 I2=>⟨_,H1,I2,q1⟩) hf
noncomputable def Em (i:Nat) (te:TE) (ti:xu):TS:=fun D σ H=>∃ x,σ[i]? = some (some x)/\te σ H fun y H1=>ti x y H1 fun z H2=>D.nx (σ.set i (some z)) H2
theorem oH {i:Nat} {x:Str} {e:II} {te:TE} {op:Operator} {ti:xu} {pos':Pos} (hN:X.N.Nodup) (hi:X.N[i]? = some x) (hx:Loc X.env.scope x) (he:PE X e te) (ho:zX X op ti) (hf:X.fn x=true\/X.env.scope.names.lookup x=some .local:=by first | exact .inl rfl | exact .inr rfl | assumption) :
  PS X (.AugAssign (.Name x pos') op e pos) (Em i te ti):=by
 intro pins s σ H D I h
 obtain ⟨v,e1,h⟩:=h
 obtain ⟨m,hn,hl⟩:=I.loc
 have vis:xF X.env.scope x:=by rcases hx with k | k; exact .inl k; exact .inr (.inl k)
 obtain ⟨u,r,l⟩:=hl i x v hi e1 vis
 refine wpAny_AugAssign_Name ?_
 have go:wpAny (model X.prog X.w) X.A (eval e X.env) (fun w s₂=>wpAny (model X.prog X.w) X.A (inplaceOp op u w) (fun r s₃=>wpAny (model X.prog X.w) X.A (storeName X.env x r) (fun _=>SP X pins D .next) X.xe s₃) X.xe s₂) X.xe s:=by
  refine aI (he pins s σ H _ I h) fun w s1 ⟨y,H1,I1,r1,q1⟩=>?_
  refine aI (ho pins s1 σ H1 v y u w _ I1 r r1 q1) fun z s2 ⟨zv,H2,I2,r2,q2⟩=>?_
  exact kq I2 hN hi hx r2 (fun s3 I3=>⟨_,H2,I3,q2⟩) hf
 rcases l with ⟨hk,hm⟩ | ⟨hk,c,hc,hcell⟩
 ·exact wpAny_loadName_local I.ok.kind hk hn hm go
 ·rcases hk with hk | hk
  ·exact wpAny_loadName_cell I.ok.kind hk hc hcell go
  ·rcases hx with k | k
   ·have:X.env.scope.names.lookup x=some .free:=hk
    rw [k] at this; cases this
   ·have:X.env.scope.names.lookup x=some .free:=hk
    rw [k] at this; cases this
noncomputable def DU (f:Int->Int->Int):xu:=fun x y H Q=>∃ i j,x = .int i/\y = .int j/\Q (.int (f i j)) H
theorem vg:zX X .Add (DU fun i j=>i+j):=by
 intro pins s σ H x y v u Q I r1 r2 h
 obtain ⟨i,j,e1,e2,q⟩:=h
 subst e1; subst e2
 obtain ⟨t,rfl⟩:=r1
 obtain ⟨t',rfl⟩:=r2
 exact iadd_int ⟨.int _,H,I.tok _,⟨_,rfl⟩,q⟩
theorem zW:zX X .Sub (DU fun i j=>i - j):=by
 intro pins s σ H x y v u Q I r1 r2 h
 obtain ⟨i,j,e1,e2,q⟩:=h
 subst e1; subst e2
 obtain ⟨t,rfl⟩:=r1
 obtain ⟨t',rfl⟩:=r2
 exact isub_int ⟨.int _,H,I.tok _,⟨_,rfl⟩,q⟩
end
section
variable {X:Cx} {pos:Pos}
noncomputable def AW (c:TT) (tb:TS):TS:=fun D σ H=>∃ W:Nat->St->Hp->Prop,(∃ m,W m σ H)/\∀ m σ H,W m σ H ->
 c σ H fun b H1=>if b=true then ∃ N:St->Hp->Prop,(∀ σ' H',N σ' H'->∃ m',m' < m/\W m' σ' H')/\tb { D with nx:=N,ct:=N,bk:=D.nx } σ H1 else D.nx σ H1
theorem j9 {c:II} {body:List IB} {tc:TT} {tb:TS} (hp:PassesOwn (model X.prog X.w) X.A X.env X.xe) (hc:PT X c tc) (hb:gr X body tb):PS X (.While c body [] pos) (AW tc tb):=by
 intro pins s σ H D I h
 obtain ⟨W,⟨m0,w0⟩,turn⟩:=h
 refine wpAny_While (codeAny_whileLoop (fun n s'=>∃ σ' H',Inv X pins σ' H' s'/\W n σ' H') ?_ m0 ⟨σ,H,I,w0⟩)
 rintro n s1 ⟨σ1,H1,I1,w1⟩
 refine IP hp (aI (hc pins s1 σ1 H1 _ I1 (turn n σ1 H1 w1)) fun b s2 ⟨H2,I2,q2⟩=>?_)
 cases b with
 | true =>
  obtain ⟨N,hN,q2⟩:=q2
  rw [if_pos rfl]
  refine IP hp (aI (hb pins s2 σ1 H2 _ I2 q2) fun f s3 q3=>?_)
  cases f with
  | next =>
   obtain ⟨σ3,H3,I3,n3⟩:=q3
   obtain ⟨m',hm,w3⟩:=hN σ3 H3 n3
   exact ⟨m',hm,σ3,H3,I3,w3⟩
  | cont =>
   obtain ⟨σ3,H3,I3,n3⟩:=q3
   obtain ⟨m',hm,w3⟩:=hN σ3 H3 n3
   exact ⟨m',hm,σ3,H3,I3,w3⟩
  | brk=>exact q3
  | ret v=>exact q3
 | false =>
  rw [if_neg Gh]
  exact Kt ⟨σ1,H2,I2,q2⟩
end
structure It where
 go:Nat->Hp->Prop
 yld:Nat->Hp->V->Hp->Prop
 stop:Nat->Hp->Prop
def jV (X:Cx) (pins:List (FD × Obj)) (H:Hp) (b:FD):Prop :=
 H b=none/\b≠X.env.locals/\b∉X.fs/\(b∈X.ex\/X.s₀.heap.objs.size<=b)/\(∀ x c,X.env.cells.lookup x=some c->c≠b)/\∀ p∈X.pn++pins,p.1≠b
theorem Inv.fpOk {X:Cx} {pins:List (FD × Obj)} {σ:St} {H H':Hp} {s:Fq} {b:FD} (I:Inv X pins σ H s) (hb:s.heap.objs.size<=b) (hn:H' b=none):jV X pins H' b:=by
 refine ⟨hn,J7 (Gm I.lt hb),I.nofs hb,.inr (GM I.sz hb),fun x c e z=>?_,fun p hp z=>?_⟩
 ·obtain ⟨v,q⟩:=I.cell x c e
  exact absurd (Gm q.lt (by rw [z]; exact hb)) (Hg _)
 ·exact absurd (Gm (FK (I.pin p hp).1) (by rw [z]; exact hb)) (Hg _)
structure Turn (P:Gi) (w:GF) (K:FW) (tg:II) (J:It) (fp:List FD) (it:FD) (tn:Nat->HM->Prop):Prop where
 mem:it∈fp
 obj:∀ i h,tn i h->∀ b∈fp,∃ o,h.get? b=some o/\∀ v,o.data≠.cell v
 keep:∀ i h h',tn i h->(∀ b∈fp,∀ o,h.get? b=some o->h'.get? b=some o)->tn i h'
 item:∀ (X:Cx),X.prog=P->X.w=w->X.K=K->X.calm=true->∀ (i:Nat) (pins:List (FD × Obj)) (s:Fq) (σ:St) (H:Hp) (E:Fk->Fq->Prop),Inv X pins σ H s->(∀ b∈fp,jV X pins H b)->tn i s.heap->J.go i H ->
  wpAny (model P w) X.A (pyNext (.ref it)) (fun r s1=>∃ u,r=some u /\
   wpAny (model P w) X.A (letOwnedTupleGo tg (.ref it) u) (fun _ s2=>∃ x H',Inv X pins σ H' s2/\RelV x u/\J.yld i H x H'/\tn (i+1) s2.heap/\∀ b∈fp,H' b=none) E s1) E s
 done:∀ (X:Cx),X.prog=P->X.w=w->X.K=K->X.calm=true->∀ (i:Nat) (pins:List (FD × Obj)) (s:Fq) (σ:St) (H:Hp) (E:Fk->Fq->Prop),Inv X pins σ H s->(∀ b∈fp,jV X pins H b)->tn i s.heap->J.stop i H ->
  wpAny (model P w) X.A (pyNext (.ref it)) (fun r s1=>r=none/\Inv X pins σ H s1) E s
 self:∀ (A:GG) (i:Nat) (s:Fq) (Q:Fk->Fq->Prop) (E:Fk->Fq->Prop),tn i s.heap->Q (.ref it) s->wpAny (model P w) A (pyIter (.ref it)) Q E s
noncomputable abbrev TI:=St->Hp->(It->Hp->Prop)->Prop
def DW (X:Cx) (pins:List (FD × Obj)) (σ:St) (tg:II) (R:It->Hp->Prop) (itv:Fk) (s2:Fq):Prop :=
 ∃ (it:FD) (fp:List FD) (tn:Nat->HM->Prop) (J:It) (H':Hp),itv = .ref it/\Inv X pins σ H' s2/\Turn X.prog X.w X.K tg J fp it tn/\tn 0 s2.heap/\(∀ b∈fp,jV X pins H' b)/\R J H'
def PI (X:Cx) (tg iter:II) (wi:TI):Prop :=
 ∀ (pins:List (FD × Obj)) (s:Fq) (σ:St) (H:Hp) (R:It->Hp->Prop),Inv X pins σ H s->wi σ H R ->
  wpAny (model X.prog X.w) X.A (eval iter X.env) (fun v s1=>wpAny (model X.prog X.w) X.A (pyIter v) (DW X pins σ tg R) X.xe s1) X.xe s
theorem xU {M:Model} {A:GG} {E:Fk->Fq->Prop} {s:Fq} {tg:II} {it:FD} {u:Fk} {o:Obj} {n:String} {vs:Array Fk} {Q:Unit->Fq->Prop} (ho:s.heap.get? it=some o) (hc:o.cls = .type n) (hd:o.data = .fields vs)
  (hn:["enumerate","zip","dict_itemiterator","dict_reverseitemiterator","odict_iterator","itertools.zip_longest","itertools.pairwise"].contains n=false) (hQ:Q () s):wpAny M A (letOwnedTupleGo tg (.ref it) u) Q E s:=by
 unfold letOwnedTupleGo
 cases tg<;>first
  | exact Fv hQ
  | (cases u<;>first
    | exact Fv hQ
    | (refine mo (wpAny_load ho ?_)
       rw [hc,hd]
       show wpAny M A (if (["enumerate","zip","dict_itemiterator","dict_reverseitemiterator","odict_iterator","itertools.zip_longest","itertools.pairwise"].contains n&&vs[0]? == some (rawInt _))=true then _ else _) Q E s
       rw [if_neg (by intro h; rw [hn,HP] at h; cases h)]
       exact Fv hQ))
noncomputable def pF (K:FW) (a:FD):It :=
 ⟨fun i H=>∃ xs x,ai K H a xs/\xs[i]? = some x,fun i H x H'=>H'=H/\∀ xs,ai K H a xs->xs[i]? = some x,fun i H=>∃ xs,ai K H a xs/\xs.length<=i⟩
noncomputable def ny (lo:Int) (n:Nat):It:=⟨fun i _=>i < n,fun i H x H'=>H'=H/\x = .int (lo+i),fun i _=>n<=i⟩
theorem uO {P:Gi} {w:GF} {K:FW} {tg:II} (a it:FD):Turn P w K tg (pF K a) [it] it (fun i h=>h.IsListIter it a i) where
 mem:=by simp
 obj:=fun i h st b hb=>by
  have e:b=it:=by simpa using hb
  subst e
  obtain ⟨o,e,c,d⟩:=st
  exact ⟨o,e,fun v z=>by rw [d] at z; cases z⟩
 keep:=fun i h h' st k=>st.at fun o e=>k it (by simp) o e
 item:=by
  intro X hP hw hK hc i pins s σ H E I hf st hg
  subst hP hw hK
  obtain ⟨xs,x,hq,hx⟩:=hg
  obtain ⟨its,rv,p,hz⟩:=I.list hq
  obtain ⟨u,hu,ru⟩:=rv.get hx
  obtain ⟨f0,f1,f2,f3,f4,f5⟩:=hf it (by simp)
  refine wpAny_pyNext_list_item st p.isList (x:=u) (by simpa using hu) fun h' st' sb=>?_
  have I1:Inv X pins σ H { s with heap:=h' }:=I.turned (t':=s.toks) (fun b o hb e=>(sb.2 b hb).trans e) f0 f1 f3 f4 f5
  obtain ⟨o,e,c,d⟩:=id st'
  exact ⟨u,rfl,xU (s:={ s with heap:=h' }) e c d (by decide) ⟨x,H,I1,ru,⟨rfl,fun ys hy=>by rw [I.list_inj hy hq]; exact hx⟩,st',fun b hb=>(hf b hb).1⟩⟩
 done:=by
  intro X hP hw hK hc i pins s σ H E I hf st hg
  subst hP hw hK
  obtain ⟨xs,hq,hx⟩:=hg
  obtain ⟨its,rv,p,hz⟩:=I.list hq
  obtain ⟨f0,f1,f2,f3,f4,f5⟩:=hf it (by simp)
  have hl:=rv.length
  exact wpAny_pyNext_list_end (I.ok.hd hc) st p.isList (by simp; lia) fun h' eb=>⟨rfl,I.turned (t':=s.toks) (fun b o hb e=>eb b o hb e) f0 f1 f3 f4 f5⟩
 self:=fun _ _ _ _ _ st h=>wpAny_pyIter_listiter st h
theorem sV {P:Gi} {w:GF} {K:FW} {tg:II} (it:FD) (lo:Int) (n:Nat):Turn P w K tg (ny lo n) [it] it (fun i h=>IsRangeIter h it (lo+(i:Nat)*1) ((n:Int) - (i:Nat)) 1) where
 mem:=by simp
 obj:=fun i h st b hb=>by
  have e:b=it:=by simpa using hb
  subst e
  exact ⟨_,st,fun v z=>by
   have z':Data.fields _=Data.cell v:=z
   cases z'⟩
 keep:=fun i h h' st k=>k it (by simp) _ st
 item:=by
  intro X hP hw hK hc i pins s σ H E I hf st hg
  subst hP hw hK
  obtain ⟨f0,f1,f2,f3,f4,f5⟩:=hf it (by simp)
  have W:=Walks.range (prog:=X.prog) (w:=X.w) (I.ok.hd hc) it lo 1 n
  refine W.item i s _ _ hg st fun v h' tk hv st' kk=>?_
  obtain ⟨t,rfl⟩:=hv
  have I1:Inv X pins σ H { s with heap:=h',toks:=tk }:=I.turned (fun b o hb e=>kk b o (by simpa using hb) e) f0 f1 f3 f4 f5
  refine ⟨_,rfl,xU (s:={ s with heap:=h',toks:=tk }) (n:="range_iterator") st' rfl rfl (by decide) ⟨.int (lo+i),H,I1,⟨t,?_⟩,⟨rfl,rfl⟩,st',fun b hb=>(hf b hb).1⟩⟩
  rw [Int.mul_one]
 done:=by
  intro X hP hw hK hc i pins s σ H E I hf st hg
  subst hP hw hK
  obtain ⟨f0,f1,f2,f3,f4,f5⟩:=hf it (by simp)
  exact wpAny_pyNext_range_end (I.ok.hd hc) st (by have:n<=i:=hg; lia) fun h' eb=>⟨rfl,I.turned (t':=s.toks) (fun b o hb e=>eb b o hb e) f0 f1 f3 f4 f5⟩
 self:=fun _ _ _ _ _ st h=>wpAny_pyIter_rangeiter st h
end L2
namespace L2
open PySem PySem.Spec PyProof.Rows
section
variable {X:Cx} {tg:II}
noncomputable def C8 (K:FW) (tl:TE):TI:=fun σ H R=>tl σ H fun x H1=>∃ a,x = .ref a/\(∃ xs,ai K H1 a xs)/\R (pF K a) H1
theorem aO {l:II} {tl:TE} (hl:PE X l tl):PI X tg l (C8 X.K tl):=by
 intro pins s σ H R I h
 refine aI (hl pins s σ H _ I h) fun v s1 ⟨x,H1,I1,r1,q1⟩=>?_
 obtain ⟨a,e,⟨xs,hq⟩,q⟩:=q1
 subst e
 cases r1
 obtain ⟨its,rv,p,hz⟩:=I1.list hq
 refine KY p.isList ?_
 refine ⟨s1.heap.objs.size,[s1.heap.objs.size],_,_,H1,rfl,I1.kept (t':=s1.toks) fun b o e=>Ft _ e,uO a _,⟨_,Gc _ rfl,rfl,rfl⟩,fun b hb=>?_,q⟩
 have e:b=s1.heap.objs.size:=by simpa using hb
 subst e
 exact I1.fpOk (Fy _) (I1.hok.fresh (Fy _))
theorem vJ {pins:List (FD × Obj)} {σ:St} {H:Hp} {s:Fq} {R:It->Hp->Prop} {E:Fk->Fq->Prop} {lo hi:Int} {t u v:Tok} {tk:Nat} (I:Inv X pins σ H s) (h1 : -(2 ^ 62)<=lo) (h2:lo < 2 ^ 62) (h3 : -(2 ^ 62)<=hi) (h4:hi < 2 ^ 62)
  (q:R (ny lo (hi - lo).toNat) H):wpAny (model X.prog X.w) X.A (pyIter (.ref s.heap.objs.size)) (DW X pins σ tg R) E { s with heap:=s.heap.push { cls:=.type "range",data:=.fields #[.int lo t,.int hi u,.int 1 v] },toks:=tk }:=by
 refine wpAny_pyIter_range (IsRange.new ..) (small_one h1 h2 h3 h4) ?_
 have I1:Inv X pins σ H { s with heap:=s.heap.push { cls:=.type "range",data:=.fields #[.int lo t,.int hi u,.int 1 v] },toks:=tk }:=I.kept fun b o e=>Ft _ e
 refine ⟨(s.heap.push { cls:=.type "range",data:=.fields #[.int lo t,.int hi u,.int 1 v] }).objs.size,[(s.heap.push { cls:=.type "range",data:=.fields #[.int lo t,.int hi u,.int 1 v] }).objs.size],_,_,H,rfl,
  I1.kept (t':=tk) fun b o e=>Ft _ e,sV _ lo (hi - lo).toNat,?_,fun b hb=>?_,q⟩
 ·have e1:lo+((0:Nat):Int)*1=lo:=by simp
  have e2:(((hi - lo).toNat:Nat):Int) - ((0:Nat):Int)=Builtin.Range.rangeSize lo hi 1:=by rw [rangeSize_one]; split<;>lia
  show IsRangeIter _ _ (lo+((0:Nat):Int)*1) ((((hi - lo).toNat:Nat):Int) - ((0:Nat):Int)) 1
  rw [e1,e2]
  exact Gc _ rfl
 ·have e:b=(s.heap.push { cls:=.type "range",data:=.fields #[.int lo t,.int hi u,.int 1 v] }).objs.size:=by simpa using hb
  subst e
  exact I1.fpOk (Fy _) (I1.hok.fresh (Fy _))
noncomputable def DS (ta:TA):TI:=fun σ H R=>ta σ H fun vs H1=>∃ j:Int,vs=[.int j]/\-(2 ^ 62)<=j/\j < 2 ^ 62/\R (ny 0 j.toNat) H1
theorem de {a:II} {ta:TA} {p pos:Pos} (hg:Gl X "range") (hm:X.mg "range" = none) (ha:PA X [a] ta) (hs:starEach [a] X.env=[(false,eval a X.env)]:=by rfl):PI X tg (.Call (.Name "range" p) [a] [] pos) (DS ta):=by
 intro pins s σ H R I h
 refine Call_ (dQ I hg hm boot_range (GU (aI (ha pos pins s σ H _ I h) fun us s1 ⟨vs,H1,I1,r1,q1⟩=>?_) hs rfl))
 obtain ⟨j,e,q1,q2,q⟩:=q1
 subst e
 cases r1 with
 | cons r rr =>
  cases rr
  obtain ⟨t,rfl⟩:=r
  exact call_range_1 (vJ I1 (by lia) (by lia) q1 q2 (by simpa using q))
noncomputable def DZ (wi:TI) (g:TG) (tb:TS):TS:=fun D σ H=>wi σ H fun J H1=>∃ W:Nat->Nat->St->Hp->Prop,(∃ m,W 0 m σ H1)/\∀ i m σ H,W i m σ H ->
 (J.stop i H/\D.nx σ H)\/(J.go i H/\∃ N:St->Hp->Prop,(∀ σ' H',N σ' H'->∃ m',m' < m/\W (i+1) m' σ' H')/\∀ x H',J.yld i H x H'->g x σ H' fun σ2 H2=>tb { D with nx:=N,ct:=N,bk:=D.nx } σ2 H2)
noncomputable def i3 (fp:List FD) (h:HM):List (FD × Obj):=fp.filterMap fun b=>(h.get? b).map fun o=>(b,o)
theorem gf {fp:List FD} {h:HM} {b:FD} {o:Obj} (hb:b∈fp) (e:h.get? b=some o):(b,o)∈i3 fp h:=KJ.mpr ⟨b,hb,by rw [e]; rfl⟩
theorem uV {fp:List FD} {h:HM} {p:FD × Obj} (hp:p∈i3 fp h):p.1∈fp/\h.get? p.1=some p.2:=by
 obtain ⟨b,hb,e⟩:=KJ.mp hp
 cases q:h.get? b with
 | none=>rw [q] at e; cases e
 | some o =>
  rw [q] at e
  have e':(b,o)=p:=GB e
  subst e'
  exact ⟨hb,q⟩
theorem Inv.pinned {pins:List (FD × Obj)} {σ:St} {H:Hp} {s:Fq} {fp:List FD} (I:Inv X pins σ H s) (hf:∀ b∈fp,jV X pins H b) (ho:∀ b∈fp,∃ o,s.heap.get? b=some o/\∀ v,o.data≠.cell v):Inv X (pins++i3 fp s.heap) σ H s :=
 I.pins_of fun p hp=>(FF.mp hp).elim (fun z=>I.pin p (GE _ z)) fun z=>by
  obtain ⟨hb,e⟩:=uV z
  obtain ⟨f0,f1,f2,_⟩:=hf p.1 hb
  obtain ⟨o,e',d⟩:=ho p.1 hb
  rw [e] at e'; cases e'
  exact ⟨e,f0,f1,f2,d⟩
theorem Inv.unpinned {pins pl:List (FD × Obj)} {σ:St} {H:Hp} {s:Fq} (I:Inv X (pins++pl) σ H s):Inv X pins σ H s:=I.pins_of fun p hp=>I.pin p (GE _ (Hj _ hp))
theorem bV {iter:II} {body:List IB} {wi:TI} {g:TG} {tb:TS} {pos:Pos} (hp:PassesOwn (model X.prog X.w) X.A X.env X.xe) (hc:X.calm=true) (hi:PI X tg iter wi) (hg:PG X tg g) (hb:gr X body tb)
  (hs:∀ x,foldedSetIterable iter X.env x=pure x:=by intro _; rfl):PS X (.For tg iter body [] pos) (DZ wi g tb):=by
 intro pins s σ H D I h
 refine wpAny_For (aI (hi pins s σ H _ I h) fun v s1 h1=>aI h1 fun itv s2 h2=>?_) hs
 obtain ⟨it,fp,tn,J,H2,e,I2,T,st2,f2,W,⟨m0,w0⟩,turn⟩:=h2
 subst e
 -- what stays true of the iterator's objects through the loop
 have stat:∀ {H':Hp},(∀ b∈fp,H' b=none)->∀ b∈fp,jV X pins H' b:=fun hn b hb=>⟨hn b hb,(f2 b hb).2⟩
 refine codeAny_forLoop_any (fun n s'=>∃ i σ' H',Inv X pins σ' H' s'/\tn i s'.heap/\(∀ b∈fp,H' b=none)/\W i n σ' H') ?_ m0 ⟨0,σ,H2,I2,st2,fun b hb=>(f2 b hb).1,w0⟩
 rintro n s3 ⟨i,σ3,H3,I3,st3,fr3,w3⟩
 rcases turn i n σ3 H3 w3 with ⟨stop,qn⟩ | ⟨go,N,hN,step⟩
 ·refine IP hp (aI (T.done X rfl rfl rfl hc i pins s3 σ3 H3 X.xe I3 (stat fr3) st3 stop) fun r s4 ⟨hr,I4⟩=>?_)
  subst hr
  exact Kt ⟨σ3,H3,I4,qn⟩
 ·refine IP hp (aI (T.item X rfl rfl rfl hc i pins s3 σ3 H3 X.xe I3 (stat fr3) st3 go) fun r s4 ⟨u,hr,h4⟩=>?_)
  subst hr
  refine IP hp (aI h4 fun _ s5 ⟨x,H5,I5,r5,y5,st5,fr5⟩=>?_)
  have I5':=I5.pinned (stat fr5) (T.obj _ _ st5)
  refine IP hp (aI (hg _ s5 σ3 H5 x u _ I5' r5 (step x H5 y5)) fun _ s6 ⟨σ6,H6,I6,q6⟩=>?_)
  refine IP hp (aI (hb _ s6 σ6 H6 _ I6 q6) fun f s7 q7=>?_)
  have again:∀ {σ7:St} {H7:Hp},Inv X (pins++i3 fp s5.heap) σ7 H7 s7->N σ7 H7->∃ m,m < n/\∃ i σ' H',Inv X pins σ' H' s7/\tn i s7.heap/\(∀ b∈fp,H' b=none)/\W i m σ' H':=fun {σ7 H7} I7 n7=>by
   obtain ⟨m',hm,w7⟩:=hN σ7 H7 n7
   refine ⟨m',hm,i+1,σ7,H7,I7.unpinned,T.keep _ _ _ st5 fun b hb o e=>(I7.pin (b,o) (GE _ (GE _ (gf hb e)))).1,fun b hb=>?_,w7⟩
   obtain ⟨o,e,d⟩:=T.obj _ _ st5 b hb
   exact (I7.pin (b,o) (GE _ (GE _ (gf hb e)))).2.1
  cases f with
  | next=>obtain ⟨σ7,H7,I7,n7⟩:=q7; exact again I7 n7
  | cont=>obtain ⟨σ7,H7,I7,n7⟩:=q7; exact again I7 n7
  | brk=>obtain ⟨σ7,H7,I7,q7⟩:=q7; exact ⟨σ7,H7,I7.unpinned,q7⟩
  | ret v=>obtain ⟨x7,σ7,H7,I7,r7,q7⟩:=q7; exact ⟨x7,σ7,H7,I7.unpinned,r7,q7⟩
end
theorem bY {K:FW} {a:FD} {xs:List V} {g:TG} {tb:TS} {D:Ends} {σ:St} {H:Hp} (Pv:Nat->St->Hp->Prop) (h0:Pv 0 σ H) (hl:∀ i σ H,i<=xs.length->Pv i σ H->ai K H a xs)
  (hs:∀ i x σ H,xs[i]? = some x->Pv i σ H->g x σ H fun σ2 H2=>tb { D with nx:=Pv (i+1),ct:=Pv (i+1),bk:=D.nx } σ2 H2) (hd:∀ σ H,Pv xs.length σ H->D.nx σ H) :
  ∃ W:Nat->Nat->St->Hp->Prop,(∃ m,W 0 m σ H)/\∀ i m σ H,W i m σ H ->
   ((pF K a).stop i H/\D.nx σ H)\/((pF K a).go i H/\∃ N:St->Hp->Prop,(∀ σ' H',N σ' H'->∃ m',m' < m/\W (i+1) m' σ' H')/\∀ x H',(pF K a).yld i H x H'->g x σ H' fun σ2 H2=>tb { D with nx:=N,ct:=N,bk:=D.nx } σ2 H2):=by
 refine ⟨fun i m σ H=>m=xs.length - i/\i<=xs.length/\Pv i σ H,⟨xs.length,by simp,FI _,h0⟩,?_⟩
 rintro i m σ H ⟨rfl,hi,p⟩
 have q:=hl i σ H hi p
 by_cases hlt:i < xs.length
 ·refine .inr ⟨⟨xs,xs[i],q,by simp [hlt]⟩,Pv (i+1),fun σ' H' p'=>⟨xs.length - (i+1),by lia,rfl,hlt,p'⟩,fun x H' y=>?_⟩
  obtain ⟨e,y⟩:=y
  subst e
  exact hs i x σ _ (y xs q) p
 ·have e:i=xs.length:=by lia
  subst e
  exact .inl ⟨⟨xs,q,Fy _⟩,hd σ H p⟩
theorem eV {lo:Int} {n:Nat} {g:TG} {tb:TS} {D:Ends} {σ:St} {H:Hp} (Pv:Nat->St->Hp->Prop) (h0:Pv 0 σ H)
  (hs:∀ i σ H,i < n->Pv i σ H->g (.int (lo+i)) σ H fun σ2 H2=>tb { D with nx:=Pv (i+1),ct:=Pv (i+1),bk:=D.nx } σ2 H2) (hd:∀ σ H,Pv n σ H->D.nx σ H) :
  ∃ W:Nat->Nat->St->Hp->Prop,(∃ m,W 0 m σ H)/\∀ i m σ H,W i m σ H ->
   ((ny lo n).stop i H/\D.nx σ H)\/((ny lo n).go i H/\∃ N:St->Hp->Prop,(∀ σ' H',N σ' H'->∃ m',m' < m/\W (i+1) m' σ' H')/\∀ x H',(ny lo n).yld i H x H'->g x σ H' fun σ2 H2=>tb { D with nx:=N,ct:=N,bk:=D.nx } σ2 H2):=by
 refine ⟨fun i m σ H=>m=n - i/\i<=n/\Pv i σ H,⟨n,by simp,FI _,h0⟩,?_⟩
 rintro i m σ H ⟨rfl,hi,p⟩
 by_cases hlt:i < n
 ·refine .inr ⟨hlt,Pv (i+1),fun σ' H' p'=>⟨n - (i+1),by lia,rfl,hlt,p'⟩,fun x H' y=>?_⟩
  obtain ⟨e,y⟩:=y
  subst e y
  exact hs i σ _ hlt p
 ·have e:i=n:=by lia
  subst e
  exact .inl ⟨Fy _,hd σ H p⟩
end L2
namespace L2
open PySem PySem.Spec PyProof.Rows
noncomputable abbrev R2:=V->V->Hp->VK->Prop
def cC (X:Cx) (f:Fk->Fk->Sem Fk) (r:R2):Prop :=
 ∀ (pins:List (FD × Obj)) (s:Fq) (σ:St) (H:Hp) (x y:V) (v u:Fk) (Q:VK),Inv X pins σ H s->RelV x v->RelV y u->r x y H Q ->
  wpAny (model X.prog X.w) X.A (f v u) (EP X pins σ Q) X.xe s
def zc (X:Cx) (f:Fk->Sem Fk) (r:V->Hp->VK->Prop):Prop :=
 ∀ (pins:List (FD × Obj)) (s:Fq) (σ:St) (H:Hp) (x:V) (v:Fk) (Q:VK),Inv X pins σ H s->RelV x v->r x H Q ->
  wpAny (model X.prog X.w) X.A (f v) (EP X pins σ Q) X.xe s
def dk (X:Cx) (f:Fk) (r:List V->Hp->VK->Prop):Prop :=
 ∀ (pins:List (FD × Obj)) (s:Fq) (σ:St) (H:Hp) (xs:List V) (us:List Fk) (Q:VK),Inv X pins σ H s->Vals xs us->r xs H Q ->
  wpAny (model X.prog X.w) X.A (call f us) (EP X pins σ Q) X.xe s
noncomputable def xv (r:R2) (ta tb:TE):TE:=fun σ H Q=>ta σ H fun x H1=>tb σ H1 fun y H2=>r x y H2 Q
noncomputable def Ff (r:V->Hp->VK->Prop) (ta:TE):TE:=fun σ H Q=>ta σ H fun x H1=>r x H1 Q
noncomputable def rI (C:Int->Int->Prop) (g:Int->Int->V):R2:=fun x y H Q=>∃ i j,x = .int i/\y = .int j/\C i j/\Q (g i j) H
noncomputable def mM (g:Int->Int->V):R2:=fun x y H Q=>∃ i j,x = .int i/\y = .int j/\Q (g i j) H
noncomputable def rU (g:Int->V):V->Hp->VK->Prop:=fun x H Q=>∃ i,x = .int i/\Q (g i) H
section
variable {X:Cx} {a b c:II} {ta tb tc:TE} {pos:Pos}
theorem xo (ha:PE X a ta) (hb:PE X b tb) {pins:List (FD × Obj)} {s:Fq} {σ:St} {H:Hp} {R:V->V->Hp->Prop} (I:Inv X pins σ H s)
  (h:ta σ H fun x H1=>tb σ H1 fun y H2=>R x y H2) {Q:Fk->Fq->Prop} {f:Fk->Fk->Sem Fk}
  (hf:∀ v u s2 x y H2,Inv X pins σ H2 s2->RelV x v->RelV y u->R x y H2->wpAny (model X.prog X.w) X.A (f v u) Q X.xe s2) :
  wpAny (model X.prog X.w) X.A (eval a X.env) (fun v s₁=>wpAny (model X.prog X.w) X.A (eval b X.env) (fun u s₂=>wpAny (model X.prog X.w) X.A (f v u) Q X.xe s₂) X.xe s₁) X.xe s:=by
 refine aI (ha pins s σ H _ I h) fun v s1 ⟨x,H1,I1,r1,q1⟩=>?_
 refine aI (hb pins s1 σ H1 _ I1 q1) fun u s2 ⟨y,H2,I2,r2,q2⟩=>?_
 exact hf v u s2 x y H2 I2 r1 r2 q2
theorem aj {op:Operator} {r:R2} (ho:cC X (binaryOp op) r) (ha:PE X a ta) (hb:PE X b tb):PE X (.BinOp a op b pos) (xv r ta tb):=by
 intro pins s σ H Q I h
 exact wpAny_BinOp (xo ha hb I h fun v u s2 x y H2 I2 rx ry q=>ho pins s2 σ H2 x y v u Q I2 rx ry q)
theorem e8 {op:UnaryOp} {r:V->Hp->VK->Prop} (ho:zc X (unaryOp op) r) (ha:PE X a ta):PE X (.UnaryOp op a pos) (Ff r ta):=by
 intro pins s σ H Q I h
 exact UnaryOp_ (aI (ha pins s σ H _ I h) fun v s1 ⟨x,H1,I1,r1,q1⟩=>ho pins s1 σ H1 x v Q I1 r1 q1)
theorem xX {f:Fk->Fk->Sem Fk} {C:Int->Int->Prop} {g:Int->Int->Int}
  (rule:∀ (i j:Int) (t u:Tok) (s:Fq) (Q:Fk->Fq->Prop) (E:Fk->Fq->Prop),C i j->Q (.int (g i j) s.toks) { s with toks:=s.toks+1 }->wpAny (model X.prog X.w) X.A (f (.int i t) (.int j u)) Q E s) :
  cC X f (rI C fun i j=>.int (g i j)):=by
 intro pins s σ H x y v u Q I rx ry h
 obtain ⟨i,j,rfl,rfl,hc,q⟩:=h
 obtain ⟨t,rfl⟩:=rx
 obtain ⟨t',rfl⟩:=ry
 exact rule i j t t' s _ _ hc ⟨.int (g i j),H,I.tok _,⟨_,rfl⟩,q⟩
theorem Ar {f:Fk->Fk->Sem Fk} {g:Int->Int->Int}
  (rule:∀ (i j:Int) (t u:Tok) (s:Fq) (Q:Fk->Fq->Prop) (E:Fk->Fq->Prop),Q (.int (g i j) s.toks) { s with toks:=s.toks+1 }->wpAny (model X.prog X.w) X.A (f (.int i t) (.int j u)) Q E s) :
  cC X f (mM fun i j=>.int (g i j)):=by
 intro pins s σ H x y v u Q I rx ry h
 obtain ⟨i,j,rfl,rfl,q⟩:=h
 obtain ⟨t,rfl⟩:=rx
 obtain ⟨t',rfl⟩:=ry
 exact rule i j t t' s _ _ ⟨.int (g i j),H,I.tok _,⟨_,rfl⟩,q⟩
theorem tm {f:Fk->Fk->Sem Fk} {g:Int->Int->Bool}
  (rule:∀ (i j:Int) (t u:Tok) (s:Fq) (Q:Fk->Fq->Prop) (E:Fk->Fq->Prop),Q (.bool (g i j)) s->wpAny (model X.prog X.w) X.A (f (.int i t) (.int j u)) Q E s) :
  cC X f (mM fun i j=>.bl (g i j)):=by
 intro pins s σ H x y v u Q I rx ry h
 obtain ⟨i,j,rfl,rfl,q⟩:=h
 obtain ⟨t,rfl⟩:=rx
 obtain ⟨t',rfl⟩:=ry
 exact rule i j t t' s _ _ ⟨.bl (g i j),H,I,rfl,q⟩
def Es (i j:Int):Prop:=0<=j/\j<=1000000/\i.natAbs < 2 ^ 64
def gR (i j:Int):Prop:=(-(2 ^ 64) < i/\i < 2 ^ 64)\/(-(2 ^ 64) < j/\j < 2 ^ 64)
theorem gR.ok {i j:Int} (h:gR i j):IntMulOk i j:=by
 rcases h with ⟨h1,h2⟩ | ⟨h1,h2⟩
 ·exact .of_left (intBits_le_64 h1 h2)
 ·exact .of_right (intBits_le_64 h1 h2)
theorem aE:cC X (binaryOp .Add) (mM fun i j=>.int (i+j)):=Ar fun _ _ _ _ _ _ _ q=>add_int q
theorem aM:cC X (binaryOp .Sub) (mM fun i j=>.int (i - j)):=Ar fun _ _ _ _ _ _ _ q=>sub_int q
theorem b5:cC X (binaryOp .Mult) (rI gR fun i j=>.int (i*j)):=xX fun _ _ _ _ _ _ _ hc q=>mul_int q hc.ok
theorem dX:cC X (binaryOp .Mod) (rI (fun _ j=>0 < j) fun i j=>.int (i % j)):=xX fun i j _ _ _ _ _ hc q=>by
 have h1:(0:Int) < j:=hc
 exact mod_int' (by lia) (by rw [Int.fmod_eq_emod_of_nonneg i (by lia)]; exact q)
theorem Ag:cC X (binaryOp .Pow) (rI Es fun i j=>.int (i ^ j.toNat)):=xX fun _ _ _ _ _ _ _ hc q=>pow_int_small hc.1 hc.2.1 hc.2.2 q
theorem EO {f:Fk->Sem Fk} {g:Int->Int}
  (rule:∀ (i:Int) (t:Tok) (s:Fq) (Q:Fk->Fq->Prop) (E:Fk->Fq->Prop),Q (.int (g i) s.toks) { s with toks:=s.toks+1 }->wpAny (model X.prog X.w) X.A (f (.int i t)) Q E s) :
  zc X f (rU fun i=>.int (g i)):=by
 intro pins s σ H x v Q I rx h
 obtain ⟨i,rfl,q⟩:=h
 obtain ⟨t,rfl⟩:=rx
 exact rule i t s _ _ ⟨.int (g i),H,I.tok _,⟨_,rfl⟩,q⟩
theorem dN:zc X (unaryOp .USub) (rU fun i=>.int (-i)):=EO fun _ _ _ _ _ q=>neg_int q
end
noncomputable def Cc:V->V->Bool
 | .non,.non=>true | .non,.int _=>true | .int _,.non=>true | .non,.bl _=>true | .bl _,.non=>true | .non,.str _=>true | .str _,.non=>true
 | .int _,.int _=>true | .bl _,.bl _=>true | .str _,.str _=>true | .byt _,.byt _=>true
 | .int _,.str _=>true | .str _,.int _=>true | .bl _,.str _=>true | .str _,.bl _=>true
 | _,_=>false
noncomputable def Fe:R2:=fun x y H Q=>Cc x y=true/\Q (.bl (decide (x=y))) H
noncomputable def E9:R2:=fun x y H Q=>Cc x y=true/\Q (.bl (!decide (x=y))) H
theorem l9 {i j:Int}:decide (V.int i=V.int j)=(i == j):=by
 rw [G8]
 simp
theorem ve {i j:Bool}:decide (V.bl i=V.bl j)=(i == j):=by
 rw [G8]
 simp
theorem pZ {i j:Str}:decide (V.str i=V.str j)=(i == j):=by
 rw [G8]
 simp
theorem qw {i j:Array UInt8}:decide (V.byt i=V.byt j)=(i.toList == j.toList):=by
 rw [G8]
 cases i
 cases j
 simp
section
variable {X:Cx} {a b c:II} {ta tb tc:TE} {pos:Pos}
theorem aT {pins:List (FD × Obj)} {σ:St} {H:Hp} {s:Fq} {Q:VK} {k k':Bool} (I:Inv X pins σ H s) (q:Q (.bl k) H) (e:k=k'):EP X pins σ Q (.bool k') s:=by
 subst e
 exact ⟨.bl k,H,I,rfl,q⟩
theorem cG:cC X (compareOp .Eq) Fe:=by
 intro pins s σ H x y v u Q I rx ry h
 obtain ⟨hs,q⟩:=h
 cases x with
 | non =>
  cases rx
  cases y with
  | non=>cases ry; exact PySem.EqNone.eq_none_none (aT I q (by simp))
  | bl j=>cases ry; exact PySem.EqNone.eq_none_bool (aT I q (by simp))
  | int j=>obtain ⟨t',rfl⟩:=ry; exact PySem.EqNone.eq_none_int (aT I q (by simp))
  | str j=>obtain ⟨t',rfl⟩:=ry; exact PySem.EqNone.eq_none_str (aT I q (by simp))
  | _=>exact absurd (show false=true from hs) Gh
 | bl i =>
  cases rx
  cases y with
  | non=>cases ry; exact PySem.EqNone.eq_bool_none (aT I q (by simp))
  | bl j=>cases ry; exact eq_bool (aT I q ve)
  | str j=>obtain ⟨t',rfl⟩:=ry; exact PySem.EqMixed.eq_bool_str (aT I q (by simp))
  | _=>exact absurd (show false=true from hs) Gh
 | int i =>
  obtain ⟨t,rfl⟩:=rx
  cases y with
  | non=>cases ry; exact PySem.EqNone.eq_int_none (aT I q (by simp))
  | int j=>obtain ⟨t',rfl⟩:=ry; exact eq_int (aT I q l9)
  | str j=>obtain ⟨t',rfl⟩:=ry; exact PySem.EqMixed.eq_int_str (aT I q (by simp))
  | _=>exact absurd (show false=true from hs) Gh
 | str i =>
  obtain ⟨t,rfl⟩:=rx
  cases y with
  | non=>cases ry; exact PySem.EqNone.eq_str_none (aT I q (by simp))
  | bl j=>cases ry; exact PySem.EqMixed.eq_str_bool (aT I q (by simp))
  | int j=>obtain ⟨t',rfl⟩:=ry; exact PySem.EqMixed.eq_str_int (aT I q (by simp))
  | str j=>obtain ⟨t',rfl⟩:=ry; exact eq_str (aT I q pZ)
  | _=>exact absurd (show false=true from hs) Gh
 | byt i =>
  obtain ⟨t,rfl⟩:=rx
  cases y with
  | byt j=>obtain ⟨t',rfl⟩:=ry; exact PySem.W.eq_bytes (aT I q qw)
  | _=>exact absurd (show false=true from hs) Gh
 | _=>cases y<;>exact absurd (show false=true from hs) Gh
theorem kN:cC X (compareOp .NotEq) E9:=by
 intro pins s σ H x y v u Q I rx ry h
 obtain ⟨hs,q⟩:=h
 cases x with
 | non =>
  cases rx
  cases y with
  | non=>cases ry; exact PySem.EqNone.ne_none_none (aT I q (by simp))
  | bl j=>cases ry; exact PySem.EqNone.ne_none_bool (aT I q (by simp))
  | int j=>obtain ⟨t',rfl⟩:=ry; exact PySem.EqNone.ne_none_int (aT I q (by simp))
  | str j=>obtain ⟨t',rfl⟩:=ry; exact PySem.EqNone.ne_none_str (aT I q (by simp))
  | _=>exact absurd (show false=true from hs) Gh
 | bl i =>
  cases rx
  cases y with
  | non=>cases ry; exact PySem.EqNone.ne_bool_none (aT I q (by simp))
  | bl j=>cases ry; exact ne_bool (aT I q (congrArg not ve))
  | str j=>obtain ⟨t',rfl⟩:=ry; exact PySem.EqMixed.ne_bool_str (aT I q (by simp))
  | _=>exact absurd (show false=true from hs) Gh
 | int i =>
  obtain ⟨t,rfl⟩:=rx
  cases y with
  | non=>cases ry; exact PySem.EqNone.ne_int_none (aT I q (by simp))
  | int j=>obtain ⟨t',rfl⟩:=ry; exact ne_int (aT I q (congrArg not l9))
  | str j=>obtain ⟨t',rfl⟩:=ry; exact PySem.EqMixed.ne_int_str (aT I q (by simp))
  | _=>exact absurd (show false=true from hs) Gh
 | str i =>
  obtain ⟨t,rfl⟩:=rx
  cases y with
  | non=>cases ry; exact PySem.EqNone.ne_str_none (aT I q (by simp))
  | bl j=>cases ry; exact PySem.EqMixed.ne_str_bool (aT I q (by simp))
  | int j=>obtain ⟨t',rfl⟩:=ry; exact PySem.EqMixed.ne_str_int (aT I q (by simp))
  | str j=>obtain ⟨t',rfl⟩:=ry; exact ne_str (aT I q (congrArg not pZ))
  | _=>exact absurd (show false=true from hs) Gh
 | byt i =>
  obtain ⟨t,rfl⟩:=rx
  cases y with
  | byt j=>obtain ⟨t',rfl⟩:=ry; exact PySem.W.ne_bytes (aT I q (congrArg not qw))
  | _=>exact absurd (show false=true from hs) Gh
 | _=>cases y<;>exact absurd (show false=true from hs) Gh
theorem dH:cC X (compareOp .Lt) (mM fun i j=>.bl (decide (i < j))):=tm fun _ _ _ _ _ _ _ q=>lt_int q
theorem sR:cC X (compareOp .LtE) (mM fun i j=>.bl (decide (i<=j))):=tm fun _ _ _ _ _ _ _ q=>le_int q
theorem gF:cC X (compareOp .Gt) (mM fun i j=>.bl (decide (j < i))):=tm fun _ _ _ _ _ _ _ q=>gt_int q
theorem nk:cC X (compareOp .GtE) (mM fun i j=>.bl (decide (j<=i))):=tm fun _ _ _ _ _ _ _ q=>ge_int q
theorem BG:cC X (compareOp .Is) (fun x y H Q=>y = .non/\Q (.bl (decide (x = .non))) H):=by
 intro pins s σ H x y v u Q I rx ry h
 obtain ⟨rfl,q⟩:=h
 cases ry
 refine is_none_gen (aT I q ?_)
 cases x<;>first
  | (cases rx; rfl)
  | (obtain ⟨t,rfl⟩:=rx; rfl)
theorem yd:cC X (compareOp .IsNot) (fun x y H Q=>y = .non/\Q (.bl (!decide (x = .non))) H):=by
 intro pins s σ H x y v u Q I rx ry h
 obtain ⟨rfl,q⟩:=h
 cases ry
 refine isnot_none_gen (aT I q ?_)
 cases x<;>first
  | (cases rx; rfl)
  | (obtain ⟨t,rfl⟩:=rx; rfl)
theorem aA (b:II) {op:CmpOp} (h:op≠.In:=by decide) (h2:op≠.NotIn:=by decide):behindInMarks op b=false:=by
 have e1:(op == CmpOp.In)=false:=by cases op<;>first | rfl | exact absurd rfl h
 have e2:(op == CmpOp.NotIn)=false:=by cases op<;>first | rfl | exact absurd rfl h2
 cases b<;>simp [behindInMarks,e1,e2]
theorem fI {op:CmpOp} {r:R2} (ho:cC X (compareOp op) r) (ha:PE X a ta) (hb:PE X b tb) (hm:behindInMarks op b=false):PE X (.Compare a [op] [b] pos) (xv r ta tb):=by
 intro pins s σ H Q I h
 exact wpAny_Compare1 (xo ha hb I h fun v u s2 x y H2 I2 rx ry q=>ho pins s2 σ H2 x y v u Q I2 rx ry q) hm
noncomputable def xA (t:TE):TT:=fun σ H Q=>t σ H fun x H'=>∃ k,x = .bl k/\Q k H'
theorem aw {op:CmpOp} {r:R2} (ho:cC X (compareOp op) r) (ha:PE X a ta) (hb:PE X b tb) (hm:behindInMarks op b=false):PT X (.Compare a [op] [b] pos) (xA (xv r ta tb)):=by
 intro pins s σ H Q I h
 refine wpAny_isTrue_Compare1 (aI (ha pins s σ H _ I h) fun v s1 ⟨x,H1,I1,r1,q1⟩=>aI (hb pins s1 σ H1 _ I1 q1) fun u s2 ⟨y,H2,I2,r2,q2⟩ =>
  aI (ho pins s2 σ H2 x y v u _ I2 r1 r2 q2) fun c s3 ⟨z,H3,I3,r3,k,e,q3⟩=>?_) hm
 subst e
 cases r3
 exact GT ⟨H3,I3,q3⟩
noncomputable def yX (r r':R2) (ta tb tc:TE):TE:=fun σ H Q=>ta σ H fun x H1=>tb σ H1 fun y H2=>r x y H2 fun z H3=>∃ k,z = .bl k /\
 (if k=true then tc σ H3 fun w' H4=>r' y w' H4 Q else Q (.bl false) H3)
theorem vL {op op':CmpOp} {r r':R2} (ho:cC X (compareOp op) r) (ho':cC X (compareOp op') r') (ha:PE X a ta) (hb:PE X b tb) (hc:PE X c tc)
  (hm:lastMarks [op,op'] [b,c]=false:=by with_unfolding_all rfl):PE X (.Compare a [op,op'] [b,c] pos) (yX r r' ta tb tc):=by
 intro pins s σ H Q I h
 refine Compare_chain (aI (ha pins s σ H _ I h) fun v s1 ⟨x,H1,I1,r1,q1⟩=>chain_link (aI (hb pins s1 σ H1 _ I1 q1) fun u s2 ⟨y,H2,I2,r2,q2⟩ =>
  aI (ho pins s2 σ H2 x y v u _ I2 r1 r2 q2) fun d s3 ⟨z,H3,I3,r3,k,e,q3⟩=>?_)) hm
 subst e
 cases r3
 refine GT ?_
 cases k with
 | false=>exact ite_ff ⟨.bl false,H3,I3,rfl,q3⟩
 | true=>exact ite_tt (chain_last (aI (hc pins s3 σ H3 _ I3 q3) fun w' s4 ⟨z',H4,I4,r4,q4⟩=>ho' pins s4 σ H4 y z' u w' Q I4 r2 r4 q4))
theorem ji:(sizeLine:Nat) < 2 ^ 63:=by rw [G3]; decide
theorem vals1 {x:V} {us:List Fk} (r:Vals [x] us):∃ u,us=[u]/\RelV x u:=by
 cases r with
 | cons r1 r2=>cases r2; exact ⟨_,rfl,r1⟩
theorem vals2 {x y:V} {us:List Fk} (r:Vals [x,y] us):∃ u w',us=[u,w']/\RelV x u/\RelV y w':=by
 cases r with
 | cons r1 r2 =>
  cases r2 with
  | cons r3 r4=>cases r4; exact ⟨_,_,rfl,r1,r3⟩
theorem mI (hc:X.calm=true):dk X (.builtin "max") (fun xs H Q=>∃ i j,xs=[.int i,.int j]/\Q (.int (if j > i then j else i)) H):=by
 intro pins s σ H xs us Q I r h
 obtain ⟨i,j,rfl,q⟩:=h
 obtain ⟨u,w',rfl,⟨t,rfl⟩,⟨t',rfl⟩⟩:=vals2 r
 refine max_two_ints (I.ok.hd hc) fun h' tk k=>⟨_,H,I.kept k,?_,q⟩
 by_cases hj:j > i
 ·rw [if_pos hj,if_pos hj]; exact ⟨_,rfl⟩
 ·rw [if_neg hj,if_neg hj]; exact ⟨_,rfl⟩
end
end L2
namespace L2
open PySem PySem.Spec PyProof.Rows
structure kA (h:HM) (x dx C:FD) (mA:Str->Option Fk):Prop where
 obj:h.get? x=some (Io C dx)
 ns:h.Ns1 dx mA
 ne:dx≠x
theorem tS {h:HM} {dx:FD} {mA:Str->Option Fk} (n:h.Ns1 dx mA):∃ od,h.get? dx=some od/\∀ name,KO name od=some (mA name):=by
 obtain ⟨o,es,ep,ho,hd,hk,_,hm⟩:=n
 refine ⟨o,ho,fun name=>?_⟩
 have e:=hm name
 unfold nsFind findBy at e
 rw [<- Array.find?_toList] at e
 unfold KO
 rw [hd]
 dsimp only
 split
 ·rename_i y q
  rw [q] at e
  exact congrArg some e
 ·rename_i q
  rw [q] at e
  have a:es.toList.any (·.refKey)=false:=by
   rw [JY]
   intro y hy
   obtain ⟨z,t,hkey⟩:=hk y (IM.mp hy)
   simp [DictEntry.refKey,hkey]
  have a':¬ es.toList.any (·.refKey)=true:=by rw [a]; exact Gh
  rw [if_neg a']
  exact congrArg some e
theorem kA.look {h:HM} {x dx C:FD} {mA:Str->Option Fk} (I:kA h x dx C mA):∃ od,PySem.W.InstAt h x (Io C dx) C (some od)/\∀ name,KO name od=some (mA name) :=
 let ⟨od,ho,hl⟩:=tS I.ns
 ⟨od,⟨I.obj,rfl,rfl,ho⟩,hl⟩
section
variable {prog:Gi} {w:GF} {A:GG} {E:Fk->Fq->Prop} {s:Fq} {K:FW} {x dx C f:FD} {mA:Str->Option Fk} {name:Str} {v:Fk}
theorem get_map {expr:Bool} {Q:Fk->Fq->Prop} (X:K.In s.heap) (I:kA s.heap x dx C mA) (hg:Ke K C name=true) (hh:KZ K C=true)
  (ha:HQ K (.ref C) name=some none) (hv:mA name=some v) (hv':PySem.W.handedIn v=true) (h:Q v { s with toks:=s.toks+1 }) :
  wpAny (model prog w) A (getAttr (.ref x) name expr) Q E s:=by
 obtain ⟨od,J,hl⟩:=I.look
 exact PySem.W.get_value X J (Ku hg).1 (PySem.W.findObj_own hh ha rfl (by rw [hl,hv])) hv' h
theorem vZ {pl:Sem Bool} {Q:Fk × List Fk->Fq->Prop} (X:K.In s.heap) (I:kA s.heap x dx C mA) (hg:Ke K C name=true)
  (hf:HQ K (.ref C) name=some (some (.ref f))) (ht:Md K (.ref f)=true) (hv:mA name=none) (h:Q (.ref f,[.ref x]) s) :
  wpAny (model prog w) A (getMethod (.ref x) name pl) Q E s:=by
 obtain ⟨od,J,hl⟩:=I.look
 exact PySem.W.method_fn X J (Ku hg).1 (Ku hg).2 hf (beq_iff_eq.mp ht) (by show (KO name od).map (·.isSome)=some false; rw [hl,hv]; rfl) h
theorem yf {ns:List Str} {Q:Unit->Fq->Prop} (X:K.In s.heap) (I:kA s.heap x dx C mA)
  (hs:HQ K (.ref C) "__setattr__" = some (some (.builtin "object.__setattr__"))) (hp:PySem.W.plainOver K C=true) (ht:LA K C name=some none) (hh:KZ K C=true)
  (hw:Mc mA ns) (hsz:ns.length<=sizeLine)
  (h:∀ h',kA h' x dx C (fun y=>if y=name then some v else mA y)->JL dx s.heap h'->Q () { s with heap:=h',toks:=s.toks+2 }) :
  wpAny (model prog w) A (setAttr (.ref x) name v) Q E s:=by
 obtain ⟨od,J,hl⟩:=I.look
 refine PySem.W.set_plain X J hs (PySem.W.osa_open (s:={ s with toks:=s.toks+1 }) (r:=none) X J hp ht fun b=>?_)
 obtain ⟨cd,hc,hd'⟩:=PySem.W.any_some hh
 have hx:s.heap.get? x=some ⟨.ref C,some dx,.plain,#[]⟩:=I.obj
 refine mo (Fv (mo (mo (wpAny_loadPart hx (mo (PySem.W.Looks.here (s:={ s with toks:=s.toks+1 }) (PySem.W.looks_clsIn X hc) ?_))))))
 rw [hd']
 refine Fv (a:=some dx) (mo (Fv (mo ?_)))
 refine wpAny_nsSet1 (s:={ s with toks:=s.toks+1 }) I.ns fun h' hn2 hs2=>?_
 obtain ⟨oD,esD,epD,hoD,hdD,hcD⟩:=hn2.count (PySem.Within.cons name v hw)
 refine mo (wpAny_lookBehind hoD (by rw [hdD]; exact pastItsLine_dict (GM hcD (by rw [FZ]; lia))) ?_)
 exact Fv (h _ ⟨(hs2.2 _ (Ih I.ne)).trans I.obj,hn2,I.ne⟩ hs2)
theorem we {R:Result->Fq->Prop} {vs:List Fk} {kw:List (Str × Fk)} (X:K.In s.heap) (hm:PySem.W.makesIn K C=true)
  (hi:HQ K (.ref C) "__init__" = some (some (.ref f))) (hf:PySem.W.typeIn K (.ref f)=some (.type "function"))
  (h:codeAny (model prog w) (A.under (.builtin "type.__call__" ⟨.ref C::vs,kw⟩)) (.call (.ref f) ⟨.ref (s.heap.objs.size+1)::vs,kw⟩) (PySem.W.InitBack (s.heap.objs.size+1) R)
   { s with heap:=(s.heap.push Hu).push (Io C s.heap.objs.size) }) :
  codeAny (model prog w) A (.call (.ref C) ⟨vs,kw⟩) R s:=by
 obtain ⟨hh,g,d,t,os⟩:=s
 exact PySem.W.make_core (PySem.W.makes_of X hm) (PySem.W.looks_findIn X hi) (fun self=>PySem.W.bind_fn X self hf) (.inl rfl) h
end
noncomputable def dG (f:Str) (v:V):List (Str × V)->List (Str × V)
 | []=>[(f,v)]
 | (g,x)::r=>if g=f then (g,v)::r else (g,x)::dG f v r
theorem cO (f g:Str) (v:V):∀ fs:List (Str × V),(dG f v fs).lookup g=if g=f then some v else fs.lookup g
 | []=>by
  show JZ g [(f,v)]=_
  by_cases h:g=f
  ·have hb:(g == f)=true:=beq_iff_eq.mpr h
   simp only [JZ,hb,if_pos h]
  ·have hb:(g == f)=false:=beq_eq_false_iff_ne.mpr h
   simp only [JZ,hb,if_neg h]
 | (k,x)::r=>by
  have ih:=cO f g v r
  rw [show dG f v ((k,x)::r)=(if k=f then (k,v)::r else (k,x)::dG f v r) from rfl]
  by_cases hk:k=f
  ·rw [if_pos hk]
   by_cases h:g=k
   ·have hb:(g == k)=true:=beq_iff_eq.mpr h
    simp only [JZ,hb,if_pos (h.trans hk)]
   ·have hb:(g == k)=false:=beq_eq_false_iff_ne.mpr h
    simp only [JZ,hb,if_neg (fun e:g=f=>h (e.trans hk.symm))]
  ·rw [if_neg hk]
   by_cases h:g=k
   ·have hb:(g == k)=true:=beq_iff_eq.mpr h
    simp only [JZ,hb,if_neg (fun e:g=f=>hk (h.symm.trans e))]
   ·have hb:(g == k)=false:=beq_eq_false_iff_ne.mpr h
    simp only [JZ,hb]
    exact ih
theorem iT (f:Str) (v:V):∀ fs:List (Str × V),f∈(dG f v fs).map (·.1)/\∀ g,g∈fs.map (·.1)->g∈(dG f v fs).map (·.1)
 | []=>⟨by simp [dG],fun g h=>by simp at h⟩
 | (k,x)::r=>by
  obtain ⟨i1,i2⟩:=iT f v r
  rw [show dG f v ((k,x)::r)=(if k=f then (k,v)::r else (k,x)::dG f v r) from rfl]
  by_cases hk:k=f
  ·rw [if_pos hk]
   subst hk
   exact ⟨by simp,fun g h=>by simpa using h⟩
  ·rw [if_neg hk]
   refine ⟨?_,fun g h=>?_⟩
   ·rw [FQ]
    exact FE _ i1
   ·rw [FQ] at h |-
    rcases FL.mp h with e | e
    ·exact FL.mpr (.inl e)
    ·exact FE _ (i2 g e)
theorem jG (f:Str) (v:V):∀ fs:List (Str × V),(dG f v fs).length<=fs.length+1
 | []=>by simp [dG]
 | (k,x)::r=>by
  have ih:=jG f v r
  rw [show dG f v ((k,x)::r)=(if k=f then (k,v)::r else (k,x)::dG f v r) from rfl]
  by_cases hk:k=f
  ·rw [if_pos hk,FZ,FZ]; lia
  ·rw [if_neg hk,FZ,FZ]; lia
theorem gN.some_of {v:V} {o:Option Fk} (r:gN (some v) o):∃ u,o=some u/\RelV v u:=by
 cases o with
 | none=>exact (show False from r).elim
 | some u=>exact ⟨u,rfl,r⟩
theorem gN.none_of {o:Option Fk} (r:gN none o):o=none:=by
 cases o with
 | none=>rfl
 | some u=>exact (show False from r).elim
theorem uR {v:V} {u:Fk} (r:RelV v u):PySem.W.handedIn u=true:=by
 cases v with
 | non=>cases (show u=Ht from r); rfl
 | bl b=>cases (show u=KU b from r); rfl
 | int i=>obtain ⟨t,e⟩:=(show ∃ t,u=Lz i t from r); cases e; rfl
 | str x=>obtain ⟨t,e⟩:=(show ∃ t,u=Mm x t from r); cases e; rfl
 | byt b=>obtain ⟨t,e⟩:=(show ∃ t,u=Value.bytes b t from r); cases e; rfl
 | flt b=>obtain ⟨t,e⟩:=(show ∃ t,u=Value.float b t from r); cases e; rfl
 | ref a=>cases (show u=FS a from r); rfl
 | ty n=>cases (show u=IA n from r); rfl
section
variable {P:Gi} {w:GF} {H H':Hp} {h h':HM} {a C dx:FD} {fs fs':List (Str × V)}
theorem jB (hok:dm P w H h) (e:H a=some (.ins C dx fs)):∃ mA,kA h a dx C mA/\(∀ f,gN (fs.lookup f) (mA f))/\Mc mA (fs.map (·.1))/\fs.length<=1000/\H dx=some (.own a):=by
 obtain ⟨d,z,ne,ob,mA,n,r,q⟩:=(show cf P w H h a (.ins C dx fs) from hok a _ e)
 exact ⟨mA,⟨ob,n,ne⟩,r,q,z,d⟩
end
structure Cls (K:FW) (C:FD):Prop where
 pg:Ke K C Str.empty=true
 hd:KZ K C=true
 po:PySem.W.plainOver K C=true
 sa:HQ K (.ref C) "__setattr__" = some (some (.builtin "object.__setattr__"))
theorem Cls.get {K:FW} {C:FD} (c:Cls K C) (f:Str):Ke K C f=true:=c.pg
def NoAttr (K:FW) (C:FD) (f:Str):Prop:=HQ K (.ref C) f=some none
theorem NoAttr.taker {K:FW} {C:FD} {f:Str} (n:NoAttr K C f):LA K C f=some none:=by
 unfold LA
 rw [show HQ K (.ref C) f=some none from n]
 rfl
structure Meth (K:FW) (C:FD) (m:Str) (f:FD):Prop where
 at_:HQ K (.ref C) m=some (some (.ref f))
 fn:Md K (.ref f)=true
 kp:LR K (.ref f)=true
section
variable {X:Cx} {pins:List (FD × Obj)} {σ:St} {H:Hp} {s:Fq} {a C dx:FD} {fs:List (Str × V)} {f:Str} {v:V} {A:GG} {E:Fk->Fq->Prop}
theorem rb {b:Bool} {Q:Fk->Fq->Prop} (I:Inv X pins σ H s) (e:H a=some (.ins C dx fs)) (c:Cls X.K C) (n:NoAttr X.K C f) (l:fs.lookup f=some v)
  (h:∀ u s',Inv X pins σ H s'->RelV v u->Q u s'):wpAny (model X.prog X.w) A (getAttr (.ref a) f b) Q E s:=by
 obtain ⟨mA,O,r,_,_,_⟩:=jB I.hok e
 obtain ⟨u,hu,ru⟩:=gN.some_of (v:=v) (o:=mA f) (by rw [<- l]; exact r f)
 exact get_map I.kIn O (c.get f) c.hd n hu (uR ru) (h u _ (I.tok _) ru)
theorem iD {m:Str} {g:FD} {pl:Sem Bool} {Q:Fk × List Fk->Fq->Prop} (I:Inv X pins σ H s) (e:H a=some (.ins C dx fs)) (c:Cls X.K C) (k:Meth X.K C m g) (l:fs.lookup m=none)
  (h:Q (.ref g,[.ref a]) s):wpAny (model X.prog X.w) A (getMethod (.ref a) m pl) Q E s:=by
 obtain ⟨mA,O,r,_,_,_⟩:=jB I.hok e
 have hn:mA m=none:=gN.none_of (by rw [<- l]; exact r m)
 exact vZ I.kIn O (c.get m) k.at_ k.fn hn h
theorem tE {y:V} {u:Fk} {Q:Unit->Fq->Prop} (I:Inv X pins σ H s) (e:H a=some (.ins C dx fs)) (c:Cls X.K C) (n:NoAttr X.K C f) (hl:fs.length < 1000) (ry:RelV y u)
  (h:∀ s',Inv X pins σ (upd H a (.ins C dx (dG f y fs))) s'->Q () s'):wpAny (model X.prog X.w) A (setAttr (.ref a) f u) Q E s:=by
 obtain ⟨mA,O,r,wi,_,ho⟩:=jB I.hok e
 have hz:(fs.map (·.1)).length<=sizeLine:=by rw [Do,G3]; lia
 refine yf I.kIn O c.sa c.po n.taker c.hd wi hz fun h' O' sb=>h _ ?_
 have hd:∃ o,h'.get? dx=some o:=let ⟨o,_,_,e',_⟩:=O'.ns; ⟨o,e'⟩
 refine I.write (x:=a) (e:=dx) (by rw [e]; exact Ks) (.inr ho) (fun b q hb z=>(sb.2 b hb).trans z) hd ?_
 refine ⟨by rw [upd_ne O.ne]; exact ho,?_,O.ne,O'.obj,_,O'.ns,fun g=>?_,fun g hg=>?_⟩
 ·have:=jG f y fs; lia
 ·show gN ((dG f y fs).lookup g) (if g=f then some u else mA g)
  rw [cO]
  by_cases q:g=f
  ·rw [if_pos q,if_pos q]; exact ry
  ·rw [if_neg q,if_neg q]; exact r g
 ·by_cases q:g=f
  ·rw [q]; exact (iT f y fs).1
  ·refine (iT f y fs).2 g (wi g fun z=>hg ?_)
   show (if g=f then some u else mA g)=none
   rw [if_neg q]; exact z
theorem Inv.made (I:Inv X pins σ H s):Inv X pins σ (upd (upd H s.heap.objs.size (.own (s.heap.objs.size+1))) (s.heap.objs.size+1) (.ins C s.heap.objs.size []))
  { s with heap:=(s.heap.push Hu).push (Io C s.heap.objs.size) }:=by
 have e1:(s.heap.push Hu).get? s.heap.objs.size=some Hu:=Gc s.heap rfl
 have e2:((s.heap.push Hu).push (Io C s.heap.objs.size)).get? (s.heap.objs.size+1)=some (Io C s.heap.objs.size):=by
  have:=Gc (s.heap.push Hu) (o:=Io C s.heap.objs.size) rfl
  rwa [Hk] at this
 have e3:(s.heap.push Hu).Ns s.heap.objs.size (fun _=>none):=⟨Hu,#[],_,e1,rfl,(fun e he=>absurd he (by simp)),fun _=>rfl⟩
 have I1:=I.laid (a:=s.heap.objs.size) (o:=.own (s.heap.objs.size+1)) (h':=s.heap.push Hu) (t':=s.toks) (fun b u q=>Ft _ q) (Fy _) ⟨_,e1⟩
 refine I1.laid (a:=s.heap.objs.size+1) (o:=.ins C s.heap.objs.size []) (t':=s.toks) (fun b u q=>Ft _ q) (Nat.le_of_eq (Hk _ _)) ?_
 have ne:s.heap.objs.size≠s.heap.objs.size+1:=Gk (JE _)
 refine ⟨by rw [upd_ne ne,upd_same],FI _,ne,e2,fun _=>none,(Heap.Ns1.of_empty e3).at fun o q=>Ft _ q,fun _=>Ks,fun y hy=>absurd rfl hy⟩
theorem x8 {prog:Gi} {w:GF} {env:Env} {e:II} {f:Str} {pos:Pos} {s:Fq} {Q:Fk->Fq->Prop} (hb:attributeBase e f env (eval e env)=eval e env)
  (h:wpAny (model prog w) A (eval e env) (fun o s₁=>wpAny (model prog w) A (getAttr o f true) Q E s₁) E s):wpAny (model prog w) A (eval (.Attribute e f pos) env) Q E s :=
 Attribute_any_ h (by rw [arm_eval_Attribute,hb])
end
noncomputable def Eh (K:FW) (ta:TE) (f:Str):TE:=fun σ H Q=>ta σ H fun x H1=>∃ a C dx fs v,x = .ref a/\H1 a=some (.ins C dx fs)/\Cls K C/\NoAttr K C f/\fs.lookup f=some v/\Q v H1
noncomputable def EK (K:FW) (ta tv:TE) (f:Str):TS:=fun D σ H=>tv σ H fun y H1=>ta σ H1 fun x H2=>∃ a C dx fs,x = .ref a/\H2 a=some (.ins C dx fs)/\Cls K C/\NoAttr K C f/\fs.length < 1000 /\
 D.nx σ (upd H2 a (.ins C dx (dG f y fs)))
section
variable {X:Cx} {o e value:II} {f:Str} {pos pos' tpos:Pos} {ta tv:TE}
theorem lr (he:PE X e ta) (hb:attributeBase e f X.env (eval e X.env)=eval e X.env):PE X (.Attribute e f pos) (Eh X.K ta f):=by
 intro pins s σ H Q I h
 refine x8 hb (aI (he pins s σ H _ I h) fun u s1 hZ=>?_)
 obtain ⟨x,H1,I1,rx,a,C,dx,fs,v,ex,ea,c,n,l,q⟩:=hZ
 subst ex
 obtain rfl:u=FS a:=rx
 exact rb I1 ea c n l fun u' s2 I2 ru=>⟨v,H1,I2,ru,q⟩
theorem uD (ha:PE X o ta) (hv:PE X value tv) (hs:swapsWith value (some (.Attribute o f pos')) pos.line X.env=pure false):PS X (.Assign [.Attribute o f pos'] value pos) (EK X.K ta tv f):=by
 intro pins s σ H D I h
 refine plainObj_wpAny_Assign_Attribute (aI (hv pins s σ H _ I h) fun u s1 ⟨y,H1,I1,ry,q⟩=>aI (ha pins s1 σ H1 _ I1 q) fun ov s2 hZ=>?_) hs
 obtain ⟨x,H2,I2,rx,a,C,dx,fs,ex,ea,c,n,l,q2⟩:=hZ
 subst ex
 obtain rfl:ov=FS a:=rx
 exact tE I2 ea c n l ry fun s3 I3=>⟨σ,_,I3,q2⟩
theorem CP {pl:Sem Bool} {m:Str} {apos:Pos} {args:List II} {pins:List (FD × Obj)} {s:Fq} {σ:St} {H:Hp} {Q:Fk->Fq->Prop} {te:TE} (he:PE X e te) (I:Inv X pins σ H s)
  (h:te σ H fun x H1=>∃ a C dx fs g,x = .ref a/\H1 a=some (.ins C dx fs)/\Cls X.K C/\Meth X.K C m g/\fs.lookup m=none /\
   ∀ s1,Inv X pins σ H1 s1->wpAny (model X.prog X.w) X.A (callWith pos (.ref g) [.ref a] (backTo pos (starEach args X.env)) (backToKw pos (keywordEach [] X.env))) Q X.xe s1)
  (ht:eval (.Call (.Attribute e m apos) args [] pos) X.env=(do
   let ov <- eval e X.env
   standAt apos.atName
   let (f,first) <- holding [ov] (getMethod ov m pl)
   callWith pos f first (backTo pos (starEach args X.env)) (backToKw pos (keywordEach [] X.env)))) :
  wpAny (model X.prog X.w) X.A (eval (.Call (.Attribute e m apos) args [] pos) X.env) Q X.xe s:=by
 refine J8 (pl:=pl) (aI (he pins s σ H _ I h) fun u s1 hZ=>?_) ht
 obtain ⟨x,H1,I1,rx,a,C,dx,fs,g,ex,ea,c,k,l,q⟩:=hZ
 subst ex
 obtain rfl:u=FS a:=rx
 exact iD I1 ea c k l (q s1 I1)
end
section
variable {X:Cx} {pins:List (FD × Obj)} {σ:St} {H:Hp} {s:Fq} {A:GG} {E:Fk->Fq->Prop} {Q:Fk->Fq->Prop} {c:Fk} {b:Bool}
inductive eL (K:FW) (H:Hp):V->Fk->Prop where
 | non:eL K H .non (.type "NoneType")
 | bl (x:Bool):eL K H (.bl x) (.type "bool")
 | int (i:Int):eL K H (.int i) (.type "int")
 | str (x:Str):eL K H (.str x) (.type "str")
 | flt (x:UInt64):eL K H (.flt x) (.type "float")
 | lst {a:FD} {xs:List V} (e:H a=some (.lst xs)):eL K H (.ref a) (.type "list")
 | frz {a:FD} {o:Obj} {xs:List V} (e:H a=some (.frz o (.lst xs))):eL K H (.ref a) (.type "list")
 | tup {a:FD} {xs:List V} (e:H a=some (.tup xs)):eL K H (.ref a) (.type "tuple")
 | dK {a:FD} {kvs:List (Key × V)} (e:H a=some (.dK kvs)):eL K H (.ref a) (.type "dict")
 | dT {a:FD} {kvs:List (List Key × V)} (e:H a=some (.dT kvs)):eL K H (.ref a) (.type "dict")
 | ins {a C dx:FD} {fs:List (Str × V)} (e:H a=some (.ins C dx fs)) (cl:Cls K C) (ha:HQ K (.ref C) "__class__" = some (some (.builtin "object.__class__")))
   (hn:PySem.W.specialIn K (.builtin "object.__class__") "__get__" = some (some (.builtin "getset_descriptor.__get__"))) (htk:PySem.W.takesIn K (.builtin "object.__class__")=some true)
   (hm:PySem.W.mroIn K C (.type "object")=some true):eL K H (.ref a) (.ref C)
theorem vD {x:V} {u t:Fk} (I:Inv X pins σ H s) (rx:RelV x u) (ty:eL X.K H x t) (e:PySem.W.kitOne X.K t c=some b) (h:∀ tk,Q (.bool b) { s with toks:=tk }) :
  wpAny (model X.prog X.w) A (call (.builtin "isinstance") [u,c]) Q E s:=by
 cases ty with
 | non=>cases (show u=Ht from rx); exact Hm PySem.W.kitx_none I.kIn Ks e (fun z=>nomatch z) h
 | bl y=>cases (show u=KU y from rx); exact Hm PySem.W.kitx_bool I.kIn Ks e (fun z=>nomatch z) h
 | int i=>obtain ⟨t,q⟩:=(show ∃ t,u=Lz i t from rx); cases q; exact Hm PySem.W.kitx_int I.kIn Ks e (fun z=>nomatch z) h
 | str y=>obtain ⟨t,q⟩:=(show ∃ t,u=Mm y t from rx); cases q; exact Hm PySem.W.kitx_str I.kIn Ks e (fun z=>nomatch z) h
 | flt y=>obtain ⟨t,q⟩:=(show ∃ t,u=Value.float y t from rx); cases q; exact Hm PySem.W.kitx_float I.kIn Ks e (fun z=>nomatch z) h
 | @lst a xs ea =>
  cases (show u=FS a from rx)
  obtain ⟨_,_,n,_,h1⟩:=(show cf X.prog X.w H s.heap a (.lst xs) from I.hok a _ ea)
  exact Hm PySem.W.kitx_list I.kIn ⟨_,h1,rfl⟩ e (fun z=>nomatch z) h
 | @frz a ob xs ea =>
  cases (show u=FS a from rx)
  obtain ⟨_,_,_,n,_,h1⟩:=(show cf X.prog X.w H s.heap a (.frz ob (.lst xs)) from I.hok a _ ea)
  exact Hm PySem.W.kitx_list I.kIn ⟨_,h1,rfl⟩ e (fun z=>nomatch z) h
 | @tup a xs ea =>
  cases (show u=FS a from rx)
  obtain ⟨_,_,_,p⟩:=(show cf X.prog X.w H s.heap a (.tup xs) from I.hok a _ ea)
  obtain ⟨o,h1,h2,_⟩:=p
  exact Hm PySem.W.kitx_tuple I.kIn ⟨o,h1,h2⟩ e (fun z=>nomatch z) h
 | @dK a kvs ea =>
  cases (show u=FS a from rx)
  obtain ⟨_,_,vs,_,p⟩:=(show cf X.prog X.w H s.heap a (.dK kvs) from I.hok a _ ea)
  obtain ⟨o,es,ep,h1,h2,_⟩:=p
  exact Hm PySem.W.kitx_dict I.kIn ⟨o,h1,h2.1⟩ e (fun z=>nomatch z) h
 | @dT a kvs ea =>
  cases (show u=FS a from rx)
  obtain ⟨_,_,xs,_,o,es,ep,h1,h2,_⟩:=(show cf X.prog X.w H s.heap a (.dT kvs) from I.hok a _ ea)
  exact Hm PySem.W.kitx_dict I.kIn ⟨o,h1,h2.1⟩ e (fun z=>nomatch z) h
 | @ins a C dx fs ea cl ha hn htk hm =>
  cases (show u=FS a from rx)
  obtain ⟨mA,O,_⟩:=jB I.hok ea
  obtain ⟨od,J,_⟩:=O.look
  exact Hm (PySem.W.kitx_own (cl.get _) cl.hd ha hn htk hm) I.kIn J e (fun z=>nomatch z) h
end
end L2
namespace L2
open PySem PySem.Spec PyProof.Rows
structure bI (k:Nat) (A:GG):Prop where
 hd:A.handled=none
 dp:A.depth+3*k+5 < recursionLimit
 un:A.units+16*k+200 < cLine
theorem bI.mono {j k:Nat} {A:GG} (r:bI k A) (h:j<=k):bI j A:=⟨r.hd,by have:=r.dp; lia,by have:=r.un; lia⟩
theorem bI.deeper {k:Nat} {A:GG} (r:bI (k+1) A) (env:Env):bI k (A.deeper env) :=
 ⟨r.hd,by have:=r.dp; show A.depth+1+3*k+5 < _; lia,by have:=r.un; show A.units+3+16*k+200 < _; lia⟩
theorem tK {A:GG} {C:FD} {us:List Fk} {kw:List (Str × Fk)}:(A.under (.builtin "type.__call__" ⟨.ref C::us,kw⟩)).depth=A.depth+1:=by
 first | rfl | simp [Me,Code.weight,Code.isCreation,Code.isGuard,Code.isCaller,Code.frames,Mf,guardIds]
theorem sS {A:GG} {C:FD} {us:List Fk} {kw:List (Str × Fk)}:(A.under (.builtin "type.__call__" ⟨.ref C::us,kw⟩)).units=A.units+1:=by
 first | rfl | simp [Me,Code.cUnits,Code.frames,Mf]
theorem bI.make {k:Nat} {A:GG} (r:bI (k+1) A) (C:FD) (us:List Fk) (kw:List (Str × Fk)):bI k (A.under (.builtin "type.__call__" ⟨.ref C::us,kw⟩)) :=
 ⟨r.hd,by have:=r.dp; rw [tK]; lia,by have:=r.un; rw [sS]; lia⟩
theorem bI.depth {k:Nat} {A:GG} (r:bI k A):A.depth < recursionLimit:=by have:=r.dp; lia
theorem bI.units {k:Nat} {A:GG} (r:bI k A):A.units+64 < cLine:=by have:=r.un; lia
noncomputable def kz:TA:=fun _ H Q=>Q [] H
noncomputable def xN (ta:TE) (tr:TA):TA:=fun σ H Q=>ta σ H fun x H1=>tr σ H1 fun xs H2=>Q (x::xs) H2
section
variable {X:Cx} {e:II} {es:List II} {te:TE} {t:TA} {pos:Pos}
theorem ab:PA X [] kz:=fun _ _ _ _ H Q I h=>J0 ⟨[],H,I,.nil,h⟩
theorem aa (ha:PE X e te) (hr:PA X es t) (hs:starEach (e::es) X.env=(false,eval e X.env)::starEach es X.env:=by rfl):PA X (e::es) (xN te t):=by
 intro pos pins s σ H Q I h
 rw [hs]
 show wpAny _ _ (spliced ((false,eval e X.env)::backTo pos (starEach es X.env))) _ _ s
 refine JO (aI (ha pins s σ H _ I h) fun u s1 ⟨x,H1,I1,r1,q1⟩=>?_)
 exact aI (hr pos pins s1 σ H1 _ I1 q1) fun us s2 ⟨xs,H2,I2,r2,q2⟩=>⟨x::xs,H2,I2,.cons r1 r2,q2⟩
noncomputable def Eb (t:TA):TE:=fun σ H Q=>t σ H fun xs H1=>xs.length<=sizeLine/\∀ p,H1 p=none->Q (.ref p) (upd H1 p (.tup xs))
noncomputable def D8 (t:TA):TE:=fun σ H Q=>t σ H fun xs H1=>xs.length<=sizeLine/\∀ p,H1 p=none->Q (.ref p) (upd H1 p (.lst xs))
theorem aY {x1} (h:PA X es t):PE X (.Tuple es x1 pos) (Eb t):=by
 intro pins s σ H Q I hq
 refine wpAny_Tuple_spliced (aI (h pos pins s σ H _ I hq) fun us s1 ⟨xs,H1,I1,r,z,q⟩=>⟨by rw [<- r.length]; exact z,?_⟩)
 have hf:H1 s1.heap.objs.size=none:=I1.hok.fresh (Fy _)
 refine ⟨.ref s1.heap.objs.size,upd H1 s1.heap.objs.size (.tup xs),I1.laid (t':=s1.toks) (fun b u e=>Ft _ e) (Fy _) ?_,rfl,q _ hf⟩
 exact ⟨z,us,r,⟨_,Gc _ rfl,rfl,_,rfl⟩⟩
theorem bj (h:PA X es t):PE X (.List es pos) (D8 t):=by
 intro pins s σ H Q I hq
 refine wpAny_List_spliced (aI (h pos pins s σ H _ I hq) fun us s1 ⟨xs,H1,I1,r,z,q⟩=>⟨by rw [<- r.length]; exact z,?_⟩)
 have hf:H1 s1.heap.objs.size=none:=I1.hok.fresh (Fy _)
 refine ⟨.ref s1.heap.objs.size,upd H1 s1.heap.objs.size (.lst xs),I1.laid (t':=s1.toks) (fun b u e=>Ft _ e) (Fy _) ?_,rfl,q _ hf⟩
 exact ⟨z,us,0,r,Gc _ rfl⟩
end
noncomputable abbrev Sp:=List V->Hp->VK->XK->Prop
noncomputable abbrev fW:=List Env->Hp->Fq->XK->Fk->Fq->Prop
structure jY (P:Gi) (w:GF) (K:FW) (mg:Str->Option Fk) (base:HM) (A:GG) (outer:List Env) (s:Fq) (H:Hp):Prop where
 frames:A.frames=some outer
 mod:Mod K mg base
 bs:∀ b o,base.get? b=some o->s.heap.get? b=some o/\H b=none
 bsz:base.objs.size<=s.heap.objs.size
 funs:s.heap.FunFrames base outer
 frf:∀ b∈g8 outer,H b=none
 hok:dm P w H s.heap
 bare:K8 s.gens
def CE (outer:List Env) (P:Gi) (w:GF) (H:Hp) (s:Fq) (Q:VK) (u:Fk) (s':Fq):Prop :=
 ∃ v H',s'.os=s.os/\K8 s'.gens/\Un (g8 outer) [] H H' s.heap s'.heap/\dm P w H' s'.heap/\RelV v u/\Q v H'
def CR (CX:fW) (outer:List Env) (P:Gi) (w:GF) (H:Hp) (s:Fq) (Q:VK) (E:XK) (r:Result) (s':Fq):Prop :=
 match r with
 | .ok (.ret u)=>CE outer P w H s Q u s'
 | .ok _=>False
 | .error e=>CX outer H s E e s'
structure bL (P:Gi) (w:GF) (K:FW) (mg:Str->Option Fk) (base:HM) (CX:fW) (k:Nat) (f:FD) (fd:G7) (ps:List Str) (sp:Sp):Prop where
 len:∀ vs H Q E,sp vs H Q E->vs.length=ps.length
 run:∀ (A:GG) (outer:List Env) (s:Fq) (H:Hp) (args:Args) (us:List Fk) (vs:List V) (Q:VK) (E:XK),bI k A->jY P w K mg base A outer s H->BindsTo s fd args (ps.zip us)->Vals vs us->sp vs H Q E ->
  codeAny (model P w) A (.call (.ref f) args) (CR CX outer P w H s Q E) s
theorem bL.mono {P:Gi} {w:GF} {K:FW} {mg:Str->Option Fk} {base:HM} {CX:fW} {j k:Nat} {f:FD} {fd:G7} {ps:List Str} {sp:Sp} (F:bL P w K mg base CX j f fd ps sp) (h:j<=k) :
  bL P w K mg base CX k f fd ps sp:=⟨F.len,fun A outer s H args us vs Q E hr=>F.run A outer s H args us vs Q E (hr.mono h)⟩
theorem jY.make {P:Gi} {w:GF} {K:FW} {mg:Str->Option Fk} {base:HM} {A:GG} {outer:List Env} {s:Fq} {H:Hp} (e:jY P w K mg base A outer s H) (C:FD) (us:List Fk) (kw:List (Str × Fk)) :
  jY P w K mg base (A.under (.builtin "type.__call__" ⟨.ref C::us,kw⟩)) outer s H:=⟨by first | exact e.frames | (simpa [Me,Code.envs,Mf,pushEnvs] using e.frames),e.mod,e.bs,e.bsz,e.funs,e.frf,e.hok,e.bare⟩
section
variable {X:Cx} {pins:List (FD × Obj)} {σ:St} {H:Hp} {s s':Fq}
theorem Inv.env0 (I:Inv X pins σ H s):jY X.prog X.w X.K X.mg X.base X.A X.stack s H :=
 ⟨I.ok.frames,I.ok.mod,I.bs,GM I.ok.bsz I.sz,I.stack,I.stkFree,I.hok,I.bare⟩
theorem Inv.after {Q:VK} {u:Fk} (I:Inv X pins σ H s) (h:CE X.stack X.prog X.w H s Q u s'):EP X pins σ Q u s':=by
 obtain ⟨v,H',os,bare,un,hok,r,q⟩:=h
 obtain ⟨hh,g,d,t,os'⟩:=s'
 obtain rfl:os'=s.os:=os
 exact ⟨v,H',I.call (h':=hh) (g':=g) (d':=d) (t':=t) (ch:=[]) un hok bare (fun b z=>absurd z (by simp)),r,q⟩
end
noncomputable def sI (sp:Sp) (dvs:List V) (E:XK) (t:TA):TE:=fun σ H Q=>t σ H fun vs H1=>sp (vs++dvs) H1 Q E
noncomputable def kQ (C:FD) (m:Str) (sp:Sp) (dvs:List V) (E:XK) (ta:TE) (t:TA):TE:=fun σ H Q=>ta σ H fun x H1=>∃ a dx fs,x = .ref a/\H1 a=some (.ins C dx fs)/\fs.lookup m=none /\
 t σ H1 fun vs H2=>sp (x::(vs++dvs)) H2 Q E
noncomputable def xQ (C:FD) (sp:Sp) (dvs:List V) (E:XK) (t:TA):TE:=fun σ H Q=>t σ H fun vs H1=>∀ x dx,H1 x=none->H1 dx=none->dx≠x ->
 sp (.ref x::(vs++dvs)) (upd (upd H1 dx (.own x)) x (.ins C dx [])) (fun v H2=>v = .non/\Q (.ref x) H2) E
def Binds (K:FW) (fd:G7) (ps:List Str) (ds:List Fk):Prop :=
 ∀ (s:Fq) (us:List Fk),K.In s.heap->(us++ds).length=ps.length->BindsTo s fd ⟨us,[]⟩ (ps.zip (us++ds))
theorem Binds.all {K:FW} {fd:G7} {ps:List Str} (h:∀ us:List Fk,us.length=ps.length->bindArgs fd ⟨us,[]⟩=pure (ps.zip us)):Binds K fd ps []:=fun s us _ hl=>by
 rw [Gj] at hl |-
 exact .of_eq (h us hl)
def Passes (CX:fW) (X:Cx) (E:XK):Prop:=∀ (pins:List (FD × Obj)) (σ:St) (H:Hp) (s:Fq) (e:Fk) (s':Fq),Inv X pins σ H s->CX X.stack H s E e s'->X.xe e s'
section
variable {X:Cx} {CX:fW} {k:Nat} {f C:FD} {fd:G7} {ps:List Str} {sp:Sp} {dvs:List V} {ds:List Fk} {E:XK} {x m:Str} {p pos apos:Pos} {e o:II} {es:List II} {ta:TE} {t:TA}
theorem kE {pins:List (FD × Obj)} {σ:St} {H:Hp} {s:Fq} {Q:VK} {us:List Fk} {vs:List V} (F:bL X.prog X.w X.K X.mg X.base CX k f fd ps sp) (hr:bI k X.A) (hb:Binds X.K fd ps ds) (hd:Vals dvs ds) (hx:Passes CX X E)
  (I:Inv X pins σ H s) (r:Vals vs us) (h:sp (vs++dvs) H Q E):wpAny (model X.prog X.w) X.A (call (.ref f) us) (EP X pins σ Q) X.xe s:=by
 have r2:Vals (vs++dvs) (us++ds):=r.append hd
 have hl:(us++ds).length=ps.length:=by rw [<- r2.length]; exact F.len _ _ _ _ h
 refine wpAny_call (JM (F.run X.A X.stack s H ⟨us,[]⟩ (us++ds) (vs++dvs) Q E hr I.env0 (hb s us I.kIn hl) r2 h) fun r s' hq=>?_)
 cases r with
 | error e=>exact hx pins σ H s e s' I hq
 | ok fl =>
  cases fl with
  | ret u=>exact I.after hq
  | next=>exact Il hq
  | brk=>exact Il hq
  | cont=>exact Il hq
theorem yT (F:bL X.prog X.w X.K X.mg X.base CX k f fd ps sp) (hr:bI k X.A) (hg:Gl X x) (hm:X.mg x=some (.ref f)) (hk:LR X.K (.ref f)=true) (hb:Binds X.K fd ps ds) (hd:Vals dvs ds) (hx:Passes CX X E)
  (ha:PA X (e::es) t) (hdb:(x == ("__debug__" : Str))=false:=by decide) (he:starEach (e::es) X.env=(false,eval e X.env)::starEach es X.env:=by rfl) (hpl:(backTo pos (starEach es X.env)).any (·.1)=false:=by rfl) :
  PE X (.Call (.Name x p) (e::es) [] pos) (sI sp dvs E t):=by
 intro pins s σ H Q I h
 refine HD (jv I hg hm ?_ hdb)
 refine L3 (h₀:=X.base) I.ok.mod.kin hk (aI (ha pos pins s σ H _ I h) fun us s1 ⟨vs,H1,I1,r,q⟩=>⟨I1.kIn,?_⟩) he hpl
 exact kE F hr hb hd hx I1 r q
theorem yE {pl:Sem Bool} (he:PE X o ta) (c:Cls X.K C) (hm:Meth X.K C m f) (F:bL X.prog X.w X.K X.mg X.base CX k f fd ps sp) (hr:bI k X.A) (hb:Binds X.K fd ps ds) (hd:Vals dvs ds) (hx:Passes CX X E) (ha:PA X (e::es) t)
  (hst:starEach (e::es) X.env=(false,eval e X.env)::starEach es X.env:=by rfl) (hpl:(backTo pos (starEach es X.env)).any (·.1)=false:=by rfl)
  (ht:eval (.Call (.Attribute o m apos) (e::es) [] pos) X.env=(do
   let ov <- eval o X.env
   standAt apos.atName
   let (f,first) <- holding [ov] (getMethod ov m pl)
   callWith pos f first (backTo pos (starEach (e::es) X.env)) (backToKw pos (keywordEach [] X.env))):=by rfl) :
  PE X (.Call (.Attribute o m apos) (e::es) [] pos) (kQ C m sp dvs E ta t):=by
 intro pins s σ H Q I h
 refine J8 (pl:=pl) (aI (he pins s σ H _ I h) fun u s1 hZ=>?_) ht
 obtain ⟨x,H1,I1,rx,a,dx,fs,ex,ea,l,q⟩:=hZ
 subst ex
 obtain rfl:u=FS a:=rx
 refine iD I1 ea c hm l ?_
 refine L3 (first:=[.ref a]) (h₀:=X.base) I.ok.mod.kin hm.kp (aI (ha pos pins s1 σ H1 _ I1 q) fun us s2 ⟨vs,H2,I2,r,q2⟩=>⟨I2.kIn,?_⟩) hst hpl
 exact kE (us:=.ref a::us) (vs:=.ref a::vs) F hr hb hd hx I2 (.cons rfl r) q2
theorem wV {pl:Sem Bool} (he:PE X o ta) (c:Cls X.K C) (hm:Meth X.K C m f) (F:bL X.prog X.w X.K X.mg X.base CX k f fd ps sp) (hr:bI k X.A) (hb:Binds X.K fd ps ds) (hd:Vals dvs ds) (hx:Passes CX X E)
  (ht:eval (.Call (.Attribute o m apos) [] [] pos) X.env=(do
   let ov <- eval o X.env
   standAt apos.atName
   let (f,first) <- holding [ov] (getMethod ov m pl)
   callWith pos f first (backTo pos (starEach [] X.env)) (backToKw pos (keywordEach [] X.env))):=by rfl) :
  PE X (.Call (.Attribute o m apos) [] [] pos) (kQ C m sp dvs E ta kz):=by
 intro pins s σ H Q I h
 refine J8 (pl:=pl) (aI (he pins s σ H _ I h) fun u s1 hZ=>?_) ht
 obtain ⟨x,H1,I1,rx,a,dx,fs,ex,ea,l,q⟩:=hZ
 subst ex
 obtain rfl:u=FS a:=rx
 refine iD I1 ea c hm l ?_
 exact LV (first:=[.ref a]) I1.kIn hm.kp (kE (us:=[.ref a]) (vs:=[.ref a]) F hr hb hd hx I1 (.cons rfl .nil) q)
structure Mk (K:FW) (C f:FD):Prop where
 makes:PySem.W.makesIn K C=true
 init:HQ K (.ref C) "__init__" = some (some (.ref f))
 fn:Md K (.ref f)=true
 kp:LR K (.ref C)=true
theorem wD {pins:List (FD × Obj)} {σ:St} {H:Hp} {s:Fq} {Q:VK} {us:List Fk} {vs:List V} (M:Mk X.K C f) (F:bL X.prog X.w X.K X.mg X.base CX k f fd ps sp) (hr:bI (k+1) X.A) (hb:Binds X.K fd ps ds) (hd:Vals dvs ds)
  (hx:Passes CX X E) (I:Inv X pins σ H s) (r:Vals vs us)
  (h:∀ x dx,H x=none->H dx=none->dx≠x->sp (.ref x::(vs++dvs)) (upd (upd H dx (.own x)) x (.ins C dx [])) (fun v H2=>v = .non/\Q (.ref x) H2) E) :
  wpAny (model X.prog X.w) X.A (call (.ref C) us) (EP X pins σ Q) X.xe s:=by
 have hq:=h (s.heap.objs.size+1) s.heap.objs.size (I.hok.fresh (IJ _)) (I.hok.fresh (Fy _)) (Gk (JE _))
 have I2:=Inv.made (C:=C) I
 have r2:Vals (V.ref (s.heap.objs.size+1)::(vs++dvs)) (FS (s.heap.objs.size+1)::(us++ds)):=.cons rfl (r.append hd)
 have hl:(FS (s.heap.objs.size+1)::us++ds).length=ps.length:=by
  have e:=r2.length
  rw [F.len _ _ _ _ hq] at e
  exact e.symm
 refine wpAny_call (we (f:=f) I.kIn M.makes M.init (beq_iff_eq.mp M.fn) (JM (F.run _ X.stack _ _ ⟨FS (s.heap.objs.size+1)::us,[]⟩ (FS (s.heap.objs.size+1)::(us++ds)) _ _ E (hr.make C us [])
  (I2.env0.make C us []) (hb _ (FS (s.heap.objs.size+1)::us) I2.kIn hl) r2 hq) fun r s' hq'=>?_))
 cases r with
 | error e=>exact hx pins σ _ _ e s' I2 hq'
 | ok fl =>
  cases fl with
  | ret u =>
   obtain ⟨v,H',I3,rv,ev,q3⟩:=I2.after hq'
   subst ev
   exact ⟨rv,⟨V.ref (s.heap.objs.size+1),H',I3,rfl,q3⟩⟩
  | next=>exact Il hq'
  | brk=>exact Il hq'
  | cont=>exact Il hq'
theorem vS (M:Mk X.K C f) (F:bL X.prog X.w X.K X.mg X.base CX k f fd ps sp) (hr:bI (k+1) X.A) (hg:Gl X x) (hm:X.mg x=some (.ref C)) (hb:Binds X.K fd ps ds) (hd:Vals dvs ds) (hx:Passes CX X E)
  (hdb:(x == ("__debug__" : Str))=false:=by decide):PE X (.Call (.Name x p) [] [] pos) (xQ C sp dvs E kz):=by
 intro pins s σ H Q I h
 refine HD (jv I hg hm ?_ hdb)
 exact LV I.kIn M.kp (wD (us:=[]) M F hr hb hd hx I .nil h)
end
def PK (X:Cx) (kws:List Keyword) (t:TA):Prop :=
 ∀ (pos:Pos) (pins:List (FD × Obj)) (s:Fq) (σ:St) (H:Hp) (Q:List V->Hp->Prop),Inv X pins σ H s->t σ H Q->wpAny (model X.prog X.w) X.A (evalAll ((backToKw pos (keywordEach kws X.env)).map (·.2))) (AP X pins σ Q) X.xe s
section
variable {X:Cx} {CX:fW} {k:Nat} {f C:FD} {fd:G7} {ps ks:List Str} {sp:Sp} {E:XK} {x m:Str} {p pos apos kpos:Pos} {e o:II} {es:List II} {kws:List Keyword} {te ta:TE} {t tk:TA} {nm:Option Str}
theorem A7:PK X [] kz:=fun _ _ _ _ H Q I h=>wpAny_evalAll_nil ⟨[],H,I,.nil,h⟩
theorem ye (ha:PE X e te) (hr:PK X kws t):PK X (⟨nm,e,kpos⟩::kws) (xN te t):=by
 intro pos pins s σ H Q I h
 show wpAny _ _ (evalAll ((do let v <- eval e X.env; standAt pos; pure v)::(backToKw pos (keywordEach kws X.env)).map (·.2))) _ _ s
 refine wpAny_evalAll_cons (mo (aI (ha pins s σ H _ I h) fun u s1 ⟨x,H1,I1,r1,q1⟩=>mo (La (Fv ?_))))
 exact aI (hr pos pins s1 σ H1 _ I1 q1) fun us s2 ⟨xs,H2,I2,r2,q2⟩=>⟨x::xs,H2,I2,.cons r1 r2,q2⟩
variable {g:List Fk->List Fk->List Fk} {gV:List V->List V->List V}
end
structure au (N P:List Str) (sc:KG):Prop where
 kind:sc.kind = .function
 co:sc.isCoroutine=false
 gen:sc.isGenerator=false
 nd:N.Nodup
 pre:N.take P.length=P
 par:∀ x∈P,sc.names.lookup x=some .local\/sc.names.lookup x=some .cell
 nofree:∀ y∈sc.names,y.2≠.free
theorem mW {kindOf:Str->Option LN} {x:Str}:∀ {binds:List (Str × Fk)} {m:Str->Option Fk},(∀ v,(x,v)∉binds)->bindL kindOf binds m x=m x
 | [],_,_=>rfl
 | (n,v)::r,m,h=>by
  unfold bindL
  rw [mW fun w hw=>h w (FE _ hw)]
  split
  ·have:x≠n:=by rintro rfl; exact h v Ge
   simp [this]
  ·rfl
theorem mC {kindOf:Str->Option LN} {x:Str}:∀ {binds:List (Str × Fk)} {m:Str->Option Fk},(∀ v,(x,v)∉binds)->bindC kindOf binds m x=m x
 | [],_,_=>rfl
 | (n,v)::r,m,h=>by
  unfold bindC
  rw [mC fun w hw=>h w (FE _ hw)]
  split
  ·rfl
  ·have:x≠n:=by rintro rfl; exact h v Ge
   simp [this]
theorem mR {kindOf:Str->Option LN} {x:Str} {v:Fk}:∀ {P:List Str} {vs:List Fk} {i:Nat} {m:Str->Option Fk},P.Nodup->P[i]? = some x->vs[i]? = some v->kindOf x=some .local ->
  bindL kindOf (P.zip vs) m x=some v
 | [],_,_,_,_,h,_,_=>by simp at h
 | _::_,[],_,_,_,_,h,_=>by simp at h
 | p::P,w::vs,0,m,nd,h1,h2,hk=>by
  simp at h1 h2; subst h1; subst h2
  show bindL kindOf ((p,w)::P.zip vs) m p=_
  unfold bindL
  rw [mW fun v hv=>(G9.mp nd).1 (LB hv).1,if_pos hk]
  simp
 | p::P,w::vs,i+1,m,nd,h1,h2,hk=>by
  show bindL kindOf ((p,w)::P.zip vs) m x=_
  unfold bindL
  exact mR (i:=i) (G9.mp nd).2 (by simpa using h1) (by simpa using h2) hk
theorem mX {kindOf:Str->Option LN} {x:Str} {v:Fk}:∀ {P:List Str} {vs:List Fk} {i:Nat} {m:Str->Option Fk},P.Nodup->P[i]? = some x->vs[i]? = some v->kindOf x≠some .local ->
  bindC kindOf (P.zip vs) m x=some v
 | [],_,_,_,_,h,_,_=>by simp at h
 | _::_,[],_,_,_,_,h,_=>by simp at h
 | p::P,w::vs,0,m,nd,h1,h2,hk=>by
  simp at h1 h2; subst h1; subst h2
  show bindC kindOf ((p,w)::P.zip vs) m p=_
  unfold bindC
  rw [mC fun v hv=>(G9.mp nd).1 (LB hv).1,if_neg hk]
  simp
 | p::P,w::vs,i+1,m,nd,h1,h2,hk=>by
  show bindC kindOf ((p,w)::P.zip vs) m x=_
  unfold bindC
  exact mX (i:=i) (G9.mp nd).2 (by simpa using h1) (by simpa using h2) hk
noncomputable def start (N:List Str) (vs:List V):St:=vs.map some++List.replicate (N.length - vs.length) none
noncomputable def lW (CX:fW) (P:Gi) (w:GF) (K:FW) (mg:Str->Option Fk) (base:HM) (N:List Str) (qual:Str) (scope:KG) (f:FD) (cd:Fk) (A:GG) (outer:List Env) (s:Fq) (H:Hp) (E:XK):Cx where
 prog:=P
 w:=w
 K:=K
 mg:=mg
 base:=base
 A:=A.deeper (envOfC qual scope s.heap.objs.size f cd)
 N:=N
 s₀:=s
 H₀:=H
 env:=envOfC qual scope s.heap.objs.size f cd
 outer:=outer
 stack:=envOfC qual scope s.heap.objs.size f cd::outer
 ex:=[]
 calm:=true
 fn:=fun _=>true
 pn:=[]
 xe:=fun e s'=>wpAny (model P w) (A.deeper (envOfC qual scope s.heap.objs.size f cd)) (leaving (envOfC qual scope s.heap.objs.size f cd) e) (fun _ s''=>CX outer H s E e s'') (fun e' s''=>CX outer H s E e' s'') s'
theorem oE {sc:KG} {n:Nat} {x:Str} (h:sc.names.lookup x=some .cell):∃ c,(cellsFrom n sc.names []).lookup x=some c:=by
 have q:=Lu sc.names n [] (.inl h)
 exact Option.isSome_iff_exists.mp q
theorem vd {CX:fW} {P:Gi} {w:GF} {K:FW} {mg:Str->Option Fk} {base:HM} {N ps:List Str} {qual:Str} {scope:KG} {f:FD} {cd:Fk} {A:GG} {outer:List Env} {s s1:Fq} {H:Hp} {E:XK} {us:List Fk} {vs:List V}
  (S:au N ps scope) (hd:A.handled=none) (e0:jY P w K mg base A outer s H) (hl:vs.length=ps.length) (r:Vals vs us)
  (x:InCallC s s.heap.objs.size (bindL (envOfC qual scope s.heap.objs.size f cd).kindOf (ps.zip us) fun _=>none) (cellsFrom (s.heap.objs.size+1) scope.names []) (bindC (envOfC qual scope s.heap.objs.size f cd).kindOf (ps.zip us) fun _=>none) s1) :
  Inv (lW CX P w K mg base N qual scope f cd A outer s H E) [] (start N vs) H s1:=by
 have hpl:ps.length<=N.length:=by have:=congrArg List.length S.pre; rw [FU] at this; lia
 obtain ⟨h1,tk,rfl,hk⟩:=x.done
 have noA:∀ b:FD,b∉(lW CX P w K mg base N qual scope f cd A outer s H E).ex:=fun b z=>absurd (show b∈([]:List FD) from z) (by simp)
 refine ⟨⟨e0.mod,S.kind,rfl,rfl,Fy _,fun y z c h1 h2=>?_,fun y hy=>?_,fun y c _ h=>?_,fun _=>hd,Around.frames_deeper e0.frames,.inr ⟨rfl,rfl⟩,fun b z=>absurd z (noA b),e0.bs,e0.bsz,fun b _ _=>noA b,fun b z=>absurd z (noA b),e0.funs,e0.frf⟩,
  rfl,e0.bare,Un.kept hk,⟨_,x.toInCall.ns,fun i y v h1 h2 h3=>?_⟩,fun y c h=>⟨_,x.cell y c h⟩,e0.hok.fresh (Fy _),fun y c h=>?_,fun p hp=>absurd (show p∈([]:List (FD × Obj)) from hp) (by simp),e0.hok.kept hk,?_⟩
 ·exact name_of_addr x.apart (IX h1) (IX h2)
 ·have hy:scope.names.lookup y=some .cell\/scope.names.lookup y=some .free:=hy
  rcases hy with hy | hy
  ·exact oE hy
  ·exact absurd rfl (S.nofree _ (IX hy))
 ·exact J6 (x.above y c (IX h))
 ·have hi:i < vs.length:=by
   unfold start at h2
   by_cases hi:i < vs.length
   ·exact hi
   ·rw [GX (by simpa using hi)] at h2
    rw [List.getElem?_replicate] at h2
    split at h2<;>cases h2
  have ha:vs[i]? = some v:=by
   unfold start at h2
   rw [Hn (by simpa using hi),GD] at h2
   cases e:vs[i]? with
   | none=>rw [e] at h2; cases h2
   | some a=>rw [e] at h2; cases h2; rfl
  obtain ⟨u,hu,rv⟩:=r.get ha
  have hp:ps[i]? = some y:=by
   rw [<- S.pre,IQ (by lia)]; exact h1
  have ndP:ps.Nodup:=by rw [<- S.pre]; exact S.nd.sublist (K0 _ _)
  refine ⟨u,rv,?_⟩
  rcases S.par y (FG hp) with k | k
  ·exact .inl ⟨k,mR ndP hp hu k⟩
  ·obtain ⟨c,e⟩:=oE (n:=s.heap.objs.size+1) k
   refine .inr ⟨.inl k,c,e,?_⟩
   have q:=x.cell y c e
   rw [mX ndP hp hu (by show scope.names.lookup y≠_; rw [k]; decide)] at q
   exact q
 ·exact e0.hok.fresh (J6 (x.above y c (IX h)))
 ·unfold start
  show _=N.length
  rw [Fw,Do,List.length_replicate]
  lia
theorem C7 {CX:fW} {P:Gi} {w:GF} {K:FW} {mg:Str->Option Fk} {base:HM} {k:Nat} {f:FD} {name qual:Str} {params:Arguments} {body:List IB} {scope:KG} {dV kV doc pm cdv ct oc:Fk} {an od:Option FD}
  {osl:Array (Option Fk)} {N ps:List Str} {sp:Sp} (lk:K.lookup f=some ⟨oc,od,.func (PySem.W.fnOf name qual params body scope dV kV doc pm an cdv ct),osl⟩) (hcd:PySem.W.codeIn K cdv qual=true) (S:au N ps scope)
  (len:∀ vs H Q E,sp vs H Q E->vs.length=ps.length)
  (hbody:∀ (A:GG) (outer:List Env) (s:Fq) (H:Hp) (vs:List V) (Q:VK) (E:XK),bI k (A.deeper (envOfC qual scope s.heap.objs.size f cdv))->sp vs H Q E ->
   ∃ t,gr (lW CX P w K mg base N qual scope f cdv A outer s H E) body t/\t { nx:=fun _ H'=>Q .non H',rt:=Q } (start N vs) H) :
  bL P w K mg base CX (k+1) f (PySem.W.fnOf name qual params body scope dV kV doc pm an cdv ct) ps sp:=by
 refine ⟨len,fun A outer s H args us vs Q E hr e0 hb r hsp=>?_⟩
 have hl:=len _ _ _ _ hsp
 have KX:K.In s.heap:=e0.mod.kin.keeps fun b o e=>(e0.bs b o e).1
 have lim:s.heap.NoLimit:=e0.mod.nolimit.keeps fun b o e=>(e0.bs b o e).1
 have hkind:∀ y∈ps.zip us,scope.names.lookup y.1=some .local\/(scope.names.lookup y.1=some .cell/\((cellsFrom (s.heap.objs.size+1) scope.names []).lookup y.1).isSome=true):=fun ⟨n,v⟩ hy=>by
  rcases S.par n (LB hy).1 with q | q
  ·exact .inl q
  ·exact .inr ⟨q,Lu _ _ _ (.inl q)⟩
 refine codeAny_call_function hr.depth (KX _ _ lk) rfl S.co S.gen rfl (PySem.W.codeRec_of KX hcd) (hb _ _ _ _ ?_)
 refine wpAny_newFunctionEnv_cells S.kind hkind fun env he s1 x=>?_
 subst he
 refine ⟨lim.keeps x.toInCall.keep,codeAny_func ?_⟩
 obtain ⟨t,ht,hq⟩:=hbody A outer s H vs Q E (hr.deeper _) hsp
 have I:Inv (lW CX P w K mg base N qual scope f cdv A outer s H E) [] (start N vs) H s1:=vd S hr.hd e0 hl r x
 refine IC (ht [] s1 (start N vs) H _ I hq) (fun fl s' hs=>?_) fun e s' hs=>hs
 have fin:∀ {σ':St} {H':Hp} {v:V} {u:Fk},Inv (lW CX P w K mg base N qual scope f cdv A outer s H E) [] σ' H' s'->RelV v u->Q v H'->CE outer P w H s Q u s' :=
  fun {σ' H' v u} J rv q=>⟨v,H',J.os,J.bare,J.base,J.hok,rv,q⟩
 cases fl with
 | ret u =>
  obtain ⟨v,σ',H',J,rv,q⟩:=hs
  exact fin J rv q
 | next =>
  obtain ⟨σ',H',J,q⟩:=hs
  exact fin (v:=V.non) (u:=Ht) J rfl q
 | brk =>
  obtain ⟨_,_,_,q⟩:=hs
  exact Il q
 | cont =>
  obtain ⟨_,_,_,q⟩:=hs
  exact Il q
end L2
namespace L2
open PySem PySem.Spec PyProof.Rows
section
variable {X:Cx} {x:Str} {p pos:Pos} {e:II} {es:List II} {t:TA} {id T:String} {r:List V->Hp->VK->Prop}
noncomputable def DT (r:List V->Hp->VK->Prop) (t:TA):TE:=fun σ H Q=>t σ H fun vs H1=>r vs H1 Q
theorem aC (hc:dk X (.builtin id) r) (hg:Gl X x) (hm:X.mg x=none) (hv:bootBuiltins x=some (.builtin id)) (ha:PA X (e::es) t) (hn:x≠"__name__":=by decide) (hdb:(x == ("__debug__" : Str))=false:=by decide)
  (he:starEach (e::es) X.env=(false,eval e X.env)::starEach es X.env:=by rfl) (hpl:(backTo pos (starEach es X.env)).any (·.1)=false:=by rfl):PE X (.Call (.Name x p) (e::es) [] pos) (DT r t):=by
 intro pins s σ H Q I h
 refine HD (dQ I hg hm hv ?_ hn hdb)
 exact J9 (aI (ha pos pins s σ H _ I h) fun us s1 ⟨vs,H1,I1,r1,q1⟩=>hc pins s1 σ H1 vs us Q I1 r1 q1) he hpl
theorem gH (hc:dk X (.type T) r) (hg:Gl X x) (hm:X.mg x=none) (hv:bootBuiltins x=some (.type T)) (ha:PA X (e::es) t) (hn:x≠"__name__":=by decide) (hdb:(x == ("__debug__" : Str))=false:=by decide)
  (he:starEach (e::es) X.env=(false,eval e X.env)::starEach es X.env:=by rfl) (hpl:(backTo pos (starEach es X.env)).any (·.1)=false:=by rfl):PE X (.Call (.Name x p) (e::es) [] pos) (DT r t):=by
 intro pins s σ H Q I h
 refine HD (dQ I hg hm hv ?_ hn hdb)
 exact GU (aI (ha pos pins s σ H _ I h) fun us s1 ⟨vs,H1,I1,r1,q1⟩=>hc pins s1 σ H1 vs us Q I1 r1 q1) he hpl
end
end L2
namespace HT
open PySem PyProof.Rows
section
open PySem.SeqAt
open PySem.AutoSeq1 (wpAny_loadPart')
open PySem.MeetsSeq PySem.MeetsSeq2 PySem.MeetsSeq3
end
section
variable {prog:Gi} {w:GF} {A:GG} {E:Fk->Fq->Prop} {s:Fq}
noncomputable def sIx (n d:Nat):Option Int->Nat
 | none=>d
 | some v=>if v < 0 then (v+(n:Int)).toNat else min v.toNat n
theorem sIx_none (n d:Nat):sIx n d none=d:=rfl
theorem sIx_nat (n d k:Nat):sIx n d (some (k:Int))=min k n:=by
 show (if (k:Int) < 0 then ((k:Int)+(n:Int)).toNat else min (k:Int).toNat n)=min k n
 rw [if_neg (by lia),GI]
end
end HT
namespace L2
open PySem PySem.Spec PyProof.Rows
noncomputable abbrev TO:=St->Hp->(Option Int->Hp->Prop)->Prop
def PO (X:Cx) (e:Option II) (t:TO):Prop :=
 ∀ (pins:List (FD × Obj)) (s:Fq) (σ:St) (H:Hp) (Q:Option Int->Hp->Prop),Inv X pins σ H s->t σ H Q ->
  wpAny (model X.prog X.w) X.A (evalPart e X.env) (fun u s'=>∃ o H',Inv X pins σ H' s'/\IsPart u o/\Q o H') X.xe s
noncomputable def yy:TO:=fun _ H Q=>Q none H
noncomputable def DM (t:TE):TO:=fun σ H Q=>t σ H fun x H1=>∃ i,x = .int i/\Q (some i) H1
theorem intsAre_of {ns:List Int}:∀ {us:List Fk},Vals (ns.map V.int) us->Ii us ns:=by
 induction ns with
 | nil=>intro us r; rw [Ka] at r; cases r; exact .nil
 | cons n ns ih =>
  intro us r
  rw [FQ] at r
  cases r with
  | cons r1 r2 =>
   obtain ⟨t,e⟩:=r1
   subst e
   exact .cons n t (ih r2)
section
variable {X:Cx} {e:II} {te:TE} {lo hi:Option II} {tl th:TO} {pos p2:Pos}
theorem eO:PO X none yy:=by
 intro pins s σ H Q I h
 rw [evalPart_none]
 exact Fv ⟨none,H,I,.none,h⟩
theorem dD (h:PE X e te):PO X (some e) (DM te):=by
 intro pins s σ H Q I hw
 rw [evalPart_some]
 refine aI (h pins s σ H _ I hw) fun u s1 ⟨x,H1,I1,r1,q1⟩=>?_
 obtain ⟨i,rfl,q⟩:=q1
 obtain ⟨t,rfl⟩:=r1
 exact ⟨some i,H1,I1,.int i t,q⟩
def Aj (X:Cx) (r:V->Option Int->Option Int->Hp->VK->Prop):Prop :=
 ∀ (pins:List (FD × Obj)) (s:Fq) (σ:St) (H:Hp) (x:V) (v vl vu:Fk) (lo hi:Option Int) (sl:FD) (Q:VK),Inv X pins σ H s->RelV x v->s.heap.IsSliceOf sl vl vu .none->IsPart vl lo->IsPart vu hi->r x lo hi H Q ->
  ∃ T id,typeLookup (.type T) "__getitem__" = pure (some (.builtin id))/\s.TypeIs v T/\wpAny (model X.prog X.w) X.A (getItem v (.ref sl)) (EP X pins σ Q) X.xe s
noncomputable def EZ (r:V->Option Int->Option Int->Hp->VK->Prop) (te:TE) (tl th:TO):TE:=fun σ H Q=>te σ H fun x H1=>tl σ H1 fun l H2=>th σ H2 fun u H3=>r x l u H3 Q
theorem di {r:V->Option Int->Option Int->Hp->VK->Prop} (hr:Aj X r) (he:PE X e te) (hl:PO X lo tl) (hu:PO X hi th):PE X (.Subscript e (.Slice lo hi none p2) pos) (EZ r te tl th):=by
 intro pins s σ H Q I h
 refine Subscript_ (aI (he pins s σ H _ I h) fun v s1 ⟨x,H1,I1,r1,q1⟩=>?_)
 refine wpAny_Slice (aI (hl pins s1 σ H1 _ I1 q1) fun vl s2 ⟨l,H2,I2,pl,q2⟩=>aI (hu pins s2 σ H2 _ I2 q2) fun vu s3 ⟨u,H3,I3,pu,q3⟩=>?_)
 rw [evalPart_none]
 refine Fv ?_
 have I4:Inv X pins σ H3 { s3 with heap:=s3.heap.push { cls:=.type "slice",data:=.fields #[vl,vu,.none] } }:=I3.kept (t':=s3.toks) fun b ob q=>Ft _ q
 obtain ⟨T,id,hT,ht,hg⟩:=hr pins { s3 with heap:=s3.heap.push { cls:=.type "slice",data:=.fields #[vl,vu,.none] } } σ H3 x v vl vu l u s3.heap.objs.size Q I4 r1 (Heap.IsSliceOf.new ..) pl pu q3
 show wpAny (model X.prog X.w) X.A (subscriptTail e (.Slice lo hi none p2) v (.ref s3.heap.objs.size)) (EP X pins σ Q) X.xe { s3 with heap:=s3.heap.push { cls:=.type "slice",data:=.fields #[vl,vu,.none] } }
 exact tail_any (ops:=[.ref s3.heap.objs.size,v]) ht hT hg (by with_unfolding_all rfl)
noncomputable def cW (xs:List V) (lo hi:Option Int):List V:=(xs.drop (HT.sIx xs.length 0 lo)).take (HT.sIx xs.length xs.length hi - HT.sIx xs.length 0 lo)
theorem pN (xs:List V) (lo hi:Option Int):(cW xs lo hi).length<=xs.length:=by
 unfold cW
 rw [FU,Hq]
 lia
end
end L2
namespace L2
open PySem PySem.Spec PyProof.Rows
noncomputable def iS (n:Nat) (i:Int):Option Nat:=if 0<=i then (if i < n then some i.toNat else none) else if -(n:Int)<=i then some (i+n).toNat else none
noncomputable def bW {α:Type} (xs:List α) (i:Int):Option α:=(iS xs.length i).bind fun j=>xs[j]?
theorem qF {n:Nat} {i:Int} {j:Nat} (h:iS n i=some j):seqIndex? i n=some j/\j < n/\-(n:Int)<=i/\i < n:=by
 unfold iS at h
 by_cases h0:0<=i
 ·rw [if_pos h0] at h
  by_cases h1:i < n
  ·rw [if_pos h1] at h
   have e:i.toNat=j:=GB h
   exact ⟨by rw [seqIndex_of h0 h1,e],by lia,by lia,h1⟩
  ·rw [if_neg h1] at h; cases h
 ·rw [if_neg h0] at h
  by_cases h1 : -(n:Int)<=i
  ·rw [if_pos h1] at h
   have e:(i+n).toNat=j:=GB h
   exact ⟨by rw [seqIndex_neg (by lia) h1,e],by lia,h1,by lia⟩
  ·rw [if_neg h1] at h; cases h
theorem lS {α:Type} {xs:List α} {i:Int} {v:α} (h:bW xs i=some v):∃ j,seqIndex? i xs.length=some j/\xs[j]? = some v/\j < xs.length/\-(xs.length:Int)<=i/\i < xs.length:=by
 unfold bW at h
 cases e:iS xs.length i with
 | none=>rw [e] at h; cases h
 | some j =>
  rw [e] at h
  obtain ⟨h1,h2,h3,h4⟩:=qF e
  exact ⟨j,h1,h,h2,h3,h4⟩
theorem fH {α:Type} {xs:List α} {j:Nat} {v:α} (h:xs[j]? = some v):bW xs (j:Int)=some v:=by
 have hj:j < xs.length:=(Fs.mp h).1
 have e:iS xs.length (j:Int)=some j:=by
  unfold iS
  rw [if_pos (by lia),if_pos (by lia)]; simp
 unfold bW; rw [e]; exact h
theorem wz {α:Type} (xs:List α) (v:α):bW (xs++[v]) (-1)=some v:=by
 have hl:(xs++[v]).length=xs.length+1:=by simp
 have e:iS (xs++[v]).length (-1)=some xs.length:=by
  unfold iS
  rw [hl,if_neg (by decide),if_pos (by lia)]
  congr 1
  lia
 unfold bW
 rw [e]
 show (xs++[v])[xs.length]? = some v
 simp
def yi (b:II):Prop:=∀ o i,subscripted b false o i=operate [o,i] (getItem o i)
def jD (X:Cx) (r:R2):Prop :=
 ∀ (value slice:II) (pins:List (FD × Obj)) (s:Fq) (σ:St) (H:Hp) (x y:V) (v u:Fk) (Q:VK),Inv X pins σ H s->RelV x v->RelV y u->r x y H Q ->
  subscripted slice false v u=operate [v,u] (getItem v u)->wpAny (model X.prog X.w) X.A (subscriptTail value slice v u) (EP X pins σ Q) X.xe s
def DV (X:Cx) (id:String) (r:V->List V->Hp->VK->Prop):Prop :=
 ∀ (pins:List (FD × Obj)) (s:Fq) (σ:St) (H:Hp) (x:V) (xs:List V) (v:Fk) (us:List Fk) (Q:VK),Inv X pins σ H s->RelV x v->Vals xs us->r x xs H Q ->
  wpAny (model X.prog X.w) X.A (call (.builtin id) (v::us)) (EP X pins σ Q) X.xe s
section
variable {X:Cx} {a b:II} {ta tb:TE} {pos:Pos}
theorem jD.or {r r':R2} (h:jD X r) (h':jD X r'):jD X (fun x y H Q=>r x y H Q\/r' x y H Q):=by
 intro value slice pins s σ H x y v u Q I rx ry q hs
 rcases q with q | q
 ·exact h value slice pins s σ H x y v u Q I rx ry q hs
 ·exact h' value slice pins s σ H x y v u Q I rx ry q hs
theorem aG {r:R2} (hr:jD X r) (ha:PE X a ta) (hb:PE X b tb) (hs:yi b):PE X (.Subscript a b pos) (xv r ta tb):=by
 intro pins s σ H Q I h
 exact Subscript_ (xo ha hb I h fun v u s2 x y H2 I2 rx ry q=>hr a b pins s2 σ H2 x y v u Q I2 rx ry q (hs _ _))
noncomputable def wL (K:FW):R2:=fun x y H Q=>∃ p xs i v,x = .ref p/\y = .int i/\ai K H p xs/\bW xs i=some v/\Q v H
noncomputable def BH (K:FW):R2:=fun x y H Q=>∃ p xs i v,x = .ref p/\y = .int i/\bg K H p xs/\bW xs i=some v/\Q v H
noncomputable def CC:R2:=fun x y H Q=>∃ z i c,x = .str z/\y = .int i/\z.length<=sizeLine/\bW z.cps.toList i=some c/\Q (.str ⟨#[c]⟩) H
theorem aN:jD X (wL X.K):=by
 intro value slice pins s σ H x y v u Q I rx ry h hs
 obtain ⟨p,xs,i,z,rfl,rfl,hq,he,q⟩:=h
 cases rx
 obtain ⟨t,rfl⟩:=ry
 obtain ⟨its,r,pl,hz⟩:=I.list hq
 obtain ⟨j,h1,h2,h3,h4,h5⟩:=lS he
 obtain ⟨w,ew,rw'⟩:=r.get h2
 have hl:=r.length
 have hn:=ji
 have fin:EP X pins σ Q w s:=⟨z,H,I,rw',q⟩
 by_cases h0:0<=i
 ·have hj:i.toNat=j:=by
   rw [seqIndex_of h0 h5] at h1
   exact GB h1
  exact item_listR pl.isList h0 (by lia) (by rw [hj]; simpa using ew) fin hs
 ·have hj:(i+(its.toArray.size:Int)).toNat=j:=by
   rw [seqIndex_neg (by lia) h4] at h1
   rw [FN,<- hl]
   exact GB h1
  exact subscriptTail_builtinR (x:=w) pl.isList.typeIs slot_list_getitem.lookup
   (wpAny_getItem_list_neg (Q:=fun r s'=>r=w/\EP X pins σ Q r s') pl.isList (by lia) (by rw [FN]<;>lia) (by lia) (by rw [hj]; simpa using ew) ⟨rfl,fin⟩) hs
theorem bM:jD X (BH X.K):=by
 intro value slice pins s σ H x y v u Q I rx ry h hs
 obtain ⟨p,xs,i,z,rfl,rfl,hq,he,q⟩:=h
 cases rx
 obtain ⟨t,rfl⟩:=ry
 obtain ⟨its,r,pl,hz⟩:=I.tuple hq
 obtain ⟨j,h1,h2,h3,h4,h5⟩:=lS he
 obtain ⟨w,ew,rw'⟩:=r.get h2
 have hl:=r.length
 have hn:=ji
 have fin:EP X pins σ Q w s:=⟨z,H,I,rw',q⟩
 exact subscriptTail_builtinR (x:=w) pl.typeIs slot_tuple_getitem.lookup
  (getItem_tuple (j:=j) (Q:=fun r s'=>r=w/\EP X pins σ Q r s') pl (by lia) (by lia) (by rw [FN,<- hl]; exact h1) (by simpa using ew) ⟨rfl,fin⟩) hs
theorem ze:jD X CC:=by
 intro value slice pins s σ H x y v u Q I rx ry h hs
 obtain ⟨z,i,c,rfl,rfl,hz,he,q⟩:=h
 obtain ⟨t,rfl⟩:=rx
 obtain ⟨t',rfl⟩:=ry
 obtain ⟨j,h1,h2,h3,h4,h5⟩:=lS he
 have hl:z.cps.toList.length=z.length:=by simp [Str.length]
 rw [hl] at h1 h4 h5
 have hn:=ji
 exact tail_any (typeIs_str s z t) slot_str_getitem.lookup (getItem_str (c:=c) (by
  have e1:decide (i < -(2 ^ 63:Int))=false:=decide_eq_false (by lia)
  have e2:decide (i ≥ 2 ^ 63)=false:=decide_eq_false (by lia)
  rw [e1,e2,L4]) (by rw [h1]; simpa using h2) ⟨.str ⟨#[c]⟩,H,I.tok _,⟨_,rfl⟩,q⟩) hs
noncomputable def DX (K:FW):R2:=fun x y H Q=>wL K x y H Q\/BH K x y H Q\/CC x y H Q
theorem u7:jD X (DX X.K):=aN.or (bM.or ze)
theorem rC (its:List Fk) (n j:Nat) (u:Fk):Gs (·.setIfInBounds j u) { cls:=.type "list",data:=.seq its.toArray n }={ cls:=.type "list",data:=.seq (its.set j u).toArray n }:=by
 simp [Gs]
theorem Inv.lst {pins:List (FD × Obj)} {σ:St} {H:Hp} {s:Fq} {p:FD} {xs:List V} (I:Inv X pins σ H s) (h:H p=some (.lst xs)) :
  ∃ (its:List Fk) (n:Nat),Vals xs its/\s.heap.get? p=some { cls:=.type "list",data:=.seq its.toArray n }/\xs.length<=sizeLine:=by
 obtain ⟨z,its,n,r,e⟩:=I.hok p _ h
 exact ⟨its,n,r,e,z⟩
theorem Inv.lstUpd {pins:List (FD × Obj)} {σ:St} {H:Hp} {s:Fq} {p:FD} {xs ys:List V} {its its':List Fk} {n n':Nat} {f:Obj->Obj} (I:Inv X pins σ H s) (h:H p=some (.lst xs))
  (ho:s.heap.get? p=some { cls:=.type "list",data:=.seq its.toArray n }) (hf:f { cls:=.type "list",data:=.seq its.toArray n }={ cls:=.type "list",data:=.seq its'.toArray n' }) (r:Vals ys its') (hz:ys.length<=sizeLine) (t:Nat) :
  Inv X pins σ (upd H p (.lst ys)) { s with heap:=s.heap.update p f,toks:=t }:=by
 have e:(s.heap.update p f).get? p=some { cls:=.type "list",data:=.seq its'.toArray n' }:=by
  rw [GQ f ho (by rw [hf]<;>rfl),hf]
 refine I.write (x:=p) (e:=p) (by rw [h]; trivial) (.inl rfl) (fun b u hb q=>(Gv _ _ (Ih hb)).trans q) ⟨_,e⟩ ?_
 exact ⟨hz,its',n',r,e⟩
noncomputable def CY:V->V->V->Hp->(Hp->Prop)->Prop:=fun o i v H Q=>∃ p xs k j,o = .ref p/\i = .int k/\H p=some (.lst xs)/\iS xs.length k=some j/\Q (upd H p (.lst (xs.set j v)))
theorem set_list:AS X CY:=by
 intro pins s σ H o i v ov iv u Q I ro ri rv h
 obtain ⟨p,xs,k,j,rfl,rfl,hp,hj,q⟩:=h
 cases ro
 obtain ⟨t,rfl⟩:=ri
 obtain ⟨its,n,r,ho,hz⟩:=I.lst hp
 obtain ⟨h1,h2,h3,h4⟩:=qF hj
 have hl:=r.length
 have hn:=ji
 have I':Inv X pins σ (upd H p (.lst (xs.set j v))) { s with heap:=s.heap.update p (Gs (·.setIfInBounds j u)) } :=
  I.lstUpd hp ho (rC its n j u) (r.set rv j) (by rw [List.length_set]; exact hz) s.toks
 by_cases h0:0<=k
 ·have hk:k.toNat=j:=by
   rw [seqIndex_of h0 h4] at h1
   exact GB h1
  exact PySem.W.ki_setAt ho h0 (by lia) (by rw [FN,<- hl]; exact h4) (by rw [hk]; exact ⟨_,I',q⟩)
 ·have hk:(k+(its.toArray.size:Int)).toNat=j:=by
   rw [seqIndex_neg (by lia) h3] at h1
   rw [FN,<- hl]
   exact GB h1
  exact PySem.W.ki_setBack ho (by lia) (by rw [FN,<- hl]; exact h3) (by lia) (by rw [hk]; exact ⟨_,I',q⟩)
theorem nF (lo hi:Option Int) (n:Nat):(sliceBounds lo hi none n).1=((HT.sIx n 0 lo:Nat):Int)/\(sliceBounds lo hi none n).2.1=((HT.sIx n n hi:Nat):Int)/\(sliceBounds lo hi none n).2.2=1:=by
 refine ⟨?_,?_,rfl⟩
 ·cases lo with
  | none=>simp [sliceBounds,HT.sIx]
  | some i =>
   simp only [sliceBounds,HT.sIx,Option.getD_none,show (1:Int) > 0 by decide,if_true]
   by_cases h:i < 0
   ·simp only [h,if_true]<;>lia
   ·simp only [h,if_false]<;>lia
 ·cases hi with
  | none=>simp [sliceBounds,HT.sIx]
  | some i =>
   simp only [sliceBounds,HT.sIx,Option.getD_none,show (1:Int) > 0 by decide,if_true]
   by_cases h:i < 0
   ·simp only [h,if_true]<;>lia
   ·simp only [h,if_false]<;>lia
theorem m5 (its:List Fk) (lo hi:Option Int):slicePick its.toArray lo hi none=((its.drop (HT.sIx its.length 0 lo)).take (HT.sIx its.length its.length hi - HT.sIx its.length 0 lo)).toArray:=by
 obtain ⟨h1,h2,h3⟩:=nF lo hi its.toArray.size
 unfold slicePick
 rw [h1,h2,h3]
 simp only [sliceRange_one,pick_run,FN]<;>rfl
noncomputable def A8 (K:FW):V->Option Int->Option Int->Hp->VK->Prop:=fun x lo hi H Q=>∃ a xs,x = .ref a/\ai K H a xs/\∀ p,H p=none->Q (.ref p) (upd H p (.lst (cW xs lo hi)))
theorem eA:Aj X (A8 X.K):=by
 intro pins s σ H x v vl vu lo hi sl Q I rx hs pl pu h
 obtain ⟨a,xs,rfl,hx,q⟩:=h
 cases rx
 obtain ⟨its,r,ht,hz⟩:=I.list hx
 have hlen:=r.length
 refine ⟨"list",_,slot_list_getitem.lookup,ht.isList.typeIs,?_⟩
 refine wpAny_getItem_list_slice ht.isList hs pl pu .none (by simp) ?_ (by rw [FN]<;>lia)
 rw [m5,<- hlen]
 refine ⟨.ref s.heap.objs.size,_,I.laid (t':=s.toks) (o:=.lst (cW xs lo hi)) (fun b ob q=>Ft _ q) (Fy _) ?_,rfl,q _ (I.hok.fresh (Fy _))⟩
 exact ⟨GM (pN xs lo hi) hz,_,0,(r.drop (HT.sIx xs.length 0 lo)).take (HT.sIx xs.length xs.length hi - HT.sIx xs.length 0 lo),Gc _ rfl⟩
noncomputable def gi:V->Bool
 | .non=>true
 | .bl _=>true
 | .int _=>true
 | .str _=>true
 | _=>false
noncomputable def gW:V->V->Bool
 | .non,.non=>true
 | .bl a,.bl b=>a == b
 | .bl a,.int b=>(if a then 1 else 0) == b
 | .int a,.bl b=>a == (if b then 1 else 0)
 | .int a,.int b=>a == b
 | .str a,.str b=>a == b
 | _,_=>false
theorem ua {A:GG} {s:Fq} {y x:V} {u v:Fk} (ry:RelV y u) (rx:RelV x v) (fy:gi y=true) (fx:gi x=true):SeqAt.EqAt A s u v (gW y x):=by
 cases y with
 | non =>
  cases ry
  cases x with
  | non=>cases rx; exact Mn _
  | bl b=>cases rx; exact SeqAt.EqAt.none_bool b
  | int b=>obtain ⟨t,rfl⟩:=rx; exact SeqAt.EqAt.none_int b t
  | str b=>obtain ⟨t,rfl⟩:=rx; exact SeqAt.EqAt.none_str b t
  | _=>exact absurd (show false=true from fx) Gh
 | bl a =>
  cases ry
  cases x with
  | non=>cases rx; exact SeqAt.EqAt.bool_none a
  | bl b=>cases rx; exact SeqAt.EqAt.bool_bool a b
  | int b=>obtain ⟨t,rfl⟩:=rx; exact SeqAt.EqAt.bool_int a b t
  | str b=>obtain ⟨t,rfl⟩:=rx; exact SeqAt.EqAt.bool_str a b t
  | _=>exact absurd (show false=true from fx) Gh
 | int a =>
  obtain ⟨t',rfl⟩:=ry
  cases x with
  | non=>cases rx; exact SeqAt.EqAt.int_none a t'
  | bl b=>cases rx; exact SeqAt.EqAt.int_bool a t' b
  | int b=>obtain ⟨t,rfl⟩:=rx; exact SeqAt.EqAt.int_int a t' b t
  | str b=>obtain ⟨t,rfl⟩:=rx; exact L0 a t' b t
  | _=>exact absurd (show false=true from fx) Gh
 | str a =>
  obtain ⟨t',rfl⟩:=ry
  cases x with
  | non=>cases rx; exact SeqAt.EqAt.str_none a t'
  | bl b=>cases rx; exact SeqAt.EqAt.str_bool a t' b
  | int b=>obtain ⟨t,rfl⟩:=rx; exact L1 a t' b t
  | str b=>obtain ⟨t,rfl⟩:=rx; exact SeqAt.EqAt.str_str a t' b t
  | _=>exact absurd (show false=true from fx) Gh
 | _=>exact absurd (show false=true from fy) Gh
theorem bA:dk X (.builtin "len") (fun xs H Q=>∃ p ys,xs=[.ref p]/\(ai X.K H p ys\/bg X.K H p ys)/\Q (.int ys.length) H):=by
 intro pins s σ H xs us Q I r h
 obtain ⟨p,ys,rfl,hq,q⟩:=h
 obtain ⟨u,rfl,rx⟩:=vals1 r
 cases rx
 have hn:=ji
 rcases hq with hq | hq
 ·obtain ⟨its,r',pl,hz⟩:=I.list hq
  have hlen:=r'.length
  exact Calls.call_len_list pl.isList (by simp only [FN]<;>lia) ⟨.int ys.length,H,I.tok _,⟨s.toks+1,by rw [FN,hlen]⟩,q⟩
 ·obtain ⟨its,r',pl,hz⟩:=I.tuple hq
  have hlen:=r'.length
  exact len_tuple pl (by simp only [FN]<;>lia) ⟨.int ys.length,H,I.tok _,⟨s.toks+1,by rw [FN,hlen]⟩,q⟩
theorem e7:dk X (.type "list") (fun xs H Q=>∃ p ys,xs=[.ref p]/\(ai X.K H p ys\/bg X.K H p ys)/\∀ l,H l=none->Q (.ref l) (upd H l (.lst ys))):=by
 intro pins s σ H xs us Q I r h
 obtain ⟨p,ys,rfl,hq,q⟩:=h
 obtain ⟨u,rfl,rx⟩:=vals1 r
 cases rx
 have fin:∀ (its:List Fk),Vals ys its->ys.length<=sizeLine->∀ (h':HM) (c':Nat),(∀ b o',s.heap.get? b=some o'->h'.get? b=some o') ->
   h'.get? s.heap.objs.size=some { cls:=.type "list",dict:=none,data:=.seq its.toArray c',slots:=#[] }->EP X pins σ Q (.ref s.heap.objs.size) { s with heap:=h' }:=fun its r' hz h' c' kp e =>
  ⟨.ref s.heap.objs.size,_,I.laid (t':=s.toks) kp (Fy _) (show cf X.prog X.w _ h' _ (.lst ys) from ⟨hz,its,c',r',e⟩),rfl,q _ (I.hok.fresh (Fy _))⟩
 rcases hq with hq | hq
 ·obtain ⟨its,r',pl,hz⟩:=I.list hq
  have hlen:=r'.length
  obtain ⟨o,ho,hc,n,hd⟩:=pl.isList
  exact call_list_seq p (.inl rfl) ho hc hd (fun h' c' kp e=>fin its r' hz h' c' kp e) (by simp only [FN]<;>lia)
 ·obtain ⟨its,r',pl,hz⟩:=I.tuple hq
  have hlen:=r'.length
  obtain ⟨o,ho,hc,n,hd⟩:=pl
  exact call_list_seq p (.inr rfl) ho hc hd (fun h' c' kp e=>fin its r' hz h' c' kp e) (by simp only [FN]<;>lia)
def An (K:FW) (T:String) (x:V) (H:Hp):Prop:=match x with
 | .str _=>T = "str"
 | .int _=>T = "int"
 | .ref p=>(T = "list"/\∃ xs,ai K H p xs)\/(T = "tuple"/\∃ o,K.lookup p=some o/\o.cls = .type "tuple"/\o.dict=none) \/
   (T = "dict"/\((∃ kvs,H p=some (.dK kvs))\/∃ kvs,H p=some (.dT kvs)))\/(T = "set"/\∃ S n,H p=some (.set S n))
 | _=>False
theorem vv {pins:List (FD × Obj)} {σ:St} {H:Hp} {s:Fq} {T:String} {x:V} {v:Fk} (I:Inv X pins σ H s) (r:RelV x v) (ty:An X.K T x H) :
  s.TypeIs v T/\∀ a,v = .ref a->∃ ob,s.heap.get? a=some ob/\ob.dict=none:=by
 cases x with
 | str z =>
  obtain ⟨t,rfl⟩:=r
  cases (show T = "str" from ty)
  exact ⟨typeIs_str s z t,fun _ e=>nomatch e⟩
 | int i =>
  obtain ⟨t,rfl⟩:=r
  cases (show T = "int" from ty)
  exact ⟨typeIs_int s i t,fun _ e=>nomatch e⟩
 | ref p =>
  cases r
  rcases ty with ⟨rfl,xs,hq⟩ | ⟨rfl,o,hk,hc,hd⟩ | ⟨rfl,hk⟩ | ⟨rfl,S,n,hk⟩
  ·obtain ⟨its,_,pl,_⟩:=I.list hq
   refine ⟨pl.isList.typeIs,fun a e=>?_⟩
   cases e
   obtain ⟨o,n,e,c,hd,_⟩:=pl
   exact ⟨o,e,hd⟩
  ·refine ⟨⟨o,I.kIn p o hk,hc⟩,fun a e=>?_⟩
   cases e
   exact ⟨o,I.kIn _ o hk,hd⟩
  ·have z:∃ o,s.heap.get? p=some o/\o.ExactDict:=by
    rcases hk with ⟨kvs,hk⟩ | ⟨kvs,hk⟩
    ·obtain ⟨_,_,_,_,o,_,_,e,ex,_⟩:=I.hok p _ hk
     exact ⟨o,e,ex⟩
    ·obtain ⟨_,_,_,_,o,_,_,e,ex,_⟩:=I.hok p _ hk
     exact ⟨o,e,ex⟩
   obtain ⟨o,e,ex⟩:=z
   refine ⟨⟨o,e,ex.1⟩,fun a e2=>?_⟩
   cases e2
   exact ⟨o,e,ex.2.1⟩
  ·obtain ⟨o,_,_,_,e,ex,_⟩:=I.hok p _ hk
   refine ⟨⟨o,e,ex.1⟩,fun a e2=>?_⟩
   cases e2
   exact ⟨o,e,ex.2.1⟩
 | _=>exact Il ty
noncomputable def El (K:FW) (T:String) (r:V->List V->Hp->VK->Prop) (to:TE):TE:=fun σ H Q=>to σ H fun x H1=>An K T x H1/\r x [] H1 Q
noncomputable def EV (K:FW) (T:String) (r:V->List V->Hp->VK->Prop) (to:TE) (t:TA):TE:=fun σ H Q=>to σ H fun x H1=>An K T x H1/\t σ H1 fun xs H2=>r x xs H2 Q
variable {o e:II} {es:List II} {to:TE} {t:TA} {name:Str} {apos cpos:Pos} {T id:String} {r:V->List V->Hp->VK->Prop}
theorem zJ (pa:PlainAttrs T) (slot:Slot T name id) (hty:typeOf (.builtin id)=pure (.type "method_descriptor")) (hm:DV X id r) (ho:PE X o to)
  (hbase:attributeBase o name X.env (eval o X.env)=eval o X.env:=by rfl) (hline:(apos.endLine == cpos.line)=true:=by rfl):PE X (.Call (.Attribute o name apos) [] [] cpos) (El X.K T r to):=by
 intro pins s σ H Q I h
 refine wpAny_Call_method0_late hbase hline (aI (ho pins s σ H _ I h) fun v s1 ⟨x,H1,I1,r1,ty,q1⟩=>?_)
 obtain ⟨h1,h2⟩:=vv I1 r1 ty
 exact ⟨T,id,pa,slot,hty,h1,h2,Lv rfl (PySem.evalArgs_none (hm pins s1 σ H1 x [] v [] Q I1 r1 .nil q1))⟩
theorem cz (pa:PlainAttrs T) (slot:Slot T name id) (hty:typeOf (.builtin id)=pure (.type "method_descriptor")) (hm:DV X id r) (ho:PE X o to) (ha:PA X (e::es) t)
  (hbase:attributeBase o name X.env (eval o X.env)=eval o X.env:=by rfl)
  (hfew:((backTo cpos (starEach (e::es) X.env)).all (fun x=>!x.1)&&(backToKw cpos (keywordEach [] X.env)).all (fun x=>x.1.isSome)
   && decide ((e::es).length+([]:List Keyword).length+(if ([]:List Keyword).isEmpty then 0 else 1) < 30))=true:=by rfl)
  (hline:(apos.endLine == cpos.line)=true:=by rfl) (hs:starEach (e::es) X.env=(false,eval e X.env)::starEach es X.env:=by rfl) (hplain:(backTo cpos (starEach es X.env)).any (·.1)=false:=by rfl) :
  PE X (.Call (.Attribute o name apos) (e::es) [] cpos) (EV X.K T r to t):=by
 intro pins s σ H Q I h
 refine wpAny_Call_method_late hbase hfew hline rfl (aI (ho pins s σ H _ I h) fun v s1 ⟨x,H1,I1,r1,ty,q1⟩=>?_)
 obtain ⟨h1,h2⟩:=vv I1 r1 ty
 refine ⟨T,id,pa,slot,hty,h1,h2,?_⟩
 have hA:=ha cpos pins s1 σ H1 _ I1 q1
 rw [hs] at hA |-
 refine Lv (by show (false || (backTo cpos (starEach es X.env)).any (·.1))=false; rw [hplain]<;>rfl) (Calls.evalArgs_plain ?_)
 exact aI hA fun us s2 ⟨vs,H2,I2,r2,q2⟩=>hm pins s2 σ H2 x vs v us Q I2 r1 r2 q2
end
end L2
namespace L2
open PySem PySem.Spec PyProof.Rows
def qB (X:Cx) (id:String) (r:V->List V->Hp->VK->Prop):Prop :=
 ∀ (pins:List (FD × Obj)) (s:Fq) (σ:St) (H:Hp) (x:V) (xs:List V) (v:Fk) (us:List Fk) (Q:VK),Inv X pins σ H s->RelV x v->Vals xs us->r x xs H Q ->
  wpAny (model X.prog X.w) X.A (call (.builtin id) (v::us)) (EP X pins σ Q) X.xe s
theorem Vals.one:∀ {x:V} {us:List Fk},Vals [x] us->∃ u,us=[u]/\RelV x u
 | _,_,.cons r .nil=>⟨_,rfl,r⟩
theorem Vals.zero:∀ {us:List Fk},Vals [] us->us=[]
 | _,.nil=>rfl
theorem Vals.dropLast {xs:List V} {us:List Fk} (h:Vals xs us):Vals xs.dropLast us.dropLast:=by
 induction h with
 | nil=>exact .nil
 | cons r t ih =>
  cases t with
  | nil=>exact .nil
  | cons q t'=>exact .cons r ih
theorem tL {α:Type} (l:List α):l.eraseIdx (l.length - 1)=l.dropLast:=by
 induction l with
 | nil=>rfl
 | cons a r ih =>
  cases r with
  | nil=>rfl
  | cons b r =>
   have e:(a::b::r).length - 1=((b::r).length - 1)+1:=by
    have h1:(a::b::r).length=r.length+2:=rfl
    have h2:(b::r).length=r.length+1:=rfl
    lia
   rw [e,List.eraseIdx_cons_succ,ih]
   all_goals rfl
section
variable {X:Cx} {pins:List (FD × Obj)} {σ:St} {H:Hp} {s:Fq} {l b:FD} {xs ys zs:List V}
theorem Inv.lset {its its':List Fk} {n:Nat} {f:Array Fk->Array Fk} {t':Nat} (I:Inv X pins σ H s) (hH:H l=some (.lst xs))
  (e:s.heap.get? l=some { cls:=.type "list",data:=.seq its.toArray n }) (hf:f its.toArray=its'.toArray) (hv:Vals ys its') (hz:ys.length<=sizeLine) :
  Inv X pins σ (upd H l (.lst ys)) { s with heap:=s.heap.update l (Gs f),toks:=t' }:=by
 have q:=PySem.IsL.update e f
 rw [hf] at q
 refine I.write (x:=l) (e:=l) (by rw [hH]; exact trivial) (.inl rfl) (fun b' u hb hu=>(Gv s.heap (Gs f) (Ih hb)).trans hu) ⟨_,q⟩ ?_
 exact ⟨hz,its',_,hv,q⟩
theorem Inv.lnew {its:List Fk} {t':Nat} (I:Inv X pins σ H s) (hv:Vals ys its) (hz:ys.length<=sizeLine) :
  Inv X pins σ (upd H s.heap.objs.size (.lst ys)) { s with heap:=s.heap.push { cls:=.type "list",data:=.seq its.toArray },toks:=t' } :=
 I.laid (fun _ _ q=>Ft _ q) (Fy _) ⟨hz,its,0,hv,Gc _ rfl⟩
theorem Inv.fresh (I:Inv X pins σ H s):H s.heap.objs.size=none:=I.hok.fresh (Fy _)
theorem Inv.lstM (I:Inv X pins σ H s) (hH:H l=some (.lst xs)):xs.length<=sizeLine/\∃ (its:List Fk) (n:Nat),Vals xs its/\xs.length=its.length/\s.heap.get? l=some { cls:=.type "list",data:=.seq its.toArray n }:=by
 obtain ⟨z,its,n,r,e⟩:=I.hok l _ hH
 exact ⟨z,its,n,r,r.length,e⟩
theorem oM {n:Nat} (h:n<=sizeLine):Builtin.List.listTooLong n=false:=by
 unfold Builtin.List.listTooLong
 exact decide_eq_false (by lia)
end
section
variable {X:Cx}
noncomputable def yM:V->List V->Hp->VK->Prop:=fun x vs H Q=>∃ l xs y,x = .ref l/\vs=[y]/\H l=some (.lst xs)/\xs.length < sizeLine/\Q .non (upd H l (.lst (xs++[y])))
theorem bx:qB X "list.append" yM:=by
 intro pins s σ H x vs v us Q I rx rv h
 obtain ⟨l,xs,y,rfl,rfl,hH,hz,q⟩:=h
 cases rx
 obtain ⟨u,rfl,ru⟩:=rv.one
 obtain ⟨z,its,n,r,hl,e⟩:=I.lstM hH
 refine K1 F.slot_list_append ⟨_,e,rfl⟩ F.entry_list_append (F.args_list_append_2 _ _) (PySem.list_append l its.toArray n u (by rw [FN]; lia)) ⟨e,?_⟩
 refine ⟨.non,_,I.lset (its':=its++[u]) hH e (by simp) (r.append (.cons ru .nil)) ?_,rfl,q⟩
 rw [Fw,Kb]
 lia
noncomputable def qq:V->List V->Hp->VK->Prop:=fun x vs H Q=>∃ l b xs zs,x = .ref l/\vs=[.ref b]/\H l=some (.lst xs)/\H b=some (.lst zs)/\xs.length+zs.length<=sizeLine/\Q .non (upd H l (.lst (xs++zs)))
theorem mD:qB X "list.extend" qq:=by
 intro pins s σ H x vs v us Q I rx rv h
 obtain ⟨l,b,xs,zs,rfl,rfl,hH,hB,hz,q⟩:=h
 cases rx
 obtain ⟨u,rfl,ru⟩:=rv.one
 cases ru
 obtain ⟨z,its,n,r,hl,e⟩:=I.lstM hH
 obtain ⟨z2,its2,n2,r2,fg,e2⟩:=I.lstM hB
 have hsz:its.toArray.size+its2.toArray.size<=sizeLine:=by rw [FN,FN]; lia
 have hlong:¬ (!its.toArray.isEmpty&&Builtin.List.listTooLong (its.toArray.size+its2.toArray.size))=true:=by
  rw [oM hsz,Jy]
  exact Gh
 refine K1 F.slot_list_extend ⟨_,e,rfl⟩ F.entry_list_extend (F.args_list_extend_2 _ _)
  (AutoSeq1.list_extend_list_list_0 l its.toArray n b its2.toArray n2 hlong (by rw [FN]; lia) (by lia)) ⟨e,e2,?_⟩
 refine ⟨.non,_,I.lset (its':=its++its2) hH e (by simp) (r.append r2) ?_,rfl,q⟩
 rw [Fw]
 lia
noncomputable def Ee:V->List V->Hp->VK->Prop:=fun x vs H Q=>∃ l xs y,x = .ref l/\vs=[]/\H l=some (.lst xs)/\xs[xs.length - 1]? = some y/\Q y (upd H l (.lst xs.dropLast))
theorem Aq:qB X "list.pop" Ee:=by
 intro pins s σ H x vs v us Q I rx rv h
 obtain ⟨l,xs,y,rfl,rfl,hH,hy,q⟩:=h
 cases rx
 have hus:=rv.zero
 subst hus
 obtain ⟨z,its,n,r,hl,e⟩:=I.lstM hH
 obtain ⟨u,hu,ru⟩:=r.get hy
 have hy':its.toArray[its.toArray.size - 1]? = some u:=by
  show its.toArray[its.length - 1]? = some u
  rw [<- Gq,<- hl]
  exact hu
 refine K1 F.slot_list_pop ⟨_,e,rfl⟩ F.entry_list_pop (F.args_list_pop_1 _) (MeetsSeq.list_pop_last l its.toArray n u hy' (by rw [FN]; lia)) ⟨e,?_⟩
 refine ⟨y,_,I.lset (its':=its.dropLast) hH e ?_ r.dropLast ?_,ru,q⟩
 ·show its.toArray.eraseIdxIfInBounds (its.toArray.size - 1)=its.dropLast.toArray
  rw [FN,List.eraseIdxIfInBounds_toArray,tL]
 ·rw [List.length_dropLast]
  lia
noncomputable def EB:R2:=fun x y H Q=>∃ l b xs zs,x = .ref l/\y = .ref b/\H l=some (.lst xs)/\H b=some (.lst zs)/\xs.length+zs.length<=sizeLine/\∀ p,H p=none->Q (.ref p) (upd H p (.lst (xs++zs)))
theorem eG:cC X (binaryOp .Add) EB:=by
 intro pins s σ H x y v u Q I rx ry h
 obtain ⟨l,b,xs,zs,rfl,rfl,hH,hB,hz,q⟩:=h
 cases rx
 cases ry
 obtain ⟨z,its,n,r,hl,e⟩:=I.lstM hH
 obtain ⟨z2,its2,n2,r2,fg,e2⟩:=I.lstM hB
 refine PySem.P.add_list e e2 ?_ (by rw [FN,FN]; lia)
 have ea:its.toArray++its2.toArray=(its++its2).toArray:=by simp
 rw [ea]
 exact ⟨.ref _,_,I.lnew (t':=s.toks) (r.append r2) (by rw [Fw]; lia),rfl,q _ I.fresh⟩
end
section
variable {prog:Gi} {w:GF} {A:GG} {E:Fk->Fq->Prop} {s:Fq}
set_option maxRecDepth 100000 in
end
section
variable {X:Cx}
end
end L2
namespace Att
open PySem PySem.W PySem.Calls PyProof.Rows
theorem lG {P:G1} {h:HM}:∀ (ns:List Int) (vs:List Fk),WellAll P h vs (ns.map WData.int)->Ii vs ns:=by
 intro ns
 induction ns with
 | nil =>
  intro vs w
  rw [Ka] at w
  cases w
  exact .nil
 | cons n ns ih =>
  intro vs w
  rw [FQ] at w
  cases w with
  | cons a b =>
   cases a
   exact .cons _ _ (ih _ b)
theorem uH {l:OpenLaw} {n:Nat} (hn:l.most=some n) {P:G1} {h:HM} {args:List WData} {vals:List Fk}
  (hpre:l.row.toRowW.claim.pre args=true) (hwl:WellAll P h vals args) :
  ∃ a vs ns,vals=[FS a]/\args=[WData.list (ns.map WData.int)]/\h.get? a=some { cls:=.type "list",data:=.seq vs.toArray }/\Ii vs ns/\ns.length<=n:=by
 have hsh:WShape.hasAll [] args [.list .int]=true:=(pre_splitW hpre).1
 have hc:l.pre.holds [] { args:=args }=true:=(pre_splitW hpre).2
 obtain ⟨d,r,rfl,h1,h2⟩:=hasAllW_cons hsh
 obtain rfl:=hasAllW_nil h2
 obtain ⟨xs,rfl,h3⟩:=hasW_list h1
 obtain ⟨ns,rfl⟩:=items_int h3
 have hlen:ns.length<=n:=by
  unfold OpenLaw.pre at hc
  have h4:(WTm.not (.lt (.lit (.int (n:Int))) (.len (.arg 0)))).holds [] { args:=[.list (ns.map .int)] }=true:=by
   have h4:=(holds_andW hc).1
   rw [hn] at h4
   exact h4
  have h5:=condW_of h4 (w_not (w_lt w_lit (w_len_list (w_arg rfl))))
  rw [Do] at h5
  refine Nat.le_of_not_lt fun q=>?_
  have q':(n:Int) < ((ns.length:Nat):Int):=by lia
  first
   | (rw [decide_eq_true q'] at h5; exact absurd h5 (by decide))
   | (simp at h5; lia)
 cases hwl with
 | cons w1 w2 =>
  cases w2
  cases w1 with
  | list ho hall=>exact ⟨_,_,ns,rfl,rfl,ho,lG ns _ hall,hlen⟩
theorem vz (l:OpenLaw) (args:List WData):l.row.toRowW.claim.post args (.bool true) args=true :=
 postW_of (r:=l.row.toRowW) (X:=(true == true))
  (show WShape.has [] (.bool true) .bool=true by first | rfl | decide | simp [WShape.has,WShape.arms,WShape.armsAll])
  (show (WTm.eq .res (.lit (.bool true))).value [] { args:=args,res:=some (.bool true),after:=args }=some (.bool (true == true)) from w_eq_bool (w_res rfl) w_lit) rfl
theorem attach_call {l:OpenLaw} {n:Nat} {q:Gi} {loose:List Str} {XP:(Str->Option Fk)->HM->Prop} {YP:GF->HM->Prop} {d:DefRec}
  (hn:l.most=some n) (hdf:d.params.defaults=[])
  (call:∀ (w:GF) (s₀ s₁:Fq) (mg mb:Str->Option Fk) (fa:FD) (o:Obj) (pm cd doc:Fk) (a:FD) (vs:List Fk) (ns:List Int),
   Ground q loose [] XP w s₀ mg mb s₁.heap->YP w s₁.heap ->
   s₁.heap.get? fa=some o->o.data = .func (docDef d.name d.params d.body d.scope pm cd doc)->s₁.heap.CodeRec cd d.name->mg d.name=some (.ref fa) ->
   s₁.heap.get? a=some { cls:=.type "list",data:=.seq vs.toArray }->Ii vs ns->ns.length<=n->s₁.gens = #[] ->
   codeAny (model l.prog w) callerA (.call (.ref fa) ⟨[.ref a],[]⟩) (fun r s'=>r = .ok (.ret (.bool true))/\OldK s₁.heap s'.heap/\s'.os=s₁.os/\K8 s'.gens) s₁) :
  WalkO q loose XP YP l.row.toRowW d [] (fun f vs=>PySem.call f vs):=by
 intro w s₀ s₁ mg mb G Y fa o pm cd doc dV kV ho hd hcd hD hmg hg args vals as hpre hlay hrd hwl hlo
 obtain rfl:dV = .none:=Dflts.none hD hdf
 obtain rfl:kV = .none:=Dflts.noKw hD
 obtain ⟨a,vs,ns,rfl,rfl,hobj,hints,hlen⟩:=uH hn hpre hwl
 refine enter_call (JM (call w s₀ s₁ mg mb fa o pm cd doc a vs ns G Y ho (fd_plain hd) hcd hmg hobj hints hlen hg) fun r s' hq=>?_)
 obtain ⟨rfl,h2,h3,h4⟩:=hq
 exact ⟨.inl ⟨.bool true,.bool true,[],rfl,fun _=>rfl,.bool true,vz l _,fun _=>⟨J1,fun _ hm=>(nomatch hm)⟩⟩,h2,h3,h4⟩
section
variable {prog:Gi} {w:GF} {A:GG} {E:Fk->Fq->Prop} {s:Fq} {K:LO}
noncomputable def ledger (h:HM) (L d:FD):List (FD × Obj):=(FC h.objs.size).filterMap fun a=>if a=L\/a=d then none else (h.get? a).map fun o=>(a,o)
end
end Att
namespace L2
open PySem PySem.Spec PyProof.Rows
theorem mS:∀ {vs:List Fk} {ns:List Int},Ii vs ns->Vals (ns.map V.int) vs
 | _,_,.nil=>.nil
 | _,_,.cons n t h=>.cons ⟨t,rfl⟩ (mS h)
def sN (H:Hp):Prop:=∀ b,H b=none\/∃ o xs,H b=some (.frz o (.lst xs))
theorem wO {P:Gi} {w:GF} {K:FW} {mg mb:Str->Option Fk} {CX:fW} {k:Nat} {fa a:FD} {fd:G7} {x:Str} {sp:Sp} {s₁:Fq} {vs:List Fk} {ns:List Int}
  (KX:K.In s₁.heap) (hns:s₁.heap.Ns mainGlobals mg) (hb:s₁.heap.Ns builtinsNs mb) (hbb:∀ x:Str,x≠"__name__"->mb x=bootBuiltins x) (hlim:s₁.heap.NoLimit) (hg:s₁.gens = #[])
  (ha:s₁.heap.get? a=some { cls:=.type "list",data:=.seq vs.toArray }) (hi:Ii vs ns) (hl:ns.length<=sizeLine) (hr:bI k callerA)
  (F:∀ base:HM,K.In base->base.Ns mainGlobals mg->bL P w K mg base CX k fa fd [x] sp) (hbind:∀ (s:Fq) (u:Fk),BindsTo s fd ⟨[u],[]⟩ [(x,u)])
  (hsp:∀ H:Hp,sN H->ai K H a (ns.map V.int)->sp [.ref a] H (fun v _=>v = .bl true) fun _ _ _=>False)
  (hCX:∀ H e s',CX [] H s₁ (fun _ _ _=>False) e s'->False) :
  codeAny (model P w) callerA (.call (.ref fa) ⟨[.ref a],[]⟩) (fun r s'=>r = .ok (.ret (.bool true))/\OldK s₁.heap s'.heap/\s'.os=s₁.os/\K8 s'.gens) s₁:=by
 have rv:=mS hi
 have lenV:=hi.length
 -- from an abstract heap in which nothing but the script may be tracked
 have core:∀ H:Hp,sN H->ai K H a (ns.map V.int)->dm P w H s₁.heap->(∀ b,H b≠none->b=a)->(H a≠none->K.lookup a=none) ->
   codeAny (model P w) callerA (.call (.ref fa) ⟨[.ref a],[]⟩) (fun r s'=>r = .ok (.ret (.bool true))/\OldK s₁.heap s'.heap/\s'.os=s₁.os/\K8 s'.gens) s₁:=by
  intro H hO hS hok hA hK
  have base_of:∀ {b:FD} {o:Obj},s₁.heap.get? b=some o->H b=none->(iz s₁.heap H).get? b=some o:=fun e n=>wc e n
  have noA:∀ {b:FD} {o:Obj} {es:Array Jf} {ep:Nat},s₁.heap.get? b=some o->o.data = .dict es ep->H b=none:=fun {b o es ep} e d=>by
   cases q:H b with
   | none=>rfl
   | some u =>
    have e':b=a:=hA b (by rw [q]; simp)
    subst e'
    rw [ha] at e; cases e
    have d':Data.seq vs.toArray _=Data.dict es ep:=d
    cases d'
  have nsK:∀ {b:FD} {m:Str->Option Fk},s₁.heap.Ns b m->(iz s₁.heap H).Ns b m:=fun {b m} ⟨o,es,ep,e,d,r⟩=>⟨o,es,ep,base_of e (noA e d),d,r⟩
  have hKb:K.In (iz s₁.heap H):=fun b o e=>base_of (KX b o e) (by
   cases q:H b with
   | none=>rfl
   | some u =>
    have e':b=a:=hA b (by rw [q]; simp)
    subst e'
    rw [hK (by rw [q]; simp)] at e; cases e)
  have hM:Mod K mg (iz s₁.heap H):=⟨hKb,nsK hns,⟨mb,nsK hb,hbb⟩,let ⟨mc,h1,h2⟩:=hlim; ⟨mc,nsK h1,h2⟩⟩
  have e0:jY P w K mg (iz s₁.heap H) callerA [] s₁ H:=⟨rfl,hM,fun b o e=>yS e,Nat.le_of_eq (va _ _),trivial,fun b hb=>absurd (show b∈([]:List FD) from hb) (by simp),hok,.of_eq hg⟩
  refine JM ((F _ hKb (nsK hns)).run callerA [] s₁ H ⟨[.ref a],[]⟩ [.ref a] [.ref a] _ _ hr e0 (hbind s₁ (.ref a)) (.cons rfl .nil) (hsp H hO hS)) fun r s' h=>?_
  cases r with
  | error e=>exact (hCX H e s' h).elim
  | ok fl =>
   cases fl with
   | next=>exact Il h
   | brk=>exact Il h
   | cont=>exact Il h
   | ret u =>
    obtain ⟨v,H',os,bare,un,hok',r',q⟩:=h
    have q':v = .bl true:=q
    subst q'
    obtain rfl:u=KU true:=r'
    refine ⟨rfl,OldK.of_keep fun b o e=>?_,os,bare⟩
    cases q:H b with
    | none=>exact un.keep b o e q (by intro z; exact absurd (show b∈([]:List FD) from z) (by simp)) (by simp)
    | some u =>
     rcases hO b with z | ⟨ob,xs,z⟩
     ·rw [q] at z; cases z
     ·have z2:=un.frzs b ob _ z
      obtain ⟨e1,_⟩:=hok b _ z
      obtain ⟨e2,_⟩:=hok' b _ z2
      rw [e] at e1; cases e1
      exact e2
 cases hk:K.lookup a with
 | some o =>
  -- the script is one of the module's own objects
  have e:=KX a o hk
  rw [ha] at e
  cases e
  refine core (fun _=>none) (fun _=>.inl rfl) (.inr ⟨_,vs.toArray,_,hk,rfl,rfl,rfl,by rw [FN,lenV]; exact hl,by simpa using rv⟩) (fun b u z=>by have z':(none:Option HO)=some u:=z; cases z') (fun b z=>absurd rfl z) fun z=>absurd rfl z
 | none =>
  refine core (fun b=>if b=a then some (.frz { cls:=.type "list",data:=.seq vs.toArray } (.lst (ns.map V.int))) else none) (fun b=>?_) (.inl (.inr ⟨{ cls:=.type "list",data:=.seq vs.toArray },if_pos rfl⟩)) (fun b u z=>?_) (fun b z=>?_) fun _=>hk
  ·by_cases hb:b=a
   ·exact .inr ⟨_,_,if_pos hb⟩
   ·exact .inl (if_neg hb)
  ·by_cases hb:b=a
   ·have z':=(if_pos hb).symm.trans z
    cases z'
    subst hb
    exact ⟨ha,by rw [Do]; exact hl,vs,_,rv,ha⟩
   ·have z':=(if_neg hb).symm.trans z
    cases z'
  ·by_cases hb:b=a
   ·exact hb
   ·exact absurd (if_neg hb) z
end L2
namespace L2
open PySem PySem.Spec PyProof.Rows
noncomputable abbrev Fp {K:FW} {h:HM} (_:K.In h):FW:=K
theorem walk_of {l:W.OpenLaw} {n k:Nat} {q:Gi} {loose:List Str} {XP:(Str->Option Fk)->HM->Prop} {YP:GF->HM->Prop} {d:DefRec} {K:G1->Ga} {CX:GF->fW} {sp:GF->Sp} {x:Str}
  (hn:l.most=some n) (hn2:n<=sizeLine) (hdf:d.params.defaults=[]) (hr:bI k callerA)
  (hY:∀ (w:GF) (h:HM),YP w h->(K w.params).In h)
  (F:∀ (w:GF) (mg:Str->Option Fk) (fa:FD) (h:HM),(K w.params).In h->h.Ns mainGlobals mg->mg d.name=some (.ref fa) ->
   ∃ fd:G7,(∀ (s:Fq) (u:Fk),BindsTo s fd ⟨[u],[]⟩ [(x,u)]) /\
    ∀ base:HM,(K w.params).In base->base.Ns mainGlobals mg->bL l.prog w (K w.params) mg base (CX w) k fa fd [x] (sp w))
  (hsp:∀ (w:GF) (H:Hp) (a:FD) (ns:List Int),ns.length<=n->sN H->ai (K w.params) H a (ns.map V.int)->sp w [.ref a] H (fun v _=>v = .bl true) fun _ _ _=>False)
  (hCX:∀ (w:GF) (H:Hp) (s:Fq) (e:Fk) (s':Fq),CX w [] H s (fun _ _ _=>False) e s'->False) :
  W.WalkO q loose XP YP l.row.toRowW d [] (fun f vs=>PySem.call f vs):=by
 refine Att.attach_call hn hdf fun w s₀ s₁ mg mb fa o pm cd doc a vs ns G Y ho hd hcd hmg hobj hints hlen hg=>?_
 have KX:=hY w _ Y
 obtain ⟨fd,hb,hF⟩:=F w mg fa _ KX G.T.g hmg
 exact wO KX G.T.g G.T.b G.T.builtins G.T.nolimit hg hobj hints (GM hlen hn2) hr hF hb (fun H hO hS=>hsp w H a ns hlen hO hS) fun H e s'=>hCX w H s₁ e s'
end L2
namespace L2
open PySem PySem.Spec PyProof.Rows
noncomputable def inClass (s:IB) (j:Nat):IB:=match s with
 | .ClassDef _ _ _ body _ _ _ _ _ _ _=>body.getD j (.Pass ⟨0,0,0,0⟩)
 | _=>.Pass ⟨0,0,0,0⟩
noncomputable def dE (s:IB):Arguments:=match s with
 | .FunctionDef _ a _ _ _ _ _ _ _ _=>a
 | _=>{ posonlyargs:=[],args:=[],vararg:=none,kwonlyargs:=[],kw_defaults:=[],kwarg:=none,defaults:=[] }
noncomputable def c6 (s:IB):List IB:=match s with
 | .FunctionDef _ _ b _ _ _ _ _ _ _=>b
 | _=>[]
noncomputable def ao (s:IB):KG:=match s with
 | .FunctionDef _ _ _ _ _ _ sc _ _ _=>sc
 | _=>{ kind:=.function,names:=[],isGenerator:=false,isCoroutine:=false }
noncomputable abbrev kX:fW:=fun _ _ _ _ _ _=>False
noncomputable abbrev E0:XK:=fun _ _ _=>False
structure aQ (K:Ga) (x qual:Str) (st:IB) (f:FD) (fd:G7):Prop where
 ex:∃ (oc:Fk) (od:Option FD) (kV doc pm:Fk) (an:Option FD) (cdv ct:Fk) (osl:Array (Option Fk)),
  fd=Mi x qual (dE st) (c6 st) (ao st) .none kV doc pm an cdv ct/\K.lookup f=some ⟨oc,od,.func fd,osl⟩/\W.codeIn K cdv qual=true
 kp:W.keepIn K (.ref f)=true
section
variable {P:Gi} {w:GF} {K:Ga} {mg:Str->Option Fk} {base:HM}
theorem aQ.ok {x qual:Str} {st:IB} {f:FD} {fd:G7} {N ps:List Str} {k:Nat} {sp:Sp} (F:aQ K x qual st f fd) (S:au N ps (ao st)) (len:∀ vs H Q E,sp vs H Q E->vs.length=ps.length)
  (hbody:∀ (cdv:Fk) (A:GG) (outer:List Env) (s:Fq) (H:Hp) (vs:List V) (Q:VK) (E:XK),bI k (A.deeper (envOfC qual (ao st) s.heap.objs.size f cdv))->sp vs H Q E ->
   ∃ t,gr (lW kX P w K mg base N qual (ao st) f cdv A outer s H E).nox (c6 st) t/\t { nx:=fun _ H'=>Q .non H',rt:=Q } (start N vs) H):bL P w K mg base kX (k+1) f fd ps sp:=by
 obtain ⟨oc,od,kV,doc,pm,an,cdv,ct,osl,rfl,lk,hcd⟩:=F.ex
 refine C7 lk hcd S len fun A outer s H vs Q E hr hsp=>?_
 obtain ⟨t,h,q⟩:=hbody cdv A outer s H vs Q E hr hsp
 exact ⟨t,h.nox,q⟩
theorem aQ.binds {x qual:Str} {st:IB} {f:FD} {fd:G7} {ps:List Str} (F:aQ K x qual st f fd)
  (h:∀ (kV doc pm:Fk) (an:Option FD) (cdv ct:Fk) (us:List Fk),us.length=ps.length->bindArgs (Mi x qual (dE st) (c6 st) (ao st) .none kV doc pm an cdv ct) ⟨us,[]⟩=pure (ps.zip us)):Binds K fd ps []:=by
 obtain ⟨oc,od,kV,doc,pm,an,cdv,ct,osl,rfl,lk,hcd⟩:=F.ex
 exact .all (h kV doc pm an cdv ct)
theorem fun_mk {x qual:Str} {st:IB} {f:FD} {oc:Fk} {od an:Option FD} {osl:Array (Option Fk)} {kV doc pm cdv ct:Fk} (l:K.lookup f=some ⟨oc,od,.func (Mi x qual (dE st) (c6 st) (ao st) .none kV doc pm an cdv ct),osl⟩)
  (c:W.codeIn K cdv qual=true) (k:W.keepIn K (.ref f)=true):aQ K x qual st f (Mi x qual (dE st) (c6 st) (ao st) .none kV doc pm an cdv ct):=⟨⟨oc,od,kV,doc,pm,an,cdv,ct,osl,rfl,l,c⟩,k⟩
end
theorem DG {A:GG} {k:Nat} (hr:bI k A):A.units+1 < cLine:=IF (Nat.add_le_add_left (by decide:1<=64) _) hr.units
section
variable {X:Cx}
theorem pv (i:Nat) {x:Str} {pos:Pos} (hN:X.N[i]? = some x:=by rfl) (hv:xF X.env.scope x:=by first | exact Gd rfl | exact LS (Gd rfl) | exact LS (LS rfl)) (hd:(x == ("__debug__" : Str))=false:=by decide)
  (hcd:(x == ("__classdict__" : Str))=false:=by decide):PE X (.Name x pos) (zS i):=zO hN hv hd hcd
end
theorem bB {A B:Prop} (h:B):if false=true then A else B:=by
 rw [if_neg Gh]
 exact h
theorem bw {A B:Prop} (h:A):if true=true then A else B:=by
 rw [if_pos rfl]
 exact h
theorem j6 {c A B:Prop} [Decidable c] (h1:c->A) (h2:¬ c->B):if c then A else B:=by
 by_cases h:c
 ·rw [if_pos h]
  exact h1 h
 ·rw [if_neg h]
  exact h2 h
theorem jr {c A B:Prop} [Decidable c] (hc:c) (h:B):if (!decide c)=true then A else B:=by
 rw [decide_eq_true hc]
 exact bB h
def ae (H H':Hp):Prop:=∀ b o,H b=some o->H' b=some o
theorem ae.refl (H:Hp):ae H H:=fun _ _ h=>h
theorem ae.trans {H H1 H2:Hp} (a:ae H H1) (b:ae H1 H2):ae H H2:=fun c o h=>b c o (a c o h)
theorem ae.free {H H':Hp} (e:ae H H') {l:FD} (h:H' l=Option.none):H l=Option.none:=by
 cases q:H l with
 | none=>rfl
 | some o =>
  rw [e l o q] at h
  cases h
theorem ae.seq {K:Ga} {H H':Hp} {a:FD} {xs:List V} (e:ae H H') (h:ai K H a xs):ai K H' a xs:=by
 rcases h with (h | ⟨o,h⟩) | h
 ·exact .inl (.inl (e _ _ h))
 ·exact .inl (.inr ⟨o,e _ _ h⟩)
 ·exact .inr h
end L2
set_option maxHeartbeats 4000000
namespace L2
open PySem PySem.Spec PyProof.Rows
section
variable {X:Cx}
def xq (i j:Int):Prop:=0 < j/\j.natAbs.log2 < 9000
theorem ft:cC X (binaryOp .FloorDiv) (rI xq fun i j=>.int (i / j)):=xX fun i j _ _ _ _ _ hc q=>by
 have h1:(0:Int) < j:=hc.1
 exact floordiv_int (by lia) (by rw [Int.fdiv_eq_ediv_of_nonneg i (by lia)]; exact q) (.inl (PyProof.noPylong_of_log2 hc.2))
theorem kj (hc:X.calm=true):dk X (.builtin "sum") (fun xs H Q=>∃ (p:FD) (ns:List Int),xs=[.ref p]/\ai X.K H p (ns.map V.int)/\Q (.int ns.sum) H):=by
 intro pins s σ H xs us Q I r h
 obtain ⟨p,ns,rfl,hl,q⟩:=h
 obtain ⟨u,rfl,ru⟩:=vals1 r
 cases ru
 obtain ⟨its,r',pl,hz⟩:=I.list hl
 have hi:Ii its ns:=intsAre_of r'
 have hall:AllInts its.toArray:=hi.allInts
 obtain ⟨ys,e⟩:=hall.items
 have hl':s.heap.IsList p (intItems ys):=by rw [<- e]; exact pl.isList
 refine sum_intListG (I.ok.hd hc) hl' fun h' tk t' hk=>?_
 have e2:preSum (numAt ys) ys.size=ns.sum:=by
  have e3:numsOf (intItems ys).toList=ns:=by rw [<- e]; exact hi.numsOf
  rw [preSum_eq,FB (by simp),<- e3,nums_intItems]
 rw [e2]
 exact ⟨.int ns.sum,H,I.kept hk,⟨_,rfl⟩,q⟩
theorem bu:dk X (.builtin "isinstance") (fun xs H Q=>∃ x c cv t b,xs=[x,c]/\(∀ u,RelV c u->u=cv)/\eL X.K H x t/\Ij X.K t cv=some b/\Q (.bl b) H):=by
 intro pins s σ H xs us Q I r h
 obtain ⟨x,c,cv,t,b,rfl,hcv,ty,e,q⟩:=h
 obtain ⟨u,w',rfl,r1,r2⟩:=vals2 r
 rw [hcv w' r2]
 exact vD I r1 ty e fun tk=>⟨.bl b,H,I.tok _,rfl,q⟩
theorem cn {n:String}:∀ u,RelV (.ty n) u->u=IA n:=fun _ h=>h
end
theorem m7 {α β:Type} {l:List α} {f:α->β->Sem (ForInStep β)} (g:β->α->β) (c:β) (h:∀ x∈l,∀ c,f x c=pure (.yield (g c x))) :
  forIn l c f=pure (l.foldl g c):=by
 induction l generalizing c with
 | nil=>rfl
 | cons x l ih =>
  rw [JP,h x Ge,pure_bind]
  exact ih _ fun y hy=>h y (FE _ hy)
noncomputable def oF (cells:List (Str × FD)) (names:List (Str × LN)) (acc:List (Str × FD)):List (Str × FD) :=
 names.foldl (fun cs y=>if y.2 == .free then (y.1,(cells.lookup y.1).getD 0)::cs else cs) acc
theorem rA {scope:KG} {env:Env} (h:∀ y∈scope.names,y.2 = .free->∃ c,env.cells.lookup y.1=some c):closureFor scope env=pure (oF env.cells scope.names []):=by
 simp only [closureFor]
 rw [m7 (fun cs y=>if y.2 == .free then (y.1,(env.cells.lookup y.1).getD 0)::cs else cs) [] fun x hx c=>?_]
 ·rfl
 ·obtain ⟨n,k⟩:=x
  by_cases hk:k = .free
  ·subst hk
   obtain ⟨a,ea⟩:=h (n,.free) hx rfl
   have ea':env.cells.lookup n=some a:=ea
   simp only [beq_self_eq_true,if_true,cellOf,ea',pure_bind,Jg]
  ·have hb:(k == Kl)=false:=by simpa using hk
   simp only [hb,Fx,if_false]
theorem lookup_mem {α:Type}:∀ {l:List (Str × α)} {x:Str} {c:α},l.lookup x=some c->(x,c)∈l
 | [],_,_,h=>by simp at h
 | (y,d)::r,x,c,h=>by
  rw [List.lookup_cons] at h
  cases hx:x == y with
  | true =>
   rw [hx] at h
   have e:x=y:=by simpa using hx
   subst e
   cases h
   exact Ge
  | false =>
   rw [hx] at h
   exact FE _ (lookup_mem h)
theorem mem_lookup {α:Type}:∀ {l:List (Str × α)} {x:Str} {c:α},(x,c)∈l->∃ d,l.lookup x=some d
 | [],_,_,h=>by cases h
 | (y,d)::r,x,c,h=>by
  rw [List.lookup_cons]
  cases hx:x == y with
  | true=>exact ⟨d,rfl⟩
  | false =>
   rcases FL.mp h with e | h
   ·cases e; simp at hx
   ·exact mem_lookup h
theorem jN {cells:List (Str × FD)}:∀ {names:List (Str × LN)} {acc:List (Str × FD)} {p:Str × FD},p∈oF cells names acc↔p∈acc\/((p.1,Kl)∈names/\p.2=(cells.lookup p.1).getD 0)
 | [],acc,p=>by simp [oF]
 | (n,k)::r,acc,p=>by
  show p∈oF cells r (if k == .free then (n,(cells.lookup n).getD 0)::acc else acc)↔_
  rw [jN (names:=r)]
  by_cases hk:k = .free
  ·subst hk
   simp only [beq_self_eq_true,if_true,FL]
   constructor
   ·rintro ((rfl | h) | h)
    ·exact .inr ⟨.inl rfl,rfl⟩
    ·exact .inl h
    ·exact .inr ⟨.inr h.1,h.2⟩
   ·rintro (h | ⟨h | h,e⟩)
    ·exact .inl (.inr h)
    ·obtain ⟨a,b⟩:=p
     cases h
     exact .inl (.inl (by rw [show b=_ from e]))
    ·exact .inr ⟨h,e⟩
  ·have hb:(k == Kl)=false:=by simpa using hk
   simp only [hb,Fx,if_false,FL]
   constructor
   ·rintro (h | h)
    ·exact .inl h
    ·exact .inr ⟨.inr h.1,h.2⟩
   ·rintro (h | ⟨h | h,e⟩)
    ·exact .inl h
    ·cases h; exact absurd rfl hk
    ·exact .inr ⟨h,e⟩
theorem gJ {scope:KG} {env:Env} {x:Str} {k:LN} (h:(relabel scope env).names.lookup x=some k):∃ k',(x,k')∈scope.names/\(k'=k\/(k' = .free/\k = .cell)):=by
 have m:=lookup_mem h
 unfold relabel at m
 obtain ⟨⟨n,k'⟩,hm,e⟩:=FH.mp m
 dsimp only at e
 split at e
 ·rename_i hc
  rw [FO,FO] at hc
  have e1:n=x:=congrArg L5 e
  have e2:NameKind.cell=k:=congrArg Ml e
  subst e1 e2
  exact ⟨k',hm,.inr ⟨by simpa using hc.1.1,rfl⟩⟩
 ·have e1:n=x:=congrArg L5 e
  have e2:k'=k:=congrArg Ml e
  subst e1 e2
  exact ⟨k',hm,.inl rfl⟩
noncomputable def cy (X:Cx) (scope:KG) (N:List Str) (cl:List (Str × FD)) (C:FD) (s:Fq) (H:Hp) (fp:List FD) (xe:Fk->Fq->Prop):Cx :=
 { X with N:=N,s₀:=s,H₀:=H,env:=compEnvC scope cl C X.env,outer:=X.stack,stack:=X.stack,ex:=fp,fn:=fun _=>false,pn:=[],xe:=xe }
inductive fT (X:Cx) (scope:KG):List Str->List (Option Nat)->Prop where
 | nil:fT X scope [] []
 | own {x:Str} {N:List Str} {ix:List (Option Nat)} (r:fT X scope N ix):fT X scope (x::N) (none::ix)
 | cap {x:Str} {j:Nat} {N:List Str} {ix:List (Option Nat)} (h1:X.N[j]? = some x) (h2:X.env.kindOf x=some .cell) (h3:(relabel scope X.env).names.lookup x=some .cell) (r:fT X scope N ix):fT X scope (x::N) (some j::ix)
noncomputable def fv (ix:List (Option Nat)) (σ:St):St:=ix.map fun o=>match o with
 | none=>none
 | some j=>(σ[j]?).getD none
theorem fT.get {X:Cx} {scope:KG} {σ:St}:∀ {N:List Str} {ix:List (Option Nat)},fT X scope N ix->∀ (i:Nat) (x:Str) (v:V),N[i]? = some x->(fv ix σ)[i]? = some (some v) ->
  ∃ j:Nat,X.N[j]? = some x/\σ[j]? = some (some v)/\X.env.kindOf x=some .cell/\(relabel scope X.env).names.lookup x=some .cell
 | _,_,.nil,i,x,v,h,_=>by simp at h
 | _,_,.own r,0,x,v,_,h=>by simp [fv] at h
 | _,_,.own r,i+1,x,v,h1,h2=>r.get i x v (by simpa using h1) (by simpa [fv] using h2)
 | _,_,.cap (j:=j) e1 e2 e3 r,0,x,v,h1,h2=>by
  simp at h1
  subst h1
  refine ⟨j,e1,?_,e2,e3⟩
  simp only [fv,FQ,IY,Option.some.injEq] at h2
  cases q:σ[j]? with
  | none=>rw [q] at h2; cases h2
  | some o=>rw [q] at h2; simp only [Jg] at h2; rw [h2]
 | _,_,.cap e1 e2 e3 r,i+1,x,v,h1,h2=>r.get i x v (by simpa using h1) (by simpa [fv] using h2)
theorem fT.length {X:Cx} {scope:KG} {N:List Str} {ix:List (Option Nat)} (h:fT X scope N ix):ix.length=N.length:=by
 induction h with
 | nil=>rfl
 | own _ ih=>simp [ih]
 | cap _ _ _ _ ih=>simp [ih]
def Ext (a b:St):Prop:=b.length=a.length/\∀ (i:Nat) v,a[i]? = some (some v)->b[i]? = some (some v)
theorem Ext.set {a:St} {i:Nat} {v:V} (h:a[i]? = some none):Ext a (a.set i (some v)):=by
 refine ⟨by simp,fun j w e=>?_⟩
 by_cases hj:j=i
 ·subst hj; rw [h] at e; cases e
 ·rw [Kh (Ih hj)]; exact e
theorem Ext.trans {a b c:St} (h:Ext a b) (h':Ext b c):Ext a c:=⟨h'.1.trans h.1,fun i v e=>h'.2 i v (h.2 i v e)⟩
def vx (X:Cx) (ifs:List II) (t:TT):Prop :=
 ∀ (pins:List (FD × Obj)) (s:Fq) (σ:St) (H:Hp) (Q:Bool->Hp->Prop),Inv X pins σ H s->t σ H Q ->
  wpAny (model X.prog X.w) X.A (forIn ifs true fun c r=>if r=true then do let ok <- isTrue c X.env (eval c X.env); pure (IR ok) else pure (IR r)) (TP X pins σ Q) X.xe s
noncomputable def xS:TT:=fun _ H Q=>Q true H
theorem bZ {X:Cx}:vx X [] xS:=fun pins s σ H Q I h=>wpAny_tests_nil ⟨H,I,h⟩
theorem g6 {X:Cx} {c:II} {t:TT} (h:PT X c t):vx X [c] t:=fun pins s σ H Q I q=>wpAny_tests_one (h pins s σ H Q I q)
def nq (J:It) (g:TG) (tt:TT) (te:TE) (σ0:St) (D:FD) (Q:VK) (H1:Hp):Prop:=∃ W:Nat->Nat->List V->Hp->Prop,(∃ m,W 0 m [] (upd H1 D (.lst [])))/\∀ i m ys H,W i m ys H ->
 (J.stop i H/\Q (.ref D) H)\/(J.go i H/\∀ x H',J.yld i H x H'->g x σ0 H' fun σ2 H2=>Ext σ0 σ2/\tt σ2 H2 fun b H3 =>
  if b=true then te σ2 H3 fun v H4=>H4 D=some (.lst ys)/\ys.length < sizeLine/\∃ m',m' < m/\W (i+1) m' (ys++[v]) (upd H4 D (.lst (ys++[v]))) else ∃ m',m' < m/\W (i+1) m' ys H3)
noncomputable def rY (wi:TI) (g:TG) (tt:TT) (te:TE) (ix:List (Option Nat)):TE:=fun σ H Q=>wi σ H fun J H1=>∀ D,H1 D=none->nq J g tt te (fv ix σ) D Q H1
section
variable {prog:Gi} {w:GF} {A:GG} {R:Result->Fq->Prop} {s:Fq}
theorem uh {elt target iter:II} {ifs:List II} {scope:KG} {pos:Pos} {it acc:Fk} {env:Env} (I:Nat->Fq->Prop)
  (turn:∀ n s,I n s->wpAny (model prog w) A (pyNext it) (fun r s₁=>match r with
   | none=>R (.ok .next) s₁
   | some v=>wpAny (model prog w) A (letOwnedTupleGo target it v) (fun _ s₁'=>wpAny (model prog w) A (assign target env v) (fun _ s₂ =>
     wpAny (model prog w) A (forIn ifs true fun c r=>if r=true then do let ok <- isTrue c env (eval c env); pure (IR ok) else pure (IR r)) (fun ok s₃ =>
      if ok=true then wpAny (model prog w) A (eval elt env) (fun x s₄ =>
       wpAny (model prog w) A (call (.builtin "list.append") [acc,x]) (fun _ s₅=>∃ m,m < n/\I m s₅) (notedBy (model prog w) A env fun e s'=>R (.error e) s') s₄) (notedBy (model prog w) A env fun e s'=>R (.error e) s') s₃
      else ∃ m,m < n/\I m s₃) (notedBy (model prog w) A env fun e s'=>R (.error e) s') s₂) (notedBy (model prog w) A env fun e s'=>R (.error e) s') s₁') (notedBy (model prog w) A env fun e s'=>R (.error e) s') s₁) (notedBy (model prog w) A env fun e s'=>R (.error e) s') s)
  (n:Nat) (h:I n s):codeAny (model prog w) A (.compLoop (.ListComp elt [⟨target,iter,ifs,0⟩] scope pos) 0 it acc env) R s:=by
 refine codeAny_loop rfl I (fun n s hI=>?_) n h
 show wpAny _ A ((compTurn (.ListComp elt [⟨target,iter,ifs,0⟩] scope pos) 0 it acc env).onRaise (fun x=>do noteFrame x env; theTreesLotGoes x)) _ _ s
 refine wpAny_noted ?_
 rw [compTurn_list]
 refine mo (La (mo (IC (turn n s hI) (fun r s₁ h₁=>?_) fun _ _ h'=>h')))
 cases r with
 | none=>exact Fv h₁
 | some v =>
  refine mo (IC h₁ (fun _ s₁' h₁'=>?_) fun _ _ h'=>h')
  refine mo (IC h₁' (fun _ s₂ h₂=>mo (IC h₂ (fun ok s₃ h₃=>?_) fun _ _ h'=>h')) fun _ _ h'=>h')
  cases ok with
  | false=>exact Fv ⟨rfl,h₃⟩
  | true =>
   exact mo (mo (IC h₃ (fun x s₄ h₄=>mo (IC h₄ (fun _ s₅ h₅=>Fv (Fv ⟨rfl,h₅⟩)) fun _ _ h'=>h')) fun _ _ h'=>h'))
end
section
variable {X:Cx}
noncomputable def nQ (sc:KG):Bool:=sc.names.all fun y=>y.2 != .cell
noncomputable def freeOk (sc:KG) (env:Env):Bool:=sc.names.all fun y=>y.2 != .free || env.kindOf y.1 == some .cell
noncomputable def namesOk (sc:KG):Bool:=sc.names.all fun y=>y.2 != .local || sc.names.lookup y.1 == some .local
structure ir (X:Cx) (pins:List (FD × Obj)) (σ:St) (H:Hp) (C:FD) (s:Fq):Prop where
 inv:Inv X pins σ H s
 ns:∃ m,s.heap.Ns C m
 free:H C=none
 loc:C≠X.env.locals
 young:X.s₀.heap.objs.size<=C
 cell:∀ x c,X.env.cells.lookup x=some c->c≠C
 pin:∀ p∈X.pn++pins,p.1≠C
theorem ir.gone {pins:List (FD × Obj)} {σ:St} {H:Hp} {C:FD} {s:Fq} (B:ir X pins σ H C s) {h':HM} (hs:JL C s.heap h'):Inv X pins σ H { s with heap:=h' } :=
 B.inv.turned (t':=s.toks) (it:=C) (fun b o hb e=>hs.extBut b o hb e) B.free B.loc (.inr B.young) B.cell B.pin
theorem mJ {elt tg iter:II} {ifs:List II} {scope:KG} {pos pos':Pos} {N:List Str} {ix:List (Option Nat)} {wi:TI} {g:TG} {tt:TT} {te:TE} {use:Option (Fk->Sem Unit)} {Qv:Fk->Fq->Prop}
  (hc:X.calm=true) (hi:PI X tg iter wi) (hk:scope.kind = .function) (hcell0:nQ scope=true) (hfree0:freeOk scope X.env=true) (hnames0:namesOk scope=true) (caps:fT X scope N ix)
  (hg:∀ cl C s H fp xe,PG (cy X scope N cl C s H fp xe) tg g) (ht:∀ cl C s H fp xe,vx (cy X scope N cl C s H fp xe) ifs tt) (he:∀ cl C s H fp xe,PE (cy X scope N cl C s H fp xe) elt te)
  (hs:∀ x,foldedSetIterable iter X.env x=pure x)
  {pins:List (FD × Obj)} {s:Fq} {σ:St} {H:Hp} {Q:VK} (I:Inv X pins σ H s) (h:rY wi g tt te ix σ H Q)
  (fin:∀ (C D:FD) (H6:Hp) (s6:Fq),ir X pins σ H6 C s6->Q (.ref D) H6->compPost (model X.prog X.w) X.A X.xe use Qv (.ref D) C (.ok .next) s6) :
  wpAny (model X.prog X.w) X.A (comprehension (.ListComp elt [⟨tg,iter,ifs,0⟩] scope pos) scope X.env pos' (newList []) false (eval iter X.env) use) Qv X.xe s:=by
 have hcell:∀ y∈scope.names,y.2≠.cell:=fun y hy e=>by
  have:=Gn.mp hcell0 y hy
  rw [e] at this; exact absurd this (by decide)
 have hfree:∀ y∈scope.names,y.2 = .free->X.env.kindOf y.1=some .cell:=fun y hy e=>by
  have:=Gn.mp hfree0 y hy
  rw [e] at this; simpa using this
 have hnames:∀ y∈scope.names,y.2 = .local->scope.names.lookup y.1=some .local:=fun y hy e=>by
  have:=Gn.mp hnames0 y hy
  rw [e] at this; simpa using this
 have hcl:∀ y∈scope.names,y.2 = .free->∃ c,X.env.cells.lookup y.1=some c:=fun y hy e=>I.ok.has y.1 (.inl (hfree y hy e))
 refine wpAny_comprehension_free (use:=use) rfl hs (rA hcl) hk hnames ?_
 generalize ecl:oF X.env.cells scope.names []=cl
 -- the cells of the block are the def's
 have cl1:∀ x c,cl.lookup x=some c->X.env.cells.lookup x=some c:=fun x c e=>by
  have m:=lookup_mem e
  rw [<- ecl] at m
  rcases jN.mp m with z | ⟨z,z'⟩
  ·cases z
  ·obtain ⟨a,ea⟩:=hcl _ z rfl
   have ea':X.env.cells.lookup x=some a:=ea
   have z2:c=(X.env.cells.lookup x).getD 0:=z'
   rw [ea',Jg] at z2
   rw [ea',z2]
 have cl2:∀ x,(x,Kl)∈scope.names->∃ c,cl.lookup x=some c:=fun x hx=>by
  have m:(x,(X.env.cells.lookup x).getD 0)∈cl:=by rw [<- ecl]; exact jN.mpr (.inr ⟨hx,rfl⟩)
  exact mem_lookup m
 refine aI (hi pins s σ H _ I h) fun v s1 h1=>aI h1 fun itv s2 h2=>?_
 obtain ⟨it,fp,tn,J,H2,e,I2,T,st2,f2,body⟩:=h2
 subst e
 refine IS (wpAny_newFunctionEnv hcell (by intro y hy; simp at hy) (fun h₁ hns₁ hsb₁=>?_) hk)
 dsimp only at hns₁ hsb₁ |-
 have hD:H2 s2.heap.objs.size=none:=I2.hok.fresh (Fy _)
 obtain ⟨W,⟨m0,w0⟩,turn⟩:=body _ hD
 have I3:Inv X pins σ (upd H2 s2.heap.objs.size (.lst [])) { s2 with heap:=s2.heap.push { cls:=.type "list",dict:=none,data:=.seq ([]:List Fk).toArray } } :=
  I2.laid (t':=s2.toks) (fun b o e=>Ft _ e) (Fy _) ⟨FI _,[],0,.nil,Gc _ rfl⟩
 generalize hs3:({ s2 with heap:=s2.heap.push { cls:=.type "list",dict:=none,data:=.seq ([]:List Fk).toArray } }:Fq)=s3 at I3
 have es3:s2.heap.push { cls:=.type "list",dict:=none,data:=.seq ([]:List Fk).toArray }=s3.heap:=by rw [<- hs3]
 rw [es3] at hns₁ hsb₁ |-
 generalize hD':s2.heap.objs.size=D at *
 generalize hH3:upd H2 D (.lst [])=H3 at *
 have szC:s3.heap.objs.size=D+1:=by rw [<- es3,Hk,hD']
 -- what was,is
 have old:∀ b o,s3.heap.get? b=some o->h₁.get? b=some o:=fun b o e=>hsb₁.extBut b o (Gk (FK e)) (Ft _ e)
 have fpl:∀ b∈fp,b < D:=fun b hb=>by
  obtain ⟨o,e,_⟩:=T.obj 0 _ st2 b hb
  rw [<- hD']; exact FK e
 have fpD:∀ b∈fp,H3 b=none:=fun b hb=>by
  rw [<- hH3,upd_ne (Gk (fpl b hb))]; exact (f2 b hb).1
 have fstk:∀ b∈fp,b∉g8 X.stack:=fun b hb z=>by
  obtain ⟨_,f1,f3,_⟩:=f2 b hb
  rcases FL.mp (I2.stkSub b z) with e | e
  ·exact f1 e
  ·exact f3 e
 let E':Fk->Fq->Prop:=notedBy (model X.prog X.w) X.A (compEnvC scope cl s3.heap.objs.size X.env) fun e s'=>compPost (model X.prog X.w) X.A X.xe use Qv (.ref D) s3.heap.objs.size (.error e) s'
 have ok':(cy X scope N cl s3.heap.objs.size s3 H3 fp E').Ok:=by
  refine { mod:=I.ok.mod,kind:=?_,glob:=I.ok.glob,blt:=I.ok.blt,above:=Fy _,inj:=?_,has:=?_,cab:=?_,hd:=I.ok.hd,frames:=I.ok.frames,stk:=.inl rfl,exf:=?_,bs:=I3.bs,bsz:=?_,noex:=?_,exfs:=fstk,funs:=I3.stack,frf:=I3.stkFree }
  ·show (relabel scope X.env).kind = .function
   exact hk
  ·exact fun x y c e1 e2=>I.ok.inj x y c (cl1 x c e1) (cl1 y c e2)
  ·intro x hx
   have hx':(relabel scope X.env).names.lookup x=some .cell\/(relabel scope X.env).names.lookup x=some .free:=hx
   have:(x,Kl)∈scope.names:=by
    rcases hx' with e | e
    ·obtain ⟨k',hm,z | ⟨z,_⟩⟩:=gJ e
     ·subst z; exact absurd rfl (hcell _ hm)
     ·subst z; exact hm
    ·obtain ⟨k',hm,z | ⟨z,z'⟩⟩:=gJ e
     ·subst z; exact hm
     ·cases z'
   exact cl2 x this
  ·intro x c z; cases z
  ·intro b hb
   refine ⟨fun z=>?_,fun x c e=>(f2 b hb).2.2.2.2.1 x c (cl1 x c e)⟩
   have lt:=fpl b hb
   have z':b=s3.heap.objs.size:=z
   rw [z',szC] at lt
   exact absurd lt (Nat.not_lt.mpr (IJ D))
  ·exact GM I3.ok.bsz I3.sz
  ·intro b o e hb
   rcases (f2 b hb).2.2.2.1 with z | z
   ·exact I.ok.noex b o e z
   ·exact absurd (Gm (FK e) (GM I.ok.bsz z)) (Hg _)
 have I4:∀ tk,Inv (cy X scope N cl s3.heap.objs.size s3 H3 fp E') [] (fv ix σ) H3 { s3 with heap:=h₁,toks:=tk }:=fun tk=>by
  refine ⟨ok',rfl,I3.bare,Un.kept old,⟨_,hns₁,fun i x v e1 e2 e3=>?_⟩,fun x c e=>?_,?_,fun x c e=>I3.freeC x c (cl1 x c e),fun p hp=>(by cases hp),I3.hok.kept old,?_⟩
  ·obtain ⟨j,j1,j2,j3,j4⟩:=caps.get i x v e1 e2
   obtain ⟨m,hn,hl⟩:=I3.loc
   obtain ⟨u,r,l⟩:=hl j x v j1 j2 (.inr (.inl j3))
   refine ⟨u,r,.inr ⟨.inl j4,?_⟩⟩
   rcases l with ⟨l,_⟩ | ⟨_,c,ec,hcell⟩
   ·have l':X.env.kindOf x=some .local:=l
    rw [j3] at l'; cases l'
   ·obtain ⟨k',hm,z | ⟨z,_⟩⟩:=gJ j4
    ·subst z; exact absurd rfl (‹∀ y∈scope.names,y.2≠.cell› _ hm)
    ·subst z
     obtain ⟨c',ec'⟩:=cl2 x hm
     have:=cl1 x c' ec'
     rw [ec] at this; cases this
     obtain ⟨o,ho,hd⟩:=hcell
     exact ⟨c,ec',o,old _ _ ho,hd⟩
  ·obtain ⟨v,o,ho,hd⟩:=I3.cell x c (cl1 x c e)
   exact ⟨v,o,old _ _ ho,hd⟩
  ·exact I3.hok.fresh (Fy _)
  ·show (fv ix σ).length=N.length
   rw [<- caps.length]; simp [fv]
 have st4:tn 0 h₁:=T.keep 0 _ _ st2 fun b hb o e=>old b o (by rw [<- es3]; exact Ft _ e)
 -- the block's end
 have fin6:∀ (s6:Fq) (H6:Hp),Inv (cy X scope N cl s3.heap.objs.size s3 H3 fp E') [] (fv ix σ) H6 s6->Q (.ref D) H6 ->
   compPost (model X.prog X.w) X.A X.xe use Qv (.ref D) s3.heap.objs.size (.ok .next) s6:=fun s6 H6 I6 q=>by
  obtain ⟨m,hn,_⟩:=I6.loc
  refine fin s3.heap.objs.size D H6 s6 ⟨I3.call' (s':=s6) (ch:=fp) I6.os I6.base I6.hok I6.bare ?_,⟨m,hn⟩,I6.free,?_,I3.sz,?_,?_⟩ q
  ·intro b hb
   obtain ⟨_,f1,_,f3,f4,f5⟩:=f2 b hb
   exact ⟨f3,f1,f4,f5⟩
  ·exact J7 I3.lt
  ·intro x c e z
   obtain ⟨v,o,ho,_⟩:=I3.cell x c e
   exact absurd (FK ho) (by rw [z]; exact Hg _)
  ·intro p hp z
   exact absurd (FK (I3.pin p hp).1) (by rw [z]; exact Hg _)
 -- the loop
 have loop:∀ s4:Fq,s4={ s3 with heap:=h₁,toks:=s2.toks+([]:List (Str × Fk)).length } ->
   codeAny (model X.prog X.w) X.A (.compLoop (.ListComp elt [⟨tg,iter,ifs,0⟩] scope pos) 0 (.ref it) (.ref D) (compEnvC scope cl s3.heap.objs.size X.env)) (compPost (model X.prog X.w) X.A X.xe use Qv (.ref D) s3.heap.objs.size) s4:=by
  rintro s4 rfl
  refine uh (fun n s'=>∃ i ys H',Inv (cy X scope N cl s3.heap.objs.size s3 H3 fp E') [] (fv ix σ) H' s'/\tn i s'.heap/\(∀ b∈fp,H' b=none)/\W i n ys H') ?_ m0 ⟨0,[],H3,I4 _,st4,fpD,w0⟩
  rintro n s5 ⟨i,ys,H5,I5,st5,fr5,w5⟩
  have stat:∀ {H':Hp},(∀ b∈fp,H' b=none)->∀ b∈fp,jV (cy X scope N cl s3.heap.objs.size s3 H3 fp E') [] H' b:=fun hn b hb=>by
   refine ⟨hn b hb,fun z=>?_,fstk b hb,.inl hb,fun x c e=>(f2 b hb).2.2.2.2.1 x c (cl1 x c e),fun p hp=>(by cases hp)⟩
   have lt:=fpl b hb
   have z':b=s3.heap.objs.size:=z
   rw [z',szC] at lt
   exact absurd lt (Nat.not_lt.mpr (IJ D))
  rcases turn i n ys H5 w5 with ⟨stop,q⟩ | ⟨go,step⟩
  ·refine aI (T.done (cy X scope N cl s3.heap.objs.size s3 H3 fp E') rfl rfl rfl hc i [] s5 _ H5 E' I5 (stat fr5) st5 stop) fun r s6 ⟨hr,I6⟩=>?_
   subst hr
   exact fin6 s6 H5 I6 q
  ·refine aI (T.item (cy X scope N cl s3.heap.objs.size s3 H3 fp E') rfl rfl rfl hc i [] s5 _ H5 E' I5 (stat fr5) st5 go) fun r s6 ⟨u,hr,h6⟩=>?_
   subst hr
   refine aI h6 fun _ s7 ⟨x,H7,I7,r7,y7,st7,fr7⟩=>?_
   have I7':=I7.pinned (stat fr7) (T.obj _ _ st7)
   refine aI (hg cl s3.heap.objs.size s3 H3 fp E' _ s7 _ H7 x u _ I7' r7 (step x H7 y7)) fun _ s8 ⟨σ8,H8,I8,ext,q8⟩=>?_
   have again:∀ {σ9:St} {H9:Hp} {s9:Fq} {m':Nat} {zs:List V},Ext (fv ix σ) σ9->Inv (cy X scope N cl s3.heap.objs.size s3 H3 fp E') ([]++i3 fp s7.heap) σ9 H9 s9->m' < n->W (i+1) m' zs H9 ->
     ∃ m,m < n/\∃ i ys H',Inv (cy X scope N cl s3.heap.objs.size s3 H3 fp E') [] (fv ix σ) H' s9/\tn i s9.heap/\(∀ b∈fp,H' b=none)/\W i m ys H':=fun {σ9 H9 s9 m' zs} ex I9 hm w9=>by
    refine ⟨m',hm,i+1,zs,H9,(I9.unpinned).weak ex.1.symm ex.2,T.keep _ _ _ st7 fun b hb o e=>(I9.pin (b,o) (GE _ (GE _ (gf hb e)))).1,fun b hb=>?_,w9⟩
    obtain ⟨o,e,d⟩:=T.obj _ _ st7 b hb
    exact (I9.pin (b,o) (GE _ (GE _ (gf hb e)))).2.1
   refine aI (ht cl s3.heap.objs.size s3 H3 fp E' _ s8 σ8 H8 _ I8 q8) fun ok s9 ⟨H9,I9,q9⟩=>?_
   cases ok with
   | false =>
    obtain ⟨m',hm,w9⟩:=q9
    exact again ext I9 hm w9
   | true =>
    refine aI (he cl s3.heap.objs.size s3 H3 fp E' _ s9 σ8 H9 _ I9 q9) fun u10 s10 ⟨v10,H10,I10,r10,hDl,hlt,m',hm,w10⟩=>?_
    refine aI (bx (X:=cy X scope N cl s3.heap.objs.size s3 H3 fp E') _ s10 σ8 H10 (.ref D) [v10] (.ref D) [u10] (fun _ H'=>H'=upd H10 D (.lst (ys++[v10]))) I10 rfl (.cons r10 .nil) ⟨D,ys,v10,rfl,rfl,hDl,hlt,rfl⟩) fun _ s11 ⟨_,H11,I11,_,e11⟩=>?_
    subst e11
    exact again ext I11 hm w10
 exact codeAny_compStart_list (loop _ (by rw [<- hs3])) (T.self _ 0 _ _ _ st4 (loop _ (by rw [<- hs3])))
theorem bS {elt tg iter:II} {ifs:List II} {scope:KG} {pos:Pos} {N:List Str} {ix:List (Option Nat)} {wi:TI} {g:TG} {tt:TT} {te:TE}
  (hc:X.calm=true) (hi:PI X tg iter wi) (hk:scope.kind = .function) (hcell0:nQ scope=true) (hfree0:freeOk scope X.env=true) (hnames0:namesOk scope=true) (caps:fT X scope N ix)
  (hg:∀ cl C s H fp xe,PG (cy X scope N cl C s H fp xe) tg g) (ht:∀ cl C s H fp xe,vx (cy X scope N cl C s H fp xe) ifs tt) (he:∀ cl C s H fp xe,PE (cy X scope N cl C s H fp xe) elt te)
  (hs:∀ x,foldedSetIterable iter X.env x=pure x:=by intro _; rfl) :
  PE X (.ListComp elt [⟨tg,iter,ifs,0⟩] scope pos) (rY wi g tt te ix):=by
 intro pins s σ H Q I h
 rw [eval_ListComp]
 refine mJ (use:=none) hc hi hk hcell0 hfree0 hnames0 caps hg ht he hs I h fun C D H6 s6 B q=>?_
 obtain ⟨m,hn⟩:=B.ns
 exact ⟨m,hn,fun h' hsb=>⟨.ref D,H6,B.gone hsb,rfl,q⟩⟩
noncomputable def DH (i:Nat) (te:TE):TS:=fun D σ H=>te σ H fun x H1=>D.nx (σ.set i (some x)) H1
theorem gh {i:Nat} {y:Str} {py:Pos} {spos:Pos} {elt tg iter:II} {ifs:List II} {scope:KG} {pos:Pos} {N:List Str} {ix:List (Option Nat)} {wi:TI} {g:TG} {tt:TT} {te:TE}
  (hN:X.N.Nodup) (hi':X.N[i]? = some y) (hx:Loc X.env.scope y) (hsw:swapsWith (.ListComp elt [⟨tg,iter,ifs,0⟩] scope pos) (some (.Name y py)) spos.line X.env=pure true)
  (hc:X.calm=true) (hi:PI X tg iter wi) (hk:scope.kind = .function) (hcell0:nQ scope=true) (hfree0:freeOk scope X.env=true) (hnames0:namesOk scope=true) (caps:fT X scope N ix)
  (hg:∀ cl C s H fp xe,PG (cy X scope N cl C s H fp xe) tg g) (ht:∀ cl C s H fp xe,vx (cy X scope N cl C s H fp xe) ifs tt) (he:∀ cl C s H fp xe,PE (cy X scope N cl C s H fp xe) elt te)
  (hs:∀ x,foldedSetIterable iter X.env x=pure x:=by intro _; rfl) (hf:X.fn y=true\/X.env.scope.names.lookup y=some .local:=by first | exact .inl rfl | exact .inr rfl | assumption) :
  PS X (.Assign [.Name y py] (.ListComp elt [⟨tg,iter,ifs,0⟩] scope pos) spos) (DH i (rY wi g tt te ix)):=by
 intro pins s σ H D I h
 rw [exec_Assign_Name_used _ _ _ _ hsw]
 refine mo (La (mo ?_))
 show wpAny _ X.A (do let _ <- comprehension (.ListComp elt [⟨tg,iter,ifs,0⟩] scope pos) scope X.env _ (newList []) false (eval iter X.env) (some (assign (.Name y py) X.env))) _ _ s
 refine mo (IC (mJ (use:=some (assign (.Name y py) X.env)) (Qv:=fun _ s'=>SP X pins D .next s') hc hi hk hcell0 hfree0 hnames0 caps hg ht he hs I h fun C a H6 s6 B q=>?_) (fun _ s' hq=>Fv (Fv hq)) fun _ _ e=>e)
 obtain ⟨m,hn⟩:=B.ns
 show wpAny _ X.A (assign (.Name y py) X.env (.ref a)) _ _ s6
 refine wpAny_assign_Name (mx B.inv hN hi' hx (v:=.ref a) rfl (fun s7 I7 ⟨z,hz,hz'⟩=>?_) hf)
 have hzC:C≠z:=by
  rcases hz' with e | e
  ·rw [e]; exact B.loc
  ·exact fun w=>B.cell y z e w.symm
 refine ⟨m,hn.sameBut hz hzC,fun h' hsb=>?_⟩
 have B7:ir X pins (σ.set i (some (.ref a))) H6 C s7:=⟨I7,⟨m,hn.sameBut hz hzC⟩,B.free,B.loc,B.young,B.cell,B.pin⟩
 exact ⟨_,H6,B7.gone hsb,q⟩
theorem kW {lo:Int} {n:Nat} {g:TG} {tt:TT} {te:TE} {σ0:St} {H:Hp} {D:FD} {Q:VK} (f:Nat->V) (hz:n<=sizeLine)
  (hs:∀ (i:Nat) (H':Hp) (R:VK) (R0:Hp->Prop),i < n->(∀ b,b≠D->H' b=H b)->R (f i) H'->g (.int (lo+i)) σ0 H' fun σ2 H2=>Ext σ0 σ2/\tt σ2 H2 fun b H3=>if b=true then te σ2 H3 R else R0 H3)
  (hq:Q (.ref D) (upd H D (.lst ((FC n).map f)))) :
  nq (ny lo n) g tt te σ0 D Q H:=by
 refine ⟨fun i m ys H'=>m=n - i/\i<=n/\ys=(FC i).map f/\H'=upd H D (.lst ys),⟨n,by simp,FI _,rfl,rfl⟩,?_⟩
 rintro i m ys H' ⟨rfl,hi,rfl,rfl⟩
 by_cases hlt:i < n
 ·refine .inr ⟨hlt,fun x H'' y=>?_⟩
  obtain ⟨e,y⟩:=y
  subst e y
  refine hs i _ _ _ hlt (fun b hb=>upd_ne hb) ⟨upd_same,by simp; lia,n - (i+1),by lia,rfl,hlt,?_,?_⟩
  ·rw [IT,Fu]; rfl
  ·rw [l3]
 ·have e:i=n:=by lia
  subst e
  exact .inl ⟨Fy _,hq⟩
theorem eW {K:Ga} {a:FD} {xs:List V} {g:TG} {tt:TT} {te:TE} {σ0:St} {H:Hp} {D:FD} {Q:VK} (f:V->V) (hz:xs.length<=sizeLine) (hx:ai K H a xs) (hD:H D=none)
  (hs:∀ (i:Nat) (x:V) (H':Hp) (R:VK) (R0:Hp->Prop),xs[i]? = some x->(∀ b,b≠D->H' b=H b)->R (f x) H'->g x σ0 H' fun σ2 H2=>Ext σ0 σ2/\tt σ2 H2 fun b H3=>if b=true then te σ2 H3 R else R0 H3)
  (hq:Q (.ref D) (upd H D (.lst (xs.map f)))) :
  nq (pF K a) g tt te σ0 D Q H:=by
 have stays:∀ ys:List V,ai K (upd H D (.lst ys)) a xs:=fun ys=>by
  have sm:ae H (upd H D (.lst ys)):=fun b u q=>by rw [upd_ne (ar q hD)]; exact q
  exact sm.seq hx
 refine ⟨fun i m ys H'=>m=xs.length - i/\i<=xs.length/\ys=(xs.take i).map f/\H'=upd H D (.lst ys),⟨xs.length,by simp,FI _,by simp,rfl⟩,?_⟩
 rintro i m ys H' ⟨rfl,hi,rfl,rfl⟩
 by_cases hlt:i < xs.length
 ·refine .inr ⟨⟨xs,xs[i],stays _,by simp [hlt]⟩,fun x H'' y=>?_⟩
  obtain ⟨e,y⟩:=y
  subst e
  have ex:=y xs (stays _)
  refine hs i x _ _ _ ex (fun b hb=>upd_ne hb) ⟨upd_same,by simp; lia,xs.length - (i+1),by lia,rfl,hlt,?_,?_⟩
  ·rw [FT,ex,Fu]; rfl
  ·rw [l3]
 ·have e:i=xs.length:=by lia
  subst e
  refine .inl ⟨⟨xs,stays _,Fy _⟩,?_⟩
  rw [Jh]
  exact hq
end
end L2
namespace L2
open PySem PySem.Spec PyProof.Rows
section
variable {P:Gi} {w:GF} {H:Hp} {h h':HM} {a:FD} {o:HO}
end
def E6 (h:HM) (e T:FD) (cls:Fk) (od:Option FD) (fl:Fk):Prop:=∃ oe vs oT ts,h.get? e=some oe/\oe.cls=cls/\oe.data = .fields vs/\vs[1]? = some (.ref T)/\T≠e/\h.get? T=some oT/\oT.data = .fields ts/\ts[3]? = some fl/\∀ d,od=some d->oe.dict=some d
noncomputable abbrev Tr (h:HM) (e T:FD) (cls:Fk) (od:Option FD):Prop:=E6 h e T cls od .none
section
variable {M:Model} {A:GG} {E:Fk->Fq->Prop} {s:Fq} {Q:Unit->Fq->Prop} {base:HM} {env:Env} {outer l:List Env} {L e T:FD} {cls:Fk}
end
section
variable {X:Cx} {pins:List (FD × Obj)} {σ:St} {H:Hp} {s:Fq} {h':HM} {ch:List FD}
structure wB (X:Cx) (pins:List (FD × Obj)) (H:Hp) (b:FD):Prop where
 new:X.s₀.heap.get? b=none
 free:H b=none
 loc:b≠X.env.locals
 cell:∀ x c,X.env.cells.lookup x=some c->c≠b
 pin:∀ p∈X.pn++pins,p.1≠b
end
noncomputable def uT (P:Gi) (w:GF):fW:=fun outer H s E e s'=>∃ (ea T:FD) (cls:Fk) (od:Option FD) (H':Hp),e = .ref ea/\s.heap.get? ea=none/\s.heap.get? T=none/\H' ea=none/\H' T=none/\Tr s'.heap ea T cls od /\
 s'.os=s.os/\K8 s'.gens/\Un (g8 outer) [] H H' s.heap s'.heap/\dm P w H' s'.heap/\E cls od H'
theorem kS {P:Gi} {w:GF} {X:Cx}:Passes (uT P w) X E0:=by
 intro _ _ _ _ _ _ _ h
 obtain ⟨_,_,_,_,_,_,_,_,_,_,_,_,_,_,_,q⟩:=h
 exact q.elim
section
variable {P:Gi} {w:GF} {K:Ga} {mg:Str->Option Fk} {base:HM} {N:List Str} {qual:Str} {scope:KG} {f:FD} {cd:Fk} {A:GG} {outer:List Env} {s:Fq} {H:Hp} {E:XK}
end
section
variable {P:Gi} {w:GF} {K:Ga} {mg:Str->Option Fk} {base:HM}
theorem bL.up {CX:fW} {k:Nat} {f:FD} {fd:G7} {ps:List Str} {sp:Sp} (F:bL P w K mg base kX k f fd ps sp):bL P w K mg base CX k f fd ps sp :=
 ⟨F.len,fun A outer s H args us vs Q E hr he hb hv hs=>JM (F.run A outer s H args us vs Q E hr he hb hv hs) fun r s' q=>by
  cases r with
  | error e=>exact Il q
  | ok fl=>cases fl<;>exact q⟩
end
section
variable {X:Cx} {pins:List (FD × Obj)} {σ:St} {H:Hp} {s:Fq} {e:FD}
end
end L2
namespace L2
open PySem PySem.Spec PyProof.Rows
structure Def (P:Gi) (w:GF) (K:Ga) (mg:Str->Option Fk) (base:HM) (x:Str) (ps:List Str) (k:Nat) (sp:Sp) (f:FD) (fd:G7):Prop where
 ok:bL P w K mg base (uT P w) k f fd ps sp
 b:Binds K fd ps []
 kp:W.keepIn K (.ref f)=true
 m:mg x=some (.ref f)
section
variable {X:Cx} {f:FD} {fd:G7} {ps:List Str} {sp:Sp} {x:Str} {p pos:Pos} {e:II} {es:List II} {t:TA} {j k:Nat}
theorem aF (D:Def X.prog X.w X.K X.mg X.base x ps j sp f fd) (hr:bI k X.A) (ha:PA X (e::es) t) (hjk:j<=k:=by decide) (hg:Gl X x:=by rfl)
  (hdb:(x == ("__debug__" : Str))=false:=by decide) (he:starEach (e::es) X.env=(false,eval e X.env)::starEach es X.env:=by rfl) (hpl:(backTo pos (starEach es X.env)).any (·.1)=false:=by rfl) :
  PE X (.Call (.Name x p) (e::es) [] pos) (sI sp [] E0 t):=yT D.ok (hr.mono hjk) hg D.m D.kp D.b .nil kS ha hdb he hpl
end
theorem aU:bootBuiltins "isinstance" = some (.builtin "isinstance"):=by decide +kernel
theorem pE:bootBuiltins "int" = some (.type "int"):=by decide +kernel
theorem qx:bootBuiltins "bool" = some (.type "bool"):=by decide +kernel
theorem dC:bootBuiltins "list" = some (.type "list"):=by decide +kernel
theorem ki:bootBuiltins "tuple" = some (.type "tuple"):=by decide +kernel
theorem oW:bootBuiltins "max" = some (.builtin "max"):=by decide +kernel
theorem n8:bootBuiltins "sum" = some (.builtin "sum"):=by decide +kernel
theorem du:bootBuiltins "len" = some (.builtin "len"):=by decide +kernel
theorem ae.upd {H H':Hp} (h:ae H H') {p:FD} (n:H p=none) (o:HO):ae H (L2.upd H' p o):=fun b u q=>by
 rw [upd_ne (ar q n)]; exact h b u q
theorem ae.new {H H':Hp} (h:ae H H') {p:FD} (n:H' p=none) (o:HO):ae H (L2.upd H' p o):=h.trans fun b u q=>by
 rw [upd_ne (ar q n)]; exact q
theorem sz {n:Nat} (h:n<=1000000):n<=sizeLine:=GM h (by decide)
theorem fX {n:Nat} (h:n<=1000000):n < sizeLine:=IF h (by decide)
theorem gL {K:Ga}:Ij K (.type "int") (.type "int")=some true:=by rfl
theorem eI {K:Ga}:Ij K (.type "list") (.type "list")=some true:=by rfl
theorem i4 {K:Ga}:Ij K (.type "int") (.type "bool")=some false:=by rfl
theorem dF {ns:List Int} {i:Int} (h0:0<=i) (h1:i < (ns.length:Int)):bW (ns.map V.int) i=some (.int (ns.getD i.toNat 0)):=by
 have hk:i.toNat < ns.length:=by lia
 have ek:i=((i.toNat:Nat):Int):=by lia
 have q:bW (ns.map V.int) ((i.toNat:Nat):Int)=some (.int (ns.getD i.toNat 0)):=fH (by rw [GD,AC,Da hk]<;>rfl)
 rw [<- ek] at q
 exact q
end L2
namespace L2
open PySem PySem.Spec PyProof.Rows
theorem fV {σ:St} {H:Hp} {F:Bool->Hp->Prop} (h:F true H):xS σ H F:=h
theorem fo {X:Cx} {K:Ga} (h:X.K=K):jD X (wL K):=h▸aN
theorem pm {j:Int} (h:0 < j):0 < j:=h
theorem log2_small {j:Int} (h0:0 < j) (h1:j < 2 ^ 63):j.natAbs.log2 < 9000:=by
 have e:j.natAbs < 2 ^ 63:=by lia
 have:=(Nat.log2_lt (n:=j.natAbs) (k:=63) (by lia)).mpr e
 lia
noncomputable def kB (ns:List Int) (lo hi:Option Int):List Int:=(ns.drop (HT.sIx ns.length 0 lo)).take (HT.sIx ns.length ns.length hi - HT.sIx ns.length 0 lo)
theorem n5 (ns:List Int) (lo hi:Option Int):cW (ns.map V.int) lo hi=(kB ns lo hi).map V.int:=by
 unfold cW kB
 rw [Do,List.map_take,L6]
theorem cX {ns:List Int} {i:Nat} {x:V} (h:(ns.map V.int)[i]? = some x):∃ c,x = .int c:=by
 rw [GD] at h
 cases e:ns[i]? with
 | none=>rw [e] at h; cases h
 | some c=>rw [e] at h; cases h; exact ⟨c,rfl⟩
end L2
namespace L2
open PySem PySem.Spec PyProof.Rows
noncomputable def jQ (t u:TS):TS:=fun D σ H=>∃ P:St->Hp->Prop,t { D with nx:=P } σ H/\∀ σ' H',P σ' H'->u D σ' H'
theorem eQ {X:Cx} {st:IB} {rest:List IB} {t u:TS} (h1:PS X st t) (h2:gr X rest u):gr X (st::rest) (jQ t u):=by
 intro pins s σ H D I h
 obtain ⟨P,ha,hb⟩:=h
 refine Lm (aI (h1 pins s σ H { D with nx:=P } I ha) fun f s1 q=>?_)
 cases f with
 | next =>
  obtain ⟨σ',H',I',q⟩:=q
  exact h2 pins s1 σ' H' D I' (hb σ' H' q)
 | ret v=>exact q
 | brk=>exact q
 | cont=>exact q
theorem bG {c A B:Prop} [Decidable c] (hc:c) (h:A):if decide c=true then A else B:=by rw [decide_eq_true hc]; exact bw h
theorem aZ {c A B:Prop} [Decidable c] (hc:¬ c) (h:B):if decide c=true then A else B:=by rw [decide_eq_false hc]; exact bB h
end L2
namespace Ck
noncomputable def cR:Nat->Int
 | 0=>1
 | k+1=>cR k*(4*(k:Int)+2) / ((k:Int)+2)
noncomputable def cN:Nat->Nat
 | 0=>1
 | k+1=>cN k*(4*k+2) / (k+2)
theorem ni:∀ k,cR k=(cN k:Int)
 | 0=>rfl
 | k+1=>by
  rw [cR,cN,ni k,Int.natCast_ediv,Int.natCast_mul]
  rfl
noncomputable def bK:Nat->List Int
 | 0=>[1]
 | k+1=>bK k++[((FC (k+1)).map fun j=>(bK k).getD j 0*(bK k).getD (k - j) 0).sum]
noncomputable def sh (k:Nat):Int:=(bK k).getD k 0
theorem bD:∀ k,(bK k).length=k+1
 | 0=>rfl
 | k+1=>by rw [bK,Fw,bD k]; rfl
theorem cJ:∀ (n j:Nat),j<=n->(bK n).getD j 0=sh j
 | 0,j,h=>by
  have e:j=0:=by lia
  subst e; rfl
 | n+1,j,h=>by
  by_cases e:j=n+1
  ·subst e; rfl
  ·rw [bK,AC,Hn (by rw [bD]; lia),<- AC]
   exact cJ n j (by lia)
theorem jo:sh 0=1:=rfl
theorem lY (k:Nat):sh (k+1)=((FC (k+1)).map fun j=>sh j*sh (k - j)).sum:=by
 have e:sh (k+1)=((FC (k+1)).map fun j=>(bK k).getD j 0*(bK k).getD (k - j) 0).sum:=by
  unfold sh
  rw [bK,AC,GX (by rw [bD]; lia),bD,Nat.sub_self]
  rfl
 rw [e]
 congr 1
 refine Gw fun j hj=>?_
 have:=FV.mp hj
 rw [cJ k j (by lia),cJ k (k - j) (by lia)]
theorem nC (n:Nat):bK n=(FC (n+1)).map sh:=by
 refine List.ext_getElem? fun i=>?_
 by_cases h:i < n+1
 ·rw [GD,Kv h]
  have:=cJ n i (by lia)
  rw [AC,Da (by rw [bD]; lia)] at this
  rw [Da (by rw [bD]; lia)]
  exact congrArg some this
 ·rw [Hc (by rw [bD]; lia),Hc (by simp; lia)]
theorem wI (k:Nat):bK (k+1)=bK k++[sh (k+1)]:=by
 rw [nC,nC,IT (n:=k+1),Fu]; rfl
noncomputable def qI:Nat->List Nat
 | 0=>[1]
 | k+1=>qI k++[((FC (k+1)).map fun j=>(qI k).getD j 0*(qI k).getD (k - j) 0).sum]
theorem nT:∀ l:List Nat,((l.sum:Nat):Int)=(l.map fun n:Nat=>(n:Int)).sum
 | []=>rfl
 | a::l=>by rw [Jt,FQ,Jt,Int.natCast_add,nT l]
theorem iX (l:List Nat) (j:Nat):(l.map fun n:Nat=>(n:Int)).getD j 0=((l.getD j 0:Nat):Int):=by
 rw [AC,GD,AC]
 cases l[j]?<;>rfl
theorem ql:∀ k,bK k=(qI k).map fun n:Nat=>(n:Int)
 | 0=>rfl
 | k+1=>by
  rw [bK,qI,Fu,ql k]
  congr 1
  rw [FQ,Ka,nT,GC]
  congr 2
  refine Gw fun j _=>?_
  rw [iX,iX]
  exact (Int.natCast_mul _ _).symm
theorem AH:qI 61=(FC 62).map cN:=by decide +kernel
theorem iL {k:Nat} (h:k<=61):sh k=cR k:=by
 rw [ni,<- cJ 61 k h,ql,iX,AH,AC,GD,Kv (by lia)]
 rfl
theorem wG:((FC 37).all fun k=>decide (cN k < 18446744073709551616))=true:=by decide +kernel
theorem iH {k:Nat} (h:k<=36):0<=sh k/\sh k < 2 ^ 64:=by
 rw [iL (by lia),ni]
 have q:=Gn.mp wG k (FV.mpr (by lia))
 have q':=of_decide_eq_true q
 have e:(2:Int) ^ 64=18446744073709551616:=by decide
 lia
end Ck
namespace Ck
noncomputable def r:Nat->Nat->Int
 | 0,_=>1
 | _+1,0=>0
 | u+1,d+1=>if d < u then 0 else r u (d+1)+r (u+1) d
noncomputable def row (n u:Nat):List Int:=(FC (n+1 - u)).map fun i=>r u (u+i)
noncomputable def pw (a:Int):Nat->Int
 | 0=>1
 | k+1=>pw a k*a
end Ck
namespace Ck
noncomputable def lt:List Nat->List Nat->Bool
 | c::s,e::t=>if c=e then lt s t else c == 40
 | _,_=>false
end Ck
namespace Ck
open PySem
noncomputable def ix (n d:Nat):Option Int->Nat
 | none=>d
 | some v=>if v < 0 then (v+(n:Int)).toNat else min v.toNat n
end Ck
namespace Ck
open PySem L2
theorem AM {i j:Nat} (h:i+j<=60):gR (sh i) (sh j):=by
 have two:(0:Int) < 2 ^ 64:=by decide
 by_cases hi:i<=36
 ·have:=iH hi
  exact .inl ⟨by lia,this.2⟩
 ·have:=iH (k:=j) (by lia)
  exact .inr ⟨by lia,this.2⟩
end Ck
namespace L2
open PySem
theorem uP (ns:List Int):kB ns (some 1) none=ns.drop 1:=by
 unfold kB
 have e1:HT.sIx ns.length 0 (some 1)=min 1 ns.length:=HT.sIx_nat _ _ 1
 rw [e1,HT.sIx_none]
 cases ns with
 | nil=>rfl
 | cons a r =>
  have e2:min 1 (a::r).length=1:=by simp
  rw [e2]
  exact FB (by simp)
end L2
namespace Ck
open PySem L2
end Ck
namespace L2
open PySem PySem.Spec PyProof.Rows
end L2
namespace Ck
open PySem L2
end Ck
namespace L2
open PySem PySem.Spec PyProof.Rows
section
variable {X:Cx} {tg:II}
end
noncomputable def jF:List V->List V->Bool
 | [],[]=>true
 | x::xs,y::ys=>gW x y&&jF xs ys
 | _,_=>false
theorem qJ:∀ {xs ys:List V},xs.length≠ys.length->jF xs ys=false
 | [],[],h=>absurd rfl h
 | [],_::_,_=>rfl
 | _::_,[],_=>rfl
 | x::xs,y::ys,h=>by
  rw [jF,qJ (xs:=xs) (ys:=ys) (by simpa using h),Jy]
theorem qE:∀ {xs ys:List V},xs.length=ys.length->(FC xs.length).all (fun j=>gW (xs.getD j .non) (ys.getD j .non))=jF xs ys
 | [],[],_=>rfl
 | x::xs,y::ys,h=>by
  rw [jF,<- qE (xs:=xs) (ys:=ys) (by simpa using h),FZ,Iy,L7,LC]
  rfl
noncomputable def D3 (K:Ga) (neg:Bool):R2:=fun x y H Q=>∃ a b xs ys,x = .ref a/\y = .ref b/\ai K H a xs/\ai K H b ys/\xs.all gi=true/\ys.all gi=true/\Q (.bl (if neg then !jF xs ys else jF xs ys)) H
section
variable {X:Cx}
theorem items_eqAt {A:GG} {s:Fq} {xs ys:List V} {us vs:List Fk} (r:Vals xs us) (r':Vals ys vs) (fx:xs.all gi=true) (fy:ys.all gi=true) :
  ∀ j (h1:j < us.toArray.size) (h2:j < vs.toArray.size),SeqAt.EqAt A s us.toArray[j] vs.toArray[j] (gW (xs.getD j .non) (ys.getD j .non)):=fun j h1 h2=>by
 have l1:=r.length
 have l2:=r'.length
 have h1':j < us.length:=by simpa using h1
 have h2':j < vs.length:=by simpa using h2
 obtain ⟨u,eu,ru⟩:=r.get (Da (show j < xs.length by lia))
 obtain ⟨v,ev,rv⟩:=r'.get (Da (show j < ys.length by lia))
 have e1:us.toArray[j]=u:=by
  rw [Da h1'] at eu
  simpa using eu
 have e2:vs.toArray[j]=v:=by
  rw [Da h2'] at ev
  simpa using ev
 rw [e1,e2]
 have g1:xs.getD j .non=xs[j]'(by lia):=by rw [AC,Da (show j < xs.length by lia)]; rfl
 have g2:ys.getD j .non=ys[j]'(by lia):=by rw [AC,Da (show j < ys.length by lia)]; rfl
 rw [g1,g2]
 exact ua ru rv (Gn.mp fx _ (Hr _)) (Gn.mp fy _ (Hr _))
theorem se (hu:X.A.units < cLine):cC X (compareOp .Eq) (D3 X.K false):=by
 intro pins s σ H x y v u Q I rx ry h
 obtain ⟨a,b,xs,ys,rfl,rfl,ha,hb,fx,fy,q⟩:=h
 cases rx
 cases ry
 obtain ⟨us,r,pl,hz⟩:=I.list ha
 obtain ⟨vs,r',pl',hz'⟩:=I.list hb
 have l1:=r.length
 have l2:=r'.length
 by_cases hl:xs.length=ys.length
 ·refine SeqAt.eq_listAt (e:=fun j=>gW (xs.getD j .non) (ys.getD j .non)) pl.isList pl'.isList (by simp; lia) hu (items_eqAt r r' fx fy) ⟨.bl _,H,I,rfl,?_⟩
  rw [show us.toArray.size=xs.length by simp; lia,qE hl]
  exact q
 ·refine Lb pl.isList pl'.isList (by simp; lia) hu ⟨.bl false,H,I,rfl,?_⟩
  rw [<- qJ hl]
  exact q
end
end L2
namespace L2
open PySem PySem.Spec PyProof.Rows PySem.W Builtin Builtin.ObjectAttr Builtin.Getset_descriptor
section
variable {K:LO} {e C:FD} {M:Model} {h:HM} {prog:Gi} {w:GF} {A:GG} {E:Fk->Fq->Prop} {s:Fq}
end
section
variable {K:LO} {e C:FD} {M:Model} {h:HM} {prog:Gi} {w:GF} {A:GG} {E:Fk->Fq->Prop} {s:Fq}
end
section
variable {X:Cx}
theorem vn {a:FD}:∀ u,RelV (.ref a) u->u=FS a:=fun _ h=>h
theorem E5 {A:GG} {k:Nat} (hr:bI k A):A.units < cLine:=Nat.lt_of_succ_lt (DG hr)
end
end L2
namespace Ck
open PySem L2
end Ck
namespace L2
open PySem PySem.Spec PyProof.Rows
structure fR (P:Gi) (w:GF) (K:Ga) (mg:Str->Option Fk) (base:HM) (ps:List Str) (k:Nat) (sp:Sp) (f:FD) (fd:G7):Prop where
 ok:bL P w K mg base (uT P w) k f fd ps sp
 b:Binds K fd ps []
section
variable {X:Cx} {C f:FD} {fd:G7} {ps:List Str} {sp:Sp} {m:Str} {apos pos:Pos} {o e:II} {es:List II} {ta:TE} {t:TA} {j k:Nat}
theorem xD {pl:Sem Bool} (ho:PE X o ta) (c:Cls X.K C) (hm:Meth X.K C m f) (D:fR X.prog X.w X.K X.mg X.base ps j sp f fd) (hr:bI k X.A) (ha:PA X (e::es) t) (hjk:j<=k:=by decide)
  (hst:starEach (e::es) X.env=(false,eval e X.env)::starEach es X.env:=by rfl) (hpl:(backTo pos (starEach es X.env)).any (·.1)=false:=by rfl)
  (ht:eval (.Call (.Attribute o m apos) (e::es) [] pos) X.env=(do
   let ov <- eval o X.env
   standAt apos.atName
   let (f,first) <- holding [ov] (getMethod ov m pl)
   callWith pos f first (backTo pos (starEach (e::es) X.env)) (backToKw pos (keywordEach [] X.env))):=by rfl) :
  PE X (.Call (.Attribute o m apos) (e::es) [] pos) (kQ C m sp [] E0 ta t):=yE ho c hm D.ok (hr.mono hjk) D.b .nil kS ha hst hpl ht
theorem Cg {pl:Sem Bool} (ho:PE X o ta) (c:Cls X.K C) (hm:Meth X.K C m f) (D:fR X.prog X.w X.K X.mg X.base ps j sp f fd) (hr:bI k X.A) (hjk:j<=k:=by decide)
  (ht:eval (.Call (.Attribute o m apos) [] [] pos) X.env=(do
   let ov <- eval o X.env
   standAt apos.atName
   let (f,first) <- holding [ov] (getMethod ov m pl)
   callWith pos f first (backTo pos (starEach [] X.env)) (backToKw pos (keywordEach [] X.env))):=by rfl) :
  PE X (.Call (.Attribute o m apos) [] [] pos) (kQ C m sp [] E0 ta kz):=wV ho c hm D.ok (hr.mono hjk) D.b .nil kS ht
end
structure ClsM (K:Ga) (C:FD) (m:Str) (f:FD):Prop where
 hg:W.specialIn K (.ref C) "__getattribute__" = some (some (.builtin "type.__getattribute__"))
 rd:W.readsIn K C (.type "type")=true
 at_:W.findCls K (.ref C) (.type "type") m=some (.val (.ref f))
 kp:W.keepIn K (.ref f)=true
section
variable {X:Cx} {C f:FD} {fd:G7} {ps:List Str} {sp:Sp} {x m:Str} {p apos pos:Pos} {e:II} {es:List II} {t:TA} {j k:Nat}
theorem oB {pl:Sem Bool} (hm:X.mg x=some (.ref C)) (M:ClsM X.K C m f) (D:fR X.prog X.w X.K X.mg X.base ps j sp f fd) (hr:bI k X.A) (ha:PA X (e::es) t) (hjk:j<=k:=by decide) (hg:Gl X x:=by rfl)
  (hdb:(x == ("__debug__" : Str))=false:=by decide) (hst:starEach (e::es) X.env=(false,eval e X.env)::starEach es X.env:=by rfl) (hpl:(backTo pos (starEach es X.env)).any (·.1)=false:=by rfl)
  (ht:eval (.Call (.Attribute (.Name x p) m apos) (e::es) [] pos) X.env=(do
   let ov <- eval (.Name x p) X.env
   standAt apos.atName
   let (f,first) <- holding [ov] (getMethod ov m pl)
   callWith pos f first (backTo pos (starEach (e::es) X.env)) (backToKw pos (keywordEach [] X.env))):=by rfl) :
  PE X (.Call (.Attribute (.Name x p) m apos) (e::es) [] pos) (sI sp [] E0 t):=by
 intro pins s σ H Q I h
 refine W.methodCall_KW (pl:=pl) (jv I hg hm ?_ hdb) ht
 refine W.method_cls I.kIn M.hg (W.cls_value I.kIn M.rd M.at_ rfl ?_)
 have I1:Inv X pins σ H { s with toks:=s.toks+1 }:=I.tok _
 refine W.callWith_K (first:=[]) (h₀:=X.base) I.ok.mod.kin M.kp (aI (ha pos pins _ σ H _ I1 h) fun us s2 ⟨vs,H2,I2,r,q2⟩=>⟨I2.kIn,?_⟩) hst hpl
 exact kE D.ok (hr.mono hjk) D.b .nil kS I2 r q2
end
section
variable {X:Cx} {C f:FD} {fd:G7} {ps:List Str} {sp:Sp} {x:Str} {p pos:Pos} {j k:Nat}
theorem lF (M:Mk X.K C f) (hm:X.mg x=some (.ref C)) (D:fR X.prog X.w X.K X.mg X.base ps j sp f fd) (hr:bI k X.A) (hjk:j+1<=k:=by decide) (hg:Gl X x:=by rfl) (hdb:(x == ("__debug__" : Str))=false:=by decide) :
  PE X (.Call (.Name x p) [] [] pos) (xQ C sp [] E0 kz):=vS M D.ok (hr.mono hjk) hg hm D.b .nil kS hdb
end
end L2
namespace L2
open PySem
noncomputable def below (N:Nat) (sp:Nat->Sp):Sp:=fun vs H Q E=>∃ m,m < N/\sp m vs H Q E
theorem iC {P:Gi} {w:GF} {K:Ga} {mg:Str->Option Fk} {base:HM} {CX:fW} {L N:Nat} {f:FD} {fd:G7} {ps:List Str} {sp:Nat->Sp} (h:∀ m,m < N->bL P w K mg base CX (L+m+1) f fd ps (sp m)) :
  bL P w K mg base CX (L+N) f fd ps (below N sp) :=
 ⟨fun vs H Q E ⟨m,hm,q⟩=>(h m hm).len vs H Q E q,fun A outer s H args us vs Q E hr he hb hv ⟨m,hm,q⟩=>(h m hm).run A outer s H args us vs Q E (hr.mono (by lia)) he hb hv q⟩
theorem uN {P:Gi} {w:GF} {K:Ga} {mg:Str->Option Fk} {base:HM} {CX:fW} {L:Nat} {f:FD} {fd:G7} {ps:List Str} {sp:Nat->Sp}
  (h:∀ n,(∀ m,m < n->bL P w K mg base CX (L+m+1) f fd ps (sp m))->bL P w K mg base CX (L+n+1) f fd ps (sp n)):∀ n,bL P w K mg base CX (L+n+1) f fd ps (sp n):=fun n =>
 Kw n fun n ih=>h n ih
end L2
namespace L2
open PySem PySem.Spec PyProof.Rows
inductive ba (K:Ga) (H:Hp):Nat->V->V->Bool->Prop
 | flat {n:Nat} {x y:V} (fx:gi x=true) (fy:gi y=true):ba K H n x y (gW x y)
 | same {n:Nat} {a:FD}:ba K H n (.ref a) (.ref a) true
 | lst {n:Nat} {a b:FD} {xs ys:List V} {e:Nat->Bool} (ne:a≠b) (ha:ai K H a xs) (hb:ai K H b ys) (hl:xs.length=ys.length)
   (hi:∀ j x y,xs[j]? = some x->ys[j]? = some y->ba K H n x y (e j)):ba K H (n+1) (.ref a) (.ref b) ((FC xs.length).all e)
 | lstN {n:Nat} {a b:FD} {xs ys:List V} (ne:a≠b) (ha:ai K H a xs) (hb:ai K H b ys) (hl:xs.length≠ys.length):ba K H (n+1) (.ref a) (.ref b) false
 | tup {n:Nat} {a b:FD} {xs ys:List V} {e:Nat->Bool} (ne:a≠b) (ha:bg K H a xs) (hb:bg K H b ys)
   (hi:∀ j x y,xs[j]? = some x->ys[j]? = some y->ba K H n x y (e j)):ba K H (n+1) (.ref a) (.ref b) ((FC (min xs.length ys.length)).all e&&xs.length == ys.length)
theorem ba.lstT {K:Ga} {H:Hp} {n:Nat} {a b:FD} {xs ys:List V} (ne:a≠b) (ha:ai K H a xs) (hb:ai K H b ys) (hl:xs.length=ys.length) (hi:∀ (j:Nat) (x y:V),xs[j]? = some x->ys[j]? = some y->ba K H n x y true):ba K H (n+1) (.ref a) (.ref b) true:=by
 have h:=ba.lst (e:=fun _=>true) ne ha hb hl hi
 have e (k:Nat):(FC k).all (fun _=>true)=true:=Gn.mpr fun _ _=>rfl
 rw [e] at h
 exact h
theorem ba.tupT {K:Ga} {H:Hp} {n:Nat} {a b:FD} {xs ys:List V} (ne:a≠b) (ha:bg K H a xs) (hb:bg K H b ys) (hl:xs.length=ys.length) (hi:∀ (j:Nat) (x y:V),xs[j]? = some x->ys[j]? = some y->ba K H n x y true):ba K H (n+1) (.ref a) (.ref b) true:=by
 have h:=ba.tup (e:=fun _=>true) ne ha hb hi
 have e (k:Nat):(FC k).all (fun _=>true)=true:=Gn.mpr fun _ _=>rfl
 rw [e,hl] at h
 simpa using h
section
variable {X:Cx} {pins:List (FD × Obj)} {σ:St} {H:Hp} {s:Fq}
theorem dA {xs:List V} {us:List Fk} (r:Vals xs us) {j:Nat} (h:j < us.toArray.size):∃ x,xs[j]? = some x/\RelV x us.toArray[j]:=by
 have h':j < us.length:=by simpa using h
 have hx:j < xs.length:=by rw [r.length]; exact h'
 obtain ⟨u,eu,ru⟩:=r.get (Da hx)
 rw [Da h'] at eu
 exact ⟨_,Da hx,by
  have:us.toArray[j]=u:=by simpa using eu
  rw [this]; exact ru⟩
theorem ba.at_ {n:Nat} {x y:V} {b:Bool} (d:ba X.K H n x y b):∀ {A:GG} {u v:Fk},A.units+n < cLine->Inv X pins σ H s->RelV x u->RelV y v->SeqAt.EqAt A s u v b:=by
 induction d with
 | flat fx fy=>intro A u v _ I ru rv; exact ua ru rv fx fy
 | same =>
  intro A u v _ I ru rv
  cases (show u=FS _ from ru)
  cases (show v=FS _ from rv)
  exact Mn _
 | @lst n a b xs ys e ne ha hb hl hi ih =>
  intro A u v hu I ru rv
  cases (show u=FS _ from ru)
  cases (show v=FS _ from rv)
  obtain ⟨us,r,pl,_⟩:=I.list ha
  obtain ⟨vs,r',pl',_⟩:=I.list hb
  have l1:=r.length
  have l2:=r'.length
  have z:=SeqAt.RcAt.lists (A:=A) (e:=e) pl.isList pl'.isList (by simp; lia) (by lia) fun j h1 h2=>by
   obtain ⟨x,ex,rx⟩:=dA r h1
   obtain ⟨y,ey,ry⟩:=dA r' h2
   exact ih j x y ex ey (A:=A.in1) (by show A.units+1+n < cLine; lia) I rx ry
  rw [show us.toArray.size=xs.length by simp; lia] at z
  exact .of_refs ne z
 | @lstN n a b xs ys ne ha hb hl =>
  intro A u v hu I ru rv
  cases (show u=FS _ from ru)
  cases (show v=FS _ from rv)
  obtain ⟨us,r,pl,_⟩:=I.list ha
  obtain ⟨vs,r',pl',_⟩:=I.list hb
  have l1:=r.length
  have l2:=r'.length
  exact .of_refs ne (SeqAt.RcAt.lists_lengths pl.isList pl'.isList (by simp; lia) (by lia))
 | @tup n a b xs ys e ne ha hb hi ih =>
  intro A u v hu I ru rv
  cases (show u=FS _ from ru)
  cases (show v=FS _ from rv)
  obtain ⟨us,r,pl,_⟩:=I.tuple ha
  obtain ⟨vs,r',pl',_⟩:=I.tuple hb
  have l1:=r.length
  have l2:=r'.length
  have z:=SeqAt.RcAt.tuples (A:=A) (e:=e) pl pl' (by lia) fun j h1 h2=>by
   obtain ⟨x,ex,rx⟩:=dA r h1
   obtain ⟨y,ey,ry⟩:=dA r' h2
   exact ih j x y ex ey (A:=A.in1) (by show A.units+1+n < cLine; lia) I rx ry
  rw [show us.toArray.size=xs.length by simp; lia,show vs.toArray.size=ys.length by simp; lia] at z
  exact .of_refs ne z
noncomputable def vN (K:Ga) (neg:Bool):R2:=fun x y H Q=>∃ n b,n<=100/\ba K H n x y b/\(∃ a c,x = .ref a/\y = .ref c/\a≠c)/\Q (.bl (if neg then !b else b)) H
theorem uA (hu:X.A.units+100 < cLine):cC X (compareOp .Eq) (vN X.K false):=by
 intro pins s σ H x y u v Q I ru rv h
 obtain ⟨n,b,hn,d,⟨a,c,rfl,rfl,hne⟩,q⟩:=h
 cases (show u=FS _ from ru)
 cases (show v=FS _ from rv)
 cases d with
 | flat fx _=>cases fx
 | same=>exact absurd rfl hne
 | @lst n _ _ xs ys e ne ha hb hl hi =>
  obtain ⟨us,r,pl,_⟩:=I.list ha
  obtain ⟨vs,r',pl',_⟩:=I.list hb
  have l1:=r.length
  have l2:=r'.length
  refine SeqAt.eq_listAt (e:=e) pl.isList pl'.isList (by simp; lia) (by lia) (fun j h1 h2=>?_) ⟨.bl _,H,I,rfl,?_⟩
  ·obtain ⟨x,ex,rx⟩:=dA r h1
   obtain ⟨y,ey,ry⟩:=dA r' h2
   exact (hi j x y ex ey).at_ (A:=X.A.in1) (by show X.A.units+1+n < cLine; lia) I rx ry
  ·rw [show us.toArray.size=xs.length by simp; lia]; exact q
 | @lstN n _ _ xs ys ne ha hb hl =>
  obtain ⟨us,r,pl,_⟩:=I.list ha
  obtain ⟨vs,r',pl',_⟩:=I.list hb
  have l1:=r.length
  have l2:=r'.length
  exact Lb pl.isList pl'.isList (by simp; lia) (by lia) ⟨.bl false,H,I,rfl,q⟩
 | @tup n _ _ xs ys e ne ha hb hi =>
  obtain ⟨us,r,pl,_⟩:=I.tuple ha
  obtain ⟨vs,r',pl',_⟩:=I.tuple hb
  have l1:=r.length
  have l2:=r'.length
  refine SeqAt.eq_tupleAt (e:=e) pl pl' (by lia) (fun j h1 h2=>?_) ⟨.bl _,H,I,rfl,?_⟩
  ·obtain ⟨x,ex,rx⟩:=dA r h1
   obtain ⟨y,ey,ry⟩:=dA r' h2
   exact (hi j x y ex ey).at_ (A:=X.A.in1) (by show X.A.units+1+n < cLine; lia) I rx ry
  ·rw [show us.toArray.size=xs.length by simp; lia,show vs.toArray.size=ys.length by simp; lia]; exact q
theorem i8 (hu:X.A.units+100 < cLine):cC X (compareOp .NotEq) (vN X.K true):=by
 intro pins s σ H x y u v Q I ru rv h
 obtain ⟨n,b,hn,d,⟨a,c,rfl,rfl,hne⟩,q⟩:=h
 cases (show u=FS _ from ru)
 cases (show v=FS _ from rv)
 cases d with
 | flat fx _=>cases fx
 | same=>exact absurd rfl hne
 | @lst n _ _ xs ys e ne ha hb hl hi =>
  obtain ⟨us,r,pl,_⟩:=I.list ha
  obtain ⟨vs,r',pl',_⟩:=I.list hb
  have l1:=r.length
  have l2:=r'.length
  refine SeqAt.RcNeAt.lists (e:=e) pl.isList pl'.isList (by simp; lia) (by lia) (fun j h1 h2=>?_) _ _ _ _ ⟨.bl _,H,I,rfl,?_⟩
  ·obtain ⟨x,ex,rx⟩:=dA r h1
   obtain ⟨y,ey,ry⟩:=dA r' h2
   exact (hi j x y ex ey).at_ (A:=X.A.in1) (by show X.A.units+1+n < cLine; lia) I rx ry
  ·rw [show us.toArray.size=xs.length by simp; lia]; exact q
 | @lstN n _ _ xs ys ne ha hb hl =>
  obtain ⟨us,r,pl,_⟩:=I.list ha
  obtain ⟨vs,r',pl',_⟩:=I.list hb
  have l1:=r.length
  have l2:=r'.length
  exact SeqAt.RcNeAt.lists_lengths pl.isList pl'.isList (by simp; lia) (by lia) _ _ _ _ ⟨.bl true,H,I,rfl,q⟩
 | @tup n _ _ xs ys e ne ha hb hi =>
  obtain ⟨us,r,pl,_⟩:=I.tuple ha
  obtain ⟨vs,r',pl',_⟩:=I.tuple hb
  have l1:=r.length
  have l2:=r'.length
  refine SeqAt.RcNeAt.tuples (e:=e) pl pl' (by lia) (fun j h1 h2=>?_) _ _ _ _ ⟨.bl _,H,I,rfl,?_⟩
  ·obtain ⟨x,ex,rx⟩:=dA r h1
   obtain ⟨y,ey,ry⟩:=dA r' h2
   exact (hi j x y ex ey).at_ (A:=X.A.in1) (by show X.A.units+1+n < cLine; lia) I rx ry
  ·rw [show us.toArray.size=xs.length by simp; lia,show vs.toArray.size=ys.length by simp; lia]; exact q
theorem eH {A:GG} {k:Nat} (hr:bI k A):A.units+100 < cLine:=IF (by lia) hr.un
end
end L2
namespace L2
open PySem PySem.Spec PyProof.Rows
section
variable {X:Cx}
end
section
variable {X:Cx} {pins:List (FD × Obj)} {σ:St} {H:Hp} {s:Fq} {h':HM}
theorem Inv.trackO {e:FD} {o':HO} (I:Inv X pins σ H s) (o:wB X pins H e) (new:cf X.prog X.w (upd H e o') s.heap e o'):Inv X pins σ (upd H e o') s:=by
 have ne:∀ b u,H b=some u->b≠e:=fun b u q z=>by rw [z,o.free] at q; cases q
 refine ⟨I.ok,I.os,I.bare,⟨I.base.keep,I.base.slot,fun b ob q n hx=>?_,I.base.there,fun b xs q=>?_,fun b ob u q=>?_,fun b ps q=>?_⟩,I.loc,I.cell,?_,fun x c q=>?_,fun p hp=>?_,fun b u q=>?_,I.len⟩
 ·rw [upd_ne (fun z=>by rw [z,o.new] at q; cases q)]; exact I.base.free b ob q n hx
 ·have:=I.base.tups b xs q
  rw [upd_ne (ne _ _ this)]; exact this
 ·have:=I.base.frzs b ob u q
  rw [upd_ne (ne _ _ this)]; exact this
 ·obtain ⟨m,z⟩:=I.base.tbls b ps q
  exact ⟨m,by rw [upd_ne (ne _ _ z)]; exact z⟩
 ·rw [upd_ne (Ih o.loc)]; exact I.free
 ·rw [upd_ne (o.cell x c q)]; exact I.freeC x c q
 ·obtain ⟨z,n,r⟩:=I.pin p hp
  exact ⟨z,by rw [upd_ne (o.pin p hp)]; exact n,r⟩
 ·by_cases z:b=e
  ·subst z; rw [upd_same] at q; cases q; exact new
  ·rw [upd_ne z] at q
   exact (I.hok b u q).stay (fun _ _ _ x=>x) (fun c x=>by rw [upd_ne (ne _ _ x)]; exact x) fun c xs x=>by rw [upd_ne (ne _ _ x)]; exact x
end
section
variable {X:Cx}
end
end L2
namespace Ck
open PySem L2
inductive Tree where
 | int (i:Int)
 | lst (l:List Tree)
 | tup (l:List Tree)
mutual
noncomputable def Rep (H:Hp):Tree->V->Prop
 | .int i,v=>v = .int i
 | .lst ts,v=>∃ a xs,v = .ref a/\H a=some (.lst xs)/\ts.length<=1000000/\bz H ts xs
 | .tup ts,v=>∃ a xs,v = .ref a/\H a=some (.tup xs)/\ts.length<=1000000/\bz H ts xs
noncomputable def bz (H:Hp):List Tree->List V->Prop
 | [],xs=>xs=[]
 | t::ts,xs=>∃ v vs,xs=v::vs/\Rep H t v/\bz H ts vs
end
mutual
noncomputable def dep:Tree->Nat
 | .int _=>0
 | .lst ts=>dS ts+1
 | .tup ts=>dS ts+1
noncomputable def dS:List Tree->Nat
 | []=>0
 | t::ts=>max (dep t) (dS ts)
end
mutual
theorem Rep.same {H H':Hp} (s:ae H H'):∀ (t:Tree) {v:V},Rep H t v->Rep H' t v
 | .int i,v,h=>by unfold Rep at h |-; exact h
 | .lst ts,v,h=>by
  unfold Rep at h |-
  obtain ⟨a,xs,e,ha,hl,r⟩:=h
  exact ⟨a,xs,e,s _ _ ha,hl,bz.same s ts r⟩
 | .tup ts,v,h=>by
  unfold Rep at h |-
  obtain ⟨a,xs,e,ha,hl,r⟩:=h
  exact ⟨a,xs,e,s _ _ ha,hl,bz.same s ts r⟩
theorem bz.same {H H':Hp} (s:ae H H'):∀ (ts:List Tree) {xs:List V},bz H ts xs->bz H' ts xs
 | [],xs,h=>by unfold bz at h |-; exact h
 | t::ts,xs,h=>by
  unfold bz at h |-
  obtain ⟨v,vs,e,r,rs⟩:=h
  exact ⟨v,vs,e,Rep.same s t r,bz.same s ts rs⟩
end
theorem bz.length {H:Hp}:∀ {ts:List Tree} {xs:List V},bz H ts xs->xs.length=ts.length
 | [],xs,h=>by unfold bz at h; rw [h]; rfl
 | t::ts,xs,h=>by
  unfold bz at h
  obtain ⟨v,vs,rfl,_,rs⟩:=h
  rw [FZ,FZ,bz.length rs]
theorem bz.get {H:Hp}:∀ {ts:List Tree} {xs:List V},bz H ts xs->∀ {j:Nat} {x:V},xs[j]? = some x->∃ t,ts[j]? = some t/\Rep H t x
 | [],xs,h,j,x,e=>by unfold bz at h; rw [h] at e; cases e
 | t::ts,xs,h,j,x,e=>by
  unfold bz at h
  obtain ⟨v,vs,rfl,r,rs⟩:=h
  cases j with
  | zero =>
   have:v=x:=by simpa using e
   subst this
   exact ⟨t,rfl,r⟩
  | succ j=>exact bz.get rs (by simpa using e)
theorem ko:∀ {ts:List Tree} {j:Nat} {t:Tree},ts[j]? = some t->dep t<=dS ts
 | [],j,t,e=>by cases e
 | s::ts,j,t,e=>by
  unfold dS
  cases j with
  | zero =>
   have:s=t:=by simpa using e
   subst this
   exact Nat.le_max_left _ _
  | succ j=>exact GM (ko (by simpa using e)) (Nat.le_max_right _ _)
theorem yj {H:Hp} {a:FD} {x y:V} {t u:Tree} (h:H a=some (.tup [x,y])) (r1:Rep H t x) (r2:Rep H u y):Rep H (.tup [t,u]) (.ref a):=by
 unfold Rep
 refine ⟨a,_,rfl,h,by show 2<=1000000; decide,?_⟩
 unfold bz
 refine ⟨_,_,rfl,r1,?_⟩
 unfold bz
 refine ⟨_,_,rfl,r2,?_⟩
 unfold bz
 rfl
theorem yA (t u:Tree):dep (.tup [t,u])=max (dep t) (dep u)+1:=by
 show max (dep t) (max (dep u) 0)+1=_
 rw [Nat.max_zero]
noncomputable abbrev Pair:=Int × Int
def bC (H:Hp) (xs:List V) (ps:List Pair):Prop:=Jw (fun (v:V) (p:Pair)=>∃ t,v = .ref t/\H t=some (.tup [.int p.1,.int p.2])) xs ps
theorem bC.same {H H':Hp} {xs:List V} {ps:List Pair} (h:bC H xs ps) (s:ae H H'):bC H' xs ps:=Paired.mapP h fun v p ⟨t,e,q⟩=>⟨t,e,s _ _ q⟩
theorem bC.length {H:Hp} {xs:List V} {ps:List Pair} (h:bC H xs ps):xs.length=ps.length:=Js h
theorem bC.get {H:Hp}:∀ {xs:List V} {ps:List Pair},bC H xs ps->∀ {i:Nat} {x:V},xs[i]? = some x->∃ p t,ps[i]? = some p/\x = .ref t/\H t=some (.tup [.int p.1,.int p.2])
 | _,_,.nil,i,x,e=>by cases e
 | _,_,.cons r t,0,x,e=>by
  obtain ⟨a,e1,e2⟩:=r
  rw [IY] at e
  cases e
  exact ⟨_,a,rfl,e1,e2⟩
 | _,_,.cons r t,i+1,x,e=>by
  obtain ⟨p,a,h1,h2,h3⟩:=bC.get t (i:=i) (by simpa using e)
  exact ⟨p,a,by simpa using h1,h2,h3⟩
theorem bC.snoc {H:Hp}:∀ {xs:List V} {ps:List Pair} {t:FD} {p:Pair},bC H xs ps->H t=some (.tup [.int p.1,.int p.2])->bC H (xs++[.ref t]) (ps++[p])
 | _,_,t,p,.nil,h=>.cons ⟨t,rfl,h⟩ .nil
 | _,_,t,p,.cons r s,h=>.cons r (bC.snoc s h)
theorem bC.updL {H:Hp} {xs:List V} {ps:List Pair} {a:FD} {l:List V} (h:bC H xs ps) (ha:H a=some (.lst l)) (o:HO):bC (upd H a o) xs ps :=
 Paired.mapP h fun v p ⟨t,e,q⟩=>⟨t,e,(upd_ne (CW q ha (by intro z; cases z))).trans q⟩
theorem bC.updN {H:Hp} {xs:List V} {ps:List Pair} {a:FD} (h:bC H xs ps) (ha:H a=none) (o:HO):bC (upd H a o) xs ps :=
 Paired.mapP h fun v p ⟨t,e,q⟩=>⟨t,e,(upd_ne (ar q ha)).trans q⟩
def aX (H:Hp) (a:FD) (ps:List Pair):Prop:=∃ xs,H a=some (.lst xs)/\bC H xs ps
theorem aX.same {H H':Hp} {a:FD} {ps:List Pair} (h:aX H a ps) (s:ae H H'):aX H' a ps:=let ⟨xs,e,r⟩:=h; ⟨xs,s _ _ e,r.same s⟩
theorem aX.len {H:Hp} {a:FD} {ps:List Pair} (h:aX H a ps):∃ xs,H a=some (.lst xs)/\xs.length=ps.length/\bC H xs ps:=let ⟨xs,e,r⟩:=h; ⟨xs,e,r.length,r⟩
noncomputable def oK (p:Pair):Tree:=.tup [.int p.1,.int p.2]
noncomputable def nt (ps:List Pair):Tree:=.lst (ps.map oK)
theorem AJ {H:Hp} {t:FD} {p:Pair} (h:H t=some (.tup [.int p.1,.int p.2])):Rep H (oK p) (.ref t):=by
 unfold oK Rep
 refine ⟨t,_,rfl,h,by show 2<=1000000; decide,?_⟩
 unfold bz
 refine ⟨_,_,rfl,by unfold Rep; rfl,?_⟩
 unfold bz
 refine ⟨_,_,rfl,by unfold Rep; rfl,?_⟩
 unfold bz
 rfl
theorem qu {H:Hp}:∀ {xs:List V} {ps:List Pair},bC H xs ps->bz H (ps.map oK) xs
 | _,_,.nil=>by unfold bz; rfl
 | _,_,.cons (a:=v) r s=>by
  obtain ⟨t,e,h⟩:=r
  rw [FQ]
  unfold bz
  exact ⟨v,_,rfl,by rw [e]; exact AJ h,qu s⟩
theorem aX.rep {H:Hp} {a:FD} {ps:List Pair} (h:aX H a ps) (hl:ps.length<=1000000):Rep H (nt ps) (.ref a):=by
 obtain ⟨xs,e,r⟩:=h
 unfold nt Rep
 exact ⟨a,xs,rfl,e,by rw [Do]; exact hl,qu r⟩
theorem zY (p:Pair):dep (oK p)=1:=by unfold oK dep; unfold dS; unfold dep dS; unfold dep dS; rfl
theorem pH:∀ ps:List Pair,dS (ps.map oK)<=1
 | []=>by unfold Lc dS; exact FI _
 | p::ps=>by
  rw [FQ]
  unfold dS
  rw [zY]
  exact Nat.max_le.mpr ⟨Fy _,pH ps⟩
theorem qj (ps:List Pair):dep (nt ps)<=2:=by unfold nt dep; have:=pH ps; lia
end Ck
namespace L2
open PySem
theorem oJ {K:Ga}:Ij K (.type "list") (.type "int")=some false:=by rfl
theorem m6 {K:Ga}:Ij K (.type "tuple") (.type "int")=some false:=by rfl
theorem fF {K:Ga}:Ij K (.type "tuple") (.type "list")=some false:=by rfl
theorem fh {K:Ga}:Ij K (.type "tuple") (.type "tuple")=some true:=by rfl
theorem gZ {K:Ga}:Ij K (.type "list") (.type "tuple")=some false:=by rfl
end L2
namespace Ck
open PySem L2
inductive gv:List Int->List Int->Nat->Prop
 | start:gv [] [] 0
 | on {p r:List Int} {a:Nat}:gv p r a->gv (p++[(a:Int)]) r (a+1)
 | off {p r:List Int} {a:Nat} {m:Int}:gv (p++[m]) r a->gv p (r++[m]) a
theorem gv.bound {p r:List Int} {a:Nat} (h:gv p r a):∀ x,(x∈p\/x∈r)->0<=x/\x < a:=by
 induction h with
 | start=>intro x hx; simp at hx
 | @on p r a _ ih =>
  intro x hx
  rw [FF] at hx
  rcases hx with (z | z) | z
  ·have:=ih x (.inl z); lia
  ·have:x=(a:Int):=by simpa using z
   lia
  ·have:=ih x (.inr z); lia
 | @off p r a m _ ih =>
  intro x hx
  rw [FF] at hx
  rcases hx with z | z | z
  ·exact ih x (.inl (by simp [z]))
  ·exact ih x (.inr z)
  ·have:x=m:=by simpa using z
   subst this
   exact ih x (.inl (by simp))
noncomputable def kd (ns:List Int):Tree:=.lst (ns.map .int)
theorem oQ {H:Hp}:∀ ns:List Int,bz H (ns.map .int) (ns.map V.int)
 | []=>by unfold Lc bz; rfl
 | n::ns=>by
  rw [FQ,FQ]
  unfold bz
  exact ⟨_,_,rfl,by unfold Rep; rfl,oQ ns⟩
theorem lP {H:Hp} {a:FD} {ns:List Int} (h:H a=some (.lst (ns.map V.int))) (hl:ns.length<=1000000):Rep H (kd ns) (.ref a):=by
 unfold kd Rep
 exact ⟨a,_,rfl,h,by rw [Do]; exact hl,oQ ns⟩
theorem oa:∀ ns:List Int,dS (ns.map .int)=0
 | []=>by unfold Lc dS; rfl
 | n::ns=>by
  rw [FQ]
  unfold dS
  rw [oa ns]
  unfold dep
  rfl
theorem qf (ns:List Int):dep (kd ns)=1:=by unfold kd dep; rw [oa]
theorem gE (xs:List V) (k:Nat):cW xs (some (k:Int)) none=xs.drop k:=by
 unfold cW
 rw [HT.sIx_nat,HT.sIx_none]
 rw [FB (by rw [Hq]; lia)]
 by_cases h:k<=xs.length
 ·rw [show min k xs.length=k by lia]
 ·rw [GR (show xs.length<=k by lia),GR (by lia)]
theorem yI (xs:List V) (k:Nat):cW xs none (some (k:Int))=xs.take k:=by
 unfold cW
 rw [HT.sIx_nat,HT.sIx_none,Jz,Nat.sub_zero]
 by_cases h:k<=xs.length
 ·rw [show min k xs.length=k by lia]
 ·rw [FB (by lia),FB (by lia)]
theorem xE {c A B:Prop} [Decidable c] (hc:¬ c) (h:A):if (!decide c)=true then A else B:=by
 rw [decide_eq_false hc]
 exact bw h
end Ck
namespace L2
open PySem PySem.Spec PyProof.Rows PySem.SeqAt
section
variable {X:Cx}
noncomputable def AA (K:Ga):V->List V->Hp->VK->Prop:=fun x vs H Q=>∃ (l:FD) (ns:List Int) (k:Int),x = .ref l/\vs=[.int k]/\ai K H l (ns.map V.int)/\k∈ns/\Q (.int (ns.idxOf k:Nat)) H
theorem wU:qB X "list.index" (AA X.K):=by
 intro pins s σ H x vs v us Q I rx rv h
 obtain ⟨l,ns,k,rfl,rfl,hl,hk,q⟩:=h
 cases rx
 obtain ⟨u,rfl,t,rfl⟩:=rv.one
 obtain ⟨its,r,pl,hz⟩:=I.list hl
 have hi:Ii its ns:=intsAre_of r
 obtain ⟨⟨cls,dd,data,sl⟩,ho,hc,n,hd⟩:=id pl.isList
 simp only at hc hd
 subst hc hd
 have hlen:=hi.length
 have hj:ns.idxOf k < ns.length:=List.idxOf_lt_length_iff.mpr hk
 have hb:its.length<=sizeLine:=by first | exact hz | (rw [hlen]; simpa using hz)
 have hb2:sizeLine < 2 ^ 63 - 1:=by decide
 refine K1 Ld ⟨_,ho,rfl⟩ PySem.F.entry_list_index (PySem.F.args_list_index_2 _ _)
  (list_indexAt l its.toArray n dd sl (.int k t) (isInt k) (ns.idxOf k) (by simpa [hlen] using hj) (by lia) ?_ ?_) ⟨ho,fun y hy=>(eq_isInt k t hi y (by simpa using hy)).at _ _,?_⟩
 ·show isInt k its[ns.idxOf k]=true
  rw [isInt_at k hi _ (by lia) hj]
  simpa using List.getElem_idxOf hj
 ·intro j hjs hlt
  show isInt k its[j]=false
  rw [isInt_at k hi j (by simpa using hjs) (by lia)]
  exact ne_of_lt_idxOf hlt _
 ·exact ⟨.int _,H,I.tok _,⟨_,rfl⟩,q⟩
theorem gk {K:Ga} {es:List II} {k:Nat} {t:mH} {n:Nat} {pos:Pos} (hK:X.K=K) (hc:X.calm=true) (h:vm X es t)
  (hn:(assignEach es X.env).length=n:=by rfl) (hst:(assignEach es X.env).findIdx? (·.1)=none:=by rfl):PG X (.Tuple es k pos) (Ci K n t):=by
 subst hK
 exact ik hc h hn hst
theorem bR {K:Ga} {a:FD} {xs:List V} {g:TG} {tt:TT} {te:TE} {σ0:St} {H:Hp} {D:FD} {Q:VK} (Pv:Nat->List V->Hp->Prop) (hz:xs.length<=sizeLine)
  (h0:Pv 0 [] (upd H D (.lst []))) (hl:∀ i ys H',i<=xs.length->Pv i ys H'->ai K H' a xs/\ys.length<=i)
  (hs:∀ (i:Nat) (x:V) (ys:List V) (H':Hp) (R:VK) (R0:Hp->Prop),xs[i]? = some x->Pv i ys H'->(∀ v H3,H3 D=some (.lst ys)->Pv (i+1) (ys++[v]) (upd H3 D (.lst (ys++[v])))->R v H3)->(∀ H3,Pv (i+1) ys H3->R0 H3) ->
   g x σ0 H' fun σ2 H2=>Ext σ0 σ2/\tt σ2 H2 fun b H3=>if b=true then te σ2 H3 R else R0 H3)
  (hq:∀ ys H',Pv xs.length ys H'->Q (.ref D) H') :
  nq (pF K a) g tt te σ0 D Q H:=by
 refine ⟨fun i m ys H'=>m=xs.length - i/\i<=xs.length/\Pv i ys H',⟨xs.length,by simp,FI _,h0⟩,?_⟩
 rintro i m ys H' ⟨rfl,hi,p⟩
 obtain ⟨sq,ly⟩:=hl i ys H' hi p
 by_cases hlt:i < xs.length
 ·refine .inr ⟨⟨xs,xs[i],sq,by simp [hlt]⟩,fun x H'' y=>?_⟩
  obtain ⟨e,y⟩:=y
  subst e
  have ex:=y xs sq
  refine hs i x ys _ _ _ ex p (fun v H3 hD p'=>⟨hD,by lia,xs.length - (i+1),by lia,rfl,hlt,p'⟩) fun H3 p'=>⟨xs.length - (i+1),by lia,rfl,hlt,p'⟩
 ·have e:i=xs.length:=by lia
  subst e
  exact .inl ⟨⟨xs,sq,Fy _⟩,hq ys H' p⟩
end
end L2
namespace Ck
open PySem L2
theorem vh (xs:List V) (a b:Nat) (ha:a<=b):cW xs (some (a:Int)) (some (b:Int))=(xs.drop a).take (b - a):=by
 unfold cW
 rw [HT.sIx_nat,HT.sIx_nat]
 by_cases h:a<=xs.length
 ·rw [show min a xs.length=a by lia]
  by_cases h2:b<=xs.length
  ·rw [show min b xs.length=b by lia]
  ·rw [show min b xs.length=xs.length by lia,FB (by rw [Hq]; lia),FB (by rw [Hq]; lia)]
 ·rw [GR (show xs.length<=a by lia),GR (by lia)]
  simp
theorem jL (d:Int) (ns:List Int):(ns.map (·+d)).map (·+-d)=ns:=by
 rw [GC]
 refine (Gw fun y _=>?_).trans (Le _)
 show y+d+-d=y
 lia
end Ck
namespace Ck
open PySem L2
structure dh (fs:List (Str × V)) (w:Str) (l:Int):Prop where
 word:fs.lookup ("word" : Str)=some (.str w)
 least:fs.lookup ("least" : Str)=some (.int l)
 no:∀ m:Str,m≠("word" : Str)->m≠("least" : Str)->fs.lookup m=none
theorem yk (w:Str) (l:Int):dh (dG ("least" : Str) (.int l) (dG ("word" : Str) (.str w) [])) w l :=
 ⟨by rw [cO,if_neg (by decide),cO,if_pos rfl],by rw [cO,if_pos rfl],fun m a b=>by rw [cO,if_neg b,cO,if_neg a]; rfl⟩
noncomputable def up (d:Int) (p:Pair):Pair:=(p.1+d,p.2+d)
noncomputable def cg (ps qs:List Pair):List Pair:=(0,2*(ps.length:Int)+1)::(ps.map (up 1)++qs.map (up (2*(ps.length:Int)+2)))
theorem tN (d:Int) (ps:List Pair):(ps.map (up d)).map (up (-d))=ps:=by
 rw [GC]
 refine (Gw fun y _=>?_).trans (Le _)
 show (y.1+d+-d,y.2+d+-d)=y
 rw [K2,K2]
theorem bC.take {H:Hp}:∀ (k:Nat) {xs:List V} {ps:List Pair},bC H xs ps->bC H (xs.take k) (ps.take k)
 | 0,_,_,_=>.nil
 | k+1,_,_,.nil=>.nil
 | k+1,_,_,.cons r t=>.cons r (bC.take k t)
theorem bC.drop {H:Hp}:∀ (k:Nat) {xs:List V} {ps:List Pair},bC H xs ps->bC H (xs.drop k) (ps.drop k)
 | 0,_,_,h=>h
 | k+1,_,_,.nil=>.nil
 | k+1,_,_,.cons r t=>bC.drop k t
theorem bC.app {H:Hp}:∀ {xs ys:List V} {ps qs:List Pair},bC H xs ps->bC H ys qs->bC H (xs++ys) (ps++qs)
 | _,_,_,_,.nil,h=>h
 | _,_,_,_,.cons r t,h=>.cons r (bC.app t h)
end Ck
namespace Ck
open PySem L2
theorem mG (ns:List Int):(ns.map V.int).all gi=true:=by
 rw [Gn]
 intro x hx
 obtain ⟨n,_,rfl⟩:=FH.mp hx
 rfl
end Ck
namespace Ck
open PySem L2
theorem iA {H:Hp} {a:FD} {x y:V} {t u:Tree} (h:H a=some (.lst [x,y])) (r1:Rep H t x) (r2:Rep H u y):Rep H (.lst [t,u]) (.ref a):=by
 unfold Rep
 refine ⟨a,_,rfl,h,by show 2<=1000000; decide,?_⟩
 unfold bz
 refine ⟨_,_,rfl,r1,?_⟩
 unfold bz
 refine ⟨_,_,rfl,r2,?_⟩
 unfold bz
 rfl
theorem ou (t u:Tree):dep (.lst [t,u])=max (dep t) (dep u)+1:=by
 show max (dep t) (max (dep u) 0)+1=_
 rw [Nat.max_zero]
end Ck
namespace Ck
open PySem L2
end Ck
namespace Ck
open PySem L2
end Ck
namespace Ck
open PySem L2
end Ck
namespace L2
open PySem PySem.Spec PyProof.Rows
theorem c9:bootBuiltins "sorted" = some (.builtin "sorted"):=by decide +kernel
theorem vk:bootBuiltins "all" = some (.builtin "all"):=by decide +kernel
theorem iG:∀ {us:List Fk} {ns:List Int},Ii us ns->Vals (ns.map V.int) us
 | _,_,.nil=>.nil
 | _,_,.cons n t h=>.cons ⟨t,rfl⟩ (iG h)
section
variable {X:Cx}
theorem jM:dk X (.builtin "sorted") (fun xs H Q=>∃ (p:FD) (ns:List Int),xs=[.ref p]/\ai X.K H p (ns.map V.int)/\ns.length < 64/\∀ (q:FD) (ms:List Int),H q=none->ms.Perm ns->ms.Pairwise (·<=·)->Q (.ref q) (upd H q (.lst (ms.map V.int)))):=by
 intro pins s σ H xs us Q I r h
 obtain ⟨p,ns,rfl,hl,h64,q⟩:=h
 obtain ⟨u,rfl,ru⟩:=vals1 r
 cases ru
 obtain ⟨its,r',pl,hz⟩:=I.list hl
 have hi:Ii its ns:=intsAre_of r'
 refine sorted_ints pl.isList hi (by rw [hi.length]; exact h64) fun out ms ho hp hs=>?_
 obtain ⟨e,he⟩:=LD s.heap its out
 have lm:(ms.map V.int).length<=sizeLine:=by rw [Do,hp.length_eq]; exact sz (by lia)
 exact ⟨.ref _,_,I.laid (t':=s.toks) (o:=.lst (ms.map V.int)) (fun b u e=>Lf e) (IJ _) ⟨lm,out.toList,e,iG ho,by simpa [seqObj] using he⟩,rfl,q _ ms (I.hok.fresh (IJ _)) hp hs⟩
theorem rf {bs:List Bool}:∀ {us:List Fk},Vals (bs.map V.bl) us->us=bs.map KU:=by
 induction bs with
 | nil=>intro us r; rw [Ka] at r; cases r; rfl
 | cons b bs ih =>
  intro us r
  rw [FQ] at r
  cases r with
  | cons h t=>rw [ih t,FQ]; cases (show _=KU b from h); rfl
theorem all_range (bs:List Bool):(FC bs.length).all (fun i=>bs.getD i false)=bs.all id:=by
 induction bs with
 | nil=>rfl
 | cons b bs ih =>
  rw [FZ,Iy,L7,LC,L7]
  have:((fun i=>(b::bs).getD i false) ∘ Nat.succ)=fun i=>bs.getD i false:=by funext i; rfl
  rw [this,ih]
  rfl
theorem oO (hc:X.calm=true):dk X (.builtin "all") (fun xs H Q=>∃ (p:FD) (bs:List Bool),xs=[.ref p]/\ai X.K H p (bs.map V.bl)/\Q (.bl (bs.all id)) H):=by
 intro pins s σ H xs us Q I r h
 obtain ⟨p,bs,rfl,hl,q⟩:=h
 obtain ⟨u,rfl,ru⟩:=vals1 r
 cases ru
 obtain ⟨its,r',pl,hz⟩:=I.list hl
 have ei:=rf r'
 have hlt:p < s.heap.objs.size:=by obtain ⟨_,e,_⟩:=pl.isList; exact FK e
 refine call_all_walk (KY pl.isList ⟨_,_,_,_,_,_,fun i=>bs.getD i false,rfl,Walks.list (A:=X.A.in1) (I.ok.hd hc) _ p (Gk hlt) its.toArray,⟨⟨_,Gc _ rfl,rfl,rfl⟩,pl.isList.push _⟩,?_,fun h' tk hk=>⟨.bl _,H,I.kept (old_kept hk),rfl,?_⟩⟩)
 ·intro i v s' Q' E' hP hQ
  have hb:bs[i]? = some (bs.getD i false)/\v = .bool (bs.getD i false):=by
   have hP':its[i]? = some v:=by simpa using hP
   rw [ei,GD] at hP'
   cases hb:bs[i]? with
   | none=>rw [hb] at hP'; cases hP'
   | some b =>
    rw [hb] at hP'
    have e1:bs.getD i false=b:=by rw [AC,hb]; rfl
    rw [e1]
    exact ⟨rfl,(GB hP').symm⟩
  rw [hb.2]
  exact GT hQ
 ·have e1:its.toArray.size=bs.length:=by rw [ei]; simp
  rw [e1,all_range]
  exact q
end
end L2
namespace Ck
open PySem L2
end Ck
namespace Ck
open PySem L2
end Ck
namespace Ck
open PySem L2
end Ck
namespace Ck
open PySem L2
noncomputable def steps (ws:List Int):List Int:=(FC (ws.length - 1)).map fun (i:Nat)=>(ws.getD (i+1) 0 - ws.getD i 0) % ((ws.length:Int)+1)
end Ck
namespace L2
open PySem PySem.W
end L2
namespace Ck
open PySem L2
theorem ne_int {a b:Int} (h:a≠b):¬ V.int a=V.int b:=fun z=>h (by injection z)
end Ck
namespace Ck
end Ck
namespace Ck
open PySem L2
noncomputable def bN (es:List Int) (r:Int):Int:=if 0 < r then es.getD (r - 1).toNat 0 else r
noncomputable def inR (es:List Int):Bool:=es.all fun e=>decide (0<=e)&&decide (e<=(es.length:Int))
end Ck
namespace Ck
open PySem L2
theorem l9 (a b:Int):decide (V.int a=V.int b)=decide (a=b):=by
 by_cases h:a=b
 ·rw [decide_eq_true h,decide_eq_true (by rw [h])]
 ·rw [decide_eq_false h,decide_eq_false (ne_int h)]
end Ck
namespace Ck
theorem mK {row:List Int} (nd:row.Nodup) {i j:Nat} {x:Int} (hi:row[i]? = some x) (hj:row[j]? = some x):i=j :=
 (List.getElem?_inj (Fs.mp hi).1 nd).mp (hi.trans hj.symm)
end Ck
namespace Ck
open PySem L2
theorem eY {H:Hp} (i:Int):Rep H (.int i) (.int i):=by unfold Rep; rfl
theorem jz (i:Int):dep (.int i)=0:=by unfold dep; rfl
end Ck
namespace L2
open PySem PySem.Spec PyProof.Rows
theorem oG:∀ {xs:List V} {us:List Fk},us.length=xs.length->(∀ (j:Nat) v,us[j]? = some v->∃ x,xs[j]? = some x/\RelV x v)->Vals xs us
 | [],us,hl,_=>by
  have:us=[]:=Ji hl
  subst this
  exact .nil
 | x::xs,[],hl,_=>by simp at hl
 | x::xs,u::us,hl,k=>by
  obtain ⟨y,e1,r⟩:=k 0 u rfl
  have:x=y:=by simpa using e1
  subst this
  exact .cons r (oG (by simpa using hl) fun j w e=>by
   obtain ⟨y,f1,f2⟩:=k (j+1) w (by simpa using e)
   exact ⟨y,by simpa using f1,f2⟩)
noncomputable def fE (i:Int) (n:Nat):List V:=((FC n).map fun (k:Nat)=>i+(k:Int)).map V.int
section
variable {X:Cx}
theorem list_range {pins:List (FD × Obj)} {σ:St} {H:Hp} {s:Fq} {Q:VK} {lo hi:Int} {t u v:Tok} {tk:Nat} (hc:X.calm=true) (I:Inv X pins σ H s) (h1 : -(2 ^ 62)<=lo) (h2:lo < 2 ^ 62) (h3 : -(2 ^ 62)<=hi) (h4:hi < 2 ^ 62) (hz:(hi - lo).toNat<=1000000)
  (q:∀ l,H l=none->Q (.ref l) (upd H l (.lst (fE lo (hi - lo).toNat)))):wpAny (model X.prog X.w) X.A (call (.type "list") [.ref s.heap.objs.size]) (EP X pins σ Q) X.xe { s with heap:=s.heap.push { cls:=.type "range",data:=.fields #[.int lo t,.int hi u,.int 1 v] },toks:=tk }:=by
 have I1:Inv X pins σ H { s with heap:=s.heap.push { cls:=.type "range",data:=.fields #[.int lo t,.int hi u,.int 1 v] },toks:=tk }:=I.kept fun b o e=>Ft _ e
 refine call_list_range (n:=(hi - lo).toNat) (I.ok.hd hc) (IsRange.new ..) (small_one h1 h2 h3 h4) (by rw [rangeSize_one]; split<;>lia) (by lia) fun h' tk' acc' c' hk he hacc=>?_
 have hl:acc'.toList.length=(fE lo (hi - lo).toNat).length:=by unfold fE; simpa using hacc.1
 refine ⟨.ref _,_,I1.laid (t':=tk') (o:=.lst (fE lo (hi - lo).toNat)) hk (Fy _) ⟨?_,acc'.toList,c',oG hl fun j w e=>?_,he⟩,rfl,q _ (I1.hok.fresh (Fy _))⟩
 ·unfold fE
  rw [Do,Do,Im]
  exact sz (by lia)
 ·obtain ⟨t',e2⟩:=hacc.2 j w (by simpa using e)
  have hj:j < (hi - lo).toNat:=by
   have:=(Fs.mp e).1
   rw [hl] at this
   unfold fE at this
   simpa using this
  refine ⟨.int (lo+(j:Int)),?_,t',by rw [e2,Int.mul_one]⟩
  unfold fE
  rw [GD,GD,Kv hj]
  rfl
noncomputable def EJ (ta:TA):TE:=fun σ H Q=>ta σ H fun vs H1=>∃ j:Int,vs=[.int j]/\-(2 ^ 62)<=j/\j < 2 ^ 62/\j.toNat<=1000000/\∀ l,H1 l=none->Q (.ref l) (upd H1 l (.lst (fE 0 j.toNat)))
theorem Bi {a:II} {ta:TA} {p p2 pos pos2:Pos} (hc:X.calm=true) (hgl:Gl X "list") (hml:X.mg "list" = none) (hg:Gl X "range") (hm:X.mg "range" = none) (ha:PA X [a] ta) (hs:starEach [a] X.env=[(false,eval a X.env)]:=by rfl)
  (he:starEach [.Call (.Name "range" p) [a] [] pos] X.env=[(false,eval (.Call (.Name "range" p) [a] [] pos) X.env)]:=by rfl) :
  PE X (.Call (.Name "list" p2) [.Call (.Name "range" p) [a] [] pos] [] pos2) (EJ ta):=by
 intro pins s σ H Q I h
 refine HD (dQ I hgl hml dC ?_ (by decide) (by decide))
 refine GU ?_ he rfl
 rw [he]
 show wpAny _ _ (spliced ((false,eval (.Call (.Name "range" p) [a] [] pos) X.env)::backTo pos2 [])) _ _ s
 refine JO (Call_ (dQ I hg hm boot_range (GU (aI (ha pos pins s σ H _ I h) fun us s1 ⟨vs,H1,I1,r1,q1⟩=>?_) hs rfl)))
 obtain ⟨j,e,b1,b2,b3,q⟩:=q1
 subst e
 cases r1 with
 | cons r rr =>
  cases rr
  obtain ⟨t,rfl⟩:=r
  exact call_range_1 (J0 (list_range hc I1 (by lia) (by lia) b1 b2 (by simpa using b3) (by simpa using q)))
end
end L2
namespace L2
open PySem PySem.Spec PyProof.Rows
end L2
namespace L2
open PySem PySem.Spec PyProof.Rows
theorem m8 {X:Cx} {K:Ga} (hK:X.K=K):dk X (.builtin "len") (fun xs H Q=>∃ a ys,xs=[.ref a]/\(ai K H a ys\/bg K H a ys)/\Q (.int ys.length) H):=by
 subst hK
 exact bA
end L2
namespace Ck
open PySem L2
noncomputable def cL (n:Nat):List Int:=(FC n).map fun (k:Nat)=>(k:Int)
theorem nR (n:Nat):cL (n+1)=cL n++[(n:Int)]:=by unfold cL; rw [IT,Fu]; rfl
theorem lJ (n:Nat):(cL n).length=n:=by unfold cL; simp
theorem h8 {n:Nat} {m:Int}:m∈cL n↔0<=m/\m < (n:Int):=by
 unfold cL
 rw [FH]
 constructor
 ·rintro ⟨k,hk,rfl⟩
  have:=FV.mp hk
  lia
 ·intro h
  exact ⟨m.toNat,FV.mpr (by lia),by lia⟩
theorem kG (n:Nat):(cL n).Pairwise (· < ·):=by
 unfold cL
 rw [GJ]
 exact Lw.imp fun h=>by lia
noncomputable def ck (ns:List Int):Bool:=ns.isPerm (cL ns.length)
theorem dc (ns:List Int):ck ns=true↔ns.Perm (cL ns.length):=List.isPerm_iff
theorem nZ {ns ms:List Int} (hp:ms.Perm ns) (hs:ms.Pairwise (·<=·)):ck ns=decide (ms=cL ns.length):=by
 rw [G8,dc,decide_eq_true_iff]
 constructor
 ·intro h
  exact Hv (le:=(·<=·)) (fun a b _ _ h1 h2=>Int.le_antisymm h1 h2) hs ((kG _).imp Hd) (hp.trans h)
 ·intro h
  rw [<- h]
  exact hp.symm
noncomputable def iJ (row:List Int) (k:Nat):Bool:=(FC k).any fun i=>(FC row.length).any fun j=>decide (k < j)&&(decide (row.getD k 0 < row.getD j 0)&&decide (row.getD j 0 < row.getD i 0))
theorem jT (row:List Int) (k:Nat):iJ row k=true↔∃ i j:Nat,i < k/\k < j/\j < row.length/\row.getD k 0 < row.getD j 0/\row.getD j 0 < row.getD i 0:=by
 unfold iJ
 rw [ID]
 constructor
 ·rintro ⟨i,hi,h⟩
  rw [ID] at h
  obtain ⟨j,hj,h⟩:=h
  rw [FO,FO] at h
  exact ⟨i,j,FV.mp hi,of_decide_eq_true h.1,FV.mp hj,of_decide_eq_true h.2.1,of_decide_eq_true h.2.2⟩
 ·rintro ⟨i,j,h1,h2,h3,h4,h5⟩
  refine ⟨i,FV.mpr h1,?_⟩
  rw [ID]
  refine ⟨j,FV.mpr h3,?_⟩
  rw [FO,FO]
  exact ⟨decide_eq_true h2,decide_eq_true h4,decide_eq_true h5⟩
noncomputable def j8 (row:List Int):Bool:=(FC row.length).all fun k=>!iJ row k
noncomputable def iW (row:List Int):Bool:=ck row&&j8 row
theorem sP {row:List Int} {k:Nat} (hk:k < row.length) (h:iJ row k=true):j8 row=false:=by
 cases e:j8 row with
 | false=>rfl
 | true =>
  have:=Gn.mp e k (FV.mpr hk)
  rw [h] at this
  cases this
theorem mF {row:List Int} (h:∀ k,k < row.length->iJ row k=false):j8 row=true:=by
 unfold j8
 rw [Gn]
 intro k hk
 rw [h k (FV.mp hk)]
 rfl
noncomputable def stk (row:List Int) (k p:Nat):List Int:=(cL p).filter fun m=>!decide (m∈row.take k)
theorem mh {row:List Int} {k p:Nat} {m:Int}:m∈stk row k p↔(0<=m/\m < (p:Int))/\m∉row.take k:=by
 unfold stk
 rw [GK,h8]
 simp
theorem Ae (row:List Int) (k p:Nat):(stk row k p).Pairwise (· < ·):=(kG p).filter _
theorem xc {row:List Int} {k p:Nat} (h:(p:Int)∉row.take k):stk row k (p+1)=stk row k p++[(p:Int)]:=by
 unfold stk
 rw [nR,GV]
 simp [h]
theorem xf {row:List Int} {k p:Nat} {x:Int} (hx:row[k]? = some x):stk row (k+1) p=(stk row k p).filter fun m=>!decide (m=x):=by
 unfold stk
 rw [List.filter_filter]
 refine List.filter_congr fun m _=>?_
 rw [FT,hx]
 by_cases h1:m=x<;>by_cases h2:m∈row.take k<;>simp [h1,h2]
theorem pJ {l0:List Int} {x:Int} (h:(l0++[x]).Pairwise (· < ·)):(l0++[x]).filter (fun m=>!decide (m=x))=l0:=by
 rw [GV]
 have e1:l0.filter (fun m=>!decide (m=x))=l0:=by
  rw [IZ]
  intro m hm
  have:=(Gx.mp h).2.2 m hm x (by simp)
  simp
  lia
 rw [e1]
 simp
structure Off (row:List Int) (k p:Nat):Prop where
 below:∀ x∈row.take k,x < (p:Int)
 from_:p=0\/∃ x∈row.take k,(p:Int)=x+1
 fine:∀ j,j < k->iJ row j=false
theorem Off.start (row:List Int):Off row 0 0:=⟨fun x hx=>by simp at hx,.inl rfl,fun j hj=>absurd hj (Iq _)⟩
theorem gq {row:List Int} {k:Nat} {y:Int} (h:y∈row.take k):∃ i,i < k/\row[i]? = some y:=by
 obtain ⟨i,hi,e⟩:=Ir h
 rw [FU] at hi
 refine ⟨i,by lia,?_⟩
 rw [List.getElem_take] at e
 rw [Da (show i < row.length by lia),e]
theorem gY {row:List Int} {k:Nat} {y:Int} (h:row[k]? = some y):row.getD k 0=y:=by rw [AC,h]; rfl
theorem Off.step {row:List Int} {k p p':Nat} {x:Int} (o:Off row k p) (hp:row.Perm (cL row.length)) (hx:row[k]? = some x) (hp':(p':Int)=if (p:Int)<=x then x+1 else (p:Int)) :
  ∃ l0 t,stk row k p'=l0++[t]/\(t=x->l0=stk row (k+1) p'/\Off row (k+1) p')/\(t≠x->iJ row k=true):=by
 have nd:row.Nodup:=hp.nodup_iff.mpr ((kG _).imp fun h=>Int.ne_of_lt h)
 have rng:∀ y∈row,0<=y/\y < (row.length:Int):=fun y hy=>h8.mp (hp.mem_iff.mp hy)
 have hk:k < row.length:=(Fs.mp hx).1
 have xr:=rng x (FG hx)
 have xn:x∉row.take k:=fun h=>by
  obtain ⟨i,hi,e⟩:=gq h
  have:=mK nd e hx
  lia
 have xp:x < (p':Int):=by rw [hp']; split<;>lia
 have pp:(p:Int)<=p':=by rw [hp']; split<;>lia
 have xs:x∈stk row k p':=mh.mpr ⟨⟨xr.1,xp⟩,xn⟩
 have hne:stk row k p'≠[]:=fun z=>by rw [z] at xs; cases xs
 have el:stk row k p'=(stk row k p').dropLast++[(stk row k p').getLast hne]:=(Km hne).symm
 have pw:=Ae row k p'
 generalize (stk row k p').dropLast=l0 at el
 generalize (stk row k p').getLast hne=t at el
 refine ⟨l0,t,el,fun e=>?_,fun e=>?_⟩
 ·subst e
  have top:∀ m∈stk row k p',m<=t:=fun m hm=>by
   rw [el] at hm pw
   rcases FF.mp hm with z | z
   ·have:=(Gx.mp pw).2.2 m z t (by simp)
    lia
   ·have:m=t:=by simpa using z
    lia
  refine ⟨?_,fun y hy=>?_,?_,fun j hj=>?_⟩
  ·rw [xf hx,el,pJ (by rw [<- el]; exact pw)]
  ·rw [FT,hx] at hy
   rcases FF.mp hy with z | z
   ·have:=o.below y z
    lia
   ·have:y=t:=by simpa using z
    lia
  ·have hm:t∈row.take (k+1):=by rw [FT,hx]; simp
   by_cases c:(p:Int)<=t
   ·rw [if_pos c] at hp'
    exact .inr ⟨t,hm,hp'⟩
   ·rw [if_neg c] at hp'
    rcases o.from_ with z | ⟨y,hy,z⟩
    ·lia
    ·exact .inr ⟨y,by rw [FT]; exact Hj _ hy,by lia⟩
  ·by_cases c:j=k
   ·subst c
    cases hb:iJ row j with
    | false=>rfl
    | true =>
     obtain ⟨i,m,h1,h2,h3,h4,h5⟩:=(jT row j).mp hb
     rw [gY hx] at h4
     have em:row[m]? = some (row.getD m 0):=by rw [AC,Da h3]; rfl
     have ei:row[i]? = some (row.getD i 0):=by rw [AC,Da (show i < row.length by lia)]; rfl
     have mi:row.getD i 0∈row.take j:=FG (i:=i) (by rw [IQ h1]; exact ei)
     have b1:=o.below _ mi
     have b2:=rng _ (FG em)
     have nm:row.getD m 0∉row.take j:=fun h=>by
      obtain ⟨i',hi',e'⟩:=gq h
      have:=mK nd e' em
      lia
     have:=top _ (mh.mpr ⟨⟨b2.1,by lia⟩,nm⟩)
     lia
   ·exact o.fine j (by lia)
 ·have ht:t∈stk row k p':=by rw [el]; simp
  obtain ⟨⟨t0,t1⟩,tn⟩:=mh.mp ht
  have xt:x < t:=by
   rw [el] at xs pw
   rcases FF.mp xs with z | z
   ·exact (Gx.mp pw).2.2 x z t (by simp)
   ·have:x=t:=by simpa using z
    exact absurd this.symm e
  have c:¬ (p:Int)<=x:=fun c=>by rw [if_pos c] at hp'; lia
  rw [if_neg c] at hp'
  rcases o.from_ with z | ⟨y,hy,z⟩
  ·lia
  ·obtain ⟨i,hi,ei⟩:=gq hy
   have yr:=rng y (FG ei)
   have ty:t≠y:=fun w=>tn (by rw [w]; exact hy)
   have tr:t∈row:=hp.mem_iff.mpr (h8.mpr ⟨t0,by lia⟩)
   obtain ⟨j,hj,ej⟩:=Ir tr
   have ej':row[j]? = some t:=by rw [Da hj,ej]
   have jk:k < j:=by
    by_cases h:j < k
    ·exact absurd (FG (i:=j) (by rw [IQ h]; exact ej')) tn
    ·by_cases h2:j=k
     ·subst h2
      rw [hx] at ej'
      exact absurd (GB ej').symm e
     ·lia
   exact (jT row k).mpr ⟨i,j,hi,jk,hj,by rw [gY hx,gY ej']; exact xt,by rw [gY ej',gY ei]; lia⟩
end Ck
namespace Ck
open PySem L2
theorem ot:∀ as bs:List Int,jF (as.map V.int) (bs.map V.int)=decide (as=bs)
 | [],[]=>rfl
 | [],b::bs=>rfl
 | a::as,[]=>rfl
 | a::as,b::bs=>by
  rw [FQ,FQ]
  show (gW (.int a) (.int b)&&jF (as.map V.int) (bs.map V.int))=_
  rw [ot as bs]
  have e:gW (.int a) (.int b)=decide (a=b):=by
   show (a == b)=_
   by_cases h:a=b
   ·subst h; simp
   ·simp [h]
  rw [e]
  by_cases h1:a=b<;>by_cases h2:as=bs<;>simp [h1,h2]
theorem mU (n:Nat):fE 0 n=(cL n).map V.int:=by
 unfold fE cL
 refine congrArg (Lc V.int) (Gw fun k _=>?_)
 show (0:Int)+(k:Int)=(k:Int)
 lia
structure C9 (pl rw:List Int) (a:Nat):Prop where
 perm:(pl++rw).Perm (cL a)
 up:pl.Pairwise (· < ·)
 no:∀ i j k:Nat,i < k->k < j->j < rw.length->¬ (rw.getD k 0 < rw.getD j 0/\rw.getD j 0 < rw.getD i 0)
 left:∀ i k:Nat,i < k->k < rw.length->∀ m∈pl,¬ (rw.getD k 0 < m/\m < rw.getD i 0)
theorem gv.ok {pl rw:List Int} {a:Nat} (h:gv pl rw a):C9 pl rw a:=by
 induction h with
 | start=>exact ⟨JA _,J1,fun i j k _ _ hj=>by simp at hj,fun i k _ hk=>by simp at hk⟩
 | @on p r a hp ih =>
  have b:=hp.bound
  refine ⟨?_,?_,ih.no,fun i k h1 h2 m hm=>?_⟩
  ·rw [nR,FX]
   have:=(ih.perm.append_right [(a:Int)])
   rw [FX] at this
   exact (GW p (IG)).trans this
  ·rw [Gx]
   refine ⟨ih.up,Ik _ _,fun x hx y hy=>?_⟩
   have:y=(a:Int):=by simpa using hy
   have:=b x (.inl hx)
   lia
  ·rcases FF.mp hm with z | z
   ·exact ih.left i k h1 h2 m z
   ·have:m=(a:Int):=by simpa using z
    have hi:r.getD i 0∈r:=by
     rw [AC,Da (show i < r.length by lia)]
     exact Hr _
    have:=b _ (.inr hi)
    lia
 | @off p r a m hp ih =>
  have up:=Gx.mp ih.up
  have gd:∀ i,i < r.length->(r++[m]).getD i 0=r.getD i 0:=fun i hi=>by
   rw [AC,Hn hi,<- AC]
  have gm:(r++[m]).getD r.length 0=m:=by
   rw [AC,GX (Fy _),Nat.sub_self]
   rfl
  refine ⟨?_,up.1,fun i j k h1 h2 h3=>?_,fun i k h1 h2 x hx=>?_⟩
  ·refine LF ?_ ih.perm
   rw [FX]
   exact GW p IG
  ·rw [Fw] at h3
   have h3':j < r.length+1:=h3
   by_cases hj:j < r.length
   ·rw [gd j hj,gd k (by lia),gd i (by lia)]
    exact ih.no i j k h1 h2 hj
   ·have ej:j=r.length:=by lia
    rw [ej,gm,gd k (by lia),gd i (by lia)]
    exact ih.left i k h1 (by lia) m (by simp)
  ·rw [Fw] at h2
   have h2':k < r.length+1:=h2
   by_cases hk:k < r.length
   ·rw [gd k hk,gd i (by lia)]
    exact ih.left i k h1 hk x (by simp [hx])
   ·have ek:k=r.length:=by lia
    rw [ek,gm]
    have:=up.2.2 x hx m (by simp)
    lia
theorem gv.turn {rw:List Int} {n:Nat} (h:gv [] rw n) (hl:rw.length=n):iW rw=true:=by
 have o:=h.ok
 unfold iW
 rw [FO]
 refine ⟨(dc rw).mpr (by rw [hl]; simpa using o.perm),mF fun k hk=>?_⟩
 cases e:iJ rw k with
 | false=>rfl
 | true =>
  obtain ⟨i,j,h1,h2,h3,h4,h5⟩:=(jT rw k).mp e
  exact absurd ⟨h4,h5⟩ (o.no i j k h1 h2 h3)
end Ck
namespace Ck
open PySem L2
noncomputable def Fn (n:Nat):List Int:=(FC n).map fun (k:Nat)=>1+(k:Int)
end Ck
namespace Ck
end Ck
namespace Ck
end Ck
namespace L2
open PySem PySem.Spec PyProof.Rows PySem.SeqAt
section
variable {X:Cx}
theorem xa {K:Ga} (hK:X.K=K):Aj X (A8 K):=by
 subst hK
 exact eA
end
end L2
namespace Ck
open PySem L2
end Ck
namespace L2
open PySem
theorem mY {A:GG} {k:Nat} (hr:bI k A):A.units+1 < cLine:=IF (by lia) hr.un
end L2
namespace Ck
open PySem L2
end Ck
namespace L2
open PySem PySem.Spec PyProof.Rows
section
variable {X:Cx}
end
structure InsT (K:Ga) (C:FD):Prop where
 cl:Cls K C
 ha:W.findIn K (.ref C) "__class__" = some (some (.builtin "object.__class__"))
 hn:W.specialIn K (.builtin "object.__class__") "__get__" = some (some (.builtin "getset_descriptor.__get__"))
 htk:W.takesIn K (.builtin "object.__class__")=some true
 hm:W.mroIn K C (.type "object")=some true
theorem InsT.ty {K:Ga} {C a dx:FD} {fs:List (Str × V)} {H:Hp} (h:InsT K C) (e:H a=some (.ins C dx fs)):eL K H (.ref a) (.ref C):=.ins e h.cl h.ha h.hn h.htk h.hm
end L2
namespace Ck
open PySem L2
end Ck
namespace L2
open PySem PySem.Spec PyProof.Rows PyProof
theorem za {i j:Int} (h0:0 < j) (h:j.natAbs < 2 ^ 1000):xq i j:=⟨h0,by
 have hz:j.natAbs≠0:=by lia
 have:=(Nat.log2_lt hz).mpr h
 lia⟩
end L2
namespace L2
open PySem PySem.Spec PyProof.Rows
section
variable {X:Cx} {f:FD} {fd:G7} {ps:List Str} {sp:Sp} {x:Str} {p pos:Pos} {a b e:II} {es:List II} {tc:TE} {t:TA} {j k:Nat}
end
end L2
namespace Ck
open PySem L2
end Ck
namespace L2
open PySem PySem.Spec PyProof.Rows PySem.W
noncomputable def pw {α:Type} (n:Nat) (lt:Nat->Nat->Bool):KasT α->(α->Prop)->Prop
 | .ret a,Q=>Q a
 | .ask i j k,Q=>i < n/\j < n/\pw n lt (k (lt i j)) Q
theorem gj {α β:Type} {n:Nat} {lt:Nat->Nat->Bool} {f:α->KasT β} {Q:β->Prop}:∀ {t:KasT α},pw n lt t (fun a=>pw n lt (f a) Q)->pw n lt (t.bind f) Q
 | .ret _,h=>h
 | .ask _ _ _,h=>⟨h.1,h.2.1,gj h.2.2⟩
theorem fm {α:Type} {n:Nat} {lt:Nat->Nat->Bool} {Q Q':α->Prop} (m:∀ a,Q a->Q' a):∀ {t:KasT α},pw n lt t Q->pw n lt t Q'
 | .ret a,h=>m a h
 | .ask _ _ _,h=>⟨h.1,h.2.1,fm m h.2.2⟩
theorem xW {α:Type} {n:Nat} {lt:Nat->Nat->Bool} {Q:α->Prop} {s:Fq} {cmp:Nat->Nat->(Bool->Fq->Prop)->Fq->Prop}
  (hc:∀ (i j:Nat) (C:Bool->Fq->Prop),i < n->j < n->C (lt i j) s->cmp i j C s):∀ {t:KasT α},pw n lt t Q->t.kasWp cmp (fun a s'=>s'=s/\Q a) s
 | .ret _,h=>⟨rfl,h⟩
 | .ask i j k,h=>hc i j (fun b s'=>(k b).kasWp cmp (fun a s'=>s'=s/\Q a) s') h.1 h.2.1 (xW hc h.2.2)
structure iF (lt:Nat->Nat->Bool):Prop where
 asym:∀ a b,lt a b=true->lt b a=false
 ntr:∀ a b c,lt b a=false->lt c b=false->lt c a=false
noncomputable abbrev gA (p:Array Nat) (k:Nat):Nat:=p.getD k 0
def c8 (n:Nat) (p:Array Nat):Prop:=p.toList.Perm (FC n)
theorem c8.size {n:Nat} {p:Array Nat} (h:c8 n p):p.size=n:=by
 have:=h.length_eq
 rw [Im] at this
 simpa using this
theorem c8.lt {n:Nat} {p:Array Nat} (h:c8 n p) (hn:0 < n) (k:Nat):gA p k < n:=by
 unfold gA
 by_cases hk:k < p.size
 ·have e:p.getD k 0=p[k]:=by simp [hk]
  rw [e]
  exact FV.mp (h.mem_iff.mp (Array.getElem_mem_toList hk))
 ·have e:p.getD k 0=0:=by simp [hk]
  rw [e]; exact hn
theorem jf {p:Array Nat} {i j:Nat} (hj:j<=p.size) (k:Nat):gA (LW p i j) k=if i<=k/\k < j then gA p (i+j - 1 - k) else gA p k:=by
 unfold gA LW
 rw [GO,getElem?_mirror_all hj k]
 split
 ·rw [<- GO]
 ·rw [<- GO]
theorem AN {p:Array Nat} {src d:Nat} (hs:src < p.size) (hd:d<=src) (k:Nat):gA (bubble p src d) k=if k=src - d then gA p src else if src - d < k/\k<=src then gA p (k - 1) else gA p k:=by
 unfold gA
 rw [GO,getElem?_bubble hs d hd k]
 split
 ·simp [hs]
 ·split
  ·rw [<- GO]
  ·rw [<- GO]
theorem c8.rev {n:Nat} {p:Array Nat} (h:c8 n p) (i j:Nat):c8 n (LW p i j):=(Iz.mp (I0 p i j _)).trans h
theorem c8.bub {n:Nat} {p:Array Nat} (h:c8 n p) (i j:Nat):c8 n (bubble p i j):=(Iz.mp (bubble_perm p i j)).trans h
section
variable {n:Nat} {lt:Nat->Nat->Bool} (O:iF lt)
def cM (lt:Nat->Nat->Bool) (p:Array Nat) (k:Nat):Prop:=∀ i j,i<=j->j < k->lt (gA p j) (gA p i)=false
def gU (lt:Nat->Nat->Bool) (p:Array Nat) (k:Nat):Prop:=∀ i j,i<=j->j < k->lt (gA p i) (gA p j)=false
def kP (lt:Nat->Nat->Bool) (a b:Nat):Prop:=lt a b=false/\lt b a=false
include O
theorem iF.irr (a:Nat):lt a a=false:=by
 cases h:lt a a with
 | false=>rfl
 | true=>exact h.symm.trans (O.asym a a h)
theorem iF.alk (a:Nat):kP lt a a:=⟨O.irr a,O.irr a⟩
theorem iF.alkT {a b c:Nat} (x:kP lt a b) (y:kP lt b c):kP lt a c:=⟨O.ntr c b a y.1 x.1,O.ntr a b c x.2 y.2⟩
theorem iF.up {a b c:Nat} (x:lt a b=true) (y:lt c b=false):lt a c=true:=by
 cases h:lt a c with
 | true=>rfl
 | false=>exact (x.symm.trans (O.ntr b c a y h)).symm▸rfl
theorem cM.one (p:Array Nat):cM lt p 1:=fun i j h1 h2=>by
 have e:i=j:=by lia
 subst e
 exact O.irr _
theorem gU.one (p:Array Nat):gU lt p 1:=fun i j h1 h2=>by
 have e:i=j:=by lia
 subst e
 exact O.irr _
theorem cM.snoc {p:Array Nat} {m:Nat} (h1:1<=m) (h:cM lt p m) (c:lt (gA p m) (gA p (m - 1))=false):cM lt p (m+1):=fun i j ij jm=>by
 by_cases hj:j < m
 ·exact h i j ij hj
 ·have e:j=m:=by lia
  subst e
  by_cases hi:i=j
  ·subst hi; exact O.irr _
  ·exact O.ntr _ _ _ (h i (j - 1) (by lia) (by lia)) c
theorem gU.snoc {p:Array Nat} {m:Nat} (h1:1<=m) (h:gU lt p m) (c:lt (gA p (m - 1)) (gA p m)=false):gU lt p (m+1):=fun i j ij jm=>by
 by_cases hj:j < m
 ·exact h i j ij hj
 ·have e:j=m:=by lia
  subst e
  by_cases hi:i=j
  ·subst hi; exact O.irr _
  ·exact O.ntr _ _ _ c (h i (j - 1) (by lia) (by lia))
theorem gU.alk {p p':Array Nat} {m:Nat} (h:gU lt p m) (e:∀ k,k < m->kP lt (gA p' k) (gA p k)):gU lt p' m:=fun i j ij jm =>
 O.ntr _ _ _ (e j jm).2 (O.ntr _ _ _ (h i j ij jm) (e i (by lia)).1)
theorem nP {p:Array Nat} (hp:c8 n p) {N:Nat} (hN:N<=n):∀ (f m:Nat),1<=m->m+f=N->cM lt p m->pw n lt (kas_asc p f m) (fun r=>m<=r/\r<=N/\cM lt p r/\(r < N->lt (gA p r) (gA p (r - 1))=true))
 | 0,m,h1,h2,h=>⟨Fy _,by lia,h,fun z=>absurd z (by lia)⟩
 | f+1,m,h1,h2,h=>by
  refine ⟨hp.lt (by lia) _,hp.lt (by lia) _,?_⟩
  show pw n lt (if lt (gA p m) (gA p (m - 1))=true then _ else _) _
  cases c:lt (gA p m) (gA p (m - 1)) with
  | true =>
   rw [if_pos rfl]
   exact ⟨Fy _,by lia,h,fun _=>c⟩
  | false =>
   rw [if_neg (by decide)]
   exact fm (fun r hr=>⟨by lia,hr.2⟩) (nP hp hN f (m+1) (by lia) (by lia) (h.snoc O h1 c))
theorem ju {N:Nat} (hN:N<=n):∀ (f:Nat) (p:Array Nat) (m q:Nat),c8 n p->q+1<=m->m+f=N->gU lt p m->(∀ i,m - 1 - q<=i->i < m->kP lt (gA p i) (gA p (m - 1))) ->
  pw n lt (kas_desc f p m q) (fun r=>c8 n r.1/\r.2.2+1<=r.2.1/\r.2.1<=N/\gU lt r.1 r.2.1/\∀ i,r.2.1 - 1 - r.2.2<=i->i < r.2.1->kP lt (gA r.1 i) (gA r.1 (r.2.1 - 1)))
 | 0,p,m,q,hp,hq,h2,h,al=>⟨hp,hq,by show m<=N; lia,h,al⟩
 | f+1,p,m,q,hp,hq,h2,h,al=>by
  have hs:=hp.size
  refine ⟨hp.lt (by lia) _,hp.lt (by lia) _,?_⟩
  show pw n lt (if lt (gA p m) (gA p (m - 1))=true then _ else _) _
  cases c:lt (gA p m) (gA p (m - 1)) with
  | true =>
   rw [if_pos rfl]
   by_cases q0:q > 0
   ·rw [if_pos q0]
    have e:∀ k,gA (LW p (m - (q+1)) m) k=if m - (q+1)<=k/\k < m then gA p (m - (q+1)+m - 1 - k) else gA p k:=fun k=>jf (by lia) k
    have ek:∀ k,k < m->kP lt (gA (LW p (m - (q+1)) m) k) (gA p k):=fun k hk=>by
     rw [e k]
     split
     ·have z1:=al (m - (q+1)+m - 1 - k) (by lia) (by lia)
      have z2:=al k (by lia) hk
      exact O.alkT z1 ⟨z2.2,z2.1⟩
     ·exact O.alk _
    have em:gA (LW p (m - (q+1)) m) m=gA p m:=by rw [e m,if_neg (by lia)]
    refine ju hN f _ (m+1) 0 (hp.rev _ _) (by lia) (by lia) ((h.alk O ek).snoc O (by lia) ?_) (fun i i1 i2=>?_)
    ·rw [em]
     have:=(ek (m - 1) (by lia)).1
     exact O.ntr _ _ _ (O.asym _ _ c) this
    ·have:i=m:=by lia
     subst this
     exact O.alk _
   ·rw [if_neg q0]
    refine ju hN f p (m+1) 0 hp (by lia) (by lia) (h.snoc O (by lia) (O.asym _ _ c)) (fun i i1 i2=>?_)
    have:i=m:=by lia
    subst this
    exact O.alk _
  | false =>
   rw [if_neg (by decide)]
   refine ⟨hp.lt (by lia) _,hp.lt (by lia) _,?_⟩
   show pw n lt (if lt (gA p (m - 1)) (gA p m)=true then _ else _) _
   cases d:lt (gA p (m - 1)) (gA p m) with
   | true =>
    rw [if_pos rfl]
    exact ⟨hp,hq,by show m<=N; lia,h,al⟩
   | false =>
    rw [if_neg (by decide)]
    refine ju hN f p (m+1) (q+1) hp (by lia) (by lia) (h.snoc O (by lia) d) (fun i i1 i2=>?_)
    by_cases hi:i < m
    ·exact O.alkT (al i (by lia) hi) ⟨d,c⟩
    ·have:i=m:=by lia
     subst this
     exact O.alk _
def Ah (n:Nat) (lt:Nat->Nat->Bool) (N:Nat) (r:Nat × Array Nat):Prop:=c8 n r.2/\cM lt r.2 r.1/\1<=r.1/\r.1<=N
theorem om {N:Nat} (hN:N<=n) {p:Array Nat} {m:Nat} (hp:c8 n p) (h1:1<=m) (hm:m<=N) (h:gU lt p m):pw n lt (kas_tail3 m N p) (Ah n lt N):=by
 have hs:=hp.size
 have e:∀ k,k < m->gA (LW p 0 m) k=gA p (m - 1 - k):=fun k hk=>by
  rw [jf (by lia),if_pos (by lia),Hw]
 refine gj (fm (fun r hr=>?_) (nP O (hp.rev 0 m) hN (N - m) m h1 (by lia) (fun i j ij jm=>?_)))
 ·exact ⟨hp.rev 0 m,hr.2.2.1,by show 1<=r; lia,hr.2.1⟩
 ·rw [e i (by lia),e j jm]
  exact h _ _ (by lia) (by lia)
theorem jH {N:Nat} (hN:N<=n) {p:Array Nat} {m:Nat} (hp:c8 n p) (h1:1<=m) (hm:m+1<=N) (h:gU lt p m) (c:lt (gA p m) (gA p (m - 1))=true):pw n lt (kas_descPart m N p) (Ah n lt N):=by
 refine gj (fm (fun r hr=>?_) (ju O hN (N - (m+1)) p (m+1) 0 hp (by lia) (by lia) (h.snoc O h1 (O.asym _ _ c)) (fun i i1 i2=>?_)))
 ·obtain ⟨p',m',q'⟩:=r
  obtain ⟨ok,hq,hl,fa,al⟩:=hr
  have hs:=ok.size
  dsimp only at hs hq hl fa al |-
  by_cases q0:q' > 0
  ·rw [if_pos q0]
   refine om O hN (ok.rev _ _) (by lia) hl (fa.alk O fun k hk=>?_)
   rw [jf (by lia)]
   split
   ·have z1:=al (m' - (q'+1)+m' - 1 - k) (by lia) (by lia)
    have z2:=al k (by lia) hk
    exact O.alkT z1 ⟨z2.2,z2.1⟩
   ·exact O.alk _
  ·rw [if_neg q0]
   exact om O hN ok (by lia) hl fa
 ·have:i=m:=by lia
  subst this
  exact O.alk _
theorem vY {N:Nat} (hN:N<=n) (hN1:1<=N) {p:Array Nat} (hp:c8 n p):pw n lt (kas_count N p) (Ah n lt N):=by
 have hs:=hp.size
 refine gj (fm (fun m hm=>?_) (nP O hp hN (N - 1) 1 (Fy _) (by lia) (cM.one O p)))
 obtain ⟨m1,mN,ri,st⟩:=hm
 by_cases e:m=N
 ·subst e
  rw [if_pos (by simp)]
  exact ⟨hp,ri,m1,Fy _⟩
 ·rw [if_neg (by simpa using e)]
  have c:=st (by lia)
  by_cases m2:m > 1
  ·rw [if_pos m2]
   refine ⟨hp.lt (by lia) _,hp.lt (by lia) _,?_⟩
   show pw n lt (if lt (gA p 0) (gA p (m - 1))=true then _ else _) _
   cases d:lt (gA p 0) (gA p (m - 1)) with
   | true =>
    rw [if_pos rfl]
    exact ⟨hp,ri,m1,mN⟩
   | false =>
    rw [if_neg (by decide)]
    have al:∀ i,i < m->kP lt (gA p i) (gA p 0):=fun i hi=>⟨ri 0 i (by lia) hi,O.ntr _ _ _ (ri i (m - 1) (by lia) (by lia)) d⟩
    have e:∀ k,k < m->gA (LW p 0 m) k=gA p (m - 1 - k):=fun k hk=>by
     rw [jf (by lia),if_pos (by lia),Hw]
    refine jH O hN (hp.rev _ _) m1 (by lia) (fun i j ij jm=>?_) ?_
    ·rw [e i (by lia),e j jm]
     have z1:=al (m - 1 - i) (by lia)
     have z2:=al (m - 1 - j) (by lia)
     exact (O.alkT z1 ⟨z2.2,z2.1⟩).1
    ·rw [jf (by lia),if_neg (by lia),e (m - 1) (by lia),show m - 1 - (m - 1)=0 by lia]
     exact O.up c d
  ·rw [if_neg m2]
   have em:m=1:=by lia
   subst em
   exact jH O hN hp (Fy _) (by lia) (gU.one O p) c
theorem jP {p:Array Nat} (hp:c8 n p) {k:Nat} (hk:k < n) (h:cM lt p k):∀ (f l r:Nat),l<=r->r<=k->r - l<=f->(∀ i,i < l->lt (gA p k) (gA p i)=false)->(∀ i,r<=i->i < k->lt (gA p k) (gA p i)=true) ->
  pw n lt (kas_place p k f l r) (fun l'=>l'<=k/\(∀ i,i < l'->lt (gA p k) (gA p i)=false)/\∀ i,l'<=i->i < k->lt (gA p k) (gA p i)=true)
 | 0,l,r,h1,h2,h3,a,b=>⟨by lia,a,fun i i1 i2=>b i (by lia) i2⟩
 | f+1,l,r,h1,h2,h3,a,b=>by
  show pw n lt (if l ≥ r then _ else _) _
  by_cases e:l ≥ r
  ·rw [if_pos e]
   exact ⟨by lia,a,fun i i1 i2=>b i (by lia) i2⟩
  ·rw [if_neg e]
   refine ⟨hp.lt (by lia) _,hp.lt (by lia) _,?_⟩
   show pw n lt (if lt (gA p k) (gA p ((l+r) / 2))=true then _ else _) _
   cases c:lt (gA p k) (gA p ((l+r) / 2)) with
   | true =>
    rw [if_pos rfl]
    exact jP hp hk h f l ((l+r) / 2) (by lia) (by lia) (by lia) a fun i i1 i2=>O.up c (h _ i i1 i2)
   | false =>
    rw [if_neg (by decide)]
    exact jP hp hk h f ((l+r) / 2+1) r (by lia) h2 (by lia) (fun i hi=>O.ntr _ _ _ (h i ((l+r) / 2) (by lia) (by lia)) c) b
theorem vq:∀ (f:Nat) (p:Array Nat) (k:Nat),c8 n p->k+f=n->cM lt p k->pw n lt (kas_bin f p k) (fun p'=>c8 n p'/\cM lt p' n)
 | 0,p,k,hp,hk,h=>by
  have:k=n:=by lia
  subst this
  exact ⟨hp,h⟩
 | f+1,p,k,hp,hk,h=>by
  have hs:=hp.size
  refine gj (fm (fun l hl=>?_) (jP O hp (by lia) h k 0 k (by lia) (Fy _) (by lia) (fun i hi=>absurd hi (by lia)) (fun i i1 i2=>absurd i1 (by lia))))
  obtain ⟨lk,lo,hi⟩:=hl
  refine vq f _ (k+1) (hp.bub _ _) (by lia) (fun i j ij jk=>?_)
  have e:=fun x=>AN (p:=p) (src:=k) (d:=k - l) (by lia) (by lia) x
  rw [e i,e j,show k - (k - l)=l by lia]
  by_cases j1:j=l
  ·subst j1
   rw [if_pos rfl]
   by_cases i1:i=j
   ·rw [if_pos i1]; exact O.irr _
   ·rw [if_neg i1,if_neg (by lia)]
    exact lo i (by lia)
  ·rw [if_neg j1]
   by_cases j2:l < j/\j<=k
   ·rw [if_pos j2]
    by_cases i1:i=l
    ·rw [if_pos i1]
     exact O.asym _ _ (hi (j - 1) (by lia) (by lia))
    ·rw [if_neg i1]
     by_cases i2:l < i/\i<=k
     ·rw [if_pos i2]
      exact h _ _ (by lia) (by lia)
     ·rw [if_neg i2]
      exact h _ _ (by lia) (by lia)
   ·rw [if_neg j2,if_neg (by lia),if_neg (by lia)]
    exact h _ _ ij (by lia)
theorem ya (h2:1<=n):pw n lt (kas_sort n) (fun p=>c8 n p/\cM lt p n):=by
 refine gj (fm (fun r hr=>?_) (vY O (Fy n) h2 (p:=Kc (FC n)) (by unfold c8; simp)))
 obtain ⟨m,p⟩:=r
 obtain ⟨ok,ri,m1,mn⟩:=hr
 dsimp only at ok ri m1 mn |-
 by_cases e:m < n
 ·rw [if_pos e,Nat.max_eq_left m1]
  exact vq O (n - m) p m ok (by lia) ri
 ·rw [if_neg e]
  have:m=n:=by lia
  subst this
  exact ⟨ok,ri⟩
end
end L2
namespace L2
open PySem PySem.Spec PyProof.Rows PySem.W Ck
section
variable {prog:Gi} {w:GF} {A:GG} {E:Fk->Fq->Prop} {s:Fq}
def qR (prog:Gi) (w:GF) (A:GG) (vs:List Fk) (lt:Nat->Nat->Bool) (s1:Fq):Prop :=
 ∀ (Q:SortKind->Fq->Prop),(∀ κ,(∀ (i j:Nat) (C:Bool->Fq->Prop),i < vs.length->j < vs.length->C (lt i j) s1->kas_ask prog w A κ vs i j C s1)->Q κ s1)->wpAny (model prog w) A (keyKind' vs.toArray) Q (fun _ _=>False) s1
noncomputable def ee (vs:List Fk) (p:Array Nat):List Fk:=p.toList.map fun i=>vs.getD i Ht
theorem uB (vs:List Fk):ee vs (Kc (FC vs.length))=vs:=by
 unfold ee
 refine JF (by simp) fun i h1 h2=>?_
 simp [h2]
theorem yB (vs:List Fk):(vs.toArray.zip vs.toArray).map (·.2)=vs.toArray:=by
 refine Array.ext (by simp) fun i h1 h2=>?_
 simp
theorem o7 {a:FD} {vs:List Fk} {n:Nat} {P:Mo->Fq->Prop} {lt:Nat->Nat->Bool} (O:iF lt) (ho:s.heap.get? a=some (seqObj "list" vs.toArray n)) (h64:vs.length < 64)
  (hk:∀ h6:HM,(∀ b o,b≠a->s.heap.get? b=some o->h6.get? b=some o)->2<=vs.length->qR prog w A vs lt { s with heap:=h6 })
  (fin:∀ p:Array Nat,c8 vs.length p->cM lt p vs.length->P (.done (.ret .none)) { s with heap:=sortedHeap s.heap a vs (ee vs p).toArray }):wpAny (model prog w) A (Builtin.«list.sort» ⟨[.ref a],[]⟩) P E s:=by
 have ha:a < s.heap.objs.size:=FK ho
 have hz:vs.length<=sizeLine:=by rw [G3]; lia
 obtain ⟨e1,ho1⟩:∃ e,(s.heap.update a (Gs fun _=>(#[]:Array Fk))).get? a=some (seqObj "list" #[] e):=⟨_,get?_update_seq ho _⟩
 have keep:∀ b o,(s.heap.update a (Gs fun _=>(#[]:Array Fk))).get? b=some o->(((s.heap.update a (Gs fun _=>(#[]:Array Fk))).push (seqObj "tuple" vs.toArray 0)).push (seqObj "list" #[] 0)).get? b=some o:=fun b o e=>Ft _ (Ft _ e)
 have old:∀ b o,b≠a->s.heap.get? b=some o->(((s.heap.update a (Gs fun _=>(#[]:Array Fk))).push (seqObj "tuple" vs.toArray 0)).push (seqObj "list" #[] 0)).get? b=some o:=fun b o hb e=>keep b o (by rw [Heap.get?_update_ne _ _ _ _ hb]; exact e)
 have ho6:=keep _ _ ho1
 rw [list_sort_plain]
 refine mo (listItems_at ho rfl (mo (Ko ho rfl (mo (Lh ho1 rfl (mo (wpAny_newTuple (mo (Kp (GH ?_) (FI _))) hz)))) (by rw [FN]; exact hz) (FI _))))
 show wpAny (model prog w) A _ P E { s with heap:=((s.heap.update a (Gs fun _=>(#[]:Array Fk))).push (seqObj "tuple" vs.toArray 0)).push (seqObj "list" #[] 0) }
 dsimp only
 by_cases h2:vs.toArray.size < 2
 ·rw [if_pos h2,if_pos h2]
  refine mo (Fv ?_)
  rw [StateT.run_pure]
  refine mo (Fv ?_)
  dsimp only
  have ez:(arrOf (SortSt.mk' general' (vs.toArray.zip vs.toArray) #[] 7 none)).map (·.2)=vs.toArray:=yB vs
  rw [ez]
  refine mo (Lh ho6 rfl (mo (Ko ho6 rfl ?_ (FI _) (by rw [FN]; lia))))
  simp only [bne_self_eq_false,Fx,if_false]
  have f:=fin (Kc (FC vs.length)) (by unfold c8; simp) (fun i j ij jl=>by
   rw [FN] at h2
   have e:i=j:=by lia
   subst e
   exact O.irr _)
  rw [uB] at f
  exact Fv f
 ·rw [if_neg h2,if_neg h2]
  rw [FN] at h2
  refine mo (IC (hk _ old (by lia) _ fun κ ask=>?_) (fun _ _ q=>q) fun _ _ x=>x.elim)
  refine mo (IC (kat_run (ks:=vs) (Q:=fun st' s'=>∃ p:Array Nat,p.size=vs.length/\arrOf st'=p.map (kas_item (vs.toArray.zip vs.toArray))/\failedOf st'=none/\s'=_/\c8 vs.length p/\cM lt p vs.length) rfl (by lia) h64
   (fun p' st' s' a1 a2 a3 a4=>⟨p',a1,a2,a3,a4⟩) (xW ask (ya O (by lia)))) ?_ fun _ _ e=>e)
  rintro ⟨⟨⟩,st'⟩ s' ⟨p,hp,har,hf,rfl,ok,ri⟩
  dsimp only
  rw [kat_snds rfl har]
  refine mo (Lh ho6 rfl (mo (Ko ho6 rfl ?_ (FI _) (by rw [FN,Do,FM,hp]; lia))))
  rw [hf]
  simp only [bne_self_eq_false,Fx,if_false]
  exact Fv (fin p ok ri)
theorem kR {l:FD} {vs:List Fk} {Q:Fk->Fq->Prop} {lt:Nat->Nat->Bool} (O:iF lt) (hl:s.heap.IsList l vs.toArray) (h64:vs.length < 64)
  (hk:∀ h6:HM,(∀ b o,s.heap.get? b=some o->h6.get? b=some o)->2<=vs.length->qR prog w A.in1.in1 vs lt { s with heap:=h6 })
  (fin:∀ p:Array Nat,c8 vs.length p->cM lt p vs.length->Q (.ref (s.heap.objs.size+1)) { s with heap:=sortedAll s.heap vs (ee vs p).toArray }):wpAny (model prog w) A (call (.builtin "sorted") [.ref l]) Q E s:=by
 have hz:vs.length<=sizeLine:=by rw [G3]; lia
 have hsz:((s.heap.push (seqObj "list" #[] 0)).update s.heap.objs.size (Gs (·++vs.toArray))).objs.size=s.heap.objs.size+1:=by rw [Jj,size_push']
 have hoL:(((s.heap.push (seqObj "list" #[] 0)).update s.heap.objs.size (Gs (·++vs.toArray))).push (seqObj "list" vs.toArray 0)).get? (s.heap.objs.size+1)=some (seqObj "list" vs.toArray 0):=by rw [<- hsz]; exact Gc _ rfl
 have keep:∀ b o,s.heap.get? b=some o->(((s.heap.push (seqObj "list" #[] 0)).update s.heap.objs.size (Gs (·++vs.toArray))).push (seqObj "list" vs.toArray 0)).get? b=some o:=fun b o q=>by
  have hlt:b < s.heap.objs.size:=FK q
  refine Ft _ ?_
  rw [Heap.get?_update_ne _ _ _ _ (Gk hlt)]
  exact Ft _ q
 refine JB kind_sorted plain_sorted entry_sorted (args_sorted1 _) ?_
 unfold Builtin.«sorted»
 refine mo (m:=checkCount "sorted" 1 1 _) (Fv (mo (collect_list hl (mo (Kp ?_ hz)) hz)))
 show wpAny _ _ _ _ _ { s with heap:=((s.heap.push (seqObj "list" #[] 0)).update s.heap.objs.size (Gs (·++vs.toArray))).push (seqObj "list" vs.toArray 0) }
 rw [hsz]
 refine mo (GH (HK slot_list_sort ⟨_,hoL,rfl⟩ LG (o7 (s:={ s with heap:=((s.heap.push (seqObj "list" #[] 0)).update s.heap.objs.size (Gs (·++vs.toArray))).push (seqObj "list" vs.toArray 0) }) O hoL h64 (fun h6 old=>hk h6 fun b o q=>old b o (Gk (IU (FK q))) (keep b o q)) fun p ok ri=>⟨_,rfl,?_⟩) (args_list_sort _)))
 exact Fv ⟨_,rfl,fin p ok ri⟩
noncomputable def dq (p q:Pair):Bool:=decide (p.1 < q.1) || (decide (p.1=q.1)&&decide (p.2 < q.2))
def bH (p q:Pair):Prop:=p.1 < q.1\/(p.1=q.1/\p.2<=q.2)
theorem dZ {p q:Pair}:dq q p=false↔bH p q:=by
 unfold dq bH
 simp only [Bool.or_eq_false_iff,He,decide_eq_false_iff_not]
 lia
theorem xZ {p q:Pair}:dq p q=true↔¬ bH q p:=by
 rw [<- dZ]
 simp
theorem Bs (ps:List Pair):iF fun i j=>dq (ps.getD i (0,0)) (ps.getD j (0,0)) where
 asym a b h:=by
  rw [xZ] at h
  rw [dZ]
  unfold bH at h |-
  lia
 ntr a b c h1 h2:=by
  rw [dZ] at h1 h2 |-
  unfold bH at h1 h2 |-
  lia
def g7 (h:HM) (vs:List Fk) (ps:List Pair):Prop:=Jw (fun (v:Fk) (p:Pair)=>∃ a t u,v = .ref a/\IsTup h a #[.int p.1 t,.int p.2 u]) vs ps
theorem g7.get {h:HM}:∀ {vs:List Fk} {ps:List Pair},g7 h vs ps->∀ {i:Nat},i < vs.length->∃ a t u,vs.getD i Ht = .ref a/\IsTup h a #[.int (ps.getD i (0,0)).1 t,.int (ps.getD i (0,0)).2 u]
 | _,_,.nil,i,e=>absurd e (by simp)
 | _,_,.cons r t,0,e=>r
 | _,_,.cons r t,i+1,e=>by
  have:=g7.get t (i:=i) (by simpa using e)
  simpa using this
theorem g7.tups {h:HM}:∀ {vs:List Fk} {ps:List Pair},g7 h vs ps->∃ fs:List Fk,KatTups h vs fs/\fs.length=vs.length/\∀ v∈fs,∃ i t,v = .int i t
 | _,_,.nil=>⟨[],.nil,rfl,fun v hv=>by cases hv⟩
 | _,_,.cons (b:=p) r t=>by
  obtain ⟨fs,k,l,al⟩:=g7.tups t
  obtain ⟨a,t',u,rfl,o,ho,hc,n,hd⟩:=r
  refine ⟨.int p.1 t'::fs,.cons ho hc hd rfl k,by simp [l],fun v hv=>?_⟩
  rcases FL.mp hv with rfl | hv
  ·exact ⟨_,_,rfl⟩
  ·exact al v hv
theorem xy {vs:List Fk} {ps:List Pair} {s1:Fq} (r:g7 s1.heap vs ps) (h2:2<=vs.length):qR prog w A vs (fun i j=>dq (ps.getD i (0,0)) (ps.getD j (0,0))) s1:=by
 intro Q q
 obtain ⟨fs,k,l,al⟩:=r.tups
 refine kat_kind (T:=.type "int") k (by lia) (fun v hv=>?_) (by decide) (q _ fun i j C hi hj hc=>?_)
 ·obtain ⟨i,t,rfl⟩:=al v hv
  exact Looks.of_pure rfl
 ·obtain ⟨a,t,u,e1,o1,g1,c1,n1,d1⟩:=r.get hi
  obtain ⟨b,t',u',e2,o2,g2,c2,n2,d2⟩:=r.get hj
  unfold kas_ask
  rw [e1,e2]
  have hc:C (dq (ps.getD i (0,0)) (ps.getD j (0,0))) s1:=hc
  generalize ps.getD i (0,0)=p at hc d1
  generalize ps.getD j (0,0)=q' at hc d2
  obtain ⟨x1,y1⟩:=p
  obtain ⟨x2,y2⟩:=q'
  unfold dq at hc
  dsimp only at hc d1 d2
  refine kat_lt g1 d1 g2 d2 (kat_cons (Kd ?_))
  by_cases ex:x1=x2
  ·subst ex
   rw [show (x1 == x1)=true from by simp]
   refine kat_yes (kat_cons (Kd ?_))
   by_cases ey:y1=y2
   ·subst ey
    rw [show (y1 == y1)=true from by simp]
    refine kat_yes (kat_nil ?_)
    have e:(decide (x1 < x1) || decide (x1=x1)&&decide (y1 < y1))=false:=by simp
    rw [e] at hc
    exact hc
   ·rw [show (y1 == y2)=false from by simpa using ey]
    refine kat_no (kat_one _ _ (wpAny_lt_int ?_))
    have e:(decide (x1 < x1) || decide (x1=x1)&&decide (y1 < y2))=decide (y1 < y2):=by simp
    rw [e] at hc
    exact hc
  ·rw [show (x1 == x2)=false from by simpa using ex]
   refine kat_no (oneLt_int ?_)
   have e:(decide (x1 < x2) || decide (x1=x2)&&decide (y1 < y2))=decide (x1 < x2):=by simp [ex]
   rw [e] at hc
   exact hc
end
section
variable {X:Cx}
theorem uJ {pins:List (FD × Obj)} {σ:St} {H:Hp} {s:Fq} (I:Inv X pins σ H s):∀ {us:List V} {ps:List Pair} {vs:List Fk},bC H us ps->Vals us vs->g7 s.heap vs ps
 | _,_,_,.nil,.nil=>.nil
 | _,_,_,.cons r t,.cons rv tv=>by
  obtain ⟨a,rfl,ha⟩:=r
  cases rv
  obtain ⟨its,r',tu,_⟩:=I.tuple (bg.of ha)
  refine .cons ⟨a,?_⟩ (uJ I t tv)
  cases r' with
  | cons x1 r2 =>
   cases r2 with
   | cons x2 r3 =>
    cases r3
    obtain ⟨t1,rfl⟩:=x1
    obtain ⟨t2,rfl⟩:=x2
    exact ⟨t1,t2,rfl,tu⟩
theorem g7.mono {h h':HM} (k:∀ b o,h.get? b=some o->h'.get? b=some o):∀ {vs:List Fk} {ps:List Pair},g7 h vs ps->g7 h' vs ps
 | _,_,.nil=>.nil
 | _,_,.cons r t=>by
  obtain ⟨a,t1,t2,e,o,ho,hc,n,hd⟩:=r
  exact .cons ⟨a,t1,t2,e,o,k _ _ ho,hc,n,hd⟩ (g7.mono k t)
theorem dg {α β:Type} {R:α->β->Prop} {as:List α} {bs:List β} (h:Jw R as bs) (da:α) (db:β):∀ is:List Nat,(∀ i∈is,i < as.length)->Jw R (is.map fun i=>as.getD i da) (is.map fun i=>bs.getD i db)
 | [],_=>.nil
 | i::is,hi=>by
  refine .cons ?_ (dg h da db is fun j hj=>hi j (FE _ hj))
  have hl:=hi i (Ge ..)
  have go:∀ {as:List α} {bs:List β},Jw R as bs->∀ i,i < as.length->R (as.getD i da) (bs.getD i db):=by
   intro as bs h
   induction h with
   | nil=>intro i hi; simp at hi
   | cons r t ih =>
    intro i hi
    cases i with
    | zero=>simpa using r
    | succ i=>simpa using ih i (by simpa using hi)
  exact go h i hl
theorem gD {α:Type} (d:α) (l:List α) {is:List Nat} (h:is.Perm (FC l.length)):(is.map fun i=>l.getD i d).Perm l:=by
 refine (h.map _).trans ?_
 have e:(FC l.length).map (fun i=>l.getD i d)=l:=JF (by simp) fun i h1 h2=>by simp [h2]
 rw [e]
theorem gx:dk X (.builtin "sorted") (fun xs H Q=>∃ (p:FD) (ps:List Pair),xs=[.ref p]/\aX H p ps/\ps.length < 64/\∀ (q:FD) (qs:List Pair) (H':Hp),ae H H'->H q=none->aX H' q qs->qs.Perm ps->qs.Pairwise bH->Q (.ref q) H'):=by
 intro pins s σ H xs us Q I r h
 obtain ⟨p,ps,rfl,⟨ws,hl,pr⟩,h64,q⟩:=h
 obtain ⟨u,rfl,ru⟩:=vals1 r
 cases ru
 obtain ⟨its,r',pl,hz⟩:=I.list (ai.of hl)
 have lw:=pr.length
 have li:ws.length=its.length:=r'.length
 have pv:=uJ I pr r'
 refine kR (Bs ps) pl.isList (by lia) (fun h6 old h2=>xy (s1:={ s with heap:=h6 }) (pv.mono old) h2) fun g ok ri=>?_
 obtain ⟨e,he⟩:=LD s.heap its (ee its g).toArray
 have hb:∀ i∈g.toList,i < its.length:=fun i hi=>FV.mp (ok.mem_iff.mp hi)
 have lg:g.toList.length=its.length:=by rw [ok.length_eq,Im]
 have hz2:(g.toList.map fun i=>ws.getD i V.non).length<=sizeLine:=by rw [Do,lg]; exact sz (by lia)
 have vs2:Vals (g.toList.map fun i=>ws.getD i V.non) (ee its g):=dg r' V.non Ht g.toList (fun i hi=>by rw [li]; exact hb i hi)
 have pr2:bC H (g.toList.map fun i=>ws.getD i V.non) (g.toList.map fun i=>ps.getD i (0,0)):=dg pr V.non (0,0) g.toList (fun i hi=>by rw [li]; exact hb i hi)
 have fr:H (s.heap.objs.size+1)=none:=I.hok.fresh (IJ _)
 refine ⟨.ref _,_,I.laid (t':=s.toks) (o:=.lst (g.toList.map fun i=>ws.getD i V.non)) (fun b u e=>Lf e) (IJ _) ⟨hz2,ee its g,e,vs2,by simpa [seqObj] using he⟩,rfl,?_⟩
 refine q _ _ _ (ae.new (ae.refl H) fr _) fr ⟨_,upd_same,pr2.updN fr _⟩ (gD (0,0) ps (by rw [<- lw,li]; exact ok)) ?_
 rw [GJ]
 have gs:g.size=its.length:=by rw [<- lg]; simp
 refine FP.mpr fun i j hi hj hij=>?_
 have:=ri i j (by lia) (by rw [<- gs]; simpa using hj)
 rw [dZ] at this
 unfold gA at this
 simpa [show i < g.size by simpa using hi,show j < g.size by simpa using hj] using this
end
end L2
namespace L2
open PySem PySem.Spec PyProof.Rows PySem.W
section
variable {prog:Gi} {w:GF} {A:GG} {E:Fk->Fq->Prop} {s:Fq} {R:Result->Fq->Prop} {d:Fk} {it:FD} {fp wr:List FD} {n:Nat} {P:Nat->Fk->Prop} {St:Nat->HM->Prop}
noncomputable abbrev u6 (d:Fk):List (Str × Fk):=[(FY "default",d)]
theorem jw:(toString "max"++toString ".loop" : String) = "max.loop":=by decide
theorem rD (W:Walks prog w A.in1 it fp wr n P St) (bt:Nat->Nat->Bool) (cmp:CmpOf prog w A.in1 .Gt P bt) (B:FD) (nB:B∉fp):∀ (k j:Nat) (s:Fq) (x:Fk) (c:Nat),n - (j+1)=k->j+1<=n->St (j+1) s.heap->P (argBest bt j) x ->
  s.heap.get? B=some { cls:=.type "list",dict:=none,data:=.seq #[x,x] c,slots:=#[] } ->
  (∀ v h' tk,P (argBest bt (n - 1)) v->(∀ b o,b∉wr->b≠B->s.heap.get? b=some o->h'.get? b=some o)->R (.ok (.ret v)) { s with heap:=h',toks:=tk }) ->
  codeAny (model prog w) A (.builtin "max.loop" ⟨[.ref it,.none,.ref B],u6 d⟩) R s
 | 0,j,s,x,c,hk,hj,st,px,hB,q=>by
  have nW:B∉wr:=fun z=>nB (W.sub _ z)
  have en:j+1=n:=by lia
  refine GY Ln ?_
  rw [GL IE _]
  show wpAny _ A.in1 (seqItems? (.ref B) >>= _) _ _ s
  refine mo (Jk hB rfl ?_)
  show wpAny _ A.in1 (tryCatch (pyNext (.ref it)) _ >>= _) _ _ s
  refine mo (J4 (W.done s _ _ (en▸st) fun h' tk kp=>?_))
  show wpAny _ A.in1 (updateSeq B (fun _=>#[]) >>= _) _ _ _
  refine mo (HH (kp B _ nW hB) rfl (mo (Li (Fv ?_))))
  exact q x _ tk (by rw [<- en]; exact px) fun b o b1 b2 e=>(Gv _ _ (Ih b2)).trans (kp b o b1 e)
 | k+1,j,s,x,c,hk,hj,st,px,hB,q=>by
  have nW:B∉wr:=fun z=>nB (W.sub _ z)
  have lt:j+1 < n:=by lia
  refine GY Ln ?_
  rw [GL IE _]
  show wpAny _ A.in1 (seqItems? (.ref B) >>= _) _ _ s
  refine mo (Jk hB rfl ?_)
  show wpAny _ A.in1 (tryCatch (pyNext (.ref it)) _ >>= _) _ _ s
  refine mo (J4 (W.item (j+1) s _ _ lt st fun v h' tk pv st' kp=>?_))
  have hB':=kp B _ nW hB
  show wpAny _ A.in1 (tryCatch (holding [v,v] (richCompare .Gt v x >>= _)) _ >>= _) _ _ _
  refine mo (J4 (GH (mo (cmp (j+1) (argBest bt j) v x _ _ _ pv px (mo (GH (GT (mo (Li (Fv ?_))))))))))
  by_cases hb:bt (j+1) (argBest bt j)=true
  ·rw [hb]
   simp only [if_true]
   refine mo (HH hB' rfl (mo (Li ?_)))
   rw [jw]
   refine Fv ⟨Hh IE _,rD W bt cmp B nB k (j+1) _ v _ (by lia) lt (W.frame _ _ _ st' fun b bf o e=>?_) (by unfold argBest; rw [if_pos hb]; exact pv) (GQ _ hB' rfl) fun v' h2 tk2 pv' kp2=>?_⟩
   ·exact (Gv _ _ (fun z:B=b=>nB (by rw [z]; exact bf))).trans e
   ·exact q v' h2 tk2 pv' fun b o b1 b2 e=>kp2 b o b1 b2 ((Gv _ _ (Ih b2)).trans (kp b o b1 e))
  ·rw [show bt (j+1) (argBest bt j)=false by simpa using hb]
   simp only [Fx,if_false]
   refine mo (Li ?_)
   rw [jw]
   refine Fv ⟨Hh IE _,rD W bt cmp B nB k (j+1) _ x c (by lia) lt st' (by unfold argBest; rw [if_neg hb]; exact px) hB' fun v' h2 tk2 pv' kp2=>?_⟩
   exact q v' h2 tk2 pv' fun b o b1 b2 e=>kp2 b o b1 b2 (kp b o b1 e)
theorem um (a d:Fk):argsOk "max" ⟨[a],u6 d⟩:=by unfold argsOk; kernel_rfl
theorem xh {l:FD} {xs:Array (Int × Tok)} {Q:Fk->Fq->Prop} (hh:A.handled=none) (hl:s.heap.IsList l (intItems xs))
  (h0:xs.size=0->∀ h' tk,(∀ b o,s.heap.get? b=some o->h'.get? b=some o)->Q d { s with heap:=h',toks:=tk })
  (h1:0 < xs.size->∀ v h' tk,(intItems xs)[argBest (fun i j=>decide (numAt xs i > numAt xs j)) (xs.size - 1)]? = some v->(∀ b o,s.heap.get? b=some o->h'.get? b=some o)->Q v { s with heap:=h',toks:=tk }) :
  wpAny (model prog w) A (call (.builtin "max") [.ref l] (u6 d)) Q E s:=by
 refine kmb_tree F.kind_max F.plain_max F.entry_max (um _ _) ?_
 show wpAny _ A.in1 (Builtin.Builtins.bindParams "max" ["key","default"] 0 ⟨[],u6 d⟩ >>= _) _ _ s
 refine mo (wpAny_of_eq (show Builtin.Builtins.bindParams "max" ["key","default"] 0 ⟨[],u6 d⟩=pure [none,some d] from rfl) (mo (Fv (mo (iter_intList hl fun s2 e st hfp hlI=>?_)))))
 subst e
 have W:=Walks.list (prog:=prog) (w:=w) (A:=A.in1) hh s.heap.objs.size l hlI (intItems xs)
 have nf:(s.heap.push { cls:=.type "list_iterator",data:=.fields #[.ref l,.int 0 0] }).objs.size∉[s.heap.objs.size,l]:=fun z=>Hg _ (hfp _ z)
 refine mo (IS ?_)
 rw [jw]
 refine Fv ⟨Hh IE _,?_⟩
 have st2:=W.frame _ _ _ st fun b _ o e=>Ft { cls:=.type "list",data:=.seq #[] } e
 have hB:((s.heap.push { cls:=.type "list_iterator",data:=.fields #[.ref l,.int 0 0] }).push { cls:=.type "list",data:=.seq #[] }).get? (s.heap.push { cls:=.type "list_iterator",data:=.fields #[.ref l,.int 0 0] }).objs.size=some { cls:=.type "list",dict:=none,data:=.seq #[] 0,slots:=#[] }:=Gc _ rfl
 have nW:(s.heap.push { cls:=.type "list_iterator",data:=.fields #[.ref l,.int 0 0] }).objs.size∉[s.heap.objs.size]:=fun z=>nf (FL.mpr (.inl (by simpa using z)))
 have back:∀ h':HM,(∀ b o,b∉[s.heap.objs.size]->b≠(s.heap.push { cls:=.type "list_iterator",data:=.fields #[.ref l,.int 0 0] }).objs.size->((s.heap.push { cls:=.type "list_iterator",data:=.fields #[.ref l,.int 0 0] }).push { cls:=.type "list",data:=.seq #[] }).get? b=some o->h'.get? b=some o)->∀ b o,s.heap.get? b=some o->h'.get? b=some o:=fun h' kp b o e=>by
  have lb:=FK e
  refine kp b o (fun z=>Hg _ ((Ib.mp z)▸lb)) (fun z=>?_) (Ft _ (Ft _ e))
  have sp:(s.heap.push { cls:=.type "list_iterator",data:=.fields #[.ref l,.int 0 0] }).objs.size=s.heap.objs.size+1:=Hk ..
  exact Hg _ (Gm (IF (Nat.le_of_eq z.symm) lb) (J6 (Nat.lt_of_lt_of_eq (JE _) sp.symm)))
 refine GY Ln ?_
 rw [GL IE _]
 show wpAny _ A.in1 (seqItems? (.ref _) >>= _) _ _ _
 refine mo (Jk hB rfl ?_)
 show wpAny _ A.in1 (tryCatch (pyNext (.ref s.heap.objs.size)) _ >>= _) _ _ _
 by_cases z:xs.size=0
 ·have e0:(intItems xs).size=0:=by simpa [intItems] using z
  refine mo (J4 (W.done _ _ _ (e0▸st2) fun h' tk kp=>?_))
  show wpAny _ A.in1 (rule _ >>= _) _ _ _
  refine mo (Jl (Fv ?_))
  exact h0 z h' tk (back h' fun b o b1 _ e=>kp b o b1 e)
 ·have n0:0 < (intItems xs).size:=by
   have:0 < xs.size:=by lia
   simpa [intItems] using this
  refine mo (J4 (W.item 0 _ _ _ n0 st2 fun v h' tk pv st' kp=>?_))
  have hB':=kp _ _ nW hB
  show wpAny _ A.in1 (updateSeq _ (fun _=>#[v,v]) >>= _) _ _ _
  refine mo (HH hB' rfl ?_)
  rw [jw]
  refine Fv ⟨Hh IE _,rD W _ (CmpOf.ints_gt (numAt xs) (fun _ _=>intItems_at)) _ nf _ 0 _ v _ rfl n0 (W.frame _ _ _ st' fun b bf o e=>?_) pv (GQ _ hB' rfl) fun v' h2 tk2 pv' kp2=>?_⟩
  ·exact (Gv _ _ (fun z:_=b=>nf (by rw [z]; exact bf))).trans e
  ·refine h1 (by lia) v' h2 tk2 (by simpa [intItems] using pv') (back h2 fun b o b1 b2 e=>kp2 b o b1 b2 ((Gv _ _ (Ih b2)).trans (kp b o b1 e)))
end
section
variable {X:Cx} {e:II} {es:List II} {kws:List Keyword} {p pos:Pos} {t tk:TA} {x:Str} {id:String} {ks:List Str} {r:List V->List V->Hp->VK->Prop}
def uq (X:Cx) (f:Fk) (ks:List Str) (r:List V->List V->Hp->VK->Prop):Prop :=
 ∀ (pins:List (FD × Obj)) (s:Fq) (σ:St) (H:Hp) (xs zs:List V) (us ws:List Fk) (Q:VK),Inv X pins σ H s->Vals xs us->Vals zs ws->r xs zs H Q->wpAny (model X.prog X.w) X.A (call f us (ks.zip ws)) (EP X pins σ Q) X.xe s
noncomputable def D9 (r:List V->List V->Hp->VK->Prop) (t tk:TA):TE:=fun σ H Q=>t σ H fun vs H1=>tk σ H1 fun zs H2=>r vs zs H2 Q
theorem vp (hc:uq X (.builtin id) ks r) (hg:Gl X x) (hm:X.mg x=none) (hv:bootBuiltins x=some (.builtin id)) (ha:PA X (e::es) t) (hkw:PK X kws tk) (hn:x≠"__name__":=by decide) (hdb:(x == ("__debug__" : Str))=false:=by decide)
  (hs:backTo pos (starEach (e::es) X.env)=(false,eval e X.env)::backTo pos (starEach es X.env):=by rfl) (hpl:(backTo pos (starEach (e::es) X.env)).any (·.1)=false:=by rfl)
  (hal:(backToKw pos (keywordEach kws X.env)).all (·.1.isSome)=true:=by rfl) (hkn:(backToKw pos (keywordEach kws X.env)).any (·.1.isNone)=false:=by rfl)
  (hks:(backToKw pos (keywordEach kws X.env)).filterMap (·.1)=ks:=by rfl):PE X (.Call (.Name x p) (e::es) kws pos) (D9 r t tk):=by
 intro pins s σ H Q I h
 refine HD (dQ I hg hm hv (callWith_kw (env:=X.env) (aI (ha pos pins s σ H _ I h) fun us s1 ⟨vs,H1,I1,r1,q⟩=>aI (hkw pos pins s1 σ H1 _ I1 q) fun ws s2 ⟨zs,H2,I2,r2,q2⟩=>?_) hs hpl hal hkn) hn hdb)
 rw [hks]
 exact hc pins s2 σ H2 vs zs us ws Q I2 r1 r2 q2
theorem vi (hc:X.calm=true):uq X (.builtin "max") [FY "default"] (fun xs zs H Q=>∃ (a:FD) (ns:List Int) (u:V),xs=[.ref a]/\zs=[u]/\ai X.K H a (ns.map V.int)/\(ns=[]->Q u H)/\(ns≠[]->∀ M,M∈ns->(∀ y∈ns,y<=M)->Q (.int M) H)):=by
 intro pins s σ H xs zs us ws Q I r rz h
 obtain ⟨a,ns,u,rfl,rfl,hl,q0,qn⟩:=h
 obtain ⟨u1,rfl,ru⟩:=vals1 r
 obtain ⟨u2,rfl,ru2⟩:=vals1 rz
 cases ru
 obtain ⟨its,r',pl,hz⟩:=I.list hl
 have hi:Ii its ns:=intsAre_of r'
 obtain ⟨ys,e⟩:=hi.allInts.items
 have hns:ns=ys.toList.map (·.1):=by rw [<- hi.numsOf,<- nums_intItems,<- e]
 have ln:ns.length=ys.size:=by rw [hns,Do,FM]
 refine xh (d:=u2) (I.ok.hd hc) (e▸pl.isList:s.heap.IsList a (intItems ys)) (fun z h' tk hk=>?_) (fun z v h' tk hv hk=>?_)
 ·exact ⟨u,H,I.kept hk,ru2,q0 (Lj.mp (by lia))⟩
 ·obtain ⟨t,rfl⟩:=intItems_at hv
  obtain ⟨a1,a2⟩:=argBest_gt (numAt ys) (ys.size - 1)
  refine ⟨.int _,H,I.kept hk,⟨t,rfl⟩,qn (fun z'=>by rw [z'] at ln; simp at ln; lia) _ ?_ fun y hy=>?_⟩
  ·rw [hns,numAt_eq]; exact getD_mem (by rw [Do,FM]; lia)
  ·rw [hns] at hy
   obtain ⟨j,hj,rfl⟩:=mem_getD hy
   rw [Do,FM] at hj
   rw [<- numAt_eq]; exact a2 j (by lia)
end
end L2
namespace L2
open PySem PySem.Spec PyProof.Rows
section
variable {X:Cx}
theorem qi {K:Ga} (hK:X.K=K) (hu:X.A.units+100 < cLine):cC X (compareOp .NotEq) (vN K true):=by
 subst hK
 exact i8 hu
end
theorem ba.two {K:Ga} {H:Hp} {n:Nat} {a b:FD} {x1 y1 x2 y2:Int} (ne:a≠b) (ha:H a=some (.tup [.int x1,.int y1])) (hb:H b=some (.tup [.int x2,.int y2])):ba K H (n+1) (.ref a) (.ref b) (decide (x1=x2)&&decide (y1=y2)):=by
 have h:=ba.tup (n:=n) (e:=fun j=>if j=0 then decide (x1=x2) else decide (y1=y2)) ne (bg.of (K:=K) ha) (bg.of (K:=K) hb) (fun j x y ex ey=>by
  match j,ex,ey with
  | 0,ex,ey =>
   have e1:V.int x1=x:=by simpa using ex
   have e2:V.int x2=y:=by simpa using ey
   rw [<- e1,<- e2,if_pos rfl]
   have z:=ba.flat (K:=K) (H:=H) (n:=n) (x:=V.int x1) (y:=V.int x2) rfl rfl
   exact z
  | 1,ex,ey =>
   have e1:V.int y1=x:=by simpa using ex
   have e2:V.int y2=y:=by simpa using ey
   rw [<- e1,<- e2,if_neg (by decide)]
   have z:=ba.flat (K:=K) (H:=H) (n:=n) (x:=V.int y1) (y:=V.int y2) rfl rfl
   exact z
  | j+2,ex,ey=>simp at ex)
 have e:((FC (min [V.int x1,V.int y1].length [V.int x2,V.int y2].length)).all (fun j=>if j=0 then decide (x1=x2) else decide (y1=y2))&&decide ([V.int x1,V.int y1].length=[V.int x2,V.int y2].length))=(decide (x1=x2)&&decide (y1=y2)):=by
  simp [IT]
 first
  | (rw [e] at h; exact h)
  | (simp [IT] at h; exact h)
end L2
namespace Ck
open PySem L2
def Cut (n:Nat) (p:Pair):Prop:=0<=p.1/\p.1+1 < p.2/\p.2<=(n:Int)+1/\¬ (p.1=0/\p.2=(n:Int)+1)
structure nN (n:Nat) (ps:List Pair):Prop where
 cut:∀ p∈ps,Cut n p
 ris:ps.Pairwise bH
 len:ps.length<=n
theorem v5 {p q:Pair} (h:bH p q) (h':bH q p):p=q:=by
 unfold bH at h h'
 exact JQ (by lia) (by lia)
theorem iI {ps qs:List Pair} (hp:ps.Pairwise bH) (hq:qs.Pairwise bH) (h:ps.Perm qs):ps=qs :=
 Hv (le:=bH) (fun _ _ _ _ h1 h2=>v5 h1 h2) hp hq h
noncomputable def df (i j:Nat):List Pair:=(if i=0 then [] else [(0,(i:Int)+1)])++(if j=0 then [] else [((i:Int)+1,(i:Int)+(j:Int)+2)])
noncomputable def cF (i j:Nat) (ps qs:List Pair):List Pair:=ps++df i j++qs.map (up ((i:Int)+1))
theorem mw (i j:Nat):(df i j).length<=2:=by
 unfold df
 split<;>split<;>simp
theorem ja {i j:Nat} {ps qs:List Pair} (hp:nN i ps) (hq:nN j qs):(cF i j ps qs).length<=i+j+2:=by
 unfold cF
 have:=mw i j
 have:=hp.len
 have:=hq.len
 simp only [Fw,Do]
 lia
noncomputable def fP (t:Int) (p:Pair):Bool:=decide (p.2<=t)&&!(decide (p.1=0)&&decide (p.2=t))
noncomputable def dY (t l:Int) (p:Pair):Bool:=decide (p.1 ≥ t)&&!(decide (p.1=t)&&decide (p.2=l))
noncomputable def eF (l:Int) (p:Pair):Bool:=decide (p.1=0)&&decide (p.2 < l)
section
variable {i j:Nat} {ps qs:List Pair} (hp:nN i ps) (hq:nN j qs)
include hp hq
theorem gB {p:Pair} (h:p∈df i j):(i≠0/\p=(0,(i:Int)+1))\/(j≠0/\p=((i:Int)+1,(i:Int)+(j:Int)+2)):=by
 unfold df at h
 rcases FF.mp h with h | h
 ·left
  split at h
  ·cases h
  ·exact ⟨by assumption,Ib.mp h⟩
 ·right
  split at h
  ·cases h
  ·exact ⟨by assumption,Ib.mp h⟩
theorem jA {p:Pair} (h:p∈qs.map (up ((i:Int)+1))):(i:Int)+1<=p.1/\p.1+1 < p.2/\p.2<=(i:Int)+(j:Int)+2/\¬ (p.1=(i:Int)+1/\p.2=(i:Int)+(j:Int)+2):=by
 obtain ⟨q,hqm,rfl⟩:=FH.mp h
 have c:=hq.cut q hqm
 unfold Cut at c
 unfold up
 dsimp only
 lia
theorem zb:(cF i j ps qs).filter (fP ((i:Int)+1))=ps:=by
 unfold cF
 rw [GV,GV]
 have e1:ps.filter (fP ((i:Int)+1))=ps:=IZ.mpr fun p h=>by
  have c:=hp.cut p h
  unfold Cut at c
  unfold fP
  simp only [FO,decide_eq_true_eq,Hi,He,decide_eq_false_iff_not]
  lia
 have e2:(df i j).filter (fP ((i:Int)+1))=[]:=G4.mpr fun p h=>by
  unfold fP
  simp only [FO,decide_eq_true_eq,Hi,He,decide_eq_false_iff_not]
  rcases gB hp hq h with ⟨h0,rfl⟩ | ⟨h0,rfl⟩
  ·dsimp only
   lia
  ·dsimp only
   lia
 have e3:(qs.map (up ((i:Int)+1))).filter (fP ((i:Int)+1))=[]:=G4.mpr fun p h=>by
  have c:=jA hp hq h
  unfold fP
  simp only [FO,decide_eq_true_eq,Hi,He,decide_eq_false_iff_not]
  lia
 rw [e1,e2,e3,Gj,Gj]
theorem Cz:(cF i j ps qs).filter (dY ((i:Int)+1) ((i:Int)+(j:Int)+2))=qs.map (up ((i:Int)+1)):=by
 unfold cF
 rw [GV,GV]
 have e1:ps.filter (dY ((i:Int)+1) ((i:Int)+(j:Int)+2))=[]:=G4.mpr fun p h=>by
  have c:=hp.cut p h
  unfold Cut at c
  unfold dY
  simp only [FO,decide_eq_true_eq,Hi,He,decide_eq_false_iff_not]
  lia
 have e2:(df i j).filter (dY ((i:Int)+1) ((i:Int)+(j:Int)+2))=[]:=G4.mpr fun p h=>by
  unfold dY
  simp only [FO,decide_eq_true_eq,Hi,He,decide_eq_false_iff_not]
  rcases gB hp hq h with ⟨h0,rfl⟩ | ⟨h0,rfl⟩
  ·dsimp only
   lia
  ·dsimp only
   lia
 have e3:(qs.map (up ((i:Int)+1))).filter (dY ((i:Int)+1) ((i:Int)+(j:Int)+2))=qs.map (up ((i:Int)+1)):=IZ.mpr fun p h=>by
  have c:=jA hp hq h
  unfold dY
  simp only [FO,decide_eq_true_eq,Hi,He,decide_eq_false_iff_not]
  lia
 rw [e1,e2,e3,IV,IV]
theorem y8 (d:Int):(qs.map (up d)).Pairwise bH:=by
 rw [GJ]
 refine hq.ris.imp fun {a b} h=>?_
 unfold bH at h |-
 unfold up
 dsimp only
 lia
variable {cs:List Pair} (hc:cs.Perm (cF i j ps qs)) (hs:cs.Pairwise bH)
include hc hs
theorem De:cs.filter (fP ((i:Int)+1))=ps :=
 iI (hs.filter _) hp.ris ((hc.filter _).trans (by rw [zb hp hq]))
theorem DQ:cs.filter (dY ((i:Int)+1) ((i:Int)+(j:Int)+2))=qs.map (up ((i:Int)+1)) :=
 iI (hs.filter _) (y8 hp hq _) ((hc.filter _).trans (by rw [Cz hp hq]))
theorem wg (h0:i=0):(cs.filter (eF ((i:Int)+(j:Int)+2))).map (·.2)=[]:=by
 subst h0
 refine List.map_eq_nil_iff.mpr (G4.mpr fun p h=>?_)
 have c:=hc.mem_iff.mp h
 unfold eF
 simp only [FO,decide_eq_true_eq]
 unfold cF at c
 rcases FF.mp c with c | c
 ·rcases FF.mp c with c | c
  ·have:=hp.cut p c
   unfold Cut at this
   lia
  ·rcases gB hp hq c with ⟨z,_⟩ | ⟨z,rfl⟩
   ·exact absurd rfl z
   ·dsimp only
    lia
 ·have:=jA hp hq c
  lia
theorem wa (h0:i≠0):(i:Int)+1∈(cs.filter (eF ((i:Int)+(j:Int)+2))).map (·.2):=by
 refine FH.mpr ⟨(0,(i:Int)+1),GK.mpr ⟨hc.mem_iff.mpr ?_,?_⟩,rfl⟩
 ·unfold cF df
  rw [if_neg h0]
  simp
 ·unfold eF
  simp only [FO,decide_eq_true_eq]
  refine ⟨by first | trivial | rfl,?_⟩
  show (i:Int)+1 < (i:Int)+(j:Int)+2
  lia
theorem vO:∀ y∈(cs.filter (eF ((i:Int)+(j:Int)+2))).map (·.2),y<=(i:Int)+1:=fun y h=>by
 obtain ⟨p,hpm,rfl⟩:=FH.mp h
 obtain ⟨hm,ht⟩:=GK.mp hpm
 have c:=hc.mem_iff.mp hm
 unfold eF at ht
 simp only [FO,decide_eq_true_eq] at ht
 unfold cF at c
 rcases FF.mp c with c | c
 ·rcases FF.mp c with c | c
  ·have:=hp.cut p c
   unfold Cut at this
   lia
  ·rcases gB hp hq c with ⟨z,rfl⟩ | ⟨z,rfl⟩
   ·exact GA _
   ·dsimp only at ht |-
    lia
 ·have:=jA hp hq c
  lia
end
theorem aX.put {H:Hp} {l t:FD} {xs:List V} {ps:List Pair} {p:Pair} (hl:H l=some (.lst xs)) (pr:bC H xs ps) (ht:H t=some (.tup [.int p.1,.int p.2])):aX (L2.upd H l (.lst (xs++[.ref t]))) l (ps++[p]) :=
 ⟨_,L2.upd_same,(pr.snoc ht).updL hl _⟩
theorem aX.push {H:Hp} {l t:FD} {xs:List V} {ps:List Pair} {a b:Int} (hl:H l=some (.lst xs)) (pr:bC H xs ps) (ht:H t=none):aX (L2.upd (L2.upd H t (.tup [.int a,.int b])) l (.lst (xs++[.ref t]))) l (ps++[(a,b)]) :=
 aX.put (p:=(a,b)) ((L2.upd_ne (ar hl ht)).trans hl) (pr.updN ht _) L2.upd_same
noncomputable def vQ (c:Int) (ps:List Pair):Tree:=.tup [.int c,nt ps]
theorem p6 {H:Hp} {t l:FD} {c:Int} {ps:List Pair} (ht:H t=some (.tup [.int c,.ref l])) (hl:aX H l ps) (h:ps.length<=1000000):Rep H (vQ c ps) (.ref t):=yj ht (by unfold Rep; rfl) (hl.rep h)
theorem Fl {a b:Int} (h:a≠b):¬ V.int a=V.int b:=fun z=>h (by injection z)
theorem tZ {b:Bool} {A B:Prop} (h:b=false) (x:A):if (if true=true then !b else b)=true then A else B:=by subst h; exact x
theorem nr {b:Bool} {A B:Prop} (h:b=true) (x:B):if (if true=true then !b else b)=true then A else B:=by subst h; exact x
noncomputable def iE (p:Pair):Bool:=decide (p.2 - p.1 > 1)
theorem wb (i j:Nat):([((0:Int),(i:Int)+1),((i:Int)+1,(i:Int)+(j:Int)+2)]:List Pair).filter iE=df i j:=by
 have n1:iE ((0:Int),(i:Int)+1)=decide ((i:Int)+1 - 0 > 1):=rfl
 have n2:iE ((i:Int)+1,(i:Int)+(j:Int)+2)=decide ((i:Int)+(j:Int)+2 - ((i:Int)+1) > 1):=rfl
 unfold df
 rw [List.filter_cons,List.filter_cons,List.filter_nil,n1,n2]
 by_cases h:i=0
 ·by_cases h':j=0
  ·rw [if_pos h,if_pos h',decide_eq_false (by lia),decide_eq_false (by lia)]; rfl
  ·rw [if_pos h,if_neg h',decide_eq_false (by lia),decide_eq_true (by lia)]; rfl
 ·by_cases h':j=0
  ·rw [if_neg h,if_pos h',decide_eq_true (by lia),decide_eq_false (by lia)]; rfl
  ·rw [if_neg h,if_neg h',decide_eq_true (by lia),decide_eq_true (by lia)]; rfl
theorem gM {α:Type} (f:α->Bool) {l:List α} {i:Nat} {p:α} (h:l[i]? = some p):(l.take (i+1)).filter f=(l.take i).filter f++(if f p=true then [p] else []):=by
 rw [FT,h,GV]
 congr 1
 by_cases e:f p=true
 ·rw [if_pos e]; exact Ja e
 ·rw [if_neg e]; exact Jb e
theorem yb (c:Int) (ps:List Pair):dep (vQ c ps)<=3:=by
 unfold vQ
 rw [yA]
 have:=qj ps
 have e:dep (.int c)=0:=by unfold dep; rfl
 lia
end Ck
namespace L2
open PySem PySem.Spec PyProof.Rows PySem.W PySem.SeqAt Ck
noncomputable def cD:List Int->List Int->Bool
 | [],[]=>false
 | [],_::_=>true
 | _::_,[]=>false
 | a::as,b::bs=>if a=b then cD as bs else decide (a < b)
theorem oN:∀ as:List Int,cD as []=false
 | []=>rfl
 | _::_=>rfl
theorem pC:∀ as bs:List Int,cD as bs=true->cD bs as=false
 | [],[],h=>rfl
 | [],_::_,_=>rfl
 | _::_,[],h=>by cases h
 | a::as,b::bs,h=>by
  unfold cD at h |-
  by_cases e:a=b
  ·rw [if_pos e] at h
   rw [if_pos e.symm]
   exact pC as bs h
  ·rw [if_neg e] at h
   rw [if_neg (fun z=>e z.symm)]
   have:=of_decide_eq_true h
   exact decide_eq_false (by lia)
theorem qv:∀ as bs cs:List Int,cD bs as=false->cD cs bs=false->cD cs as=false
 | [],_,cs,_,_=>oN cs
 | _::_,[],_,h,_=>by cases h
 | _::_,_::_,[],_,h=>by cases h
 | a::as,b::bs,c::cs,h1,h2=>by
  unfold cD at h1 h2 |-
  by_cases e1:b=a
  ·rw [if_pos e1] at h1
   by_cases e2:c=b
   ·rw [if_pos e2] at h2
    rw [if_pos (e2.trans e1)]
    exact qv as bs cs h1 h2
   ·rw [if_neg e2] at h2
    have:=of_decide_eq_false h2
    rw [if_neg (fun z=>e2 (z.trans e1.symm))]
    exact decide_eq_false (by lia)
  ·rw [if_neg e1] at h1
   have d1:=of_decide_eq_false h1
   by_cases e2:c=b
   ·rw [if_pos e2] at h2
    rw [if_neg (fun z=>e1 (e2.symm.trans z))]
    exact decide_eq_false (by lia)
   ·rw [if_neg e2] at h2
    have:=of_decide_eq_false h2
    rw [if_neg (by lia)]
    exact decide_eq_false (by lia)
theorem Ex (rs:List (List Int)):iF fun i j=>cD (rs.getD i []) (rs.getD j []) where
 asym a b h:=pC _ _ h
 ntr a b c h1 h2:=qv _ _ _ h1 h2
theorem jx {vs:List Fk} {ns:List Int} (h:Ii vs ns):∀ {i:Nat} {n:Int},ns[i]? = some n->∃ t,vs[i]? = some (.int n t):=by
 induction h with
 | nil=>intro i n e; cases e
 | cons m t h ih =>
  intro i n e
  cases i with
  | zero=>simp at e; exact ⟨t,by rw [<- e]; rfl⟩
  | succ i=>exact ih (by simpa using e)
theorem yc (l b:FD) (items items2:Array Fk) (ns ms:List Int) (hi:Ii items.toList ns) (hm:Ii items2.toList ms) (n n2:Nat) (dd dd2:Option FD) (sl sl2:Array (Option Fk)):∀ (k i:Nat),ns.length - i=k->i<=ns.length->i<=ms.length ->
  Meets (Builtin.«list.__eq__.loop» ⟨[.ref l,.ref b,rawInt i,rawInt 0],[]⟩) (fun A R s=>s.heap.get? l=some { cls:=.type "list",dict:=dd,data:=.seq items n,slots:=sl }/\s.heap.get? b=some { cls:=.type "list",dict:=dd2,data:=.seq items2 n2,slots:=sl2 }/\R (.ok (.ret (.bool (cD (ns.drop i) (ms.drop i))))) s):=by
 have l1:items.size=ns.length:=by have:=hi.length; simpa using this
 have l2:items2.size=ms.length:=by have:=hm.length; simpa using this
 -- one of them is at its end
 have fin:∀ i:Nat,i<=ns.length->i<=ms.length->(i=ns.length\/i=ms.length)->cD (ns.drop i) (ms.drop i)=decide (items.size < items2.size):=fun i h1 h2 h=>by
  rw [l1,l2]
  by_cases e:i=ns.length
  ·rw [GR (as:=ns) (by lia)]
   by_cases e2:i=ms.length
   ·rw [GR (by lia)]
    exact (decide_eq_false (by lia)).symm
   ·rw [HR (show i < ms.length by lia)]
    exact (decide_eq_true (by lia)).symm
  ·rw [GR (as:=ms) (by lia),oN]
   exact (decide_eq_false (by lia)).symm
 intro k
 induction k with
 | zero =>
  intro i hk hn2 hm2 prog w A R s h
  obtain ⟨hp,g,d,tk,os⟩:=s
  obtain ⟨hl,hb,h⟩:=h
  wp_walk using Hf hl,Hf hb
  have n1:items[((i:Nat):Int).toNat]? = none:=by simp; lia
  rw [n1]
  rw [fin i hn2 hm2 (by lia)] at h
  wp_walk using Hf hl,Hf hb
  exact h
 | succ k ih =>
  intro i hk hn2 hm2 prog w A R s h
  obtain ⟨hp,g,d,tk,os⟩:=s
  obtain ⟨hl,hb,h⟩:=h
  have li:i < ns.length:=by lia
  obtain ⟨t1,g1⟩:=jx hi (Da li)
  have i1:items[((i:Nat):Int).toNat]? = some (.int ns[i] t1):=by simpa using g1
  wp_walk using Hf hl,Hf hb
  rw [i1]
  by_cases lm:i < ms.length
  ·obtain ⟨t2,g2⟩:=jx hm (Da lm)
   have i2:items2[((i:Nat):Int).toNat]? = some (.int ms[i] t2):=by simpa using g2
   rw [i2]
   rw [HR li,HR lm] at h
   unfold cD at h
   refine mo (Kd ?_)
   by_cases e:ns[i]=ms[i]
   ·rw [if_pos e] at h
    rw [show (ns[i] == ms[i])=true by simpa using e]
    wp_walk
    have hc:((i:Int)+1)=((i+1:Nat):Int):=by lia
    rw [hc]
    exact ⟨Hh Jc _,GY Lk (by
     rw [GL Jc _]
     exact ih (i+1) (by lia) (by lia) (by lia) prog w A R _ ⟨hl,hb,h⟩)⟩
   ·rw [if_neg e] at h
    rw [show (ns[i] == ms[i])=false by simpa using e]
    wp_walk using Hf hl,Hf hb
    rw [i1,i2]
    refine mo (wpAny_lt_int ?_)
    exact Fv h
  ·have n2':items2[((i:Nat):Int).toNat]? = none:=by simp; lia
   rw [n2']
   rw [fin i hn2 hm2 (by lia)] at h
   wp_walk using Hf hl,Hf hb
   exact h
theorem yg (l b:FD) (items items2:Array Fk) (ns ms:List Int) (hi:Ii items.toList ns) (hm:Ii items2.toList ms) (n n2:Nat) (dd dd2:Option FD) (sl sl2:Array (Option Fk)) :
  Meets (Builtin.«list.__lt__» ⟨[.ref l,.ref b],[]⟩) (fun A R s=>s.heap.get? l=some { cls:=.type "list",dict:=dd,data:=.seq items n,slots:=sl }/\s.heap.get? b=some { cls:=.type "list",dict:=dd2,data:=.seq items2 n2,slots:=sl2 }/\R (.ok (.ret (.bool (cD ns ms)))) s):=by
 intro prog w A R s h
 obtain ⟨hp,g,d,tk,os⟩:=s
 obtain ⟨hl,hb,h⟩:=h
 have f3:=Lx
 wp_walk using Hf hl,Hf hb
 exact ⟨Hh Jc _,GY Lk (by
  rw [GL Jc _]
  exact yc l b items items2 ns ms hi hm n n2 dd dd2 sl sl2 _ 0 rfl (FI _) (FI _) prog w A R _ ⟨hl,hb,by simpa using h⟩)⟩
section
variable {prog:Gi} {w:GF} {A:GG} {E:Fk->Fq->Prop} {s:Fq}
theorem qP {l b:FD} {its jts:List Fk} {ns ms:List Int} {n n2:Nat} {Q:Bool->Fq->Prop} (hu:A.units < cLine) (hi:Ii its ns) (hm:Ii jts ms) (hl:s.heap.get? l=some { cls:=.type "list",data:=.seq its.toArray n }) (hb:s.heap.get? b=some { cls:=.type "list",data:=.seq jts.toArray n2 }) (h:Q (cD ns ms) s) :
  wpAny (model prog w) A (oneLt' true (.ref l) (.ref b)) Q E s:=by
 rw [oneLt'_eq]
 simp only [if_true]
 refine mo (wpAny_cRoomFor hu (mo (wpAny_callSpecialIfBound?_slot (T:="list") ⟨_,hl,rfl⟩ F.slot_list_lt (K1 F.slot_list_lt ⟨_,hl,rfl⟩ F.entry_list_lt (F.args_list_lt_2 _ _) (yg l b its.toArray jts.toArray ns ms hi hm n n2 none none #[] #[]) ⟨hl,hb,?_⟩))))
 exact GT h
def iP (h:HM) (vs:List Fk) (rs:List (List Int)):Prop:=Jw (fun (v:Fk) (r:List Int)=>∃ a its n,v = .ref a/\Ii its r/\h.get? a=some { cls:=.type "list",data:=.seq its.toArray n }) vs rs
theorem iP.get {h:HM}:∀ {vs:List Fk} {rs:List (List Int)},iP h vs rs->∀ {i:Nat},i < vs.length->∃ a its n,vs.getD i Ht = .ref a/\Ii its (rs.getD i [])/\h.get? a=some { cls:=.type "list",data:=.seq its.toArray n }
 | _,_,.nil,i,e=>absurd e (by simp)
 | _,_,.cons r t,0,e=>r
 | _,_,.cons r t,i+1,e=>by
  have:=iP.get t (i:=i) (by simpa using e)
  simpa using this
theorem iP.mem {h:HM}:∀ {vs:List Fk} {rs:List (List Int)},iP h vs rs->∀ v∈vs,∃ a its n,v = .ref a/\h.get? a=some { cls:=.type "list",data:=.seq (Kc its) n }
 | _,_,.cons r t,v,hv=>by
  rcases FL.mp hv with rfl | hv
  ·obtain ⟨a,its,n,e,_,g⟩:=r
   exact ⟨a,its,n,e,g⟩
  ·exact iP.mem t v hv
theorem iP.mono {h h':HM} (k:∀ b o,h.get? b=some o->h'.get? b=some o):∀ {vs:List Fk} {rs:List (List Int)},iP h vs rs->iP h' vs rs
 | _,_,.nil=>.nil
 | _,_,.cons r t=>by
  obtain ⟨a,its,n,e,hi,g⟩:=r
  exact .cons ⟨a,its,n,e,hi,k _ _ g⟩ (iP.mono k t)
theorem Dd {vs:List Fk} {rs:List (List Int)} {s1:Fq} (hu:A.units < cLine) (r:iP s1.heap vs rs) (h2:2<=vs.length):qR prog w A vs (fun i j=>cD (rs.getD i []) (rs.getD j [])) s1:=by
 intro Q q
 refine kas_kind (T:=.type "list") h2 (fun v hv=>?_) (by decide) (by decide) (q _ fun i j C hi hj hc=>?_)
 ·obtain ⟨a,its,n,rfl,g⟩:=r.mem v hv
  exact (Looks.ld g).andThen .now
 ·obtain ⟨a,its,n,e1,i1,g1⟩:=r.get hi
  obtain ⟨b,jts,n2,e2,i2,g2⟩:=r.get hj
  unfold kas_ask
  rw [e1,e2,keyLt'_oneType]
  exact qP hu i1 i2 g1 g2 hc
end
end L2
namespace Ck
open PySem L2
noncomputable abbrev aK (H0 H:Hp) (a:FD):List FD->List (List Int)->Prop:=Jw (fun (b:FD) (ns:List Int)=>H b=some (.lst (ns.map V.int))/\H0 b=none/\b≠a)
def aR (H0 H:Hp) (a:FD) (rs:List (List Int)):Prop:=∃ bs:List FD,H a=some (.lst (bs.map V.ref))/\aK H0 H a bs rs/\bs.Nodup
theorem aR.nil {H0 H:Hp} {a:FD} (h:H a=some (.lst [])):aR H0 H a []:=⟨[],h,.nil,JC⟩
theorem aR.same {H0 H H':Hp} {a:FD} {rs:List (List Int)} (h:aR H0 H a rs) (s:ae H H'):aR H0 H' a rs :=
 let ⟨bs,e,r,n⟩:=h
 ⟨bs,s _ _ e,Paired.mapP r fun _ _ ⟨p,q⟩=>⟨s _ _ p,q⟩,n⟩
theorem aR.since {H0 H1 H:Hp} {a:FD} {rs:List (List Int)} (h:aR H0 H a rs) (s:ae H1 H0):aR H1 H a rs :=
 let ⟨bs,e,r,n⟩:=h
 ⟨bs,e,Paired.mapP r fun _ _ ⟨p,q,z⟩=>⟨p,s.free q,z⟩,n⟩
theorem aR.len {H0 H:Hp} {a:FD} {rs:List (List Int)} (h:aR H0 H a rs):∃ xs,H a=some (.lst xs)/\xs.length=rs.length :=
 let ⟨bs,e,r,_⟩:=h
 ⟨_,e,by rw [Do]; exact Js r⟩
theorem aK.get {H0 H:Hp} {a:FD}:∀ {bs:List FD} {rs:List (List Int)},aK H0 H a bs rs->∀ {j:Nat} {ns:List Int},rs[j]? = some ns->∃ b,bs[j]? = some b/\H b=some (.lst (ns.map V.int))/\H0 b=none/\b≠a
 | _,_,.nil,j,ns,e=>by cases e
 | _,_,.cons r t,0,ns,e=>by
  rw [IY] at e
  cases e
  exact ⟨_,rfl,r⟩
 | _,_,.cons r t,j+1,ns,e=>aK.get t (j:=j) (by simpa using e)
theorem aR.get {H0 H:Hp} {a:FD} {rs:List (List Int)} (h:aR H0 H a rs) {xs:List V} (hx:H a=some (.lst xs)) {j:Nat} {ns:List Int} (e:rs[j]? = some ns):∃ b,xs[j]? = some (.ref b)/\H b=some (.lst (ns.map V.int))/\H0 b=none/\b≠a:=by
 obtain ⟨bs,e1,r,_⟩:=h
 rw [hx] at e1
 cases e1
 obtain ⟨b,h1,h2⟩:=r.get e
 exact ⟨b,by rw [GD,h1]; rfl,h2⟩
theorem aK.updC {H0 H:Hp} {a c:FD} {o:HO}:∀ {bs:List FD} {rs:List (List Int)},aK H0 H a bs rs->(∀ b∈bs,b≠c)->aK H0 (upd H c o) a bs rs
 | _,_,.nil,_=>.nil
 | _,_,.cons ⟨p,q⟩ t,n=>.cons ⟨(upd_ne (n _ (by simp))).trans p,q⟩ (aK.updC t fun b hb=>n b (by simp [hb]))
theorem aK.all {H0 H:Hp} {a:FD}:∀ {bs:List FD} {rs:List (List Int)},aK H0 H a bs rs->∀ b∈bs,(∃ ns:List Int,H b=some (.lst (ns.map V.int)))/\H0 b=none/\b≠a
 | _,_,.nil,b,hb=>by cases hb
 | _,_,.cons ⟨p,q⟩ t,b,hb=>by
  rcases FL.mp hb with rfl | z
  ·exact ⟨⟨_,p⟩,q⟩
  ·exact aK.all t b z
theorem aR.updC {H0 H:Hp} {a c:FD} {o o':HO} {rs:List (List Int)} (h:aR H0 H a rs) (hc:H0 c=some o') (ne:a≠c):aR H0 (upd H c o) a rs:=by
 obtain ⟨bs,e,r,n⟩:=h
 exact ⟨bs,(upd_ne ne).trans e,r.updC (fun b hb z=>by have:=(r.all b hb).2.1; rw [z,hc] at this; cases this),n⟩
theorem aK.snoc {H0 H:Hp} {a b:FD} {ns:List Int} (hb:H b=some (.lst (ns.map V.int))) (h0:H0 b=none) (ne:b≠a):∀ {bs:List FD} {rs:List (List Int)},aK H0 H a bs rs->aK H0 H a (bs++[b]) (rs++[ns])
 | _,_,.nil=>.cons ⟨hb,h0,ne⟩ .nil
 | _,_,.cons r t=>.cons r (aK.snoc hb h0 ne t)
noncomputable def kY (rs:List (List Int)):Tree:=.lst (rs.map kd)
theorem aK.rep {H0 H:Hp} {a:FD}:∀ {bs:List FD} {rs:List (List Int)},aK H0 H a bs rs->(∀ r∈rs,r.length<=1000000)->bz H (rs.map kd) (bs.map V.ref)
 | _,_,.nil,_=>by unfold Lc bz; rfl
 | _,_,.cons r t,hl=>by
  rw [FQ,FQ]
  unfold bz
  exact ⟨_,_,rfl,lP r.1 (hl _ (by simp)),aK.rep t fun r hr=>hl r (by simp [hr])⟩
theorem aR.rep {H0 H:Hp} {a:FD} {rs:List (List Int)} (h:aR H0 H a rs) (hl:rs.length<=1000000) (hm:∀ r∈rs,r.length<=1000000):Rep H (kY rs) (.ref a):=by
 obtain ⟨bs,e,r,_⟩:=h
 unfold kY Rep
 exact ⟨a,_,rfl,e,by rw [Do]; exact hl,r.rep hm⟩
theorem kU:∀ rs:List (List Int),dS (rs.map kd)<=1
 | []=>by unfold Lc dS; exact FI _
 | r::rs=>by
  rw [FQ]
  unfold dS
  rw [qf]
  exact Nat.max_le.mpr ⟨Fy _,kU rs⟩
theorem uQ (rs:List (List Int)):dep (kY rs)<=2:=by unfold kY dep; have:=kU rs; lia
end Ck
namespace Ck
open PySem L2
def fG (H H':Hp):Prop:=∀ b,H' b=none->H b=none
theorem fG.refl (H:Hp):fG H H:=fun _ h=>h
theorem fG.free' {H H':Hp} {b:FD} (s:fG H H') (h:H' b=none):H b=none:=s b h
theorem fG.upd {H H':Hp} (s:fG H H') (a:FD) (o:HO):fG H (L2.upd H' a o):=fun b h=>s b (by
 by_cases e:b=a
 ·rw [e,upd_same] at h; cases h
 ·rw [upd_ne e] at h; exact h)
end Ck
namespace Ck
open PySem PySem.Spec PyProof.Rows L2
theorem kZ {X:Cx} {pins:List (FD × Obj)} {σ:L2.St} {H H0:Hp} {s:Fq} {a:FD} (I:Inv X pins σ H s):∀ {bs:List FD} {rs:List (List Int)} {vs:List Fk},aK H0 H a bs rs->Vals (bs.map V.ref) vs->iP s.heap vs rs
 | _,_,_,.nil,.nil=>.nil
 | _,_,_,.cons r t,.cons rv tv=>by
  cases rv
  obtain ⟨z,its,n,r',hl,e⟩:=I.lstM r.1
  exact .cons ⟨_,its,n,rfl,intsAre_of r',e⟩ (kZ I t tv)
theorem lB {H H' H0:Hp} {a a':FD}:∀ {bs:List FD} {rs:List (List Int)},aK H0 H a bs rs->(∀ b∈bs,H' b=H b/\b≠a')->aK H0 H' a' bs rs
 | _,_,.nil,_=>.nil
 | _,_,.cons ⟨p,q,_⟩ t,k=>.cons ⟨(k _ (by simp)).1.trans p,q,(k _ (by simp)).2⟩ (lB t fun b hb=>k b (by simp [hb]))
end Ck
namespace L2
open PySem PySem.Spec PyProof.Rows PySem.W Ck
section
variable {X:Cx}
theorem jj (hu:X.A.units+100 < cLine):dk X (.builtin "sorted") (fun xs H Q=>∃ (p:FD) (H0:Hp) (rs:List (List Int)),xs=[.ref p]/\aR H0 H p rs/\rs.length < 64/\∀ (q:FD) (ss:List (List Int)) (H':Hp),ae H H'->H q=none->aR H0 H' q ss->ss.Perm rs->ss.Pairwise (fun a b=>cD b a=false)->(∀ (ws zs:List V),H p=some (.lst ws)->H' q=some (.lst zs)->∀ v∈zs,v∈ws)->Q (.ref q) H'):=by
 intro pins s σ H xs us Q I r h
 obtain ⟨p,H0,rs,rfl,⟨bs,hl,ro,nd⟩,h64,q⟩:=h
 obtain ⟨u,rfl,ru⟩:=vals1 r
 cases ru
 obtain ⟨its,r',pl,hz⟩:=I.list (ai.of hl)
 have lw:bs.length=rs.length:=Js ro
 have li:(bs.map V.ref).length=its.length:=r'.length
 rw [Do] at li
 have lv:=kZ I ro r'
 refine kR (Ex rs) pl.isList (by lia) (fun h6 old h2=>Dd (s1:={ s with heap:=h6 }) (show X.A.units+1+1 < cLine by lia) (lv.mono old) h2) fun g ok ri=>?_
 obtain ⟨e,he⟩:=LD s.heap its (ee its g).toArray
 have hb:∀ i∈g.toList,i < its.length:=fun i hi=>FV.mp (ok.mem_iff.mp hi)
 have lg:g.toList.length=its.length:=by rw [ok.length_eq,Im]
 have em:(g.toList.map fun i=>(bs.map V.ref).getD i V.non)=(g.toList.map fun i=>bs.getD i 0).map V.ref:=by
  rw [GC]
  refine Gw fun i hi=>?_
  have:=hb i hi
  have l1:i < bs.length:=by lia
  simp [l1]
 have hz2:((g.toList.map fun i=>bs.getD i 0).map V.ref).length<=sizeLine:=by rw [Do,Do,lg]; exact sz (by lia)
 have vs2:Vals ((g.toList.map fun i=>bs.getD i 0).map V.ref) (ee its g):=by
  rw [<- em]
  exact dg r' V.non Ht g.toList (fun i hi=>by rw [Do,li]; exact hb i hi)
 have ro2:aK H0 H p (g.toList.map fun i=>bs.getD i 0) (g.toList.map fun i=>rs.getD i []):=dg ro 0 [] g.toList (fun i hi=>by rw [li]; exact hb i hi)
 have pm:(g.toList.map fun i=>bs.getD i 0).Perm bs:=gD 0 bs (by rw [li]; exact ok)
 have fr:H (s.heap.objs.size+1)=none:=I.hok.fresh (IJ _)
 refine ⟨.ref _,_,I.laid (t':=s.toks) (o:=.lst ((g.toList.map fun i=>bs.getD i 0).map V.ref)) (fun b u e=>Lf e) (IJ _) ⟨hz2,ee its g,e,vs2,by simpa [seqObj] using he⟩,rfl,?_⟩
 refine q _ _ _ (ae.new (ae.refl H) fr _) fr ⟨_,upd_same,lB ro2 (fun b hb'=>?_),pm.nodup_iff.mpr nd⟩ (gD [] rs (by rw [<- lw,li]; exact ok)) ?_ (fun ws zs ew ez v hv=>?_)
 ·obtain ⟨⟨ns,hn⟩,_⟩:=ro2.all b hb'
  have:b≠s.heap.objs.size+1:=ar hn fr
  exact ⟨upd_ne this,this⟩
 ·rw [GJ]
  have gs:g.size=its.length:=by rw [<- lg]; simp
  refine FP.mpr fun i j hi hj hij=>?_
  have:=ri i j (by lia) (by rw [<- gs]; simpa using hj)
  unfold gA at this
  simpa [show i < g.size by simpa using hi,show j < g.size by simpa using hj] using this
 ·rw [hl] at ew
  cases ew
  rw [upd_same] at ez
  cases ez
  exact (pm.map V.ref).mem_iff.mp hv
end
theorem jR:∀ as bs:List Int,cD as bs=false->cD bs as=false->as=bs
 | [],[],_,_=>rfl
 | [],_::_,h,_=>by cases h
 | _::_,[],_,h=>by cases h
 | a::as,b::bs,h1,h2=>by
  unfold cD at h1 h2
  by_cases e:a=b
  ·rw [if_pos e] at h1
   rw [if_pos e.symm] at h2
   rw [e,jR as bs h1 h2]
  ·rw [if_neg e] at h1
   rw [if_neg (fun z=>e z.symm)] at h2
   have:=of_decide_eq_false h1
   have:=of_decide_eq_false h2
   lia
end L2
namespace Ck
open PySem L2
noncomputable abbrev hd (r:List Int):Int:=r.getD 0 0
noncomputable def iota (k:Nat):List Int:=(FC k).map fun (i:Nat)=>(i:Int)
structure cP (k:Nat) (rs:List (List Int)):Prop where
 ne:∀ r∈rs,r≠[]
 inc:∀ r∈rs,r.Pairwise (· < ·)
 heads:(rs.map hd).Pairwise (· < ·)
 flat:rs.flatten.Perm (iota k)
theorem oo {k:Nat} {x:Int}:x∈iota k↔0<=x/\x < (k:Int):=by
 unfold iota
 rw [FH]
 constructor
 ·rintro ⟨i,hi,rfl⟩
  have:=FV.mp hi
  lia
 ·rintro ⟨h1,h2⟩
  exact ⟨x.toNat,FV.mpr (by lia),by lia⟩
theorem cP.rng {k:Nat} {rs:List (List Int)} (h:cP k rs) {r:List Int} (hr:r∈rs) {x:Int} (hx:x∈r):0<=x/\x < (k:Int) :=
 oo.mp (h.flat.mem_iff.mp (JG.mpr ⟨r,hr,hx⟩))
theorem dR {r:List Int} (h:r≠[]):hd r∈r:=by
 cases r with
 | nil=>exact absurd rfl h
 | cons a r=>exact Ge ..
noncomputable def aS (i:Nat) (r:List Int):Bool:=decide (r.getD (r.length - 1) 0=(i:Int) - 1)
noncomputable def aH (d:Int) (r:List Int):List Int:=r.map (·+d)
noncomputable def joinR (i:Nat) (ls rs:List (List Int)):List (List Int):=(0::aH 1 (ls.filter (aS i)).flatten)::((ls.filter fun r=>!aS i r).map (aH 1)++rs.map (aH ((i:Int)+1)))
theorem qr (d:Int) (r:List Int):aH (-d) (aH d r)=r:=by
 unfold aH
 rw [GC]
 have:((fun x:Int=>x+-d) ∘ fun x:Int=>x+d)=id:=by funext x; simp; lia
 rw [this,Le]
theorem qh (d:Int) (rs:List (List Int)):(rs.map (aH d)).map (aH (-d))=rs:=by
 rw [GC]
 have:(aH (-d) ∘ aH d)=id:=by funext x; exact qr d x
 rw [this,Le]
theorem fM {r:List Int} (h:r≠[]) (d:Int):hd (aH d r)=hd r+d:=by
 cases r with
 | nil=>exact absurd rfl h
 | cons a r=>rfl
section
variable {i:Nat} {ls:List (List Int)} (h:cP i ls)
include h
theorem jS {r:List Int} (hr:r∈ls):r.getD (r.length - 1) 0∈r:=by
 have:=Iu.mpr (h.ne r hr)
 rw [AC,Da (show r.length - 1 < r.length by lia)]
 exact Hr _
theorem p8 {r:List Int} (hr:r∈ls) {x:Int} (hx:x∈r):x<=r.getD (r.length - 1) 0:=by
 have hp:=Iu.mpr (h.ne r hr)
 obtain ⟨j,hj,rfl⟩:=Ir hx
 rw [AC,Da (show r.length - 1 < r.length by lia)]
 show r[j]<=r[r.length - 1]
 by_cases e:j=r.length - 1
 ·subst e; exact GA _
 ·exact Hd (FP.mp (h.inc r hr) j (r.length - 1) hj (by lia) (by lia))
theorem qH {r:List Int} (hr:r∈ls):aS i r=true↔(i:Int) - 1∈r:=by
 unfold aS
 rw [decide_eq_true_iff]
 constructor
 ·intro e
  rw [<- e]
  exact jS h hr
 ·intro hm
  have h1:=p8 h hr hm
  have h2:=h.rng hr (jS h hr)
  lia
theorem yQ:ls.flatten.Nodup:=by
 refine h.flat.nodup_iff.mpr ?_
 unfold iota
 refine GJ.mpr (Kf.imp fun hne=>?_)
 lia
theorem eU:(ls.filter (aS i)).length<=1:=by
 have nd:=yQ h
 have key:∀ l:List (List Int),l.flatten.Nodup->(∀ r∈l,aS i r=true->(i:Int) - 1∈r)->(l.filter (aS i)).length<=1:=by
  intro l
  induction l with
  | nil=>intro _ _; simp
  | cons r l ih =>
   intro nd hm
   rw [HN,Hx] at nd
   have ih':=ih nd.2.1 fun s hs=>hm s (FE _ hs)
   by_cases g:aS i r=true
   ·rw [Ja g]
    have e:l.filter (aS i)=[]:=G4.mpr fun s hs gs=>by
     have m1:=hm r (Ge ..) g
     have m2:=hm s (FE _ hs) gs
     exact nd.2.2 _ m1 _ (JG.mpr ⟨s,hs,m2⟩) rfl
    rw [e]
    exact Fy _
   ·rw [Jb g]
    exact ih'
 exact key ls nd fun r hr g=>(qH h hr).mp g
theorem oX (h0:0 < i):∃ R,ls.filter (aS i)=[R]/\R∈ls/\R.getD (R.length - 1) 0=(i:Int) - 1:=by
 have hm:(i:Int) - 1∈ls.flatten:=h.flat.mem_iff.mpr (oo.mpr (by lia))
 obtain ⟨R,hR,hx⟩:=JG.mp hm
 have g:=(qH h hR).mpr hx
 have hin:R∈ls.filter (aS i):=GK.mpr ⟨hR,g⟩
 have l1:=eU h
 match e:ls.filter (aS i),l1,hin with
 | [S],_,hin =>
  have eS:R=S:=Ib.mp hin
  subst eS
  exact ⟨R,rfl,hR,of_decide_eq_true g⟩
 | [],_,hin=>cases hin
 | _::_::_,l1,_=>simp at l1
theorem none_of (h0:i=0):ls=[]:=by
 cases ls with
 | nil=>rfl
 | cons r ls =>
  have:=h.rng (Ge ..) (dR (h.ne r (Ge ..)))
  lia
theorem qU:((0:Int)::aH 1 (ls.filter (aS i)).flatten).getD (((0:Int)::aH 1 (ls.filter (aS i)).flatten).length - 1) 0=(i:Int):=by
 by_cases h0:i=0
 ·rw [none_of h h0,h0]; rfl
 ·obtain ⟨R,e,hR,hl⟩:=oX h (by lia)
  have hp:=Iu.mpr (h.ne R hR)
  rw [e]
  have e1:[R].flatten=R:=by simp
  rw [e1]
  have e2:((0:Int)::aH 1 R).length - 1=R.length:=by unfold aH; simp
  rw [e2]
  obtain ⟨m,hm⟩:∃ m,R.length=m+1:=⟨R.length - 1,by lia⟩
  rw [hm,List.getD_cons_succ]
  rw [hm,HI] at hl
  unfold aH
  rw [AC,GD,Da (show m < R.length by lia)]
  rw [AC,Da (show m < R.length by lia)] at hl
  have hl':R[m]=(i:Int) - 1:=hl
  show R[m]+1=(i:Int)
  lia
theorem wJ:ls.Pairwise (fun a b=>cD b a=false):=by
 have h1:=GJ.mp h.heads
 refine K3 (fun {a b} ha hb hab=>?_) h1
 have na:=h.ne a ha
 have nb:=h.ne b hb
 match a,b,na,nb,hab with
 | x::a,y::b,_,_,hab =>
  have:x < y:=hab
  unfold cD
  rw [if_neg (by lia)]
  exact decide_eq_false (by lia)
variable {j:Nat} {rs:List (List Int)} (h':cP j rs)
include h'
theorem yK:((joinR i ls rs).tail.filter fun r=>decide (hd r < (i:Int)))=(ls.filter fun r=>!aS i r).map (aH 1):=by
 unfold joinR
 rw [List.tail_cons,GV]
 have e1:((ls.filter fun r=>!aS i r).map (aH 1)).filter (fun r=>decide (hd r < (i:Int)))=(ls.filter fun r=>!aS i r).map (aH 1):=IZ.mpr fun r hr=>by
  obtain ⟨s,hs,rfl⟩:=FH.mp hr
  obtain ⟨hs,g⟩:=GK.mp hs
  rw [fM (h.ne s hs)]
  have m:=dR (h.ne s hs)
  have b:=h.rng hs m
  have l:=p8 h hs m
  have l2:=h.rng hs (jS h hs)
  have:¬ s.getD (s.length - 1) 0=(i:Int) - 1:=by
   intro z
   have:aS i s=true:=by unfold aS; exact decide_eq_true z
   rw [this] at g
   cases g
  exact decide_eq_true (by lia)
 have e2:(rs.map (aH ((i:Int)+1))).filter (fun r=>decide (hd r < (i:Int)))=[]:=G4.mpr fun r hr=>by
  obtain ⟨s,hs,rfl⟩:=FH.mp hr
  rw [fM (h'.ne s hs)]
  have b:=h'.rng hs (dR (h'.ne s hs))
  rw [decide_eq_true_iff]
  lia
 rw [e1,e2,Gj]
theorem wQ:((joinR i ls rs).tail.filter fun r=>decide (hd r > (i:Int)))=rs.map (aH ((i:Int)+1)):=by
 unfold joinR
 rw [List.tail_cons,GV]
 have e1:((ls.filter fun r=>!aS i r).map (aH 1)).filter (fun r=>decide (hd r > (i:Int)))=[]:=G4.mpr fun r hr=>by
  obtain ⟨s,hs,rfl⟩:=FH.mp hr
  obtain ⟨hs,g⟩:=GK.mp hs
  rw [fM (h.ne s hs)]
  have b:=h.rng hs (dR (h.ne s hs))
  rw [decide_eq_true_iff]
  lia
 have e2:(rs.map (aH ((i:Int)+1))).filter (fun r=>decide (hd r > (i:Int)))=rs.map (aH ((i:Int)+1)):=IZ.mpr fun r hr=>by
  obtain ⟨s,hs,rfl⟩:=FH.mp hr
  rw [fM (h'.ne s hs)]
  have b:=h'.rng hs (dR (h'.ne s hs))
  exact decide_eq_true (by lia)
 rw [e1,e2,IV]
end
theorem uw {i:Nat} {ls:List (List Int)} (h:cP i ls) {ss:List (List Int)} (pm:ss.Perm ((ls.filter fun r=>!aS i r)++ls.filter (aS i))) (ri:ss.Pairwise (fun a b=>cD b a=false)):ss=ls:=by
 have p2:((ls.filter fun r=>!aS i r)++ls.filter (aS i)).Perm ls:=by
  have:=Ll (aS i) ls
  exact IG.trans this
 exact Hv (le:=fun a b=>cD b a=false) (fun a b _ _ h1 h2=>jR a b h2 h1) ri (wJ h) (pm.trans p2)
end Ck
namespace L2
open PySem PySem.Spec PyProof.Rows
theorem mZ {X:Cx} {K:Ga} (hK:X.K=K):dk X (.type "list") (fun xs H Q=>∃ p ys,xs=[.ref p]/\(ai K H p ys\/bg K H p ys)/\∀ l,H l=none->Q (.ref l) (upd H l (.lst ys))):=by
 subst hK
 exact e7
end L2
namespace Ck
open PySem L2
theorem fG.same {H H' H'':Hp} (s:fG H H') (t:ae H' H''):fG H H'':=fun b h=>s b (t.free h)
theorem aR.at {H0 H:Hp} {a:FD} {rs:List (List Int)} {xs:List V} (h:aR H0 H a rs) (hx:H a=some (.lst xs)) {j:Nat} {v:V} (e:xs[j]? = some v) :
  ∃ b ns,v = .ref b/\rs[j]? = some ns/\H b=some (.lst (ns.map V.int))/\H0 b=none/\b≠a:=by
 obtain ⟨ys,ey,ly⟩:=h.len
 rw [hx] at ey
 cases ey
 have hj:j < rs.length:=by rw [<- ly]; exact (Fs.mp e).1
 obtain ⟨b,h1,h2,h3,h4⟩:=h.get hx (Da hj)
 rw [e] at h1
 cases h1
 exact ⟨b,rs[j],rfl,Da hj,h2,h3,h4⟩
theorem aR.mem {H0 H:Hp} {a:FD} {rs:List (List Int)} {xs:List V} (h:aR H0 H a rs) (hx:H a=some (.lst xs)) {v:V} (e:v∈xs) :
  ∃ b ns,v = .ref b/\ns∈rs/\H b=some (.lst (ns.map V.int))/\H0 b=none/\b≠a:=by
 obtain ⟨j,hj⟩:=List.mem_iff_getElem?.mp e
 obtain ⟨b,ns,h1,h2,h3⟩:=h.at hx hj
 exact ⟨b,ns,h1,FG h2,h3⟩
theorem aR.push {H0 H H':Hp} {a b:FD} {rs:List (List Int)} {xs:List V} {ns:List Int} (h:aR H0 H a rs) (hx:H a=some (.lst xs)) (s:ae H H') (fb:H b=none) (hb:H' b=some (.lst (ns.map V.int))) (h0:H0 b=none) :
  aR H0 (upd H' a (.lst (xs++[.ref b]))) a (rs++[ns]):=by
 obtain ⟨bs,e,r,n⟩:=h
 rw [hx] at e
 cases e
 have ne:b≠a:=fun z=>by rw [z,hx] at fb; cases fb
 have nb:∀ c∈bs,c≠b:=fun c hc z=>by
  obtain ⟨⟨ms,e⟩,_⟩:=r.all c hc
  rw [z,fb] at e
  cases e
 have r1:aK H0 H' a bs rs:=Paired.mapP r fun _ _ ⟨p,q⟩=>⟨s _ _ p,q⟩
 have r2:aK H0 (upd H' a (.lst (bs.map V.ref++[.ref b]))) a bs rs:=r1.updC fun c hc=>(r.all c hc).2.2
 refine ⟨bs++[b],by rw [upd_same,Fu]; rfl,aK.snoc ((upd_ne ne).trans hb) h0 ne r2,?_⟩
 refine Hx.mpr ⟨n,by simp,?_⟩
 intro c hc d hd
 have:d=b:=by simpa using hd
 rw [this]
 exact nb c hc
theorem aR.swap {H0 H H':Hp} {a b:FD} {r0:List Int} {rs:List (List Int)} {xs:List V} {ns:List Int} (h:aR H0 H a (r0::rs)) (hx:H a=some (.lst xs)) (s:ae H H') (fb:H b=none) (hb:H' b=some (.lst (ns.map V.int))) (h0:H0 b=none) :
  aR H0 (upd H' a (.lst (xs.set 0 (.ref b)))) a (ns::rs):=by
 obtain ⟨bs,e,r,n⟩:=h
 rw [hx] at e
 cases e
 have ne:b≠a:=fun z=>by rw [z,hx] at fb; cases fb
 have nb:∀ c∈bs,c≠b:=fun c hc z=>by
  obtain ⟨⟨ms,e⟩,_⟩:=r.all c hc
  rw [z,fb] at e
  cases e
 have na:∀ c∈bs,c≠a:=fun c hc=>(r.all c hc).2.2
 cases r with
 | @cons c _ cs _ r t =>
  rw [G9] at n
  have t1:aK H0 H' a cs rs:=Paired.mapP t fun _ _ ⟨p,q⟩=>⟨s _ _ p,q⟩
  have t2:aK H0 (upd H' a (.lst ((V.ref b)::cs.map V.ref))) a cs rs:=t1.updC fun d hd=>na d (FE _ hd)
  refine ⟨b::cs,by rw [upd_same,FQ,FQ,List.set_cons_zero],?_,?_⟩
  ·rw [FQ,List.set_cons_zero]
   exact .cons ⟨(upd_ne ne).trans hb,h0,ne⟩ t2
  ·exact G9.mpr ⟨fun z=>nb b (FE _ z) rfl,n.2⟩
theorem mV {H0 H:Hp} {a:FD}:∀ {bs cs:List FD} {rs ss:List (List Int)},aK H0 H a bs rs->aK H0 H a cs ss->aK H0 H a (bs++cs) (rs++ss)
 | _,_,_,_,.nil,h=>h
 | _,_,_,_,.cons r t,h=>.cons r (mV t h)
theorem i9 {G H0 H:Hp} {a p:FD} {o:HO} (hp:H p=none) (g:∀ c,G c=none->H0 c=none):∀ {bs:List FD} {rs:List (List Int)},aK G H a bs rs->aK H0 (upd H p o) p bs rs
 | _,_,.nil=>.nil
 | _,_,.cons ⟨h1,h2,_⟩ t=>.cons ⟨(upd_ne (ar h1 hp)).trans h1,g _ h2,ar h1 hp⟩ (i9 hp g t)
theorem aR.cat {H0 H1 H:Hp} {a b p:FD} {rs ss:List (List Int)} {xs ys:List V} (h:aR H0 H a rs) (hx:H a=some (.lst xs)) (k:aR H1 H b ss) (hy:H b=some (.lst ys)) (s01:ae H0 H1) (d:∀ c,V.ref c∈xs->H1 c≠none) (hp:H p=none) :
  aR H0 (upd H p (.lst (xs++ys))) p (rs++ss):=by
 obtain ⟨bs,e,r,n⟩:=h
 rw [hx] at e
 cases e
 obtain ⟨cs,e,r',n'⟩:=k
 rw [hy] at e
 cases e
 refine ⟨bs++cs,by rw [upd_same,Fu],mV (i9 hp (fun c z=>z) r) (i9 hp (fun c z=>s01.free z) r'),?_⟩
 refine Hx.mpr ⟨n,n',?_⟩
 intro c hc e he z
 have h1:=d c (FH.mpr ⟨c,hc,rfl⟩)
 have h2:=(r'.all e he).2.1
 rw [<- z] at h2
 exact h1 h2
def sj (H:Hp) (a c:FD):Prop:=c≠a/\∀ xs,H a=some (.lst xs)->V.ref c∉xs
def Apart (H:Hp) (p q:FD):Prop:=sj H p q/\∀ ys c,H q=some (.lst ys)->V.ref c∈ys->sj H p c
def sN (a:FD) (H H':Hp):Prop:=∀ c,sj H a c->∀ o,H c=some o->H' c=some o
theorem je {r:List Int} (h:r≠[]):bW (r.map V.int) (-1)=some (.int (r.getD (r.length - 1) 0)):=by
 obtain ⟨r0,m,rfl⟩:∃ r0 m,r=r0++[m]:=⟨_,_,(Km h).symm⟩
 rw [Fu]
 refine (wz (r0.map V.int) (V.int m)).trans ?_
 simp [AC]
theorem uz {r:List Int} (h:r≠[]):bW (r.map V.int) 0=some (.int (hd r)) :=
 dF (i:=0) (by lia) (by have:=Iu.mpr h; lia)
theorem nV:∀ ls:List (List Int),(ls.map fun r=>(r.length:Int)).sum=(ls.flatten.length:Int)
 | []=>rfl
 | r::ls=>by
  rw [FQ,Jt,nV ls,HN,Fw]
  lia
theorem oV:∀ ls:List (List Int),(∀ r∈ls,r≠[])->ls.length<=ls.flatten.length
 | [],_=>Fy _
 | r::ls,h=>by
  have:=oV ls fun s hs=>h s (by simp [hs])
  have:=Iu.mpr (h r (by simp))
  rw [HN,Fw,FZ]
  lia
theorem len_one:∀ (ls:List (List Int)) (r:List Int),r∈ls->r.length<=ls.flatten.length
 | [],r,h=>by cases h
 | s::ls,r,h=>by
  rw [HN,Fw]
  rcases FL.mp h with rfl | h
  ·lia
  ·have:=len_one ls r h
   lia
theorem kr (k:Nat):(iota k).length=k:=by unfold iota; simp
theorem cP.lens {i:Nat} {ls:List (List Int)} (h:cP i ls):ls.length<=i/\∀ r∈ls,r.length<=i:=by
 have e:=h.flat.length_eq
 rw [kr] at e
 have:=oV ls h.ne
 exact ⟨by lia,fun r hr=>by have:=len_one ls r hr; lia⟩
theorem cP.size {i:Nat} {ls:List (List Int)} (h:cP i ls):(ls.map fun r=>(r.length:Int)).sum=(i:Int):=by
 have e:=h.flat.length_eq
 rw [kr] at e
 rw [nV,e]
theorem fC (d:Int) (r:List Int):(aH d r).length=r.length:=Do _
theorem cE {f:List Int->Bool} {ls:List (List Int)} {k:Nat} {r:List Int} (h:ls[k]? = some r):(ls.take (k+1)).filter f=(ls.take k).filter f++(if f r=true then [r] else []):=by
 rw [FT,h,GV]
 congr 1
 by_cases z:f r=true
 ·rw [if_pos z]; exact Ja z
 ·rw [if_neg z]; exact Jb z
theorem jE {i:Nat} {ls:List (List Int)} (h:cP i ls) {k:Nat} {r:List Int} (e:ls[k]? = some r) (g:aS i r=true):(ls.take k).filter (aS i)=[]:=by
 have h1:=eU h
 have e1:=cE (f:=aS i) e
 rw [if_pos g] at e1
 have h2:((ls.take (k+1)).filter (aS i)).length<=(ls.filter (aS i)).length:=((K0 _ _).filter _).length_le
 rw [e1,Fw] at h2
 exact Ji (by simp at h2; lia)
theorem ue {i j:Nat} {ls rs:List (List Int)} (h:cP i ls) (h':cP j rs):(joinR i ls rs).length<=i+j+1/\∀ r∈joinR i ls rs,r.length<=i+j+1:=by
 have a:=h.lens
 have b:=h'.lens
 have c:=Gz (fun r=>!aS i r) ls
 unfold joinR
 refine ⟨by simp only [FZ,Fw,Do]; lia,fun r hr=>?_⟩
 rcases FL.mp hr with rfl | hr
 ·have e:=h.flat.length_eq
  rw [kr] at e
  have:(ls.filter (aS i)).flatten.length<=ls.flatten.length:=by
   have l1:=eU h
   match e:ls.filter (aS i),l1 with
   | [],_=>simp
   | [R],_ =>
    have:R∈ls:=(GK.mp (by rw [e]; simp)).1
    have:=len_one ls R this
    simpa using this
   | _::_::_,l1=>simp at l1
  rw [FZ,fC]
  lia
 ·rcases FF.mp hr with z | z
  ·obtain ⟨s,hs,rfl⟩:=FH.mp z
   have:=a.2 s (GK.mp hs).1
   rw [fC]; lia
  ·obtain ⟨s,hs,rfl⟩:=FH.mp z
   have:=b.2 s hs
   rw [fC]; lia
theorem pk {i j:Nat} {ls rs:List (List Int)} (h:cP i ls) (h':cP j rs):∀ r∈joinR i ls rs,r≠[]:=by
 intro r hr
 unfold joinR at hr
 rcases FL.mp hr with rfl | hr
 ·simp
 ·rcases FF.mp hr with z | z
  ·obtain ⟨s,hs,rfl⟩:=FH.mp z
   have:=h.ne s (GK.mp hs).1
   unfold aH
   simpa using this
  ·obtain ⟨s,hs,rfl⟩:=FH.mp z
   have:=h'.ne s hs
   unfold aH
   simpa using this
end Ck
namespace Ck
open PySem L2
inductive Bt where
 | leaf
 | node (l r:Bt)
noncomputable def Bt.size:Bt->Nat
 | .leaf=>0
 | .node l r=>l.size+r.size+1
noncomputable def brk:Bt->List Nat
 | .leaf=>[]
 | .node l r=>40::(brk l++41::brk r)
theorem p7:∀ t:Bt,(brk t).length=2*t.size
 | .leaf=>rfl
 | .node l r=>by
  show (40::(brk l++41::brk r)).length=2*(l.size+r.size+1)
  rw [FZ,Fw,FZ,p7 l,p7 r]
  lia
theorem uS:∀ l:List Int,(∀ x∈l,0<=x)->0<=l.sum
 | [],_=>GA _
 | x::l,h=>by
  rw [Jt]
  exact Int.add_nonneg (h x (by simp)) (uS l fun y hy=>h y (by simp [hy]))
theorem b6 (n:Nat):1<=sh n:=by
 induction n using Kw with
 | _ n ih =>
  cases n with
  | zero=>rw [jo]; exact GA _
  | succ k =>
   rw [lY,Iy,FQ,Jt]
   have h1:=ih k (by lia)
   have h2:0<=((Lc Nat.succ (FC k)).map fun j=>sh j*sh (k - j)).sum:=uS _ fun x hx=>by
    obtain ⟨j,hj,rfl⟩:=FH.mp hx
    obtain ⟨i,hi,rfl⟩:=FH.mp hj
    have:=FV.mp hi
    have a1:=ih (i+1) (by lia)
    have a2:=ih (k - (i+1)) (by lia)
    exact KP (by show 0<=sh (i+1); lia) (by show 0<=sh (k - (i+1)); lia)
   rw [jo,Int.one_mul,Nat.sub_zero]
   lia
noncomputable def pre (n j:Nat):Int:=((FC j).map fun i=>sh i*sh (n - 1 - i)).sum
theorem eK (n j:Nat):pre n (j+1)=pre n j+sh j*sh (n - 1 - j):=by
 unfold pre
 rw [IT,Fu,List.sum_append]
 simp
theorem j7 (n:Nat) {i j:Nat} (h:i<=j):pre n i<=pre n j:=by
 induction j with
 | zero=>rw [Nat.le_zero.mp h]; exact GA _
 | succ j ih =>
  by_cases e:i=j+1
  ·rw [e]; exact GA _
  ·rw [eK]
   have:=ih (by lia)
   have a1:=b6 j
   have a2:=b6 (n - 1 - j)
   have:=KP (show 0<=sh j by lia) (show 0<=sh (n - 1 - j) by lia)
   lia
theorem qz (k:Nat):pre (k+1) (k+1)=sh (k+1):=by
 rw [lY]
 rfl
noncomputable def aB:Bt->Int
 | .leaf=>0
 | .node l r=>pre (l.size+r.size+1) l.size+aB l*sh r.size+aB r
theorem bJ:∀ t:Bt,0<=aB t
 | .leaf=>GA _
 | .node l r=>by
  have h1:=bJ l
  have h2:=bJ r
  have h3:=b6 r.size
  have h4:=KP h1 (show 0<=sh r.size by lia)
  have h5:=j7 (l.size+r.size+1) (FI l.size)
  have h6:pre (l.size+r.size+1) 0=0:=rfl
  show 0<=pre (l.size+r.size+1) l.size+aB l*sh r.size+aB r
  lia
theorem jq {x y a b:Int} (x1:x < a) (y0:0<=y) (y1:y < b):x*b+y < a*b:=by
 have:(x+1)*b<=a*b:=Int.mul_le_mul_of_nonneg_right (by lia) (by lia)
 rw [Int.add_mul,Int.one_mul] at this
 lia
theorem bU:∀ t:Bt,aB t < sh t.size
 | .leaf=>by show (0:Int) < sh 0; rw [jo]; decide
 | .node l r=>by
  have h1:=bU l
  have h2:=bU r
  have h3:=jq (b:=sh r.size) h1 (bJ r) h2
  have h4:=eK (l.size+r.size+1) l.size
  rw [show l.size+r.size+1 - 1 - l.size=r.size by lia] at h4
  have h5:=j7 (l.size+r.size+1) (show l.size+1<=l.size+r.size+1 by lia)
  have h6:=qz (l.size+r.size)
  show pre (l.size+r.size+1) l.size+aB l*sh r.size+aB r < sh (l.size+r.size+1)
  lia
theorem lZ {l r:Bt} {j:Nat} (h:j < l.size):sh j*sh (l.size+r.size - j)<=aB (.node l r) - pre (l.size+r.size+1) j:=by
 have h4:=eK (l.size+r.size+1) j
 rw [show l.size+r.size+1 - 1 - j=l.size+r.size - j by lia] at h4
 have h5:=j7 (l.size+r.size+1) (show j+1<=l.size by lia)
 have h1:=bJ l
 have h2:=bJ r
 have h3:=b6 r.size
 have h6:=KP h1 (show 0<=sh r.size by lia)
 show _<=pre (l.size+r.size+1) l.size+aB l*sh r.size+aB r - _
 lia
theorem fN (l r:Bt):aB (.node l r) - pre (l.size+r.size+1) l.size=aB l*sh r.size+aB r:=by
 show pre (l.size+r.size+1) l.size+aB l*sh r.size+aB r - _=_
 lia
theorem iu {x y b:Int} (y0:0<=y) (y1:y < b):(x*b+y) / b=x/\(x*b+y) % b=y:=by
 have hb:b≠0:=by lia
 constructor
 ·rw [Int.add_comm,Int.add_mul_ediv_right _ _ hb,Int.ediv_eq_zero_of_lt y0 y1,JN]
 ·rw [Int.add_comm,Int.add_mul_emod_self_right,Int.emod_eq_of_lt y0 y1]
theorem ra:((FC 62).all fun k=>decide (cN k < 2 ^ 200))=true:=by decide +kernel
theorem uE {k:Nat} (h:k<=61):(sh k).natAbs < 2 ^ 1000:=by
 rw [iL h,ni,Int.natAbs_natCast]
 have:=Gn.mp ra k (FV.mpr (by lia))
 exact Nat.lt_trans (of_decide_eq_true this) (Nat.pow_lt_pow_right (by decide) (by decide))
theorem mulC {a b:Nat} (h:a+b<=39) {x y:Int} (x0:0<=x) (x1:x<=sh a) (y0:0<=y) (y1:y<=sh b):gR x y:=by
 by_cases ha:a<=36
 ·have:=iH ha
  exact .inl ⟨by lia,by lia⟩
 ·have:=iH (show b<=36 by lia)
  exact .inr ⟨by lia,by lia⟩
end Ck
namespace Ck
open PySem L2
theorem jO (d:Int):∀ xs:List (List Int),(xs.map (aH d)).flatten=aH d xs.flatten
 | []=>rfl
 | x::xs=>by
  rw [FQ,HN,HN,jO d xs]
  unfold aH
  rw [Fu]
theorem ym (d:Int) (a b:List Int):aH d (a++b)=aH d a++aH d b:=by unfold aH; exact Fu
theorem lO {d:Int} {r:List Int} (h:r.Pairwise (· < ·)):(aH d r).Pairwise (· < ·):=by
 unfold aH
 rw [GJ]
 exact h.imp fun h=>by lia
theorem vw (i j:Nat):iota (i+j+1)=0::(aH 1 (iota i)++aH ((i:Int)+1) (iota j)):=by
 have e1:(FC i).map (fun k:Nat=>((k+1:Nat):Int))=aH 1 (iota i):=by
  unfold aH iota
  rw [GC]
  rfl
 have e2:(FC j).map (fun k:Nat=>((i+k+1:Nat):Int))=aH ((i:Int)+1) (iota j):=by
  unfold aH iota
  rw [GC]
  refine Gw fun k _=>?_
  show ((i+k+1:Nat):Int)=(k:Int)+((i:Int)+1)
  lia
 rw [<- e1,<- e2]
 unfold iota
 rw [Iy,FQ,GC,List.range_add,Fu,GC]
 rfl
theorem cP.join {i j:Nat} {ls rs:List (List Int)} (h:cP i ls) (h':cP j rs):cP (i+j+1) (joinR i ls rs):=by
 have ne:=pk h h'
 have g1:=eU h
 have hG:((0:Int)::aH 1 (ls.filter (aS i)).flatten).Pairwise (· < ·):=by
  match e:ls.filter (aS i),g1 with
  | [],_=>simp [aH]
  | [R],_ =>
   have hR:R∈ls:=(GK.mp (by rw [e]; simp)).1
   have e1:[R].flatten=R:=by simp
   rw [e1,Ic]
   refine ⟨fun y hy=>?_,lO (h.inc R hR)⟩
   unfold aH at hy
   obtain ⟨z,hz,rfl⟩:=FH.mp hy
   have:=h.rng hR hz
   lia
  | _::_::_,g1=>simp at g1
 refine ⟨ne,fun r hr=>?_,?_,?_⟩
 ·unfold joinR at hr
  rcases FL.mp hr with rfl | hr
  ·exact hG
  ·rcases FF.mp hr with z | z
   ·obtain ⟨s,hs,rfl⟩:=FH.mp z
    exact lO (h.inc s (GK.mp hs).1)
   ·obtain ⟨s,hs,rfl⟩:=FH.mp z
    exact lO (h'.inc s hs)
 ·unfold joinR
  rw [FQ,Fu,Ic,Gx]
  have a1:∀ y∈((ls.filter fun r=>!aS i r).map (aH 1)).map hd,1<=y/\y<=(i:Int):=fun y hy=>by
   obtain ⟨z,hz,rfl⟩:=FH.mp hy
   obtain ⟨s,hs,rfl⟩:=FH.mp hz
   have hs:=(GK.mp hs).1
   rw [fM (h.ne s hs)]
   have:=h.rng hs (dR (h.ne s hs))
   lia
  have a2:∀ y∈(rs.map (aH ((i:Int)+1))).map hd,(i:Int)+1<=y:=fun y hy=>by
   obtain ⟨z,hz,rfl⟩:=FH.mp hy
   obtain ⟨s,hs,rfl⟩:=FH.mp hz
   rw [fM (h'.ne s hs)]
   have:=h'.rng hs (dR (h'.ne s hs))
   lia
  have hh:∀ {k:Nat} {xs:List (List Int)} (d:Int),(∀ r∈xs,r≠[])->(xs.map hd).Pairwise (· < ·)->((xs.map (aH d)).map hd).Pairwise (· < ·):=fun d hne hp=>by
   rw [GJ,GJ]
   rw [GJ] at hp
   refine K3 (fun {a b} ha hb hab=>?_) hp
   rw [fM (hne a ha),fM (hne b hb)]
   lia
  refine ⟨fun y hy=>?_,hh (k:=0) 1 (fun r hr=>h.ne r (GK.mp hr).1) (h.heads.sublist ((List.filter_sublist).map hd)),hh (k:=0) _ h'.ne h'.heads,fun x hx y hy=>?_⟩
  ·show (0:Int) < y
   rcases FF.mp hy with z | z
   ·have:=a1 y z; lia
   ·have:=a2 y z; lia
  ·have:=a1 x hx
   have:=a2 y hy
   lia
 ·unfold joinR
  rw [HN,Iv,jO,jO,vw,JH,<- FX,<- ym]
  refine LU _ (List.Perm.append ?_ ?_)
  ·unfold aH
   refine List.Perm.map _ ?_
   rw [<- Iv]
   exact (List.Perm.flatten (Ll (aS i) ls)).trans h.flat
  ·unfold aH
   exact h'.flat.map _
theorem yD:cP 0 []:=⟨fun r h=>(by cases h),fun r h=>(by cases h),.nil,JA _⟩
end Ck
namespace L2
open PySem PySem.Spec PyProof.Rows
theorem rh (l b:FD) (us vs:Array Fk) (n m:Nat) (d:Option FD) (sl:Array (Option Fk)) (h0:¬(!us.isEmpty&&Builtin.List.listTooLong (us.size+vs.size))=true) (h1:us.size<=sizeLine) (h2:us.size+vs.size<=sizeLine+1) :
  Meets (Builtin.«list.extend» ⟨[.ref l,.ref b],[]⟩) (fun _ R s=>s.heap.get? l=some { cls:=.type "list",dict:=none,data:=.seq us n,slots:=#[] } /\
   s.heap.get? b=some { cls:=.type "tuple",dict:=d,data:=.seq vs m,slots:=sl } /\
   R (.ok (.ret Ht)) { s with heap:=s.heap.update l (Gs fun x=>x++vs),toks:=s.toks }) :=
 .of_wp fun prog w A R s h=>by
  obtain ⟨hp,g,dr,tk,os⟩:=s
  obtain ⟨hl,hb,h⟩:=h
  have f2:=AutoSeq1.sub_tuple_tuple
  have f3:=Lx
  have f4:=AutoSeq1.sub_tuple_list
  have f5:=AutoSeq1.sub_list_tuple
  have h2':(us++vs).size<=sizeLine+1:=by rw [Array.size_append]; exact h2
  wp_walk using (HH hl rfl (hz:=h1) (_hz':=h2')),K4 hl,K4 hb
  exact ⟨_,rfl,h⟩
section
variable {X:Cx}
noncomputable def xV (K:Ga):V->List V->Hp->VK->Prop:=fun x vs H Q=>∃ l b xs zs,x = .ref l/\vs=[.ref b]/\H l=some (.lst xs)/\bg K H b zs/\xs.length+zs.length<=sizeLine/\Q .non (upd H l (.lst (xs++zs)))
theorem yt:qB X "list.extend" (xV X.K):=by
 intro pins s σ H x vs v us Q I rx rv h
 obtain ⟨l,b,xs,zs,rfl,rfl,hH,hB,hz,q⟩:=h
 cases rx
 obtain ⟨u,rfl,ru⟩:=rv.one
 cases ru
 obtain ⟨z,its,n,r,hl,e⟩:=I.lstM hH
 obtain ⟨its2,r2,⟨⟨oc,od,dt,os⟩,e2,c2,m2,d2⟩,z2⟩:=I.tuple hB
 dsimp only at c2 d2
 subst c2 d2
 have l1:=r.length
 have l2:=r2.length
 have hsz:its.toArray.size+its2.toArray.size<=sizeLine:=by rw [FN,FN]; lia
 have hlong:¬ (!its.toArray.isEmpty&&Builtin.List.listTooLong (its.toArray.size+its2.toArray.size))=true:=by
  rw [oM hsz,Jy]
  exact Gh
 refine K1 F.slot_list_extend ⟨_,e,rfl⟩ F.entry_list_extend (F.args_list_extend_2 _ _) (rh l b its.toArray its2.toArray n m2 od os hlong (by rw [FN]; lia) (by lia)) ⟨e,e2,?_⟩
 refine ⟨.non,_,I.lset (its':=its++its2) hH e (by simp) (r.append r2) ?_,rfl,q⟩
 rw [Fw]
 lia
variable {X:Cx} {o e:II} {es:List II} {to:TE} {t:TA} {name:Str} {apos cpos:Pos} {T id:String} {r:V->List V->Hp->VK->Prop}
end
section
variable {X:Cx}
end
end L2
namespace Ck
open PySem L2
theorem ba.void {K:Ga} {H:Hp} {n:Nat} {a b:FD} {xs:List V} (ne:a≠b) (ha:ai K H a xs) (hb:ai K H b []):ba K H (n+1) (.ref a) (.ref b) (decide (xs=[])):=by
 cases xs with
 | nil=>exact ba.lstT ne ha hb rfl (fun j x y hx _=>by cases hx)
 | cons x xs=>exact ba.lstN ne ha hb (by simp)
noncomputable def Fm (ts:List Bt):Nat:=(ts.map Bt.size).sum
theorem nK {n:Nat} {m:Int} (h0:0<=m):∀ k,m < pre n k->∃ j,j < k/\pre n j<=m/\m < pre n (j+1)
 | 0,h=>by have:pre n 0=0:=rfl; lia
 | k+1,h=>by
  by_cases z:m < pre n k
  ·obtain ⟨j,a,b,c⟩:=nK h0 k z
   exact ⟨j,by lia,b,c⟩
  ·exact ⟨k,by lia,by lia,h⟩
theorem fA (n:Nat):∀ m:Int,0<=m->m < sh n->∃ t:Bt,t.size=n/\aB t=m:=by
 induction n using Kw with
 | _ n ih =>
  intro m h0 h1
  cases n with
  | zero=>rw [jo] at h1; exact ⟨.leaf,rfl,by show (0:Int)=m; lia⟩
  | succ k =>
   rw [<- qz k] at h1
   obtain ⟨j,hj,a,b⟩:=nK h0 (k+1) h1
   rw [eK,HI] at b
   have p1:=b6 (k - j)
   generalize hR:m - pre (k+1) j=R
   have R0:0<=R:=by lia
   have d0:0<=R / sh (k - j):=Int.ediv_nonneg R0 (by lia)
   have d1:R / sh (k - j) < sh j:=Int.ediv_lt_of_lt_mul (by lia) (by lia)
   have e0:=HX R (show sh (k - j)≠0 by lia)
   have e1:=Ie R (show 0 < sh (k - j) by lia)
   obtain ⟨l,hl,bl⟩:=ih j (by lia) _ d0 d1
   obtain ⟨r,hr,br⟩:=ih (k - j) (by lia) _ e0 e1
   have es:l.size+r.size+1=k+1:=by lia
   refine ⟨.node l r,es,?_⟩
   show pre (l.size+r.size+1) l.size+aB l*sh r.size+aB r=m
   rw [es,hl,hr,bl,br]
   have:=Int.mul_ediv_add_emod R (sh (k - j))
   rw [Int.mul_comm] at this
   lia
end Ck
namespace Lg
open PySem PyProof.Rows
noncomputable def qA:Bool->Keyed->Array Keyed->Nat->Nat->Nat->StateT SortSt Sem (Option Nat):=sortPriv% PySem.Builtin.gallop
noncomputable def lH (left:Bool) (key:GZ) (arr:Array GZ) (base i:Nat):StateT G6 Sem (Option Bool):=elem' arr (base+i) >>= fun x=>if left then lt' x key else lt' key x >>= fun r=>pure (r.map (!·))
noncomputable def cA (left:Bool) (k a:Int):Bool:=if left then decide (a < k) else !decide (k < a)
section
variable {prog:Gi} {w:GF} {A:GG} {E:Fk->Fq->Prop} {s:Fq}
theorem IntKeys.at {xs:Array GZ} (h:IntKeys xs) {i:Nat} (hi:i < xs.size):∃ t q,xs[i]? = some (.int (K xs i) t,q):=by
 have hm:xs[i]∈xs.toList:=by simp
 obtain ⟨n,t,hn⟩:=h _ hm
 refine ⟨t,xs[i].2,?_⟩
 have e:xs[i]? = some xs[i]:=getElem?_pos _ i hi
 have e2:xs[i]=(.int n t,xs[i].2):=JQ hn rfl
 unfold K
 rw [e,e2]
 rfl
theorem kJ {st:G6} {a b:Int} {t u:Tok} {p q:Fk} {Q:Option Bool->G6->Prop} (hk:kindOf st=oneType') (h:Q (some (decide (a < b))) st):wpS (model prog w) A E s (lt' (.int a t,p) (.int b u,q)) Q st:=by
 rw [lt'_eq]
 refine FA (JR ?_)
 rw [hk,keyLt'_oneType]
 refine FA (KL (Kq (oneLt_int ⟨rfl,?_⟩)))
 exact FJ h
theorem bh {st:G6} {xs:Array GZ} {i:Nat} {p:GZ} {Q:GZ->G6->Prop} (e:xs[i]? = some p) (h:Q p st):wpS (model prog w) A E s (elem' xs i) Q st:=by
 rw [elem'_eq,e]
 exact FJ h
theorem gb {st:G6} {left:Bool} {k:Int} {t:Tok} {p:Fk} {arr:Array GZ} {base i:Nat} {Q:Option Bool->G6->Prop} (hk:kindOf st=oneType') (hI:IntKeys arr) (hi:base+i < arr.size)
  (h:Q (some (cA left k (K arr (base+i)))) st):wpS (model prog w) A E s (lH left (.int k t,p) arr base i) Q st:=by
 obtain ⟨t',q',e⟩:=IntKeys.at hI hi
 unfold lH
 refine FA (bh e ?_)
 cases left with
 | true=>exact kJ hk h
 | false=>exact FA (kJ hk (FJ h))
theorem wN {left:Bool} {k a b:Int} (h:a<=b) (hb:cA left k b=true):cA left k a=true:=by
 cases left with
 | true=>have hb:=of_decide_eq_true hb; exact decide_eq_true (Int.lt_of_le_of_lt h hb)
 | false =>
  have hb:(!decide (k < b))=true:=hb
  show (!decide (k < a))=true
  simp at hb |-
  lia
theorem eh {st:G6} {left:Bool} {k:Int} {t:Tok} {p:Fk} {arr:Array GZ} {base n hint:Nat} {Q:Option Nat->G6->Prop} (hk:kindOf st=oneType') (hI:IntKeys arr) (hz:base+n<=arr.size) (hh:hint < n)
  (hs:∀ i j,i<=j->j < n->K arr (base+i)<=K arr (base+j))
  (h:∀ m,m<=n->(∀ i,i < m->cA left k (K arr (base+i))=true)->(∀ i,m<=i->i < n->cA left k (K arr (base+i))=false)->Q (some m) st) :
  wpS (model prog w) A E s (qA left (.int k t,p) arr base n hint) Q st:=by
 have dn:∀ i j,i<=j->j < n->cA left k (K arr (base+j))=true->cA left k (K arr (base+i))=true:=fun i j h1 h2 h3=>wN (hs i j h1 h2) h3
 have up:∀ i j,i<=j->j < n->cA left k (K arr (base+i))=false->cA left k (K arr (base+j))=false:=fun i j h1 h2 h3=>by
  cases e:cA left k (K arr (base+j)) with
  | false=>rfl
  | true=>rw [dn i j h1 h2 e] at h3; cases h3
 have fin:∀ lo hi:Nat,lo<=hi->hi<=n->(∀ i,i < lo->cA left k (K arr (base+i))=true)->(∀ i,hi<=i->i < n->cA left k (K arr (base+i))=false) ->
   ∀ (f:(Option (Option Nat) × Nat × Nat)->StateT G6 Sem (Option Nat)),(∀ m,f (none,m,m)=pure (some m)) ->
   wpS (model prog w) A E s (forIn [0:n] ((none,lo,hi):Option (Option Nat) × Nat × Nat) (fun _ c=>do
    if c.2.1 ≥ c.2.2 then pure (ForInStep.done (none,c.2.1,c.2.2)) else do
     let x <- lH left (.int k t,p) arr base (c.2.1+(c.2.2 - c.2.1) / 2)
     match x with
     | some more=>if more=true then pure (IR (none,c.2.1+(c.2.2 - c.2.1) / 2+1,c.2.2)) else pure (IR (none,c.2.1,c.2.1+(c.2.2 - c.2.1) / 2))
     | _=>pure (ForInStep.done (some none,c.2.1,c.2.2))) >>= f) Q st:=by
  intro lo hi hlh hhn hlo hhi f hf
  refine FA (HS (GN (I:=fun x c st'=>st'=st/\∃ l r,c=(none,l,r)/\l<=r/\r<=n/\r - l<=n - x/\(∀ i,i < l->cA left k (K arr (base+i))=true)/\(∀ i,r<=i->i < n->cA left k (K arr (base+i))=false))
   (Q:=fun c st'=>st'=st/\∃ m,c=(none,m,m)/\m<=n/\(∀ i,i < m->cA left k (K arr (base+i))=true)/\(∀ i,m<=i->i < n->cA left k (K arr (base+i))=false)) ?step ?fin ⟨rfl,lo,hi,rfl,hlh,hhn,by lia,hlo,hhi⟩) ?post)
  case post =>
   rintro c st' ⟨rfl,m,rfl,hm,a1,a2⟩
   rw [hf]
   exact FJ (h m hm a1 a2)
  case fin =>
   rintro c st' ⟨rfl,l,r,rfl,h1,h2,h3,a1,a2⟩
   have:l=r:=by lia
   subst this
   exact ⟨rfl,l,rfl,h2,a1,a2⟩
  case step =>
   rintro x c st' _ hx ⟨rfl,l,r,rfl,h1,h2,h3,a1,a2⟩
   dsimp only
   by_cases hge:l ≥ r
   ·rw [if_pos hge]
    have:l=r:=by lia
    subst this
    exact FJ ⟨rfl,l,rfl,h2,a1,a2⟩
   ·rw [if_neg hge]
    refine FA (gb hk hI (by lia) ?_)
    cases e:cA left k (K arr (base+(l+(r - l) / 2))) with
    | true =>
     dsimp only
     rw [if_pos rfl]
     exact FJ ⟨rfl,_,_,rfl,by lia,h2,by lia,fun i hi=>dn i _ (by lia) (by lia) e,a2⟩
    | false =>
     dsimp only
     rw [if_neg (by decide)]
     exact FJ ⟨rfl,_,_,rfl,by lia,by lia,by lia,a1,fun i h4 h5=>up _ i h4 h5 e⟩
 unfold qA
 change wpS _ _ _ _ (bind _ _) _ _
 dsimp only
 refine FA (gb hk hI (by lia) ?_)
 cases e:cA left k (K arr (base+hint)) with
 | true =>
  dsimp only
  rw [if_pos rfl]
  refine FA (HS (GN (I:=fun x c st'=>st'=st/\∃ l o,c=(none,l,o)/\l < o/\l < n - hint/\x+1<=o/\cA left k (K arr (base+(hint+l)))=true)
   (Q:=fun c st'=>st'=st/\∃ l o,c=(none,l,o)/\l < o/\l < n - hint/\cA left k (K arr (base+(hint+l)))=true/\(n - hint<=o\/(o < n - hint/\cA left k (K arr (base+(hint+o)))=false))) ?step1 ?fin1 ⟨rfl,0,1,rfl,by lia,by lia,by lia,e⟩) ?post1)
  case post1 =>
   rintro c st' ⟨rfl,l,o,rfl,h1,h2,h3,h4⟩
   dsimp only
   refine fin (hint+l+1) (hint+min o (n - hint)) (by lia) (by lia) (fun i hi=>dn i (hint+l) (by lia) (by lia) h3) (fun i h5 h6=>?_) _ (fun m=>rfl)
   rcases h4 with h4 | ⟨h4,h7⟩
   ·lia
   ·exact up (hint+o) i (by lia) h6 h7
  case fin1 =>
   rintro c st' ⟨rfl,l,o,rfl,h1,h2,h3,h4⟩
   exact ⟨rfl,l,o,rfl,h1,h2,h4,.inl (by lia)⟩
  case step1 =>
   rintro x c st' _ hx ⟨rfl,l,o,rfl,h1,h2,h3,h4⟩
   dsimp only
   by_cases hge:o ≥ n - hint
   ·rw [if_pos hge]
    exact FJ ⟨rfl,l,o,rfl,h1,h2,h4,.inl hge⟩
   ·rw [if_neg hge]
    refine FA (gb hk hI (by lia) ?_)
    cases e2:cA left k (K arr (base+(hint+o))) with
    | true =>
     dsimp only
     rw [if_neg (by decide)]
     exact FJ ⟨rfl,o,2*o+1,rfl,by lia,by lia,by lia,e2⟩
    | false =>
     dsimp only
     rw [if_pos (by decide)]
     exact FJ ⟨rfl,l,o,rfl,h1,h2,h4,.inr ⟨by lia,e2⟩⟩
 | false =>
  dsimp only
  rw [if_neg (by decide)]
  refine FA (HS (GN (I:=fun x c st'=>st'=st/\∃ l o,c=(none,l,o)/\l < o/\l<=hint/\x+1<=o/\cA left k (K arr (base+(hint - l)))=false)
   (Q:=fun c st'=>st'=st/\∃ l o,c=(none,l,o)/\l < o/\l<=hint/\cA left k (K arr (base+(hint - l)))=false/\(hint+1<=o\/(o<=hint/\cA left k (K arr (base+(hint - o)))=true))) ?step2 ?fin2 ⟨rfl,0,1,rfl,by lia,by lia,by lia,e⟩) ?post2)
  case post2 =>
   rintro c st' ⟨rfl,l,o,rfl,h1,h2,h3,h4⟩
   dsimp only
   refine fin (hint+1 - min o (hint+1)) (hint - l) (by lia) (by lia) (fun i hi=>?_) (fun i h5 h6=>up (hint - l) i h5 h6 h3) _ (fun m=>rfl)
   rcases h4 with h4 | ⟨h4,h7⟩
   ·lia
   ·exact dn i (hint - o) (by lia) (by lia) h7
  case fin2 =>
   rintro c st' ⟨rfl,l,o,rfl,h1,h2,h3,h4⟩
   exact ⟨rfl,l,o,rfl,h1,h2,h4,.inl (by lia)⟩
  case step2 =>
   rintro x c st' _ hx ⟨rfl,l,o,rfl,h1,h2,h3,h4⟩
   dsimp only
   by_cases hge:o ≥ hint+1
   ·rw [if_pos hge]
    exact FJ ⟨rfl,l,o,rfl,h1,h2,h4,.inl hge⟩
   ·rw [if_neg hge]
    refine FA (gb hk hI (by lia) ?_)
    cases e2:cA left k (K arr (base+(hint - o))) with
    | true =>
     dsimp only
     rw [if_pos rfl]
     exact FJ ⟨rfl,l,o,rfl,h1,h2,h4,.inr ⟨by lia,e2⟩⟩
    | false =>
     dsimp only
     rw [if_neg (by decide)]
     exact FJ ⟨rfl,o,2*o+1,rfl,by lia,by lia,by lia,e2⟩
end
noncomputable abbrev key (p:GZ):Int:=numOf p.1
theorem jg {xs:Array GZ} {i:Nat} {p:GZ} (h:xs[i]? = some p):K xs i=key p:=by unfold K; rw [h]
def b8 (xs:Array GZ):Prop:=∀ i j,i<=j->j < xs.size->K xs i<=K xs j
structure Mg (a b out:Array GZ) (ia ib:Nat):Prop where
 ha:ia<=a.size
 hb:ib<=b.size
 perm:(out.toList++(a.toList.drop ia++b.toList.drop ib)).Perm (a.toList++b.toList)
 srt:(out.toList.map key).Pairwise (·<=·)
 lea:∀ x∈out.toList,∀ i,ia<=i->i < a.size->key x<=K a i
 leb:∀ x∈out.toList,∀ j,ib<=j->j < b.size->key x<=K b j
def Fin (a b R:Array GZ):Prop:=R.toList.Perm (a.toList++b.toList)/\(R.toList.map key).Pairwise (·<=·)
variable {a b out:Array GZ} {ia ib:Nat}
theorem pX {xs:Array GZ} {i:Nat} {p:GZ} (h:xs[i]? = some p):xs.toList.drop i=p::xs.toList.drop (i+1):=by
 have hi:i < xs.size:=by
  rcases Nat.lt_or_ge i xs.size with z | z
  ·exact z
  ·rw [G5 z] at h; cases h
 have hi':i < xs.toList.length:=by simpa using hi
 rw [HR hi']
 congr 1
 rw [Fz hi] at h
 simpa using h
theorem Mg.pushA (m:Mg a b out ia ib) (sa:b8 a) (sb:b8 b) {p:GZ} (e:a[ia]? = some p) (hi:ia < a.size) (le:ib < b.size->K a ia<=K b ib):Mg a b (out.push p) (ia+1) ib:=by
 have kp:=jg e
 refine ⟨hi,m.hb,?_,?_,?_,?_⟩
 ·have h:=m.perm
  rw [pX e] at h
  rw [Gp,FX]
  exact h
 ·rw [Gp,Fu,Gx]
  refine ⟨m.srt,Ik _ _,fun x hx y hy=>?_⟩
  obtain ⟨z,hz,rfl⟩:=FH.mp hx
  have hy:y=key p:=by simpa using hy
  rw [hy,<- kp]
  exact m.lea z hz ia (Fy _) hi
 ·intro x hx i h1 h2
  rw [Gp,FF] at hx
  rcases hx with hx | hx
  ·exact m.lea x hx i (by lia) h2
  ·have:x=p:=by simpa using hx
   rw [this,<- kp]
   exact sa ia i (by lia) h2
 ·intro x hx j h1 h2
  rw [Gp,FF] at hx
  rcases hx with hx | hx
  ·exact m.leb x hx j h1 h2
  ·have:x=p:=by simpa using hx
   rw [this,<- kp]
   exact Hy (le (by lia)) (sb ib j h1 h2)
theorem uY (o:List GZ) (x:GZ) (r u:List GZ):(o++[x]++(r++u)).Perm (o++(r++x::u)):=by
 rw [FX]
 refine GW o ?_
 show (x::(r++u)).Perm (r++x::u)
 exact JI.symm
theorem Mg.pushB (m:Mg a b out ia ib) (sa:b8 a) (sb:b8 b) {p:GZ} (e:b[ib]? = some p) (hi:ib < b.size) (le:ia < a.size->K b ib<=K a ia):Mg a b (out.push p) ia (ib+1):=by
 have kp:=jg e
 refine ⟨m.ha,hi,?_,?_,?_,?_⟩
 ·have h:=m.perm
  rw [pX e] at h
  rw [Gp]
  exact (uY _ _ _ _).trans h
 ·rw [Gp,Fu,Gx]
  refine ⟨m.srt,Ik _ _,fun x hx y hy=>?_⟩
  obtain ⟨z,hz,rfl⟩:=FH.mp hx
  have hy:y=key p:=by simpa using hy
  rw [hy,<- kp]
  exact m.leb z hz ib (Fy _) hi
 ·intro x hx i h1 h2
  rw [Gp,FF] at hx
  rcases hx with hx | hx
  ·exact m.lea x hx i h1 h2
  ·have:x=p:=by simpa using hx
   rw [this,<- kp]
   exact Hy (le (by lia)) (sa ia i h1 h2)
 ·intro x hx j h1 h2
  rw [Gp,FF] at hx
  rcases hx with hx | hx
  ·exact m.leb x hx j (by lia) h2
  ·have:x=p:=by simpa using hx
   rw [this,<- kp]
   exact sb ib j (by lia) h2
theorem nM {xs:Array GZ} {i k:Nat} {p:GZ} (e:xs[i+k]? = some p):xs.extract i (i+k+1)=(xs.extract i (i+k)).push p:=by
 have hi:i+k < xs.size:=by
  rcases Nat.lt_or_ge (i+k) xs.size with z | z
  ·exact z
  ·rw [G5 z] at e; cases e
 rw [Fz hi] at e
 apply Mb
 rw [Gp,HJ,HJ]
 simp only [JD]
 rw [show i+k+1 - i=k+1 by lia,show i+k - i=k by lia]
 have hl:k < (xs.toList.drop i).length:=by simp; lia
 rw [IL hl]
 congr 2
 simp
 simpa using e
theorem Mg.takeA (m:Mg a b out ia ib) (sa:b8 a) (sb:b8 b):∀ k,ia+k<=a.size->(∀ i,i < k->ib < b.size->K a (ia+i)<=K b ib)->Mg a b (out++a.extract ia (ia+k)) (ia+k) ib
 | 0,_,_=>by
  have e:a.extract ia (ia+0) = #[]:=by simp; lia
  rw [e,JS]
  exact m
 | k+1,h1,h2=>by
  have ih:=Mg.takeA m sa sb k (by lia) (fun i hi=>h2 i (by lia))
  have e:a[ia+k]? = some a[ia+k]:=Fz (by lia)
  have e2:=nM e
  rw [show ia+(k+1)=ia+k+1 by lia,e2,J2]
  exact ih.pushA sa sb e (by lia) (h2 k (by lia))
theorem Mg.takeB (m:Mg a b out ia ib) (sa:b8 a) (sb:b8 b):∀ k,ib+k<=b.size->(∀ i,i < k->ia < a.size->K b (ib+i)<=K a ia)->Mg a b (out++b.extract ib (ib+k)) ia (ib+k)
 | 0,_,_=>by
  have e:b.extract ib (ib+0) = #[]:=by simp; lia
  rw [e,JS]
  exact m
 | k+1,h1,h2=>by
  have ih:=Mg.takeB m sa sb k (by lia) (fun i hi=>h2 i (by lia))
  have e:b[ib+k]? = some b[ib+k]:=Fz (by lia)
  have e2:=nM e
  rw [show ib+(k+1)=ib+k+1 by lia,e2,J2]
  exact ih.pushB sa sb e (by lia) (h2 k (by lia))
theorem Mg.fin (m:Mg a b out a.size b.size):Fin a b out:=by
 refine ⟨?_,m.srt⟩
 have h:=m.perm
 rw [GR (by simp),GR (by simp),Gj,Gj] at h
 exact h
theorem Mg.doneB (m:Mg a b out ia ib) (sa:b8 a) (sb:b8 b) (h:ib=b.size):Fin a b (out++a.extract ia a.size++b.extract ib b.size):=by
 subst h
 have h1:=m.takeA sa sb (a.size - ia) (by have:=m.ha; lia) (fun i _ z=>by lia)
 rw [show ia+(a.size - ia)=a.size by have:=m.ha; lia] at h1
 have e:b.extract b.size b.size = #[]:=by simp
 rw [e,JS]
 exact h1.fin
theorem Mg.doneA (m:Mg a b out ia ib) (sa:b8 a) (sb:b8 b) (h:ia=a.size):Fin a b (out++a.extract ia a.size++b.extract ib b.size):=by
 subst h
 have e:a.extract a.size a.size = #[]:=by simp
 rw [e,JS]
 have h1:=m.takeB sa sb (b.size - ib) (by have:=m.hb; lia) (fun i _ z=>by lia)
 rw [show ib+(b.size - ib)=b.size by have:=m.hb; lia] at h1
 exact h1.fin
theorem Mg.last (m:Mg a b out ia ib) (sa:b8 a) (sb:b8 b) (h:ia+1=a.size) (top:∀ j,j < b.size->K b j<=K a ia):Fin a b (out++b.extract ib b.size++a.extract ia a.size):=by
 have h1:=m.takeB sa sb (b.size - ib) (by have:=m.hb; lia) (fun i _ z=>top _ (by lia))
 rw [show ib+(b.size - ib)=b.size by have:=m.hb; lia] at h1
 have h2:=h1.takeA sa sb (a.size - ia) (by lia) (fun i _ z=>by lia)
 rw [show ia+(a.size - ia)=a.size by lia] at h2
 exact h2.fin
section
variable {prog:Gi} {w:GF} {A:GG} {E:Fk->Fq->Prop} {s:Fq}
noncomputable def setG (st:G6) (g:Nat):G6:=SortSt.mk' (kindOf st) (arrOf st) (pendingOf st) g (failedOf st)
noncomputable def iQ:Nat->StateT SortSt Sem Unit:=sortPriv% PySem.Builtin.setMinGallop
theorem kg (g:Nat):iQ g=modify fun s=>setG s g:=rfl
noncomputable def pB:Array Keyed->Array Keyed->StateT SortSt Sem (Array Keyed):=sortPriv% PySem.Builtin.mergeLo
theorem ip {st:G6} {g:Nat} {Q:Unit->G6->Prop} (h:Q () (setG st g)):wpS (model prog w) A E s (iQ g) Q st:=by
 rw [kg]
 exact Ju h
theorem ub {α:Type} {c:Prop} {ic:Decidable c} {P:Nat->StateT G6 Sem α} {x y:Nat} {Q:α->G6->Prop} {st:G6} (h:∀ g,wpS (model prog w) A E s (P g) Q st):∀ g,x=g->wpS (model prog w) A E s (if c then P g else P y) Q st:=by
 intro g _
 split<;>exact h _
theorem u5 {α:Type} {c:Prop} {ic:Decidable c} {d:Array GZ->Nat->Prop} {id:∀ o i,Decidable (d o i)} {P r1:Array GZ->Nat->StateT G6 Sem α} {x i2:Nat} {f:Nat->Array GZ} {o2:Array GZ} {Q:α->G6->Prop} {st:G6} (C:Array GZ->Nat->Prop)
  (h1:∀ i,x=i->∀ o,f i=o->c->d o i->wpS (model prog w) A E s (r1 o i) Q st) (h3:∀ i,x=i->∀ o,f i=o->c->¬d o i->C o i) (h4:¬c->C o2 i2) (hP:∀ o i,C o i->wpS (model prog w) A E s (P o i) Q st) :
  ∀ i,x=i->∀ o,f i=o->wpS (model prog w) A E s (if c then (if d o i then r1 o i else P o i) else P o2 i2) Q st:=by
 intro i ei o eo
 by_cases hc:c
 ·rw [if_pos hc]
  by_cases hd:d o i
  ·rw [if_pos hd]; exact h1 i ei o eo hc hd
  ·rw [if_neg hd]; exact hP _ _ (h3 i ei o eo hc hd)
 ·rw [if_neg hc]; exact hP _ _ (h4 hc)
theorem tV {α:Type} {c:Prop} {ic:Decidable c} {d e:Array GZ->Nat->Prop} {id:∀ o i,Decidable (d o i)} {ie:∀ o i,Decidable (e o i)} {P r1 r2:Array GZ->Nat->StateT G6 Sem α} {x i2:Nat} {f:Nat->Array GZ} {o2:Array GZ} {Q:α->G6->Prop} {st:G6} (C:Array GZ->Nat->Prop)
  (h1:∀ i,x=i->∀ o,f i=o->c->d o i->wpS (model prog w) A E s (r1 o i) Q st) (h2:∀ i,x=i->∀ o,f i=o->c->¬d o i->e o i->wpS (model prog w) A E s (r2 o i) Q st) (h3:∀ i,x=i->∀ o,f i=o->c->¬d o i->¬e o i->C o i) (h4:¬c->C o2 i2) (hP:∀ o i,C o i->wpS (model prog w) A E s (P o i) Q st) :
  ∀ i,x=i->∀ o,f i=o->wpS (model prog w) A E s (if c then (if d o i then r1 o i else if e o i then r2 o i else P o i) else P o2 i2) Q st:=by
 intro i ei o eo
 by_cases hc:c
 ·rw [if_pos hc]
  by_cases hd:d o i
  ·rw [if_pos hd]; exact h1 i ei o eo hc hd
  ·rw [if_neg hd]
   by_cases he:e o i
   ·rw [if_pos he]; exact h2 i ei o eo hc hd he
   ·rw [if_neg he]; exact hP _ _ (h3 i ei o eo hc hd he)
 ·rw [if_neg hc]; exact hP _ _ (h4 hc)
theorem pW {st:G6} {a b:Array GZ} {Q:Array GZ->G6->Prop} (hk:kindOf st=oneType') (hA:IntKeys a) (hB:IntKeys b) (sa:b8 a) (sb:b8 b) (na:1<=a.size) (nb:1<=b.size) (first:K b 0<=K a 0) (top:∀ j,j < b.size->K b j<=K a (a.size - 1))
  (h:∀ R g,Fin a b R->Q R (setG st g)):wpS (model prog w) A E s (pB a b) Q st:=by
 have top':∀ i,i+1=a.size->∀ j,j < b.size->K b j<=K a i:=fun i hi j hj=>by
  have:=top j hj
  rw [show a.size - 1=i by lia] at this
  exact this
 have m0:Mg a b #[] 0 0:=⟨FI _,FI _,JA _,.nil,(fun x hx=>by simp at hx),(fun x hx=>by simp at hx)⟩
 obtain ⟨t0,q0,e0⟩:=IntKeys.at hB (show 0 < b.size by lia)
 have m1:=m0.pushB sa sb e0 (by lia) (fun _=>first)
 unfold pB
 change wpS _ _ _ _ (bind _ _) _ _
 dsimp only
 refine FA (KL (Jl ⟨rfl,?_⟩))
 refine FA (bh e0 ?_)
 by_cases hb1:1=b.size
 ·rw [if_pos (by simpa using hb1)]
  exact FJ (h _ (gallopOf st) (m1.doneB sa sb hb1))
 rw [if_neg (by simpa using hb1)]
 by_cases ha1:0+1=a.size
 ·rw [if_pos (by simpa using ha1)]
  exact FJ (h _ (gallopOf st) (m1.last sa sb ha1 (top' _ ha1)))
 rw [if_neg (by simpa using ha1)]
 refine FA (JR ?_)
 refine FA (HS (GN (I:=fun x c st'=>∃ g out ia ib mg,st'=setG st g/\c=(none,out,ia,ib,mg)/\Mg a b out ia ib/\ia+1 < a.size/\ib < b.size/\x+1<=ia+ib)
  (Q:=fun c st'=>∃ R g r,c=(some R,r)/\st'=setG st g/\Fin a b R) ?step ?fin ⟨gallopOf st,_,0,1,_,rfl,rfl,m1,by lia,by lia,by lia⟩) ?post)
 case post =>
  rintro c st' ⟨R,g,r,rfl,rfl,f⟩
  exact FJ (h R g f)
 case fin =>
  rintro c st' ⟨g,out,ia,ib,mg,rfl,rfl,m,h1,h2,h3⟩
  lia
 case step =>
  rintro x c st' _ hx ⟨g,out,ia,ib,mg,rfl,rfl,m,h1,h2,h3⟩
  dsimp only
  refine FA (HS (GN (I:=fun y c st'=>st'=setG st g/\∃ out ia ib ac bc,c=(none,out,ia,ib,ac,bc)/\Mg a b out ia ib/\ia+1 < a.size/\ib < b.size/\x+1+y<=ia+ib)
   (Q:=fun c st'=>st'=setG st g/\((∃ R r,c=(some R,r)/\Fin a b R)\/∃ out ia ib ac bc,c=(none,out,ia,ib,ac,bc)/\Mg a b out ia ib/\ia+1 < a.size/\ib < b.size/\x+2<=ia+ib)) ?st1 ?fin1 ⟨rfl,out,ia,ib,0,0,rfl,m,h1,h2,by lia⟩) ?post1)
  case fin1 =>
   rintro c st' ⟨rfl,out,ia,ib,ac,bc,rfl,m,h1,h2,h3⟩
   exact ⟨rfl,.inr ⟨out,ia,ib,ac,bc,rfl,m,h1,h2,by lia⟩⟩
  case st1 =>
   rintro y c st' _ hy ⟨rfl,out,ia,ib,ac,bc,rfl,m,h1,h2,h3⟩
   dsimp only
   obtain ⟨tb,qb,eb⟩:=IntKeys.at hB h2
   obtain ⟨ta,qa,ea⟩:=IntKeys.at hA (show ia < a.size by lia)
   refine FA (bh eb ?_)
   refine FA (bh ea ?_)
   refine FA (kJ (st:=setG st g) hk ?_)
   by_cases hw:K b ib < K a ia
   ·simp only [hw,decide_true,if_true]
    have m2:=m.pushB sa sb eb h2 (fun _=>Hd hw)
    refine FA (bh eb ?_)
    by_cases h4:ib+1=b.size
    ·rw [if_pos (by simpa using h4)]
     exact FJ ⟨rfl,.inl ⟨_,_,rfl,m2.doneB sa sb h4⟩⟩
    ·rw [if_neg (by simpa using h4)]
     split
     ·exact FJ ⟨rfl,.inr ⟨_,_,_,_,_,rfl,m2,by lia,by lia,by lia⟩⟩
     ·exact FJ ⟨rfl,_,_,_,_,_,rfl,m2,by lia,by lia,by lia⟩
   ·simp only [hw,decide_false,Fx,if_false]
    have m2:=m.pushA sa sb ea (by lia) (fun _=>IW.mp hw)
    refine FA (bh ea ?_)
    by_cases h4:ia+1+1=a.size
    ·rw [if_pos (by simpa using h4)]
     exact FJ ⟨rfl,.inl ⟨_,_,rfl,m2.last sa sb h4 (top' _ h4)⟩⟩
    ·rw [if_neg (by simpa using h4)]
     split
     ·exact FJ ⟨rfl,.inr ⟨_,_,_,_,_,rfl,m2,by lia,by lia,by lia⟩⟩
     ·exact FJ ⟨rfl,_,_,_,_,_,rfl,m2,by lia,by lia,by lia⟩
  case post1 =>
   rintro c st' ⟨rfl,⟨R,r,rfl,f⟩ | ⟨out,ia,ib,ac,bc,rfl,m,h1,h2,h3⟩⟩
   ·exact FJ ⟨R,g,_,rfl,rfl,f⟩
   dsimp only
   refine FA (KL (Jl ⟨rfl,?_⟩))
   refine FA (HS (GN (I:=fun y c st'=>∃ g out ia ib mg ac bc,st'=setG st g/\c=(none,out,ia,ib,mg,ac,bc)/\Mg a b out ia ib/\ia+1 < a.size/\ib < b.size/\x+2<=ia+ib)
    (Q:=fun c st'=>(∃ R g r,c=(some R,r)/\st'=setG st g/\Fin a b R)\/∃ g out ia ib mg ac bc,st'=setG st g/\c=(none,out,ia,ib,mg,ac,bc)/\Mg a b out ia ib/\ia+1 < a.size/\ib < b.size/\x+2<=ia+ib) ?st2 ?fin2 ⟨g,out,ia,ib,_,ac,bc,rfl,rfl,m,h1,h2,h3⟩) ?post2)
   case fin2 =>
    rintro c st' ⟨g,out,ia,ib,mg,ac,bc,rfl,rfl,m,h1,h2,h3⟩
    exact .inr ⟨g,out,ia,ib,mg,ac,bc,rfl,rfl,m,h1,h2,h3⟩
   case post2 =>
    rintro c st' (⟨R,g,r,rfl,rfl,f⟩ | ⟨g,out,ia,ib,mg,ac,bc,rfl,rfl,m,h1,h2,h3⟩)
    ·exact FJ ⟨R,g,_,rfl,rfl,f⟩
    ·dsimp only
     refine FA (ip ?_)
     exact FJ ⟨mg+1,out,ia,ib,mg+1,rfl,rfl,m,h1,h2,by lia⟩
   case st2 =>
    rintro y c st' _ hy ⟨g,out,ia,ib,mg,ac,bc,rfl,rfl,m,h1,hib,h3⟩
    dsimp only
    obtain ⟨tb,qb,eb⟩:=IntKeys.at hB hib
    generalize eg:mg - 1=g1
    revert g1
    refine ub fun gg=>?_
    refine FA (ip ?_)
    show wpS _ _ _ _ _ _ (setG st gg)
    refine FA (bh eb ?_)
    refine FA (eh (st:=setG st gg) hk hA (by lia) (by lia) (fun i j h6 h7=>sa _ _ (by lia) (by lia)) fun k kn low high=>?_)
    dsimp only
    have m1:Mg a b (out++a.extract ia (ia+k)) (ia+k) ib:=m.takeA sa sb k (by lia) (fun i hi _=>by have:=low i hi; unfold cA at this; simp at this; lia)
    have leb:ia+k < a.size->K b ib<=K a (ia+k):=fun z=>by have:=high k (Fy _) (by lia); unfold cA at this; simp at this; lia
    generalize ei:ia+k=i1
    generalize eo:out++a.extract ia i1=o1
    revert o1
    revert i1
    refine tV (fun o i=>Mg a b o i ib/\i+1 < a.size/\ia<=i/\K b ib<=K a i) ?_ ?_ ?_ ?_ ?_
    ·rintro _ rfl _ rfl _ d
     exact FJ (.inl ⟨_,_,_,rfl,rfl,m1.last sa sb (by simpa using d) (top' _ (by simpa using d))⟩)
    ·rintro _ rfl _ rfl _ _ e
     exact FJ (.inl ⟨_,_,_,rfl,rfl,m1.doneA sa sb (by simpa using e)⟩)
    ·rintro _ rfl _ rfl _ d e
     simp at d e
     have:=m1.ha
     exact ⟨m1,by lia,by lia,leb (by lia)⟩
    ·intro c
     have k0:k=0:=by lia
     subst k0
     exact ⟨m,h1,Fy _,leb (by lia)⟩
    clear m1 leb m h1 low high
    rintro o i ⟨m,h1,h0,leb⟩
    have m2:=m.pushB sa sb eb hib (fun _=>leb)
    obtain ⟨ta,qa,ea2⟩:=IntKeys.at hA (show i < a.size by lia)
    refine FA (bh eb ?_)
    by_cases h4:ib+1=b.size
    ·rw [if_pos (by simpa using h4)]
     exact FJ (.inl ⟨_,_,_,rfl,rfl,m2.doneB sa sb h4⟩)
    rw [if_neg (by simpa using h4)]
    refine FA (bh ea2 ?_)
    refine FA (eh (st:=setG st gg) hk hB (by lia) (by lia) (fun i j h6 h7=>sb _ _ (by lia) (by lia)) fun k2 k2n low2 high2=>?_)
    dsimp only
    generalize o.push _=op at m2 |-
    have m2':Mg a b (op++b.extract (ib+1) (ib+1+k2)) i (ib+1+k2):=m2.takeB sa sb k2 (by lia) (fun i hi _=>Hd (of_decide_eq_true (low2 i hi)))
    have le3:ib+1+k2 < b.size->K a i<=K b (ib+1+k2):=fun z=>IW.mp (of_decide_eq_false (high2 k2 (Fy _) (by lia)))
    generalize ei2:ib+1+k2=i2
    generalize eo2:op++b.extract (ib+1) i2=o2
    revert o2
    revert i2
    refine u5 (fun o j=>Mg a b o i j/\j < b.size/\ib+1<=j/\K a i<=K b j) ?_ ?_ ?_ ?_
    ·rintro _ rfl _ rfl _ d
     exact FJ (.inl ⟨_,_,_,rfl,rfl,m2'.doneB sa sb (by simpa using d)⟩)
    ·rintro _ rfl _ rfl _ d
     simp at d
     have:=m2'.hb
     exact ⟨m2',by lia,by lia,le3 (by lia)⟩
    ·intro c
     have k0:k2=0:=by lia
     subst k0
     have:=m2.hb
     exact ⟨m2,by lia,Fy _,le3 (by lia)⟩
    clear m2' le3 m2 low2 high2
    rintro o' j ⟨m3,hj,hj0,le3⟩
    have m4:=m3.pushA sa sb ea2 (by lia) (fun _=>le3)
    refine FA (bh ea2 ?_)
    by_cases h5:i+1+1=a.size
    ·rw [if_pos (by simpa using h5)]
     exact FJ (.inl ⟨_,_,_,rfl,rfl,m4.last sa sb h5 (top' _ h5)⟩)
    ·rw [if_neg (by simpa using h5)]
     split
     ·exact FJ (.inr ⟨_,_,_,_,_,_,_,rfl,rfl,m4,by lia,by lia,by lia⟩)
     ·exact FJ ⟨_,_,_,_,_,_,_,rfl,rfl,m4,by lia,by lia,by lia⟩
end
structure Mh (a b out:Array GZ) (na nb:Nat):Prop where
 ha:na<=a.size
 hb:nb<=b.size
 perm:(a.toList.take na++(b.toList.take nb++out.toList.reverse)).Perm (a.toList++b.toList)
 srt:(out.toList.map key).Pairwise (fun x y=>y<=x)
 lea:∀ x∈out.toList,∀ i,i < na->K a i<=key x
 leb:∀ x∈out.toList,∀ j,j < nb->K b j<=key x
theorem qy {xs:Array GZ} {n:Nat} {p:GZ} (h:xs[n]? = some p):xs.toList.take (n+1)=xs.toList.take n++[p]:=by
 have hi:n < xs.size:=by
  rcases Nat.lt_or_ge n xs.size with z | z
  ·exact z
  ·rw [G5 z] at h; cases h
 have hi':n < xs.toList.length:=by simpa using hi
 rw [IL hi']
 congr 2
 rw [Fz hi] at h
 simpa using h
variable {na nb:Nat}
theorem Mh.pushA (m:Mh a b out (na+1) nb) (sa:b8 a) (sb:b8 b) {p:GZ} (e:a[na]? = some p) (le:0 < nb->K b (nb - 1)<=K a na):Mh a b (out.push p) na nb:=by
 have kp:=jg e
 have ha:=m.ha
 refine ⟨by lia,m.hb,?_,?_,?_,?_⟩
 ·have h:=m.perm
  rw [qy e] at h
  rw [Gp,List.reverse_append]
  refine LF ?_ h
  rw [FX]
  refine GW _ ?_
  show (b.toList.take nb++p::out.toList.reverse).Perm (p::(b.toList.take nb++out.toList.reverse))
  exact JI
 ·rw [Gp,Fu,Gx]
  refine ⟨m.srt,Ik _ _,fun x hx y hy=>?_⟩
  obtain ⟨z,hz,rfl⟩:=FH.mp hx
  have hy:y=key p:=by simpa using hy
  rw [hy,<- kp]
  exact m.lea z hz na (by lia)
 ·intro x hx i h1
  rw [Gp,FF] at hx
  rcases hx with hx | hx
  ·exact m.lea x hx i (by lia)
  ·have:x=p:=by simpa using hx
   rw [this,<- kp]
   exact sa i na (by lia) (by lia)
 ·intro x hx j h1
  rw [Gp,FF] at hx
  rcases hx with hx | hx
  ·exact m.leb x hx j h1
  ·have:x=p:=by simpa using hx
   rw [this,<- kp]
   exact Hy (sb j (nb - 1) (by lia) (by have:=m.hb; lia)) (le (by lia))
theorem Mh.pushB (m:Mh a b out na (nb+1)) (sa:b8 a) (sb:b8 b) {p:GZ} (e:b[nb]? = some p) (le:0 < na->K a (na - 1)<=K b nb):Mh a b (out.push p) na nb:=by
 have kp:=jg e
 have hb:=m.hb
 refine ⟨m.ha,by lia,?_,?_,?_,?_⟩
 ·have h:=m.perm
  rw [qy e] at h
  rw [Gp,List.reverse_append]
  refine LF ?_ h
  rw [FX]
  exact JA _
 ·rw [Gp,Fu,Gx]
  refine ⟨m.srt,Ik _ _,fun x hx y hy=>?_⟩
  obtain ⟨z,hz,rfl⟩:=FH.mp hx
  have hy:y=key p:=by simpa using hy
  rw [hy,<- kp]
  exact m.leb z hz nb (by lia)
 ·intro x hx i h1
  rw [Gp,FF] at hx
  rcases hx with hx | hx
  ·exact m.lea x hx i h1
  ·have:x=p:=by simpa using hx
   rw [this,<- kp]
   exact Hy (sa i (na - 1) (by lia) (by have:=m.ha; lia)) (le (by lia))
 ·intro x hx j h1
  rw [Gp,FF] at hx
  rcases hx with hx | hx
  ·exact m.leb x hx j (by lia)
  ·have:x=p:=by simpa using hx
   rw [this,<- kp]
   exact sb j nb (by lia) (by lia)
theorem og {xs:Array GZ} {i n:Nat} {p:GZ} (hi:i<=n) (e:xs[i]? = some p) (hn:n<=xs.size) (hlt:i < n):(xs.extract i n).reverse=(xs.extract (i+1) n).reverse.push p:=by
 have hz:i < xs.size:=by lia
 rw [Fz hz] at e
 apply Mb
 rw [Gp,Jx,Jx,HJ,HJ]
 simp only [JD]
 have hl:i < xs.toList.length:=by simpa using hz
 rw [HR hl,show n - i=(n - (i+1))+1 by lia,List.take_succ_cons,List.reverse_cons]
 congr 2
 simpa using e
theorem Mh.takeA (sa:b8 a) (sb:b8 b):∀ (k:Nat) {na:Nat} {out:Array GZ},Mh a b out na nb->∀ lo,lo+k=na->(∀ i,lo<=i->i < na->0 < nb->K b (nb - 1)<=K a i)->Mh a b (out++(a.extract lo na).reverse) lo nb
 | 0,na,out,m,lo,h,_=>by
  have:lo=na:=by lia
  subst this
  have e:a.extract lo lo = #[]:=by simp; lia
  rw [e]
  simpa using m
 | k+1,na,out,m,lo,h,h2=>by
  have ih:=Mh.takeA sa sb k m (lo+1) (by lia) (fun i hi=>h2 i (by lia))
  have ha:=m.ha
  have e:a[lo]? = some a[lo]:=Fz (by lia)
  rw [og (by lia) e ha (by lia),J2]
  exact ih.pushA sa sb e (h2 lo (Fy _) (by lia))
theorem Mh.takeB (sa:b8 a) (sb:b8 b):∀ (k:Nat) {nb:Nat} {out:Array GZ},Mh a b out na nb->∀ lo,lo+k=nb->(∀ i,lo<=i->i < nb->0 < na->K a (na - 1)<=K b i)->Mh a b (out++(b.extract lo nb).reverse) na lo
 | 0,nb,out,m,lo,h,_=>by
  have:lo=nb:=by lia
  subst this
  have e:b.extract lo lo = #[]:=by simp; lia
  rw [e]
  simpa using m
 | k+1,nb,out,m,lo,h,h2=>by
  have ih:=Mh.takeB sa sb k m (lo+1) (by lia) (fun i hi=>h2 i (by lia))
  have hb:=m.hb
  have e:b[lo]? = some b[lo]:=Fz (by lia)
  rw [og (by lia) e hb (by lia),J2]
  exact ih.pushB sa sb e (h2 lo (Fy _) (by lia))
theorem Mh.fin (m:Mh a b out 0 0):Fin a b out.reverse:=by
 have h:=m.perm
 refine ⟨?_,?_⟩
 ·rw [Jx]; exact h
 ·rw [Jx,List.map_reverse,List.pairwise_reverse]
  exact m.srt
theorem Mh.doneA (m:Mh a b out na nb) (sa:b8 a) (sb:b8 b) (h:na=0):Fin a b (a.extract 0 na++b.extract 0 nb++out.reverse):=by
 subst h
 have h1:=Mh.takeB sa sb nb m 0 (by lia) (fun i _ _ z=>by lia)
 have h2:=h1.fin
 have e:a.extract 0 0 = #[]:=by simp
 rw [e]
 simpa using h2
theorem Mh.doneB (m:Mh a b out na nb) (sa:b8 a) (sb:b8 b) (h:nb=0):Fin a b (a.extract 0 na++b.extract 0 nb++out.reverse):=by
 subst h
 have h1:=Mh.takeA sa sb na m 0 (by lia) (fun i _ _ z=>by lia)
 have h2:=h1.fin
 have e:b.extract 0 0 = #[]:=by simp
 rw [e]
 simpa using h2
theorem Mh.firstB (m:Mh a b out na nb) (sa:b8 a) (sb:b8 b) (h:nb=1) (first:∀ i,i < a.size->K b 0<=K a i):Fin a b (b.extract 0 nb++a.extract 0 na++out.reverse):=by
 subst h
 have h1:=Mh.takeA sa sb na m 0 (by lia) (fun i _ z _=>first i (by have:=m.ha; lia))
 have h2:=Mh.takeB sa sb 1 h1 0 rfl (fun i _ _ z=>by lia)
 have h3:=h2.fin
 simpa using h3
section
variable {prog:Gi} {w:GF} {A:GG} {E:Fk->Fq->Prop} {s:Fq}
noncomputable def oR:Array Keyed->Array Keyed->StateT SortSt Sem (Array Keyed):=sortPriv% PySem.Builtin.mergeHi
theorem pL {st:G6} {a b:Array GZ} {Q:Array GZ->G6->Prop} (hk:kindOf st=oneType') (hA:IntKeys a) (hB:IntKeys b) (sa:b8 a) (sb:b8 b) (na0:1<=a.size) (nb0:1<=b.size) (first:K b 0<=K a 0) (top:∀ j,j < b.size->K b j<=K a (a.size - 1))
  (h:∀ R g,Fin a b R->Q R (setG st g)):wpS (model prog w) A E s (oR a b) Q st:=by
 have first':∀ i,i < a.size->K b 0<=K a i:=fun i hi=>Hy first (sa 0 i (FI _) hi)
 have m0:Mh a b #[] (a.size - 1+1) b.size:=⟨by lia,Fy _,by rw [FB (by simp; lia),FB (by simp)]; simp,.nil,(fun x hx=>by simp at hx),(fun x hx=>by simp at hx)⟩
 obtain ⟨t0,q0,e0⟩:=IntKeys.at hA (show a.size - 1 < a.size by lia)
 have m1:=m0.pushA sa sb e0 (fun _=>top _ (by lia))
 unfold oR
 change wpS _ _ _ _ (bind _ _) _ _
 dsimp only
 refine FA (KL (Jl ⟨rfl,?_⟩))
 refine FA (bh e0 ?_)
 by_cases ha1:a.size - 1=0
 ·rw [if_pos (by simpa using ha1)]
  exact FJ (h _ (gallopOf st) (m1.doneA sa sb ha1))
 rw [if_neg (by simpa using ha1)]
 by_cases hb1:b.size=1
 ·rw [if_pos (by simpa using hb1)]
  exact FJ (h _ (gallopOf st) (m1.firstB sa sb hb1 first'))
 rw [if_neg (by simpa using hb1)]
 refine FA (JR ?_)
 refine FA (HS (GN (I:=fun x c st'=>∃ g na nb out mg,st'=setG st g/\c=(none,na,nb,out,mg)/\Mh a b out na nb/\1<=na/\2<=nb/\x+1+na+nb<=a.size+b.size)
  (Q:=fun c st'=>∃ R g r,c=(some R,r)/\st'=setG st g/\Fin a b R) ?step ?fin ⟨gallopOf st,a.size - 1,b.size,_,_,rfl,rfl,m1,by lia,by lia,by lia⟩) ?post)
 case post =>
  rintro c st' ⟨R,g,r,rfl,rfl,f⟩
  exact FJ (h R g f)
 case fin =>
  rintro c st' ⟨g,na,nb,out,mg,rfl,rfl,m,h1,h2,h3⟩
  lia
 case step =>
  rintro x c st' _ hx ⟨g,na,nb,out,mg,rfl,rfl,m,h1,h2,h3⟩
  dsimp only
  refine FA (HS (GN (I:=fun y c st'=>st'=setG st g/\∃ na nb out ac bc,c=(none,na,nb,out,ac,bc)/\Mh a b out na nb/\1<=na/\2<=nb/\x+1+y+na+nb<=a.size+b.size)
   (Q:=fun c st'=>st'=setG st g/\((∃ R r,c=(some R,r)/\Fin a b R)\/∃ na nb out ac bc,c=(none,na,nb,out,ac,bc)/\Mh a b out na nb/\1<=na/\2<=nb/\x+2+na+nb<=a.size+b.size)) ?st1 ?fin1 ⟨rfl,na,nb,out,0,0,rfl,m,h1,h2,by lia⟩) ?post1)
  case fin1 =>
   rintro c st' ⟨rfl,na,nb,out,ac,bc,rfl,m,h1,h2,h3⟩
   exact ⟨rfl,.inr ⟨na,nb,out,ac,bc,rfl,m,h1,h2,by lia⟩⟩
  case st1 =>
   rintro y c st' _ hy ⟨rfl,na,nb,out,ac,bc,rfl,m,h1,h2,h3⟩
   dsimp only
   have haz:=m.ha
   have hbz:=m.hb
   obtain ⟨tb,qb,eb⟩:=IntKeys.at hB (show nb - 1 < b.size by lia)
   obtain ⟨ta,qa,ea⟩:=IntKeys.at hA (show na - 1 < a.size by lia)
   refine FA (bh eb ?_)
   refine FA (bh ea ?_)
   refine FA (kJ (st:=setG st g) hk ?_)
   by_cases hw:K b (nb - 1) < K a (na - 1)
   ·simp only [hw,decide_true,if_true]
    have m2:Mh a b _ (na - 1) nb:=Mh.pushA (na:=na - 1) (by rw [show na - 1+1=na by lia]; exact m) sa sb ea (fun _=>Hd hw)
    refine FA (bh ea ?_)
    by_cases h4:na - 1=0
    ·rw [if_pos (by simpa using h4)]
     exact FJ ⟨rfl,.inl ⟨_,_,rfl,m2.doneA sa sb h4⟩⟩
    ·rw [if_neg (by simpa using h4)]
     split
     ·exact FJ ⟨rfl,.inr ⟨_,_,_,_,_,rfl,m2,by lia,by lia,by lia⟩⟩
     ·exact FJ ⟨rfl,_,_,_,_,_,rfl,m2,by lia,by lia,by lia⟩
   ·simp only [hw,decide_false,Fx,if_false]
    have m2:Mh a b _ na (nb - 1):=Mh.pushB (nb:=nb - 1) (by rw [show nb - 1+1=nb by lia]; exact m) sa sb eb (fun _=>IW.mp hw)
    refine FA (bh eb ?_)
    by_cases h4:nb - 1=1
    ·rw [if_pos (by simpa using h4)]
     exact FJ ⟨rfl,.inl ⟨_,_,rfl,m2.firstB sa sb h4 first'⟩⟩
    ·rw [if_neg (by simpa using h4)]
     split
     ·exact FJ ⟨rfl,.inr ⟨_,_,_,_,_,rfl,m2,by lia,by lia,by lia⟩⟩
     ·exact FJ ⟨rfl,_,_,_,_,_,rfl,m2,by lia,by lia,by lia⟩
  case post1 =>
   rintro c st' ⟨rfl,⟨R,r,rfl,f⟩ | ⟨na,nb,out,ac,bc,rfl,m,h1,h2,h3⟩⟩
   ·exact FJ ⟨R,g,_,rfl,rfl,f⟩
   dsimp only
   refine FA (KL (Jl ⟨rfl,?_⟩))
   refine FA (HS (GN (I:=fun y c st'=>∃ g na nb out mg ac bc,st'=setG st g/\c=(none,na,nb,out,mg,ac,bc)/\Mh a b out na nb/\1<=na/\2<=nb/\x+2+na+nb<=a.size+b.size)
    (Q:=fun c st'=>(∃ R g r,c=(some R,r)/\st'=setG st g/\Fin a b R)\/∃ g na nb out mg ac bc,st'=setG st g/\c=(none,na,nb,out,mg,ac,bc)/\Mh a b out na nb/\1<=na/\2<=nb/\x+2+na+nb<=a.size+b.size) ?st2 ?fin2 ⟨g,na,nb,out,_,ac,bc,rfl,rfl,m,h1,h2,h3⟩) ?post2)
   case fin2 =>
    rintro c st' ⟨g,na,nb,out,mg,ac,bc,rfl,rfl,m,h1,h2,h3⟩
    exact .inr ⟨g,na,nb,out,mg,ac,bc,rfl,rfl,m,h1,h2,h3⟩
   case post2 =>
    rintro c st' (⟨R,g,r,rfl,rfl,f⟩ | ⟨g,na,nb,out,mg,ac,bc,rfl,rfl,m,h1,h2,h3⟩)
    ·exact FJ ⟨R,g,_,rfl,rfl,f⟩
    ·dsimp only
     refine FA (ip ?_)
     exact FJ ⟨mg+1,na,nb,out,mg+1,rfl,rfl,m,h1,h2,by lia⟩
   case st2 =>
    rintro y c st' _ hy ⟨g,na,nb,out,mg,ac,bc,rfl,rfl,m,h1,hib,h3⟩
    dsimp only
    have hbz:nb<=b.size:=m.hb
    have haz:na<=a.size:=m.ha
    obtain ⟨tb,qb,eb⟩:=IntKeys.at hB (show nb - 1 < b.size by lia)
    generalize eg:mg - 1=g1
    revert g1
    refine ub fun gg=>?_
    refine FA (ip ?_)
    show wpS _ _ _ _ _ _ (setG st gg)
    refine FA (bh eb ?_)
    refine FA (eh (st:=setG st gg) hk hA (by lia) (by lia) (fun i j h6 h7=>sa _ _ (by lia) (by lia)) fun k kn low high=>?_)
    simp only [Hw] at low high
    dsimp only
    have m1:Mh a b (out++(a.extract k na).reverse) k nb:=Mh.takeA sa sb (na - k) m k (by lia) (fun i hi hj _=>by have:=high i hi hj; unfold cA at this; simp at this; lia)
    have leb:∀ z,z<=k->0 < z->K a (z - 1)<=K b (nb - 1):=fun z hz z0=>by have:=low (z - 1) (by lia); unfold cA at this; simp at this; lia
    generalize eak:na - k=ak
    have kk:ak=na - k:=eak.symm
    clear eak
    generalize ei:k=i1
    generalize eo:out++(a.extract i1 na).reverse=o1
    revert o1
    revert i1
    refine u5 (fun o i=>Mh a b o i nb/\0 < i/\i<=na/\K a (i - 1)<=K b (nb - 1)) ?_ ?_ ?_ ?_
    ·rintro _ rfl _ rfl _ d
     exact FJ (.inl ⟨_,_,_,rfl,rfl,m1.doneA sa sb (by simpa using d)⟩)
    ·rintro _ rfl _ rfl _ d
     simp at d
     exact ⟨m1,by lia,by lia,leb k (Fy _) (by lia)⟩
    ·intro c
     exact ⟨m,by lia,Fy _,leb na (by lia) (by lia)⟩
    clear m1 leb m low high
    rintro o i ⟨m,i0,i1,leb⟩
    have m2:Mh a b _ i (nb - 1):=Mh.pushB (nb:=nb - 1) (by rw [show nb - 1+1=nb by lia]; exact m) sa sb eb (fun z=>leb)
    have la:i<=a.size:=m2.ha
    obtain ⟨ta,qa,ea2⟩:=IntKeys.at hA (show i - 1 < a.size by lia)
    refine FA (bh eb ?_)
    by_cases h4:nb - 1=1
    ·rw [if_pos (by simpa using h4)]
     exact FJ (.inl ⟨_,_,_,rfl,rfl,m2.firstB sa sb h4 first'⟩)
    rw [if_neg (by simpa using h4)]
    refine FA (bh ea2 ?_)
    refine FA (eh (st:=setG st gg) hk hB (by lia) (by lia) (fun i j h6 h7=>sb _ _ (by lia) (by lia)) fun k2 k2n low2 high2=>?_)
    simp only [Hw] at low2 high2
    dsimp only
    generalize o.push _=op at m2 |-
    have m2':Mh a b (op++(b.extract k2 (nb - 1)).reverse) i k2:=Mh.takeB sa sb (nb - 1 - k2) m2 k2 (by lia) (fun i hi hj _=>IW.mp (of_decide_eq_false (high2 i hi hj)))
    have le3:∀ z,z<=k2->0 < z->K b (z - 1)<=K a (i - 1):=fun z hz z0=>Hd (of_decide_eq_true (low2 (z - 1) (by lia)))
    generalize ebk:nb - 1 - k2=bk
    have kk2:bk=nb - 1 - k2:=ebk.symm
    clear ebk
    generalize ei2:k2=i2
    generalize eo2:op++(b.extract i2 (nb - 1)).reverse=o2
    revert o2
    revert i2
    refine tV (fun o j=>Mh a b o i j/\1 < j/\j<=nb - 1/\K b (j - 1)<=K a (i - 1)) ?_ ?_ ?_ ?_ ?_
    ·rintro _ rfl _ rfl _ d
     exact FJ (.inl ⟨_,_,_,rfl,rfl,m2'.firstB sa sb (by simpa using d) first'⟩)
    ·rintro _ rfl _ rfl _ _ e
     exact FJ (.inl ⟨_,_,_,rfl,rfl,m2'.doneB sa sb (by simpa using e)⟩)
    ·rintro _ rfl _ rfl _ d e
     simp at d e
     exact ⟨m2',by lia,by lia,le3 k2 (Fy _) (by lia)⟩
    ·intro c
     exact ⟨m2,by lia,Fy _,le3 (nb - 1) (by lia) (by lia)⟩
    clear m2' le3 m2 low2 high2
    rintro o' j ⟨m3,hj,hj0,le3⟩
    have m4:Mh a b _ (i - 1) j:=Mh.pushA (na:=i - 1) (by rw [show i - 1+1=i by lia]; exact m3) sa sb ea2 (fun z=>le3)
    refine FA (bh ea2 ?_)
    by_cases h5:i - 1=0
    ·rw [if_pos (by simpa using h5)]
     exact FJ (.inl ⟨_,_,_,rfl,rfl,m4.doneA sa sb h5⟩)
    ·rw [if_neg (by simpa using h5)]
     split
     ·exact FJ (.inr ⟨_,_,_,_,_,_,_,rfl,rfl,m4,by lia,by lia,by lia⟩)
     ·exact FJ ⟨_,_,_,_,_,_,_,rfl,rfl,m4,by lia,by lia,by lia⟩
end
theorem ph:∀ (l:List GZ) (n:Nat) (xs:Array GZ) (pos:Nat),pos+n+l.length<=xs.size->((l.zipIdx n).foldl (fun a x=>a.setIfInBounds (pos+x.2) x.1) xs).toList=xs.toList.take (pos+n)++(l++xs.toList.drop (pos+n+l.length))
 | [],n,xs,pos,h=>by simp
 | p::l,n,xs,pos,h=>by
  have hl:(p::l).length=l.length+1:=rfl
  rw [hl] at h |-
  rw [List.zipIdx_cons,LH]
  have ih:=ph l (n+1) (xs.setIfInBounds (pos+n) p) pos (by rw [Array.size_setIfInBounds]; lia)
  rw [ih,Array.toList_setIfInBounds]
  have hlen:xs.toList.length=xs.size:=by simp
  rw [show pos+(n+1)=pos+n+1 by lia,List.take_set,List.drop_set_of_lt (by lia)]
  rw [IL (by lia),List.set_append_right _ _ (by rw [FU]; lia)]
  rw [show pos+n - (xs.toList.take (pos+n)).length=0 by rw [FU]; lia]
  show (xs.toList.take (pos+n)++[p])++(l++_)=_
  rw [FX,show pos+n+1+l.length=pos+n+(l.length+1) by lia]
  rfl
theorem il {xs:Array GZ} {lo m:Nat} {z:GZ} (h:z∈(xs.toList.drop lo).take m):∃ i,lo<=i/\i < lo+m/\i < xs.size/\key z=K xs i:=by
 obtain ⟨j,hj⟩:=Gy h
 have hjl:=(Fs.mp hj).1
 rw [FU,Hq] at hjl
 have hlen:xs.toList.length=xs.size:=by simp
 rw [IQ (by lia),Jn] at hj
 refine ⟨lo+j,by lia,by lia,by lia,?_⟩
 rw [jg (p:=z) (by rw [<- Gq]; exact hj)]
theorem qo {xs:Array GZ} {lo m:Nat} (h:∀ i j,lo<=i->i<=j->j < lo+m->j < xs.size->K xs i<=K xs j):(((xs.toList.drop lo).take m).map key).Pairwise (·<=·):=by
 rw [FP]
 intro p q hp hq hpq
 have hlen:xs.toList.length=xs.size:=by simp
 have hq':=hq
 rw [Do,FU,Hq] at hq'
 have e:∀ r (hr:r < (((xs.toList.drop lo).take m).map key).length),(((xs.toList.drop lo).take m).map key)[r]=K xs (lo+r):=by
  intro r hr
  have hr':=hr
  rw [Do,FU,Hq] at hr'
  rw [Lo,List.getElem_take,List.getElem_drop]
  have hz:lo+r < xs.size:=by lia
  rw [jg (p:=xs[lo+r]) (Fz hz)]
  rfl
 rw [e p hp,e q hq]
 exact h _ _ (by lia) (by lia) (by lia) (by lia)
theorem CN {xs:Array GZ} (h:(xs.toList.map key).Pairwise (·<=·)):b8 xs:=by
 intro i j hij hj
 by_cases e:i=j
 ·subst e; exact GA _
 ·rw [FP] at h
  have hj':j < (xs.toList.map key).length:=by simpa using hj
  have h3:=h i j (by lia) hj' (by lia)
  rw [Lo,Lo] at h3
  rw [jg (p:=xs[i]'(by lia)) (Fz _),jg (p:=xs[j]) (Fz _)]
  simpa using h3
theorem km (xs:Array GZ) (lo hi:Nat):(xs.extract lo hi).toList=(xs.toList.drop lo).take (hi - lo):=by
 rw [HJ,JD]
theorem xM {xs:Array GZ} {lo hi i:Nat} (h:lo+i < hi) (hz:hi<=xs.size):K (xs.extract lo hi) i=K xs (lo+i):=by
 refine K_congr ?_
 rw [Array.getElem?_extract_of_lt (by lia)]
 exact (Fz (by lia)).symm
theorem nH {xs:Array GZ} (h:IntKeys xs) (lo hi:Nat):IntKeys (xs.extract lo hi):=fun p hp=>by
 rw [km] at hp
 exact h p (List.mem_of_mem_drop (Ki hp))
section
variable {prog:Gi} {w:GF} {A:GG} {E:Fk->Fq->Prop} {s:Fq}
theorem yO {σ:Type} {M:Model} {st st':σ} {Q:PUnit->σ->Prop} (h:Q ⟨⟩ st'):wpS M A E s (set st':StateT σ Sem PUnit) Q st:=by
 unfold wpS; rw [StateT.run_set]; exact Fv ⟨rfl,h⟩
theorem pI {st:G6} {Q:Bool->G6->Prop} {n1 n2 pw:Nat} (hk:kindOf st=oneType') (hI:IntKeys (arrOf st)) (hf:failedOf st=none) (hp:pendingOf st = #[(0,n1,pw),(n1,n2,0)]) (hz:(arrOf st).size=n1+n2) (h1:1<=n1) (h2:1<=n2)
  (s1:∀ i j,i<=j->j < n1->K (arrOf st) i<=K (arrOf st) j) (s2:∀ i j,n1<=i->i<=j->j < n1+n2->K (arrOf st) i<=K (arrOf st) j)
  (h:∀ st',failedOf st'=none->pendingOf st' = #[(0,n1+n2,pw)]->(arrOf st').Perm (arrOf st)->b8 (arrOf st')->Q true st'):wpS (model prog w) A E s (mergeAt' 0) Q st:=by
 have both:∀ c:Nat,c < n1->(∀ i,i < n1->K (arrOf st) i<=K (arrOf st) n1)->b8 (arrOf st):=fun c _ hc i j hij hj=>by
  rw [hz] at hj
  by_cases z1:j < n1
  ·exact s1 i j hij z1
  ·by_cases z2:n1<=i
   ·exact s2 i j z2 hij hj
   ·exact Hy (hc i (by lia)) (s2 n1 j (Fy _) (by lia) hj)
 unfold mergeAt'
 change wpS _ _ _ _ (bind _ _) _ _
 refine FA (JR ?_)
 dsimp only
 have hp':(sortPriv% PySem.Builtin.SortState.pending) st = #[(0,n1,pw),(n1,n2,0)]:=hp
 rw [hp']
 have ha':∀ z:SortSt,(sortPriv% PySem.Builtin.SortState.a) z=arrOf z:=fun _=>rfl
 simp only [ha']
 have ep:((#[(0,n1,pw),(n1,n2,0)]:Array (Nat × Nat × Nat)).setIfInBounds 0 (0,n1+n2,pw)).eraseIdxIfInBounds (0+1) = #[(0,n1+n2,pw)]:=by simp [Array.eraseIdxIfInBounds]
 show wpS _ _ _ _ (do
  set (setPending st (((#[(0,n1,pw),(n1,n2,0)]:Array (Nat × Nat × Nat)).setIfInBounds 0 (0,n1+n2,pw)).eraseIdxIfInBounds (0+1)))
  _) _ _
 rw [ep]
 refine FA (yO ?_)
 obtain ⟨tb,qb,eb⟩:=IntKeys.at hI (show n1 < (arrOf st).size by lia)
 refine FA (bh eb ?_)
 refine FA (eh (st:=setPending st #[(0,n1+n2,pw)]) hk hI (by lia) (by lia) (fun i j h6 h7=>by rw [Hw,Hw]; exact s1 _ _ h6 h7) fun k kn low high=>?_)
 simp only [Hw] at low high
 dsimp only
 have lowK:∀ i,i < k->K (arrOf st) i<=K (arrOf st) n1:=fun i hi=>by have:=low i hi; unfold cA at this; simp at this; lia
 by_cases xP:n1 - k=0
 ·rw [if_pos (by simpa using xP)]
  exact FJ (h _ hf rfl (LI _) (both 0 (by lia) fun i hi=>lowK i (by lia)))
 rw [if_neg (by simpa using xP)]
 have highK:K (arrOf st) n1 < K (arrOf st) k:=by have:=high k (Fy _) (by lia); unfold cA at this; simp at this; lia
 obtain ⟨ta,qa,ea⟩:=IntKeys.at hI (show n1 - 1 < (arrOf st).size by lia)
 rw [show 0+k+(n1 - k) - 1=n1 - 1 by lia]
 refine FA (bh ea ?_)
 refine FA (eh (st:=setPending st #[(0,n1+n2,pw)]) hk hI (by lia) (by lia) (fun i j h6 h7=>s2 _ _ (by lia) (by lia) (by lia)) fun nb nbn low2 high2=>?_)
 dsimp only
 by_cases hb0:nb=0
 ·rw [if_pos (by simpa using hb0)]
  subst hb0
  have hh:K (arrOf st) (n1 - 1)<=K (arrOf st) n1:=IW.mp (of_decide_eq_false (high2 0 (Fy _) (by lia)))
  exact FJ (h _ hf rfl (LI _) (both 0 (by lia) fun i hi=>Hy (s1 i (n1 - 1) (by lia) (by lia)) hh))
 rw [if_neg (by simpa using hb0)]
 have lowB:∀ j,j < nb->K (arrOf st) (n1+j) < K (arrOf st) (n1 - 1):=fun j hj=>of_decide_eq_true (low2 j hj)
 have hX:=nH hI (0+k) n1
 have hY:=nH hI n1 (n1+nb)
 have zx:((arrOf st).extract (0+k) n1).size=n1 - k:=by rw [Array.size_extract]; lia
 have zy:((arrOf st).extract n1 (n1+nb)).size=nb:=by rw [Array.size_extract]; lia
 have kx:∀ i,i < n1 - k->K ((arrOf st).extract (0+k) n1) i=K (arrOf st) (k+i):=fun i hi=>by rw [xM (by lia) (by lia),Hw]
 have ky:∀ j,j < nb->K ((arrOf st).extract n1 (n1+nb)) j=K (arrOf st) (n1+j):=fun j hj=>xM (by lia) (by lia)
 have sx:b8 ((arrOf st).extract (0+k) n1):=fun i j hij hj=>by
  rw [zx] at hj
  rw [kx i (by lia),kx j hj]
  exact s1 _ _ (by lia) (by lia)
 have sy:b8 ((arrOf st).extract n1 (n1+nb)):=fun i j hij hj=>by
  rw [zy] at hj
  rw [ky i (by lia),ky j hj]
  exact s2 _ _ (by lia) (by lia) (by lia)
 have fst':K ((arrOf st).extract n1 (n1+nb)) 0<=K ((arrOf st).extract (0+k) n1) 0:=by
  rw [ky 0 (by lia),kx 0 (by lia)]
  exact Hd highK
 have top':∀ j,j < ((arrOf st).extract n1 (n1+nb)).size->K ((arrOf st).extract n1 (n1+nb)) j<=K ((arrOf st).extract (0+k) n1) (((arrOf st).extract (0+k) n1).size - 1):=fun j hj=>by
  rw [zy] at hj
  rw [zx,ky j hj,kx _ (by lia),show k+(n1 - k - 1)=n1 - 1 by lia]
  exact Hd (lowB j hj)
 have done:∀ R g,Fin ((arrOf st).extract (0+k) n1) ((arrOf st).extract n1 (n1+nb)) R->Q true (setArr (setG (setPending st #[(0,n1+n2,pw)]) g) (R.toList.zipIdx.foldl (fun a x=>a.setIfInBounds (0+k+x.2) x.1) (arrOf st))):=by
  intro R g f
  have lx:((arrOf st).extract (0+k) n1).toList.length=n1 - k:=by rw [FM]; exact zx
  have lyy:((arrOf st).extract n1 (n1+nb)).toList.length=nb:=by rw [FM]; exact zy
  have lR:R.toList.length=n1 - k+nb:=by rw [f.1.length_eq,Fw,lx,lyy]
  have e1:=ph R.toList 0 (arrOf st) (0+k) (by rw [lR]; lia)
  rw [lR,show 0+k+0=k by lia,show k+(n1 - k+nb)=n1+nb by lia] at e1
  have ex:=km (arrOf st) (0+k) n1
  have ey:=km (arrOf st) n1 (n1+nb)
  rw [show n1+nb - n1=nb by lia] at ey
  rw [Hw] at ex
  have e2:(arrOf st).toList=(arrOf st).toList.take k++((((arrOf st).toList.drop k).take (n1 - k)++((arrOf st).toList.drop n1).take nb)++(arrOf st).toList.drop (n1+nb)):=by
   rw [FX]
   conv=>lhs; rw [<- HY k (arrOf st).toList]
   congr 1
   conv=>lhs; rw [<- HY (n1 - k) ((arrOf st).toList.drop k)]
   rw [List.drop_drop,show k+(n1 - k)=n1 by lia]
   congr 1
   conv=>lhs; rw [<- HY nb ((arrOf st).toList.drop n1)]
   rw [List.drop_drop]
  have fp:=f.1
  rw [Hw,ex,ey] at fp
  refine h _ hf rfl ?_ (CN ?_)
  ·refine Iz.mpr ?_
   show (R.toList.zipIdx.foldl (fun a x=>a.setIfInBounds (0+k+x.2) x.1) (arrOf st)).toList.Perm _
   rw [e1]
   conv=>rhs; rw [e2]
   exact GW _ (List.Perm.append_right _ fp)
  ·show ((R.toList.zipIdx.foldl (fun a x=>a.setIfInBounds (0+k+x.2) x.1) (arrOf st)).toList.map key).Pairwise _
   rw [e1,Fu,Fu,Gx,Gx]
   have pP:(((arrOf st).toList.take k).map key).Pairwise (·<=·):=by
    have:=qo (xs:=arrOf st) (lo:=0) (m:=k) (fun i j _ hij hj _=>s1 i j hij (by lia))
    rw [Jz] at this
    exact this
   have hlen:(arrOf st).toList.length=n1+n2:=by simpa using hz
   have eS:(arrOf st).toList.drop (n1+nb)=((arrOf st).toList.drop (n1+nb)).take (n1+n2):=by rw [FB (by rw [Hq]; lia)]
   have pS:(((arrOf st).toList.drop (n1+nb)).map key).Pairwise (·<=·):=by
    rw [eS]
    exact qo (fun i j hi hij _ hj=>s2 i j (by lia) hij (by lia))
   have inR:∀ z∈R.toList,(∃ i,k<=i/\i < n1/\key z=K (arrOf st) i)\/∃ j,n1<=j/\j < n1+nb/\key z=K (arrOf st) j:=fun z hz'=>by
    have:=fp.mem_iff.mp hz'
    rw [FF] at this
    rcases this with this | this
    ·obtain ⟨i,a1,a2,_,a4⟩:=il this
     exact .inl ⟨i,a1,by lia,a4⟩
    ·obtain ⟨i,a1,a2,_,a4⟩:=il this
     exact .inr ⟨i,a1,a2,a4⟩
   have inP:∀ z∈(arrOf st).toList.take k,∃ i,i < k/\key z=K (arrOf st) i:=fun z hz'=>by
    obtain ⟨i,_,a2,_,a4⟩:=il (lo:=0) (m:=k) (by rw [Jz]; exact hz')
    exact ⟨i,by lia,a4⟩
   have inS:∀ z∈(arrOf st).toList.drop (n1+nb),∃ i,n1+nb<=i/\i < n1+n2/\key z=K (arrOf st) i:=fun z hz'=>by
    rw [eS] at hz'
    obtain ⟨i,a1,_,a3,a4⟩:=il hz'
    exact ⟨i,a1,by lia,a4⟩
   have RS:∀ x∈R.toList.map key,∀ y∈((arrOf st).toList.drop (n1+nb)).map key,x<=y:=by
    intro x hx y hy
    obtain ⟨p,hp',rfl⟩:=FH.mp hx
    obtain ⟨q,hq',rfl⟩:=FH.mp hy
    obtain ⟨j,j1,j2,ej⟩:=inS q hq'
    rw [ej]
    have hh:K (arrOf st) (n1 - 1)<=K (arrOf st) (n1+nb):=by
     exact IW.mp (of_decide_eq_false (high2 nb (Fy _) (by lia)))
    rcases inR p hp' with ⟨i,i1,i2,ei⟩ | ⟨i,i1,i2,ei⟩
    ·rw [ei]
     exact Hy (s1 i (n1 - 1) (by lia) (by lia)) (Hy hh (s2 _ _ (by lia) j1 j2))
    ·rw [ei]
     exact s2 _ _ i1 (by lia) j2
   refine ⟨pP,⟨f.2,pS,RS⟩,fun x hx y hy=>?_⟩
   obtain ⟨p,hp',rfl⟩:=FH.mp hx
   obtain ⟨i,i1,ei⟩:=inP p hp'
   rw [ei]
   rw [FF] at hy
   rcases hy with hy | hy
   ·obtain ⟨q,hq',rfl⟩:=FH.mp hy
    rcases inR q hq' with ⟨j,j1,j2,ej⟩ | ⟨j,j1,j2,ej⟩
    ·rw [ej]; exact s1 _ _ (by lia) j2
    ·rw [ej]; exact Hy (lowK i i1) (s2 _ _ (Fy _) j1 (by lia))
   ·obtain ⟨q,hq',rfl⟩:=FH.mp hy
    obtain ⟨j,j1,j2,ej⟩:=inS q hq'
    rw [ej]
    exact Hy (lowK i i1) (s2 _ _ (Fy _) (by lia) j2)
 by_cases hle:n1 - k<=nb
 ·rw [if_pos hle]
  refine FA (pW (st:=setPending st #[(0,n1+n2,pw)]) hk hX hY sx sy (by lia) (by lia) fst' top' fun R g f=>?_)
  refine FA (Ju ?_)
  refine FA (JR ?_)
  refine FJ ?_
  have ef:(failedOf (setArr (setG (setPending st #[(0,n1+n2,pw)]) g) (R.toList.zipIdx.foldl (fun a x=>a.setIfInBounds (0+k+x.2) x.1) (arrOf st)))).isNone=true:=by
   show (failedOf st).isNone=true
   rw [hf]; rfl
  show Q (failedOf (setArr (setG (setPending st #[(0,n1+n2,pw)]) g) (R.toList.zipIdx.foldl (fun a x=>a.setIfInBounds (0+k+x.2) x.1) (arrOf st)))).isNone _
  rw [ef]
  exact done R g f
 ·rw [if_neg hle]
  refine FA (pL (st:=setPending st #[(0,n1+n2,pw)]) hk hX hY sx sy (by lia) (by lia) fst' top' fun R g f=>?_)
  refine FA (Ju ?_)
  refine FA (JR ?_)
  refine FJ ?_
  have ef:(failedOf (setArr (setG (setPending st #[(0,n1+n2,pw)]) g) (R.toList.zipIdx.foldl (fun a x=>a.setIfInBounds (0+k+x.2) x.1) (arrOf st)))).isNone=true:=by
   show (failedOf st).isNone=true
   rw [hf]; rfl
  show Q (failedOf (setArr (setG (setPending st #[(0,n1+n2,pw)]) g) (R.toList.zipIdx.foldl (fun a x=>a.setIfInBounds (0+k+x.2) x.1) (arrOf st)))).isNone _
  rw [ef]
  exact done R g f
end
structure SB (a₀:Array GZ) (P:Array (Nat × Nat × Nat)) (st:G6):Prop where
 perm:(arrOf st).Perm a₀
 kind:kindOf st=oneType'
 failed:failedOf st=none
 pend:pendingOf st=P
theorem SB.size {a₀:Array GZ} {P:Array (Nat × Nat × Nat)} {st:G6} (h:SB a₀ P st):(arrOf st).size=a₀.size:=h.perm.size_eq
theorem SB.keys {a₀:Array GZ} {P:Array (Nat × Nat × Nat)} {st:G6} (h:SB a₀ P st) (h0:IntKeys a₀):IntKeys (arrOf st):=fun p hp=>h0 p ((Iz.mp h.perm).mem_iff.mp hp)
theorem SB.put {a₀:Array GZ} {P:Array (Nat × Nat × Nat)} {st:G6} (h:SB a₀ P st) {xs:Array GZ} (hp:xs.Perm (arrOf st)):SB a₀ P (setArr st xs):=⟨hp.trans h.perm,h.kind,h.failed,h.pend⟩
def SF (xs:Array GZ) (lo k:Nat):Prop:=∀ i j,lo<=i->i<=j->j < lo+k->K xs i<=K xs j
section
variable {prog:Gi} {w:GF} {A:GG} {E:Fk->Fq->Prop} {s:Fq} {a₀:Array GZ} {P:Array (Nat × Nat × Nat)}
theorem c7 {st:G6} {i j:Nat} {Q:Option Bool->G6->Prop} (hB:SB a₀ P st) (h0:IntKeys a₀) (hi:i < a₀.size) (hj:j < a₀.size)
  (h:Q (some (decide (K (arrOf st) i < K (arrOf st) j))) st):wpS (model prog w) A E s (ltAt' i j) Q st:=by
 have hz:=hB.size
 obtain ⟨t,p,e1⟩:=IntKeys.at (hB.keys h0) (show i < (arrOf st).size by lia)
 obtain ⟨u,q,e2⟩:=IntKeys.at (hB.keys h0) (show j < (arrOf st).size by lia)
 exact wpS_ltAt hB.kind e1 e2 h
theorem nL {st:G6} {lo n ok:Nat} {Q:Bool->G6->Prop} (h0:IntKeys a₀) (hn:lo+n<=a₀.size) (hok:ok<=n) (hB:SB a₀ P st) (hs:SF (arrOf st) lo ok)
  (h:∀ st',SB a₀ P st'->SF (arrOf st') lo n->(∀ i,i < lo->K (arrOf st') i=K (arrOf st) i)->Q true st'):wpS (model prog w) A E s (binarySort' lo n ok) Q st:=by
 rw [binarySort'_eq]
 refine FA (HS (GN (I:=fun k c st'=>c=(none,())/\SB a₀ P st'/\SF (arrOf st') lo (min k n)/\∀ i,i < lo->K (arrOf st') i=K (arrOf st) i)
  (Q:=fun c st'=>c=(none,())/\SB a₀ P st'/\SF (arrOf st') lo n/\∀ i,i < lo->K (arrOf st') i=K (arrOf st) i) ?step ?fin ?init) ?post)
 case post =>
  rintro c st' ⟨rfl,b1,b2,b3⟩
  exact FJ (h st' b1 b2 b3)
 case init =>
  refine ⟨rfl,hB,fun i j hi hij hj=>?_,fun _ _=>rfl⟩
  by_cases h1:ok=0
  ·have:i=j:=by lia
   subst this; exact GA _
  ·exact hs i j hi hij (by lia)
 case fin =>
  rintro c st' ⟨b0,b1,b2,b3⟩
  refine ⟨b0,b1,?_,b3⟩
  rwa [show min (max (max ok 1) n) n=n by lia] at b2
 case step =>
  rintro k c st' hak hkn ⟨rfl,b1,b2,b3⟩
  rw [show min k n=k by lia] at b2
  refine FA (HS (GN (I:=fun x c st''=>st''=st'/\∃ l r,c=(none,l,r)/\l<=r/\r<=k/\r - l<=k - x /\
    (∀ i,i < l->K (arrOf st') (lo+i)<=K (arrOf st') (lo+k))/\(∀ i,r<=i->i < k->K (arrOf st') (lo+k) < K (arrOf st') (lo+i)))
   (Q:=fun c st''=>st''=st'/\∃ l r,c=(none,l,r)/\l<=k /\
    (∀ i,i < l->K (arrOf st') (lo+i)<=K (arrOf st') (lo+k))/\(∀ i,l<=i->i < k->K (arrOf st') (lo+k) < K (arrOf st') (lo+i))) ?istep ?ifin ?iinit) ?ipost)
  case iinit=>exact ⟨rfl,0,k,rfl,by lia,by lia,by lia,fun i hi=>by lia,fun i h1 h2=>by lia⟩
  case ifin =>
   rintro c st'' ⟨rfl,l,r,rfl,h1,h2,h3,h4,h5⟩
   have:l=r:=by lia
   subst this
   exact ⟨rfl,l,l,rfl,h2,h4,h5⟩
  case istep =>
   rintro x c st'' _ hxk ⟨rfl,l,r,rfl,h1,h2,h3,h4,h5⟩
   dsimp only
   by_cases hge:l ≥ r
   ·rw [if_pos hge]
    have:l=r:=by lia
    subst this
    exact FJ ⟨rfl,l,l,rfl,h2,h4,h5⟩
   ·rw [if_neg hge]
    refine FA (c7 b1 h0 (by lia) (by lia) ?_)
    by_cases hl:K (arrOf st'') (lo+k) < K (arrOf st'') (lo+(l+r) / 2)
    ·simp only [hl,decide_true,if_true]
     refine FJ ⟨rfl,l,(l+r) / 2,rfl,by lia,by lia,by lia,h4,fun i h6 h7=>?_⟩
     exact Int.lt_of_lt_of_le hl (b2 _ _ (by lia) (by lia) (by lia))
    ·simp only [hl,decide_false,Fx,if_false]
     refine FJ ⟨rfl,(l+r) / 2+1,r,rfl,by lia,by lia,by lia,fun i h6=>?_,h5⟩
     exact Hy (b2 (lo+i) (lo+(l+r) / 2) (by lia) (by lia) (by lia)) (IW.mp hl)
  case ipost =>
   rintro c st'' ⟨rfl,l,r,rfl,hlk,h4,h5⟩
   show wpS _ _ _ _ (do moveDown' (lo+k) (lo+l); pure (IR (none,()))) _ _
   rw [moveDown'_eq]
   have hks:lo+k < (arrOf st'').size:=by rw [b1.size]; lia
   have kb:∀ i,K (bubble (arrOf st'') (lo+k) (lo+k - (lo+l))) i=if i=lo+l then K (arrOf st'') (lo+k) else if lo+l < i/\i<=lo+k then K (arrOf st'') (i - 1) else K (arrOf st'') i:=fun i=>by
    rw [K_bubble hks (by lia),show lo+k - (lo+k - (lo+l))=lo+l by lia]
   refine FA (Ju (FJ ⟨rfl,b1.put (bubble_perm _ _ _),?_,fun i hi=>?_⟩))
   ·rw [show min (k+1) n=k+1 by lia]
    intro i j hi hij hj
    show K (bubble (arrOf st'') (lo+k) (lo+k - (lo+l))) i<=K (bubble (arrOf st'') (lo+k) (lo+k - (lo+l))) j
    have h4':∀ i,lo<=i->i < lo+l->K (arrOf st'') i<=K (arrOf st'') (lo+k):=fun i z1 z2=>by
     have:=h4 (i - lo) (by lia)
     rwa [show lo+(i - lo)=i by lia] at this
    have h5':∀ i,lo+l<=i->i < lo+k->K (arrOf st'') (lo+k) < K (arrOf st'') i:=fun i z1 z2=>by
     have:=h5 (i - lo) (by lia) (by lia)
     rwa [show lo+(i - lo)=i by lia] at this
    rw [kb,kb]
    repeat' split
    all_goals first
     | (exfalso; lia)
     | exact GA _
     | exact h4' _ (by lia) (by lia)
     | exact Hd (h5' _ (by lia) (by lia))
     | exact b2 _ _ (by lia) (by lia) (by lia)
   ·show K (bubble (arrOf st'') (lo+k) (lo+k - (lo+l))) i=_
    rw [kb,if_neg (by lia),if_neg (by lia)]
    exact b3 i hi
end
def ND (xs:Array GZ) (lo k:Nat):Prop:=∀ i j,lo<=i->i<=j->j < lo+k->K xs j<=K xs i
theorem SF.more {xs:Array GZ} {lo k:Nat} (h:SF xs lo k) (hk:1<=k) (e:K xs (lo+k - 1)<=K xs (lo+k)):SF xs lo (k+1):=fun i j hi hij hj=>by
 by_cases z:j < lo+k
 ·exact h i j hi hij z
 ·have:j=lo+k:=by lia
  subst this
  by_cases z2:i=lo+k
  ·subst z2; exact GA _
  ·exact Hy (h i (lo+k - 1) hi (by lia) (by lia)) e
theorem ND.more {xs:Array GZ} {lo k:Nat} (h:ND xs lo k) (hk:1<=k) (e:K xs (lo+k)<=K xs (lo+k - 1)):ND xs lo (k+1):=fun i j hi hij hj=>by
 by_cases z:j < lo+k
 ·exact h i j hi hij z
 ·have:j=lo+k:=by lia
  subst this
  by_cases z2:i=lo+k
  ·subst z2; exact GA _
  ·exact Hy e (h i (lo+k - 1) hi (by lia) (by lia))
section
variable {prog:Gi} {w:GF} {A:GG} {E:Fk->Fq->Prop} {s:Fq} {a₀:Array GZ} {P:Array (Nat × Nat × Nat)}
theorem n9 {st:G6} {lo nrem:Nat} {Q:Option Nat->G6->Prop} (h0:IntKeys a₀) (hn:lo+nrem<=a₀.size) (h1:1<=nrem) (hB:SB a₀ P st)
  (h:∀ m st',SB a₀ P st'->1<=m->m<=nrem->SF (arrOf st') lo m->(∀ i,i < lo->K (arrOf st') i=K (arrOf st) i)->Q (some m) st'):wpS (model prog w) A E s (countRun' lo nrem) Q st:=by
 have one:SF (arrOf st) lo 1:=fun i j hi hij hj=>by
  have:i=j:=by lia
  subst this; exact GA _
 rw [countRun'_eq]
 dsimp only
 refine FA (HS (GN (I:=fun x c st'=>st=st'/\c=(none,x)/\SF (arrOf st) lo x)
  (Q:=fun c st'=>st=st'/\∃ mm,c=(none,mm)/\1<=mm/\mm<=nrem/\SF (arrOf st) lo mm/\(mm=nrem\/K (arrOf st) (lo+mm) < K (arrOf st) (lo+mm - 1))) ?_ ?_ ⟨rfl,rfl,one⟩) ?_)
 ·rintro x c st9 hax hxn ⟨rfl,rfl,hs⟩
  dsimp only
  refine FA (c7 hB h0 (by lia) (by lia) ?_)
  by_cases hl:K (arrOf st) (lo+x) < K (arrOf st) (lo+x - 1)
  ·simp only [hl,decide_true,if_true]
   exact FJ ⟨rfl,x,rfl,hax,by lia,hs,.inr hl⟩
  ·simp only [hl,decide_false,Fx,if_false]
   exact FJ ⟨rfl,rfl,SF.more hs (by lia) (IW.mp hl)⟩
 ·rintro c st9 ⟨rfl,rfl,hs⟩
  rw [show max 1 nrem=nrem by lia] at hs |-
  exact ⟨rfl,nrem,rfl,by lia,Fy _,hs,.inl rfl⟩
 rintro c st7 ⟨rfl,n,rfl,n1,n2,sn,hor⟩
 dsimp only
 by_cases hnn:n=nrem
 ·rw [if_pos (by simpa using hnn)]
  exact FJ (h n _ hB n1 n2 sn fun _ _=>rfl)
 rw [if_neg (by simpa using hnn)]
 have hlt:K (arrOf st) (lo+n) < K (arrOf st) (lo+n - 1):=hor.resolve_left hnn
 by_cases hgt:n > 1
 ·rw [if_pos hgt]
  refine FA (c7 hB h0 (by lia) (by lia) ?_)
  by_cases hr:K (arrOf st) lo < K (arrOf st) (lo+n - 1)
  ·simp only [hr,decide_true,if_true]
   exact FJ (h n _ hB n1 n2 sn fun _ _=>rfl)
  ·simp only [hr,decide_false,Fx,if_false]
   have hsz:lo+n<=(arrOf st).size:=by rw [hB.size]; lia
   have hall:∀ k,lo<=k->k < lo+n->K (arrOf st) k=K (arrOf st) (lo+n - 1):=fun k k1 k2=>by
    have a1:=sn lo k (Fy _) k1 k2
    have a2:=sn k (lo+n - 1) k1 (by lia) (by lia)
    lia
   have ke:=J5 (i:=lo) hsz hall
   refine FA (Jo ?_)
   have d1:SB a₀ P (setArr st (mirror (arrOf st) lo (lo+n) ((lo+n - lo) / 2))):=hB.put (I0 _ _ _ _)
   have d2:ND (arrOf (setArr st (mirror (arrOf st) lo (lo+n) ((lo+n - lo) / 2)))) lo (n+1):=fun i j hi hij hj=>by
    show K (mirror (arrOf st) _ _ _) j<=K (mirror (arrOf st) _ _ _) i
    rw [ke,ke]
    by_cases hjn:j < lo+n
    ·rw [hall i hi (by lia),hall j (by lia) hjn]; exact GA _
    ·have:j=lo+n:=by lia
     subst this
     by_cases z2:i=lo+n
     ·subst z2; exact GA _
     ·rw [hall i hi (by lia)]; exact Hd hlt
   have d3:∀ i,i < lo->K (arrOf (setArr st (mirror (arrOf st) lo (lo+n) ((lo+n - lo) / 2)))) i=K (arrOf st) i:=fun i hi=>ke i
   generalize setArr st (mirror (arrOf st) lo (lo+n) ((lo+n - lo) / 2))=st3 at d1 d2 d3 |-
   refine FA (KL (Jl ⟨rfl,?_⟩))
   refine FA (HS (GN (I:=fun x c st'=>∃ neq,c=(none,x,neq)/\SB a₀ P st'/\ND (arrOf st') lo x/\neq+1<=x/\(∀ i,lo+x - (neq+1)<=i->i < lo+x->K (arrOf st') i=K (arrOf st') (lo+x - 1))/\∀ i,i < lo->K (arrOf st') i=K (arrOf st) i)
    (Q:=fun c st'=>∃ m neq,c=(none,m,neq)/\n+1<=m/\m<=nrem/\SB a₀ P st'/\ND (arrOf st') lo m/\neq+1<=m/\(∀ i,lo+m - (neq+1)<=i->i < lo+m->K (arrOf st') i=K (arrOf st') (lo+m - 1))/\∀ i,i < lo->K (arrOf st') i=K (arrOf st) i) ?_ ?_ ⟨0,rfl,d1,d2,by lia,(fun i h1 h2=>by congr 1; lia),d3⟩) ?_)
   ·rintro x c st8 hax hxn ⟨neq,rfl,c1,c2,c3,c4,c5⟩
    dsimp only
    have hsz:lo+x<=(arrOf st8).size:=by rw [c1.size]; lia
    refine FA (c7 c1 h0 (by lia) (by lia) ?_)
    by_cases hl:K (arrOf st8) (lo+x) < K (arrOf st8) (lo+x - 1)
    ·simp only [hl,decide_true,if_true]
     by_cases hq:neq > 0
     ·rw [if_pos hq]
      have ke:=J5 (i:=lo+x - (neq+1)) hsz c4
      refine FA (Jo (FJ ⟨0,rfl,c1.put (I0 _ _ _ _),?_,by lia,(fun i h1 h2=>by congr 1; lia),fun i hi=>?_⟩))
      ·intro i j hi hij hj
       show K (mirror (arrOf st8) _ _ _) j<=K (mirror (arrOf st8) _ _ _) i
       rw [ke,ke]
       exact ND.more c2 (by lia) (Hd hl) i j hi hij hj
      ·show K (mirror (arrOf st8) _ _ _) i=_
       rw [ke]
       exact c5 i hi
     ·rw [if_neg hq]
      exact FJ ⟨0,rfl,c1,ND.more c2 (by lia) (Hd hl),by lia,(fun i h1 h2=>by congr 1; lia),c5⟩
    ·simp only [hl,decide_false,Fx,if_false]
     refine FA (c7 c1 h0 (by lia) (by lia) ?_)
     by_cases hg:K (arrOf st8) (lo+x - 1) < K (arrOf st8) (lo+x)
     ·simp only [hg,decide_true,if_true]
      exact FJ ⟨x,neq,rfl,hax,by lia,c1,c2,c3,c4,c5⟩
     ·simp only [hg,decide_false,Fx,if_false]
      have he:K (arrOf st8) (lo+x)=K (arrOf st8) (lo+x - 1):=by lia
      refine FJ ⟨neq+1,rfl,c1,ND.more c2 (by lia) (Int.le_of_eq he),by lia,(fun i h1 h2=>?_),c5⟩
      rw [show lo+(x+1) - 1=lo+x by lia]
      by_cases hix:i=lo+x
      ·rw [hix]
      ·rw [he]; exact c4 i (by lia) (by lia)
   ·rintro c st8 ⟨neq,rfl,c1,c2,c3,c4,c5⟩
    rw [show max (n+1) nrem=nrem by lia] at c2 c3 c4 |-
    exact ⟨nrem,neq,rfl,by lia,Fy _,c1,c2,c3,c4,c5⟩
   rintro c st4 ⟨m,neq,rfl,hm1,hm2,c1,c2,c3,c4,c5⟩
   dsimp only
   by_cases hq:neq > 0
   ·rw [if_pos hq]
    have hsz4:lo+m<=(arrOf st4).size:=by rw [c1.size]; lia
    have ke:=J5 (i:=lo+m - (neq+1)) hsz4 c4
    refine FA (Jo ?_)
    have d1:SB a₀ P (setArr st4 (mirror (arrOf st4) (lo+m - (neq+1)) (lo+m) ((lo+m - (lo+m - (neq+1))) / 2))):=c1.put (I0 _ _ _ _)
    have d2:ND (arrOf (setArr st4 (mirror (arrOf st4) (lo+m - (neq+1)) (lo+m) ((lo+m - (lo+m - (neq+1))) / 2)))) lo m:=fun i j hi hij hj=>by
     show K (mirror (arrOf st4) _ _ _) j<=K (mirror (arrOf st4) _ _ _) i
     rw [ke,ke]
     exact c2 i j hi hij hj
    have d3:∀ i,i < lo->K (arrOf (setArr st4 (mirror (arrOf st4) (lo+m - (neq+1)) (lo+m) ((lo+m - (lo+m - (neq+1))) / 2)))) i=K (arrOf st) i:=fun i hi=>by
     show K (mirror (arrOf st4) _ _ _) i=_
     rw [ke]
     exact c5 i hi
    generalize setArr st4 (mirror (arrOf st4) (lo+m - (neq+1)) (lo+m) ((lo+m - (lo+m - (neq+1))) / 2))=st6 at d1 d2 d3 |-
    have hsz:lo+m<=(arrOf st6).size:=by rw [d1.size]; lia
    refine FA (Jo ?_)
    have q1:SB a₀ P (setArr st6 (mirror (arrOf st6) lo (lo+m) ((lo+m - lo) / 2))):=d1.put (I0 _ _ _ _)
    have q2:SF (arrOf (setArr st6 (mirror (arrOf st6) lo (lo+m) ((lo+m - lo) / 2)))) lo m:=fun i j hi hij hj=>by
     show K (mirror (arrOf st6) lo (lo+m) ((lo+m - lo) / 2)) i<=K (mirror (arrOf st6) lo (lo+m) ((lo+m - lo) / 2)) j
     rw [JT hsz,JT hsz,if_pos (by lia),if_pos (by lia)]
     exact d2 _ _ (by lia) (by lia) (by lia)
    have q3:∀ i,i < lo->K (arrOf (setArr st6 (mirror (arrOf st6) lo (lo+m) ((lo+m - lo) / 2)))) i=K (arrOf st) i:=fun i hi=>by
     show K (mirror (arrOf st6) lo (lo+m) ((lo+m - lo) / 2)) i=_
     rw [JT hsz,if_neg (by lia)]
     exact d3 i hi
    generalize setArr st6 (mirror (arrOf st6) lo (lo+m) ((lo+m - lo) / 2))=st5 at q1 q2 q3 |-
    refine FA (HS (GN (I:=fun x c st'=>st5=st'/\c=(none,x)/\SF (arrOf st5) lo x)
     (Q:=fun c st'=>st5=st'/\∃ mm,c=(none,mm)/\m<=mm/\mm<=nrem/\SF (arrOf st5) lo mm/\(mm=nrem\/K (arrOf st5) (lo+mm) < K (arrOf st5) (lo+mm - 1))) ?_ ?_ ⟨rfl,rfl,q2⟩) ?_)
    ·rintro x c st8 hax hxn ⟨rfl,rfl,hs⟩
     dsimp only
     refine FA (c7 q1 h0 (by lia) (by lia) ?_)
     by_cases hl:K (arrOf st5) (lo+x) < K (arrOf st5) (lo+x - 1)
     ·simp only [hl,decide_true,if_true]
      exact FJ ⟨rfl,x,rfl,hax,by lia,hs,.inr hl⟩
     ·simp only [hl,decide_false,Fx,if_false]
      exact FJ ⟨rfl,rfl,SF.more hs (by lia) (IW.mp hl)⟩
    ·rintro c st9 ⟨rfl,rfl,hs⟩
     rw [show max m nrem=nrem by lia] at hs |-
     exact ⟨rfl,nrem,rfl,by lia,Fy _,hs,.inl rfl⟩
    rintro c st9 ⟨rfl,m',rfl,g1,g2,g3,_⟩
    exact FJ (h m' _ q1 (by lia) g2 g3 q3)
   ·rw [if_neg hq]
    have hsz:lo+m<=(arrOf st4).size:=by rw [c1.size]; lia
    refine FA (Jo ?_)
    have q1:SB a₀ P (setArr st4 (mirror (arrOf st4) lo (lo+m) ((lo+m - lo) / 2))):=c1.put (I0 _ _ _ _)
    have q2:SF (arrOf (setArr st4 (mirror (arrOf st4) lo (lo+m) ((lo+m - lo) / 2)))) lo m:=fun i j hi hij hj=>by
     show K (mirror (arrOf st4) lo (lo+m) ((lo+m - lo) / 2)) i<=K (mirror (arrOf st4) lo (lo+m) ((lo+m - lo) / 2)) j
     rw [JT hsz,JT hsz,if_pos (by lia),if_pos (by lia)]
     exact c2 _ _ (by lia) (by lia) (by lia)
    have q3:∀ i,i < lo->K (arrOf (setArr st4 (mirror (arrOf st4) lo (lo+m) ((lo+m - lo) / 2)))) i=K (arrOf st) i:=fun i hi=>by
     show K (mirror (arrOf st4) lo (lo+m) ((lo+m - lo) / 2)) i=_
     rw [JT hsz,if_neg (by lia)]
     exact c5 i hi
    generalize setArr st4 (mirror (arrOf st4) lo (lo+m) ((lo+m - lo) / 2))=st5 at q1 q2 q3 |-
    refine FA (HS (GN (I:=fun x c st'=>st5=st'/\c=(none,x)/\SF (arrOf st5) lo x)
     (Q:=fun c st'=>st5=st'/\∃ mm,c=(none,mm)/\m<=mm/\mm<=nrem/\SF (arrOf st5) lo mm/\(mm=nrem\/K (arrOf st5) (lo+mm) < K (arrOf st5) (lo+mm - 1))) ?_ ?_ ⟨rfl,rfl,q2⟩) ?_)
    ·rintro x c st8 hax hxn ⟨rfl,rfl,hs⟩
     dsimp only
     refine FA (c7 q1 h0 (by lia) (by lia) ?_)
     by_cases hl:K (arrOf st5) (lo+x) < K (arrOf st5) (lo+x - 1)
     ·simp only [hl,decide_true,if_true]
      exact FJ ⟨rfl,x,rfl,hax,by lia,hs,.inr hl⟩
     ·simp only [hl,decide_false,Fx,if_false]
      exact FJ ⟨rfl,rfl,SF.more hs (by lia) (IW.mp hl)⟩
    ·rintro c st9 ⟨rfl,rfl,hs⟩
     rw [show max m nrem=nrem by lia] at hs |-
     exact ⟨rfl,nrem,rfl,by lia,Fy _,hs,.inl rfl⟩
    rintro c st9 ⟨rfl,m',rfl,g1,g2,g3,_⟩
    exact FJ (h m' _ q1 (by lia) g2 g3 q3)
 ·rw [if_neg hgt]
  have e1:n=1:=by lia
  subst e1
  have nd1:ND (arrOf st) lo 1:=fun i j hi hij hj=>by
   have e9:i=j:=by lia
   subst e9
   exact GA _
  have nd:ND (arrOf st) lo (1+1):=ND.more nd1 (by lia) (Hd hlt)
  refine FA (KL (Jl ⟨rfl,?_⟩))
  refine FA (HS (GN (I:=fun x c st'=>∃ neq,c=(none,x,neq)/\SB a₀ P st'/\ND (arrOf st') lo x/\neq+1<=x/\(∀ i,lo+x - (neq+1)<=i->i < lo+x->K (arrOf st') i=K (arrOf st') (lo+x - 1))/\∀ i,i < lo->K (arrOf st') i=K (arrOf st) i)
   (Q:=fun c st'=>∃ m neq,c=(none,m,neq)/\1+1<=m/\m<=nrem/\SB a₀ P st'/\ND (arrOf st') lo m/\neq+1<=m/\(∀ i,lo+m - (neq+1)<=i->i < lo+m->K (arrOf st') i=K (arrOf st') (lo+m - 1))/\∀ i,i < lo->K (arrOf st') i=K (arrOf st) i) ?_ ?_ ⟨0,rfl,hB,nd,by lia,(fun i h1 h2=>by congr 1; lia),(fun _ _=>rfl)⟩) ?_)
  ·rintro x c st8 hax hxn ⟨neq,rfl,c1,c2,c3,c4,c5⟩
   dsimp only
   have hsz:lo+x<=(arrOf st8).size:=by rw [c1.size]; lia
   refine FA (c7 c1 h0 (by lia) (by lia) ?_)
   by_cases hl:K (arrOf st8) (lo+x) < K (arrOf st8) (lo+x - 1)
   ·simp only [hl,decide_true,if_true]
    by_cases hq:neq > 0
    ·rw [if_pos hq]
     have ke:=J5 (i:=lo+x - (neq+1)) hsz c4
     refine FA (Jo (FJ ⟨0,rfl,c1.put (I0 _ _ _ _),?_,by lia,(fun i h1 h2=>by congr 1; lia),fun i hi=>?_⟩))
     ·intro i j hi hij hj
      show K (mirror (arrOf st8) _ _ _) j<=K (mirror (arrOf st8) _ _ _) i
      rw [ke,ke]
      exact ND.more c2 (by lia) (Hd hl) i j hi hij hj
     ·show K (mirror (arrOf st8) _ _ _) i=_
      rw [ke]
      exact c5 i hi
    ·rw [if_neg hq]
     exact FJ ⟨0,rfl,c1,ND.more c2 (by lia) (Hd hl),by lia,(fun i h1 h2=>by congr 1; lia),c5⟩
   ·simp only [hl,decide_false,Fx,if_false]
    refine FA (c7 c1 h0 (by lia) (by lia) ?_)
    by_cases hg:K (arrOf st8) (lo+x - 1) < K (arrOf st8) (lo+x)
    ·simp only [hg,decide_true,if_true]
     exact FJ ⟨x,neq,rfl,hax,by lia,c1,c2,c3,c4,c5⟩
    ·simp only [hg,decide_false,Fx,if_false]
     have he:K (arrOf st8) (lo+x)=K (arrOf st8) (lo+x - 1):=by lia
     refine FJ ⟨neq+1,rfl,c1,ND.more c2 (by lia) (Int.le_of_eq he),by lia,(fun i h1 h2=>?_),c5⟩
     rw [show lo+(x+1) - 1=lo+x by lia]
     by_cases hix:i=lo+x
     ·rw [hix]
     ·rw [he]; exact c4 i (by lia) (by lia)
  ·rintro c st8 ⟨neq,rfl,c1,c2,c3,c4,c5⟩
   rw [show max (1+1) nrem=nrem by lia] at c2 c3 c4 |-
   exact ⟨nrem,neq,rfl,by lia,Fy _,c1,c2,c3,c4,c5⟩
  rintro c st4 ⟨m,neq,rfl,hm1,hm2,c1,c2,c3,c4,c5⟩
  dsimp only
  by_cases hq:neq > 0
  ·rw [if_pos hq]
   have hsz4:lo+m<=(arrOf st4).size:=by rw [c1.size]; lia
   have ke:=J5 (i:=lo+m - (neq+1)) hsz4 c4
   refine FA (Jo ?_)
   have d1:SB a₀ P (setArr st4 (mirror (arrOf st4) (lo+m - (neq+1)) (lo+m) ((lo+m - (lo+m - (neq+1))) / 2))):=c1.put (I0 _ _ _ _)
   have d2:ND (arrOf (setArr st4 (mirror (arrOf st4) (lo+m - (neq+1)) (lo+m) ((lo+m - (lo+m - (neq+1))) / 2)))) lo m:=fun i j hi hij hj=>by
    show K (mirror (arrOf st4) _ _ _) j<=K (mirror (arrOf st4) _ _ _) i
    rw [ke,ke]
    exact c2 i j hi hij hj
   have d3:∀ i,i < lo->K (arrOf (setArr st4 (mirror (arrOf st4) (lo+m - (neq+1)) (lo+m) ((lo+m - (lo+m - (neq+1))) / 2)))) i=K (arrOf st) i:=fun i hi=>by
    show K (mirror (arrOf st4) _ _ _) i=_
    rw [ke]
    exact c5 i hi
   generalize setArr st4 (mirror (arrOf st4) (lo+m - (neq+1)) (lo+m) ((lo+m - (lo+m - (neq+1))) / 2))=st6 at d1 d2 d3 |-
   have hsz:lo+m<=(arrOf st6).size:=by rw [d1.size]; lia
   refine FA (Jo ?_)
   have q1:SB a₀ P (setArr st6 (mirror (arrOf st6) lo (lo+m) ((lo+m - lo) / 2))):=d1.put (I0 _ _ _ _)
   have q2:SF (arrOf (setArr st6 (mirror (arrOf st6) lo (lo+m) ((lo+m - lo) / 2)))) lo m:=fun i j hi hij hj=>by
    show K (mirror (arrOf st6) lo (lo+m) ((lo+m - lo) / 2)) i<=K (mirror (arrOf st6) lo (lo+m) ((lo+m - lo) / 2)) j
    rw [JT hsz,JT hsz,if_pos (by lia),if_pos (by lia)]
    exact d2 _ _ (by lia) (by lia) (by lia)
   have q3:∀ i,i < lo->K (arrOf (setArr st6 (mirror (arrOf st6) lo (lo+m) ((lo+m - lo) / 2)))) i=K (arrOf st) i:=fun i hi=>by
    show K (mirror (arrOf st6) lo (lo+m) ((lo+m - lo) / 2)) i=_
    rw [JT hsz,if_neg (by lia)]
    exact d3 i hi
   generalize setArr st6 (mirror (arrOf st6) lo (lo+m) ((lo+m - lo) / 2))=st5 at q1 q2 q3 |-
   refine FA (HS (GN (I:=fun x c st'=>st5=st'/\c=(none,x)/\SF (arrOf st5) lo x)
    (Q:=fun c st'=>st5=st'/\∃ mm,c=(none,mm)/\m<=mm/\mm<=nrem/\SF (arrOf st5) lo mm/\(mm=nrem\/K (arrOf st5) (lo+mm) < K (arrOf st5) (lo+mm - 1))) ?_ ?_ ⟨rfl,rfl,q2⟩) ?_)
   ·rintro x c st8 hax hxn ⟨rfl,rfl,hs⟩
    dsimp only
    refine FA (c7 q1 h0 (by lia) (by lia) ?_)
    by_cases hl:K (arrOf st5) (lo+x) < K (arrOf st5) (lo+x - 1)
    ·simp only [hl,decide_true,if_true]
     exact FJ ⟨rfl,x,rfl,hax,by lia,hs,.inr hl⟩
    ·simp only [hl,decide_false,Fx,if_false]
     exact FJ ⟨rfl,rfl,SF.more hs (by lia) (IW.mp hl)⟩
   ·rintro c st9 ⟨rfl,rfl,hs⟩
    rw [show max m nrem=nrem by lia] at hs |-
    exact ⟨rfl,nrem,rfl,by lia,Fy _,hs,.inl rfl⟩
   rintro c st9 ⟨rfl,m',rfl,g1,g2,g3,_⟩
   exact FJ (h m' _ q1 (by lia) g2 g3 q3)
  ·rw [if_neg hq]
   have hsz:lo+m<=(arrOf st4).size:=by rw [c1.size]; lia
   refine FA (Jo ?_)
   have q1:SB a₀ P (setArr st4 (mirror (arrOf st4) lo (lo+m) ((lo+m - lo) / 2))):=c1.put (I0 _ _ _ _)
   have q2:SF (arrOf (setArr st4 (mirror (arrOf st4) lo (lo+m) ((lo+m - lo) / 2)))) lo m:=fun i j hi hij hj=>by
    show K (mirror (arrOf st4) lo (lo+m) ((lo+m - lo) / 2)) i<=K (mirror (arrOf st4) lo (lo+m) ((lo+m - lo) / 2)) j
    rw [JT hsz,JT hsz,if_pos (by lia),if_pos (by lia)]
    exact c2 _ _ (by lia) (by lia) (by lia)
   have q3:∀ i,i < lo->K (arrOf (setArr st4 (mirror (arrOf st4) lo (lo+m) ((lo+m - lo) / 2)))) i=K (arrOf st) i:=fun i hi=>by
    show K (mirror (arrOf st4) lo (lo+m) ((lo+m - lo) / 2)) i=_
    rw [JT hsz,if_neg (by lia)]
    exact c5 i hi
   generalize setArr st4 (mirror (arrOf st4) lo (lo+m) ((lo+m - lo) / 2))=st5 at q1 q2 q3 |-
   refine FA (HS (GN (I:=fun x c st'=>st5=st'/\c=(none,x)/\SF (arrOf st5) lo x)
    (Q:=fun c st'=>st5=st'/\∃ mm,c=(none,mm)/\m<=mm/\mm<=nrem/\SF (arrOf st5) lo mm/\(mm=nrem\/K (arrOf st5) (lo+mm) < K (arrOf st5) (lo+mm - 1))) ?_ ?_ ⟨rfl,rfl,q2⟩) ?_)
   ·rintro x c st8 hax hxn ⟨rfl,rfl,hs⟩
    dsimp only
    refine FA (c7 q1 h0 (by lia) (by lia) ?_)
    by_cases hl:K (arrOf st5) (lo+x) < K (arrOf st5) (lo+x - 1)
    ·simp only [hl,decide_true,if_true]
     exact FJ ⟨rfl,x,rfl,hax,by lia,hs,.inr hl⟩
    ·simp only [hl,decide_false,Fx,if_false]
     exact FJ ⟨rfl,rfl,SF.more hs (by lia) (IW.mp hl)⟩
   ·rintro c st9 ⟨rfl,rfl,hs⟩
    rw [show max m nrem=nrem by lia] at hs |-
    exact ⟨rfl,nrem,rfl,by lia,Fy _,hs,.inl rfl⟩
   rintro c st9 ⟨rfl,m',rfl,g1,g2,g3,_⟩
   exact FJ (h m' _ q1 (by lia) g2 g3 q3)
end
section
variable {prog:Gi} {w:GF} {A:GG} {E:Fk->Fq->Prop} {s:Fq} {a₀:Array GZ}
theorem SB.pending {P P':Array (Nat × Nat × Nat)} {st:G6} (h:SB a₀ P st):SB a₀ P' (setPending st P'):=⟨h.perm,h.kind,h.failed,rfl⟩
def xR (a₀:Array GZ) (st:G6):Prop:=(SB a₀ #[(0,a₀.size,0)] st/\SF (arrOf st) 0 a₀.size)\/∃ n1 n2 pw,SB a₀ #[(0,n1,pw),(n1,n2,0)] st/\n1+n2=a₀.size/\1<=n1/\1<=n2/\SF (arrOf st) 0 n1/\SF (arrOf st) n1 n2
theorem wX {st:G6} {Q:Unit->G6->Prop} (h0:IntKeys a₀) (hB:SB a₀ #[] st) (h64:64<=a₀.size) (h128:a₀.size < 128)
  (h:∀ st',(arrOf st').Perm a₀->failedOf st'=none->SortedTo (arrOf st') a₀.size->Q () st'):wpS (model prog w) A E s sortRuns' Q st:=by
 rw [sortRuns'_eq]
 refine FA (JR ?_)
 dsimp only
 have hmr:minRun' a₀.size a₀.size 0=a₀.size / 2+a₀.size % 2:=by
  obtain ⟨f,hf⟩:∃ f,a₀.size=f+1+1:=⟨a₀.size - 2,by lia⟩
  have:minRun' (f+1+1) a₀.size 0=a₀.size / 2+a₀.size % 2:=by
   rw [minRun'_succ,if_neg (by lia),minRun'_succ,if_pos (by lia),Nat.max_eq_right (FI _)]
  rwa [<- hf] at this
 simp only [hB.size,hmr]
 refine FA (HS (GN
  (I:=fun x c st'=>(x=0/\c=(none,0)/\SB a₀ #[] st')\/(x=1/\∃ n,c=(none,n)/\a₀.size / 2+a₀.size % 2<=n/\n < a₀.size/\SB a₀ #[(0,n,0)] st'/\SF (arrOf st') 0 n)\/(1<=x/\c=(none,a₀.size)/\xR a₀ st'))
  (Q:=fun c st'=>c=(none,a₀.size)/\xR a₀ st') ?step ?fin (.inl ⟨rfl,rfl,hB⟩)) ?post)
 case fin =>
  rintro c st' (⟨hx,_⟩ | ⟨hx,_⟩ | ⟨_,hc,hD⟩)
  ·lia
  ·lia
  ·exact ⟨hc,hD⟩
 case step =>
  rintro x c st' _ hx (⟨rfl,rfl,b⟩ | ⟨rfl,n,rfl,n1,n2,b,sf⟩ | ⟨hx1,rfl,hD⟩)
  ·dsimp only
   rw [if_neg (by lia)]
   simp only [Nat.sub_zero,Hw]
   refine FA (n9 h0 (by lia) (by lia) b fun m st2 b2 m1 m2 sf2 _=>?_)
   dsimp only
   have go:∀ (n:Nat) (st3:G6),a₀.size / 2+a₀.size % 2<=n->n<=a₀.size->SB a₀ #[] st3->SF (arrOf st3) 0 n ->
     ((1=0/\((none:Option Unit),n)=(none,0)/\SB a₀ #[] (setPending st3 ((pendingOf st3).push (0,n,0))))\/(True/\∃ n',((none:Option Unit),n)=(none,n')/\a₀.size / 2+a₀.size % 2<=n'/\n' < a₀.size/\SB a₀ #[(0,n',0)] (setPending st3 ((pendingOf st3).push (0,n,0)))/\SF (arrOf (setPending st3 ((pendingOf st3).push (0,n,0)))) 0 n')\/(1<=1/\((none:Option Unit),n)=(none,a₀.size)/\xR a₀ (setPending st3 ((pendingOf st3).push (0,n,0))))):=by
    intro n st3 g1 g2 g3 g4
    have ep:(pendingOf st3).push (0,n,0) = #[(0,n,0)]:=by rw [g3.pend]; rfl
    rw [ep]
    by_cases z:n=a₀.size
    ·exact .inr (.inr ⟨Fy _,by rw [z],.inl ⟨by rw [<- z]; exact g3.pending,by rw [<- z]; exact g4⟩⟩)
    ·exact .inr (.inl ⟨trivial,n,rfl,g1,by lia,g3.pending,g4⟩)
   by_cases hlt:m < a₀.size / 2+a₀.size % 2
   ·rw [if_pos hlt]
    refine FA (KL (Jl ⟨rfl,?_⟩))
    refine FA (nL h0 (by lia) (by lia) b2 sf2 fun st3 b3 sf3 _=>?_)
    simp only [HV,Fx,if_false]
    refine FA (JR ?_)
    have hb:(pendingOf st3).back? = none:=by rw [b3.pend]; rfl
    rw [hb]
    dsimp only
    exact FA (Ju (FJ (go _ st3 (by lia) (by lia) b3 sf3)))
   ·rw [if_neg hlt]
    refine FA (JR ?_)
    have hb:(pendingOf st2).back? = none:=by rw [b2.pend]; rfl
    rw [hb]
    dsimp only
    exact FA (Ju (FJ (go _ st2 (by lia) m2 b2 sf2)))
  ·dsimp only
   rw [if_neg (by lia)]
   refine FA (n9 h0 (by lia) (by lia) b fun m st2 b2 m1 m2 sf2 pre2=>?_)
   dsimp only
   have keep:∀ st3:G6,(∀ i,i < n->K (arrOf st3) i=K (arrOf st') i)->SF (arrOf st3) 0 n:=fun st3 hp i j hi hij hj=>by
    rw [hp i (by lia),hp j (by lia)]
    exact sf i j hi hij hj
   by_cases hlt:m < a₀.size / 2+a₀.size % 2
   ·rw [if_pos hlt]
    refine FA (KL (Jl ⟨rfl,?_⟩))
    rw [show min (a₀.size - n) (a₀.size / 2+a₀.size % 2)=a₀.size - n by lia]
    refine FA (nL h0 (by lia) (by lia) b2 sf2 fun st3 b3 sf3 pre3=>?_)
    simp only [HV,Fx,if_false]
    refine FA (JR ?_)
    have hb:(pendingOf st3).back? = some (0,n,0):=by rw [b3.pend]; rfl
    rw [hb]
    dsimp only
    refine FA (HS (GN (I:=fun _ c st''=>st3=st''/\c=(none,())) (Q:=fun c st''=>st3=st''/\c=(none,())) ?_ (fun _ _ hh=>hh) ⟨rfl,rfl⟩) ?_)
    ·rintro y c st'' _ _ ⟨rfl,rfl⟩
     refine FA (JR ?_)
     skip
     rw [b3.pend]
     exact FJ ⟨rfl,rfl⟩
    ·rintro c st'' ⟨rfl,rfl⟩
     dsimp only
     refine FA (Ju ?_)
     refine FA (Ju ?_)
     refine FJ (.inr (.inr ⟨by lia,(by congr 1; lia),.inr ⟨n,a₀.size - n,power' a₀.size (2*0+n) (2*0+n+n+(a₀.size - n)) a₀.size,⟨b3.perm,b3.kind,b3.failed,?_⟩,by lia,by lia,by lia,keep st3 (fun i hi=>(pre3 i hi).trans (pre2 i hi)),sf3⟩⟩))
     show ((pendingOf st3).modify ((pendingOf st3).size - 1) _).push (n,_,0)=_
     rw [b3.pend]
     first | rfl | simp [LJ] | (apply Mb; simp [LJ])
   ·rw [if_neg hlt]
    have em:m=a₀.size - n:=by lia
    subst em
    refine FA (JR ?_)
    have hb:(pendingOf st2).back? = some (0,n,0):=by rw [b2.pend]; rfl
    rw [hb]
    dsimp only
    refine FA (HS (GN (I:=fun _ c st''=>st2=st''/\c=(none,())) (Q:=fun c st''=>st2=st''/\c=(none,())) ?_ (fun _ _ hh=>hh) ⟨rfl,rfl⟩) ?_)
    ·rintro y c st'' _ _ ⟨rfl,rfl⟩
     refine FA (JR ?_)
     skip
     rw [b2.pend]
     exact FJ ⟨rfl,rfl⟩
    ·rintro c st'' ⟨rfl,rfl⟩
     dsimp only
     refine FA (Ju ?_)
     refine FA (Ju ?_)
     refine FJ (.inr (.inr ⟨by lia,(by congr 1; lia),.inr ⟨n,a₀.size - n,power' a₀.size (2*0+n) (2*0+n+n+(a₀.size - n)) a₀.size,⟨b2.perm,b2.kind,b2.failed,?_⟩,by lia,by lia,by lia,keep st2 pre2,sf2⟩⟩))
     show ((pendingOf st2).modify ((pendingOf st2).size - 1) _).push (n,_,0)=_
     rw [b2.pend]
     first | rfl | simp [LJ] | (apply Mb; simp [LJ])
  ·dsimp only
   rw [if_pos (Fy _)]
   exact FJ ⟨rfl,hD⟩
 case post =>
  rintro c st' ⟨rfl,hD⟩
  dsimp only
  refine FA (HS (GN (I:=fun y c st''=>c=(none,())/\((y=0/\xR a₀ st'')\/((arrOf st'').Perm a₀/\failedOf st''=none/\(pendingOf st'').size<=1/\SortedTo (arrOf st'') a₀.size)))
   (Q:=fun c st''=>c=(none,())/\(arrOf st'').Perm a₀/\failedOf st''=none/\SortedTo (arrOf st'') a₀.size) ?_ ?_ ⟨rfl,.inl ⟨rfl,hD⟩⟩) ?_)
  ·rintro y c st'' _ _ ⟨rfl,⟨rfl,hD⟩ | ⟨q1,q2,q3,q4⟩⟩
   ·refine FA (JR ?_)
    skip
    rcases hD with ⟨b,sf⟩ | ⟨n1,n2,pw,b,e,g1,g2,s1,s2⟩
    ·rw [if_pos (by rw [b.pend]; exact Fy 1)]
     exact FJ ⟨rfl,b.perm,b.failed,fun i j hij hj=>sf i j (FI _) hij (by lia)⟩
    ·rw [if_neg (by rw [b.pend]; simp)]
     rw [b.pend]
     refine FA (pI b.kind (b.keys h0) b.failed b.pend (by rw [b.size]; lia) g1 g2 (fun i j hij hj=>s1 i j (FI _) hij (by lia)) (fun i j hi hij hj=>s2 i j hi hij hj) fun st5 f5 p5 pm5 so5=>?_)
     refine FJ ⟨rfl,.inr ⟨pm5.trans b.perm,f5,by rw [p5]; exact Fy 1,fun i j hij hj=>so5 i j hij (by rw [pm5.size_eq,b.size]; exact hj)⟩⟩
   ·refine FA (JR ?_)
    skip
    rw [if_pos q3]
    exact FJ ⟨rfl,q1,q2,q4⟩
  ·rintro c st'' ⟨rfl,⟨hy,_⟩ | ⟨q1,q2,q3,q4⟩⟩
   ·lia
   ·exact ⟨rfl,q1,q2,q4⟩
  ·rintro c st'' ⟨rfl,q1,q2,q4⟩
   exact FJ (h _ q1 q2 q4)
end
section
variable {prog:Gi} {w:GF} {A:GG} {E:Fk->Fq->Prop} {s:Fq}
theorem xl {c:FD} {us:List Fk} {ks:List Int} {m:Nat} {P:Mo->Fq->Prop} (hc:s.heap.get? c=some (seqObj "list" us.toArray m)) (hu:Ii us ks) (l1:64<=us.length) (l2:us.length < 128)
  (q:∀ (out:Array Fk) (js:List Int),Ii out.toList js->js.Perm ks->js.Pairwise (·<=·)->P (.done (.ret .none)) { s with heap:=sortedHeap s.heap c us out }):wpAny (model prog w) A (Builtin.«list.sort» ⟨[.ref c],[]⟩) P E s:=by
 have hlt:c < s.heap.objs.size:=FK hc
 have hn:us.toArray.size=us.length:=by simp
 obtain ⟨e,h1⟩:∃ e,(s.heap.update c (Gs fun _=>#[])).get? c=some (seqObj "list" #[] e):=⟨_,get?_update_seq hc _⟩
 have h2:(((s.heap.update c (Gs fun _=>#[])).push (seqObj "tuple" us.toArray 0)).push (seqObj "list" #[] 0)).get? c=some (seqObj "list" #[] e):=Ft _ (Ft _ h1)
 have hz1:us.length<=sizeLine:=by rw [G3]; lia
 rw [list_sort_plain]
 refine mo (listItems_at hc rfl (mo (Ko hc rfl (mo (Lh h1 rfl (mo (wpAny_newTuple (mo (Kp (GH ?_) (FI _))) hz1)))) (by rw [FN]; exact hz1) (FI _))))
 show wpAny (model prog w) A _ P E { s with heap:=((s.heap.update c (Gs fun _=>#[])).push (seqObj "tuple" us.toArray 0)).push (seqObj "list" #[] 0) }
 have b2:¬ us.toArray.size < 2:=by lia
 dsimp only
 rw [if_neg b2,if_neg b2]
 obtain ⟨u1,u2,ut,rfl⟩:∃ u1 u2 ut,us=u1::u2::ut:=by
  match us,l1 with
  | u1::u2::ut,_=>exact ⟨u1,u2,ut,rfl⟩
 rw [keyKind_ints hu]
 refine mo (Fv (mo (IC (wX (a₀:=pairsOf (u1::u2::ut)) (Q:=fun _ z=>(arrOf z).Perm (pairsOf (u1::u2::ut))/\failedOf z=none/\SortedTo (arrOf z) (pairsOf (u1::u2::ut)).size)
  hu.intKeys ⟨LI _,rfl,rfl,rfl⟩ (by rw [pairsOf_size]; exact l1) (by rw [pairsOf_size]; exact l2) fun z z1 z2 z3=>⟨z1,z2,z3⟩) ?_ fun _ _ x=>x)))
 rintro ⟨⟨⟩,z⟩ s' ⟨rfl,z1,z2,z3⟩
 obtain ⟨js,j1,j2,j3⟩:=sorted_out hu z1 z3
 have hz:((arrOf z).map (·.2)).size<=sizeLine+1:=by
  rw [Array.size_map,z1.size_eq,pairsOf_size,G3]
  lia
 dsimp only
 refine mo (Lh h2 rfl (mo (Ko h2 rfl ?_ (hsz2:=hz))))
 rw [z2]
 simp only [bne_self_eq_false,Fx,if_false]
 exact Fv (q _ js j1 j2 j3)
theorem sorted_far {c:FD} {us:List Fk} {ks:List Int} {Q:Fk->Fq->Prop} (hc:s.heap.IsList c us.toArray) (hu:Ii us ks) (l1:64<=us.length) (l2:us.length < 128)
  (q:∀ (out:Array Fk) (js:List Int),Ii out.toList js->js.Perm ks->js.Pairwise (·<=·)->Q (.ref (s.heap.objs.size+1)) { s with heap:=sortedAll s.heap us out }):wpAny (model prog w) A (call (.builtin "sorted") [.ref c]) Q E s:=by
 have hn:((s.heap.push (seqObj "list" #[] 0)).update s.heap.objs.size (Gs (·++us.toArray))).objs.size=s.heap.objs.size+1:=(Jj _ _ _).trans (size_push' _ _)
 have hL:=hn▸Gc ((s.heap.push (seqObj "list" #[] 0)).update s.heap.objs.size (Gs (·++us.toArray))) (o:=seqObj "list" us.toArray 0) rfl
 refine JB kind_sorted plain_sorted entry_sorted (args_sorted1 _) ?_
 unfold Builtin.«sorted»
 have hz1:us.length<=sizeLine:=by rw [G3]; lia
 refine mo (m:=checkCount "sorted" 1 1 _) (Fv (mo (collect_list hc (mo (Kp ?_ hz1)) hz1)))
 show wpAny _ _ _ _ _ { s with heap:=((s.heap.push (seqObj "list" #[] 0)).update s.heap.objs.size (Gs (·++us.toArray))).push (seqObj "list" us.toArray 0) }
 rw [hn]
 exact mo (GH (HK slot_list_sort ⟨_,hL,rfl⟩ LG (xl hL hu l1 l2 fun out js a1 a2 a3=>⟨_,rfl,Fv ⟨_,rfl,q out js a1 a2 a3⟩⟩) (args_list_sort _)))
end
end Lg
namespace L2
open PySem PySem.Spec PyProof.Rows
theorem oY {X:Cx}:dk X (.builtin "sorted") (fun xs H Q=>∃ (p:FD) (ns:List Int),xs=[.ref p]/\ai X.K H p (ns.map V.int)/\ns.length < 128/\∀ (q:FD) (ms:List Int),H q=none->ms.Perm ns->ms.Pairwise (·<=·)->Q (.ref q) (upd H q (.lst (ms.map V.int)))):=by
 intro pins s σ H xs us Q I r h
 obtain ⟨p,ns,rfl,hl,h2,q⟩:=h
 by_cases h64:ns.length < 64
 ·exact jM pins s σ H _ us Q I r ⟨p,ns,rfl,hl,h64,q⟩
 obtain ⟨u,rfl,ru⟩:=vals1 r
 cases ru
 obtain ⟨its,r',pl,hz⟩:=I.list hl
 have hi:Ii its ns:=intsAre_of r'
 refine Lg.sorted_far pl.isList hi (by rw [hi.length]; lia) (by rw [hi.length]; exact h2) fun out ms ho hp hs=>?_
 obtain ⟨e,he⟩:=LD s.heap its out
 have lm:(ms.map V.int).length<=sizeLine:=by rw [Do,hp.length_eq]; exact sz (by lia)
 exact ⟨.ref _,_,I.laid (t':=s.toks) (o:=.lst (ms.map V.int)) (fun b u e=>Lf e) (IJ _) ⟨lm,out.toList,e,iG ho,by simpa [seqObj] using he⟩,rfl,q _ ms (I.hok.fresh (IJ _)) hp hs⟩
end L2
namespace L2
open PySem PySem.Spec PyProof.Rows
section
variable {X:Cx} {tg:II}
end
section
variable {X:Cx} {a b c d:II} {ta tb tc td:TE} {pos:Pos}
noncomputable def Ed (r1 r2 r3:R2) (ta tb tc td:TE):TE:=fun σ H Q=>ta σ H fun x H1=>tb σ H1 fun y H2=>r1 x y H2 fun z H3=>∃ k,z = .bl k /\
 (if k=true then tc σ H3 fun w' H4=>r2 y w' H4 fun z' H5=>∃ k',z' = .bl k'/\(if k'=true then td σ H5 fun v' H6=>r3 w' v' H6 Q else Q (.bl false) H5) else Q (.bl false) H3)
theorem yU {o1 o2 o3:CmpOp} {r1 r2 r3:R2} (h1:cC X (compareOp o1) r1) (h2:cC X (compareOp o2) r2) (h3:cC X (compareOp o3) r3) (ha:PE X a ta) (hb:PE X b tb) (hc:PE X c tc) (hd:PE X d td)
  (hm:lastMarks [o1,o2,o3] [b,c,d]=false:=by with_unfolding_all rfl):PT X (.Compare a [o1,o2,o3] [b,c,d] pos) (xA (Ed r1 r2 r3 ta tb tc td)):=by
 intro pins s σ H Q I h
 refine isTrue_chain (aI (ha pins s σ H _ I h) fun v s1 ⟨x,H1,I1,x1,q1⟩=>test_link (aI (hb pins s1 σ H1 _ I1 q1) fun u s2 ⟨y,H2,I2,x2,q2⟩ =>
  aI (h1 pins s2 σ H2 x y v u _ I2 x1 x2 q2) fun e s3 ⟨z,H3,I3,x3,k,ek,q3⟩=>?_)) hm
 subst ek
 cases x3
 refine GT ?_
 cases k with
 | false =>
  obtain ⟨k',e',q'⟩:=q3
  cases e'
  exact ite_ff ⟨H3,I3,q'⟩
 | true =>
  refine ite_tt (test_link (aI (hc pins s3 σ H3 _ I3 q3) fun w' s4 ⟨z',H4,I4,x4,q4⟩=>aI (h2 pins s4 σ H4 y z' u w' _ I4 x2 x4 q4) fun d' s5 ⟨z2,H5,I5,x5,k2,e2,q5⟩=>?_))
  subst e2
  cases x5
  refine GT ?_
  cases k2 with
  | false =>
   obtain ⟨k',e',q'⟩:=q5
   cases e'
   exact ite_ff ⟨H5,I5,q'⟩
  | true =>
   refine ite_tt (test_last (aI (hd pins s5 σ H5 _ I5 q5) fun w2 s6 ⟨z3,H6,I6,x6,q6⟩=>aI (h3 pins s6 σ H6 z' z3 w' w2 _ I6 x4 x6 q6) fun d2 s7 ⟨z4,H7,I7,x7,k3,e3,q7⟩=>?_))
   subst e3
   cases x7
   exact GT ⟨H7,I7,q7⟩
end
end L2
namespace Ck
open PySem L2
theorem ba.prs {K:Ga} {H:Hp} {a b:FD} {ps qs:List Pair} (ne:a≠b) (ha:aX H a ps) (hb:aX H b qs):ba K H 2 (.ref a) (.ref b) (decide (ps=qs)):=by
 obtain ⟨xs,ea,lx,px⟩:=ha.len
 obtain ⟨ys,eb,ly,py⟩:=hb.len
 by_cases hl:ps.length=qs.length
 ·have h:=ba.lst (K:=K) (n:=1) (e:=fun j=>decide (ps.getD j (0,0)=qs.getD j (0,0))) ne (ai.of ea) (ai.of eb) (by lia) (fun j x y hx hy=>by
   obtain ⟨p,t,hp,rfl,ht⟩:=px.get hx
   obtain ⟨r,u,hr,rfl,hu⟩:=py.get hy
   rw [AC,AC,hp,hr]
   show ba K H 1 _ _ (decide (p=r))
   by_cases e:t=u
   ·subst e
    have:p=r:=by
     rw [ht] at hu
     injection hu with hu; injection hu with hu
     injection hu with h1 h2; injection h2 with h2 _
     injection h1 with h1; injection h2 with h2
     exact JQ h1 h2
    rw [decide_eq_true this]
    exact ba.same
   ·have:=ba.two (K:=K) (n:=0) e ht hu
    have e2:decide (p=r)=(decide (p.1=r.1)&&decide (p.2=r.2)):=by
     rw [G8,FO,decide_eq_true_iff,decide_eq_true_iff,decide_eq_true_iff]
     exact ⟨fun z=>by rw [z]; exact ⟨rfl,rfl⟩,fun z=>JQ z.1 z.2⟩
    rw [e2]
    exact this)
  have e:(FC xs.length).all (fun j=>decide (ps.getD j (0,0)=qs.getD j (0,0)))=decide (ps=qs):=by
   rw [G8,Gn,decide_eq_true_iff]
   constructor
   ·intro h
    refine JF hl fun k h1 h2=>?_
    have:=of_decide_eq_true (h k (FV.mpr (by lia)))
    rw [AC,AC,Da h1,Da h2] at this
    exact this
   ·intro h k _
    rw [h]
    exact decide_eq_true rfl
  rw [e] at h
  exact h
 ·have:decide (ps=qs)=false:=decide_eq_false fun z=>hl (by rw [z])
  rw [this]
  exact ba.lstN ne (ai.of ea) (ai.of eb) (by lia)
end Ck
namespace Ck
open PySem L2
noncomputable def bE:List Pair->List Int
 | []=>[]
 | p::ps=>p.1::p.2::bE ps
theorem gC:∀ ps:List Pair,(bE ps).length=2*ps.length
 | []=>rfl
 | p::ps=>by
  show (bE ps).length+1+1=2*(ps.length+1)
  have:=gC ps
  lia
theorem jc:∀ ps qs:List Pair,bE (ps++qs)=bE ps++bE qs
 | [],qs=>rfl
 | p::ps,qs=>by
  show p.1::p.2::bE (ps++qs)=_
  rw [jc ps qs]
  rfl
theorem mT {x:Int}:∀ {ps:List Pair},x∈bE ps↔∃ p∈ps,x=p.1\/x=p.2
 | []=>by simp [bE]
 | p::ps=>by
  show x∈p.1::p.2::bE ps↔_
  rw [FL,FL,mT (ps:=ps)]
  constructor
  ·rintro (h | h | ⟨r,hr,h⟩)
   ·exact ⟨p,Ge ..,.inl h⟩
   ·exact ⟨p,Ge ..,.inr h⟩
   ·exact ⟨r,FE _ hr,h⟩
  ·rintro ⟨r,hr,h⟩
   rcases FL.mp hr with rfl | hr
   ·rcases h with h | h
    ·exact .inl h
    ·exact .inr (.inl h)
   ·exact .inr (.inr ⟨r,hr,h⟩)
noncomputable abbrev fK (ps:List Pair) (k:Nat):Int:=(ps.getD k (0,0)).1
noncomputable abbrev vj (ps:List Pair) (k:Nat):Int:=(ps.getD k (0,0)).2
noncomputable def uy (ps:List Pair) (k:Nat):Bool:=decide (fK ps k < vj ps k)&&(decide (k=0) || decide (fK ps (k - 1) < fK ps k))
noncomputable def gS (p r:Pair):Bool:=decide (p.1 < r.1)&&(decide (r.1 < p.2)&&decide (p.2 < r.2))
noncomputable def cx (ps:List Pair):Bool:=ps.any fun p=>ps.any (gS p)
noncomputable def eZ (ps:List Pair):Bool:=(FC ps.length).all (uy ps)&&(ck (bE ps)&&!cx ps)
theorem lI {ps:List Pair}:(FC ps.length).all (uy ps)=true↔∀ k,k < ps.length->fK ps k < vj ps k/\(k=0\/fK ps (k - 1) < fK ps k):=by
 rw [Gn]
 constructor
 ·intro h k hk
  have:=h k (FV.mpr hk)
  unfold uy at this
  simpa using this
 ·intro h k hk
  have:=h k (FV.mp hk)
  unfold uy
  simpa using this
theorem u4 {ps:List Pair} (h:∀ k,k < ps.length->k=0\/fK ps (k - 1) < fK ps k):∀ (j i:Nat),i < j->j < ps.length->fK ps i < fK ps j
 | 0,i,hi,_=>absurd hi (Iq _)
 | j+1,i,hi,hj=>by
  have h1:=(h (j+1) hj).resolve_left (by lia)
  rw [HI] at h1
  by_cases e:i=j
  ·subst e; exact h1
  ·exact Int.lt_trans (u4 h j i (by lia) (by lia)) h1
theorem tT {ps:List Pair} {k:Nat} (h:k < ps.length):ps.getD k (0,0)∈ps:=by
 rw [AC,Da h]
 exact Hr h
theorem uK {ps:List Pair} {p:Pair} (h:p∈ps):∃ k,k < ps.length/\ps.getD k (0,0)=p:=by
 obtain ⟨k,hk,e⟩:=Ir h
 exact ⟨k,hk,by rw [AC,Da hk]; exact e⟩
theorem mL {ps:List Pair} (h:(bE ps).Nodup):ps.Pairwise fun p q=>p.1≠q.1:=by
 induction ps with
 | nil=>exact .nil
 | cons p ps ih =>
  have h':(p.1::p.2::bE ps).Nodup:=h
  rw [G9,G9] at h'
  refine .cons (fun q hq e=>h'.1 ?_) (ih h'.2.2)
  rw [e]
  exact FE _ (mT.mpr ⟨q,hq,.inl rfl⟩)
theorem kK (n:Nat):(cL n).Nodup:=(kG n).imp fun h=>Int.ne_of_lt h
theorem iO {ps qs:List Pair} (hp:qs.Perm ps) (hs:qs.Pairwise bH) (hE:ck (bE ps)=true):decide (ps=qs)=true↔∀ k,k < ps.length->k=0\/fK ps (k - 1) < fK ps k:=by
 have nd:(bE ps).Nodup:=((dc _).mp hE).nodup_iff.mpr (kK _)
 have ne:=mL nd
 rw [decide_eq_true_iff]
 constructor
 ·intro e k hk
  rw [<- e] at hs
  by_cases h0:k=0
  ·exact .inl h0
  refine .inr ?_
  have h1:=FP.mp hs (k - 1) k (by lia) hk (by lia)
  have h2:=FP.mp ne (k - 1) k (by lia) hk (by lia)
  have e1:ps.getD (k - 1) (0,0)=ps[k - 1]:=by rw [AC,Da (by lia)]; rfl
  have e2:ps.getD k (0,0)=ps[k]:=by rw [AC,Da hk]; rfl
  unfold fK
  rw [e1,e2]
  unfold bH at h1
  lia
 ·intro h
  refine Hv (le:=bH) (fun a b _ _ h1 h2=>?_) ?_ hs hp.symm
  ·unfold bH at h1 h2
   exact JQ (by lia) (by lia)
  ·refine FP.mpr fun i j hi hj hij=>?_
   have:=u4 h j i hij hj
   unfold fK at this
   rw [AC,AC,Da hi,Da hj] at this
   exact .inl this
theorem Bo {ps:List Pair}:(ps.all fun p=>decide (p.1 < p.2))=true↔∀ k,k < ps.length->fK ps k < vj ps k:=by
 rw [Gn]
 constructor
 ·intro h k hk
  exact of_decide_eq_true (h _ (tT hk))
 ·intro h p hp
  obtain ⟨k,hk,rfl⟩:=uK hp
  exact decide_eq_true (h k hk)
theorem uc {ps:List Pair} (h:ck (bE ps)=false):eZ ps=false:=by unfold eZ; rw [h]; simp
theorem rj {ps qs:List Pair} (hp:qs.Perm ps) (hs:qs.Pairwise bH) (hE:ck (bE ps)=true) (h:ps≠qs):eZ ps=false:=by
 cases e:eZ ps with
 | false=>rfl
 | true =>
  unfold eZ at e
  rw [FO] at e
  exact absurd (of_decide_eq_true ((iO hp hs hE).mpr fun k hk=>(lI.mp e.1 k hk).2)) h
theorem pV {ps qs:List Pair} (hp:qs.Perm ps) (hs:qs.Pairwise bH) (hE:ck (bE ps)=true) (h:ps=qs):eZ ps=((ps.all fun p=>decide (p.1 < p.2))&&!cx ps):=by
 have a:=(iO hp hs hE).mp (decide_eq_true h)
 have b:(FC ps.length).all (uy ps)=ps.all fun p=>decide (p.1 < p.2):=by
  rw [G8,lI,Bo]
  exact ⟨fun h k hk=>(h k hk).1,fun h k hk=>⟨h k hk,a k hk⟩⟩
 unfold eZ
 rw [b,hE,Hs]
theorem iB {ps:List Pair}:cx ps=true↔∃ p∈ps,∃ r∈ps,p.1 < r.1/\r.1 < p.2/\p.2 < r.2:=by
 unfold cx
 rw [ID]
 constructor
 ·rintro ⟨p,hp,h⟩
  obtain ⟨r,hr,h⟩:=ID.mp h
  unfold gS at h
  exact ⟨p,hp,r,hr,by simpa using h⟩
 ·rintro ⟨p,hp,r,hr,h⟩
  exact ⟨p,hp,ID.mpr ⟨r,hr,by unfold gS; simpa using h⟩⟩
end Ck
namespace L2
open PySem PySem.Spec PyProof.Rows
section
variable {κ:Type} [DecidableEq κ]
end
section
variable {P:Gi} {w:GF} {H:Hp} {h:HM} {a:FD}
end
section
variable {X:Cx} {pins:List (FD × Obj)} {σ:St} {H:Hp} {s:Fq} {a:FD} {y v:V} {u r:Fk} {o:Option V} {A:GG} {E:Fk->Fq->Prop}
end
section
variable {X:Cx} {pins:List (FD × Obj)} {σ:St} {H:Hp} {s:Fq} {a:FD} {kvs:List (Key × V)} {k:Key} {u:Fk} {A:GG} {E:Fk->Fq->Prop}
end
section
variable {X:Cx} {o i e value:II} {pos pos' tpos:Pos} {td ty tv:TE}
end
section
variable {X:Cx} {pos:Pos}
end
section
variable {X:Cx} {pins:List (FD × Obj)} {σ:St} {H:Hp} {s:Fq} {a:FD} {y d:V} {u r:Fk} {o:Option V} {A:GG} {E:Fk->Fq->Prop}
end
section
variable {X:Cx} {o e f:II} {apos cpos:Pos} {td ty tx:TE}
end
section
variable {X:Cx} {pins:List (FD × Obj)} {σ:St} {H:Hp} {s:Fq} {a:FD} {kvs:List (Key × V)} {A:GG} {E:Fk->Fq->Prop}
end
section
variable {X:Cx} {pins:List (FD × Obj)} {σ:St} {H:Hp} {s:Fq} {a:FD} {y:V} {u:Fk} {A:GG} {E:Fk->Fq->Prop}
end
end L2
namespace L2
open PySem PySem.Spec PyProof.Rows
section
variable {κ:Type} [DecidableEq κ]
end
end L2
namespace Zp
open PySem PyProof.Rows
noncomputable abbrev gQ (h:HM) (z TI TO T:FD) (b:Bool):Prop :=
 h.get? z=some { cls:=.type "zip",dict:=none,data:=.fields #[rawInt T,.bool b,.bool false,.ref TI,.ref TO],slots:=#[] }
section
variable {prog:Gi} {w:GF} {A:GG} {E:Fk->Fq->Prop} {s:Fq}
theorem pQ {M:Model} {a:FD} {Q:Option Obj->Fq->Prop} (h:Q (s.heap.get? a) s):wpAny M A (loadIfAlive a) Q E s:=fun _ _ _=>h
theorem mz {z TI TO T:FD} {b:Bool} {oT:Obj} {Q:Bool->Fq->Prop} (hz:gQ s.heap z TI TO T b) (hT:s.heap.get? T=some oT)
  (q:∀ h',gQ h' z TI TO T true->(∀ c o,c≠z->s.heap.get? c=some o->h'.get? c=some o)->h'.objs.size=s.heap.objs.size->Q false { s with heap:=h' }):wpAny (model prog w) A (Builtin.SmallTypes.ownedTupleIsFree (.ref z)) Q E s:=by
 unfold Builtin.SmallTypes.ownedTupleIsFree
 refine mo (Kx hz rfl (x:=rawInt T) rfl ?_)
 unfold rawInt
 refine mo (pQ ?_)
 rw [show ((T:Nat):Int).toNat=T by lia,hT]
 rw [if_neg (by simp)]
 refine mo (Kx hz rfl (x:=.bool b) rfl ?_)
 cases b with
 | true =>
  rw [if_neg (by decide)]
  exact mo (Fv (Fv (q s.heap hz (fun c o _ e=>e) rfl)))
 | false =>
  rw [if_pos (by decide)]
  exact mo (JU hz (by simp) fun h1 hz1 hs1=>Fv (q h1 hz1 (fun c o n e=>hs1.extBut _ _ n e) hs1.1))
theorem uk {z TI TO T i1 i2 l1 l2:FD} {k1 k2:Nat} {xs ys:Array Fk} {x y:Fk} {b:Bool} {oT:Obj} {Q:Fk->Fq->Prop} (D:KM z TI TO i1 i2 l1 l2)
  (hz:gQ s.heap z TI TO T b) (hT:s.heap.get? T=some oT) (hTI:Ky s.heap TI (.ref i1) (.ref i2)) (h1:s.heap.IsListIter i1 l1 k1) (h2:s.heap.IsListIter i2 l2 k2) (eP:s.heap.IsList l1 xs) (fg:s.heap.IsList l2 ys) (hx:xs[k1]? = some x) (hy:ys[k2]? = some y)
  (hQ:∀ h',gQ h' z TI TO T true->h'.IsListIter i1 l1 (k1+1)->h'.IsListIter i2 l2 (k2+1)->Ky h' s.heap.objs.size x y->h'.objs.size=s.heap.objs.size+1 ->
   (∀ c o,c≠z->c≠i1->c≠i2->s.heap.get? c=some o->h'.get? c=some o)->Q (.ref s.heap.objs.size) { s with heap:=h' }) :
  wpAny (model prog w) A (Builtin.«zip.__next__» ⟨[.ref z],[]⟩) (fun fin s'=>∃ v,fin = .done (.ret v)/\Q v s') E s:=by
 show wpAny _ _ (field (.ref z) 2 >>= _) _ _ _
 refine mo (Kx hz rfl (x:=.bool false) rfl ?_)
 show wpAny _ _ (field (.ref z) 3 >>= _) _ _ _
 refine mo (Kx hz rfl (x:=.ref TI) rfl (mo (Jk hTI rfl ?_)))
 show wpAny _ _ (Builtin.SmallTypes.ownedTupleIsFree (.ref z) >>= _) _ _ _
 refine mo (mz hz hT fun ha hza ka sza=>?_)
 rw [if_neg (by decide)]
 simp only [JP,KQ,IH,<- IH]
 refine mo (mo (mo (GH ?_)))
 show wpAny _ _ (Builtin.SmallTypes.nextOf (.ref i1) >>= _) _ _ _
 refine mo (JX (h1.at fun o e=>ka _ o D.i1z e) (eP.at fun o e=>ka _ o D.l1z e) hx fun hb h1b hsb=>Fv (Fv ?_))
 refine mo (mo (GH ?_))
 show wpAny _ _ (Builtin.SmallTypes.nextOf (.ref i2) >>= _) _ _ _
 refine mo (JX ((h2.at fun o e=>ka _ o D.i2z e).extBut hsb.extBut D.i12.symm) ((fg.at fun o e=>ka _ o D.l2z e).extBut hsb.extBut D.l2i1) hy fun hc h2c hsc=>Fv (Fv (Fv ?_)))
 refine mo (wpAny_newTuple (Fv ⟨_,rfl,?_⟩) (by show 2<=sizeLine; rw [G3]; lia))
 have szc:hc.objs.size=s.heap.objs.size:=by rw [hsc.1,hsb.1,sza]
 have up:∀ c o,hc.get? c=some o->(hc.push { cls:=.type "tuple",data:=.seq #[x,y] }).get? c=some o:=fun c o e=>Ft _ e
 have hzc:gQ hc z TI TO T true:=hsc.extBut _ _ D.i2z.symm (hsb.extBut _ _ D.i1z.symm hza)
 have hT8:Ky (hc.push { cls:=.type "tuple",data:=.seq #[x,y] }) hc.objs.size x y:=Gc _ rfl
 show Q (.ref hc.objs.size) { s with heap:=hc.push { cls:=.type "tuple",data:=.seq #[x,y] } }
 rw [szc] at hT8 |-
 exact hQ _ (up _ _ hzc) ((h1b.extBut hsc.extBut D.i12).at fun o e=>up _ o e) (h2c.at fun o e=>up _ o e) hT8 (by rw [Hk,szc]) fun c o c1 c2 c3 e=>up _ _ (hsc.extBut _ _ c3 (hsb.extBut _ _ c2 (ka _ _ c1 e)))
theorem vH {z TI TO T i1 i2 l1 l2:FD} {k1 k2:Nat} {xs ys:Array Fk} {b:Bool} {oT:Obj} {Q:Mo->Fq->Prop} (hh:A.handled=none) (D:KM z TI TO i1 i2 l1 l2)
  (hz:gQ s.heap z TI TO T b) (hT:s.heap.get? T=some oT) (hTI:Ky s.heap TI (.ref i1) (.ref i2)) (h1:s.heap.IsListIter i1 l1 k1) (h2:s.heap.IsListIter i2 l2 k2) (eP:s.heap.IsList l1 xs) (fg:s.heap.IsList l2 ys) (hend:xs[k1]? = none\/ys[k2]? = none)
  (hE:∀ h' e,(∀ c o,c≠z->c≠i1->c≠i2->s.heap.get? c=some o->h'.get? c=some o)->(∃ o,h'.get? e=some o/\o.cls = .type "StopIteration")->E (.ref e) { s with heap:=h' }) :
  wpAny (model prog w) A (Builtin.«zip.__next__» ⟨[.ref z],[]⟩) Q E s:=by
 show wpAny _ _ (field (.ref z) 2 >>= _) _ _ _
 refine mo (Kx hz rfl (x:=.bool false) rfl ?_)
 show wpAny _ _ (field (.ref z) 3 >>= _) _ _ _
 refine mo (Kx hz rfl (x:=.ref TI) rfl (mo (Jk hTI rfl ?_)))
 show wpAny _ _ (Builtin.SmallTypes.ownedTupleIsFree (.ref z) >>= _) _ _ _
 refine mo (mz hz hT fun ha hza ka sza=>?_)
 rw [if_neg (by decide)]
 simp only [JP,KQ,IH,<- IH]
 refine mo (mo (mo (GH ?_)))
 show wpAny _ _ (Builtin.SmallTypes.nextOf (.ref i1) >>= _) _ _ _
 cases hx:xs[k1]? with
 | none =>
  exact mo (wpAny_nextOf_list_end hh (h1.at fun o e=>ka _ o D.i1z e) (eP.at fun o e=>ka _ o D.l1z e) hx fun hb e hsb he=>hE hb e (fun c o c1 c2 _ x=>hsb _ _ c2 (ka _ _ c1 x)) he)
 | some x =>
  have hy:ys[k2]? = none:=by rcases hend with h | h; rw [hx] at h; cases h; exact h
  refine mo (JX (h1.at fun o e=>ka _ o D.i1z e) (eP.at fun o e=>ka _ o D.l1z e) hx fun hb h1b hsb=>Fv (Fv ?_))
  refine mo (mo (GH ?_))
  show wpAny _ _ (Builtin.SmallTypes.nextOf (.ref i2) >>= _) _ _ _
  exact mo (wpAny_nextOf_list_end hh ((h2.at fun o e=>ka _ o D.i2z e).extBut hsb.extBut D.i12.symm) ((fg.at fun o e=>ka _ o D.l2z e).extBut hsb.extBut D.l2i1) hy fun hc e hsc he=>hE hc e (fun c o c1 c2 c3 x=>hsc _ _ c3 (hsb.extBut _ _ c2 (ka _ _ c1 x))) he)
theorem tU {z TI TO T i1 i2 l1 l2:FD} {k1 k2:Nat} {xs ys:Array Fk} {x y:Fk} {b:Bool} {oT:Obj} {Q:Option Fk->Fq->Prop} (D:KM z TI TO i1 i2 l1 l2)
  (hz:gQ s.heap z TI TO T b) (hT:s.heap.get? T=some oT) (hTI:Ky s.heap TI (.ref i1) (.ref i2)) (h1:s.heap.IsListIter i1 l1 k1) (h2:s.heap.IsListIter i2 l2 k2) (eP:s.heap.IsList l1 xs) (fg:s.heap.IsList l2 ys) (hx:xs[k1]? = some x) (hy:ys[k2]? = some y)
  (hQ:∀ h',gQ h' z TI TO T true->h'.IsListIter i1 l1 (k1+1)->h'.IsListIter i2 l2 (k2+1)->Ky h' s.heap.objs.size x y->h'.objs.size=s.heap.objs.size+1 ->
   (∀ c o,c≠z->c≠i1->c≠i2->s.heap.get? c=some o->h'.get? c=some o)->Q (some (.ref s.heap.objs.size)) { s with heap:=h' }) :
  wpAny (model prog w) A (pyNext (.ref z)) Q E s:=by
 have hTy:s.TypeIs (.ref z) "zip":=⟨_,hz,rfl⟩
 unfold pyNext
 exact mo (Kq (Jd (name:=FY "__next__") hTy Kz (HK Kz hTy F.entry_zip_next
  (uk D hz hT hTI h1 h2 eP fg hx hy fun h' a1 a2 a3 a4 a5 a6=>Fv (hQ h' a1 a2 a3 a4 a5 a6)) (F.args_zip_next_1 _))))
theorem xg {z TI TO T i1 i2 l1 l2:FD} {k1 k2:Nat} {xs ys:Array Fk} {b:Bool} {oT:Obj} {Q:Option Fk->Fq->Prop} (hh:A.handled=none) (D:KM z TI TO i1 i2 l1 l2)
  (hz:gQ s.heap z TI TO T b) (hT:s.heap.get? T=some oT) (hTI:Ky s.heap TI (.ref i1) (.ref i2)) (h1:s.heap.IsListIter i1 l1 k1) (h2:s.heap.IsListIter i2 l2 k2) (eP:s.heap.IsList l1 xs) (fg:s.heap.IsList l2 ys) (hend:xs[k1]? = none\/ys[k2]? = none)
  (hQ:∀ h',(∀ c o,c≠z->c≠i1->c≠i2->s.heap.get? c=some o->h'.get? c=some o)->Q none { s with heap:=h' }):wpAny (model prog w) A (pyNext (.ref z)) Q E s:=by
 have hTy:s.TypeIs (.ref z) "zip":=⟨_,hz,rfl⟩
 unfold pyNext
 refine mo (Kq (Jd (name:=FY "__next__") hTy Kz (HK Kz hTy F.entry_zip_next (vH hh D hz hT hTI h1 h2 eP fg hend fun h' e hk he=>?_) (F.args_zip_next_1 _))))
 obtain ⟨o,ho,hc⟩:=he
 exact mo (Lp (T:="StopIteration") (b:=true) ⟨o,ho,hc⟩ isSubtype_stop (Fv (hQ _ hk)))
end
end Zp
namespace Zp
open PySem PyProof.Rows
def Zs (h:HM) (z TI TO:FD) (ts:List FD):Prop:=(ts=[]/\IsZip h z TI TO .none/\∃ a b,Ky h TO a b)\/∃ T b,T∈ts/\gQ h z TI TO T b
structure ZSt (h:HM) (z TI TO i1 i2 l1 l2:FD) (xs ys:Array Fk) (ts:List FD):Prop where
 zs:Zs h z TI TO ts
 ti:Ky h TI (.ref i1) (.ref i2)
 it1:h.IsListIter i1 l1 ts.length
 it2:h.IsListIter i2 l2 ts.length
 li1:h.IsList l1 xs
 li2:h.IsList l2 ys
 tup:∀ (j:Nat) (T:FD),ts[j]? = some T->∃ x y,xs[j]? = some x/\ys[j]? = some y/\Ky h T x y/\T≠z/\T≠TO/\T≠i1/\T≠i2
 nd:ts.Nodup
 tto:∃ o,h.get? TO=some o
theorem ZSt.keep {h h':HM} {z TI TO i1 i2 l1 l2:FD} {xs ys:Array Fk} {ts:List FD} (Z:ZSt h z TI TO i1 i2 l1 l2 xs ys ts) (k:∀ b o,h.get? b=some o->(b=z\/b=TI\/b=TO\/b=i1\/b=i2\/b=l1\/b=l2\/b∈ts)->h'.get? b=some o):ZSt h' z TI TO i1 i2 l1 l2 xs ys ts:=by
 refine ⟨?_,k _ _ Z.ti (by simp),Z.it1.at fun o e=>k _ o e (by simp),Z.it2.at fun o e=>k _ o e (by simp),Z.li1.at fun o e=>k _ o e (by simp),Z.li2.at fun o e=>k _ o e (by simp),fun j T hj=>?_,Z.nd,let ⟨o,e⟩:=Z.tto; ⟨o,k _ _ e (by simp)⟩⟩
 ·rcases Z.zs with ⟨e,hz,a,b,ho⟩ | ⟨T,b,hT,hz⟩
  ·exact .inl ⟨e,k _ _ hz (by simp),a,b,k _ _ ho (by simp)⟩
  ·exact .inr ⟨T,b,hT,k _ _ hz (by simp)⟩
 ·obtain ⟨x,y,h1,h2,h3,h4⟩:=Z.tup j T hj
  exact ⟨x,y,h1,h2,k _ _ h3 (by simp [FG hj]),h4⟩
section
variable {prog:Gi} {w:GF} {A:GG} {E:Fk->Fq->Prop} {s:Fq}
theorem yL {z TI TO i1 i2 l1 l2:FD} {xs ys:Array Fk} {ts:List FD} {Q:Option Fk->Fq->Prop} (D:KM z TI TO i1 i2 l1 l2) (Z:ZSt s.heap z TI TO i1 i2 l1 l2 xs ys ts) (lt:ts.length < min xs.size ys.size)
  (q:∀ h',ZSt h' z TI TO i1 i2 l1 l2 xs ys (ts++[s.heap.objs.size])->(∀ c o,c≠z->c≠TO->c≠i1->c≠i2->s.heap.get? c=some o->h'.get? c=some o)->Q (some (.ref s.heap.objs.size)) { s with heap:=h' }):wpAny (model prog w) A (pyNext (.ref z)) Q E s:=by
 have lx:ts.length < xs.size:=by lia
 have ly:ts.length < ys.size:=by lia
 have sx:=Fz lx
 have sy:=Fz ly
 have far:∀ {c o},s.heap.get? c=some o->s.heap.objs.size≠c:=fun e=>J7 (FK e)
 have hzl:∃ o,s.heap.get? z=some o:=by
  rcases Z.zs with ⟨_,hz,_⟩ | ⟨T,b,_,hz⟩
  ·exact ⟨_,hz⟩
  ·exact ⟨_,hz⟩
 have fin:∀ h':HM,Zs h' z TI TO (ts++[s.heap.objs.size])->h'.IsListIter i1 l1 (ts.length+1)->h'.IsListIter i2 l2 (ts.length+1)->Ky h' s.heap.objs.size xs[ts.length] ys[ts.length]->(∀ c o,c≠z->c≠TO->c≠i1->c≠i2->s.heap.get? c=some o->h'.get? c=some o)->(∃ o,h'.get? TO=some o)->Q (some (.ref s.heap.objs.size)) { s with heap:=h' }:=fun h' a1 a2 a3 a4 a5 aTO=>by
  have nTO:s.heap.objs.size≠TO:=let ⟨_,e⟩:=Z.tto; far e
  refine q h' ⟨a1,a5 _ _ D.TIz D.TITO D.TIi1 D.TIi2 Z.ti,by rw [Fw]; exact a2,by rw [Fw]; exact a3,Z.li1.at fun o e=>a5 _ o D.l1z D.l1TO D.l1i1 D.l1i2 e,Z.li2.at fun o e=>a5 _ o D.l2z D.l2TO D.l2i1 D.l2i2 e,fun j T hj=>?_,?_,aTO⟩ a5
  ·by_cases e:j < ts.length
   ·rw [Hn e] at hj
    obtain ⟨x,y,h1,h2,h3,n1,n2,n3,n4⟩:=Z.tup j T hj
    exact ⟨x,y,h1,h2,a5 _ _ n1 n2 n3 n4 h3,n1,n2,n3,n4⟩
   ·rw [GX (by lia)] at hj
    have ej:j=ts.length:=by
     have:=(Fs.mp hj).1
     simp at this
     lia
    subst ej
    have eT:s.heap.objs.size=T:=by simpa using hj
    subst eT
    obtain ⟨o,ho⟩:=hzl
    exact ⟨_,_,sx,sy,a4,far ho,nTO,(by obtain ⟨_,e,_⟩:=Z.it1; exact far e),(by obtain ⟨_,e,_⟩:=Z.it2; exact far e)⟩
  ·refine Hx.mpr ⟨Z.nd,by simp,fun c hc d hd=>?_⟩
   have ed:d=s.heap.objs.size:=by simpa using hd
   obtain ⟨j,hj⟩:=Gy hc
   obtain ⟨x,y,_,_,h3,_⟩:=Z.tup j c hj
   rw [ed]
   exact (far h3).symm
 rcases Z.zs with ⟨e,hz,a,b,ho⟩ | ⟨T,b,hT,hz⟩
 ·exact wpAny_pyNext_zip_item D hz Z.ti ho Z.it1 Z.it2 Z.li1 Z.li2 sx sy fun h' a1 a2 a3 a4 a5 a6 a7=>fin h' (.inr ⟨_,false,by simp,a1⟩) a3 a4 a5 a7 ⟨_,a2⟩
 ·obtain ⟨j,hj⟩:=Gy hT
  obtain ⟨x,y,_,_,h3,_⟩:=Z.tup j T hj
  obtain ⟨o,eo⟩:=Z.tto
  exact tU D hz h3 Z.ti Z.it1 Z.it2 Z.li1 Z.li2 sx sy fun h' a1 a2 a3 a4 a5 a6=>fin h' (.inr ⟨T,true,by simp [hT],a1⟩) a2 a3 a4 (fun c o c1 _ c3 c4 e=>a6 c o c1 c3 c4 e) ⟨o,a6 _ _ D.TOz D.TOi1 D.TOi2 eo⟩
theorem BM {z TI TO i1 i2 l1 l2:FD} {xs ys:Array Fk} {ts:List FD} {Q:Option Fk->Fq->Prop} (hh:A.handled=none) (D:KM z TI TO i1 i2 l1 l2) (Z:ZSt s.heap z TI TO i1 i2 l1 l2 xs ys ts) (le:min xs.size ys.size<=ts.length)
  (q:∀ h',(∀ c o,c≠z->c≠TO->c≠i1->c≠i2->s.heap.get? c=some o->h'.get? c=some o)->Q none { s with heap:=h' }):wpAny (model prog w) A (pyNext (.ref z)) Q E s:=by
 have hend:xs[ts.length]? = none\/ys[ts.length]? = none:=by
  by_cases h:xs.size<=ts.length
  ·exact .inl (G5 h)
  ·exact .inr (G5 (by lia))
 rcases Z.zs with ⟨e,hz,a,b,ho⟩ | ⟨T,b,hT,hz⟩
 ·exact wpAny_pyNext_zip_end hh D hz Z.ti ho Z.it1 Z.it2 Z.li1 Z.li2 hend q
 ·obtain ⟨j,hj⟩:=Gy hT
  obtain ⟨x,y,_,_,h3,_⟩:=Z.tup j T hj
  exact xg hh D hz h3 Z.ti Z.it1 Z.it2 Z.li1 Z.li2 hend fun h' k=>q h' fun c o c1 _ c3 c4 e=>k c o c1 c3 c4 e
end
section
variable {prog:Gi} {w:GF} {A:GG} {R:Result->Fq->Prop}
theorem yR {z TI TO i1 i2 l1 l2 S:FD} {xs ys:Array Fk} {res:Fk} (hh:A.handled=none) (D:KM z TI TO i1 i2 l1 l2) (hS:S≠z/\S≠TI/\S≠TO/\S≠i1/\S≠i2/\S≠l1/\S≠l2) (hn:min xs.size ys.size<=1000000) :
  ∀ (k:Nat) (s:Fq) (ts:List FD) (acc:Array Fk) (c:Nat),min xs.size ys.size - ts.length=k->ts.length<=min xs.size ys.size->ZSt s.heap z TI TO i1 i2 l1 l2 xs ys ts->S∉ts->s.heap.get? S=some { cls:=.type "list",dict:=none,data:=.seq acc c,slots:=#[] }->acc.toList=ts.map FS ->
  (∀ (h':HM) (ts':List FD) (acc':Array Fk) (c':Nat),(∀ b o,b≠S->b≠z->b≠TO->b≠i1->b≠i2->s.heap.get? b=some o->h'.get? b=some o)->h'.get? S=some { cls:=.type "list",dict:=none,data:=.seq acc' c',slots:=#[] }->acc'.toList=ts'.map FS->ts'.length=min xs.size ys.size->ts'.Nodup->S∉ts' ->
   (∀ (j:Nat) (T:FD),ts'[j]? = some T->(∃ x y,xs[j]? = some x/\ys[j]? = some y/\Ky h' T x y)/\(T∈ts\/s.heap.objs.size<=T))->R (.ok (.ret res)) { s with heap:=h' }) ->
  codeAny (model prog w) A (.builtin "list.extend.loop" ⟨[.ref S,.ref z,res],[]⟩) R s:=by
 intro k
 induction k with
 | zero =>
  intro s ts acc c hk hi Z nS hl ea q
  refine GY F.entry_extend_loop ?_
  rw [GL Iw _]
  show wpAny _ A.in1 (pyNext (.ref z) >>= _) _ _ s
  refine mo (BM (A:=A.in1) hh D Z (by lia) fun h' kk=>Fv (q h' ts acc c (fun b o _ b1 b2 b3 b4 e=>kk b o b1 b2 b3 b4 e) (kk _ _ hS.1 hS.2.2.1 hS.2.2.2.1 hS.2.2.2.2.1 hl) ea (by lia) Z.nd nS fun j T hj=>?_))
  obtain ⟨x,y,h1,h2,h3,n1,n2,n3,n4⟩:=Z.tup j T hj
  exact ⟨⟨x,y,h1,h2,kk _ _ n1 n2 n3 n4 h3⟩,.inl (FG hj)⟩
 | succ k ih =>
  intro s ts acc c hk hi Z nS hl ea q
  have la:acc.size=ts.length:=by rw [<- FM,ea,Do]
  refine GY F.entry_extend_loop ?_
  rw [GL Iw _]
  show wpAny _ A.in1 (pyNext (.ref z) >>= _) _ _ s
  refine mo (yL (A:=A.in1) D Z (by lia) fun h' Z' kk=>?_)
  have hl':=kk _ _ hS.1 hS.2.2.1 hS.2.2.2.1 hS.2.2.2.2.1 hl
  have nS':S≠s.heap.objs.size:=Gk (FK hl)
  have nST:S∉ts++[s.heap.objs.size]:=by simp [nS,nS']
  show wpAny _ A.in1 (updateSeq S (·.push (.ref s.heap.objs.size)) >>= _) _ _ _
  have oth:∀ b o,b≠S->h'.get? b=some o->(h'.update S (Gs (·.push (.ref s.heap.objs.size)))).get? b=some o:=fun b o n e=>(Gv _ _ (Ih n)).trans e
  have Z2:ZSt (h'.update S (Gs (·.push (.ref s.heap.objs.size)))) z TI TO i1 i2 l1 l2 xs ys (ts++[s.heap.objs.size]):=Z'.keep fun b o e hb=>oth b o (fun z=>by
   subst z
   rcases hb with h | h | h | h | h | h | h | h
   ·exact hS.1 h
   ·exact hS.2.1 h
   ·exact hS.2.2.1 h
   ·exact hS.2.2.2.1 h
   ·exact hS.2.2.2.2.1 h
   ·exact hS.2.2.2.2.2.1 h
   ·exact hS.2.2.2.2.2.2 h
   ·exact nST h) e
  refine mo (HH hl' rfl (Fv ⟨Hh Iw _,ih { s with heap:=h'.update S (Gs (·.push (.ref s.heap.objs.size))) } (ts++[s.heap.objs.size]) (acc.push (.ref s.heap.objs.size)) _ (by rw [Fw]; show _ - (ts.length+1)=k; lia) (by rw [Fw]; show ts.length+1<=_; lia) Z2 nST (GQ _ hl' rfl) (by rw [Gp,ea,Fu]; rfl) fun h2 ts' acc' c' kk2 fg ea2 lt2 nd2 nS2 tu=>?_⟩)
   (by rw [la,G3]; lia) (by show (acc.push (.ref s.heap.objs.size)).size<=sizeLine+1; rw [Array.size_push,la,G3]; lia))
  refine q h2 ts' acc' c' (fun b o b0 b1 b2 b3 b4 e=>kk2 b o b0 b1 b2 b3 b4 (oth b o b0 (kk b o b1 b2 b3 b4 e))) fg ea2 lt2 nd2 nS2 fun j T hj=>?_
  obtain ⟨g1,g2⟩:=tu j T hj
  refine ⟨g1,?_⟩
  rcases g2 with g | g
  ·rcases FF.mp g with g | g
   ·exact .inl g
   ·exact .inr (by rw [show T=s.heap.objs.size by simpa using g]; exact Fy _)
  ·have hsz:s.heap.objs.size<=(h'.update S (Gs (·.push (.ref s.heap.objs.size)))).objs.size:=by
    rw [Jj]
    obtain ⟨x,y,_,_,h3,_⟩:=Z'.tup ts.length s.heap.objs.size (by simp)
    exact J6 (FK h3)
   exact .inr (GM hsz g)
end
end Zp
namespace Zp
open PySem PyProof.Rows
theorem yh:typeLookup (.type "zip") "__len__" = pure none:=by rw [KA,Jp]; kernel_rfl
theorem vU:typeLookup (.type "zip") "__length_hint__" = pure none:=by rw [KA,Jp]; kernel_rfl
section
variable {prog:Gi} {w:GF} {A:GG} {E:Fk->Fq->Prop} {s:Fq}
theorem vV {z:FD} {Q:Bool->Fq->Prop} (hT:s.TypeIs (.ref z) "zip") (q:Q true s):wpAny (model prog w) A (Builtin.List.listLengthHint (.ref z)) Q E s:=by
 unfold Builtin.List.listLengthHint
 refine mo (KB hT yh ?_)
 dsimp only
 exact mo (KB hT vU (Fv q))
theorem ZSt.zip {h:HM} {z TI TO i1 i2 l1 l2:FD} {xs ys:Array Fk} (Z:ZSt h z TI TO i1 i2 l1 l2 xs ys []):IsZip h z TI TO .none:=by
 rcases Z.zs with ⟨_,hz,_⟩ | ⟨T,b,hT,_⟩
 ·exact hz
 ·cases hT
theorem sH {R:Result->Fq->Prop} {z TI TO i1 i2 l1 l2 S:FD} {xs ys:Array Fk} {res:Fk} {c:Nat} (hh:A.handled=none) (D:KM z TI TO i1 i2 l1 l2) (hS:S≠z/\S≠TI/\S≠TO/\S≠i1/\S≠i2/\S≠l1/\S≠l2) (hn:min xs.size ys.size<=1000000)
  (Z:ZSt s.heap z TI TO i1 i2 l1 l2 xs ys []) (hl:s.heap.get? S=some { cls:=.type "list",dict:=none,data:=.seq #[] c,slots:=#[] })
  (q:∀ (h':HM) (ts:List FD) (acc:Array Fk) (c':Nat),(∀ b o,b≠S->b≠z->b≠TO->b≠i1->b≠i2->s.heap.get? b=some o->h'.get? b=some o)->h'.get? S=some { cls:=.type "list",dict:=none,data:=.seq acc c',slots:=#[] }->acc.toList=ts.map FS->ts.length=min xs.size ys.size->ts.Nodup->S∉ts ->
   (∀ (j:Nat) (T:FD),ts[j]? = some T->(∃ x y,xs[j]? = some x/\ys[j]? = some y/\Ky h' T x y)/\s.heap.objs.size<=T)->R (.ok (.ret res)) { s with heap:=h' }) :
  wpAny (model prog w) A.in1 (Builtin.List.listExtendWith (.ref S) (.ref z) res) (fun fin s'=>match fin with | .done f=>R (.ok f) s' | .again c'=>c'.quiet=true/\codeAny (model prog w) A c' R s') (fun e s'=>R (.error e) s') s:=by
 have hz:=Z.zip
 have n1:Builtin.List.listSameRef (.ref S) (.ref z)=false:=by simp [Builtin.List.listSameRef,hS.1]
 have n2:(IA "zip" == IA "list")=false:=by decide
 have n3:(IA "zip" == IA "tuple")=false:=by decide
 unfold Builtin.List.listExtendWith
 refine mo (LK (T:="zip") ⟨_,hz,rfl⟩ ?_)
 simp only [n1,n2,n3,L4,Fx,if_false]
 refine mo (wpAny_pyIter_zip hz (mo (GH (vV ⟨_,hz,rfl⟩ ?_))))
 simp only [Bool.true_or,if_true]
 refine mo (Jl (mo ?_))
 show wpAny _ _ (updateSeq S (·.push .none) >>= fun _=>updateSeq S (·.pop)) _ _ _
 have fg:=GQ (Gs (·.push Ht)) hl rfl
 have fQ:=GQ (Gs (·.pop)) fg rfl
 have oth:∀ b o,b≠S->s.heap.get? b=some o->((s.heap.update S (Gs (·.push Ht))).update S (Gs (·.pop))).get? b=some o:=fun b o n e=>(Gv _ _ (Ih n)).trans ((Gv _ _ (Ih n)).trans e)
 refine mo (HH hl rfl (HH fg rfl (Fv ⟨Hh Iw _,?_⟩) (by show 1<=sizeLine; rw [G3]; lia) (by show 0<=_; exact FI _)) (FI _) (by show 1<=_; rw [G3]; lia))
 refine yR (xs:=xs) (ys:=ys) hh D hS hn _ _ [] #[] _ rfl (FI _) (Z.keep fun b o e hb=>oth b o (fun x=>by
   subst x
   rcases hb with h | h | h | h | h | h | h | h
   ·exact hS.1 h
   ·exact hS.2.1 h
   ·exact hS.2.2.1 h
   ·exact hS.2.2.2.1 h
   ·exact hS.2.2.2.2.1 h
   ·exact hS.2.2.2.2.2.1 h
   ·exact hS.2.2.2.2.2.2 h
   ·cases h) e) (by simp) fQ rfl fun h' ts acc c' k e1 e2 e3 e4 e5 e6=>q h' ts acc c' (fun b o b0 b1 b2 b3 b4 e=>k b o b0 b1 b2 b3 b4 (oth b o b0 e)) e1 e2 e3 e4 e5 fun j T hj=>?_
 obtain ⟨g1,g2⟩:=e6 j T hj
 refine ⟨g1,?_⟩
 rcases g2 with g | g
 ·cases g
 ·rw [Jj,Jj] at g
  exact g
theorem list_zip {Q:Fk->Fq->Prop} {z TI TO i1 i2 l1 l2:FD} {xs ys:Array Fk} (hh:A.handled=none) (D:KM z TI TO i1 i2 l1 l2) (hn:min xs.size ys.size<=1000000) (Z:ZSt s.heap z TI TO i1 i2 l1 l2 xs ys [])
  (q:∀ (h':HM) (ts:List FD) (acc:Array Fk) (c':Nat),(∀ b o,b≠z->b≠TO->b≠i1->b≠i2->s.heap.get? b=some o->h'.get? b=some o)->h'.get? s.heap.objs.size=some { cls:=.type "list",dict:=none,data:=.seq acc c',slots:=#[] }->acc.toList=ts.map FS->ts.length=min xs.size ys.size->ts.Nodup ->
   (∀ (j:Nat) (T:FD),ts[j]? = some T->(∃ x y,xs[j]? = some x/\ys[j]? = some y/\Ky h' T x y)/\s.heap.objs.size < T)->Q (.ref s.heap.objs.size) { s with heap:=h' }) :
  wpAny (model prog w) A (call (.type "list") [.ref z]) Q E s:=by
 have hz:=Z.zip
 have far:∀ {c o},s.heap.get? c=some o->s.heap.objs.size≠c:=fun e=>J7 (FK e)
 have hS:s.heap.objs.size≠z/\s.heap.objs.size≠TI/\s.heap.objs.size≠TO/\s.heap.objs.size≠i1/\s.heap.objs.size≠i2/\s.heap.objs.size≠l1/\s.heap.objs.size≠l2 :=
  ⟨far hz,far Z.ti,(let ⟨_,e⟩:=Z.tto; far e),(let ⟨_,e,_⟩:=Z.it1; far e),(let ⟨_,e,_⟩:=Z.it2; far e),(let ⟨_,e,_⟩:=Z.li1; far e),(let ⟨_,e,_⟩:=Z.li2; far e)⟩
 refine callType_codes (Q₁:=fun T s1=>T = .ref s.heap.objs.size/\s1={ s with heap:=s.heap.push { cls:=.type "list",data:=.seq #[] } }) F.called_list (F.typeCall_list_1 _) F.entry_list_init (code_list_new _ ⟨rfl,rfl⟩) fun T s1 e1=>?_
 obtain ⟨rfl,rfl⟩:=e1
 have g0:(s.heap.push { cls:=.type "list",data:=.seq #[] }).get? s.heap.objs.size=some { cls:=.type "list",data:=.seq #[] }:=Gc _ rfl
 have g1:=GQ (Gs (fun _=>(#[]:Array Fk))) g0 rfl
 have oth:∀ b o,s.heap.get? b=some o->((s.heap.push { cls:=.type "list",data:=.seq #[] }).update s.heap.objs.size (Gs (fun _=>(#[]:Array Fk)))).get? b=some o:=fun b o e=>(Gv _ _ (far e)).trans (Ft _ e)
 refine ⟨⟨_,g0,rfl⟩,F.args_list_init_2 _ _,?_⟩
 show wpAny _ _ (do let was <- Builtin.List.listItems (.ref s.heap.objs.size); Builtin.List.listUpdate (.ref s.heap.objs.size) (fun _=>#[]); letGo was.toList.reverse; Builtin.List.listExtendWith (.ref s.heap.objs.size) (.ref z) .none) _ _ _
 refine mo ?_
 unfold Builtin.List.listItems
 refine mo (Jk g0 rfl (Fv ?_))
 show wpAny _ _ (updateSeq s.heap.objs.size (fun _=>#[]) >>= fun _=>letGo (#[]:Array Fk).toList.reverse >>= fun _=>Builtin.List.listExtendWith (.ref s.heap.objs.size) (.ref z) .none) _ _ _
 refine mo (HH g0 rfl (mo (Li ?_)) (FI _) (FI _))
 refine sH (s:={ s with heap:=(s.heap.push { cls:=.type "list",data:=.seq #[] }).update s.heap.objs.size (Gs (fun _=>(#[]:Array Fk))) }) (A:=A.in1) hh D hS hn (Z.keep fun b o e _=>oth b o e) g1 fun h' ts acc c' k e1 e2 e3 e4 e5 e6=>⟨rfl,q h' ts acc c' (fun b o b1 b2 b3 b4 e=>k b o (Ih (far e)) b1 b2 b3 b4 (oth b o e)) e1 e2 e3 e4 fun j T hj=>?_⟩
 obtain ⟨x1,x2⟩:=e6 j T hj
 rw [Jj,Hk] at x2
 exact ⟨x1,x2⟩
end
end Zp
namespace Ck
open PySem L2
theorem mQ {α β:Type} {R:α->β->Prop}:∀ {as:List α} {bs:List β},as.length=bs.length->(∀ (j:Nat) a b,as[j]? = some a->bs[j]? = some b->R a b)->Jw R as bs
 | [],[],_,_=>.nil
 | a::as,b::bs,hl,h=>.cons (h 0 a b rfl rfl) (mQ (by simpa using hl) fun j x y e1 e2=>h (j+1) x y (by simpa using e1) (by simpa using e2))
end Ck
namespace L2
open PySem PySem.Spec PyProof.Rows Ck
section
variable {X:Cx}
theorem pR {pins:List (FD × Obj)} {σ:St} {s:Fq} {ts:List FD} {ps:List Pair} (r:Jw (fun (T:FD) (p:Pair)=>∃ t u,Ky s.heap T (.int p.1 t) (.int p.2 u)) ts ps) :
  ∀ (H:Hp),Inv X pins σ H s->(∀ T∈ts,wB X pins H T)->ts.Nodup->∃ H',Inv X pins σ H' s/\ae H H'/\bC H' (ts.map V.ref) ps/\∀ b,b∉ts->H' b=H b:=by
 induction r with
 | nil=>exact fun H I _ _=>⟨H,I,ae.refl H,.nil,fun _ _=>rfl⟩
 | @cons T p ts ps h r ih =>
  intro H I o nd
  obtain ⟨t,u,h⟩:=h
  have oT:=o T (Ge ..)
  rw [G9] at nd
  have ok:cf X.prog X.w (upd H T (.tup [.int p.1,.int p.2])) s.heap T (.tup [.int p.1,.int p.2]):=⟨sz (n:=2) (by decide),[.int p.1 t,.int p.2 u],.cons ⟨_,rfl⟩ (.cons ⟨_,rfl⟩ .nil),_,h,rfl,_,rfl⟩
  have I1:=I.trackO oT ok
  obtain ⟨H',I',s',pr,k⟩:=ih _ I1 (fun U hU=>by
   have ne:U≠T:=fun z=>nd.1 (z▸hU)
   have oU:=o U (FE _ hU)
   exact ⟨oU.new,(upd_ne ne).trans oU.free,oU.loc,oU.cell,oU.pin⟩) nd.2
  refine ⟨H',I',(ae.new (ae.refl H) oT.free _).trans s',.cons ⟨T,rfl,s' _ _ upd_same⟩ pr,fun b hb=>?_⟩
  rw [k b (fun z=>hb (FE _ z))]
  exact upd_ne fun z=>hb (by rw [z]; exact Ge ..)
noncomputable def EW (K:Ga) (ta:TA):TE:=fun σ H Q=>ta σ H fun vs H1=>∃ (p q:FD) (ns ms:List Int),vs=[.ref p,.ref q]/\ai K H1 p (ns.map V.int)/\ai K H1 q (ms.map V.int)/\ns.length<=1000000/\∀ (l:FD) (H2:Hp),ae H1 H2->H1 l=none->aX H2 l (ns.zip ms)->Q (.ref l) H2
theorem yw {K:Ga} {a b:II} {ta:TA} {p p2 pos pos2:Pos} (hK:X.K=K) (hc:X.calm=true) (hgl:Gl X "list") (hml:X.mg "list" = none) (hg:Gl X "zip") (hm:X.mg "zip" = none) (ha:PA X [a,b] ta) (hs:starEach [a,b] X.env=[(false,eval a X.env),(false,eval b X.env)]:=by rfl) (hs2:starEach [b] X.env=[(false,eval b X.env)]:=by rfl)
  (he:starEach [.Call (.Name "zip" p) [a,b] [] pos] X.env=[(false,eval (.Call (.Name "zip" p) [a,b] [] pos) X.env)]:=by rfl) :
  PE X (.Call (.Name "list" p2) [.Call (.Name "zip" p) [a,b] [] pos] [] pos2) (EW K ta):=by
 subst hK
 intro pins s σ H Q I h
 refine HD (dQ I hgl hml dC ?_ (by decide) (by decide))
 refine GU ?_ he rfl
 rw [he]
 show wpAny _ _ (spliced ((false,eval (.Call (.Name "zip" p) [a,b] [] pos) X.env)::backTo pos2 [])) _ _ s
 refine JO (Call_ (dQ I hg hm boot_zip (GU (aI (ha pos pins s σ H _ I h) fun us s1 ⟨vs,H1,I1,r1,q1⟩=>?_) (by rw [hs,hs2]) (by rw [hs2]; rfl))))
 obtain ⟨p1,p2,ns,ms,e,l1,l2,z1,q⟩:=q1
 subst e
 obtain ⟨u1,u2,rfl,ru1,ru2⟩:=vals2 r1
 cases ru1
 cases ru2
 obtain ⟨its,rv,pl,hz⟩:=I1.list l1
 obtain ⟨jts,rw_,pm,hz2⟩:=I1.list l2
 have hi:=intsAre_of rv
 have hj:=intsAre_of rw_
 have li:=hi.length
 have lj:=hj.length
 have lt1:p1 < s1.heap.objs.size:=by obtain ⟨_,e,_⟩:=pl.isList; exact FK e
 have lt2:p2 < s1.heap.objs.size:=by obtain ⟨_,e,_⟩:=pm.isList; exact FK e
 refine call_zip_2 pl.isList pm.isList fun h2 hzz hTI hTO hi1 hi2 hsz hk=>J0 ?_
 have D:=zipApart_new lt1 lt2
 have I2:Inv X pins σ H1 { s1 with heap:=h2 }:=I1.kept (t':=s1.toks) hk
 have Z:Zp.ZSt h2 (s1.heap.objs.size+4) (s1.heap.objs.size+2) (s1.heap.objs.size+3) s1.heap.objs.size (s1.heap.objs.size+1) p1 p2 its.toArray jts.toArray [] :=
  ⟨.inl ⟨rfl,hzz,_,_,hTO⟩,hTI,hi1,hi2,pl.isList.at fun o e=>hk _ o e,pm.isList.at fun o e=>hk _ o e,fun j T hj=>by simp at hj,JC,⟨_,hTO⟩⟩
 refine Zp.list_zip (s:={ s1 with heap:=h2 }) (I.ok.hd hc) D (by simp; lia) Z fun h3 ts acc c kk hl ea lts nd tu=>?_
 have k3:∀ b o,s1.heap.get? b=some o->h3.get? b=some o:=fun b o e=>by
  have lt:=FK e
  exact kk b o (Gk (Gm lt (Ig _ _))) (Gk (Gm lt (Ig _ _))) (Gk lt) (Gk (Gm lt (Ig _ _))) (hk b o e)
 have I3:Inv X pins σ H1 { s1 with heap:=h3 }:=I1.kept (t':=s1.toks) k3
 have our:∀ T,s1.heap.objs.size<=T->wB X pins H1 T:=fun T hT=>by
  have f:=I1.fpOk hT (I1.hok.fresh hT)
  exact ⟨Heap.get?_none_of_le (GM I1.sz hT),f.1,f.2.1,f.2.2.2.2.1,f.2.2.2.2.2⟩
 have hgt:∀ T∈ts,h2.objs.size < T:=fun T hT=>by
  obtain ⟨j,hj⟩:=Gy hT
  exact (tu j T hj).2
 have lz:(ns.zip ms).length=ts.length:=by rw [lts,List.length_zip]; simp; lia
 have prd:Jw (fun (T:FD) (p:Pair)=>∃ t u,Ky h3 T (.int p.1 t) (.int p.2 u)) ts (ns.zip ms):=by
  refine mQ lz.symm fun j T pr e1 e2=>?_
  obtain ⟨⟨x,y,hx,hy,hp⟩,_⟩:=tu j T e1
  have hx':its[j]? = some x:=by simpa using hx
  have hy':jts[j]? = some y:=by simpa using hy
  rw [HW] at e2
  obtain ⟨t,et⟩:=jx hi e2.1
  obtain ⟨u,eu⟩:=jx hj e2.2
  rw [et] at hx'
  rw [eu] at hy'
  cases hx'
  cases hy'
  exact ⟨t,u,hp⟩
 obtain ⟨H',I',s',prs,kf⟩:=pR prd H1 I3 (fun T hT=>our T (by have:=hgt T hT; lia)) nd
 have nS:h2.objs.size∉ts:=fun z=>Hg _ (hgt _ z)
 have oS:=our h2.objs.size (by lia)
 have fS:H' h2.objs.size=none:=by rw [kf _ nS]; exact oS.free
 have vs:Vals (ts.map V.ref) acc.toList:=by
  rw [ea]
  have go:∀ ts:List FD,Vals (ts.map V.ref) (ts.map FS):=fun ts=>by
   induction ts with
   | nil=>exact .nil
   | cons T ts ih=>exact .cons rfl ih
  exact go ts
 have I4:=I'.trackO (o':=.lst (ts.map V.ref)) ⟨oS.new,fS,oS.loc,oS.cell,oS.pin⟩ ⟨by rw [Do,lts]; simp; exact sz (by lia),acc.toList,c,vs,hl⟩
 exact ⟨.ref h2.objs.size,_,I4,rfl,q _ _ (s'.trans (ae.new (ae.refl H') fS _)) oS.free ⟨_,upd_same,prs.updN fS _⟩⟩
end
end L2
namespace Ck
open PySem L2
theorem jI:∀ {r s:List Int},r.map V.int=s.map V.int->r=s
 | [],[],_=>rfl
 | a::r,b::s,h=>by
  rw [FQ,FQ] at h
  injection h with h1 h2
  injection h1 with h1
  rw [h1,jI h2]
noncomputable def m9 (o:Option HO):Bool:=match o with | some (.lst [])=>true | _=>false
theorem mr (r:List Int):m9 (some (.lst (r.map V.int)))=decide (r=[]):=by
 cases r with
 | nil=>rfl
 | cons a r=>rw [decide_eq_false (by simp)]; rfl
end Ck
namespace L2
open PySem PySem.Spec PyProof.Rows Ck
theorem ox {X:Cx} {K:Ga} (hK:X.K=K):dk X (.builtin "sorted") (fun xs H Q=>∃ (p:FD) (ns:List Int),xs=[.ref p]/\ai K H p (ns.map V.int)/\ns.length < 64/\∀ (q:FD) (ms:List Int),H q=none->ms.Perm ns->ms.Pairwise (·<=·)->Q (.ref q) (upd H q (.lst (ms.map V.int)))):=by
 subst hK
 exact jM
noncomputable def Eu:R2:=fun x y H Q=>∃ (a l:FD) (H0:Hp) (rs:List (List Int)),x = .ref a/\y = .ref l/\H a=some (.lst [])/\aR H0 H l rs/\Q (.bl (rs.any fun r=>decide (r=[]))) H
theorem B6 {X:Cx} (hu:X.A.units+100 < cLine):cC X (compareOp .In) Eu:=by
 intro pins s σ H x y u v Q I ru rv h
 obtain ⟨a,l,H0,rs,rfl,rfl,ha,⟨bs,hl,ro,nd⟩,q⟩:=h
 cases (show u=FS _ from ru)
 cases (show v=FS _ from rv)
 obtain ⟨its,r',pl,hz⟩:=I.list (ai.of hl)
 have ei:its=bs.map FS:=by
  have go:∀ (bs:List FD) (us:List Fk),Vals (bs.map V.ref) us->us=bs.map FS:=fun bs=>by
   induction bs with
   | nil=>intro us h; rw [Ka] at h; cases h; rfl
   | cons b bs ih =>
    intro us h
    rw [FQ] at h
    cases h with
    | cons h t=>rw [ih _ t,FQ]; cases (show _=FS b from h); rfl
  exact go bs its r'
 have one:∀ (b:FD) (r:List Int),H b=some (.lst (r.map V.int))->ba X.K H 1 (.ref b) (.ref a) (decide (r=[])):=fun b r hb=>by
  by_cases e:b=a
  ·subst e
   rw [ha] at hb
   have:r=[]:=by
    injection hb with hb; injection hb with hb
    exact List.map_eq_nil_iff.mp hb.symm
   rw [decide_eq_true this]
   exact ba.same
  ·have:=ba.void (K:=X.K) (n:=0) e (ai.of hb) (ai.of ha)
   have e2:decide (r.map V.int=[])=decide (r=[]):=by
    cases r<;>simp
   rw [e2] at this
   exact this
 have ex:∀ (bs:List FD) (rs:List (List Int)),aK H0 H l bs rs->∃ e:Fk->Bool,(∀ y∈bs.map FS,∃ (b:FD) (r:List Int),y = .ref b/\H b=some (.lst (r.map V.int))/\e y=decide (r=[]))/\(bs.map FS).any e=rs.any fun r=>decide (r=[]):=fun bs rs ro=>by
  refine ⟨fun y=>match y with | .ref b=>m9 (H b) | _=>false,?_,?_⟩
  ·intro y hy
   obtain ⟨b,hb,rfl⟩:=FH.mp hy
   obtain ⟨⟨ns,e⟩,_⟩:=ro.all b hb
   refine ⟨b,ns,rfl,e,?_⟩
   show m9 (H b)=_
   rw [e,mr]
  ·induction ro with
   | nil=>rfl
   | cons h _ ih =>
    rw [FQ,List.any_cons,List.any_cons,ih]
    congr 1
    show m9 (H _)=_
    rw [h.1,mr]
 obtain ⟨e,e1,e2⟩:=ex bs rs ro
 refine SeqAt.in_listAt (items:=its.toArray) e pl.isList (fun y hy=>?_) ⟨.bl _,H,I,rfl,?_⟩
 ·have hy':y∈bs.map FS:=by rw [ei] at hy; simpa using hy
  obtain ⟨b,r,rfl,hb,e3⟩:=e1 y hy'
  rw [e3]
  exact (one b r hb).at_ (A:=X.A.in1) (by show X.A.units+1+1 < cLine; lia) I rfl rfl
 ·rw [ei,List.any_toArray,e2]
  exact q
end L2
namespace Ck
open PySem L2
theorem ba.ints {K:Ga} {H:Hp} {n:Nat} {a b:FD} {r s:List Int} (ha:H a=some (.lst (r.map V.int))) (hb:H b=some (.lst (s.map V.int))):ba K H (n+1) (.ref a) (.ref b) (decide (r=s)):=by
 by_cases e:a=b
 ·subst e
  rw [ha] at hb
  have:r=s:=by
   injection hb with hb; injection hb with hb
   exact jI hb
  rw [decide_eq_true this]
  exact ba.same
 by_cases hl:r.length=s.length
 ·have h:=ba.lst (K:=K) (n:=n) (e:=fun j=>decide (r.getD j 0=s.getD j 0)) e (ai.of ha) (ai.of hb) (by simp [hl]) (fun j x y hx hy=>by
   obtain ⟨c,rfl⟩:=cX hx
   obtain ⟨d,rfl⟩:=cX hy
   rw [GD] at hx hy
   have ec:r.getD j 0=c:=by
    rw [AC]
    cases h:r[j]? with
    | none=>rw [h] at hx; cases hx
    | some z=>rw [h] at hx; injection hx with hx; injection hx
   have ed:s.getD j 0=d:=by
    rw [AC]
    cases h:s[j]? with
    | none=>rw [h] at hy; cases hy
    | some z=>rw [h] at hy; injection hy with hy; injection hy
   have z:=ba.flat (K:=K) (H:=H) (n:=n) (x:=V.int c) (y:=V.int d) rfl rfl
   rw [ec,ed]
   have e3:gW (V.int c) (V.int d)=decide (c=d):=rfl
   rw [e3] at z
   exact z)
  have e2:(FC (r.map V.int).length).all (fun j=>decide (r.getD j 0=s.getD j 0))=decide (r=s):=by
   rw [G8,Gn,decide_eq_true_iff]
   constructor
   ·intro h
    refine JF hl fun k h1 h2=>?_
    have:=of_decide_eq_true (h k (FV.mpr (by simpa using h1)))
    rw [AC,AC,Da h1,Da h2] at this
    exact this
   ·intro h k _
    rw [h]
    exact decide_eq_true rfl
  rw [e2] at h
  exact h
 ·rw [decide_eq_false fun z=>hl (by rw [z])]
  exact ba.lstN e (ai.of ha) (ai.of hb) (by simpa using hl)
theorem ba.rooms {K:Ga} {H0 H1 H:Hp} {a b:FD} {rs ss:List (List Int)} (h:aR H0 H a rs) (k:aR H1 H b ss) (ne:a≠b):ba K H 2 (.ref a) (.ref b) (decide (rs=ss)):=by
 obtain ⟨xs,ex,lx⟩:=h.len
 obtain ⟨ys,ey,ly⟩:=k.len
 by_cases hl:rs.length=ss.length
 ·have d:=ba.lst (K:=K) (n:=1) (e:=fun j=>decide (rs.getD j []=ss.getD j [])) ne (ai.of ex) (ai.of ey) (by lia) (fun j x y e1 e2=>by
   have hj:j < rs.length:=by rw [<- lx]; exact (Fs.mp e1).1
   obtain ⟨c,f1,g1,_⟩:=h.get ex (Da hj)
   obtain ⟨d,f2,g2,_⟩:=k.get ey (Da (show j < ss.length by lia))
   rw [f1] at e1
   rw [f2] at e2
   cases e1
   cases e2
   rw [AC,AC,Da hj,Da (show j < ss.length by lia)]
   exact ba.ints g1 g2)
  have e:(FC xs.length).all (fun j=>decide (rs.getD j []=ss.getD j []))=decide (rs=ss):=by
   rw [G8,Gn,decide_eq_true_iff]
   constructor
   ·intro h
    refine JF hl fun k h1 h2=>?_
    have:=of_decide_eq_true (h k (FV.mpr (by lia)))
    rw [AC,AC,Da h1,Da h2] at this
    exact this
   ·intro h k _
    rw [h]
    exact decide_eq_true rfl
  rw [e] at d
  exact d
 ·rw [decide_eq_false fun z=>hl (by rw [z])]
  exact ba.lstN ne (ai.of ex) (ai.of ey) (by lia)
end Ck
namespace Ck
open PySem L2
noncomputable def eX (rs:List (List Int)):List Pair:=(rs.map fun r=>r.zip (r.drop 1)).flatten
noncomputable def pA (rs:List (List Int)):Bool:=decide ((∀ r∈rs,r.Pairwise (· < ·))/\(rs.map hd).Pairwise (· < ·))
noncomputable def fB (rs:List (List Int)):Bool:=rs.all (fun r=>decide (r≠[]))&&(ck rs.flatten&&(pA rs&&!cx (eX rs)))
theorem wY {rs:List (List Int)} (h:∃ r∈rs,r=[]):fB rs=false:=by
 obtain ⟨r,hr,e⟩:=h
 unfold fB
 have:rs.all (fun r=>decide (r≠[]))=false:=List.all_eq_false.mpr ⟨r,hr,by simp [e]⟩
 rw [this,HP]
theorem vR {rs:List (List Int)} (h:ck rs.flatten=false):fB rs=false:=by
 unfold fB
 rw [h]
 simp
theorem oI {rs:List (List Int)} (hne:∀ r∈rs,r≠[]) (hE:ck rs.flatten=true):fB rs=(pA rs&&!cx (eX rs)):=by
 unfold fB
 have:rs.all (fun r=>decide (r≠[]))=true:=Gn.mpr fun r hr=>decide_eq_true (hne r hr)
 rw [this,hE,Hs,Hs]
theorem rX {rs:List (List Int)} (hE:ck rs.flatten=true):rs.flatten.Nodup:=((dc _).mp hE).nodup_iff.mpr (kK _)
theorem lV:∀ {rs:List (List Int)},rs.flatten.Nodup->(∀ r∈rs,r.Nodup)/\rs.Pairwise fun a b=>∀ x∈a,x∉b
 | [],_=>⟨fun r hr=>absurd hr (by simp),J1⟩
 | r::rs,h=>by
  rw [HN,Hx] at h
  obtain ⟨h1,h2,h3⟩:=h
  obtain ⟨i1,i2⟩:=lV h2
  refine ⟨fun q hq=>?_,.cons (fun q hq x hx hx'=>h3 x hx x (JG.mpr ⟨q,hq,hx'⟩) rfl) i2⟩
  rcases FL.mp hq with z | z
  ·rw [z]; exact h1
  ·exact i1 q z
theorem sr {rs:List (List Int)} (h:rs.flatten.Nodup) {r:List Int} (hr:r∈rs):r.Nodup:=by
 exact (lV h).1 r hr
theorem ur {a b:List Int} (ha:a≠[]) (hb:b≠[]) (h:cD b a=false) (ne:hd a≠hd b):hd a < hd b:=by
 cases a with
 | nil=>exact absurd rfl ha
 | cons x a =>
  cases b with
  | nil=>exact absurd rfl hb
  | cons y b =>
   have ne':x≠y:=ne
   show x < y
   have h':(if y=x then cD b a else decide (y < x))=false:=h
   rw [if_neg (fun z=>ne' z.symm)] at h'
   have:=of_decide_eq_false h'
   lia
theorem nA {a b:List Int} (ha:a≠[]) (hb:b≠[]) (h:hd a < hd b):cD b a=false:=by
 cases a with
 | nil=>exact absurd rfl ha
 | cons x a =>
  cases b with
  | nil=>exact absurd rfl hb
  | cons y b =>
   have h':x < y:=h
   show (if y=x then cD b a else decide (y < x))=false
   rw [if_neg (by lia)]
   exact decide_eq_false (by lia)
theorem wA {rs:List (List Int)} (hne:∀ r∈rs,r≠[]) (h:rs.flatten.Nodup):rs.Pairwise fun a b=>hd a≠hd b:=by
 exact (lV h).2.imp_of_mem fun ha hb hd' e=>by
  have h1:=dR (hne _ ha)
  have h2:=dR (hne _ hb)
  rw [<- e] at h2
  exact hd' _ h1 h2
theorem uM {r:List Int} (h:r.Pairwise (·<=·)) (nd:r.Nodup):r.Pairwise (· < ·):=by
 have:=List.Pairwise.and h nd
 exact this.imp fun ⟨h1,h2⟩=>by lia
theorem wx {rs ts ss:List (List Int)} (hts:Jw (fun (r q:List Int)=>q.Perm r/\q.Pairwise (·<=·)) rs ts) (hp:ss.Perm ts) (hs:ss.Pairwise fun a b=>cD b a=false) (hne:∀ r∈rs,r≠[]) (hE:ck rs.flatten=true):decide (rs=ss)=pA rs:=by
 have nd:=rX hE
 unfold pA
 rw [G8,decide_eq_true_iff,decide_eq_true_iff]
 constructor
 ·intro e
  constructor
  ·intro r hr
   have h1:r∈ts:=hp.mem_iff.mp (e▸hr)
   have go:∀ {rs ts:List (List Int)},Jw (fun (r q:List Int)=>q.Perm r/\q.Pairwise (·<=·)) rs ts->∀ q∈ts,q.Pairwise (·<=·):=by
    intro rs ts h
    induction h with
    | nil=>intro q hq; cases hq
    | cons x _ ih =>
     intro q hq
     rcases FL.mp hq with z | z
     ·rw [z]; exact x.2
     ·exact ih q z
   exact uM (go hts r h1) (sr nd hr)
  ·rw [GJ]
   rw [<- e] at hs
   exact (hs.and (wA hne nd)).imp_of_mem fun ha hb ⟨h1,h2⟩=>ur (hne _ ha) (hne _ hb) h1 h2
 ·rintro ⟨h1,h2⟩
  have et:ts=rs:=by
   have go:∀ {rs ts:List (List Int)},Jw (fun (r q:List Int)=>q.Perm r/\q.Pairwise (·<=·)) rs ts->(∀ r∈rs,r.Pairwise (· < ·))->ts=rs:=by
    intro rs ts h
    induction h with
    | nil=>intro _; rfl
    | cons x _ ih =>
     intro hr
     rw [ih fun r hr'=>hr r (FE _ hr')]
     congr 1
     exact Hv (le:=(·<=·)) (fun a b _ _ h1 h2=>Int.le_antisymm h1 h2) x.2 ((hr _ (Ge ..)).imp Hd) x.1
   exact go hts h1
  rw [et] at hp
  rw [GJ] at h2
  have h2':rs.Pairwise fun a b=>cD b a=false:=h2.imp_of_mem fun ha hb h=>nA (hne _ ha) (hne _ hb) h
  exact (Hv (le:=fun a b=>cD b a=false) (fun a b _ _ h1 h2=>jR a b h2 h1) hs h2' hp).symm
theorem gap:∀ {r:List Int} {u v t:Int},r.Pairwise (· < ·)->u∈r->v∈r->u < t->t < v->t∉r->∃ p∈r.zip (r.drop 1),u<=p.1/\p.1 < t/\t < p.2/\p.2<=v
 | [],u,v,t,_,hu,_,_,_,_=>by cases hu
 | [x],u,v,t,_,hu,hv,h1,h2,_=>by
  have e1:u=x:=by simpa using hu
  have e2:v=x:=by simpa using hv
  lia
 | x::y::r,u,v,t,hp,hu,hv,h1,h2,h3=>by
  have hp':=Ic.mp hp
  have hy:=Ic.mp hp'.2
  have tx:t≠x:=fun z=>h3 (by rw [z]; simp)
  have ty:t≠y:=fun z=>h3 (by rw [z]; simp)
  by_cases c:t < y
  ·-- the step is the first one
   have ux:u=x:=by
    rcases FL.mp hu with z | z
    ·exact z
    ·rcases FL.mp z with z | z
     ·lia
     ·have:=hy.1 u z; lia
   have vy:y<=v:=by
    rcases FL.mp hv with z | z
    ·lia
    ·rcases FL.mp z with z | z
     ·lia
     ·have:=hy.1 v z; lia
   exact ⟨(x,y),by simp,by show u<=x; lia,by show x < t; lia,c,vy⟩
  ·have hv':v∈y::r:=by
    rcases FL.mp hv with z | z
    ·have:=hp'.1 y (by simp); lia
    ·exact z
   have hu':∃ u',u'∈y::r/\u<=u'/\u' < t:=by
    rcases FL.mp hu with z | z
    ·exact ⟨y,by simp,by have:=hp'.1 y (by simp); lia,by lia⟩
    ·exact ⟨u,z,GA _,h1⟩
   obtain ⟨u',m1,m2,m3⟩:=hu'
   obtain ⟨p,hp1,q1,q2,q3,q4⟩:=gap hp'.2 m1 hv' m3 h2 (fun z=>h3 (FE _ z))
   exact ⟨p,by simp only [JJ,Jz] at hp1 |-; exact FE _ hp1,by lia,q2,q3,q4⟩
theorem fz {rs:List (List Int)} {p:Pair}:p∈eX rs↔∃ r∈rs,p∈r.zip (r.drop 1):=by
 unfold eX
 rw [JG]
 constructor
 ·rintro ⟨l,hl,hp⟩
  obtain ⟨r,hr,rfl⟩:=FH.mp hl
  exact ⟨r,hr,hp⟩
 ·rintro ⟨r,hr,hp⟩
  exact ⟨_,FH.mpr ⟨r,hr,rfl⟩,hp⟩
theorem qG {r:List Int} {p:Pair} (h:p∈r.zip (r.drop 1)):∃ k,k+1 < r.length/\p.1=r.getD k 0/\p.2=r.getD (k+1) 0:=by
 obtain ⟨k,hk⟩:=Gy h
 rw [HW] at hk
 obtain ⟨h1,h2⟩:=hk
 rw [Jn] at h2
 have hl:=(Fs.mp h2).1
 refine ⟨k,by lia,?_,?_⟩
 ·rw [AC,h1]; rfl
 ·rw [AC,show k+1=1+k by lia,h2]; rfl
theorem EM {r:List Int} {k:Nat} (h:k+1 < r.length):(r.getD k 0,r.getD (k+1) 0)∈r.zip (r.drop 1):=by
 refine FG (i:=k) ?_
 rw [HW]
 refine ⟨?_,?_⟩
 ·rw [AC,Da (show k < r.length by lia)]; rfl
 ·show (r.drop 1)[k]? = some (r.getD (k+1) 0)
  rw [Jn,show 1+k=k+1 by lia,AC,Da h]
  rfl
noncomputable abbrev lst (r:List Int):Int:=r.getD (r.length - 1) 0
theorem qm {r:List Int} (h:r≠[]):lst r∈r:=by
 have:r.length - 1 < r.length:=by
  cases r with
  | nil=>exact absurd rfl h
  | cons a r=>simp
 unfold lst
 rw [AC,Da this]
 exact Hr this
theorem Dc {r:List Int} (h:r.Pairwise (· < ·)) {x:Int} (hx:x∈r):hd r<=x:=by
 cases r with
 | nil=>cases hx
 | cons a r =>
  show a<=x
  rcases FL.mp hx with z | z
  ·lia
  ·have:=(Ic.mp h).1 x z; lia
theorem qe {r:List Int} {p:Pair} (h:p∈r.zip (r.drop 1)):p.1∈r/\p.2∈r:=by
 obtain ⟨k,hk,e1,e2⟩:=qG h
 rw [e1,e2,AC,AC,Da (show k < r.length by lia),Da hk]
 exact ⟨Hr _,Hr _⟩
theorem pj (k:Nat):iota k=cL k:=rfl
end Ck
namespace L2
open PySem PySem.Spec PyProof.Rows Ck
end L2
namespace Ck
open PySem L2
theorem kH {α β:Type} {R:α->β->Prop}:∀ {as cs:List α} {bs ds:List β},Jw R as bs->Jw R cs ds->Jw R (as++cs) (bs++ds)
 | _,_,_,_,.nil,h=>h
 | _,_,_,_,.cons r t,h=>.cons r (kH t h)
def cT (H:Hp) (bs:List FD) (xss:List (List V)):Prop:=Jw (fun (b:FD) (xs:List V)=>H b=some (.lst xs)) bs xss
theorem cT.same {H H':Hp} {bs:List FD} {xss:List (List V)} (h:cT H bs xss) (s:ae H H'):cT H' bs xss:=Paired.mapP h fun _ _ e=>s _ _ e
theorem cT.get {H:Hp}:∀ {bs:List FD} {xss:List (List V)},cT H bs xss->∀ {j:Nat} {v:V},(bs.map V.ref)[j]? = some v->∃ b xs,v = .ref b/\xss[j]? = some xs/\H b=some (.lst xs)
 | _,_,.nil,j,v,e=>by simp at e
 | _,_,.cons r t,0,v,e=>⟨_,_,(by simpa using e.symm),rfl,r⟩
 | _,_,.cons r t,j+1,v,e=>by
  obtain ⟨b,xs,h1,h2,h3⟩:=cT.get t (j:=j) (by simpa using e)
  exact ⟨b,xs,h1,by simpa using h2,h3⟩
theorem aR.rws {H0 H:Hp} {a:FD} {rs:List (List Int)} (h:aR H0 H a rs):∃ bs:List FD,H a=some (.lst (bs.map V.ref))/\cT H bs (rs.map fun r=>r.map V.int):=by
 obtain ⟨bs,e,r,_⟩:=h
 refine ⟨bs,e,?_⟩
 have go:∀ {bs:List FD} {rs:List (List Int)},aK H0 H a bs rs->cT H bs (rs.map fun r=>r.map V.int):=by
  intro bs rs r
  induction r with
  | nil=>exact .nil
  | cons x _ ih=>exact .cons x.1 ih
 exact go r
theorem cT.len {H:Hp} {bs:List FD} {xss:List (List V)} (h:cT H bs xss):bs.length=xss.length:=Js h
theorem nI (rs:List (List Int)):(rs.map fun r=>r.map V.int).flatten=rs.flatten.map V.int:=by
 rw [List.map_flatten]
end Ck
namespace Ck
open PySem L2
end Ck
namespace Ck
open PySem L2
end Ck
namespace Sx
open PySem PySem.SetTable
theorem sub_len:∀ {l1 l2:List Nat},l1.Nodup->(∀ x∈l1,x∈l2)->l1.length<=l2.length
 | [],l2,_,_=>FI _
 | a::l1,l2,nd,h=>by
  rw [G9] at nd
  have ha:=h a (Ge ..)
  have:=sub_len (l1:=l1) (l2:=l2.erase a) nd.2 fun x hx=>(List.mem_erase_of_ne (fun e=>nd.1 (by rw [<- e]; exact hx))).mpr (h x (FE _ hx))
  rw [List.length_erase_of_mem ha] at this
  have hp:=List.length_pos_of_mem ha
  simp only [FZ]
  lia
theorem kc {l:List Nat} {m:Nat} (h:l.length<=m):∃ t,t<=m/\t∉l:=by
 apply IK
 intro hn
 have:=sub_len (l1:=FC (m+1)) (l2:=l) Kf fun x hx=>by
  apply IK
  intro hx'
  exact hn ⟨x,HZ.mp (FV.mp hx),hx'⟩
 rw [Im] at this
 lia
def cM (xs:List Nat):Prop:=xs.Pairwise (· < ·)
theorem jU (xs:Array Nat) (j:Nat) (hr:cM xs.toList):∀ (fuel lo hi:Nat),hi - lo<=fuel->lo<=hi->hi<=xs.size->(∀ i x,i < lo->xs[i]? = some x->x < j)->(∀ i x,hi<=i->xs[i]? = some x->j<=x) ->
  below.go xs j fuel lo hi<=xs.size/\(∀ i x,i < below.go xs j fuel lo hi->xs[i]? = some x->x < j)/\∀ i x,below.go xs j fuel lo hi<=i->xs[i]? = some x->j<=x
 | 0,lo,hi,hf,hl,hh,h1,h2=>by
  have e:lo=hi:=by lia
  subst e
  exact ⟨hh,h1,h2⟩
 | fuel+1,lo,hi,hf,hl,hh,h1,h2=>by
  unfold below.go
  by_cases h:lo < hi
  ·rw [if_pos h]
   have hm:(lo+hi) / 2 < xs.size:=by lia
   have gm:xs[(lo+hi) / 2]? = some xs[(lo+hi) / 2]:=Fz hm
   have gd:xs.getD ((lo+hi) / 2) j=xs[(lo+hi) / 2]:=by simp [hm]
   simp only [gd]
   have mono:∀ a b x y,a < b->xs[a]? = some x->xs[b]? = some y->x < y:=fun a b x y hab ha hb=>by
    obtain ⟨la,ea⟩:=Gu.mp ha
    obtain ⟨lb,eb⟩:=Gu.mp hb
    have:=FP.mp hr a b (by simpa using la) (by simpa using lb) hab
    simp only [Kj] at this
    omega
   by_cases c:xs[(lo+hi) / 2] < j
   ·rw [if_pos c]
    refine jU xs j hr fuel _ _ (by lia) (by lia) hh (fun i x hlt hx=>?_) h2
    by_cases e:i=(lo+hi) / 2
    ·subst e; rw [gm] at hx; cases hx; exact c
    ·have:=mono i ((lo+hi) / 2) x _ (by lia) hx gm; lia
   ·rw [if_neg c]
    refine jU xs j hr fuel _ _ (by lia) (by lia) (by lia) h1 (fun i x hlt hx=>?_)
    by_cases e:i=(lo+hi) / 2
    ·subst e; rw [gm] at hx; cases hx; lia
    ·have:=mono ((lo+hi) / 2) i _ x (by lia) gm hx; lia
  ·rw [if_neg h]
   have e:lo=hi:=by lia
   subst e
   exact ⟨hh,h1,h2⟩
theorem below_at (xs:Array Nat) (j:Nat) (hr:cM xs.toList):below xs j<=xs.size/\(∀ i x,i < below xs j->xs[i]? = some x->x < j)/\∀ i x,below xs j<=i->xs[i]? = some x->j<=x:=by
 unfold below
 refine jU xs j hr xs.size 0 xs.size (by lia) (FI _) (Fy _) (fun i x hi _=>absurd hi (Iq _)) fun i x hi hx=>?_
 rw [G5 hi] at hx
 cases hx
theorem tM {xs:Array Nat} {j:Nat} (hr:cM xs.toList) (h:j∉xs.toList):(xs[below xs j]? == some j)=false:=by
 rw [beq_eq_false_iff_ne]
 intro e
 exact h (by rw [IM]; exact Array.mem_of_getElem? e)
theorem ud {t:GS} {j:Nat} (hr:cM t.place.toList) (hd:t.dummies = #[]) (h:j∉t.place.toList):t.slot j = .empty:=by
 unfold L8
 simp only [tM hr h,Fx,if_false]
 have:has t.dummies j=false:=by rw [hd]; rfl
 rw [this]
 rfl
theorem hJ {t:GS} {j:Nat} (hd:t.dummies = #[]):t.slot j = .empty\/∃ i,t.slot j = .live i:=by
 unfold L8
 have:has t.dummies j=false:=by rw [hd]; rfl
 simp only [this]
 split
 ·exact .inr ⟨_,rfl⟩
 ·exact .inl rfl
theorem gc {t:GS} {j:Nat} (hr:cM t.place.toList) (h:t.slot j = .empty):j∉t.place.toList:=by
 intro hj
 unfold L8 at h
 obtain ⟨h0,h1,h2⟩:=below_at t.place j hr
 obtain ⟨i,hi⟩:=Gy hj
 have hi':t.place[i]? = some j:=by simpa using hi
 have e:below t.place j=i:=by
  rcases K5 i (below t.place j) with z | z | z
  ·have:=h1 i j z hi'; lia
  ·exact z.symm
  ·have lt:below t.place j < t.place.size:=Nat.lt_trans z (Gu.mp hi').1
   have g:=Fz lt
   have:=h2 _ _ (Fy _) g
   obtain ⟨li,ei⟩:=Gu.mp hi'
   have m:=FP.mp hr _ _ (by simpa using lt) (by simpa using li) z
   simp only [Kj] at m
   lia
 simp only [e,hi',beq_self_eq_true,if_true] at h
 cases h
noncomputable def iter (m:Nat):Nat->Nat × Nat->Nat × Nat
 | 0,p=>p
 | k+1,p=>iter m k (leap m p.1 p.2)
theorem gy (m:Nat):∀ (a b:Nat) (p:Nat × Nat),iter m (a+b) p=iter m b (iter m a p)
 | 0,b,p=>by rw [Hw]; rfl
 | a+1,b,p=>by rw [show a+1+b=(a+b)+1 by lia]; exact gy m a b _
theorem jZ (m:Nat):∀ (k:Nat) (p:Nat × Nat),(iter m k p).2=p.2 / 32 ^ k
 | 0,p=>by show p.2=_; simp
 | k+1,p=>by
  show (iter m k (leap m p.1 p.2)).2=_
  rw [jZ m k]
  show p.2 / 32 / 32 ^ k=_
  rw [Nat.div_div_eq_div_mul,Nat.pow_succ,Nat.mul_comm]
theorem nu (m:Nat):∀ (k:Nat) (p:Nat × Nat),p.1<=m->(iter m k p).1<=m
 | 0,p,h=>h
 | k+1,p,h=>nu m k _ (by show (p.1*5+1+p.2 / 32) % (m+1)<=m; exact HZ.mp (J3 _ (Ia _)))
noncomputable def sg (m:Nat):Nat->Nat->List Nat
 | 0,_=>[]
 | k+1,i=>i::sg m k ((i*5+1) % (m+1))
theorem lE (m:Nat):∀ (k i t:Nat),t∈sg m k i->∃ n,n < k/\(iter m n (i,0)).1=t
 | k+1,i,t,h=>by
  rcases FL.mp h with rfl | h
  ·exact ⟨0,Ia _,rfl⟩
  ·obtain ⟨n,hn,e⟩:=lE m k _ t h
   exact ⟨n+1,by lia,by
    show (iter m n (leap m i 0)).1=t
    have:leap m i 0=((i*5+1) % (m+1),0):=rfl
    rw [this]; exact e⟩
def iY (m:Nat):Prop:=m=7\/m=31\/m=127
noncomputable def whole (m:Nat):Bool:=(let o:=sg m (m+1) 0; (FC (m+1)).all fun t=>o.contains t)&&decide (iter m (m+1) (0,0)=(0,0))
theorem yx:whole 7=true:=by decide +kernel
theorem wo:whole 31=true:=by decide +kernel
theorem uZ:whole 127=true:=by decide +kernel
theorem iY.whole {m:Nat} (h:iY m):whole m=true:=by
 rcases h with rfl | rfl | rfl
 ·exact yx
 ·exact wo
 ·exact uZ
theorem tY (m:Nat) (k i:Nat):iter m k (i,0)=((iter m k (i,0)).1,0):=by
 have:(iter m k (i,0)).2=0:=by rw [jZ]; exact Nat.zero_div _
 exact JQ rfl this
theorem around {m i t:Nat} (hm:iY m) (hi:i<=m) (ht:t<=m):∃ n,n<=m/\(iter m n (i,0)).1=t:=by
 have hw:=hm.whole
 unfold Sx.whole at hw
 rw [FO,decide_eq_true_iff] at hw
 have at_:∀ s,s<=m->∃ n,n < m+1/\(iter m n (0,0)).1=s:=fun s hs=>by
  have:=Gn.mp hw.1 s (FV.mpr (HZ.mpr hs))
  exact lE m (m+1) 0 s (by simpa using this)
 obtain ⟨a,ha,ea⟩:=at_ i hi
 obtain ⟨b,hb,eb⟩:=at_ t ht
 have ei:iter m a (0,0)=(i,0):=by rw [tY,ea]
 by_cases c:a<=b
 ·refine ⟨b - a,by lia,?_⟩
  rw [<- ei,<- gy,show a+(b - a)=b by lia,eb]
 ·refine ⟨b+(m+1) - a,by lia,?_⟩
  rw [<- ei,<- gy,show a+(b+(m+1) - a)=m+1+b by lia,gy,hw.2,eb]
theorem reach {m i x t:Nat} (hm:iY m) (hi:i<=m) (hx:x < 2 ^ 64) (ht:t<=m):∃ k,k<=13+m/\(iter m k (i,x)).1=t:=by
 have h13:(iter m 13 (i,x)).2=0:=by
  rw [jZ]
  exact Nat.div_eq_of_lt (Gm hx (by decide))
 have hf:=nu m 13 (i,x) hi
 obtain ⟨n,hn,e⟩:=around hm hf ht
 refine ⟨13+n,by lia,?_⟩
 rw [gy,<- e]
 have ep:iter m 13 (i,x)=((iter m 13 (i,x)).1,0):=by rw [<- h13]
 rw [ep]
theorem lK (h:Int):bits h < 2 ^ 64:=by
 unfold bits
 have h0:=HX h (show (2 ^ 64:Int)≠0 by decide)
 have h1:=Ie h (show (0:Int) < 2 ^ 64 by decide)
 have e:(2:Int) ^ 64=18446744073709551616:=by decide
 have e2:(2:Nat) ^ 64=18446744073709551616:=by decide
 rw [e] at h0 h1 |-
 rw [e2]
 lia
noncomputable def begin_ (m i x:Nat):Probe:={ j:=i,more:=runEnd m i - i,i:=i,perturb:=x,dummy:=none }
theorem uI {t:GS} {hashAt:Nat->Int} {h:Int} (hd:t.dummies = #[]) (nh:∀ i,i < t.place.size->hashAt i≠h) (nl:∀ j i,t.slot j = .live i->i < t.place.size) :
  ∀ (r fuel:Nat) (p:Probe),p.more=r->p.dummy=none->p.j+r<=t.mask->r+1<=fuel->(∃ j,probe.go t hashAt h fuel p=some (.empty j none)/\t.slot j = .empty/\j<=t.mask)\/probe.go t hashAt h fuel p=probe.go t hashAt h (fuel - (r+1)) (begin_ t.mask (leap t.mask p.i p.perturb).1 (leap t.mask p.i p.perturb).2)
 | r,0,p,hr,hdm,hb,hf=>by lia
 | r,fuel+1,p,hr,hdm,hb,hf=>by
  rcases hJ (t:=t) (j:=p.j) hd with e | ⟨i,e⟩
  ·refine .inl ⟨p.j,?_,e,by lia⟩
   unfold probe.go
   rw [e,hdm]
  ·have ne:(hashAt i == h)=false:=beq_eq_false_iff_ne.mpr (nh i (nl _ _ e))
   have st:probe.go t hashAt h (fuel+1) p=probe.go t hashAt h fuel (t.advance p):=by
    conv=>lhs; unfold probe.go
    rw [e]
    simp only [ne,Fx,if_false]
   rw [st]
   cases r with
   | zero =>
    refine .inr ?_
    have ea:t.advance p=begin_ t.mask (leap t.mask p.i p.perturb).1 (leap t.mask p.i p.perturb).2:=by
     unfold advance
     rw [hr,if_neg (Hg _)]
     unfold begin_
     rw [hdm]
    rw [ea]
    rfl
   | succ r =>
    have ea:t.advance p={ p with j:=p.j+1,more:=r }:=by
     unfold advance
     rw [hr,if_pos (Ia _),HI]
    rw [ea]
    rcases uI hd nh nl r fuel { p with j:=p.j+1,more:=r } rfl hdm (by show p.j+1+r<=t.mask; lia) (by lia) with z | z
    ·exact .inl z
    ·refine .inr (z.trans ?_)
     rw [show fuel+1 - (r+1+1)=fuel - (r+1) by lia]
theorem vc (m i:Nat):runEnd m i - i<=9:=by unfold runEnd; split<;>lia
theorem iw {m i:Nat} (h:i<=m):i+(runEnd m i - i)<=m:=by unfold runEnd; split<;>lia
theorem oj {t:GS} {hashAt:Nat->Int} {h:Int} (hd:t.dummies = #[]) (nh:∀ i,i < t.place.size->hashAt i≠h) (nl:∀ j i,t.slot j = .live i->i < t.place.size) :
  ∀ (k fuel i x:Nat),i<=t.mask->t.slot (iter t.mask k (i,x)).1 = .empty->10*(k+1)<=fuel->∃ j,probe.go t hashAt h fuel (begin_ t.mask i x)=some (.empty j none)/\t.slot j = .empty/\j<=t.mask
 | 0,fuel,i,x,hi,he,hf=>by
  obtain ⟨f,rfl⟩:∃ f,fuel=f+1:=⟨fuel - 1,by lia⟩
  refine ⟨i,?_,he,hi⟩
  have he':t.slot (begin_ t.mask i x).j = .empty:=he
  unfold probe.go
  rw [he']
  rfl
 | k+1,fuel,i,x,hi,he,hf=>by
  have rl:=vc t.mask i
  rcases uI hd nh nl (runEnd t.mask i - i) fuel (begin_ t.mask i x) rfl rfl (iw hi) (by lia) with z | z
  ·exact z
  ·rw [z]
   exact oj hd nh nl k _ _ _ (by show (i*5+1+x / 32) % (t.mask+1)<=t.mask; exact HZ.mp (J3 _ (Ia _))) he (by lia)
theorem i6 {t:GS} {j i:Nat} (h:t.slot j = .live i):i < t.place.size:=by
 have e:t.slot j=if (t.place[below t.place j]? == some j)=true then .live (below t.place j) else if has t.dummies j=true then .dummy else .empty:=rfl
 rw [e] at h
 by_cases c:(t.place[below t.place j]? == some j)=true
 ·rw [if_pos c] at h
  cases h
  exact (Gu.mp (by simpa using c)).1
 ·rw [if_neg c] at h
  by_cases d:has t.dummies j=true
  ·rw [if_pos d] at h; cases h
  ·rw [if_neg d] at h; cases h
theorem rP {t:GS} {hashAt:Nat->Int} {h:Int} (hm:iY t.mask) (hr:cM t.place.toList) (hd:t.dummies = #[]) (hs:t.place.size<=t.mask) (nh:∀ i,i < t.place.size->hashAt i≠h) :
  ∃ j,t.probe hashAt h (t.probeStart h)=some (.empty j none)/\j∉t.place.toList/\j<=t.mask:=by
 obtain ⟨g,hg,ng⟩:=kc (l:=t.place.toList) (m:=t.mask) (by simpa using hs)
 have hi:bits h % (t.mask+1)<=t.mask:=HZ.mp (J3 _ (Ia _))
 obtain ⟨k,hk,ek⟩:=reach hm hi (lK h) hg
 obtain ⟨j,hj,he,jm⟩:=oj (hashAt:=hashAt) (h:=h) hd nh (fun j i e=>i6 e) k (10*turns t.mask) (bits h % (t.mask+1)) (bits h) hi (by rw [ek]; exact ud hr hd ng) (by unfold turns; lia)
 exact ⟨j,hj,gc hr he,jm⟩
theorem dy {α:Type} (xs:Array α) (p:Nat) (x:α) (hp:p<=xs.size):(insertAt xs p x).toList=xs.toList.take p++x::xs.toList.drop p:=by
 unfold insertAt
 rw [Array.toList_append,Gp,HJ,HJ]
 simp [List.extract_eq_drop_take]
 exact FB (by simp)
theorem gK {α:Type} (xs:List α) (p:Nat) (x:α):(xs.take p++x::xs.drop p).Perm (x::xs):=by
 have:=JI (a:=x) (l₁:=xs.take p) (l₂:=xs.drop p)
 rwa [HY] at this
theorem qL {xs:Array Nat} {j:Nat} (hr:cM xs.toList) (h:j∉xs.toList):cM (insertAt xs (below xs j) j).toList:=by
 obtain ⟨h0,h1,h2⟩:=below_at xs j hr
 rw [dy _ _ _ h0]
 have lt:∀ x∈xs.toList.take (below xs j),x < j:=fun x hx=>by
  obtain ⟨i,hi⟩:=Gy hx
  rw [List.getElem?_take] at hi
  split at hi
  ·rename_i hlt; exact h1 i x hlt (by simpa using hi)
  ·cases hi
 have gt:∀ x∈xs.toList.drop (below xs j),j < x:=fun x hx=>by
  obtain ⟨i,hi⟩:=Gy hx
  rw [Jn] at hi
  have:=h2 (below xs j+i) x (Ig _ _) (by simpa using hi)
  have ne:x≠j:=fun e=>h (by rw [<- e]; exact FG hi)
  lia
 refine Gx.mpr ⟨hr.sublist (K0 _ _),Ic.mpr ⟨gt,hr.sublist (List.drop_sublist _ _)⟩,fun a ha b hb=>?_⟩
 rcases FL.mp hb with rfl | hb
 ·exact lt a ha
 ·exact Nat.lt_trans (lt a ha) (gt b hb)
structure Tab (t:GS) (n:Nat):Prop where
 msk:iY t.mask
 ris:cM t.place.toList
 top:∀ j∈t.place.toList,j<=t.mask
 dum:t.dummies = #[]
 len:t.place.size=n
 few:t.place.size<=t.mask
theorem Tab.fresh (f mv:Nat) (led:Bool):Tab (.fresh f mv led) 0:=⟨.inl rfl,J1,(fun j h=>nomatch h),rfl,rfl,FI _⟩
theorem Tab.put {t:GS} {n j:Nat} (T:Tab t n) (hj:j∉t.place.toList) (hjm:j<=t.mask) (room:n+1<=t.mask):Tab (t.put j).1 (n+1)/\(t.put j).2=below t.place j/\(t.put j).1.plain=t.plain/\(t.put j).1.led=t.led/\(t.put j).1.mask=t.mask:=by
 have h0:=(below_at t.place j T.ris).1
 have hd:has t.dummies j=false:=by rw [T.dum]; rfl
 have el:=dy t.place (below t.place j) j h0
 have ls:(insertAt t.place (below t.place j) j).size=n+1:=by
  rw [<- FM,el,Fw,FU,FZ,Hq,FM,T.len]
  have:=T.len
  lia
 refine ⟨⟨T.msk,qL T.ris hj,fun i hi=>?_,?_,ls,by show (insertAt t.place (below t.place j) j).size<=t.mask; lia⟩,rfl,rfl,rfl,rfl⟩
 ·have hi':i∈(insertAt t.place (below t.place j) j).toList:=hi
  rw [el] at hi'
  rcases FL.mp ((gK t.place.toList (below t.place j) j).mem_iff.mp hi') with rfl | hi'
  ·exact hjm
  ·exact T.top i hi'
 ·show (if has t.dummies j=true then _ else t.dummies) = #[]
  rw [hd]
  exact T.dum
theorem iK {m:Nat} {owner:Array (Option Nat)}:∀ (k fuel i x:Nat),(owner.getD (iter m k (i,x)).1 (some 0)).isNone=true->k+1<=fuel->∃ j,layClean.free m owner fuel i x=some j/\(owner.getD j (some 0)).isNone=true
 | k,0,i,x,_,hf=>by lia
 | k,fuel+1,i,x,he,hf=>by
  unfold layClean.free
  cases e:(FC (runEnd m i+1 - i)).find? fun k=>(owner.getD (i+k) (some 0)).isNone with
  | some a=>exact ⟨i+a,rfl,by have:=List.find?_some e; exact this⟩
  | none =>
   cases k with
   | zero =>
    have h0:(0:Nat)∈FC (runEnd m i+1 - i):=FV.mpr (by unfold runEnd; split<;>lia)
    have:=List.find?_eq_none.mp e 0 h0
    have he':(owner.getD i (some 0)).isNone=true:=he
    exact absurd he' (by simpa using this)
   | succ k=>exact iK k fuel _ _ he (by lia)
structure Own (m:Nat) (owner:Array (Option Nat)) (js:List Nat):Prop where
 size:owner.size=m+1
 nd:js.Nodup
 top:∀ j∈js,j<=m
 own:∀ j k:Nat,owner.getD j none=some k↔js[k]? = some j
theorem Own.start (m:Nat):Own m (Array.replicate (m+1) none) [] where
 size:=by simp
 nd:=JC
 top:=fun j h=>nomatch h
 own:=fun j k=>by
  have e:(Array.replicate (m+1) (none:Option Nat)).getD j none=none:=by
   rw [GO,Array.getElem?_replicate]
   split<;>rfl
  rw [e]
  simp
theorem Own.at_none {m:Nat} {owner:Array (Option Nat)} {js:List Nat} (O:Own m owner js) {j:Nat} (hj:j<=m) (h:j∉js):(owner.getD j (some 0)).isNone=true:=by
 have lt:j < owner.size:=by rw [O.size]; lia
 have e1:owner.getD j (some 0)=owner.getD j none:=by simp [lt]
 rw [e1]
 cases e:owner.getD j none with
 | none=>rfl
 | some k=>exact absurd (FG ((O.own j k).mp e)) h
theorem Own.none_at {m:Nat} {owner:Array (Option Nat)} {js:List Nat} (O:Own m owner js) {j:Nat} (h:(owner.getD j (some 0)).isNone=true):j<=m/\j∉js:=by
 have lt:j < owner.size:=by
  apply IK
  intro hn
  have:owner.getD j (some 0)=some 0:=by simp [hn]
  rw [this] at h
  cases h
 refine ⟨by rw [O.size] at lt; lia,fun hj=>?_⟩
 obtain ⟨k,hk⟩:=Gy hj
 have:=(O.own j k).mpr hk
 have e1:owner.getD j (some 0)=owner.getD j none:=by simp [lt]
 rw [e1,this] at h
 cases h
theorem Own.step {m:Nat} {owner:Array (Option Nat)} {js:List Nat} (O:Own m owner js) {j:Nat} (hj:j<=m) (h:j∉js):Own m (owner.setIfInBounds j (some js.length)) (js++[j]):=by
 have lt:j < owner.size:=by rw [O.size]; lia
 refine ⟨by simp [O.size],Hx.mpr ⟨O.nd,by simp,fun a ha b hb=>by
  have:b=j:=by simpa using hb
  rw [this]; exact fun e=>h (e▸ha)⟩,fun i hi=>?_,fun i k=>?_⟩
 ·rcases FF.mp hi with hi | hi
  ·exact O.top i hi
  ·have:i=j:=by simpa using hi
   lia
 ·by_cases e:i=j
  ·subst e
   have:(owner.setIfInBounds i (some js.length)).getD i none=some js.length:=by simp [lt]
   rw [this]
   constructor
   ·intro h'
    have:js.length=k:=by simpa using h'
    rw [<- this]
    simp
   ·intro h'
    by_cases hk:k < js.length
    ·rw [Hn hk] at h'
     exact absurd (FG h') h
    ·rw [GX (by lia)] at h'
     have:k - js.length=0:=by
      have:=(Fs.mp h').1
      simp at this
      lia
     rw [show k=js.length by lia]
  ·have:(owner.setIfInBounds j (some js.length)).getD i none=owner.getD i none:=by
    simp only [GO]
    rw [Array.getElem?_setIfInBounds_ne (Ih e)]
   rw [this,O.own]
   by_cases hk:k < js.length
   ·rw [Hn hk]
   ·rw [GX (by lia),Hc (by lia)]
    constructor
    ·intro z; cases z
    ·intro z
     have:i=j:=by
      have l:=(Fs.mp z).1
      simp at l
      rw [show k - js.length=0 by lia] at z
      simpa using z.symm
     exact absurd this e
theorem qg {m:Nat} (hm:iY m):∀ (hs:List Int) (owner:Array (Option Nat)) (js:List Nat),Own m owner js->js.length+hs.length<=m ->
  ∃ owner' js',hs.foldl (fun acc h=>(do
   let (owner,k) <- acc
   let j <- layClean.free m owner (turns m) (bits h % (m+1)) (bits h)
   pure (owner.setIfInBounds j (some k),k+1))) (some (owner,js.length))=some (owner',js'.length)/\Own m owner' js'/\js'.length=js.length+hs.length
 | [],owner,js,O,_=>⟨owner,js,rfl,O,rfl⟩
 | h::hs,owner,js,O,hl=>by
  simp only [FZ] at hl
  obtain ⟨g,hg,ng⟩:=kc (l:=js) (m:=m) (by lia)
  have hi:bits h % (m+1)<=m:=HZ.mp (J3 _ (Ia _))
  obtain ⟨k,hk,ek⟩:=reach hm hi (lK h) hg
  obtain ⟨j,hj,fj⟩:=iK (owner:=owner) k (turns m) (bits h % (m+1)) (bits h) (by rw [ek]; exact O.at_none hg ng) (by unfold turns; lia)
  obtain ⟨jm,nj⟩:=O.none_at fj
  obtain ⟨o',js',e,O',l'⟩:=qg hm hs _ _ (O.step jm nj) (by simp; lia)
  refine ⟨o',js',?_,O',by rw [l']; simp; lia⟩
  rw [LH,<- e]
  congr 1
  show (do let j <- layClean.free m owner (turns m) (bits h % (m+1)) (bits h); pure (owner.setIfInBounds j (some js.length),js.length+1))=_
  rw [hj]
  simp
theorem pU {m:Nat} (hm:iY m) (hs:Array Int) (hl:hs.size<=m):∃ owner js,layClean m hs=some owner/\Own m owner js/\js.length=hs.size:=by
 obtain ⟨o',js',e,O',l'⟩:=qg hm hs.toList _ [] (Own.start m) (by simpa using hl)
 refine ⟨o',js',?_,O',by simpa using l'⟩
 unfold layClean
 rw [<- Array.foldl_toList]
 have e':=congrArg (Option.map (·.1)) e
 exact e'
noncomputable def bX (m:Nat) (owner:Array (Option Nat)):List (Nat × Nat):=(FC (m+1)).filterMap fun j=>(owner.getD j none).map (j,·)
theorem dj {m:Nat} {owner:Array (Option Nat)} {js:List Nat} (O:Own m owner js) {j k:Nat}:(j,k)∈bX m owner↔js[k]? = some j:=by
 unfold bX
 rw [KJ]
 constructor
 ·rintro ⟨i,hi,e⟩
  cases o:owner.getD i none with
  | none=>rw [o] at e; cases e
  | some q =>
   rw [o] at e
   have:i=j/\q=k:=by simpa using e
   rw [<- this.1,<- this.2]
   exact (O.own i q).mp o
 ·intro h
  have hj:=O.top j (FG h)
  exact ⟨j,FV.mpr (by lia),by rw [(O.own j k).mpr h]; rfl⟩
theorem iy {m:Nat} {owner:Array (Option Nat)}:((bX m owner).map (·.1)).Sublist (FC (m+1)):=by
 unfold bX
 generalize FC (m+1)=l
 induction l with
 | nil=>exact .slnil
 | cons j l ih =>
  rw [Ip]
  cases o:owner.getD j none with
  | none=>exact ih.cons j
  | some k=>exact ih.cons₂ j
theorem u9 (n:Nat):(FC n).Pairwise (· < ·):=Lw
theorem yz {l:List (Nat × Nat)} (h1:(l.map (·.1)).Nodup) (h2:∀ j j' k,(j,k)∈l->(j',k)∈l->j=j'):(l.map (·.2)).Nodup:=by
 induction l with
 | nil=>exact JC
 | cons p l ih =>
  rw [FQ,G9] at h1 |-
  refine ⟨fun z=>?_,ih h1.2 fun j j' k a b=>h2 j j' k (FE _ a) (FE _ b)⟩
  obtain ⟨q,hq,e⟩:=FH.mp z
  have:p.1=q.1:=h2 p.1 q.1 p.2 (Ge ..) (by rw [<- e]; exact FE _ hq)
  exact h1.1 (FH.mpr ⟨q,hq,this.symm⟩)
theorem yN {m:Nat} (hm:iY m) (f mv:Nat) (led plain:Bool) (hs:Array Int) (hl:hs.size<=m) :
  ∃ t order,JV m f mv led plain hs=some (t,order)/\Tab t hs.size/\t.mask=m/\t.led=led/\t.plain=plain/\order.toList.Perm (FC hs.size):=by
 obtain ⟨owner,js,e,O,l⟩:=pU hm hs hl
 have nd1:((bX m owner).map (·.1)).Nodup:=(iy (m:=m) (owner:=owner)).nodup Kf
 have nd2:((bX m owner).map (·.2)).Nodup:=yz nd1 fun j j' k a b=>by
  have x:=(dj O).mp a
  have y:=(dj O).mp b
  rw [x] at y
  exact GB y
 have pm:((bX m owner).map (·.2)).Perm (FC hs.size):=by
  refine (KI nd2 Kf).mpr fun k=>?_
  rw [FH,FV]
  constructor
  ·rintro ⟨⟨j,k'⟩,h,rfl⟩
   have:=(Fs.mp ((dj O).mp h)).1
   show k' < hs.size
   lia
  ·intro h
   have g:js[k]? = some (js[k]'(by lia)):=Da (by lia)
   exact ⟨(_,k),(dj O).mpr g,rfl⟩
 have len:(bX m owner).length=hs.size:=by have:=pm.length_eq; rwa [Do,Im] at this
 refine ⟨{ mask:=m,place:=((bX m owner).map (·.1)).toArray,dummies:=#[],finger:=f,led:=led,moves:=mv,plain:=plain },((bX m owner).map (·.2)).toArray,?_,⟨hm,?_,?_,rfl,?_,?_⟩,rfl,rfl,rfl,by simpa using pm⟩
 ·unfold JV
  rw [e]
  rfl
 ·show cM (((bX m owner).map (·.1)).toArray).toList
  rw [KC]
  exact (u9 (m+1)).sublist iy
 ·intro j hj
  have hj':j∈(((bX m owner).map (·.1)).toArray).toList:=hj
  rw [KC] at hj'
  have:=FV.mp (iy.subset hj')
  show j<=m
  lia
 ·show (((bX m owner).map (·.1)).toArray).size=hs.size
  simp [len]
 ·show (((bX m owner).map (·.1)).toArray).size<=m
  simp [len]
  exact hl
structure Good (t:GS) (n:Nat):Prop where
 tab:Tab t n
 lax:t.tooFull=false
theorem Good.room {t:GS} {n:Nat} (G:Good t n):n*5 < t.mask*3:=by
 have h:=G.lax
 unfold tooFull fill at h
 rw [G.tab.dum,G.tab.len] at h
 simp at h
 lia
theorem Good.fresh (f mv:Nat) (led:Bool):Good (.fresh f mv led) 0:=⟨Tab.fresh f mv led,by unfold tooFull fill SetTable.fresh; simp⟩
theorem Tab.fits {t:GS} {n:Nat} (T:Tab t n):(t.place.size != n || decide (t.fill > t.mask))=false:=by
 have:=T.few
 unfold fill
 rw [T.dum,T.len] at *
 simp
 lia
theorem Good.put {t:GS} {n j:Nat} (G:Good t n) (h64:n < 64) (hj:j∉t.place.toList) (hjm:j<=t.mask) :
  Tab (t.put j).1 (n+1)/\(t.put j).2=below t.place j/\(t.put j).1.plain=t.plain/\(t.put j).1.led=t.led /\
   ((t.put j).1.tooFull=true->∀ hs:Array Int,hs.size=n+1->sizeAbove (grown (n+1))<=128/\∃ t' order,(t.put j).1.relaid hs (grown (n+1))=some (t',order)/\Good t' (n+1)/\t'.led=t.led/\t'.plain=t.plain/\order.toList.Perm (FC (n+1))):=by
 have r:=G.room
 have hm:=G.tab.msk
 obtain ⟨T,e2,e3,e4,e5⟩:=G.tab.put hj hjm (by rcases hm with e | e | e<;>lia)
 refine ⟨T,e2,e3,e4,fun hf hs hsz=>?_⟩
 have hf':t.mask*3<=(n+1)*5:=by
  unfold tooFull fill at hf
  rw [T.dum,T.len,e5] at hf
  simpa using hf
 have key:∀ m,iY m->sizeAbove (grown (n+1))=m+1->n+1<=m->(n+1)*5 < m*3->∃ t' order,(t.put j).1.relaid hs (grown (n+1))=some (t',order)/\Good t' (n+1)/\t'.led=t.led/\t'.plain=t.plain/\order.toList.Perm (FC (n+1)):=fun m mm em le lx=>by
  unfold relaid
  rw [em,HI]
  obtain ⟨t',order,a1,a2,a3,a4,a5,a6⟩:=yN mm (t.put j).1.finger ((t.put j).1.movedTo m) (t.put j).1.led (t.put j).1.plain hs (by lia)
  rw [hsz] at a2 a6
  refine ⟨t',order,a1,⟨a2,?_⟩,a4.trans e4,a5.trans e3,a6⟩
  unfold tooFull fill
  rw [a2.dum,a2.len,a3]
  simp
  lia
 rcases hm with e | e | e
 ·have en:n=4:=by lia
  subst en
  exact ⟨by decide,key 31 (.inr (.inl rfl)) (by decide) (by decide) (by decide)⟩
 ·have en:n=18:=by lia
  subst en
  exact ⟨by decide,key 127 (.inr (.inr rfl)) (by decide) (by decide) (by decide)⟩
 ·lia
end Sx
namespace Sx
open PySem PyProof.Rows
noncomputable def fk (p:Int × Int):Int:=reduceHash (Builtin.Tuple.tupleHashOf [hashInt p.1,hashInt p.2])
section
variable {prog:Gi} {w:GF} {A:GG} {E:Fk->Fq->Prop} {s:Fq}
noncomputable abbrev cH (prog:Gi) (w:GF) (h:HM) (T:FD) (p:Int × Int):Prop:=IsTupleKey (intKind prog w) h [p.1,p.2] T
theorem yH {h:HM} {T:FD} {p:Int × Int} {o:Obj} {n:Nat} {t u:Tok} (ho:h.get? T=some o) (hc:o.cls = .type "tuple") (hd:o.data = .seq #[.int p.1 t,.int p.2 u] n):cH prog w h T p :=
 ⟨o,_,n,ho,hc,hd,.cons (intKind_is _ _ _ _) (.cons (intKind_is _ _ _ _) .nil)⟩
theorem iV {p:Int × Int} {items:List Fk} (h:ItemsAre (intKind prog w) [p.1,p.2] items):∃ t u,items=[.int p.1 t,.int p.2 u]:=by
 cases h with
 | cons h1 h =>
  cases h with
  | cons h2 h =>
   cases h
   obtain ⟨t,rfl⟩:=KS h1
   obtain ⟨u,rfl⟩:=KS h2
   exact ⟨t,u,rfl⟩
theorem pK {T:FD} {p:Int × Int} {Q:Bool->Fq->Prop} (hk:cH prog w s.heap T p) (q:Q true s):wpAny (model prog w) A (hashByValue 8 (.ref T)) Q E s:=by
 have hT:=hk.typeIs
 obtain ⟨o,items,n,ho,hc,hd,hi⟩:=hk
 obtain ⟨t,u,ei⟩:=iV hi
 have ea:items = #[.int p.1 t,.int p.2 u]:=by
  cases items
  simp only at ei
  rw [ei]
 subst ea
 unfold hashByValue
 refine mo (KB hT F.slot_tuple_hash.lookup ?_)
 simp only
 refine mo ?_
 unfold seqItems?
 refine mo (wpAny_load ho ?_)
 rw [hd]
 refine Fv ?_
 simp only [Jg,<- IH,JP,KQ,hashByValue,pure_bind]
 simp only [HV,Fx,if_false,pure_bind]
 exact Fv q
theorem fits_of {t:GS} {n:Nat} (T:Tab t n):t.fits n=true:=by
 have h:=T.fits
 unfold SetTable.fits
 rw [Bool.or_eq_false_iff] at h
 rw [FO]
 refine ⟨by simpa using h.1,?_⟩
 have:=h.2
 simp at this
 simp
 lia
theorem kL {h:HM} {a:FD} {o:Obj} {es es':Array (Int × Fk)} {ep:Nat} {t t':GS} (ho:h.get? a=some o) (hd:o.data = .set es ep t):(h.update a (LP es' t')).get? a=some { o with data:=.set es' (ep+1) t' }:=by
 have:=GQ (LP es' t') ho (by rw [putSet_of es' t' hd]; rfl)
 rw [putSet_of es' t' hd] at this
 exact this
theorem jK {α:Type} {es:Array α} {order:Array Nat} (h:order.toList.Perm (FC es.size)):(order.filterMap (es[·]?)).toList.Perm es.toList:=by
 rw [Ly]
 refine (h.filterMap _).trans ?_
 have:(FC es.size).filterMap (fun i=>es[i]?)=es.toList:=by
  have e:(fun i=>es[i]?)=fun i=>es.toList[i]?:=funext fun i=>Gq.symm
  rw [e,show es.size=es.toList.length from FM.symm]
  generalize es.toList=l
  induction l with
  | nil=>rfl
  | cons a l ih =>
   rw [FZ,Iy,Ip]
   simp only [IY,List.filterMap_map]
   congr 1
 rw [this]
theorem wF {a:FD} {o:Obj} {es:Array (Int × Fk)} {ep:Nat} {t t':GS} {order:Array Nat} {wanted:Nat} {Q:Unit->Fq->Prop} (ho:s.heap.get? a=some o) (hd:o.data = .set es ep t) (T:Tab t es.size) (h64:es.size<=64)
  (hz:SetTable.sizeAbove wanted<=128) (hr:t.relaid (es.map (·.1)) wanted=some (t',order)) (pm:order.toList.Perm (FC es.size))
  (q:Q () { s with heap:=s.heap.update a (LP (order.filterMap (es[·]?)) t') }):wpAny (model prog w) A (setRelay a wanted) Q E s:=by
 have fp:=jK pm
 have fs:(order.filterMap (es[·]?)).size=es.size:=by rw [<- FM,fp.length_eq,FM]
 unfold setRelay
 refine mo (Hz ho hd (fits_of T) ?_)
 simp only
 rw [if_neg (by rw [G3]; lia),hr]
 refine mo ?_
 show wpAny (model prog w) A (if ((order.filterMap (es[·]?)).size != es.size)=true then _ else _) _ E s
 rw [if_neg (by rw [fs]; simp)]
 refine Fv ?_
 exact wpAny_storeSet_of ho hd q (by rw [fs,G3]; lia)
end
end Sx
namespace Sx
open PySem PyProof.Rows
theorem slot_next:Slot "set_iterator" "__next__" "set_iterator.__next__" :=
 .of (owner:="set_iterator") (n:="__next__") (by rw [KA,Jp]; kernel_rfl) (by decide +kernel) (by decide +kernel) (by decide +kernel)
  (by first | exact .inl (by decide +kernel) | exact .inr (by decide +kernel)) (by rw [isSubtype_type]; kernel_rfl)
theorem entry_next:entryFor table "set_iterator.__next__" = some Builtin.«set_iterator.__next__»:=entryFor_of_tree (by kernel_rfl)
theorem tj:entryFor table "set.__iter__" = some Builtin.«frozenset.__iter__» :=
 entryFor_alias (id':="frozenset.__iter__") (by kernel_rfl) rfl (by decide +kernel) (by kernel_rfl)
theorem pG:Manifest.owners.lookup (String.ofList ['r','o','t','a','r','e','t','i','_','t','e','s'].reverse)=some Manifest.sig_set_iterator:=by kernel_rfl
theorem args_next (a:Fk):argsOk "set_iterator.__next__" ⟨[a],[]⟩:=by
 unfold argsOk; rw [signature?_of (id:="set_iterator.__next__") (n:=['_','_','t','x','e','n','_','_']) (o:=['r','o','t','a','r','e','t','i','_','t','e','s']) (by kernel_rfl) pG]; kernel_rfl
theorem p9 {α:Type} (next:Nat->Nat):∀ (fuel k:Nat) (left:List α) (out:Array α),left.length=fuel->(Mj next fuel k left out).toList.Perm (out.toList++left)
 | 0,k,left,out,h=>by
  have:left=[]:=Ji h
  subst this
  unfold Mj
  rw [Gj]
 | fuel+1,k,left,out,h=>by
  have lt:next k % left.length < left.length:=J3 _ (by lia)
  unfold Mj
  rw [Da lt]
  simp only
  refine (p9 next fuel (k+1) _ _ (by rw [List.length_eraseIdx_of_lt lt]; lia)).trans ?_
  rw [Gp,FX]
  refine GW _ ?_
  rw [List.eraseIdx_eq_take_drop_succ]
  have e:=JI (a:=left[next k % left.length]) (l₁:=left.take (next k % left.length)) (l₂:=left.drop (next k % left.length+1))
  rw [List.getElem_cons_drop,HY] at e
  exact e.symm
theorem uf {α:Type} (next:Nat->Nat) (xs:Array α):(pickOrder next xs).toList.Perm xs.toList:=by
 have:=p9 next xs.size 0 xs.toList #[] (by simp)
 exact this
noncomputable def bP (w:GF):Bool:=w.params.followText "set-order"
noncomputable def wk (w:GF) (a:FD) (ep:Nat) (es:Array (Int × Fk)):Array (Int × Fk):=if bP w=true then pickOrder (w.params.setOrder a ep) es else es
theorem qC (w:GF) (a:FD) (ep:Nat) (es:Array (Int × Fk)):(wk w a ep es).toList.Perm es.toList:=by
 unfold wk
 split
 ·exact uf _ _
 ·exact .refl _
theorem ig (w:GF) (a:FD) (ep:Nat) (es:Array (Int × Fk)):(wk w a ep es).size=es.size:=by
 rw [<- FM,(qC w a ep es).length_eq,FM]
noncomputable abbrev yP (h:HM) (I a:FD) (slot i n ep:Nat):Prop:=h.get? I=some { cls:=.type "set_iterator",dict:=none,data:=.fields #[rawInt slot,rawInt i,.ref a,rawInt n,rawInt ep],slots:=#[] }
theorem k8 (xs:Array Nat) (hr:cM xs.toList):Jm xs 0=0:=by
 obtain ⟨h0,h1,h2⟩:=below_at xs 0 hr
 rcases Nat.eq_zero_or_pos (Jm xs 0) with z | z
 ·exact z
 ·have:=h1 0 xs[0] z (Fz (by lia))
  lia
theorem sL {xs:Array Nat} {i j:Nat} (hr:cM xs.toList) (h:xs[i]? = some j):Jm xs (j+1)=i+1:=by
 obtain ⟨h0,h1,h2⟩:=below_at xs (j+1) hr
 obtain ⟨li,ei⟩:=Gu.mp h
 have mono:∀ a b x y,a < b->xs[a]? = some x->xs[b]? = some y->x < y:=fun a b x y hab ha hb=>by
  obtain ⟨la,ea⟩:=Gu.mp ha
  obtain ⟨lb,eb⟩:=Gu.mp hb
  have:=FP.mp hr a b (by simpa using la) (by simpa using lb) hab
  simp only [Kj] at this
  omega
 rcases K5 (Jm xs (j+1)) (i+1) with z | z | z
 ·have:=h2 i j (by lia) h; lia
 ·exact z
 ·have l:i+1 < xs.size:=by lia
  have g:=Fz l
  have a1:=h1 (i+1) _ z g
  have a2:=mono i (i+1) j _ (by lia) h g
  lia
section
variable {prog:Gi} {w:GF} {A:GG} {E:Fk->Fq->Prop} {s:Fq}
theorem iM {Q:Bool->Fq->Prop} (q:Q (bP w) s):wpAny (model prog w) A setsByText Q E s:=by
 unfold setsByText
 exact mo (Lq (Fv q))
theorem xi {a:FD} {o:Obj} {es:Array (Int × Fk)} {ep:Nat} {t:GS} {Q:Fk->Fq->Prop} (ho:s.heap.get? a=some o) (hex:o.ExactSet) (hd:o.data = .set es ep t) (T:Tab t es.size) (pl:t.plain=true)
  (q:Q (.ref s.heap.objs.size) { s with heap:=s.heap.push { cls:=.type "set_iterator",dict:=none,data:=.fields #[rawInt 0,rawInt 0,.ref a,rawInt es.size,rawInt ep],slots:=#[] } }):wpAny (model prog w) A (pyIter (.ref a)) Q E s:=by
 have hT:s.TypeIs (.ref a) "set":=⟨o,ho,hex.1⟩
 refine wpAny_pyIter_slot hT F.slot_set_iter (HK F.slot_set_iter hT tj ?_ (F.args_set_iter_1 _))
 unfold Builtin.«frozenset.__iter__» Builtin.Frozenset.slot0 slotArgs
 simp only [Lr,HV,Fx,↓reduceIte,bind_assoc,LL,bne_self_eq_false]
 unfold Builtin.Frozenset.addrOf Builtin.Frozenset.sizeOf
 refine mo (Fv ?_)
 try dsimp only
 refine mo (Fv ?_)
 refine mo (mo (KD ho hd (fits_of T) (Fv ?_)))
 refine mo ?_
 unfold setDrawn
 refine mo (Hz ho hd (fits_of T) ?_)
 refine mo (iM (Fv ?_))
 have nd:¬ ((!bP w&&(!t.plain&&decide (es.size > 1)))=true):=by rw [pl]; simp
 refine Jq (fun h=>absurd h nd) (fun _=>?_)
 refine mo (Fv ?_)
 refine mo (wpAny_setEpoch_of ho hd (fits_of T) ?_)
 unfold newFields
 refine mo (IS ?_)
 refine Fv ⟨_,rfl,"set_iterator",_,⟨_,Gc _ rfl,rfl⟩,slot_next.lookup,q⟩
structure jn (w:GF) (h:HM) (I a:FD) (es:Array (Int × Fk)) (ep:Nat) (t:GS) (i:Nat):Prop where
 it:∃ slot,yP h I a slot i es.size ep/\(bP w=false->Jm t.place slot=i)
 st:∃ o,h.get? a=some o/\o.data = .set es ep t
theorem qK {a:FD} {o:Obj} {es:Array (Int × Fk)} {ep slot i:Nat} {t:GS} {Q:Option (Fk × Nat)->Fq->Prop} (ho:s.heap.get? a=some o) (hd:o.data = .set es ep t) (T:Tab t es.size) (pl:t.plain=true) (ld:t.led = !bP w)
  (hs:bP w=false->Jm t.place slot=i)
  (q0:es.size<=i->Q none s) (q1:∀ e nx,(wk w a ep es)[i]? = some e->(bP w=false->Jm t.place nx=i+1)->Q (some (e.2,nx)) s):wpAny (model prog w) A (setNext a slot i ep) Q E s:=by
 unfold setNext
 refine mo (Hz ho hd (fits_of T) ?_)
 refine mo (iM ?_)
 cases hb:bP w with
 | true =>
  simp only [if_true,bne_self_eq_false,Fx,if_false]
  refine mo ?_
  unfold setWalk
  refine mo (Hz ho hd (fits_of T) ?_)
  refine mo (iM ?_)
  simp only [hb,if_true]
  refine mo (Lq (Fv (Fv ?_)))
  have ew:wk w a ep es=pickOrder (w.params.setOrder a ep) es:=by unfold wk; rw [if_pos hb]
  show Q (((pickOrder (w.params.setOrder a ep) es)[i]?).map fun e=>(e.2,slot)) s
  rw [<- ew]
  by_cases hi:i < es.size
  ·rw [Fz (show i < (wk w a ep es).size by rw [ig]; exact hi)]
   exact q1 _ slot (Fz (show i < (wk w a ep es).size by rw [ig]; exact hi)) fun z=>by rw [hb] at z; cases z
  ·rw [G5 (by rw [ig]; lia)]
   exact q0 (by lia)
 | false =>
  simp only [Fx,if_false]
  have nd:¬ ((!t.plain&&decide (es.size > 1))=true):=by rw [pl]; simp
  refine Jq (fun h=>absurd h nd) (fun _=>?_)
  refine mo ?_
  show wpAny (model prog w) A (if (!t.led&&!es.isEmpty)=true then _ else _) _ E s
  rw [if_neg (by rw [ld,hb]; simp)]
  refine Fv (Fv ?_)
  rw [hs hb]
  have ew:wk w a ep es=es:=by unfold wk; rw [hb,if_neg (by decide)]
  by_cases hi:i < es.size
  ·have g1:=Fz hi
   have g2:=Fz (show i < t.place.size by rw [T.len]; exact hi)
   rw [g1,g2]
   exact q1 _ _ (by rw [ew]; exact g1) fun _=>sL T.ris g2
  ·rw [G5 (show es.size<=i by lia)]
   exact q0 (by lia)
theorem u3 {I a:FD} {es:Array (Int × Fk)} {ep i:Nat} {t:GS} {Q:Fk->Fq->Prop} (hne:a≠I) (S:jn w s.heap I a es ep t i) (T:Tab t es.size) (pl:t.plain=true) (ld:t.led = !bP w) (hi:i < es.size)
  (q:∀ e h',(wk w a ep es)[i]? = some e->jn w h' I a es ep t (i+1)->JL I s.heap h'->Q e.2 { s with heap:=h' }) :
  wpAny (model prog w) A (Builtin.«set_iterator.__next__» ⟨[.ref I],[]⟩) (fun fin s'=>∃ v,fin = .done (.ret v)/\Q v s') E s:=by
 obtain ⟨⟨slot,hit,hs⟩,o,ho,hd⟩:=S
 unfold Builtin.«set_iterator.__next__» slotArgs
 simp only [Lr,HV,Fx,↓reduceIte,LL,bne_self_eq_false,pure_bind]
 refine mo (wpAny_fieldsOf hit rfl ?_)
 show wpAny (model prog w) A (setEntries a >>= _) _ E s
 refine mo (KD ho hd (fits_of T) ?_)
 rw [if_neg (by simp)]
 show wpAny (model prog w) A (setNext a ((slot:Int)).toNat ((i:Int)).toNat ((ep:Int)).toNat >>= _) _ E s
 rw [GI,GI,GI]
 refine mo (qK ho hd T pl ld hs (fun z=>absurd z (by lia)) fun e nx he hn=>?_)
 show wpAny (model prog w) A (setField (.ref I) 0 (rawInt nx) >>= _) _ E s
 refine mo (JU hit (by simp) fun h1 hit1 sb1=>?_)
 show wpAny (model prog w) A (setField (.ref I) 1 (rawInt ((i:Int)+1)) >>= _) _ E _
 refine mo (JU hit1 (by simp) fun h2 hit2 sb2=>?_)
 have sb:=sb1.trans sb2
 refine Fv ⟨_,rfl,q e h2 he ⟨⟨nx,?_,hn⟩,o,(sb.2 a hne).trans ho,hd⟩ sb⟩
 show h2.get? I=_
 rw [hit2]
 rfl
theorem w6 {I a:FD} {es:Array (Int × Fk)} {ep i:Nat} {t:GS} {Q:Mo->Fq->Prop} (hh:A.handled=none) (S:jn w s.heap I a es ep t i) (T:Tab t es.size) (pl:t.plain=true) (ld:t.led = !bP w) (hi:es.size<=i)
  (hE:∀ h' e,Heap.ExtBut I s.heap h'->(∃ o,h'.get? e=some o/\o.cls = .type "StopIteration")->E (.ref e) { s with heap:=h' }) :
  wpAny (model prog w) A (Builtin.«set_iterator.__next__» ⟨[.ref I],[]⟩) Q E s:=by
 obtain ⟨⟨slot,hit,hs⟩,o,ho,hd⟩:=S
 unfold Builtin.«set_iterator.__next__» slotArgs
 simp only [Lr,HV,Fx,↓reduceIte,LL,bne_self_eq_false,pure_bind]
 refine mo (wpAny_fieldsOf hit rfl ?_)
 show wpAny (model prog w) A (setEntries a >>= _) _ E s
 refine mo (KD ho hd (fits_of T) ?_)
 rw [if_neg (by simp)]
 show wpAny (model prog w) A (setNext a ((slot:Int)).toNat ((i:Int)).toNat ((ep:Int)).toNat >>= _) _ E s
 rw [GI,GI,GI]
 refine mo (qK ho hd T pl ld hs (fun _=>?_) fun e nx he hn=>?_)
 ·show wpAny (model prog w) A (setField (.ref I) 2 .none >>= _) _ E s
  refine mo (JU hit (by simp) fun h1 hit1 sb1=>?_)
  show wpAny _ _ (newExc (.type "StopIteration") [] >>= _) _ _ _
  refine mo ?_
  simp only [newExc,newTuple]
  refine mo (IS ?_ (by size_fits))
  refine mo (m:=firstArgMember _ _) (wpAny_of_eq (a:=Ht) (by first | rfl | (simp only [firstArgMember]; rfl)) ?_)
  refine IS ?_ (by size_fits)
  simp only [raiseNew]
  refine mo (wpAny_handled ?_)
  rw [hh]
  refine mo (Fv (wpAny_throw ?_))
  exact hE _ _ (fun b o hb e=>Ft _ (Ft _ (sb1.extBut b o hb e))) ⟨_,Gc _ rfl,rfl⟩
 ·have:=(Gu.mp he).1
  rw [ig] at this
  lia
theorem slot_self:Slot "set_iterator" "__iter__" "set_iterator.__iter__" :=
 .of (owner:="set_iterator") (n:="__iter__") (by rw [KA,Jp]; kernel_rfl) (by decide +kernel) (by decide +kernel) (by decide +kernel)
  (by first | exact .inl (by decide +kernel) | exact .inr (by decide +kernel)) (by rw [isSubtype_type]; kernel_rfl)
theorem entry_self:entryFor table "set_iterator.__iter__" = some Builtin.«dict_keyiterator.__iter__» :=
 entryFor_alias (id':="dict_keyiterator.__iter__") (by kernel_rfl) rfl (by decide +kernel) (by kernel_rfl)
theorem args_self (a:Fk):argsOk "set_iterator.__iter__" ⟨[a],[]⟩:=by
 unfold argsOk; rw [signature?_of (id:="set_iterator.__iter__") (n:=['_','_','r','e','t','i','_','_']) (o:=['r','o','t','a','r','e','t','i','_','t','e','s']) (by kernel_rfl) pG]; kernel_rfl
theorem vb (hh:A.handled=none) (I a:FD) (hne:a≠I) (es:Array (Int × Fk)) (ep:Nat) (t:GS) (T:Tab t es.size) (pl:t.plain=true) (ld:t.led = !bP w) :
  Walks prog w A I [I,a] [I] es.size (fun i v=>∃ e,(wk w a ep es)[i]? = some e/\v=e.2) (fun i h=>jn w h I a es ep t i) where
 sub:=fun b hb=>by simp at hb; simp [hb]
 frame:=fun i h h' st hk=>by
  obtain ⟨⟨slot,hit,hs⟩,o,ho,hd⟩:=st
  exact ⟨⟨slot,hk I (by simp) _ hit,hs⟩,o,hk a (by simp) _ ho,hd⟩
 item:=fun i s Q E hi st hQ=>by
  obtain ⟨slot,hit,_⟩:=st.it
  have hT:s.TypeIs (.ref I) "set_iterator":=⟨_,hit,rfl⟩
  unfold pyNext
  refine mo (Kq (Jd (name:=FY "__next__") hT slot_next (HK slot_next hT entry_next
   (u3 hne st T pl ld hi fun e h' he S' sb=>Fv ?_) (args_next _))))
  exact hQ e.2 h' s.toks ⟨e,he,rfl⟩ S' fun b o hb x=>sb.extBut b o (fun z=>hb (by simp [z])) x
 done:=fun s Q E st hQ=>by
  obtain ⟨slot,hit,_⟩:=st.it
  have hT:s.TypeIs (.ref I) "set_iterator":=⟨_,hit,rfl⟩
  unfold pyNext
  refine mo (Kq (Jd (name:=FY "__next__") hT slot_next (HK slot_next hT entry_next
   (w6 (A:=A.in1) hh st T pl ld (Fy _) fun h' e k he=>?_) (args_next _))))
  obtain ⟨o,ho,hc⟩:=he
  exact mo (Lp (T:="StopIteration") (b:=true) ⟨o,ho,hc⟩ isSubtype_stop (Fv (hQ _ s.toks fun b o hb x=>k b o (fun z=>hb (by simp [z])) x)))
 self:=fun i s Q E st hQ=>by
  obtain ⟨slot,hit,_⟩:=st.it
  have hT:s.TypeIs (.ref I) "set_iterator":=⟨_,hit,rfl⟩
  refine wpAny_pyIter_slot hT slot_self (HK slot_self hT entry_self ?_ (args_self _))
  show wpAny _ _ (ret (.ref I)) _ _ s
  exact Fv ⟨_,rfl,"set_iterator",_,hT,slot_next.lookup,hQ⟩
end
end Sx
namespace Sx
open PySem PySem.SetTable PyProof.Rows
noncomputable def iN (m:Nat) (p:Probe):Probe :=
 if p.more > 0 then { p with j:=p.j+1,more:=p.more - 1 } else begin_ m (leap m p.i p.perturb).1 (leap m p.i p.perturb).2
noncomputable def bN (m:Nat):Nat->Probe->Probe
 | 0,p=>p
 | k+1,p=>bN m k (iN m p)
theorem b9 (m:Nat):∀ (a b:Nat) (p:Probe),bN m (a+b) p=bN m b (bN m a p)
 | 0,b,p=>by rw [Hw]; rfl
 | a+1,b,p=>by rw [show a+1+b=(a+b)+1 by lia]; exact b9 m a b _
theorem vA {t:GS} {p:Probe} (h:p.dummy=none):t.advance p=iN t.mask p/\(iN t.mask p).dummy=none:=by
 unfold advance iN
 split
 ·exact ⟨rfl,h⟩
 ·refine ⟨?_,rfl⟩
  unfold begin_
  rw [h]
theorem mB (m:Nat):∀ (k:Nat) {p:Probe},p.dummy=none->(bN m k p).dummy=none
 | 0,p,h=>h
 | k+1,p,h=>mB m k (by unfold iN; split; exact h; rfl)
theorem uF {m:Nat}:∀ (k:Nat) {p:Probe},p.j+p.more<=m->(bN m k p).j+(bN m k p).more<=m
 | 0,p,h=>h
 | k+1,p,h=>uF k (by
  unfold iN
  split
  ·show p.j+1+(p.more - 1)<=m; lia
  ·exact iw (HZ.mp (J3 _ (Ia _))))
noncomputable abbrev fU (m:Nat) (h:Int):Probe:=begin_ m (bits h % (m+1)) (bits h)
theorem zk (m:Nat) (h:Int):(fU m h).j+(fU m h).more<=m:=iw (HZ.mp (J3 _ (Ia _)))
def Way (m:Nat) (oc:List Nat) (h:Int) (j:Nat):Prop:=∃ k,(bN m k (fU m h)).j=j/\∀ n < k,(bN m n (fU m h)).j∈oc
theorem Way.mono {m:Nat} {oc oc':List Nat} {h:Int} {j:Nat} (W:Way m oc h j) (s:∀ x∈oc,x∈oc'):Way m oc' h j:=by
 obtain ⟨k,e,a⟩:=W
 exact ⟨k,e,fun n hn=>s _ (a n hn)⟩
theorem mE {t:GS} {j i:Nat} (h:t.slot j = .live i):t.place[i]? = some j:=by
 have e:t.slot j=if (t.place[below t.place j]? == some j)=true then .live (below t.place j) else if has t.dummies j=true then .dummy else .empty:=rfl
 rw [e] at h
 by_cases c:(t.place[below t.place j]? == some j)=true
 ·rw [if_pos c] at h
  cases h
  simpa using c
 ·rw [if_neg c] at h
  by_cases d:has t.dummies j=true
  ·rw [if_pos d] at h; cases h
  ·rw [if_neg d] at h; cases h
theorem vX {t:GS} {j i:Nat} (h:t.slot j = .live i):j∈t.place.toList:=FG (i:=i) (by rw [Gq]; exact mE h)
theorem qp {t:GS} {h:Int} {j:Nat} (hd:t.dummies = #[]):∀ (fuel:Nat) (p:Probe),p.dummy=none->probe.go t (fun _=>h+1) h fuel p=some (.empty j none) ->
  ∃ K,K < fuel/\(bN t.mask K p).j=j/\t.slot j = .empty/\∀ n < K,∃ i,t.slot (bN t.mask n p).j = .live i
 | 0,p,_,e=>by unfold probe.go at e; cases e
 | fuel+1,p,hp,e=>by
  unfold probe.go at e
  rcases hJ (t:=t) (j:=p.j) hd with z | ⟨i,z⟩
  ·rw [z] at e
   have:p.j=j:=by simpa using congrArg (fun o=>match o with | some (Met.empty j _)=>j | _=>0) e
   exact ⟨0,Ia _,this,this▸z,fun n hn=>absurd hn (Iq _)⟩
  ·rw [z] at e
   have ne:((h+1:Int) == h)=false:=by rw [beq_eq_false_iff_ne]; lia
   simp only [ne,Fx,if_false] at e
   obtain ⟨ea,da⟩:=vA (t:=t) hp
   rw [ea] at e
   obtain ⟨K,hK,e1,e2,e3⟩:=qp hd fuel _ da e
   refine ⟨K+1,by lia,e1,e2,fun n hn=>?_⟩
   cases n with
   | zero=>exact ⟨i,z⟩
   | succ n=>exact e3 n (by lia)
theorem wW {t:GS} {n:Nat} (T:Tab t n) (h:Int):∃ K,K < 10*turns t.mask/\t.slot (bN t.mask K (fU t.mask h)).j = .empty/\(bN t.mask K (fU t.mask h)).j<=t.mask/\∀ n < K,∃ i,t.slot (bN t.mask n (fU t.mask h)).j = .live i:=by
 obtain ⟨j,e,nj,jm⟩:=rP (t:=t) (hashAt:=fun _=>h+1) (h:=h) T.msk T.ris T.dum T.few fun i _=>by lia
 obtain ⟨K,hK,e1,e2,e3⟩:=qp T.dum _ (fU t.mask h) rfl e
 exact ⟨K,hK,by rw [e1]; exact e2,by rw [e1]; exact jm,e3⟩
theorem lD {t:GS} {hashAt:Nat->Int} {h:Int}:∀ (r fuel:Nat) (p:Probe),r < fuel->p.dummy=none->(∀ n < r,∃ i,t.slot (bN t.mask n p).j = .live i)->t.slot (bN t.mask r p).j = .empty ->
  (probe.go t hashAt h fuel p=some (.empty (bN t.mask r p).j none)/\∀ n < r,∀ i,t.slot (bN t.mask n p).j = .live i->hashAt i≠h) \/
  ∃ n i,n < r/\t.slot (bN t.mask n p).j = .live i/\hashAt i=h/\(∀ n' < n,∀ i',t.slot (bN t.mask n' p).j = .live i'->hashAt i'≠h)/\probe.go t hashAt h fuel p=some (.candidate (bN t.mask n p).j i (bN t.mask (n+1) p))
 | r,0,p,hf,_,_,_=>by lia
 | 0,fuel+1,p,_,hp,_,he=>by
  refine .inl ⟨?_,fun n hn=>absurd hn (Iq _)⟩
  have he':t.slot p.j = .empty:=he
  unfold probe.go
  rw [he',hp]
  rfl
 | r+1,fuel+1,p,hf,hp,hl,he=>by
  obtain ⟨i,hi⟩:=hl 0 (Ia _)
  have hi':t.slot p.j = .live i:=hi
  obtain ⟨ea,da⟩:=vA (t:=t) hp
  by_cases c:hashAt i=h
  ·refine .inr ⟨0,i,Ia _,hi,c,fun n' hn=>absurd hn (Iq _),?_⟩
   have cb:(hashAt i == h)=true:=beq_iff_eq.mpr c
   unfold probe.go
   rw [hi']
   simp only [cb,if_true,ea]
   rfl
  ·have cb:(hashAt i == h)=false:=beq_eq_false_iff_ne.mpr c
   have st:probe.go t hashAt h (fuel+1) p=probe.go t hashAt h fuel (iN t.mask p):=by
    conv=>lhs; unfold probe.go
    rw [hi',ea]
    simp only [cb,Fx,if_false]
   rw [st]
   have first:∀ i',t.slot (bN t.mask 0 p).j = .live i'->hashAt i'≠h:=fun i' z=>by
    have z':t.slot p.j = .live i':=z
    rw [hi'] at z'
    cases z'
    exact c
   rcases lD r fuel (iN t.mask p) (by lia) da (fun n hn=>hl (n+1) (by lia)) he with ⟨a,b⟩ | ⟨n,i',a,b,d,e,f⟩
   ·refine .inl ⟨a,fun n hn=>?_⟩
    cases n with
    | zero=>exact first
    | succ n=>exact b n (by lia)
   ·refine .inr ⟨n+1,i',by lia,b,d,fun n' hn=>?_,f⟩
    cases n' with
    | zero=>exact first
    | succ n'=>exact e n' (by lia)
def iR (t:GS) (es:Array (Int × Fk)):Prop:=∀ q∈t.place.toList.zip es.toList,Way t.mask t.place.toList q.2.1 q.1
theorem iR.at_ {t:GS} {es:Array (Int × Fk)} (W:iR t es) {i j:Nat} {e:Int × Fk} (hj:t.place[i]? = some j) (he:es[i]? = some e):Way t.mask t.place.toList e.1 j:=by
 refine W (j,e) (FG (i:=i) ?_)
 rw [HW]
 exact ⟨by rw [Gq]; exact hj,by rw [Gq]; exact he⟩
theorem iR.fresh (f mv:Nat) (led:Bool):iR (.fresh f mv led) #[]:=fun q hq=>by cases hq
theorem iR.put {t:GS} {es:Array (Int × Fk)} {j:Nat} {e:Int × Fk} (W:iR t es) (T:Tab t es.size) (w:Way t.mask t.place.toList e.1 j):iR (t.put j).1 (insertAt es (below t.place j) e):=by
 have h0:=(below_at t.place j T.ris).1
 have el:=dy t.place (below t.place j) j h0
 have el2:=dy es (below t.place j) e (by rw [<- T.len]; exact h0)
 have sub:∀ x∈t.place.toList,x∈(insertAt t.place (below t.place j) j).toList:=fun x hx=>by
  rw [el]
  exact (gK _ _ _).mem_iff.mpr (FE _ hx)
 intro q hq
 show Way t.mask (insertAt t.place (below t.place j) j).toList q.2.1 q.1
 have hq':q∈(insertAt t.place (below t.place j) j).toList.zip (insertAt es (below t.place j) e).toList:=hq
 rw [el,el2,List.zip_append (by rw [FU,FU,FM,FM,T.len]),List.zip_cons_cons] at hq'
 have tz:∀ (a:List Nat) (b:List (Int × Fk)) (p:Nat),(a.take p).zip (b.take p)=(a.zip b).take p:=fun a b p=>by rw [JK,JK,List.take_zipWith]
 have dz:∀ (a:List Nat) (b:List (Int × Fk)) (p:Nat),(a.drop p).zip (b.drop p)=(a.zip b).drop p:=fun a b p=>by rw [JK,JK,List.drop_zipWith]
 rw [tz,dz] at hq'
 rcases FF.mp hq' with z | z
 ·exact (W q (Ki z)).mono sub
 ·rcases FL.mp z with rfl | z
  ·exact w.mono sub
  ·exact (W q (List.mem_of_mem_drop z)).mono sub
theorem gX {m i x:Nat}:∀ n,n<=runEnd m i - i->bN m n (begin_ m i x)={ begin_ m i x with j:=i+n,more:=runEnd m i - i - n }
 | 0,_=>rfl
 | n+1,h=>by
  rw [b9 m n 1,gX n (by lia)]
  show iN m _=_
  unfold iN
  rw [if_pos (show runEnd m i - i - n > 0 by lia)]
  simp only [Probe.mk.injEq,and_true]
  exact ⟨by lia,by lia⟩
theorem v8 {m i x:Nat}:bN m (runEnd m i - i+1) (begin_ m i x)=begin_ m (leap m i x).1 (leap m i x).2:=by
 rw [b9 m (runEnd m i - i) 1,gX _ (Fy _)]
 show iN m _=_
 unfold iN
 rw [if_neg (by show ¬ (runEnd m i - i - (runEnd m i - i) > 0); lia)]
 rfl
theorem mO {m:Nat} {owner:Array (Option Nat)}:∀ (fuel i x j:Nat),layClean.free m owner fuel i x=some j->∃ K,(bN m K (begin_ m i x)).j=j/\∀ n < K,(owner.getD (bN m n (begin_ m i x)).j (some 0)).isNone=false
 | 0,i,x,j,e=>by unfold layClean.free at e; cases e
 | fuel+1,i,x,j,e=>by
  have hre:i<=runEnd m i:=by unfold runEnd; split<;>lia
  unfold layClean.free at e
  cases f:(FC (runEnd m i+1 - i)).find? fun k=>(owner.getD (i+k) (some 0)).isNone with
  | some a =>
   rw [f] at e
   have e':i+a=j:=by simpa using e
   obtain ⟨f1,f2,f3⟩:=List.find?_range_eq_some.mp f
   have f2':=FV.mp f2
   refine ⟨a,by rw [gX a (by lia)]; exact e',fun n hn=>?_⟩
   rw [gX n (by lia)]
   simpa using f3 n hn
  | none =>
   rw [f] at e
   have e':layClean.free m owner fuel (leap m i x).1 (leap m i x).2=some j:=e
   obtain ⟨K,e1,e2⟩:=mO fuel _ _ j e'
   have f1:=List.find?_range_eq_none.mp f
   rw [<- v8] at e1 e2
   refine ⟨runEnd m i - i+1+K,by rw [b9]; exact e1,fun n hn=>?_⟩
   by_cases c:n<=runEnd m i - i
   ·rw [gX n c]
    simpa using f1 n (by lia)
   ·have:=e2 (n - (runEnd m i - i+1)) (by lia)
    rw [<- b9,show runEnd m i - i+1+(n - (runEnd m i - i+1))=n by lia] at this
    exact this
def rL (m:Nat) (js:List Nat) (hs:List Int):Prop:=∀ q∈js.zip hs,Way m js q.2 q.1
theorem pD {m:Nat} (hm:iY m):∀ (hs hs0:List Int) (owner:Array (Option Nat)) (js:List Nat),Own m owner js->hs0.length=js.length->rL m js hs0->js.length+hs.length<=m ->
  ∃ owner' js',hs.foldl (fun acc h=>(do
   let (owner,k) <- acc
   let j <- layClean.free m owner (turns m) (bits h % (m+1)) (bits h)
   pure (owner.setIfInBounds j (some k),k+1))) (some (owner,js.length))=some (owner',js'.length)/\Own m owner' js'/\js'.length=js.length+hs.length/\rL m js' (hs0++hs)
 | [],hs0,owner,js,O,_,w,_=>⟨owner,js,rfl,O,rfl,by rw [Gj]; exact w⟩
 | h::hs,hs0,owner,js,O,l0,w,hl=>by
  simp only [FZ] at hl
  obtain ⟨g,hg,ng⟩:=kc (l:=js) (m:=m) (by lia)
  have hi:bits h % (m+1)<=m:=HZ.mp (J3 _ (Ia _))
  obtain ⟨k,hk,ek⟩:=reach hm hi (lK h) hg
  obtain ⟨j,hj,fj⟩:=iK (owner:=owner) k (turns m) (bits h % (m+1)) (bits h) (by rw [ek]; exact O.at_none hg ng) (by unfold turns; lia)
  obtain ⟨jm,nj⟩:=O.none_at fj
  obtain ⟨K,k1,k2⟩:=mO _ _ _ _ hj
  have wj:Way m (js++[j]) h j:=⟨K,k1,fun n hn=>by
   have z:=k2 n hn
   have le:=uF n (zk m h)
   apply IK
   intro hc
   have:=O.at_none (j:=(bN m n (fU m h)).j) (by lia) (fun hx=>hc (Hj _ hx))
   rw [this] at z
   cases z⟩
  have w2:rL m (js++[j]) (hs0++[h]):=fun q hq=>by
   rw [List.zip_append l0.symm] at hq
   rcases FF.mp hq with z | z
   ·exact (w q z).mono fun x hx=>Hj _ hx
   ·have:q=(j,h):=by simpa using z
    rw [this]
    exact wj
  obtain ⟨o',js',e,O',l',w'⟩:=pD hm hs (hs0++[h]) _ _ (O.step jm nj) (by simp [l0]) w2 (by simp; lia)
  refine ⟨o',js',?_,O',by rw [l']; simp; lia,by rw [FX] at w'; exact w'⟩
  rw [LH,<- e]
  congr 1
  show (do let j <- layClean.free m owner (turns m) (bits h % (m+1)) (bits h); pure (owner.setIfInBounds j (some js.length),js.length+1))=_
  rw [hj]
  simp
end Sx
namespace Sx
open PySem PySem.SetTable PyProof.Rows
theorem n6 {es:Array (Int × Fk)}:∀ (L:List (Nat × Nat)),(∀ q∈L,q.2 < es.size)->∀ r∈(L.map (·.1)).zip ((L.map (·.2)).filterMap (es[·]?)),∃ k,(r.1,k)∈L/\es[k]? = some r.2
 | [],_,r,h=>by cases h
 | q::L,hl,r,h=>by
  have hq:=hl q (Ge ..)
  rw [FQ,FQ,Ip,Fz hq] at h
  simp only [List.zip_cons_cons] at h
  rcases FL.mp h with rfl | h
  ·exact ⟨q.2,Ge ..,Fz hq⟩
  ·obtain ⟨k,a,b⟩:=n6 L (fun q hq=>hl q (FE _ hq)) r h
   exact ⟨k,FE _ a,b⟩
theorem w8 {m f mv:Nat} {led plain:Bool} {es:Array (Int × Fk)} {t:GS} {order:Array Nat} (e:JV m f mv led plain (es.map (·.1))=some (t,order)) (T:Tab t es.size):iR t (order.filterMap (es[·]?)):=by
 have hm:t.mask=m:=by
  unfold JV at e
  cases o:layClean m (es.map (·.1)) with
  | none=>rw [o] at e; cases e
  | some ow=>rw [o] at e; cases e; rfl
 have hM:=T.msk
 have few:=T.few
 rw [T.len] at few
 rw [hm] at hM few
 obtain ⟨ow,js,e1,O,l,w⟩:=pD hM (es.map (·.1)).toList [] _ [] (Own.start m) rfl (fun q hq=>by cases hq) (by simpa using few)
 have ec:layClean m (es.map (·.1))=some ow:=by
  unfold layClean
  rw [<- Array.foldl_toList]
  exact congrArg (Option.map (·.1)) e1
 have el:JV m f mv led plain (es.map (·.1))=some ({ mask:=m,place:=((bX m ow).map (·.1)).toArray,dummies:=#[],finger:=f,led:=led,moves:=mv,plain:=plain },((bX m ow).map (·.2)).toArray):=by
  unfold JV
  rw [ec]
  rfl
 rw [el] at e
 cases e
 intro q hq
 have lj:js.length=es.size:=by simpa using l
 have hq':q∈((bX m ow).map (·.1)).zip (((bX m ow).map (·.2)).filterMap (es[·]?)):=by simpa [Ly] using hq
 obtain ⟨k,hk,ek⟩:=n6 _ (fun q hq=>by
  have:=(Fs.mp ((dj O).mp (show (q.1,q.2)∈_ from hq))).1
  lia) q hq'
 have hj:=(dj O).mp hk
 have wq:Way m js q.2.1 q.1:=w (q.1,q.2.1) (FG (i:=k) (by
  rw [HW]
  refine ⟨hj,?_⟩
  rw [IV,Array.toList_map,GD,Gq,ek]
  rfl))
 show Way m ((bX m ow).map (·.1)).toArray.toList q.2.1 q.1
 refine wq.mono fun x hx=>?_
 obtain ⟨i,hi⟩:=Gy hx
 rw [KC]
 exact FH.mpr ⟨(x,i),(dj O).mpr hi,rfl⟩
section
variable {prog:Gi} {w:GF} {A:GG} {E:Fk->Fq->Prop} {s:Fq}
theorem jC {T:FD} {p:Int × Int} {Q:Bool->Fq->Prop} (hk:cH prog w s.heap T p) (q:Q false s):wpAny (model prog w) A (ofAClassStatement 8 (.ref T)) Q E s:=by
 have hT:=hk.typeIs
 obtain ⟨o,items,n,ho,hc,hd,hi⟩:=hk
 obtain ⟨t,u,ei⟩:=iV hi
 have ea:items = #[.int p.1 t,.int p.2 u]:=by
  cases items
  simp only at ei
  rw [ei]
 subst ea
 unfold ofAClassStatement
 refine mo (LK hT ?_)
 simp only [beq_self_eq_true,if_true,pure_bind,HV,Fx,if_false]
 refine mo (Jk ho hd ?_)
 simp only [<- IH,JP,KQ,ofAClassStatement,pure_bind,Fx,if_false]
 exact Fv q
theorem wy {x:FD} {p:Int × Int} {Q:Bool->Fq->Prop} (hx:cH prog w s.heap x p) (l:List Fk) (hl:∀ v∈l,∃ b r,v = .ref b/\cH prog w s.heap b r) (q:Q false s):wpAny (model prog w) A (searchCouldBeSeen (.ref x) l) Q E s:=by
 unfold searchCouldBeSeen
 refine mo ?_
 refine wpAny_forIn_list _ (fun rest r s'=>r.1=none/\s'=s/\∀ v∈rest,∃ b r,v = .ref b/\cH prog w s.heap b r) _ ?_ ?_ _ _ ⟨rfl,rfl,hl⟩
 ·rintro v rest r s' ⟨hr,rfl,hall⟩
  obtain ⟨b,pr,rfl,hb⟩:=hall v Ge
  have hrest:∀ v∈rest,∃ b r,v=FS b/\cH prog w s'.heap b r:=fun u hu=>hall u (FE _ hu)
  dsimp only
  refine Jq (fun _=>Fv ⟨rfl,rfl,hrest⟩) (fun _=>?_)
  refine mo (wpAny_eqIsQuiet_tuple hx ?_)
  simp only [HV,Fx,if_false]
  refine mo (wpAny_eqIsQuiet_tuple hb ?_)
  simp only [HV,Fx,if_false]
  refine mo (jC hx ?_)
  simp only [Fx,if_false]
  refine mo (jC hb ?_)
  simp only [Fx,if_false]
  exact Fv ⟨rfl,rfl,hrest⟩
 ·rintro ⟨r1,r2⟩ s' ⟨hr,rfl,_⟩
  simp only at hr
  subst hr
  exact Fv q
noncomputable def lX (es:Array (Int × Fk)) (i:Nat):Int:=(es[i]?.map (·.1)).getD 0
noncomputable def gz (th:Int × Int->Int) (e:FD × (Int × Int)):Int × Fk:=(th e.2,.ref e.1)
theorem pO {th:Int × Int->Int} {a x:FD} {p:Int × Int} {o:Obj} {es:Array (Int × Fk)} {ep:Nat} {t:GS} {U:List (FD × (Int × Int))} {Q:SetFound->Fq->Prop} (hu:A.units < cLine) (ho:s.heap.get? a=some o) (hd:o.data = .set es ep t) (G:Good t es.size) (W:iR t es)
  (hU:∀ e∈es.toList,∃ f∈U,e=gz th f) (hP:∀ f∈U,cH prog w s.heap f.1 f.2) (hx:cH prog w s.heap x p)
  (q1:(∃ f∈U,f.2=p)->Q (.there none) s) (q2:∀ j,(∀ e∈es.toList,∀ f,e=gz th f->f∈U->f.2≠p)->j∉t.place.toList->j<=t.mask->Way t.mask t.place.toList (th p) j->Q (.free j false) s):wpAny (model prog w) A (setSearch a (.ref x) (th p) true) Q E s:=by
 have T:=G.tab
 obtain ⟨K,hK,k1,k2,k3⟩:=wW T (th p)
 have gw:t.gaveWay=false:=by
  unfold SetTable.gaveWay
  rcases T.msk with e | e | e<;>rw [e]<;>rfl
 have entry:∀ i j,t.slot j = .live i->∃ f,f∈U/\es[i]? = some (gz th f):=fun i j h=>by
  have li:=i6 h
  rw [T.len] at li
  have g:=Fz li
  obtain ⟨f,hf,e⟩:=hU es[i] (by rw [IM]; exact Array.getElem_mem li)
  exact ⟨f,hf,by rw [g,e]⟩
 have main:∀ (r k fuel:Nat) (st:Option Probe),K=k+r->r < fuel->st.getD (t.probeStart (th p))=bN t.mask k (fU t.mask (th p)) ->
   (∀ n < k,∀ i,t.slot (bN t.mask n (fU t.mask (th p))).j = .live i->∀ f,f∈U->es[i]? = some (gz th f)->f.2≠p)->wpAny (model prog w) A (setSearchFrom a (.ref x) (th p) true fuel st) Q E s:=by
  intro r
  induction r using Kw with
  | ind r ih =>
   intro k fuel st hk hf hst hno
   obtain ⟨fuel,rfl⟩:∃ f,fuel=f+1:=⟨fuel - 1,by lia⟩
   unfold setSearchFrom
   refine mo (Hz ho hd (fits_of T) ?_)
   simp only [gw,Fx,if_false]
   rw [hst]
   conv in (SetTable.probe _ _ _ _)=>change SetTable.probe t (lX es) (th p) (bN t.mask k (fU t.mask (th p)))
   have pf:=lD (t:=t) (hashAt:=(lX es)) (h:=th p) r (10*turns t.mask) (bN t.mask k (fU t.mask (th p))) (by lia) (mB _ _ rfl) (fun n hn=>by rw [<- b9]; exact k3 _ (by lia)) (by rw [<- b9,<- hk]; exact k1)
   have hat:∀ i f,es[i]? = some (gz th f)->(lX es) i=th f.2:=fun i f h=>by
    unfold lX
    rw [h]
    rfl
   rcases pf with ⟨e,hn⟩ | ⟨n,i,hn,hs,hh,hb,e⟩
   ·have e':t.probe (lX es) (th p) (bN t.mask k (fU t.mask (th p)))=_:=e
    rw [e']
    simp only
    rw [<- b9,<- hk]
    refine Fv (q2 _ (fun g hg f hgf hf' hp=>?_) (gc T.ris k1) k2 ⟨K,rfl,fun n hn=>?_⟩)
    ·obtain ⟨i,hi⟩:=Gy hg
     rw [Gq,hgf] at hi
     have li:i < t.place.size:=by rw [T.len]; exact (Gu.mp hi).1
     have gp:=Fz li
     obtain ⟨n,en,an⟩:=W.at_ gp hi
     have en':(bN t.mask n (fU t.mask (th p))).j=t.place[i]:=by rw [<- hp]; exact en
     have hnK:n < K:=by
      rcases K5 n K with z | z | z
      ·exact z
      ·rw [z] at en'
       exact absurd (by rw [en']; exact FG (i:=i) (by rw [Gq]; exact gp)) (gc T.ris k1)
      ·have:=an K z
       have:=gc T.ris k1
       rw [<- hp] at this
       exact absurd (an K z) this
     obtain ⟨i',hi'⟩:=k3 n hnK
     have pi':=mE hi'
     have ii:i'=i:=by
      rw [en'] at pi'
      have nd:t.place.toList.Nodup:=T.ris.imp fun h=>Gk h
      refine (List.getElem?_inj (l:=t.place.toList) (by rw [FM]; exact (Gu.mp pi').1) nd).mp ?_
      rw [Gq,Gq,pi',gp]
     subst ii
     by_cases c:n < k
     ·exact hno n c i' hi' f hf' hi hp
     ·have:=hn (n - k) (by lia) i' (by rw [<- b9,show k+(n - k)=n by lia]; exact hi')
      rw [hat i' f hi,hp] at this
      exact this rfl
    ·obtain ⟨i,hi⟩:=k3 n hn
     exact vX hi
   ·have e':t.probe (lX es) (th p) (bN t.mask k (fU t.mask (th p)))=_:=e
    rw [e']
    simp only
    obtain ⟨f,hf',he⟩:=entry i _ hs
    have hPf:=hP f hf'
    cases hl:t.led with
    | true =>
     simp only [HV,Fx,if_false,he]
     refine mo (GH (wpAny_eqBool_tuple hu hPf hx ?_))
     refine mo (Hz ho hd (fits_of T) ?_)
     by_cases c:f.2=p
     ·rw [decide_eq_true (show [f.2.1,f.2.2]=[p.1,p.2] by rw [c])]
      simp only [Bool.and_self,if_true]
      exact Fv (q1 ⟨f,hf',c⟩)
     ·rw [decide_eq_false (show ¬ [f.2.1,f.2.2]=[p.1,p.2] from fun z=>c (by
       have:f.2.1=p.1/\f.2.2=p.2:=by simpa using z
       exact JQ this.1 this.2))]
      have sm:t.sameMemory t.moves t.mask=some true:=by unfold LX; rw [beq_self_eq_true]; rfl
      simp only [Jy,Fx,if_false,sm,if_true,hs,he]
      have is:isSame (FS f.1) (FS f.1)=pure true:=by
       unfold isSame
       simp only [beq_self_eq_true,if_true]
      have is2:isSame (gz th f).2 (gz th f).2=pure true:=is
      rw [is2]
      simp only [pure_bind,if_true]
      refine ih (r - (n+1)) (by lia) (k+(n+1)) fuel _ (by lia) (by lia) ?_ fun n' hn' i' hi' f' hf1 he' hp'=>?_
      ·rw [Jg,<- b9]
      ·by_cases c1:n' < k
       ·exact hno n' c1 i' hi' f' hf1 he' hp'
       ·by_cases c2:n' < k+n
        ·have:=hb (n' - k) (by lia) i' (by rw [<- b9,show k+(n' - k)=n' by lia]; exact hi')
         rw [hat i' f' he',hp'] at this
         exact this rfl
        ·have en:n'=k+n:=by lia
         rw [en,b9,hs] at hi'
         cases hi'
         rw [he] at he'
         have:gz th f=gz th f':=GB he'
         have e1:f.1=f'.1:=by
          have:=congrArg Ml this
          simpa [gz] using this
         have e2:cH prog w s.heap f.1 f'.2:=by rw [e1]; exact hP f' hf1
         have:=hPf.inj e2
         have z:f.2.1=f'.2.1/\f.2.2=f'.2.2:=by simpa using this
         exact c (by rw [<- hp']; exact JQ z.1 z.2)
    | false =>
     simp only [KR,if_true]
     refine mo (wy hx _ (fun v hv=>?_) ?_)
     ·obtain ⟨g,hg,rfl⟩:=FH.mp hv
      have hg':g∈es.toList:=by
       have:=IM.mp hg
       rw [Array.mem_filter] at this
       exact IM.mpr this.1
      obtain ⟨f2,hf2,rfl⟩:=hU g hg'
      exact ⟨f2.1,f2.2,rfl,hP f2 hf2⟩
     simp only [Fx,if_false,he]
     refine mo (GH (wpAny_eqBool_tuple hu hPf hx ?_))
     refine mo (Hz ho hd (fits_of T) ?_)
     by_cases c:f.2=p
     ·rw [decide_eq_true (show [f.2.1,f.2.2]=[p.1,p.2] by rw [c])]
      simp only [Bool.and_self,if_true]
      exact Fv (q1 ⟨f,hf',c⟩)
     ·rw [decide_eq_false (show ¬ [f.2.1,f.2.2]=[p.1,p.2] from fun z=>c (by
       have:f.2.1=p.1/\f.2.2=p.2:=by simpa using z
       exact JQ this.1 this.2))]
      have sm:t.sameMemory t.moves t.mask=some true:=by unfold LX; rw [beq_self_eq_true]; rfl
      simp only [Jy,Fx,if_false,sm,if_true,hs,he]
      have is:isSame (FS f.1) (FS f.1)=pure true:=by
       unfold isSame
       simp only [beq_self_eq_true,if_true]
      have is2:isSame (gz th f).2 (gz th f).2=pure true:=is
      rw [is2]
      simp only [pure_bind,if_true]
      refine ih (r - (n+1)) (by lia) (k+(n+1)) fuel _ (by lia) (by lia) ?_ fun n' hn' i' hi' f' hf1 he' hp'=>?_
      ·rw [Jg,<- b9]
      ·by_cases c1:n' < k
       ·exact hno n' c1 i' hi' f' hf1 he' hp'
       ·by_cases c2:n' < k+n
        ·have:=hb (n' - k) (by lia) i' (by rw [<- b9,show k+(n' - k)=n' by lia]; exact hi')
         rw [hat i' f' he',hp'] at this
         exact this rfl
        ·have en:n'=k+n:=by lia
         rw [en,b9,hs] at hi'
         cases hi'
         rw [he] at he'
         have:gz th f=gz th f':=GB he'
         have e1:f.1=f'.1:=by
          have:=congrArg Ml this
          simpa [gz] using this
         have e2:cH prog w s.heap f.1 f'.2:=by rw [e1]; exact hP f' hf1
         have:=hPf.inj e2
         have z:f.2.1=f'.2.1/\f.2.2=f'.2.2:=by simpa using this
         exact c (by rw [<- hp']; exact JQ z.1 z.2)
 have le:10*turns t.mask<=1420:=by
  unfold turns
  rcases T.msk with e | e | e<;>lia
 unfold setSearch
 exact main K 0 100000 none (by lia) (by lia) rfl fun n hn=>absurd hn (Iq _)
end
end Sx
namespace Sx
open PySem PyProof.Rows
noncomputable def el (e:FD × (Int × Int)):Int × Fk:=(fk e.2,.ref e.1)
theorem mj {prog:Gi} {w:GF} {h h':HM} {T:FD} {p:Int × Int} (k:cH prog w h T p) (e:∀ o,h.get? T=some o->h'.get? T=some o):cH prog w h' T p:=by
 obtain ⟨o,items,n,ho,r⟩:=k
 exact ⟨o,items,n,e o ho,r⟩
section
variable {prog:Gi} {w:GF} {A:GG} {R:Result->Fq->Prop} {I:FD} {fp wr:List FD} {G:Array K9->Array K9->Prop} {n:Nat} {P:Nat->Fk->Prop} {St:Nat->Fq->Prop}
end
section
variable {prog:Gi} {w:GF} {A:GG} {E:Fk->Fq->Prop} {s:Fq}
theorem yC (a:Fk) {Q₁:Fk->Fq->Prop} (h:Q₁ (.ref s.heap.objs.size) { s with heap:=s.heap.push { cls:=.type "set",dict:=none,data:=.set #[] 0 (.fresh 0 0 (!bP w)) } }) :
  codeAny (model prog w) A (.call (.builtin "set.__new__") ⟨[.type "set",a],[]⟩) (wants Q₁ E) s:=by
 refine codeAny_of_tree ?_
 show wpAny _ A.in1 (do checkBuiltinCall "set.__new__" ⟨[.type "set",a],[]⟩; again (.builtin "set.__new__" ⟨[.type "set",a],[]⟩)) _ _ s
 refine mo (wpAny_of_eq (F.newCall_set_1 a) (Fv ⟨Hh F.plain_set_new _,GY F.entry_set_new ?_⟩))
 rw [GL F.plain_set_new _]
 unfold Builtin.«set.__new__» Builtin.Frozenset.newClass
 have hsub:=sub_set_self
 obtain ⟨hp,g,d,tk,os⟩:=s
 dsimp only
 wp_walk
 refine Lq (Fv ?_)
 dsimp only
 simp only [newObj]
 refine mo (wpAny_alloc (Fv ?_))
 exact Fv h
end
end Sx
namespace Sx
open PySem PyProof.Rows
section
variable {prog:Gi} {w:GF} {A:GG} {E:Fk->Fq->Prop} {s:Fq}
theorem wu {a:FD} {o:Obj} {Q:Bool->Fq->Prop} (ho:s.heap.get? a=some o) (hc:o.cls = .type "set") (q:Q false s):wpAny (model prog w) A (Builtin.List.listLengthHint (.ref a)) Q E s:=by
 have hT:s.TypeIs (.ref a) "set":=⟨o,ho,hc⟩
 unfold Builtin.List.listLengthHint
 refine mo (KB hT F.slot_set_len.lookup ?_)
 generalize hid:("set.__len__" : String)=id0
 wp_delta
 rw [show splitId id0=some ("set","__len__") from by subst hid; decide +kernel]
 subst hid
 refine mo (Lp (T:="set") (b:=true) hT (by rw [isSubtype_type]; kernel_rfl) ?_)
 refine Jq (fun hab=>absurd hab (by decide)) (fun _=>?_)
 refine Jq (fun _=>?_) (fun hab=>absurd (by decide +kernel) hab)
 refine mo (LK hT (Fv ?_))
 exact q
theorem pT {a:FD} {o:Obj} {es:Array (Int × Fk)} {ep:Nat} {t:GS} {Q:List Fk->Fq->Prop} (hh:A.handled=none) (ho:s.heap.get? a=some o) (hex:o.ExactSet) (hd:o.data = .set es ep t) (T:Tab t es.size) (pl:t.plain=true) (ld:t.led = !bP w) (h64:es.size<=64)
  (q:∀ h' tk,(∀ b o,s.heap.get? b=some o->h'.get? b=some o)->Q ((wk w a ep es).toList.map (·.2)) { s with heap:=h',toks:=tk }):wpAny (model prog w) A (collect (.ref a)) Q E s:=by
 have lta:a < s.heap.objs.size:=FK ho
 have hz:es.size<=sizeLine:=by rw [G3]; lia
 unfold collect
 refine mo (wpAny_runValue (GY F.entry_proto_collect ?_))
 rw [GL F.plain_proto_collect _]
 show wpAny _ A.in1 (newList [] >>= fun l=>again (.builtin "list.__iadd__" ⟨[l,.ref a],[]⟩)) _ _ s
 refine mo (IS ?_)
 refine Fv ⟨Hh F.plain_list_iadd _,GY F.entry_list_iadd ?_⟩
 rw [GL F.plain_list_iadd _]
 have ho1:(s.heap.push { cls:=.type "list",data:=.seq ([]:List Fk).toArray }).get? a=some o:=Ft _ ho
 have hS1:(s.heap.push { cls:=.type "list",data:=.seq ([]:List Fk).toArray }).get? s.heap.objs.size=some { cls:=.type "list",data:=.seq ([]:List Fk).toArray }:=Gc _ rfl
 have sz1:(s.heap.push { cls:=.type "list",data:=.seq ([]:List Fk).toArray }).objs.size=s.heap.objs.size+1:=Hk ..
 have keep1:∀ b o,s.heap.get? b=some o->(s.heap.push { cls:=.type "list",data:=.seq ([]:List Fk).toArray }).get? b=some o:=fun b o e=>Ft _ e
 show wpAny _ A.in1 (Builtin.List.listExtendWith (.ref s.heap.objs.size) (.ref a) (.ref s.heap.objs.size)) _ _ _
 generalize s.heap.push { cls:=.type "list",data:=.seq ([]:List Fk).toArray }=h1 at ho1 hS1 sz1 keep1 |-
 unfold Builtin.List.listExtendWith
 refine mo (LK (T:="set") ⟨o,ho1,hex.1⟩ ?_)
 have e1:Builtin.List.listSameRef (.ref s.heap.objs.size) (.ref a)=false:=by simp [Builtin.List.listSameRef]; exact J7 lta
 have e2:(IA "set" == IA "list")=false:=by decide
 have e3:(IA "set" == IA "tuple")=false:=by decide
 simp only [e1,e2,e3,L4,Fx,if_false]
 refine mo (xi (s:={ s with heap:=h1 }) ho1 hex hd T pl ?_)
 have hI:(h1.push { cls:=.type "set_iterator",dict:=none,data:=.fields #[rawInt 0,rawInt 0,.ref a,rawInt es.size,rawInt ep],slots:=#[] }).get? h1.objs.size=some _:=Gc _ rfl
 have up:∀ b o,h1.get? b=some o->(h1.push { cls:=.type "set_iterator",dict:=none,data:=.fields #[rawInt 0,rawInt 0,.ref a,rawInt es.size,rawInt ep],slots:=#[] }).get? b=some o:=fun b o e=>Ft _ e
 have sz2:(h1.push { cls:=.type "set_iterator",dict:=none,data:=.fields #[rawInt 0,rawInt 0,.ref a,rawInt es.size,rawInt ep],slots:=#[] }).objs.size=h1.objs.size+1:=Hk ..
 have ho2:=up _ _ ho1
 have hS2:=up _ _ hS1
 show wpAny _ A.in1 (holding [.ref h1.objs.size] (Builtin.List.listLengthHint (.ref a)) >>= _) _ _ { s with heap:=h1.push { cls:=.type "set_iterator",dict:=none,data:=.fields #[rawInt 0,rawInt 0,.ref a,rawInt es.size,rawInt ep],slots:=#[] } }
 generalize h1.push { cls:=.type "set_iterator",dict:=none,data:=.fields #[rawInt 0,rawInt 0,.ref a,rawInt es.size,rawInt ep],slots:=#[] }=h2 at hI up sz2 ho2 hS2 |-
 refine mo (GH (wu (s:={ s with heap:=h2 }) ho2 hex.1 ?_))
 have nSI:s.heap.objs.size≠h1.objs.size:=by rw [sz1]; exact Gk (JE _)
 have naI:a≠h1.objs.size:=by rw [sz1]; exact Gk (IU lta)
 have naS:a≠s.heap.objs.size:=Gk lta
 have W:=(vb (prog:=prog) (w:=w) (A:=A.in1) hh h1.objs.size a naI es ep t T pl ld).toS
 have key:∀ (h:HM) (c:Nat) (tk:Nat),jn w h h1.objs.size a es ep t 0->(∀ b o,b≠s.heap.objs.size->h2.get? b=some o->h.get? b=some o)->h.get? s.heap.objs.size=some { cls:=.type "list",data:=.seq #[] c } ->
   codeAny (model prog w) A (.builtin "list.extend.loop" ⟨[.ref s.heap.objs.size,.ref h1.objs.size,.ref s.heap.objs.size],[]⟩) (fun r s'=>match r with | .ok (.ret v)=>wpAny (model prog w) A (match v with | .ref a=>(load a >>= fun o=>match o.data with | .seq xs _=>pure xs.toList | _=>unsupported "internal:collect") | _=>unsupported "internal:collect") Q E s' | .ok _=>False | .error e=>E e s') { s with heap:=h,toks:=tk }:=by
  intro h c tk on kp hS
  refine codeAny_extend_loopS W hz s.heap.objs.size (by simp only [FL,Kg,or_false,not_or]; exact ⟨nSI,Ih naS⟩) _ es.size 0 _ #[] c rfl (FI _) on hS (ItemsOf.nil _) fun s' acc' c' hm hS' hacc=>?_
  rw [Moved.eq_with hm]
  show wpAny _ A (load s.heap.objs.size >>= _) _ _ _
  refine mo (wpAny_load hS' (Fv ?_))
  have ea:acc'.toList=(wk w a ep es).toList.map (·.2):=by
   refine List.ext_getElem? fun j=>?_
   by_cases hj:j < es.size
   ·have lj:j < acc'.size:=by rw [hacc.1]; exact hj
    have g:=hacc.2 j acc'[j] (Fz lj)
    obtain ⟨e,he,ev⟩:=g
    rw [Gq,Fz lj,GD,Gq,he,ev]
    rfl
   ·rw [Hc (by rw [FM,hacc.1]; lia),Hc (by rw [Do,FM,ig]; lia)]
  rw [ea]
  refine q _ _ fun b o e=>?_
  have lb:=FK e
  exact hm.heap b o (by simp only [FL,Kg,or_false,not_or]; exact ⟨Gk lb,by rw [sz1]; exact Gk (IU lb)⟩) (kp b o (Gk lb) (up b o (keep1 b o e)))
 have on2:jn w h2 h1.objs.size a es ep t 0:=⟨⟨0,hI,fun _=>k8 _ T.ris⟩,o,ho2,hd⟩
 refine Jq (fun _=>?_) (fun _=>Fv ⟨Hh Iw _,key h2 0 _ on2 (fun b o _ e=>e) hS2⟩)
 refine mo (Jl ?_)
 refine mo ?_
 show wpAny _ _ (updateSeq s.heap.objs.size (·.push .none) >>= fun _=>updateSeq s.heap.objs.size (·.pop)) _ _ _
 have hS3:=GQ (Gs (·.push Ht)) hS2 rfl
 have hS4:=GQ (Gs (·.pop)) hS3 rfl
 have oth:∀ b o,b≠s.heap.objs.size->h2.get? b=some o->((h2.update s.heap.objs.size (Gs (·.push Ht))).update s.heap.objs.size (Gs (·.pop))).get? b=some o:=fun b o hb e=>(Gv _ _ (Ih hb)).trans ((Gv _ _ (Ih hb)).trans e)
 refine mo (HH (s:={ s with heap:=h2 }) hS2 rfl (HH hS3 rfl (Fv ⟨Hh Iw _,key _ _ _ ⟨⟨0,oth _ _ (Ih nSI) hI,fun _=>k8 _ T.ris⟩,o,oth _ _ naS ho2,hd⟩ oth hS4⟩) (by show 1<=sizeLine; rw [G3]; lia) (by show 0<=_; exact FI _)) (FI _) (by show 1<=_; rw [G3]; lia))
end
end Sx
namespace Ck
open PySem L2 Sx
theorem oh {α β:Type} {f:α->β} {L M:List β} (h:L.Perm M):∀ T:List α,M=T.map f->∃ T':List α,T'.Perm T/\L=T'.map f:=by
 induction h with
 | nil=>intro T e; exact ⟨T,.refl _,e⟩
 | @cons x l1 l2 _ ih =>
  intro T e
  cases T with
  | nil=>cases e
  | cons a T =>
   rw [FQ,List.cons.injEq] at e
   obtain ⟨T',p,e'⟩:=ih T e.2
   exact ⟨a::T',.cons a p,by rw [FQ,<- e',<- e.1]⟩
 | @swap x y l =>
  intro T e
  match T,e with
  | a::b::T,e =>
   simp only [FQ,List.cons.injEq] at e
   exact ⟨b::a::T,.swap a b T,by simp only [FQ,<- e.1,<- e.2.1,<- e.2.2]⟩
 | trans _ _ ih1 ih2 =>
  intro T e
  obtain ⟨T1,p1,e1⟩:=ih2 T e
  obtain ⟨T2,p2,e2⟩:=ih1 T1 e1
  exact ⟨T2,p2.trans p1,e2⟩
end Ck
namespace L2
open PySem PySem.Spec PyProof.Rows Ck Sx
section
variable {X:Cx}
theorem my {pins:List (FD × Obj)} {σ:St} {H:Hp} {s:Fq} (I:Inv X pins σ H s):∀ {us:List V} {ps:List Pair} {vs:List Fk},bC H us ps->Vals us vs ->
  ∃ Tp:List (FD × Pair),us=Tp.map (fun e=>V.ref e.1)/\vs=Tp.map (fun e=>FS e.1)/\Tp.map (·.2)=ps/\∀ e∈Tp,H e.1=some (.tup [.int e.2.1,.int e.2.2])/\cH X.prog X.w s.heap e.1 e.2
 | _,_,_,.nil,.nil=>⟨[],rfl,rfl,rfl,fun e h=>by cases h⟩
 | _,_,_,.cons (b:=p) r t,.cons rv tv=>by
  obtain ⟨a,rfl,ha⟩:=r
  cases rv
  obtain ⟨Tp,e1,e2,e3,e4⟩:=my I t tv
  obtain ⟨its,r',tu,_⟩:=I.tuple (bg.of ha)
  refine ⟨(a,p)::Tp,by rw [e1]; rfl,by rw [e2]; rfl,by rw [<- e3]; rfl,fun e he=>?_⟩
  rcases FL.mp he with rfl | he
  ·refine ⟨ha,?_⟩
   cases r' with
   | cons x1 r2 =>
    cases r2 with
    | cons x2 r3 =>
     cases r3
     obtain ⟨t1,rfl⟩:=x1
     obtain ⟨t2,rfl⟩:=x2
     obtain ⟨o,ho,hc,n,hd⟩:=tu
     exact yH ho hc hd
  ·exact e4 e he
theorem yG:bootBuiltins "set" = some (.type "set"):=by decide +kernel
theorem kI {h:HM} {prog:Gi} {w:GF}:∀ {Tp:List (FD × Pair)},(∀ e∈Tp,cH prog w h e.1 e.2)->g7 h (Tp.map fun e=>FS e.1) (Tp.map (·.2))
 | [],_=>.nil
 | e::Tp,hP=>by
  refine .cons ?_ (kI fun f hf=>hP f (FE _ hf))
  obtain ⟨o,items,n,ho,hc,hd,hi⟩:=hP e (Ge ..)
  obtain ⟨t,u,ei⟩:=iV hi
  have ea:items = #[.int e.2.1 t,.int e.2.2 u]:=by
   cases items
   simp only at ei
   rw [ei]
  subst ea
  exact ⟨e.1,t,u,rfl,o,ho,hc,n,hd⟩
end
end L2
namespace Sx
open PySem PyProof.Rows
section
variable {prog:Gi} {w:GF} {A:GG} {E:Fk->Fq->Prop} {s:Fq}
structure gO (h:HM) (a:FD) (led:Bool) (es:Array (Int × Fk)):Prop where
 at_:∃ o ep t,h.get? a=some o/\o.ExactSet/\o.data = .set es ep t/\Good t es.size/\t.led=led/\t.plain=true/\iR t es
theorem gO.at' {h h':HM} {a:FD} {led:Bool} {es:Array (Int × Fk)} (S:gO h a led es) (e:∀ o,h.get? a=some o->h'.get? a=some o):gO h' a led es:=by
 obtain ⟨o,ep,t,ho,r⟩:=S.at_
 exact ⟨o,ep,t,e o ho,r⟩
theorem yp {a x:FD} {p:Int × Int} {led:Bool} {es:Array (Int × Fk)} {Q:Bool->Fq->Prop} (hu:A.units < cLine) (hS:gO s.heap a led es) (hk:cH prog w s.heap x p) {U:List (FD × (Int × Int))} (hU:es.toList.Perm (U.map el)) (hP:∀ f∈U,cH prog w s.heap f.1 f.2) (h64:es.size < 64) (q0:p∈U.map (·.2)->Q false { s with toks:=s.toks+3 })
  (q:∀ h' es',p∉U.map (·.2)->JL a s.heap h'->gO h' a led es'->es'.toList.Perm ((fk p,.ref x)::es.toList)->Q true { s with heap:=h',toks:=s.toks+3 }):wpAny (model prog w) A (setAdd a (.ref x)) Q E s:=by
 obtain ⟨o,ep,t,ho,hex,hd,G,ld,ep1,W⟩:=hS.at_
 unfold setAdd
 refine GH (mo (wpAny_pyHash_tuple hu hk ?_))
 show wpAny (model prog w) A (setAddHashed a (.ref x) (fk p)) Q E { s with toks:=s.toks+3 }
 unfold setAddHashed setAddHashedIn
 refine GH (mo (Hz (s:={ s with toks:=s.toks+3 }) ho hd (fits_of G.tab) ?_))
 have bs:byScan (.ref x) es=false:=rfl
 simp only [bs,Fx,if_false]
 refine mo (pO (th:=fk) (s:={ s with toks:=s.toks+3 }) (U:=U) hu ho hd G W (fun e he=>by
  obtain ⟨f,hf,rfl⟩:=FH.mp (hU.mem_iff.mp he)
  exact ⟨f,hf,rfl⟩) hP hk (fun ⟨f,hf,e⟩=>Fv (q0 (FH.mpr ⟨f,hf,e⟩))) fun j nh nj jm wj=>?_)
 have nU:p∉U.map (·.2):=fun z=>by
  obtain ⟨f,hf,e⟩:=FH.mp z
  exact nh (el f) (hU.mem_iff.mpr (List.mem_map_of_mem hf)) f rfl hf e
 simp only
 refine mo (Hz (s:={ s with toks:=s.toks+3 }) ho hd (fits_of G.tab) ?_)
 obtain ⟨T1,e2,e3,e4,rel⟩:=G.put h64 nj jm
 have W1:=W.put (e:=(fk p,FS x)) G.tab wj
 rw [<- e2] at W1
 obtain ⟨t1,p1,e1⟩:∃ t1 p1,t.put j=(t1,p1):=⟨_,_,rfl⟩
 rw [e1] at T1 e2 e3 e4 rel W1
 simp only at T1 e2 e3 e4 rel W1
 simp only [e1]
 have pl:t1.plain=true:=by rw [e3,ep1]
 have h0:=(below_at t.place j G.tab.ris).1
 have hp1:p1<=es.size:=by rw [e2,<- G.tab.len]; exact h0
 have el1:=dy es p1 (fk p,FS x) hp1
 have pm1:(G0 es p1 (fk p,.ref x)).toList.Perm ((fk p,.ref x)::es.toList):=by rw [el1]; exact gK _ _ _
 have sz1:(G0 es p1 (fk p,.ref x)).size=es.size+1:=by rw [<- FM,pm1.length_eq,FZ,FM]
 simp only [pl,if_true]
 refine mo (pK (s:={ s with toks:=s.toks+3 }) hk ?_)
 simp only [if_true]
 refine mo (wpAny_storeSet_of (s:={ s with toks:=s.toks+3 }) ho hd ?_ (by rw [sz1,G3]; lia))
 have g1:=kL (es':=G0 es p1 (fk p,.ref x)) (t':=t1) ho hd
 have sb1:=LY s.heap a (LP (G0 es p1 (fk p,.ref x)) t1)
 cases hf:t1.tooFull with
 | false =>
  simp only [KR,Hs,Fx,if_false]
  refine Fv (q _ _ nU sb1 ⟨_,ep+1,t1,g1,hex,rfl,⟨by rw [sz1]; exact T1,hf⟩,by rw [e4,ld],pl,W1⟩ pm1)
 | true =>
  simp only [KR,Hs,if_true]
  obtain ⟨z1,t',order,r1,G2,l2,pl2,po⟩:=rel hf ((G0 es p1 (fk p,.ref x)).map (·.1)) (by rw [Array.size_map,sz1])
  have sz2:((G0 es p1 (fk p,.ref x))).size=es.size+1:=sz1
  refine mo (wF (s:={ s with heap:=s.heap.update a (LP (G0 es p1 (fk p,.ref x)) t1),toks:=s.toks+3 }) g1 rfl (by rw [sz1]; exact T1) (by lia) z1 r1 (by rw [sz1]; exact po) (Fv ?_))
  have g2:=kL (es':=order.filterMap ((G0 es p1 (fk p,.ref x))[·]?)) (t':=t') g1 rfl
  have fp:=jK (es:=G0 es p1 (fk p,.ref x)) (order:=order) (by rw [sz1]; exact po)
  have sz3:(order.filterMap ((G0 es p1 (fk p,.ref x))[·]?)).size=es.size+1:=by rw [<- FM,fp.length_eq,FM,sz1]
  have W2:iR t' (order.filterMap ((G0 es p1 (fk p,.ref x))[·]?)):=w8 r1 (by rw [sz1]; exact G2.tab)
  exact q _ _ nU (sb1.trans (LY _ a _)) ⟨_,ep+1+1,t',g2,hex,rfl,by rw [sz3]; exact G2,by rw [l2,ld],by rw [pl2,ep1],W2⟩ (fp.trans pm1)
end
structure jJ (Tp:List (FD × (Int × Int))) (i:Nat) (U:List (FD × (Int × Int))):Prop where
 sub:∀ f∈U,f∈Tp.take i
 nd:(U.map (·.2)).Nodup
 all:∀ f∈Tp.take i,f.2∈U.map (·.2)
 few:U.length<=i
theorem jJ.old {Tp:List (FD × (Int × Int))} {i:Nat} {U:List (FD × (Int × Int))} {e:FD × (Int × Int)} (d:jJ Tp i U) (he:Tp[i]? = some e) (z:e.2∈U.map (·.2)):jJ Tp (i+1) U:=by
 refine ⟨fun f hf=>?_,d.nd,fun f hf=>?_,by have:=d.few; lia⟩
 ·rw [FT]
  exact Hj _ (d.sub f hf)
 ·rw [FT,he] at hf
  rcases FF.mp hf with hf | hf
  ·exact d.all f hf
  ·have:f=e:=by simpa using hf
   rw [this]; exact z
theorem jJ.new {Tp:List (FD × (Int × Int))} {i:Nat} {U:List (FD × (Int × Int))} {e:FD × (Int × Int)} (d:jJ Tp i U) (he:Tp[i]? = some e) (z:e.2∉U.map (·.2)):jJ Tp (i+1) (U++[e]):=by
 refine ⟨fun f hf=>?_,?_,fun f hf=>?_,by have:=d.few; rw [Fw]; simp; lia⟩
 ·rw [FT,he]
  rcases FF.mp hf with hf | hf
  ·exact Hj _ (d.sub f hf)
  ·exact GE _ hf
 ·rw [Fu,Hx]
  refine ⟨d.nd,by simp,fun a ha b hb=>?_⟩
  have:b=e.2:=by simpa using hb
  rw [this]
  exact fun h=>z (h▸ha)
 ·rw [FT,he] at hf
  rw [Fu]
  rcases FF.mp hf with hf | hf
  ·exact Hj _ (d.all f hf)
  ·have:f=e:=by simpa using hf
   rw [this]
   exact GE _ (by simp)
section
variable {prog:Gi} {w:GF} {A:GG} {R:Result->Fq->Prop} {I:FD} {fp wr:List FD} {G:Array K9->Array K9->Prop} {n:Nat} {P:Nat->Fk->Prop} {St:Nat->Fq->Prop}
theorem rp (W:WalksS prog w A.in1 I fp wr G n P St) (S:FD) (hSf:S∉fp) (hu:A.in1.units < cLine) (led:Bool) (Tp:List (FD × (Int × Int))) (hn:Tp.length=n) (hval:∀ i v,P i v->∃ e,Tp[i]? = some e/\v = .ref e.1)
  (hT:∀ e∈Tp,e.1≠S/\e.1∉wr) (n64:n<=64) :
  ∀ (k i:Nat) (s:Fq) (es:Array (Int × Fk)) (U:List (FD × (Int × Int))),n - i=k->i<=n->St i s->(∀ e∈Tp,cH prog w s.heap e.1 e.2)->gO s.heap S led es->es.toList.Perm (U.map el)->jJ Tp i U ->
   (∀ s' es' U',Moved (S::wr) G s s'->gO s'.heap S led es'->es'.toList.Perm (U'.map el)->jJ Tp n U'->R (.ok (.ret .none)) s') ->
   codeAny (model prog w) A (.builtin "set.update.loop" ⟨[.ref S,.ref I],[]⟩) R s:=by
 have hSw:S∉wr:=fun h=>hSf (W.sub _ h)
 have hsub:∀ b∈wr,b∈S::wr:=fun b hb=>FE _ hb
 intro k
 induction k with
 | zero =>
  intro i s es U hk hi hst hP hS hp dd hR
  have hin:i=n:=by lia
  subst hin
  refine GY F.entry_set_update_loop ?_
  rw [GL Je _]
  show wpAny _ A.in1 (pyNext (.ref I) >>= _) _ _ s
  refine mo (W.done s _ _ hst fun s' hm=>?_)
  show wpAny _ A.in1 (ret Ht) _ _ s'
  exact Fv (hR s' es U (hm.mono hsub) (hS.at' fun o e=>hm.heap S _ hSw e) hp dd)
 | succ k ih =>
  intro i s es U hk hi hst hP hS hp dd hR
  have hlt:i < n:=by lia
  refine GY F.entry_set_update_loop ?_
  rw [GL Je _]
  show wpAny _ A.in1 (pyNext (.ref I) >>= _) _ _ s
  refine mo (W.item i s _ _ hlt hst fun v s' hv hst' hm=>?_)
  obtain ⟨e,he,rfl⟩:=hval i v hv
  have em:=FG he
  have hS':gO s'.heap S led es:=hS.at' fun o x=>hm.heap S _ hSw x
  have hP':∀ f∈Tp,cH prog w s'.heap f.1 f.2:=fun f hf=>mj (hP f hf) fun o x=>hm.heap _ _ (hT f hf).2 x
  have les:es.size<=i:=by
   rw [<- FM,hp.length_eq,Do]
   exact dd.few
  have hPU:∀ f∈U,cH prog w s'.heap f.1 f.2:=fun f hf=>hP' f (Ki (dd.sub f hf))
  show wpAny _ A.in1 (holding [FS e.1] (setAdd S (.ref e.1)) >>= _) _ _ s'
  have keepF:∀ h',JL S s'.heap h'->∀ b∈fp,∀ o,s'.heap.get? b=some o->h'.get? b=some o:=fun h' sb b hb o x=>by
   rw [sb.2 b (fun h:b=S=>hSf (by rw [<- h]; exact hb))]; exact x
  refine mo (GH (yp hu hS' (hP' e em) hp hPU (by lia) (fun z=>?_) fun h' es' nz sb S2 p2=>?_))
  ·refine Fv ⟨Hh Je _,ih (i+1) _ es U (by lia) hlt (W.frame _ s' _ _ hst' (Ig _ _) fun b hb o x=>x) hP' hS' hp (dd.old he z) fun s'' es'' U'' hm'' S'' p'' d''=>?_⟩
   exact hR s'' es'' U'' (Moved.trans W.gtrans ((hm.mono hsub).then_heap (Ig _ _) fun b o hb x=>x) hm'') S'' p'' d''
  ·refine Fv ⟨Hh Je _,ih (i+1) _ es' (U++[e]) (by lia) hlt (W.frame _ s' _ _ hst' (Ig _ _) fun b hb o x=>keepF h' sb b hb o x) (fun f hf=>mj (hP' f hf) fun o x=>(sb.2 _ (hT f hf).1).trans x) S2 ?_ (dd.new he nz) fun s'' es'' U'' hm'' S'' p'' d''=>?_⟩
   ·rw [Fu]
    exact (p2.trans (LU _ hp)).trans (List.perm_append_singleton (el e) _).symm
   ·refine hR s'' es'' U'' (Moved.trans W.gtrans ((hm.mono hsub).then_heap (Ig _ _) fun b o hb x=>?_) hm'') S'' p'' d''
    rw [sb.2 b (fun h:b=S=>hb (by rw [h]; exact Ge))]; exact x
end
section
variable {prog:Gi} {w:GF} {A:GG} {E:Fk->Fq->Prop} {s:Fq}
theorem nX {l:FD} {items:Array Fk} {Tp:List (FD × (Int × Int))} {Q:Fk->Fq->Prop} (hh:A.handled=none) (hu:A.units+10 < cLine) (hl:s.heap.IsList l items) (hi:items.toList=Tp.map fun e=>.ref e.1)
  (hP:∀ e∈Tp,cH prog w s.heap e.1 e.2) (n64:Tp.length<=64)
  (h:∀ (h':HM) (tk:Nat) (es:Array (Int × Fk)) (U:List (FD × (Int × Int))),gO h' s.heap.objs.size (!bP w) es->es.toList.Perm (U.map el)->jJ Tp Tp.length U->(∀ b o,b < s.heap.objs.size->s.heap.get? b=some o->h'.get? b=some o)->Q (.ref s.heap.objs.size) { s with heap:=h',toks:=tk }) :
  wpAny (model prog w) A (call (.type "set") [.ref l]) Q E s:=by
 obtain ⟨c,tl,hmro⟩:=Jr.mro
 have hmade:=Jr.made
 have hsub:=Jr.sub
 refine wpAny_call (codeAny_of_tree ?_)
 show wpAny _ _ (callAny (.type "set") _) _ _ _
 refine Fv ⟨Code.quiet_builtin _ (by decide +kernel),GY F.entry_type_call ?_⟩
 rw [Around.under_plain (weight_type_call_type "set" [.ref l] []) rfl]
 have h1:=Jr.notType
 have h2:=Jr.canCreate
 have hct:=F.typeCall_set_1 (.ref l)
 repeat (any_goals (first | assumption | wp_step))
 refine JM (yC (.ref l) (E:=E) (Q₁:=fun obj s₁=>obj = .ref s.heap.objs.size/\s₁={ s with heap:=s.heap.push { cls:=.type "set",dict:=none,data:=.set #[] 0 (.fresh 0 0 (!bP w)) } }) ⟨rfl,rfl⟩) fun r s₁ hr=>?_
 cases r with
 | error e=>exact hr
 | ok fl =>
  cases fl with
  | ret obj =>
   obtain ⟨rfl,rfl⟩:=hr
   have hS:(s.heap.push { cls:=.type "set",dict:=none,data:=.set #[] 0 (.fresh 0 0 (!bP w)) }).get? s.heap.objs.size=some { cls:=.type "set",dict:=none,data:=.set #[] 0 (.fresh 0 0 (!bP w)) }:=Gc _ rfl
   have hT:Shared.TypeIs { s with heap:=s.heap.push { cls:=.type "set",dict:=none,data:=.set #[] 0 (.fresh 0 0 (!bP w)) } } (.ref s.heap.objs.size) "set":=⟨_,hS,rfl⟩
   have hli:=Jr.init.lookup
   have hbi:=Jr.init.bind (.ref s.heap.objs.size)
   repeat (any_goals (first | assumption | wp_step))
   refine JM (codeAny_call_builtin (R:=wants (fun r s₂=>r = .none/\∃ h' tk es U,s₂={ s with heap:=h',toks:=tk }/\gO h' s.heap.objs.size (!bP w) es/\es.toList.Perm (Lc el U)/\jJ Tp Tp.length U /\
     (∀ b o,b < s.heap.objs.size->s.heap.get? b=some o->h'.get? b=some o)) E) Jr.init.plain F.entry_set_init (check_set_init_1 hT ?_)) fun r₂ s₂ hr₂=>?_
   ·obtain ⟨ol,hol,hcl,nl,hdl⟩:=hl
    obtain ⟨ocls,odict,odata,oslots⟩:=ol
    simp only at hcl hdl
    subst hcl; subst hdl
    have hol':(s.heap.push { cls:=.type "set",dict:=none,data:=.set #[] 0 (.fresh 0 0 (!bP w)) }).get? l=some { cls:=.type "list",dict:=odict,data:=.seq items nl,slots:=oslots }:=Ft _ hol
    have hsls:=F.sub_list_set
    have hslf:=F.sub_list_frozenset
    have hne:(IA "list" == IA "dict")=false:=by decide
    have eP:(s.heap.push { cls:=.type "set",dict:=none,data:=.set #[] 0 (.fresh 0 0 (!bP w)) }).IsList l items:=⟨_,hol',rfl,nl,rfl⟩
    unfold Builtin.«set.__init__» noKeywords Builtin.Frozenset.updateFrom
    generalize hPI:pyIter=PI
    wp_walk
    subst hPI
    refine KY eP ?_
    refine mo (wpAny_runValue ?_)
    have hlS:l < s.heap.objs.size:=FK hol
    have hh3:A.in1.in1.in1.handled=none:=by simp [hh]
    have hneI:l≠(s.heap.push { cls:=.type "set",dict:=none,data:=.set #[] 0 (.fresh 0 0 (!bP w)) }).objs.size:=by
     rw [Hk]; exact Gk (IU hlS)
    have hSf:s.heap.objs.size∉[(s.heap.push { cls:=.type "set",dict:=none,data:=.set #[] 0 (.fresh 0 0 (!bP w)) }).objs.size,l]:=by
     rw [Hk]; simp only [FL,Ib,Kg,or_false,not_or]
     exact ⟨Gk (JE _),J7 hlS⟩
    have hlt:∀ e∈Tp,e.1 < s.heap.objs.size:=fun e he=>by
     obtain ⟨o,_,_,ho,_⟩:=hP e he
     exact FK ho
    have hsz:items.size=Tp.length:=by rw [<- FM,hi,Do]
    refine rp (R:=_) ((Walks.list hh3 _ l hneI items).toS) s.heap.objs.size hSf ?hu (!bP w) Tp hsz.symm (fun i v hv=>?hval) (fun e he=>⟨Gk (hlt e he),?hw⟩) (by lia) (items.size - 0) 0 _ #[] [] (by lia) (FI _)
     ⟨⟨_,Gc _ rfl,rfl,rfl⟩,(eP.push _)⟩ (fun e he=>mj (hP e he) fun o x=>Ft _ (Ft _ x)) ?hS0 (JA _) ⟨fun f hf=>(by cases hf),JC,fun f hf=>(by cases hf),Fy _⟩ ?hR
    case hu=>simp only [Around.in1_units]; lia
    case hval =>
     have e1:items.toList[i]? = some v:=by rw [Gq]; exact hv
     rw [hi,GD] at e1
     cases g:Tp[i]? with
     | none=>rw [g] at e1; cases e1
     | some e=>rw [g] at e1; exact ⟨e,rfl,(GB e1).symm⟩
    case hw =>
     rw [Hk]
     simp only [Ib]
     exact Gk (IU (hlt e he))
    case hS0 =>
     exact ⟨_,0,_,Ft _ hS,⟨rfl,rfl,rfl⟩,rfl,Good.fresh 0 0 _,rfl,rfl,iR.fresh 0 0 _⟩
    case hR =>
     intro s' es' U' hm hS' hp' dd'
     rw [hsz] at dd'
     obtain ⟨h',g',d',tk',os'⟩:=s'
     have eg:g'=s.gens:=hm.gens
     have ed:d'=s.drawn:=hm.drawn
     have eo:os'=s.os:=hm.os
     subst eg; subst ed; subst eo
     show wpAny _ _ _ _ _ _
     refine Fv ?_
     show wpAny _ _ (ret Ht) _ _ _
     refine Fv ⟨rfl,h',tk',es',U',rfl,hS',hp',dd',fun b o hb e=>?_⟩
     have hb1:b≠s.heap.objs.size:=Gk hb
     have hb2:b≠(s.heap.push { cls:=.type "set",dict:=none,data:=.set #[] 0 (.fresh 0 0 (!bP w)) }).objs.size:=by
      rw [Hk]; exact Gk (IU hb)
     exact hm.heap b o (by simp only [FL,Ib,Kg,or_false,not_or]; exact ⟨hb1,hb2⟩) (Ft _ (Ft _ e))
   ·cases r₂ with
    | error e=>exact hr₂
    | ok fl₂ =>
     cases fl₂ with
     | ret r =>
      obtain ⟨rfl,h',tk,es,U,rfl,hS',hp',dd',hk'⟩:=hr₂
      repeat (any_goals (first | assumption | wp_step))
      exact h _ _ _ _ hS' hp' dd' hk'
     | _=>exact hr₂.elim
  | _=>exact hr.elim
end
end Sx
namespace L2
open PySem PySem.Spec PyProof.Rows Ck Sx
section
variable {X:Cx}
noncomputable def D5 (ta:TA):TE:=fun σ H Q=>ta σ H fun vs H1=>∃ (l:FD) (ps:List Pair),vs=[.ref l]/\aX H1 l ps/\ps.length < 64 /\
 ∀ (q:FD) (qs:List Pair) (H':Hp),ae H1 H'->H1 q=none->aX H' q qs->qs.Nodup->(∀ x,x∈qs↔x∈ps)->qs.Pairwise bH->Q (.ref q) H'
theorem pM {a:II} {ta:TA} {p p2 pos pos2:Pos} (hc:X.calm=true) (hu:X.A.units+100 < cLine) (hgl:Gl X "sorted") (hml:X.mg "sorted" = none) (hg:Gl X "set") (hm:X.mg "set" = none) (ha:PA X [a] ta) (hs:starEach [a] X.env=[(false,eval a X.env)]:=by rfl)
  (he:starEach [.Call (.Name "set" p) [a] [] pos] X.env=[(false,eval (.Call (.Name "set" p) [a] [] pos) X.env)]:=by rfl) :
  PE X (.Call (.Name "sorted" p2) [.Call (.Name "set" p) [a] [] pos] [] pos2) (D5 ta):=by
 intro pins s σ H Q I h
 refine HD (dQ I hgl hml c9 ?_ (by decide) (by decide))
 refine J9 ?_ he rfl
 rw [he]
 show wpAny _ _ (spliced ((false,eval (.Call (.Name "set" p) [a] [] pos) X.env)::backTo pos2 [])) _ _ s
 refine JO (Call_ (dQ I hg hm yG (GU (aI (ha pos pins s σ H _ I h) fun us s1 ⟨vs,H1,I1,r1,q1⟩=>?_) hs rfl)))
 obtain ⟨l,ps,e,⟨ws,hl,pr⟩,h64,q⟩:=q1
 subst e
 obtain ⟨u,rfl,ru⟩:=vals1 r1
 cases ru
 obtain ⟨its,r',pl,hz⟩:=I1.list (ai.of hl)
 obtain ⟨Tp,e1,e2,e3,e4⟩:=my I1 pr r'
 have lT:Tp.length=ps.length:=by rw [<- e3,Do]
 refine nX (I.ok.hd hc) (show X.A.units+10 < cLine by lia) pl.isList (Tp:=Tp) (by simpa using e2) (fun e he=>(e4 e he).2) (by lia) fun h' tk es U S pm dd kp=>J0 ?_
 obtain ⟨o,ep,t,ho,hex,hd,G,ld,plain,_⟩:=S.at_
 have lU:=dd.few
 have inU:∀ f∈U,f∈Tp:=fun f hf=>by
  have:=dd.sub f hf
  rwa [Jh] at this
 have les:es.size=U.length:=by rw [<- FM,pm.length_eq,Do]
 refine JB kind_sorted plain_sorted entry_sorted (args_sorted1 _) ?_
 unfold Builtin.«sorted»
 refine mo (m:=checkCount "sorted" 1 1 _) (Fv (mo (pT (s:={ s1 with heap:=h',toks:=tk }) (A:=X.A.in1) (I.ok.hd hc) ho hex hd G.tab plain ld (by lia) fun h2 tk2 kp2=>?_)))
 obtain ⟨Tq,pq,eq⟩:=oh ((qC X.w s1.heap.objs.size ep es).trans pm) U rfl
 have ev:(wk X.w s1.heap.objs.size ep es).toList.map (·.2)=Tq.map fun e=>FS e.1:=by
  rw [eq,GC]
  rfl
 rw [ev]
 have lq:Tq.length=U.length:=pq.length_eq
 have lv:(Tq.map fun e=>FS e.1).length=Tq.length:=Do _
 have keep:∀ b o,s1.heap.get? b=some o->h2.get? b=some o:=fun b o e=>kp2 b o (kp b o (FK e) e)
 refine mo (Kp ?_ (by rw [lv,G3]; lia))
 have hoL:(h2.push (seqObj "list" (Tq.map fun e=>FS e.1).toArray 0)).get? h2.objs.size=some (seqObj "list" (Tq.map fun e=>FS e.1).toArray 0):=Gc _ rfl
 have up:∀ b o,h2.get? b=some o->(h2.push (seqObj "list" (Tq.map fun e=>FS e.1).toArray 0)).get? b=some o:=fun b o e=>Ft _ e
 show wpAny _ _ _ _ _ { s1 with heap:=h2.push (seqObj "list" (Tq.map fun e=>FS e.1).toArray 0),toks:=tk2 }
 have hPq:∀ e∈Tq,cH X.prog X.w s1.heap e.1 e.2:=fun e he=>(e4 e (inU e (pq.mem_iff.mp he))).2
 have pv:=kI hPq
 have hz2:s1.heap.objs.size<=h2.objs.size:=J6 (FK (kp2 _ _ ho))
 refine mo (GH (HK slot_list_sort ⟨_,hoL,rfl⟩ LG (o7 (s:={ s1 with heap:=h2.push (seqObj "list" (Tq.map fun e=>FS e.1).toArray 0),toks:=tk2 }) (Bs (Tq.map (·.2))) hoL (by rw [lv]; lia)
  (fun h6 old h2'=>xy (s1:={ s1 with heap:=h6,toks:=tk2 }) (pv.mono fun b o e=>old b o (fun z=>by
   have lt:=FK (keep b o e)
   rw [z] at lt
   exact Hg _ lt) (up b o (keep b o e))) h2') fun g ok ri=>⟨_,rfl,?_⟩) (args_list_sort _)))
 refine Fv ⟨_,rfl,?_⟩
 obtain ⟨e,hat⟩:=sortedHeap_at (out:=(ee (Tq.map fun e=>FS e.1) g).toArray) hoL
 have hb:∀ i∈g.toList,i < Tq.length:=fun i hi=>by
  have:=FV.mp (ok.mem_iff.mp hi)
  rwa [lv] at this
 have lg:g.toList.length=Tq.length:=by rw [ok.length_eq,Im,lv]
 have rq:Vals (Tq.map fun e=>V.ref e.1) (Tq.map fun e=>FS e.1):=by
  clear hoL up hPq pv eq ev pq lq lv ok ri hat hb lg
  induction Tq with
  | nil=>exact .nil
  | cons a T ih=>exact .cons rfl ih
 have prq:bC H1 (Tq.map fun e=>V.ref e.1) (Tq.map (·.2)):=by
  have all:∀ e∈Tq,H1 e.1=some (.tup [.int e.2.1,.int e.2.2]):=fun e he=>(e4 e (inU e (pq.mem_iff.mp he))).1
  clear hoL up hPq pv eq ev pq lq lv ok ri hat hb lg rq
  induction Tq with
  | nil=>exact .nil
  | cons a T ih=>exact .cons ⟨a.1,rfl,all a (Ge ..)⟩ (ih fun e he=>all e (FE _ he))
 have vs2:Vals (g.toList.map fun i=>(Tq.map fun e=>V.ref e.1).getD i V.non) (ee (Tq.map fun e=>FS e.1) g):=dg rq V.non Ht g.toList (fun i hi=>by rw [Do]; exact hb i hi)
 have pr2:bC H1 (g.toList.map fun i=>(Tq.map fun e=>V.ref e.1).getD i V.non) (g.toList.map fun i=>(Tq.map (·.2)).getD i (0,0)):=dg prq V.non (0,0) g.toList (fun i hi=>by rw [Do]; exact hb i hi)
 have fr:H1 h2.objs.size=none:=I1.hok.fresh hz2
 have sz2:(g.toList.map fun i=>(Tq.map fun e=>V.ref e.1).getD i V.non).length<=sizeLine:=by rw [Do,lg]; exact sz (by lia)
 refine ⟨.ref h2.objs.size,_,I1.laid (t':=tk2) (o:=.lst (g.toList.map fun i=>(Tq.map fun e=>V.ref e.1).getD i V.non)) (fun b u x=>?_) hz2 ⟨sz2,ee (Tq.map fun e=>FS e.1) g,e,vs2,by simpa [seqObj] using hat⟩,rfl,?_⟩
 ·have lt:=FK (keep b u x)
  rw [sortedHeap_old (Gk lt) (FK (up b u (keep b u x)))]
  exact up b u (keep b u x)
 have pmq:(Tq.map (·.2)).Perm (U.map (·.2)):=pq.map _
 have pmf:(g.toList.map fun i=>(Tq.map (·.2)).getD i (0,0)).Perm (U.map (·.2)):=(gD (0,0) (Tq.map (·.2)) (by rw [Do,<- lv]; exact ok)).trans pmq
 refine q _ _ _ (ae.new (ae.refl H1) fr _) fr ⟨_,upd_same,pr2.updN fr _⟩ (pmf.nodup_iff.mpr dd.nd) (fun x=>pmf.mem_iff.trans ⟨fun z=>?_,fun z=>?_⟩) ?_
 ·obtain ⟨f,hf,rfl⟩:=FH.mp z
  rw [<- e3]
  exact List.mem_map_of_mem (inU f hf)
 ·rw [<- e3] at z
  obtain ⟨f,hf,rfl⟩:=FH.mp z
  exact dd.all f (by rw [Jh]; exact hf)
 rw [GJ]
 have gs:g.size=Tq.length:=by rw [<- lg]; simp
 refine FP.mpr fun i j hi hj hij=>?_
 have:=ri i j (by lia) (by rw [lv,<- gs]; simpa using hj)
 rw [dZ] at this
 unfold gA at this
 simpa [show i < g.size by simpa using hi,show j < g.size by simpa using hj] using this
end
end L2
namespace Ck
open PySem L2
def xC (m:Int) (p:Pair):Prop:=0<=p.1/\p.1 < p.2/\p.2 < m
def EX (p q:Pair):Prop:=p.1 < q.1/\q.1 < p.2/\p.2 < q.2
def NC (ps:List Pair):Prop:=∀ p∈ps,∀ q∈ps,¬ EX p q
theorem jW {ps:List Pair}:cx ps=false↔NC ps:=by
 constructor
 ·intro h p hp q hq c
  have:cx ps=true:=iB.mpr ⟨p,hp,q,hq,c.1,c.2.1,c.2.2⟩
  rw [h] at this
  cases this
 ·intro h
  cases e:cx ps with
  | false=>rfl
  | true =>
   obtain ⟨p,hp,q,hq,c⟩:=iB.mp e
   exact absurd c (h p hp q hq)
def Ct (c:Int) (p:Pair):Prop:=0<=p.1/\p.1+1 < p.2/\p.2 < c/\¬ (p.1=0/\p.2=c - 1)
structure vM (c:Int) (ps:List Pair):Prop where
 c2:2<=c
 len:(ps.length:Int)=if c - 3 > 0 then c - 3 else 0
 ct:∀ p∈ps,Ct c p
 nc:NC ps
 nd:ps.Nodup
 ris:ps.Pairwise bH
noncomputable def nm (x y:Int):Pair:=if x < y then (x,y) else (y,x)
end Ck
namespace Ck
open PySem L2
noncomputable def gT (c:Int) (p:Pair):Bool:=decide (0<=p.1)&&(decide (p.1 < p.2 - 1)&&(decide (p.2 < c)&&!(decide (p.1=0)&&decide (p.2=c - 1))))
noncomputable def stC (c:Int) (ps:List Pair) (k:Nat):Bool:=gT c (ps.getD k (0,0))&&(decide (k=0) || dq (ps.getD (k - 1) (0,0)) (ps.getD k (0,0)))
noncomputable def gP (c:Int) (n:Nat):Bool:=decide (2<=c)&&decide ((n:Int)=if c - 3 > 0 then c - 3 else 0)
noncomputable def flB (c:Int) (ps:List Pair):Bool:=gP c ps.length&&((FC ps.length).all (stC c ps)&&!cx ps)
theorem wH {c:Int} {p:Pair}:gT c p=true↔Ct c p:=by
 unfold gT Ct
 simp only [FO,decide_eq_true_iff,Hi,He,decide_eq_false_iff_not]
 lia
theorem zQ {c:Int} {ps:List Pair} (h:gP c ps.length=false):flB c ps=false:=by
 unfold flB
 rw [h,HP]
theorem uG {p q r:Pair} (h1:dq p q=true) (h2:dq q r=true):dq p r=true:=by
 unfold dq at *
 simp only [JW,FO,decide_eq_true_iff] at *
 lia
theorem ug {p q:Pair} (h:dq p q=true):bH p q/\p≠q:=by
 unfold dq at h
 unfold bH
 simp only [JW,FO,decide_eq_true_iff] at h
 refine ⟨by lia,fun e=>?_⟩
 subst e
 lia
theorem zo {p q:Pair} (h:bH p q) (n:p≠q):dq p q=true:=by
 unfold dq
 unfold bH at h
 simp only [JW,FO,decide_eq_true_iff]
 by_cases e:p.1=q.1
 ·by_cases e2:p.2=q.2
  ·exact absurd (JQ e e2) n
  ·lia
 ·lia
theorem yv {c:Int} {ps:List Pair} (h:(FC ps.length).all (stC c ps)=true):ps.Pairwise fun p q=>dq p q=true:=by
 have st:∀ k,0 < k->k < ps.length->dq (ps.getD (k - 1) (0,0)) (ps.getD k (0,0))=true:=fun k h0 hk=>by
  have:=Gn.mp h k (FV.mpr hk)
  unfold stC at this
  rw [FO,JW,decide_eq_true_iff] at this
  rcases this.2 with z | z
  ·lia
  ·exact z
 have all:∀ j i,i < j->j < ps.length->dq (ps.getD i (0,0)) (ps.getD j (0,0))=true:=by
  intro j
  induction j with
  | zero=>intro i hi; lia
  | succ j ih =>
   intro i hi hj
   have s:=st (j+1) (by lia) hj
   rw [HI] at s
   by_cases e:i=j
   ·rw [e]; exact s
   ·exact uG (ih i (by lia) (by lia)) s
 refine FP.mpr fun i j hi hj hij=>?_
 have:=all j i hij hj
 rw [AC,AC,Da hi,Da hj] at this
 exact this
theorem yo {c:Int} {ps qs:List Pair} (nd:qs.Nodup) (mm:∀ x,x∈qs↔x∈ps) (rs:qs.Pairwise bH) (ne:ps≠qs):flB c ps=false:=by
 cases h:flB c ps with
 | false=>rfl
 | true =>
  unfold flB at h
  rw [FO,FO] at h
  have r:=yv h.2.1
  have n2:ps.Nodup:=r.imp fun z=>(ug z).2
  have pm:ps.Perm qs:=(KI n2 nd).mpr fun x=>(mm x).symm
  exact absurd (iI (r.imp fun z=>(ug z).1) rs pm) ne
theorem nG {c:Int} {ps:List Pair} (nd:ps.Nodup) (rs:ps.Pairwise bH) (l:gP c ps.length=true):flB c ps=(!cx ps&&ps.all (gT c)):=by
 have e:(FC ps.length).all (stC c ps)=ps.all (gT c):=by
  rw [G8,Gn,Gn]
  constructor
  ·intro h p hp
   obtain ⟨k,hk⟩:=Gy hp
   have:=h k (FV.mpr (Fs.mp hk).1)
   unfold stC at this
   rw [FO,AC,hk] at this
   exact this.1
  ·intro h k hk
   have hk:=FV.mp hk
   unfold stC
   rw [FO,JW,decide_eq_true_iff]
   refine ⟨?_,?_⟩
   ·rw [AC,Da hk]
    exact h _ (Hr hk)
   ·by_cases z:k=0
    ·exact .inl z
    ·refine .inr ?_
     have k1:k - 1 < ps.length:=by lia
     rw [AC,AC,Da hk,Da k1]
     exact zo (FP.mp rs _ _ k1 hk (by lia)) (FP.mp nd _ _ k1 hk (by lia))
 unfold flB
 rw [l,e,Hs,Bool.and_comm]
theorem vM.flB {c:Int} {ps:List Pair} (h:vM c ps):flB c ps=true:=by
 have l:gP c ps.length=true:=by
  unfold gP
  rw [FO,decide_eq_true_iff,decide_eq_true_iff]
  exact ⟨h.c2,h.len⟩
 rw [nG h.nd h.ris l,jW.mpr h.nc]
 exact Gn.mpr fun p hp=>wH.mpr (h.ct p hp)
end Ck
namespace Ck
open PySem L2
noncomputable def one (n k:Nat):Nat:=if 0 < k/\0 < n then 1 else 0
end Ck
namespace Dk
open PySem PyProof.Rows
section
variable {prog:Gi} {w:GF} {K:Type} [DecidableEq K] {knd:KeyKind prog w K} {A:GG} {E:Fk->Fq->Prop} {s:Fq}
end
end Dk
namespace L2
open PySem PySem.Spec PyProof.Rows
end L2
namespace L2
open PySem PySem.Spec PyProof.Rows
end L2
namespace Ck
open PySem L2
end Ck
namespace L2
open PySem PySem.Spec PyProof.Rows Ck
section
variable {X:Cx}
end
end L2
namespace Ck
open PySem L2
end Ck
namespace Ck
open PySem L2
end Ck
namespace L2
open PySem PySem.Spec PyProof.Rows Ck
end L2
namespace L2
open PySem PySem.Spec PyProof.Rows Ck
end L2
namespace Ck
open PySem L2
noncomputable def cq:Bt->Int->List Pair
 | .leaf,_=>[]
 | .node l r,a=>(a,a+2+(l.size:Int)+(r.size:Int))::(cq l a++cq r (a+1+(l.size:Int)))
noncomputable def fi:Bt->Int->List Pair
 | .leaf,_=>[]
 | .node l r,a=>cq l a++cq r (a+1+(l.size:Int))
theorem lL:∀ (t:Bt) (a:Int),(cq t a).length=t.size
 | .leaf,_=>rfl
 | .node l r,a=>by
  show (_::(cq l a++cq r _)).length=l.size+r.size+1
  rw [FZ,Fw,lL l,lL r]
theorem dw:∀ (t:Bt) (a:Int),∀ p∈cq t a,a<=p.1/\p.1+2<=p.2/\p.2<=a+1+(t.size:Int)
 | .leaf,_,p,hp=>nomatch hp
 | .node l r,a,p,hp=>by
  have sn:(Bt.node l r).size=l.size+r.size+1:=rfl
  rcases FL.mp hp with rfl | hp
  ·simp only
   lia
  ·rcases FF.mp hp with hp | hp
   ·have:=dw l a p hp
    lia
   ·have:=dw r _ p hp
    lia
theorem xO:∀ (t:Bt) (a:Int),∀ p∈fi t a,p≠(a,a+1+(t.size:Int))
 | .leaf,_,p,hp=>nomatch hp
 | .node l r,a,p,hp=>by
  have sn:(Bt.node l r).size=l.size+r.size+1:=rfl
  intro z
  subst z
  rcases FF.mp hp with hp | hp
  ·have:=dw l a _ hp
   simp only at this
   lia
  ·have:=dw r _ _ hp
   simp only at this
   lia
theorem nY:∀ (t:Bt) (a:Int),(cq t a).Nodup
 | .leaf,_=>JC
 | .node l r,a=>by
  refine G9.mpr ⟨fun h=>?_,Hx.mpr ⟨nY l a,nY r _,fun p hp q hq e=>?_⟩⟩
  ·refine xO (.node l r) a _ h ?_
   have sn:(Bt.node l r).size=l.size+r.size+1:=rfl
   rw [sn]
   congr 1
   lia
  ·have h1:=dw l a p hp
   have h2:=dw r _ q hq
   rw [e] at h1
   lia
theorem nE:∀ (t:Bt) (a:Int),NC (cq t a)
 | .leaf,_=>fun p hp=>nomatch hp
 | .node l r,a=>by
  have bd:=dw (.node l r) a
  have sn:(Bt.node l r).size=l.size+r.size+1:=rfl
  intro p hp q hq c
  have bp:=bd p hp
  have bq:=bd q hq
  have c1:=c.1; have c2:=c.2.1; have c3:=c.2.2
  rcases FL.mp hp with rfl | hp
  ·simp only at c1 c2 c3
   lia
  ·rcases FL.mp hq with rfl | hq
   ·simp only at c1 c2 c3
    lia
   ·rcases FF.mp hp with hp | hp<;>rcases FF.mp hq with hq | hq
    ·exact nE l a p hp q hq c
    ·have:=dw l a p hp
     have:=dw r _ q hq
     lia
    ·have:=dw r _ p hp
     have:=dw l a q hq
     lia
    ·exact nE r _ p hp q hq c
theorem oP:∀ (t:Bt) (a:Int),∀ p∈fi t a,p∈cq t a
 | .leaf,_,p,hp=>hp
 | .node l r,a,p,hp=>FE _ hp
theorem ui:∀ (t:Bt) (a:Int),cq t a=(if t.size=0 then [] else [(a,a+1+(t.size:Int))])++fi t a
 | .leaf,_=>rfl
 | .node l r,a=>by
  have sn:(Bt.node l r).size=l.size+r.size+1:=rfl
  rw [if_neg (by lia),sn]
  show (a,a+2+(l.size:Int)+(r.size:Int))::(cq l a++cq r (a+1+(l.size:Int)))=(a,a+1+((l.size+r.size+1:Nat):Int))::(cq l a++cq r (a+1+(l.size:Int)))
  rw [show a+2+(l.size:Int)+(r.size:Int)=a+1+((l.size+r.size+1:Nat):Int) by lia]
theorem yY (t:Bt) (a:Int):(fi t a).length=t.size - 1:=by
 have:=lL t a
 rw [ui,Fw] at this
 split at this<;>simp at this<;>lia
theorem xI {t:Bt} {qs:List Pair} (pm:qs.Perm (fi t 0)) (rs:qs.Pairwise bH):vM ((t.size:Int)+2) qs where
 c2:=by lia
 len:=by
  rw [pm.length_eq,yY]
  split<;>lia
 ct:=fun p hp=>by
  have hm:=pm.mem_iff.mp hp
  have b:=dw t 0 p (oP t 0 p hm)
  have n:=xO t 0 p hm
  refine ⟨by lia,by lia,by lia,fun z=>n (JQ z.1 ?_)⟩
  show p.2=0+1+(t.size:Int)
  lia
 nc:=fun p hp q hq=>nE t 0 p (oP t 0 p (pm.mem_iff.mp hp)) q (oP t 0 q (pm.mem_iff.mp hq))
 nd:=by
  have:=nY t 0
  rw [ui] at this
  exact pm.nodup_iff.mpr (Hx.mp this).2.1
 ris:=rs
end Ck
namespace Ck
open PySem L2
end Ck
namespace Dt
open PySem PyProof.Rows
section
variable {prog:Gi} {w:GF} {A:GG} {E:Fk->Fq->Prop} {s:Fq}
def At (h:HM) (d:FD) (es:Array Jf) (ep:Nat):Prop:=∃ o,h.get? d=some o/\o.ExactDict/\o.data = .dict es ep
end
end Dt
namespace L2
open PySem PySem.Spec PyProof.Rows
end L2
namespace L2
open PySem
end L2
namespace Ck
open PySem L2
noncomputable def kk (p:Pair):List Key:=[.inl p.1,.inl p.2]
noncomputable def qD (n:Nat) (ps:List Pair):List Pair:=ps++((FC (n+1)).map fun (k:Nat)=>(((k:Int),(k:Int)+1):Pair))
end Ck
namespace Ck
open PySem L2
structure lN (ps:List Pair):Prop where
 inr:∀ p∈ps,xC (2*(ps.length:Int)) p
 flat:(bE ps).Perm (cL (2*ps.length))
 nc:NC ps
 ris:ps.Pairwise bH
noncomputable def up1 (m x:Int):Int:=if x=m - 1 then 0 else x+1
theorem lN.bows {ps:List Pair} (h:lN ps):eZ ps=true:=by
 have nd:(bE ps).Nodup:=h.flat.nodup_iff.mpr (kK _)
 unfold eZ
 rw [FO,FO,Hi]
 refine ⟨lI.mpr fun k hk=>?_,(dc _).mpr (by rw [gC]; exact h.flat),jW.mpr h.nc⟩
 have ek:∀ i (hi:i < ps.length),fK ps i=ps[i].1/\vj ps i=ps[i].2:=fun i hi=>by
  refine ⟨?_,?_⟩
  ·unfold fK; rw [AC,Da hi]; rfl
  ·unfold vj; rw [AC,Da hi]; rfl
 obtain ⟨e1,e2⟩:=ek k hk
 rw [e1,e2]
 refine ⟨(h.inr _ (Hr hk)).2.1,?_⟩
 by_cases k0:k=0
 ·exact .inl k0
 ·refine .inr ?_
  have hk':k - 1 < ps.length:=by lia
  rw [(ek (k - 1) hk').1]
  have le:=FP.mp h.ris (k - 1) k hk' hk (by lia)
  have ne:=mL nd
  have:=FP.mp ne (k - 1) k (by simpa using hk') (by simpa using hk) (by lia)
  unfold bH at le
  simp at this
  lia
end Ck
namespace L2
open PySem PySem.Spec PyProof.Rows
section
variable {X:Cx}
end
section
variable {X:Cx}
end
end L2
namespace Ck
open PySem L2
end Ck
namespace Ck
open PySem L2
end Ck
namespace Ck
open PySem L2
end Ck
namespace Ck
open PySem L2
end Ck
namespace Ck
open PySem L2
end Ck
namespace L2
open PySem PySem.Spec PyProof.Rows
section
variable {X:Cx}
end
end L2
namespace Ck
open PySem L2
end Ck
namespace Ck
open PySem L2
end Ck
namespace L2
open PySem PySem.Spec
variable {X:Cx}
noncomputable def CU (K:Ga):V->List V->Hp->VK->Prop:=fun x vs H Q=>qq x vs H Q\/xV K x vs H Q
theorem yq:qB X "list.extend" (CU X.K):=fun pins s σ H x vs v us Q I rx rv h =>
 h.elim (mD pins s σ H x vs v us Q I rx rv) (yt pins s σ H x vs v us Q I rx rv)
end L2
namespace Ck
open PySem L2
noncomputable def cK:Bt->List Pair
 | .leaf=>[]
 | .node l r=>cg (cK l) (cK r)
theorem cB:∀ t:Bt,(cK t).length=t.size
 | .leaf=>rfl
 | .node l r=>by
  show (cg (cK l) (cK r)).length=l.size+r.size+1
  unfold cg
  rw [FZ,Fw,Do,Do,cB l,cB r]
theorem mq (d:Int):∀ ps:List Pair,bE (ps.map (up d))=(bE ps).map (·+d)
 | []=>rfl
 | p::ps=>by
  show (p.1+d)::(p.2+d)::bE (ps.map (up d))=(p.1+d)::(p.2+d)::(bE ps).map (·+d)
  rw [mq d ps]
theorem mf (a b:Nat):cL (a+b)=cL a++(cL b).map (·+(a:Int)):=by
 unfold cL
 rw [List.range_add,Fu,GC,GC]
 refine congrArg _ (Gw fun k _=>?_)
 show ((a+k:Nat):Int)=(k:Int)+(a:Int)
 lia
theorem yu (a:Nat):cL (a+1)=0::(cL a).map (·+1):=by
 rw [Nat.add_comm,mf]
 rfl
theorem uX {ps qs:List Pair} (h:lN ps) (k:lN qs):lN (cg ps qs):=by
 have ln:(cg ps qs).length=ps.length+qs.length+1:=by
  unfold cg
  rw [FZ,Fw,Do,Do]
 have mem:∀ p∈cg ps qs,p=(0,2*(ps.length:Int)+1)\/(∃ x∈ps,p=up 1 x)\/∃ x∈qs,p=up (2*(ps.length:Int)+2) x:=fun p hp=>by
  unfold cg at hp
  rcases FL.mp hp with z | z
  ·exact .inl z
  ·rcases FF.mp z with z | z
   ·obtain ⟨x,hx,e⟩:=FH.mp z
    exact .inr (.inl ⟨x,hx,e.symm⟩)
   ·obtain ⟨x,hx,e⟩:=FH.mp z
    exact .inr (.inr ⟨x,hx,e.symm⟩)
 have b1:∀ x∈ps,(up 1 x).1=x.1+1/\(up 1 x).2=x.2+1/\xC (2*(ps.length:Int)) x:=fun x hx=>⟨rfl,rfl,h.inr x hx⟩
 have b2:∀ x∈qs,(up (2*(ps.length:Int)+2) x).1=x.1+(2*(ps.length:Int)+2)/\(up (2*(ps.length:Int)+2) x).2=x.2+(2*(ps.length:Int)+2)/\xC (2*(qs.length:Int)) x:=fun x hx=>⟨rfl,rfl,k.inr x hx⟩
 refine ⟨fun p hp=>?_,?_,fun p hp q hq c=>?_,?_⟩
 ·rw [ln]
  rcases mem p hp with rfl | ⟨x,hx,rfl⟩ | ⟨x,hx,rfl⟩
  ·refine ⟨GA _,?_,?_⟩<;>show _ < _<;>lia
  ·obtain ⟨e1,e2,i0,i1,i2⟩:=b1 x hx
   refine ⟨?_,?_,?_⟩<;>lia
  ·obtain ⟨e1,e2,i0,i1,i2⟩:=b2 x hx
   refine ⟨?_,?_,?_⟩<;>lia
 ·rw [ln]
  unfold cg
  show ((0:Int)::(2*(ps.length:Int)+1)::bE (ps.map (up 1)++qs.map (up (2*(ps.length:Int)+2)))).Perm _
  rw [jc,mq,mq,show 2*(ps.length+qs.length+1)=(2*ps.length+1)+(1+2*qs.length) by lia,mf,yu,mf,Fu,JH]
  refine LU _ ?_
  have e1:(cL 1).map (·+((2*ps.length+1:Nat):Int))=[2*(ps.length:Int)+1]:=by
   show [((0:Nat):Int)+((2*ps.length+1:Nat):Int)]=_
   congr 1
   lia
  have e2:((cL (2*qs.length)).map (·+((1:Nat):Int))).map (·+((2*ps.length+1:Nat):Int))=(cL (2*qs.length)).map (·+(2*(ps.length:Int)+2)):=by
   rw [GC]
   refine Gw fun z _=>?_
   show z+((1:Nat):Int)+((2*ps.length+1:Nat):Int)=_
   lia
  rw [e1,e2]
  have p1:=h.flat.map (·+(1:Int))
  have p2:=k.flat.map (·+(2*(ps.length:Int)+2))
  exact ((p1.append p2).cons _).trans (JI.symm)
 ·obtain ⟨c1,c2,c3⟩:=c
  rcases mem p hp with rfl | ⟨x,hx,rfl⟩ | ⟨x,hx,rfl⟩<;>rcases mem q hq with rfl | ⟨y,hy,rfl⟩ | ⟨y,hy,rfl⟩
  ·exact absurd c1 (Int.lt_irrefl _)
  ·obtain ⟨e1,e2,i0,i1,i2⟩:=b1 y hy
   have c3':2*(ps.length:Int)+1 < (up 1 y).2:=c3
   lia
  ·obtain ⟨e1,e2,i0,i1,i2⟩:=b2 y hy
   have c2':(up (2*(ps.length:Int)+2) y).1 < 2*(ps.length:Int)+1:=c2
   lia
  ·obtain ⟨e1,e2,i0,i1,i2⟩:=b1 x hx
   have c1':(up 1 x).1 < 0:=c1
   lia
  ·obtain ⟨e1,e2,_⟩:=b1 x hx
   obtain ⟨f1,f2,_⟩:=b1 y hy
   exact h.nc x hx y hy ⟨by lia,by lia,by lia⟩
  ·obtain ⟨e1,e2,i0,i1,i2⟩:=b1 x hx
   obtain ⟨f1,f2,j0,j1,j2⟩:=b2 y hy
   lia
  ·obtain ⟨e1,e2,i0,i1,i2⟩:=b2 x hx
   have c1':(up (2*(ps.length:Int)+2) x).1 < 0:=c1
   lia
  ·obtain ⟨e1,e2,i0,i1,i2⟩:=b2 x hx
   obtain ⟨f1,f2,j0,j1,j2⟩:=b1 y hy
   lia
  ·obtain ⟨e1,e2,_⟩:=b2 x hx
   obtain ⟨f1,f2,_⟩:=b2 y hy
   exact k.nc x hx y hy ⟨by lia,by lia,by lia⟩
 ·unfold cg
  rw [Ic,Gx,GJ,GJ]
  refine ⟨fun p hp=>?_,h.ris.imp fun z=>?_,k.ris.imp fun z=>?_,fun p hp q hq=>?_⟩
  ·rcases FF.mp hp with z | z
   ·obtain ⟨x,hx,rfl⟩:=FH.mp z
    obtain ⟨e1,e2,i0,i1,i2⟩:=b1 x hx
    exact .inl (by show (0:Int) < (up 1 x).1; lia)
   ·obtain ⟨x,hx,rfl⟩:=FH.mp z
    obtain ⟨e1,e2,i0,i1,i2⟩:=b2 x hx
    exact .inl (by show (0:Int) < (up (2*(ps.length:Int)+2) x).1; lia)
  ·unfold bH up at *
   simp only
   lia
  ·unfold bH up at *
   simp only
   lia
  ·obtain ⟨x,hx,rfl⟩:=FH.mp hp
   obtain ⟨y,hy,rfl⟩:=FH.mp hq
   obtain ⟨e1,e2,i0,i1,i2⟩:=b1 x hx
   obtain ⟨f1,f2,j0,j1,j2⟩:=b2 y hy
   exact .inl (by lia)
theorem jb:∀ t:Bt,lN (cK t)
 | .leaf=>⟨fun p h=>(by cases h),JA _,fun p h=>(by cases h),.nil⟩
 | .node l r=>uX (jb l) (jb r)
noncomputable def bO:Bt->List Int
 | .leaf=>[]
 | .node l r=>(bO l).map (·+1)++[0]++(bO r).map (·+((bO l).length+1:Int))
theorem cp:∀ t:Bt,(bO t).length=t.size
 | .leaf=>rfl
 | .node l r=>by
  show ((bO l).map (·+1)++[0]++(bO r).map _).length=l.size+r.size+1
  rw [Fw,Fw,Do,Do,cp l,cp r]
  show l.size+1+r.size=_
  lia
theorem rJ:∀ (t:Bt) {p r:List Int} {a:Nat},gv p r a->gv p (r++(bO t).map (·+(a:Int))) (a+t.size)
 | .leaf,p,r,a,h=>by
  show gv p (r++[]) (a+0)
  rw [Gj]
  exact h
 | .node l s,p,r,a,h=>by
  have h1:=rJ l h.on
  have h2:=rJ s h1.off
  have e:r++(bO l).map (·+((a+1:Nat):Int))++[(a:Int)]++(bO s).map (·+((a+1+l.size:Nat):Int))=r++(bO (.node l s)).map (·+(a:Int)):=by
   show _=r++((bO l).map (·+1)++[0]++(bO s).map (·+((bO l).length+1:Int))).map (·+(a:Int))
   rw [Fu,Fu,GC,GC,FX,FX,FX,cp]
   refine congrArg _ ?_
   have g1:(bO l).map (·+((a+1:Nat):Int))=(bO l).map ((·+(a:Int)) ∘ (·+1)):=Gw fun z _=>by show z+((a+1:Nat):Int)=z+1+(a:Int); lia
   have g2:(bO s).map (·+((a+1+l.size:Nat):Int))=(bO s).map ((·+(a:Int)) ∘ (·+((l.size:Int)+1))):=Gw fun z _=>by show z+((a+1+l.size:Nat):Int)=z+((l.size:Int)+1)+(a:Int); lia
   rw [g1,g2]
   show _++((a:Int)::_)=_++((0+(a:Int))::_)
   rw [JN]
   rfl
  rw [e] at h2
  rw [show a+(Bt.node l s).size=a+1+l.size+s.size by show a+(l.size+s.size+1)=_; lia]
  exact h2
theorem oq (t:Bt):iW (bO t)=true:=by
 have h:=rJ t gv.start
 have e:([]:List Int)++(bO t).map (·+((0:Nat):Int))=bO t:=by
  rw [IV]
  exact (Gw fun z _=>by show z+((0:Nat):Int)=id z; show z+0=z; lia).trans (Le _)
 rw [e,Hw] at h
 exact h.turn (cp t)
theorem jd (d:Int):∀ (t:Bt) (a:Int),cq t (a+d)=(cq t a).map (up d)
 | .leaf,_=>rfl
 | .node l r,a=>by
  show (a+d,a+d+2+(l.size:Int)+(r.size:Int))::(cq l (a+d)++cq r (a+d+1+(l.size:Int)))=_
  rw [jd d l a,show a+d+1+(l.size:Int)=a+1+(l.size:Int)+d by lia,jd d r]
  show _=(a+d,a+2+(l.size:Int)+(r.size:Int)+d)::(cq l a++cq r (a+1+(l.size:Int))).map (up d)
  rw [Fu,show a+d+2+(l.size:Int)+(r.size:Int)=a+2+(l.size:Int)+(r.size:Int)+d by lia]
noncomputable def topC (t:Bt) (a:Int):List Pair:=if t.size=0 then [] else [(a,a+1+(t.size:Int))]
theorem qt (t:Bt) (a:Int):cq t a=topC t a++fi t a:=by
 cases t with
 | leaf=>rfl
 | node l r =>
  unfold topC
  rw [if_neg (by show l.size+r.size+1≠0; lia)]
  show (a,a+2+(l.size:Int)+(r.size:Int))::_=(a,a+1+((l.size+r.size+1:Nat):Int))::_
  rw [show a+1+((l.size+r.size+1:Nat):Int)=a+2+(l.size:Int)+(r.size:Int) by lia]
  rfl
theorem lQ (l r:Bt) {ps qs:List Pair} (hp:ps.Perm (fi l 0)) (hq:qs.Perm (fi r 0)):(cF l.size r.size ps qs).Perm (fi (.node l r) 0):=by
 have e:fi (.node l r) 0=(topC l 0++fi l 0)++(topC r 0++fi r 0).map (up ((l.size:Int)+1)):=by
  show cq l 0++cq r (0+1+(l.size:Int))=_
  rw [show (0:Int)+1+(l.size:Int)=0+((l.size:Int)+1) by lia,jd,qt l,qt r]
 have es:df l.size r.size=topC l 0++(topC r 0).map (up ((l.size:Int)+1)):=by
  unfold df topC
  refine congr (congrArg _ ?_) ?_
  ·by_cases c:l.size=0
   ·rw [if_pos c,if_pos c]
   ·rw [if_neg c,if_neg c,show (0:Int)+1+(l.size:Int)=(l.size:Int)+1 by lia]
  ·by_cases c:r.size=0
   ·rw [if_pos c,if_pos c]; rfl
   ·rw [if_neg c,if_neg c]
    show _=[(0+((l.size:Int)+1),0+1+(r.size:Int)+((l.size:Int)+1))]
    rw [JN,show (0:Int)+1+(r.size:Int)+((l.size:Int)+1)=(l.size:Int)+(r.size:Int)+2 by lia]
 unfold cF
 rw [e,es,Fu]
 have p1:(ps++topC l 0).Perm (topC l 0++fi l 0):=(IG).trans (GW _ hp)
 have p2:((topC r 0).map (up ((l.size:Int)+1))++qs.map (up ((l.size:Int)+1))).Perm ((topC r 0).map (up ((l.size:Int)+1))++(fi r 0).map (up ((l.size:Int)+1))):=GW _ (hq.map _)
 rw [<- FX,FX]
 exact p1.append p2
noncomputable def cu:Bt->List (List Int)
 | .leaf=>[]
 | .node l r=>joinR l.size (cu l) (cu r)
theorem cS:∀ t:Bt,cP t.size (cu t)
 | .leaf=>yD
 | .node l r=>(cS l).join (cS r)
theorem vW {a:Int} {r:List Int} {p:Pair} (h:p∈(a::r).zip ((a::r).drop 1)):(r≠[]/\p=(a,hd r))\/p∈r.zip (r.drop 1):=by
 cases r with
 | nil=>cases h
 | cons b r =>
  rcases FL.mp (show p∈(a,b)::(b::r).zip r from h) with z | z
  ·exact .inl ⟨by simp,z⟩
  ·exact .inr z
theorem ma {d:Int} {r:List Int} {p:Pair} (h:p∈(aH d r).zip ((aH d r).drop 1)):∃ x∈r.zip (r.drop 1),p=up d x:=by
 unfold aH at h
 rw [<- L6,List.zip_map] at h
 obtain ⟨x,hx,e⟩:=FH.mp h
 exact ⟨x,hx,e.symm⟩
theorem cP.uniq {k:Nat} {R:List (List Int)} (h:cP k R) {r s:List Int} (hr:r∈R) (hs:s∈R) {x:Int} (h1:x∈r) (h2:x∈s):r=s:=by
 have nd:R.flatten.Nodup:=h.flat.nodup_iff.mpr (kK k)
 have pd:=(List.pairwise_flatten.mp nd).2
 obtain ⟨i,hi,rfl⟩:=Ir hr
 obtain ⟨j,hj,rfl⟩:=Ir hs
 by_cases c:i=j
 ·subst c; rfl
 ·rcases Nat.lt_or_gt_of_ne c with w | w
  ·exact absurd rfl (FP.mp pd i j hi hj w x h1 x h2)
  ·exact absurd rfl (FP.mp pd j i hj hi w x h2 x h1)
theorem cP.nb {k:Nat} {R:List (List Int)} (h:cP k R) {p:Pair} (hp:p∈eX R):0<=p.1/\p.1 < p.2/\p.2 < (k:Int):=by
 obtain ⟨r,hr,z⟩:=fz.mp hp
 obtain ⟨m1,m2⟩:=qe z
 obtain ⟨i,hi,e1,e2⟩:=qG z
 have b1:=h.rng hr m1
 have b2:=h.rng hr m2
 refine ⟨b1.1,?_,b2.2⟩
 rw [e1,e2,AC,AC,Da (show i < r.length by lia),Da hi]
 exact FP.mp (h.inc r hr) i (i+1) (by lia) hi (by lia)
theorem v7 {i j:Nat} {ls rs:List (List Int)} (h:cP i ls) (h':cP j rs) (n:NC (eX ls)) (n':NC (eX rs)):NC (eX (joinR i ls rs)):=by
 have kind:∀ p∈eX (joinR i ls rs),(∃ g∈ls,aS i g=true/\p=(0,hd g+1))\/(∃ x∈eX ls,p=up 1 x)\/∃ x∈eX rs,p=up ((i:Int)+1) x:=fun p hp=>by
  obtain ⟨r,hr,z⟩:=fz.mp hp
  unfold joinR at hr
  rcases FL.mp hr with rfl | hr
  ·have g1:=eU h
   match e:ls.filter (aS i),g1 with
   | [],_ =>
    rw [e] at z
    cases z
   | [R],_ =>
    rw [e] at z
    have hR:=GK.mp (show R∈ls.filter (aS i) by rw [e]; simp)
    rw [show [R].flatten=R by simp] at z
    rcases vW z with ⟨_,rfl⟩ | z
    ·refine .inl ⟨R,hR.1,hR.2,?_⟩
     cases R with
     | nil=>exact absurd rfl (h.ne _ hR.1)
     | cons a R=>rfl
    ·obtain ⟨x,hx,rfl⟩:=ma z
     exact .inr (.inl ⟨x,fz.mpr ⟨R,hR.1,hx⟩,rfl⟩)
   | _::_::_,g1=>simp at g1
  ·rcases FF.mp hr with y | y
   ·obtain ⟨s,hs,rfl⟩:=FH.mp y
    obtain ⟨x,hx,rfl⟩:=ma z
    exact .inr (.inl ⟨x,fz.mpr ⟨s,(GK.mp hs).1,hx⟩,rfl⟩)
   ·obtain ⟨s,hs,rfl⟩:=FH.mp y
    obtain ⟨x,hx,rfl⟩:=ma z
    exact .inr (.inr ⟨x,fz.mpr ⟨s,hs,hx⟩,rfl⟩)
 have u1:∀ x:Pair,(up 1 x).1=x.1+1/\(up 1 x).2=x.2+1:=fun _=>⟨rfl,rfl⟩
 have u2:∀ x:Pair,(up ((i:Int)+1) x).1=x.1+((i:Int)+1)/\(up ((i:Int)+1) x).2=x.2+((i:Int)+1):=fun _=>⟨rfl,rfl⟩
 intro p hp q hq ⟨c1,c2,c3⟩
 rcases kind p hp with ⟨g,hg,gg,rfl⟩ | ⟨x,hx,rfl⟩ | ⟨x,hx,rfl⟩<;>rcases kind q hq with ⟨g',hg',gg',rfl⟩ | ⟨y,hy,rfl⟩ | ⟨y,hy,rfl⟩
 ·exact absurd c1 (Int.lt_irrefl _)
 ·have b:=h.nb hy
  have e:=u1 y
  have c2':(up 1 y).1 < hd g+1:=c2
  have c3':hd g+1 < (up 1 y).2:=c3
  obtain ⟨R,hR,zy⟩:=fz.mp hy
  obtain ⟨m1,m2⟩:=qe zy
  have gne:=h.ne g hg
  have lg:lst g=(i:Int) - 1:=of_decide_eq_true gg
  by_cases c:y.2∈g
  ·have:=h.uniq hR hg m2 c
   subst this
   have:=Dc (h.inc R hR) m1
   lia
  ·have ne:y.2≠(i:Int) - 1:=fun w=>c (by rw [w,<- lg]; exact qm gne)
   obtain ⟨r,hr,a1,a2,a3,_⟩:=gap (h.inc g hg) (dR gne) (qm gne) (show hd g < y.2 by lia) (show y.2 < lst g by lia) c
   exact n y hy r (fz.mpr ⟨g,hg,hr⟩) ⟨by lia,a2,a3⟩
 ·have b:=h'.nb hy
  have e:=u2 y
  have r:=h.rng hg (dR (h.ne g hg))
  have c2':(up ((i:Int)+1) y).1 < hd g+1:=c2
  lia
 ·have b:=h.nb hx
  have e:=u1 x
  have c1':(up 1 x).1 < 0:=c1
  lia
 ·have e:=u1 x
  have f:=u1 y
  exact n x hx y hy ⟨by lia,by lia,by lia⟩
 ·have b:=h.nb hx
  have b':=h'.nb hy
  have e:=u1 x
  have f:=u2 y
  lia
 ·have b:=h'.nb hx
  have e:=u2 x
  have c1':(up ((i:Int)+1) x).1 < 0:=c1
  lia
 ·have b:=h'.nb hx
  have b':=h.nb hy
  have e:=u2 x
  have f:=u1 y
  lia
 ·have e:=u2 x
  have f:=u2 y
  exact n' x hx y hy ⟨by lia,by lia,by lia⟩
theorem vK:∀ t:Bt,NC (eX (cu t))
 | .leaf=>fun p h=>(by cases h)
 | .node l r=>v7 (cS l) (cS r) (vK l) (vK r)
theorem tW (t:Bt):fB (cu t)=true:=by
 have rm:=cS t
 have hE:ck (cu t).flatten=true:=(dc _).mpr (by
  have e:=rm.flat.length_eq
  rw [pj,lJ] at e
  rw [e]
  exact rm.flat)
 rw [oI rm.ne hE,FO]
 exact ⟨decide_eq_true ⟨rm.inc,rm.heads⟩,by rw [jW.mpr (vK t)]; rfl⟩
theorem uo {a b c:Pair} (h:bH a b) (k:bH b c):bH a c:=by
 unfold bH at *
 lia
theorem uU (a b:Pair):bH a b\/bH b a:=by
 unfold bH
 lia
theorem mP (l:List Pair):∃ ps:List Pair,ps.Perm l/\ps.Pairwise bH:=by
 refine ⟨l.mergeSort (fun a b=>!dq b a),List.mergeSort_perm _ _,?_⟩
 have tr:∀ a b c:Pair,(!dq b a)=true->(!dq c b)=true->(!dq c a)=true:=fun a b c h k=>by
  rw [Hi] at *
  exact dZ.mpr (uo (dZ.mp h) (dZ.mp k))
 have to:∀ a b:Pair,((!dq b a) || !dq a b)=true:=fun a b=>by
  rcases uU a b with h | h
  ·rw [dZ.mpr h]; rfl
  ·rw [dZ.mpr h]; simp
 exact (List.pairwise_mergeSort tr to l).imp fun h=>dZ.mp (by rw [Hi] at h; exact h)
theorem fY {t:Bt} {cs:List Pair} (pm:cs.Perm (fi t 0)) (ri:cs.Pairwise bH):nN t.size cs:=by
 have f:=xI pm ri
 refine ⟨fun p hp=>?_,ri,?_⟩
 ·obtain ⟨h1,h2,h3,h4⟩:=f.ct p hp
  exact ⟨h1,h2,by lia,fun z=>h4 ⟨z.1,by lia⟩⟩
 ·have:=f.len
  split at this<;>lia
def Kn (w:Nat) (H0 H:Hp) (v:V) (t:Bt):Prop:=match w with
 | 0=>∃ p,v = .ref p/\H0 p=none/\aX H p (cK t)
 | 1=>∃ p,v = .ref p/\H0 p=none/\aR H0 H p (cu t)
 | 2=>∃ q l cs,v = .ref q/\H0 l=none/\H q=some (.tup [.int ((t.size:Int)+2),.ref l])/\aX H l cs/\cs.Perm (fi t 0)/\cs.Pairwise bH
 | _=>∃ p,v = .ref p/\H0 p=none/\H p=some (.lst ((bO t).map V.int))
theorem Kn.same {w:Nat} {H0 H H':Hp} {v:V} {t:Bt} (h:Kn w H0 H v t) (s:ae H H'):Kn w H0 H' v t:=by
 rcases w with _ | _ | _ | w
 ·obtain ⟨p,e,n,h⟩:=h
  exact ⟨p,e,n,h.same s⟩
 ·obtain ⟨p,e,n,h⟩:=h
  exact ⟨p,e,n,h.same s⟩
 ·obtain ⟨q,l,cs,e,n,h,k,r⟩:=h
  exact ⟨q,l,cs,e,n,s _ _ h,k.same s,r⟩
 ·obtain ⟨p,e,n,h⟩:=h
  exact ⟨p,e,n,s _ _ h⟩
theorem Kn.since {w:Nat} {H0 H1 H:Hp} {v:V} {t:Bt} (h:Kn w H0 H v t) (s:ae H1 H0):Kn w H1 H v t:=by
 rcases w with _ | _ | _ | w
 ·obtain ⟨p,e,n,h⟩:=h
  exact ⟨p,e,s.free n,h⟩
 ·obtain ⟨p,e,n,h⟩:=h
  exact ⟨p,e,s.free n,h.since s⟩
 ·obtain ⟨q,l,cs,e,n,h⟩:=h
  exact ⟨q,l,cs,e,s.free n,h⟩
 ·obtain ⟨p,e,n,h⟩:=h
  exact ⟨p,e,s.free n,h⟩
def Kr (w:Nat) (H:Hp) (v:V) (t:Bt):Prop:=∃ H0,Kn w H0 H v t
theorem Kr.same {w:Nat} {H H':Hp} {v:V} {t:Bt} (h:Kr w H v t) (s:ae H H'):Kr w H' v t:=let ⟨a,k⟩:=h; ⟨a,k.same s⟩
def dW (H0 H1 H H':Hp):Prop:=∀ c o,H c=some o->((∀ xs,o≠.lst xs)\/H0 c≠none\/H1 c=none)->H' c=some o
theorem dW.same {H0 H1 H H':Hp} (h:dW H0 H1 H H') (s:ae H0 H):ae H0 H':=fun c o e=>h c o (s _ _ e) (.inr (.inl (by rw [e]; simp)))
theorem dW.pls {H0 H1 H H':Hp} (h:dW H0 H1 H H') {p:FD} {ps:List Pair} (n:H1 p=none) (k:aX H p ps):aX H' p ps:=by
 obtain ⟨xs,e,pr⟩:=k
 refine ⟨xs,h _ _ e (.inr (.inr n)),?_⟩
 clear e
 induction pr with
 | nil=>exact .nil
 | cons hd tl ih =>
  obtain ⟨t,e,ht⟩:=hd
  exact .cons ⟨t,e,h _ _ ht (.inl fun _ z=>by cases z)⟩ ih
theorem Kn.spoi {w:Nat} {H0 H1 H H':Hp} {v:V} {t:Bt} (h:Kn w H1 H v t) (s:dW H0 H1 H H'):Kn w H1 H' v t:=by
 rcases w with _ | _ | _ | w
 ·obtain ⟨p,e,n,h⟩:=h
  exact ⟨p,e,n,s.pls n h⟩
 ·obtain ⟨p,e,n,h⟩:=h
  obtain ⟨bs,hb,pr,nd⟩:=h
  refine ⟨p,e,n,bs,s _ _ hb (.inr (.inr n)),?_,nd⟩
  clear hb nd
  generalize cu t=rs at pr
  induction pr with
  | nil=>exact .nil
  | cons hd tl ih=>exact .cons ⟨s _ _ hd.1 (.inr (.inr hd.2.1)),hd.2⟩ ih
 ·obtain ⟨q,l,cs,e,n,h,k,r⟩:=h
  exact ⟨q,l,cs,e,n,s _ _ h (.inl fun _ z=>by cases z),s.pls n k,r⟩
 ·obtain ⟨p,e,n,h⟩:=h
  exact ⟨p,e,n,s _ _ h (.inr (.inr n))⟩
theorem Kn.two {w:Nat} {Ha Hb H:Hp} {v v':V} {t:Bt} (k1:Kn w Ha H v t) (k2:Kn w Hb H v' t) (h40:t.size<=40):∃ T:Tree,dep T<=3/\Rep H T v/\Rep H T v':=by
 rcases w with _ | _ | _ | w
 ·obtain ⟨p,e,_,h⟩:=k1
  obtain ⟨p',e',_,h'⟩:=k2
  subst e e'
  have l:(cK t).length<=1000000:=by rw [cB]; lia
  exact ⟨_,Nat.le_succ_of_le (qj _),h.rep l,h'.rep l⟩
 ·obtain ⟨p,e,_,h⟩:=k1
  obtain ⟨p',e',_,h'⟩:=k2
  subst e e'
  have rm:=(cS t).lens
  have l1:(cu t).length<=1000000:=by lia
  have l2:∀ r∈cu t,r.length<=1000000:=fun r hr=>by have:=rm.2 r hr; lia
  exact ⟨_,Nat.le_succ_of_le (uQ _),h.rep l1 l2,h'.rep l1 l2⟩
 ·obtain ⟨q,l,cs,e,_,h,k,pm,ri⟩:=k1
  obtain ⟨q',l',cs',e',_,h',k',pm',ri'⟩:=k2
  subst e e'
  have z:cs'=cs:=iI ri' ri (pm'.trans pm.symm)
  subst z
  have lc:cs'.length<=1000000:=by have:=(fY pm ri).len; lia
  exact ⟨_,yb _ _,p6 h k lc,p6 h' k' lc⟩
 ·obtain ⟨p,e,_,h⟩:=k1
  obtain ⟨p',e',_,h'⟩:=k2
  subst e e'
  have l:(bO t).length<=1000000:=by rw [cp]; lia
  exact ⟨_,by rw [qf]; decide,lP h l,lP h' l⟩
theorem pY {K:Ga} {H:Hp}:∀ (n:Nat) (t:Tree) {x y:V},dep t<=n->Rep H t x->Rep H t y->ba K H n x y true:=by
 intro n
 induction n with
 | zero =>
  intro t x y hd rx ry
  rcases t with i | ts | ts
  ·unfold Rep at rx ry
   subst rx ry
   have z:=ba.flat (K:=K) (H:=H) (n:=0) (x:=V.int i) (y:=V.int i) rfl rfl
   rwa [show gW (.int i) (.int i)=true by simp [gW]] at z
  all_goals
   unfold dep at hd
   exact absurd hd (by lia)
 | succ n ih =>
  intro t x y hd rx ry
  rcases t with i | ts | ts
  ·unfold Rep at rx ry
   subst rx ry
   have z:=ba.flat (K:=K) (H:=H) (n:=n+1) (x:=V.int i) (y:=V.int i) rfl rfl
   rwa [show gW (.int i) (.int i)=true by simp [gW]] at z
  all_goals
   unfold Rep at rx ry
   unfold dep at hd
   obtain ⟨p,xs,rfl,hp,_,rx⟩:=rx
   obtain ⟨r,ys,rfl,hr,_,ry⟩:=ry
   by_cases ne:p=r
   ·subst ne
    exact .same
   have go:∀ (j:Nat) (x y:V),xs[j]? = some x->ys[j]? = some y->ba K H n x y true:=fun j x y ex ey=>by
    obtain ⟨t,et,r1⟩:=rx.get ex
    obtain ⟨t',et',r2⟩:=ry.get ey
    rw [et] at et'
    cases et'
    have:=ko et
    exact ih t (by lia) r1 r2
   have ll:xs.length=ys.length:=rx.length.trans ry.length.symm
   first
    | exact ba.lstT ne (ai.of hp) (ai.of hr) ll go
    | exact ba.tupT ne (bg.of hp) (bg.of hr) ll go
theorem zR:(FC (40+1)).map cR=bK 40:=by
 rw [nC]
 exact Gw fun j hj=>(iL (by have:=FV.mp hj; lia)).symm
theorem dW.refl (H0 H1 H:Hp):dW H0 H1 H H:=fun _ _ h _=>h
theorem dW.new {H0 H1 H H':Hp} (h:dW H0 H1 H H') {c:FD} (n:H' c=none) (o:HO):dW H0 H1 H (upd H' c o):=fun e o' h1 h2=>by
 have:=h e o' h1 h2
 rw [upd_ne (ar this n)]
 exact this
theorem dW.put {H0 H1 H H':Hp} (h:dW H0 H1 H H') (sm:ae H1 H) {c:FD} {ys:List V} (k:H1 c=some (.lst ys)) (n:H0 c=none) (o:HO):dW H0 H1 H (upd H' c o):=fun e o' h1 h2=>by
 by_cases z:e=c
 ·subst z
  rw [sm _ _ k] at h1
  cases h1
  rcases h2 with h2 | h2 | h2
  ·exact absurd rfl (h2 ys)
  ·exact absurd n h2
  ·rw [k] at h2
   cases h2
 ·rw [upd_ne z]
  exact h e o' h1 h2
theorem Kn.list {w:Nat} {H0 H:Hp} {v:V} {t:Bt} (k1:Kn w H0 H v t) (h2:w≠2) (h40:t.size<=40):∃ (l:FD) (xs:List V),v = .ref l/\H l=some (.lst xs)/\H0 l=none/\xs.length<=100/\∀ x∈xs,(∃ i,x = .int i)\/(∃ b ys,x = .ref b/\H b=some (.tup ys))\/(∃ b ns,x = .ref b/\b≠l/\H b=some (.lst ns)/\H0 b=none/\ns.length<=1000):=by
 rcases w with _ | _ | _ | w
 ·obtain ⟨p,e,n,h⟩:=k1
  obtain ⟨xs,ex,lx,pr⟩:=h.len
  rw [cB] at lx
  refine ⟨p,xs,e,ex,n,by lia,fun x hx=>.inr (.inl ?_)⟩
  obtain ⟨j,hj⟩:=Gy hx
  obtain ⟨_,tt,_,e',ht⟩:=pr.get hj
  exact ⟨tt,_,e',ht⟩
 ·obtain ⟨p,e,n,h⟩:=k1
  have ln:=(cS t).lens
  obtain ⟨xs,ex,lx⟩:=h.len
  refine ⟨p,xs,e,ex,n,by lia,fun x hx=>.inr (.inr ?_)⟩
  obtain ⟨b,ns,e',hn,hb,f,ne⟩:=h.mem ex hx
  exact ⟨b,_,e',ne,hb,f,by rw [Do]; have:=ln.2 ns hn; lia⟩
 ·exact absurd rfl h2
 ·obtain ⟨p,e,n,h⟩:=k1
  refine ⟨p,_,e,h,n,by rw [Do,cp]; lia,fun x hx=>.inl ?_⟩
  obtain ⟨i,_,e'⟩:=FH.mp hx
  exact ⟨i,e'.symm⟩
theorem A4 {n m:Nat} (h:m < n):0<=pre n m/\pre n m < sh n:=by
 obtain ⟨l,l1,l2⟩:=fA m 0 (GA _) (by have:=b6 m; lia)
 obtain ⟨r,r1,r2⟩:=fA (n - 1 - m) 0 (GA _) (by have:=b6 (n - 1 - m); lia)
 have e:aB (.node l r)=pre n m:=by
  show pre (l.size+r.size+1) l.size+aB l*sh r.size+aB r=_
  rw [l1,r1,l2,r2,show m+(n - 1 - m)+1=n by lia]
  lia
 have a:=bJ (.node l r)
 have b:=bU (.node l r)
 have z:(Bt.node l r).size=n:=by
  show l.size+r.size+1=n
  lia
 rw [e] at a b
 rw [z] at b
 exact ⟨a,b⟩
theorem Fo {w:Nat} (hw:w<=3) {A B C D G:Prop} (a:w=0->G->A) (b:w=1->G->B) (c:w=2->G->C) (d:w=3->G->D) (g:G):A\/B\/C\/D:=by
 rcases (by lia:w=0\/w=1\/w=2\/w=3) with e | e | e | e
 ·exact .inl (a e g)
 ·exact .inr (.inl (b e g))
 ·exact .inr (.inr (.inl (c e g)))
 ·exact .inr (.inr (.inr (d e g)))
noncomputable def oz:Nat->Str
 | 0=>"bows"
 | 1=>"rooms"
 | 2=>"floor"
 | _=>"turns"
theorem jX:∀ t t':Bt,t'.size=t.size->aB t'=aB t->t'=t
 | .leaf,.leaf,_,_=>rfl
 | .leaf,.node _ _,h,_=>by
  have h:_+1=0:=h
  lia
 | .node _ _,.leaf,h,_=>by
  have h:0=_+1:=h
  lia
 | .node l r,.node l' r',h,k=>by
  have h:l'.size+r'.size+1=l.size+r.size+1:=h
  have go:∀ a b c d:Bt,c.size+d.size=a.size+b.size->aB (.node c d)=aB (.node a b)->¬ a.size < c.size:=fun a b c d hs hb z=>by
   have g:=lZ (r:=d) z
   have s:=fN a b
   have p:=jq (bU a) (bJ b) (bU b)
   rw [hb,hs,show a.size+b.size - a.size=b.size by lia] at g
   lia
  have n1:=go l r l' r' (by lia) k
  have n2:=go l' r' l r (by lia) k.symm
  have e1:l'.size=l.size:=by lia
  have e2:r'.size=r.size:=by lia
  have s:=fN l r
  have s':=fN l' r'
  rw [e1,e2,k] at s'
  have e:=s.symm.trans s'
  have d1:=iu (x:=aB l) (bJ r) (bU r)
  have d2:=iu (x:=aB l') (b:=sh r.size) (bJ r') (by rw [<- e2]; exact bU r')
  rw [e] at d1
  rw [jX l l' e1 (d2.1.symm.trans d1.1),jX r r' e2 (d2.2.symm.trans d1.2)]
theorem Kn.apart {w:Nat} {H0 H H':Hp} {v v':V} {t t':Bt} (k1:Kn w H0 H v t) (k2:Kn w H H' v' t') (s:ae H H'):∃ a b,v' = .ref a/\v = .ref b/\a≠b:=by
 rcases w with _ | _ | _ | w
 ·obtain ⟨p,e,_,xs,h,_⟩:=k1
  obtain ⟨p',e',n,_⟩:=k2
  exact ⟨p',p,e',e,fun z=>by rw [z,h] at n; cases n⟩
 ·obtain ⟨p,e,_,xs,h,_⟩:=k1
  obtain ⟨p',e',n,_⟩:=k2
  exact ⟨p',p,e',e,fun z=>by rw [z,h] at n; cases n⟩
 ·obtain ⟨q,l,_,e,_,h,⟨xs,hl,_⟩,_⟩:=k1
  obtain ⟨q',l',_,e',n,h',_⟩:=k2
  exact ⟨q',q,e',e,fun z=>by
   rw [z,s _ _ h] at h'
   injection h' with h'
   injection h' with h'
   injection h' with _ h'
   injection h' with h'
   injection h' with h'
   rw [<- h',hl] at n
   cases n⟩
 ·obtain ⟨p,e,_,h⟩:=k1
  obtain ⟨p',e',n,_⟩:=k2
  exact ⟨p',p,e',e,fun z=>by rw [z,h] at n; cases n⟩
theorem E7 {w:Nat} (hw:w<=3):bW [V.str "bows",.str "rooms",.str "floor",.str "turns"] (w:Int)=some (.str (oz w)):=by
 rcases (by lia:w=0\/w=1\/w=2\/w=3) with rfl | rfl | rfl | rfl<;>rfl
theorem Kn.ref {w:Nat} {H0 H:Hp} {v:V} {t:Bt} (k:Kn w H0 H v t):v≠.non:=by
 match w,k with
 | 0,⟨_,e,_⟩=>rw [e]; exact fun z=>by cases z
 | 1,⟨_,e,_⟩=>rw [e]; exact fun z=>by cases z
 | 2,⟨_,_,_,e,_⟩=>rw [e]; exact fun z=>by cases z
 | _+3,⟨_,e,_⟩=>rw [e]; exact fun z=>by cases z
end Ck
namespace L2
open PySem PySem.Spec PyProof.Rows
noncomputable def pick {α:Type} (d:α):List α->Nat->α
 | [],_=>d
 | a::_,0=>a
 | _::r,n+1=>pick d r n
noncomputable def sel (a b c d:Nat):Nat->Nat
 | 0=>a
 | 1=>b
 | 2=>c
 | _=>d
theorem four {p:Nat->Prop} (a:p 0) (b:p 1) (c:p 2) (d:p 3):∀ i,i<=3->p i
 | 0,_=>a
 | 1,_=>b
 | 2,_=>c
 | 3,_=>d
 | n+4,h=>absurd h (by lia)
noncomputable def uW (C:Nat->FD) (m:Str) (sp:Nat->Sp) (E:XK) (ta:TE) (t:TA):TE:=fun σ H Q=>∃ i,i<=3/\kQ (C i) m (sp i) [] E ta t σ H Q
section
variable {X:Cx} {C f:Nat->FD} {fd:Nat->G7} {ps:List Str} {sp:Nat->Sp} {m:Str} {apos pos:Pos} {o e:II} {es:List II} {ta:TE} {t:TA} {j k:Nat}
theorem cQ {pl:Sem Bool} (ho:PE X o ta) (c:∀ i,i<=3->Cls X.K (C i)) (hm:∀ i,i<=3->Meth X.K (C i) m (f i)) (D:∀ i,i<=3->fR X.prog X.w X.K X.mg X.base ps j (sp i) (f i) (fd i)) (hr:bI k X.A) (ha:PA X (e::es) t) (hjk:j<=k:=by decide)
  (hst:starEach (e::es) X.env=(false,eval e X.env)::starEach es X.env:=by rfl) (hpl:(backTo pos (starEach es X.env)).any (·.1)=false:=by rfl)
  (ht:eval (.Call (.Attribute o m apos) (e::es) [] pos) X.env=(do
   let ov <- eval o X.env
   standAt apos.atName
   let (f,first) <- holding [ov] (getMethod ov m pl)
   callWith pos f first (backTo pos (starEach (e::es) X.env)) (backToKw pos (keywordEach [] X.env))):=by rfl) :
  PE X (.Call (.Attribute o m apos) (e::es) [] pos) (uW C m sp E0 ta t):=fun pins s σ H Q I ⟨i,hi,h⟩=>xD ho (c i hi) (hm i hi) (D i hi) hr ha hjk hst hpl ht pins s σ H Q I h
theorem Ey {pl:Sem Bool} (ho:PE X o ta) (c:∀ i,i<=3->Cls X.K (C i)) (hm:∀ i,i<=3->Meth X.K (C i) m (f i)) (D:∀ i,i<=3->fR X.prog X.w X.K X.mg X.base ps j (sp i) (f i) (fd i)) (hr:bI k X.A) (hjk:j<=k:=by decide)
  (ht:eval (.Call (.Attribute o m apos) [] [] pos) X.env=(do
   let ov <- eval o X.env
   standAt apos.atName
   let (f,first) <- holding [ov] (getMethod ov m pl)
   callWith pos f first (backTo pos (starEach [] X.env)) (backToKw pos (keywordEach [] X.env))):=by rfl) :
  PE X (.Call (.Attribute o m apos) [] [] pos) (uW C m sp E0 ta kz):=fun pins s σ H Q I ⟨i,hi,h⟩=>Cg ho (c i hi) (hm i hi) (D i hi) hr hjk ht pins s σ H Q I h
end
theorem aV {N P:List Str} {sc:KG} (h1:sc.kind = .function:=by rfl) (h2:sc.isCoroutine=false:=by rfl) (h3:sc.isGenerator=false:=by rfl) (h4:N.Nodup:=by decide +kernel) (h5:N.take P.length=P:=by rfl)
  (h6:∀ x∈P,sc.names.lookup x=some .local\/sc.names.lookup x=some .cell:=by decide +kernel) (h7:∀ y∈sc.names,y.2≠.free:=by decide +kernel):au N P sc:=⟨h1,h2,h3,h4,h5,h6,h7⟩
structure A3 (K:Ga) (mg:Str->Option Fk) (x:Str) (st:IB) (f:FD) (fd:G7):Prop where
 F:aQ K x x st f fd
 m:mg x=some (.ref f)
section
variable {P:Gi} {w:GF} {K:Ga} {mg:Str->Option Fk} {base:HM} {x q:Str} {st:IB} {f:FD} {fd:G7} {N ps:List Str} {k:Nat} {sp:Sp}
theorem cm (F:aQ K x q st f fd) (b:∀ (kV doc pm:Fk) (an:Option FD) (cdv ct:Fk) (us:List Fk),us.length=ps.length->bindArgs (Mi x q (dE st) (c6 st) (ao st) .none kV doc pm an cdv ct) ⟨us,[]⟩=pure (ps.zip us)) (ok:bL P w K mg base kX k f fd ps sp):fR P w K mg base ps k sp f fd:=⟨ok.up,F.binds b⟩
theorem dJ (F:A3 K mg x st f fd) (b:∀ (kV doc pm:Fk) (an:Option FD) (cdv ct:Fk) (us:List Fk),us.length=ps.length->bindArgs (Mi x x (dE st) (c6 st) (ao st) .none kV doc pm an cdv ct) ⟨us,[]⟩=pure (ps.zip us)) (ok:bL P w K mg base kX k f fd ps sp):Def P w K mg base x ps k sp f fd:=⟨ok.up,F.F.binds b,F.F.kp,F.m⟩
theorem CH {sp:Nat->Sp} (L M:Nat) (hL:L+M<=k) (F:aQ K x q st f fd) (b:∀ (kV doc pm:Fk) (an:Option FD) (cdv ct:Fk) (us:List Fk),us.length=ps.length->bindArgs (Mi x q (dE st) (c6 st) (ao st) .none kV doc pm an cdv ct) ⟨us,[]⟩=pure (ps.zip us))
  (ok:∀ n,fR P w K mg base ps (L+n) (below n sp) f fd->bL P w K mg base (uT P w) (L+n+1) f fd ps (sp n)):fR P w K mg base ps k (below M sp) f fd :=
 ⟨(iC (L:=L) (N:=M) fun m _=>uN (fun n q=>ok n ⟨iC q,F.binds b⟩) m).mono hL,F.binds b⟩
theorem zq {sp:Nat->Sp} (L M:Nat) (hL:L+M<=k) (F:A3 K mg x st f fd) (b:∀ (kV doc pm:Fk) (an:Option FD) (cdv ct:Fk) (us:List Fk),us.length=ps.length->bindArgs (Mi x x (dE st) (c6 st) (ao st) .none kV doc pm an cdv ct) ⟨us,[]⟩=pure (ps.zip us))
  (ok:∀ n,Def P w K mg base x ps (L+n) (below n sp) f fd->bL P w K mg base (uT P w) (L+n+1) f fd ps (sp n)):Def P w K mg base x ps k (below M sp) f fd :=
 ⟨(iC (L:=L) (N:=M) fun m _=>uN (fun n q=>ok n ⟨iC q,F.F.binds b,F.F.kp,F.m⟩) m).mono hL,F.F.binds b,F.F.kp,F.m⟩
end
theorem Fb {P:List Fk->Prop} (h:P []):∀ us:List Fk,us.length=0->P us
 | [],_=>h
 | _::_,e=>nomatch e
theorem xY {n:Nat} {P:List Fk->Prop} (h:∀ (a:Fk) (us:List Fk),us.length=n->P (a::us)):∀ us:List Fk,us.length=n+1->P us
 | a::us,e=>h a us (Nat.succ.inj e)
 | [],e=>nomatch e
theorem eC {P:List Fk->Prop} (h:∀ a:Fk,P [a]):∀ us:List Fk,us.length=1->P us:=xY fun a=>Fb (h a)
theorem dI {P:List Fk->Prop} (h:∀ a b:Fk,P [a,b]):∀ us:List Fk,us.length=2->P us:=xY fun a=>eC (h a)
theorem gn {P:List Fk->Prop} (h:∀ a b c:Fk,P [a,b,c]):∀ us:List Fk,us.length=3->P us:=xY fun a=>dI (h a)
theorem Bv {P:List Fk->Prop} (h:∀ a b c d:Fk,P [a,b,c,d]):∀ us:List Fk,us.length=4->P us:=xY fun a=>gn (h a)
end L2
namespace L2
open PySem
theorem qS {P:Gi} {w:GF} {K:Ga} {mg:Str->Option Fk} {base:HM} {ps:List Str} {j k:Nat} {sp:Sp} {f:FD} {fd:G7} (d:fR P w K mg base ps j sp f fd) (h:j<=k:=by decide):fR P w K mg base ps k sp f fd:=⟨d.ok.mono h,d.b⟩
end L2
namespace L2
open PySem
end L2
namespace L2
open PySem
theorem zf {t u:TS} {D σ H} (h:∀ v:TS,v=u->jQ t v D σ H):jQ t u D σ H:=h u rfl
theorem Ca {t1 t u:TS} {D σ H} (h:∀ v:TS,v=u->bo t1 (jQ t v) D σ H):bo t1 (jQ t u) D σ H:=h u rfl
theorem CZ {t1 t2 t3 t4 t5 t6 t7 t8 t9 t10 t u:TS} {D σ H} (h:∀ v:TS,v=u->bo t1 (bo t2 (bo t3 (bo t4 (bo t5 (bo t6 (bo t7 (bo t8 (bo t9 (bo t10 (jQ t v)))))))))) D σ H):bo t1 (bo t2 (bo t3 (bo t4 (bo t5 (bo t6 (bo t7 (bo t8 (bo t9 (bo t10 (jQ t u)))))))))) D σ H:=h u rfl
end L2
namespace L2
open PySem
theorem rW {t1 t2 u:TS} {D σ H} (h:∀ v:TS,v=u->bo t1 (bo t2 v) D σ H):bo t1 (bo t2 u) D σ H:=h u rfl
theorem Dg {t1 t2 t3 u:TS} {D σ H} (h:∀ v:TS,v=u->bo t1 (bo t2 (bo t3 v)) D σ H):bo t1 (bo t2 (bo t3 u)) D σ H:=h u rfl
theorem xx {t1 t2 t3 t4 u:TS} {D σ H} (h:∀ v:TS,v=u->bo t1 (bo t2 (bo t3 (bo t4 v))) D σ H):bo t1 (bo t2 (bo t3 (bo t4 u))) D σ H:=h u rfl
end L2
namespace Ck
open PySem PySem.W PySem.Calls PyProof.Rows
noncomputable def qd {α:Type} (p q:Gi) (loose:List Str) (Xt:Fq->Bool) (Yf:Fq->α) (h0:HM) (s:Fq) :=
 ((staticsOk (importedModules p.main.body) h0 s.heap&&namesBound p s.heap&&gensDone s&&laidKept h0 s.heap),
  openSeen q loose (importedModules p.main.body) Xt true s,Yf s)
theorem rB {p q:Gi} {loose:List Str} {Xt:Fq->Bool} {α:Type} {Yf:Fq->α} {Ya:GF->α} {N M m:Nat} {H:G1->HM} {gs:Array K9} {dr:Drawn} {tk:Nat} {an:Option Fk}
  (o:∀ w:GF,(fencedOpening treeTable p w N).map (fun s=>(s.heap,s.gens,s.drawn,s.toks))=some (H w.params,gs,dr,tk))
  (z:∀ w:GF,((H w.params).isNs mainGlobals&&gs.size == 0,(H w.params).objs.size,(H w.params).nsMap mainGlobals "__annotations__")=(true,m,an))
  (r:∀ (w:GF) (os:LZ),∃ e,topRun treeTable p w m an M ⟨H w.params,gs,dr,tk,os⟩ (topStub p)=some e/\qd p q loose Xt Yf (H w.params) e=(true,openGood q loose,Ya w))
  (le:M<=N):LeftO p q loose Xt Yf Ya N:=by
 intro w
 have ow:=o w
 cases hf:fencedOpening treeTable p w N with
 | none=>rw [hf] at ow; cases ow
 | some s =>
  rw [hf] at ow
  have os:=GB ow
  have e1:s.heap=H w.params:=congrArg L5 os
  have e2:s.gens=gs:=congrArg (fun x=>x.2.1) os
  have e3:s.drawn=dr:=congrArg (fun x=>x.2.2.1) os
  have e4:s.toks=tk:=congrArg (fun x=>x.2.2.2) os
  obtain ⟨e,run,look⟩:=r w s.os
  have hs:s=⟨H w.params,gs,dr,tk,s.os⟩:=by rw [<- e1,<- e2,<- e3,<- e4]
  have run':=topRun_mono (N - M) _ _ _ _ run
  rw [Nat.add_sub_cancel' le] at run'
  have zw:=z w
  have z1:=congrArg L5 zw
  have z2:=congrArg (fun x=>x.2.1) zw
  have z3:=congrArg (fun x=>x.2.2) zw
  dsimp only at z1 z2 z3
  have l1:=congrArg L5 look
  have l2:=congrArg Ml look
  have tf:topFrom treeTable p w N s=some e:=by
   rw [hs]
   unfold topFrom
   dsimp only
   rw [z1,z2,z3,run']
   unfold qd at l1
   dsimp only at l1
   dsimp only [Option.bind]
   rw [l1]
  unfold openEnds
  rw [hf,Option.bind_some,tf]
  exact congrArg some l2
noncomputable def alive (o:Obj):Option Obj:=match o with
 | ⟨_,_,.freed,_⟩=>none
 | o=>some o
noncomputable def fJ:List Obj->List Bool->List (Option Obj)
 | _,[]=>[]
 | [],true::m=>none::fJ [] m
 | [],false::m=>fJ [] m
 | o::os,true::m=>alive o::fJ os m
 | _::os,false::m=>fJ os m
noncomputable def i5:List Bool->Nat->List Nat
 | [],_=>[]
 | true::m,i=>i::i5 m (i+1)
 | false::m,i=>i5 m (i+1)
theorem md:∀ (m:List Bool) (os:List Obj) (pre:List Obj),fJ os m=(i5 m pre.length).map fun a=>(pre++os)[a]?.bind alive
 | [],os,pre=>by cases os<;>rfl
 | b::m,[],pre=>by
  have k:=md m [] (pre++[default])
  rw [Fw,Kb] at k
  have e:∀ i,pre.length < i->((pre++[(default:Obj)])++[])[i]?.bind alive=(pre++[])[i]?.bind alive:=fun i hi=>by
   rw [Hc (by simp; lia),Hc (by simp; lia)]
  have lt:∀ (m:List Bool) (n i:Nat),i∈i5 m n->n<=i:=by
   intro m
   induction m with
   | nil=>intro n i h; cases h
   | cons b m ih=>intro n i h; cases b with
    | true =>
     rcases FL.1 h with h | h
     ·lia
     ·have:=ih _ _ h; lia
    | false=>have:=ih _ _ h; lia
  have k':fJ [] m=(i5 m (pre.length+1)).map fun a=>(pre++[])[a]?.bind alive:=by
   rw [k]; exact Gw fun i hi=>e i (lt _ _ _ hi)
  cases b with
  | true=>show none::fJ [] m=_::_; rw [k']; congr 1; simp
  | false=>exact k'
 | b::m,o::os,pre=>by
  have k:=md m os (pre++[o])
  rw [Fw,Kb,FX,List.singleton_append] at k
  cases b with
  | true=>show alive o::fJ os m=_::_; rw [k]; congr 1; simp
  | false=>exact k
theorem uj (h:HM) (a:FD):h.get? a=h.objs.toList[a]?.bind alive:=by
 unfold Heap.get?
 rw [Gq]
 cases h.objs[a]? with
 | none=>rfl
 | some o=>obtain ⟨c,d,x,s⟩:=o; cases x<;>rfl
theorem x9 {m:List Bool} {as:List FD} (e:as=i5 m 0) (h:HM):as.map h.get? = fJ h.objs.toList m:=by
 rw [md m h.objs.toList [],e]
 exact Gw fun a _=>uj h a
section
variable {tb:String->Option Builtin} {p:Gi} {w:GF} {m:Nat} {an:Option Fk} {env:Env} {q:Pos}
noncomputable def l7 {β:Type} (tb:String->Option Builtin) (p:Gi) (w:GF) (m:Nat) (an:Option Fk) (q:Pos) (c:Code) (n4:Nat) (L:Fq->β) (r:Flow × SharedT × Code × Pos):Flow × Code × Option β :=
 (r.1,r.2.2.1,(topRun tb p w m an n4 r.2.1.abs ⟨doneF .next,c,r.2.2.2,[topFrame q]⟩).map L)
theorem uL {β:Type} {L:Fq->β} {b:List IB} {c:Code} {n1 n2 n3 n4:Nat} {S0 Sa:Fq} {Sb:SharedT} {pos0 pos1:Pos} {z:β} (hc:c = .body b env)
  (h1:topGo tb p w m an n1 S0 (topStub p)=some (Sa,⟨denote tb c,c,pos0,[topFrame q]⟩))
  (h2:segRun tb p w m an 1 n2 Sa (blockOf b env c pos0 [topFrame q])=some (.next,Sb.abs,c,pos1))
  (h3:(segRunT tb p w m an 1 n3 Sb (piecesOf b env c pos1 [topFrame q])).map (l7 tb p w m an q c n4 L)=some (.next,c,some z)) :
  ∃ e,topRun tb p w m an (n1+(n2+(n3+n4))) S0 (topStub p)=some e/\L e=z:=by
 cases hr:segRunT tb p w m an 1 n3 Sb (piecesOf b env c pos1 [topFrame q]) with
 | none=>rw [hr] at h3; cases h3
 | some x =>
  obtain ⟨f,s,d,ps⟩:=x
  rw [hr] at h3
  have h3:=GB h3
  unfold l7 at h3
  have a1:f = .next:=congrArg L5 h3
  have a2:d=c:=congrArg (fun x=>x.2.1) h3
  have a3:=congrArg (fun x=>x.2.2) h3
  dsimp only at a3
  subst a1 a2 hc
  cases ht:topRun tb p w m an n4 s.abs ⟨doneF .next,.body b env,ps,[topFrame q]⟩ with
  | none=>rw [ht] at a3; cases a3
  | some e =>
   rw [ht] at a3
   have k:=piece_app (rest:=[]) (segRun_of hr) (piece_nil ht)
   rw [Gj] at k
   exact ⟨e,go_top h1 (piece_block h2 k),GB a3⟩
end
end Ck
namespace Ck
open PySem L2
noncomputable def top (i:Nat):IB:=PySem.Challenge.pw_countkin_k22_four_families_numbered.main.body.getD i (.Pass ⟨0,0,0,0⟩)
set_option genInjectivity false in
structure aP where
 C:Nat->FD
 f:Nat->FD
 fd:Nat->G7
 u_GREATEST_SIZE:Fk
structure zF (K:Ga) (mg:Str->Option Fk) (ca:aP):Prop where
 zV:mg "Bows" = some (.ref (ca.C 0))
 yn:mg "Rooms" = some (.ref (ca.C 1))
 xk:mg "Floors" = some (.ref (ca.C 2))
 yF:mg "Turns" = some (.ref (ca.C 3))
 nv:mg "Family" = some (.ref (ca.C 4))
 dB:mg "SplitFamily" = some (.ref (ca.C 5))
 in4:∀ i,i<=3->InsT K (ca.C i)
 c4:∀ i,i<=3->Cls K (ca.C i)
 mt4_number_of:∀ i,i<=3->Meth K (ca.C i) "number_of" (ca.f 47)
 mt4_thing_of:∀ i,i<=3->Meth K (ca.C i) "thing_of" (ca.f 63)
 mt4_many:∀ i,i<=3->Meth K (ca.C i) "many" (ca.f 50)
 mt4_next_of:∀ i,i<=3->Meth K (ca.C i) "next_of" (ca.f 64)
 mt4_refuse_other:∀ i,i<=3->Meth K (ca.C i) "refuse_other" (ca.f 30)
 mt4_unchecked_number:∀ i,i<=3->Meth K (ca.C i) "unchecked_number" (ca.f 46)
 mt4_is_one:∀ i,i<=3->Meth K (ca.C i) "is_one" (ca.f (sel 22 24 26 28 i))
 mt4_number_by_parts:∀ i,i<=3->Meth K (ca.C i) "number_by_parts" (ca.f 44)
 mt4_size_of:∀ i,i<=3->Meth K (ca.C i) "size_of" (ca.f (sel 31 32 33 34 i))
 mt4_parted:∀ i,i<=3->Meth K (ca.C i) "parted" (ca.f (sel 37 39 41 42 i))
 mt4_unchecked_thing:∀ i,i<=3->Meth K (ca.C i) "unchecked_thing" (ca.f 62)
 mt4_unchecked_many:∀ i,i<=3->Meth K (ca.C i) "unchecked_many" (ca.f 49)
 mt4_thing_by_parts:∀ i,i<=3->Meth K (ca.C i) "thing_by_parts" (ca.f 61)
 mt4_bare:∀ i,i<=3->Meth K (ca.C i) "bare" (ca.f (sel 51 52 53 54 i))
 mt4_joined:∀ i,i<=3->Meth K (ca.C i) "joined" (ca.f (sel 56 57 58 59 i))
 na4_word:∀ i,i<=3->NoAttr K (ca.C i) "word"
 na4_least:∀ i,i<=3->NoAttr K (ca.C i) "least"
 kit4_Family:∀ i,i<=3->Ij K (.ref (ca.C i)) (.ref (ca.C 4))=some true
 kit4_SplitFamily:∀ i,i<=3->Ij K (.ref (ca.C i)) (.ref (ca.C 5))=some true
 mk_Bows:Mk K (ca.C 0) (ca.f 11)
 mk_Rooms:Mk K (ca.C 1) (ca.f 12)
 mk_Floors:Mk K (ca.C 2) (ca.f 13)
 mk_Turns:Mk K (ca.C 3) (ca.f 14)
 cm_SplitFamily___init___W:ClsM K (ca.C 5) "__init__" (ca.f 10)
 cm_Family___init___W:ClsM K (ca.C 4) "__init__" (ca.f 9)
 eJ:mg "len" = none
 eB:mg "range" = none
 rO:mg "max" = none
 eE:mg "list" = none
 dO:mg "sorted" = none
 bb:mg "isinstance" = none
 r8:mg "int" = none
 vG:mg "bool" = none
 me:mg "tuple" = none
 xJ:mg "all" = none
 Dn:mg "zip" = none
 DP:mg "set" = none
 sW:mg "sum" = none
 gI:mg "GREATEST_SIZE" = some ca.u_GREATEST_SIZE/\RelV (.int 40) ca.u_GREATEST_SIZE
noncomputable abbrev qZ:IB:=top 30
theorem AI:au ["_law_script","_law_k"] ["_law_script","_law_k"] (ao qZ):=aV
noncomputable abbrev qY:IB:=top 33
theorem oi:au ["_law_most","_law_counts_here","_law_k"] ["_law_most"] (ao qY):=aV
noncomputable abbrev rn:IB:=top 34
theorem gu:au ["_law_script","_law_size","_law_counts_here","_law_some","_law_number_here","_law_j","_law_cell"] ["_law_script","_law_size","_law_counts_here"] (ao rn):=aV
noncomputable abbrev rN:IB:=top 39
theorem zi:au ["_law_word"] ["_law_word"] (ao rN):=aV
noncomputable abbrev qV:IB:=top 35
theorem h9:au ["_law_left","_law_right","_law_i","_law_bows","_law_a","_law_b"] ["_law_left","_law_right","_law_i"] (ao qV):=aV
noncomputable abbrev sD:IB:=top 36
theorem k7:au ["_law_left","_law_right","_law_i","_law_rooms","_law_room"] ["_law_left","_law_right","_law_i"] (ao sD):=aV
noncomputable abbrev wm:IB:=top 37
theorem jt:au ["_law_left","_law_right","_law_i","_law_last","_law_cuts","_law_part","_law_a","_law_b"] ["_law_left","_law_right","_law_i"] (ao wm):=aV
noncomputable abbrev qO:IB:=top 38
theorem Bh:au ["_law_word","_law_left","_law_right","_law_i"] ["_law_word","_law_left","_law_right","_law_i"] (ao qO):=aV
noncomputable abbrev tQ:IB:=top 40
theorem g5:au ["_law_word","_law_size","_law_number_here","_law_counts_here","_law_i","_law_rest","_law_left"] ["_law_word","_law_size","_law_number_here","_law_counts_here"] (ao tQ):=aV
noncomputable abbrev qX:IB:=inClass (top 10) 0
theorem AL:au ["self","word","least"] ["self","word","least"] (ao qX):=aV
noncomputable abbrev wt:IB:=inClass (top 11) 0
theorem DO:au ["self","word"] ["self","word"] (ao wt):=aV
noncomputable abbrev qT:IB:=inClass (top 19) 0
theorem yZ:au ["self"] ["self"] (ao qT):=aV
noncomputable abbrev sG:IB:=inClass (top 20) 0
theorem Be:au ["self"] ["self"] (ao sG):=aV
noncomputable abbrev sJ:IB:=inClass (top 23) 0
theorem zK:au ["self"] ["self"] (ao sJ):=aV
noncomputable abbrev qM:IB:=inClass (top 27) 0
theorem zp:au ["self"] ["self"] (ao qM):=aV
noncomputable abbrev sO:IB:=top 42
theorem y9:au ["_law_word"] ["_law_word"] (ao sO):=aV
noncomputable abbrev tp:IB:=top 31
theorem A1:au ["_law_found"] ["_law_found"] (ao tp):=aV
noncomputable abbrev rQ:IB:=top 41
theorem AK:au ["_law_thing_here"] ["_law_thing_here"] (ao rQ):=aV
noncomputable abbrev tR:IB:=top 32
theorem u0:au ["_law_found","_law_due","_law_k"] ["_law_found","_law_due"] (ao tR):=aV
noncomputable abbrev sY:IB:=top 16
theorem zP:au ["numbers"] ["numbers"] (ao sY):=aV
noncomputable abbrev tD:IB:=top 15
theorem nJ:au ["rows","found","row"] ["rows"] (ao tD):=aV
noncomputable abbrev sQ:IB:=top 17
theorem i7:au ["pairs","a","b","c","d"] ["pairs"] (ao sQ):=aV
noncomputable abbrev rE:IB:=inClass (top 19) 2
theorem Cy:au ["self","thing"] ["self","thing"] (ao rE):=aV
noncomputable abbrev tP:IB:=top 21
theorem CB:au ["rooms"] ["rooms"] (ao tP):=aV
noncomputable abbrev rK:IB:=inClass (top 20) 2
theorem zu:au ["self","thing"] ["self","thing"] (ao rK):=aV
noncomputable abbrev rS:IB:=top 24
theorem Cm:au ["corners","a","b"] ["corners","a","b"] (ao rS):=aV
noncomputable abbrev sv:IB:=inClass (top 23) 2
theorem oC:au ["self","thing","corners","cuts"] ["self","thing"] (ao sv):=aV
noncomputable abbrev sd:IB:=top 28
theorem jh:au ["numbers","stack","put","number"] ["numbers"] (ao sd):=aV
noncomputable abbrev tF:IB:=inClass (top 27) 2
theorem A9:au ["self","thing"] ["self","thing"] (ao tF):=aV
noncomputable abbrev wK:IB:=inClass (top 10) 7
theorem DF:au ["self","thing"] ["self","thing"] (ao wK):=aV
noncomputable abbrev sX:IB:=inClass (top 19) 1
theorem BB:au ["self","thing"] ["self","thing"] (ao sX):=aV
noncomputable abbrev rF:IB:=inClass (top 20) 1
theorem Aa:au ["self","thing"] ["self","thing"] (ao rF):=aV
noncomputable abbrev tG:IB:=inClass (top 23) 1
theorem BZ:au ["self","thing"] ["self","thing"] (ao tG):=aV
noncomputable abbrev tJ:IB:=inClass (top 27) 1
theorem BX:au ["self","thing"] ["self","thing"] (ao tJ):=aV
noncomputable abbrev qW:IB:=top 14
theorem Cd:au ["pairs","step"] ["pairs","step"] (ao qW):=aV
noncomputable abbrev rT:IB:=inClass (top 19) 4
theorem kT:au ["self","thing","left_size","left","right"] ["self","thing"] (ao rT):=aV
noncomputable abbrev rk:IB:=top 13
theorem Am:au ["numbers","step"] ["numbers","step"] (ao rk):=aV
noncomputable abbrev tw:IB:=inClass (top 20) 4
theorem kM:au ["self","thing","left_size","within","behind"] ["self","thing"] (ao tw):=aV
noncomputable abbrev qN:IB:=top 25
theorem A6:au ["cuts","begin","end"] ["cuts","begin","end"] (ao qN):=aV
noncomputable abbrev rV:IB:=inClass (top 23) 4
theorem g9:au ["self","thing","last","cuts","third","left","right"] ["self","thing"] (ao rV):=aV
noncomputable abbrev rG:IB:=inClass (top 27) 4
theorem vt:au ["self","thing","left_size"] ["self","thing"] (ao rG):=aV
noncomputable abbrev v3:IB:=inClass (top 11) 7
theorem iq:au ["self","counts","thing","size","parts","left_size","ahead","left_number","right_number"] ["self","counts","thing"] (ao v3):=aV
noncomputable abbrev rZ:IB:=top 2
theorem nO:au ["most","found","k"] ["most"] (ao rZ):=aV
noncomputable abbrev xb:IB:=inClass (top 11) 5
theorem Dp:au ["self","thing"] ["self","thing"] (ao xb):=aV
noncomputable abbrev xm:IB:=inClass (top 10) 8
theorem DI:au ["self","thing"] ["self","thing"] (ao xm):=aV
noncomputable abbrev sM:IB:=top 3
theorem kO:au ["size","share","k"] ["size"] (ao sM):=aV
noncomputable abbrev wR:IB:=inClass (top 11) 4
theorem DC:au ["self","size"] ["self","size"] (ao wR):=aV
noncomputable abbrev rM:IB:=inClass (top 10) 6
theorem zj:au ["self","size"] ["self","size"] (ao rM):=aV
noncomputable abbrev si:IB:=inClass (top 19) 3
theorem AG:au ["self"] ["self"] (ao si):=aV
noncomputable abbrev tO:IB:=inClass (top 20) 3
theorem A2:au ["self"] ["self"] (ao tO):=aV
noncomputable abbrev rH:IB:=inClass (top 23) 3
theorem Cs:au ["self"] ["self"] (ao rH):=aV
noncomputable abbrev tq:IB:=inClass (top 27) 3
theorem zU:au ["self"] ["self"] (ao tq):=aV
noncomputable abbrev rg:IB:=inClass (top 19) 5
theorem uC:au ["self","left","right","end"] ["self","left","right"] (ao rg):=aV
noncomputable abbrev qQ:IB:=inClass (top 20) 5
theorem iZ:au ["self","left","right","left_size","first","others","room"] ["self","left","right"] (ao qQ):=aV
noncomputable abbrev rR:IB:=inClass (top 23) 5
theorem lA:au ["self","left","right","third","last","cuts"] ["self","left","right"] (ao rR):=aV
noncomputable abbrev tH:IB:=inClass (top 27) 5
theorem BC:au ["self","left","right"] ["self","left","right"] (ao tH):=aV
noncomputable abbrev vI:IB:=inClass (top 11) 8
theorem gG:au ["self","counts","size","number","left_size","rest","right_size","left","right"] ["self","counts","size","number"] (ao vI):=aV
noncomputable abbrev v9:IB:=inClass (top 11) 6
theorem Dw:au ["self","size","number"] ["self","size","number"] (ao v9):=aV
noncomputable abbrev vP:IB:=inClass (top 10) 9
theorem xG:au ["self","size","number","most"] ["self","size","number"] (ao vP):=aV
noncomputable abbrev tI:IB:=inClass (top 10) 10
theorem oy:au ["self","thing","number","size"] ["self","thing"] (ao tI):=aV
noncomputable abbrev r9:IB:=top 43
theorem vf:au ["_law_thing_here","_law_room"] ["_law_thing_here"] (ao r9):=aV
noncomputable abbrev jy:IB:=top 44
theorem cw:au ["_law_script","_law_size","_law_word","_law_counts_here","_law_number_here","_law_thing_here","_law_kin_here","_law_later","_law_handed","_law_other","_law_last","_law_k","_law_found","_law_told","_law_behind"] ["_law_script"] (ao jy):=aV
noncomputable def dU (K:Ga) (ca:aP) (i:Nat):Sp:=fun vs H Q _=>∃ (x:FD) (v:V) (bt:Bt),vs=[.ref x,v]/\Kr i H v bt/\bt.size<=40/\∀ H',ae H H'->Q (.bl true) H'
noncomputable def dv (K:Ga) (ca:aP) (i:Nat):Sp:=fun vs H Q _=>∃ (x:FD) (v:V) (bt:Bt),vs=[.ref x,v]/\Kr i H v bt/\bt.size<=40/\∀ H',ae H H'->Q (.int (bt.size:Int)) H'
noncomputable def dM (K:Ga) (ca:aP) (i:Nat):Sp:=fun vs H Q _=>∃ (x:FD) (v:V) (bl br:Bt),vs=[.ref x,v]/\Kr i H v (.node bl br)/\bl.size+br.size<=39/\∀ (p:FD) (vl vr:V) (H':Hp),ae H H'->H' p=some (.tup [vl,vr])->Kn i H H' vl bl->Kn i H H' vr br->Q (.ref p) H'
noncomputable def fe (K:Ga) (ca:aP) (i:Nat):Sp:=fun vs H Q _=>∃ x,vs=[.ref x]/\∀ (v:V) (H':Hp),ae H H'->Kn i H H' v .leaf->Q v H'
noncomputable def dP (K:Ga) (ca:aP) (i:Nat):Sp:=fun vs H Q _=>∃ (x dx:FD) (fs:List (Str × V)) (wd:Str) (vl vr:V) (bl br:Bt),vs=[.ref x,vl,vr]/\H x=some (.ins (ca.C i) dx fs)/\dh fs wd 0/\Kr i H vl bl/\Kr i H vr br/\bl.size+br.size<=39/\∀ (v:V) (H':Hp),ae H H'->Kn i H H' v (.node bl br)->Q v H'
noncomputable def Bm (K:Ga) (_:aP):Sp:=fun vs H Q _=>∃ (a:FD) (ns:List Int) (k:Int),vs=[.ref a,.int k]/\ai K H a (ns.map V.int)/\0<=k/\Q (.int (ns.getD k.toNat 0)) H
noncomputable def Cv (K:Ga) (_:aP):Sp:=fun vs H Q _=>∃ (k:Nat),vs=[.int (k:Int)]/\k<=60/\∀ (p:FD) (H':Hp),ae H H'->H p=none->H' p=some (.lst (((FC (k+1)).map cR).map V.int))->Q (.ref p) H'
noncomputable def BD (K:Ga) (_:aP):Sp:=fun vs H Q _=>∃ (a pc:FD) (ns:List Int) (n:Nat),vs=[.ref a,.int (n:Int),.ref pc]/\ai K H a (ns.map V.int)/\ns.length<=63/\H pc=some (.lst ((bK 40).map V.int))/\n<=40/\∀ (m:Int) (H':Hp),ae H H'->0<=m->m < sh n->Q (.int m) H'
noncomputable def Cp (_:Ga) (_:aP):Sp:=fun vs H Q _=>∃ (w:Nat),vs=[.int (w:Int)]/\w<=3/\∀ (v:V) (H':Hp),ae H H'->Kn w H H' v .leaf->Q v H'
noncomputable def AU (K:Ga) (_:aP):Sp:=fun vs H Q _=>∃ (l r:FD) (ps qs:List Pair),vs=[.ref l,.ref r,.int (ps.length:Int)]/\aX H l ps/\aX H r qs/\ps.length+qs.length<=40/\∀ (p:FD) (H':Hp),ae H H'->H p=none->aX H' p (cg ps qs)->Q (.ref p) H'
noncomputable def BW (K:Ga) (_:aP):Sp:=fun vs H Q _=>∃ (l r:FD) (Ha Hb:Hp) (i j:Nat) (ls rs:List (List Int)),vs=[.ref l,.ref r,.int (i:Int)]/\aR Ha H l ls/\aR Hb H r rs/\cP i ls/\cP j rs/\i+j<=40 /\
 ∀ (p:FD) (H':Hp),ae H H'->H p=none->aR H H' p (joinR i ls rs)->Q (.ref p) H'
noncomputable def Dy (K:Ga) (_:aP):Sp:=fun vs H Q _=>∃ (tl tr l r:FD) (i j:Nat) (ps qs:List Pair),vs=[.ref tl,.ref tr,.int (i:Int)]/\H tl=some (.tup [.int ((i:Int)+2),.ref l])/\H tr=some (.tup [.int ((j:Int)+2),.ref r])/\aX H l ps/\aX H r qs/\nN i ps/\nN j qs/\i+j<=40 /\
 ∀ (t p:FD) (cs:List Pair) (H':Hp),ae H H'->H t=none->H p=none->H' t=some (.tup [.int ((i:Int)+(j:Int)+3),.ref p])->aX H' p cs->cs.Perm (cF i j ps qs)->cs.Pairwise bH->Q (.ref t) H'
noncomputable def CG (_:Ga) (_:aP):Sp:=fun vs H Q _=>∃ (w:Nat) (vl vr:V) (bl br:Bt),vs=[.int (w:Int),vl,vr,.int (bl.size:Int)]/\w<=3/\Kr w H vl bl/\Kr w H vr br/\bl.size+br.size<=39/\∀ (v:V) (H':Hp),ae H H'->Kn w H H' v (.node bl br)->Q v H'
noncomputable def B4 (_:Ga) (_:aP) (n:Nat):Sp:=fun vs H Q _=>∃ (w:Nat) (pc:FD) (t:Bt),vs=[.int (w:Int),.int (n:Int),.int (aB t),.ref pc]/\w<=3/\H pc=some (.lst ((bK 40).map V.int))/\t.size=n/\n<=40/\∀ (v:V) (H':Hp),ae H H'->Kn w H H' v t->Q v H'
noncomputable def CD (_:Ga) (ca:aP):Sp:=fun vs H Q _=>∃ (fw:Nat),fw<=3/\∃ (x dx:FD) (w:Str) (l:Int),vs=[.ref x,.str w,.int l]/\H x=some (.ins (ca.C fw) dx [])/\∀ (fs:List (Str × V)) (H':Hp),H'=upd H x (.ins (ca.C fw) dx fs)->dh fs w l->Q .non H'
noncomputable def Dv (_:Ga) (ca:aP):Sp:=fun vs H Q _=>∃ (fw:Nat),fw<=3/\∃ (x dx:FD) (w:Str),vs=[.ref x,.str w]/\H x=some (.ins (ca.C fw) dx [])/\∀ (fs:List (Str × V)) (H':Hp),H'=upd H x (.ins (ca.C fw) dx fs)->dh fs w 0->Q .non H'
noncomputable def zh (_:Ga) (ca:aP):Sp:=fun vs H Q _=>∃ x dx,vs=[.ref x]/\H x=some (.ins (ca.C 0) dx [])/\∀ (fs:List (Str × V)) (H':Hp),H'=upd H x (.ins (ca.C 0) dx fs)->dh fs (oz 0) 0->Q .non H'
noncomputable def BS (_:Ga) (ca:aP):Sp:=fun vs H Q _=>∃ x dx,vs=[.ref x]/\H x=some (.ins (ca.C 1) dx [])/\∀ (fs:List (Str × V)) (H':Hp),H'=upd H x (.ins (ca.C 1) dx fs)->dh fs (oz 1) 0->Q .non H'
noncomputable def Av (_:Ga) (ca:aP):Sp:=fun vs H Q _=>∃ x dx,vs=[.ref x]/\H x=some (.ins (ca.C 2) dx [])/\∀ (fs:List (Str × V)) (H':Hp),H'=upd H x (.ins (ca.C 2) dx fs)->dh fs (oz 2) 0->Q .non H'
noncomputable def Bz (_:Ga) (ca:aP):Sp:=fun vs H Q _=>∃ x dx,vs=[.ref x]/\H x=some (.ins (ca.C 3) dx [])/\∀ (fs:List (Str × V)) (H':Hp),H'=upd H x (.ins (ca.C 3) dx fs)->dh fs (oz 3) 0->Q .non H'
noncomputable def zT (K:Ga) (ca:aP):Sp:=fun vs H Q _=>∃ (w:Nat),vs=[.int (w:Int)]/\w<=3/\∀ (x dx:FD) (fs:List (Str × V)) (H':Hp),ae H H'->H' x=some (.ins (ca.C w) dx fs)->dh fs (oz w) 0->Q (.ref x) H'
noncomputable def AQ (_:Ga) (_:aP):Sp:=fun vs H Q _=>∃ n:Int,vs=[.int n]/\Q (.bl true) H
noncomputable def BK (_:Ga) (_:aP):Sp:=fun vs H Q _=>∃ (w:Nat) (v:V) (t:Bt),vs=[v]/\w<=3/\Kr w H v t/\t.size<=40/\∀ (v':V) (H':Hp),ae H H'->Kn w H H' v' t->Q v' H'
noncomputable def BJ (_:Ga) (_:aP) (n:Nat):Sp:=fun vs H Q _=>∃ (x y:V) (t:Tree),vs=[x,y]/\Rep H t x/\Rep H t y/\dep t<=n/\Q (.bl true) H
noncomputable def y4 (K:Ga) (_:aP):Sp:=fun vs H Q _=>∃ (l:FD) (ns:List Int),vs=[.ref l]/\H l=some (.lst (ns.map V.int))/\ns.length < 128/\∀ H',ae H H'->Q (.bl (ck ns)) H'
noncomputable def Bu (K:Ga) (_:aP):Sp:=fun vs H Q _=>∃ (l:FD),vs=[.ref l]/\((∃ (ps:List Pair),aX H l ps/\ps.length<=1000/\∀ (p:FD) (H':Hp),ae H H'->H p=none->H' p=some (.lst ((bE ps).map V.int))->Q (.ref p) H')\/(∃ (bs:List FD) (xss:List (List V)),H l=some (.lst (bs.map V.ref))/\cT H bs xss/\xss.flatten.length<=1000/\∀ (p:FD) (H':Hp),ae H H'->H p=none->H' p=some (.lst xss.flatten)->Q (.ref p) H'))
noncomputable def CL (K:Ga) (_:aP):Sp:=fun vs H Q _=>∃ (l:FD) (ps:List Pair),vs=[.ref l]/\aX H l ps/\Q (.bl (cx ps)) H
noncomputable def Ad (K:Ga) (ca:aP):Sp:=dU K ca 0
noncomputable def zM (K:Ga) (_:aP):Sp:=fun vs H Q _=>∃ (l:FD) (H0:Hp) (rs:List (List Int)),vs=[.ref l]/\aR H0 H l rs/\rs.length<=100/\rs.flatten.length<=1000/\∀ (p:FD) (H':Hp),ae H H'->H p=none->aX H' p (eX rs)->Q (.ref p) H'
noncomputable def AR (K:Ga) (ca:aP):Sp:=dU K ca 1
noncomputable def CJ (K:Ga) (_:aP):Sp:=fun vs H Q _=>∃ (c a b:Int),vs=[.int c,.int a,.int b]/\∀ H',ae H H'->Q (.bl (gT c (a,b))) H'
noncomputable def zm (K:Ga) (ca:aP):Sp:=dU K ca 2
noncomputable def zC (K:Ga) (_:aP):Sp:=fun vs H Q _=>∃ (l:FD) (ns:List Int),vs=[.ref l]/\H l=some (.lst (ns.map V.int))/\ns.length < 64/\ck ns=true/\∀ H',ae H H'->Q (.bl (j8 ns)) H'
noncomputable def zN (K:Ga) (ca:aP):Sp:=dU K ca 3
noncomputable def DJ (K:Ga) (ca:aP):Sp:=fun vs H Q _=>∃ (fw:Nat),fw<=3/\∃ (x dx:FD) (fs:List (Str × V)) (wd:Str) (v:V) (t:Bt),vs=[.ref x,v]/\H x=some (.ins (ca.C fw) dx fs)/\dh fs wd 0/\Kr fw H v t/\t.size<=40/\∀ H',ae H H'->Q .non H'
noncomputable def Bb (K:Ga) (ca:aP):Sp:=dv K ca 0
noncomputable def Bg (K:Ga) (ca:aP):Sp:=dv K ca 1
noncomputable def Bp (K:Ga) (ca:aP):Sp:=dv K ca 2
noncomputable def z7 (K:Ga) (ca:aP):Sp:=dv K ca 3
noncomputable def Br (K:Ga) (_:aP):Sp:=fun vs H Q _=>∃ (l:FD) (ps:List Pair) (d:Int),vs=[.ref l,.int d]/\aX H l ps/\ps.length<=1000/\∀ (p:FD) (H':Hp),ae H H'->H p=none->aX H' p (ps.map (up d))->Q (.ref p) H'
noncomputable def zD (K:Ga) (ca:aP):Sp:=dM K ca 0
noncomputable def AY (K:Ga) (_:aP):Sp:=fun vs H Q _=>∃ (l:FD) (ns:List Int) (d:Int),vs=[.ref l,.int d]/\ai K H l (ns.map V.int)/\ns.length<=1000/\∀ (p:FD) (H':Hp),ae H H'->H p=none->H' p=some (.lst ((ns.map (·+d)).map V.int))->Q (.ref p) H'
noncomputable def zH (K:Ga) (ca:aP):Sp:=dM K ca 1
noncomputable def B2 (K:Ga) (_:aP):Sp:=fun vs H Q _=>∃ (l:FD) (cs:List Pair) (la:Int),vs=[.ref l,.int 0,.int la]/\aX H l cs/\cs.length<=1000 /\
 ∀ (M:Int) (H':Hp),ae H H'->((cs.filter (eF la)).map (·.2)=[]->M=1)->((cs.filter (eF la)).map (·.2)≠[]->M∈(cs.filter (eF la)).map (·.2)/\∀ y∈(cs.filter (eF la)).map (·.2),y<=M)->Q (.int M) H'
noncomputable def AO (K:Ga) (ca:aP):Sp:=dM K ca 2
noncomputable def AE (K:Ga) (ca:aP):Sp:=dM K ca 3
noncomputable def Du (K:Ga) (ca:aP) (n:Nat):Sp:=fun vs H Q _=>∃ (fw:Nat),fw<=3/\∃ (x dx:FD) (fs:List (Str × V)) (wd:Str) (pc:FD) (k:Nat) (v:V) (t:Bt),vs=[.ref x,.ref pc,v]/\H x=some (.ins (ca.C fw) dx fs)/\dh fs wd 0/\H pc=some (.lst ((bK k).map V.int))/\Kr fw H v t/\t.size=n/\n<=k/\k<=40/\∀ H',ae H H'->Q (.int (aB t)) H'
noncomputable def B9 (_:Ga) (_:aP):Sp:=fun vs H Q _=>∃ n:Int,vs=[.int n]/\0<=n/\n<=60/\∀ (p:FD) (H':Hp),ae H H'->H p=none->H' p=some (.lst ((bK n.toNat).map V.int))->Q (.ref p) H'
noncomputable def Dq (K:Ga) (ca:aP):Sp:=fun vs H Q _=>∃ (fw:Nat),fw<=3/\∃ (x dx:FD) (fs:List (Str × V)) (wd:Str) (v:V) (t:Bt),vs=[.ref x,v]/\H x=some (.ins (ca.C fw) dx fs)/\dh fs wd 0/\Kr fw H v t/\t.size<=40/\∀ H',ae H H'->Q (.int (aB t)) H'
noncomputable def Dj (K:Ga) (ca:aP):Sp:=fun vs H Q _=>∃ (fw:Nat),fw<=3/\∃ (x dx:FD) (fs:List (Str × V)) (wd:Str) (v:V) (t:Bt),vs=[.ref x,v]/\H x=some (.ins (ca.C fw) dx fs)/\dh fs wd 0/\Kr fw H v t/\t.size<=40/\∀ H',ae H H'->Q (.int (aB t)) H'
noncomputable def BR (_:Ga) (_:aP):Sp:=fun vs H Q _=>∃ n:Int,vs=[.int n]/\0<=n/\n<=400/\Q (.int (cR n.toNat)) H
noncomputable def DN (K:Ga) (_:aP):Sp:=fun vs H Q _=>∃ (x:FD) (n:Int),vs=[.ref x,.int n]/\0<=n/\n<=40/\Q (.int (cR n.toNat)) H
noncomputable def BI (K:Ga) (ca:aP):Sp:=fun vs H Q _=>∃ (fw:Nat),fw<=3/\∃ (x dx:FD) (fs:List (Str × V)) (wd:Str) (n:Int),vs=[.ref x,.int n]/\H x=some (.ins (ca.C fw) dx fs)/\dh fs wd 0/\0<=n/\n<=40/\Q (.int (cR n.toNat)) H
noncomputable def BF (K:Ga) (ca:aP):Sp:=fe K ca 0
noncomputable def A0 (K:Ga) (ca:aP):Sp:=fe K ca 1
noncomputable def Bj (K:Ga) (ca:aP):Sp:=fe K ca 2
noncomputable def BU (K:Ga) (ca:aP):Sp:=fe K ca 3
noncomputable def z8 (K:Ga) (ca:aP):Sp:=dP K ca 0
noncomputable def Ak (K:Ga) (ca:aP):Sp:=dP K ca 1
noncomputable def CK (K:Ga) (ca:aP):Sp:=dP K ca 2
noncomputable def cU (ps qs:List Int):List Int:=ps.map (·+1)++[0]++qs.map (·+((ps.length:Int)+1))
theorem tX (ps qs:List Int):(cU ps qs).length=ps.length+qs.length+1:=by unfold cU; simp; lia
noncomputable def zG (K:Ga) (ca:aP):Sp:=dP K ca 3
noncomputable def Di (K:Ga) (ca:aP) (n:Nat):Sp:=fun vs H Q _=>∃ (fw:Nat),fw<=3/\∃ (x dx:FD) (fs:List (Str × V)) (wd:Str) (pc:FD) (k:Nat) (t:Bt),vs=[.ref x,.ref pc,.int (n:Int),.int (aB t)]/\H x=some (.ins (ca.C fw) dx fs)/\dh fs wd 0/\H pc=some (.lst ((bK k).map V.int))/\t.size=n/\n<=k/\k<=40/\∀ (v:V) (H':Hp),ae H H'->Kn fw H H' v t->Q v H'
noncomputable def Dr (K:Ga) (ca:aP):Sp:=fun vs H Q _=>∃ (fw:Nat),fw<=3/\∃ (x dx:FD) (fs:List (Str × V)) (wd:Str) (t:Bt),vs=[.ref x,.int (t.size:Int),.int (aB t)]/\H x=some (.ins (ca.C fw) dx fs)/\dh fs wd 0/\t.size<=40/\∀ (v:V) (H':Hp),ae H H'->Kn fw H H' v t->Q v H'
noncomputable def DK (K:Ga) (ca:aP):Sp:=fun vs H Q _=>∃ (fw:Nat),fw<=3/\∃ (x dx:FD) (fs:List (Str × V)) (wd:Str) (t:Bt),vs=[.ref x,.int (t.size:Int),.int (aB t)]/\H x=some (.ins (ca.C fw) dx fs)/\dh fs wd 0/\t.size<=40/\∀ (v:V) (H':Hp),ae H H'->Kn fw H H' v t->Q v H'
noncomputable def Cu (K:Ga) (ca:aP):Sp:=fun vs H Q _=>∃ (fw:Nat),fw<=3/\∃ (x dx:FD) (fs:List (Str × V)) (wd:Str) (v:V) (t:Bt),vs=[.ref x,v]/\H x=some (.ins (ca.C fw) dx fs)/\dh fs wd 0/\Kr fw H v t/\t.size<=40/\(∀ H',ae H H'->aB t+1=sh t.size->Q .non H')/\(∀ (t':Bt) (g:V) (H':Hp),ae H H'->t'.size=t.size->aB t'=aB t+1->Kn fw H H' g t'->Q g H')
noncomputable def Bq (_:Ga) (_:aP):Sp:=fun vs H Q _=>∃ (w:Nat) (v:V) (t:Bt) (H0 H1:Hp),vs=[v]/\w<=3/\Kn w H0 H1 v t/\ae H1 H/\t.size<=40/\∀ (H':Hp),dW H0 H1 H H'->Q .non H'
noncomputable def zl (K:Ga) (_:aP):Sp:=fun vs H Q _=>∃ (a:FD) (ns:List Int),vs=[.ref a]/\ai K H a (ns.map V.int)/\ns.length<=63/\∀ H',Q (.bl true) H'
section
variable (P:Gi) (w:GF) (K:Ga) (mg:Str->Option Fk) (base:HM) (ca:aP)
noncomputable abbrev Dm (n:Nat) (ps:List Str) (k:Nat) (sp:Sp):Prop:=fR P w K mg base ps k sp (ca.f n) (ca.fd n)
noncomputable abbrev Df (n:Nat) (x:Str) (ps:List Str) (k:Nat) (sp:Sp):Prop:=Def P w K mg base x ps k sp (ca.f n) (ca.fd n)
noncomputable def DL:List Prop:=[Df P w K mg base ca 0 "_law_cell_at" ["_law_script","_law_k"] 1 (Bm K ca),Df P w K mg base ca 1 "_law_counts" ["_law_most"] 1 (Cv K ca),Df P w K mg base ca 2 "_law_number" ["_law_script","_law_size","_law_counts_here"] 2 (BD K ca),Df P w K mg base ca 3 "_law_bare" ["_law_word"] 1 (Cp K ca),Df P w K mg base ca 4 "_law_bows_joined" ["_law_left","_law_right","_law_i"] 1 (AU K ca),Df P w K mg base ca 5 "_law_rooms_joined" ["_law_left","_law_right","_law_i"] 1 (BW K ca),Df P w K mg base ca 6 "_law_floors_joined" ["_law_left","_law_right","_law_i"] 1 (Dy K ca),Df P w K mg base ca 7 "_law_joined" ["_law_word","_law_left","_law_right","_law_i"] 2 (CG K ca),Df P w K mg base ca 8 "_law_thing" ["_law_word","_law_size","_law_number_here","_law_counts_here"] 44 (below 41 (B4 K ca)),Dm P w K mg base ca 9 ["self","word","least"] 1 (CD K ca),Dm P w K mg base ca 10 ["self","word"] 3 (Dv K ca),Dm P w K mg base ca 11 ["self"] 5 (zh K ca),Dm P w K mg base ca 12 ["self"] 5 (BS K ca),Dm P w K mg base ca 13 ["self"] 5 (Av K ca),Dm P w K mg base ca 14 ["self"] 5 (Bz K ca),Df P w K mg base ca 15 "_law_kin" ["_law_word"] 7 (zT K ca),Df P w K mg base ca 16 "_law_whole" ["_law_found"] 1 (AQ K ca),Df P w K mg base ca 17 "_law_copy" ["_law_thing_here"] 1 (BK K ca),Df P w K mg base ca 18 "_law_alike" ["_law_found","_law_due"] 6 (below 5 (BJ K ca)),Df P w K mg base ca 19 "each_once" ["numbers"] 1 (y4 K ca),Df P w K mg base ca 20 "flat" ["rows"] 1 (Bu K ca),Df P w K mg base ca 21 "any_cross" ["pairs"] 1 (CL K ca),Dm P w K mg base ca 22 ["self","thing"] 2 (Ad K ca),Df P w K mg base ca 23 "neighbours" ["rooms"] 2 (zM K ca),Dm P w K mg base ca 24 ["self","thing"] 3 (AR K ca),Df P w K mg base ca 25 "may_be_cut" ["corners","a","b"] 1 (CJ K ca),Dm P w K mg base ca 26 ["self","thing"] 2 (zm K ca),Df P w K mg base ca 27 "comes_off_a_stack" ["numbers"] 1 (zC K ca),Dm P w K mg base ca 28 ["self","thing"] 2 (zN K ca),∀ i,i<=3->Dm P w K mg base ca (sel 22 24 26 28 i) ["self","thing"] 3 (dU K ca i),Dm P w K mg base ca 30 ["self","thing"] 4 (DJ K ca),Dm P w K mg base ca 31 ["self","thing"] 1 (Bb K ca),Dm P w K mg base ca 32 ["self","thing"] 1 (Bg K ca),Dm P w K mg base ca 33 ["self","thing"] 1 (Bp K ca),Dm P w K mg base ca 34 ["self","thing"] 1 (z7 K ca),∀ i,i<=3->Dm P w K mg base ca (sel 31 32 33 34 i) ["self","thing"] 1 (dv K ca i),Df P w K mg base ca 36 "pairs_raised_by" ["pairs","step"] 1 (Br K ca),Dm P w K mg base ca 37 ["self","thing"] 2 (zD K ca),Df P w K mg base ca 38 "raised_by" ["numbers","step"] 1 (AY K ca),Dm P w K mg base ca 39 ["self","thing"] 2 (zH K ca),Df P w K mg base ca 40 "third_corner" ["cuts","begin","end"] 1 (B2 K ca),Dm P w K mg base ca 41 ["self","thing"] 2 (AO K ca),Dm P w K mg base ca 42 ["self","thing"] 2 (AE K ca),∀ i,i<=3->Dm P w K mg base ca (sel 37 39 41 42 i) ["self","thing"] 2 (dM K ca i),Dm P w K mg base ca 44 ["self","counts","thing"] 44 (below 41 (Du K ca)),Df P w K mg base ca 45 "shares" ["most"] 1 (B9 K ca),Dm P w K mg base ca 46 ["self","thing"] 45 (Dq K ca),Dm P w K mg base ca 47 ["self","thing"] 46 (Dj K ca),Df P w K mg base ca 48 "by_rule" ["size"] 1 (BR K ca),Dm P w K mg base ca 49 ["self","size"] 2 (DN K ca),Dm P w K mg base ca 50 ["self","size"] 3 (BI K ca),Dm P w K mg base ca 51 ["self"] 1 (BF K ca),Dm P w K mg base ca 52 ["self"] 1 (A0 K ca),Dm P w K mg base ca 53 ["self"] 1 (Bj K ca),Dm P w K mg base ca 54 ["self"] 1 (BU K ca),∀ i,i<=3->Dm P w K mg base ca (sel 51 52 53 54 i) ["self"] 1 (fe K ca i),Dm P w K mg base ca 56 ["self","left","right"] 2 (z8 K ca),Dm P w K mg base ca 57 ["self","left","right"] 2 (Ak K ca),Dm P w K mg base ca 58 ["self","left","right"] 2 (CK K ca),Dm P w K mg base ca 59 ["self","left","right"] 2 (zG K ca),∀ i,i<=3->Dm P w K mg base ca (sel 56 57 58 59 i) ["self","left","right"] 2 (dP K ca i),Dm P w K mg base ca 61 ["self","counts","size","number"] 44 (below 41 (Di K ca)),Dm P w K mg base ca 62 ["self","size","number"] 45 (Dr K ca),Dm P w K mg base ca 63 ["self","size","number"] 46 (DK K ca),Dm P w K mg base ca 64 ["self","thing"] 47 (Cu K ca),Df P w K mg base ca 65 "_law_spoiled" ["_law_thing_here"] 1 (Bq K ca)]
def D (n:Nat):Prop:=pick True (DL P w K mg base ca) n
def Al (k:Nat):Prop:=∀ j,j < k->D P w K mg base ca j
end
section
variable {P:Gi} {w:GF} {K:Ga} {mg:Str->Option Fk} {base:HM} {ca:aP}
theorem Al.g {k:Nat} (h:Al P w K mg base ca k) (j:Nat) (hj:j < k:=by decide):D P w K mg base ca j:=h j hj
theorem Al.s {k:Nat} (h:Al P w K mg base ca k) (d:D P w K mg base ca k):Al P w K mg base ca (k+1):=fun j hj=>if e:j=k then e▸d else h j (by lia)
noncomputable abbrev b7 (K:Ga) (ca:aP) (n:Nat) (x q:Str) (s:IB):Prop:=aQ K x q s (ca.f n) (ca.fd n)
noncomputable abbrev Fg (K:Ga) (mg:Str->Option Fk) (ca:aP) (n:Nat) (x:Str) (s:IB):Prop:=A3 K mg x s (ca.f n) (ca.fd n)
variable (CA:zF K mg ca)
include CA
theorem EY:Al P w K mg base ca 0:=fun _ h=>absurd h (Iq _)
theorem Aw (aL:Al P w K mg base ca 0) (F:Fg K mg ca 0 "_law_cell_at" qZ):D P w K mg base ca 0:=by
 refine dJ F (fun _ _ _ _ _ _=>dI fun _ _=>rfl) (F.F.ok AI (fun vs H Q E h=>?_) (fun cZ AZ oZ sZ H vs Q E hr h=>?_))
 ·obtain ⟨a,ns,k,rfl,hS,h0,q⟩:=h
  rfl
 obtain ⟨a,ns,k,rfl,hS,h0,q⟩:=h
 refine ⟨_,ah (aJ (aw dH (pv 1) (aC bA rfl CA.eJ du (aa (pv 0) ab)) (aA _)) (ag (aq (aG aN (pv 0) (pv 1) (fun _ _=>rfl)))) aD)
  (ag (aq af)),?_⟩
 have hl:(ns.map V.int).length=ns.length:=Do _
 refine ⟨_,rfl,_,rfl,a,_,rfl,.inl hS,_,_,rfl,rfl,_,rfl,j6 (fun c=>?_) (fun c=>?_)⟩
 ·have c':k < (((ns.map V.int).length:Nat):Int):=of_decide_eq_true c
  rw [hl] at c'
  exact ⟨_,rfl,_,rfl,a,_,_,_,rfl,rfl,hS,dF h0 c',q⟩
 ·have c':¬ k < (((ns.map V.int).length:Nat):Int):=of_decide_eq_false (Bool.eq_false_iff.mpr c)
  rw [hl] at c'
  have e:ns.getD k.toNat 0=0:=by rw [AC,Hc (by lia)]; rfl
  rw [e] at q
  exact q
theorem z6 (aL:Al P w K mg base ca 1) (F:Fg K mg ca 1 "_law_counts" qY):D P w K mg base ca 1:=by
 refine dJ F (fun _ _ _ _ _ _=>eC fun _=>rfl) (F.F.ok oi (fun vs H Q E h=>?_) (fun cZ AZ oZ sZ H vs Q E hr h=>?_))
 ·obtain ⟨k,rfl,hk,q⟩:=h
  rfl
 obtain ⟨k,rfl,hk,q⟩:=h
 refine ⟨_,ah (av (i:=1) oi.nd rfl (Gd rfl) (bj (aa af ab)))
  (ah (bV Gr rfl (de rfl CA.eB (aa (pv 0) ab)) (az (i:=2) oi.nd rfl (Gd rfl)) (ag (aW (cz FR Gf Gg bx (pv 1) (aa (aj ft (aj b5 (aG aN (pv 1) (pv 2) (fun _ _=>rfl)) (aj aE (aj b5 af (pv 2)) af)) (aj aE (pv 2) af)) ab)))))
  (ag (aq (pv 1)))),?_⟩
 refine ⟨(by show 1<=sizeLine; decide),fun p hp=>?_⟩
 refine ⟨_,rfl,(k:Int),rfl,by lia,by lia,eV (lo:=0) (n:=((k:Int)).toNat) (fun i σ H'=>∃ o,σ=[some (.int (k:Int)),some (.ref p),o]/\ae H H'/\H' p=some (.lst (((FC (i+1)).map cR).map V.int))) ⟨_,rfl,ae.new (ae.refl H) hp _,upd_same⟩ ?_ ?_⟩
 ·rintro i σ H1 hi ⟨o,rfl,sm,hp1⟩
  have l1:((FC (i+1)).map cR).length=i+1:=by simp
  have a1:=dF (ns:=(FC (i+1)).map cR) (i:=(0:Int)+(i:Int)) (by lia) (by lia)
  have e1:((FC (i+1)).map cR).getD ((0:Int)+(i:Int)).toNat 0=cR i:=by
   rw [show ((0:Int)+(i:Int)).toNat=i by lia,AC]
   simp
  rw [e1] at a1
  refine ⟨_,rfl,.inl ⟨rfl,_,ai.of hp1⟩,_,rfl,_,rfl,p,_,_,_,rfl,rfl,ai.of hp1,a1,_,rfl,_,_,rfl,rfl,.inl ⟨by decide,by decide⟩,_,_,rfl,rfl,_,_,rfl,rfl,.inr ⟨by lia,by lia⟩,_,rfl,_,_,rfl,rfl,_,_,rfl,rfl,⟨by lia,IF (Nat.log2_le_self _) (by lia)⟩,p,_,_,rfl,rfl,hp1,by rw [Do,l1]; exact fX (by lia),?_⟩
  refine ⟨_,rfl,sm.upd hp _,?_⟩
  have e:(FC (i+1+1)).map cR=(FC (i+1)).map cR++[cR (i+1)]:=by rw [IT,Fu]; rfl
  rw [upd_same,e,Fu]
  show some (HO.lst (_++[V.int (cR i*(4*(0+(i:Int))+2) / (0+(i:Int)+2))]))=some (HO.lst (_++[V.int (cR (i+1))]))
  rw [JN]
  rfl
 ·rintro σ H1 ⟨o,rfl,sm,hp1⟩
  rw [GI] at hp1
  exact ⟨_,rfl,q p H1 sm hp hp1⟩
theorem BP (aL:Al P w K mg base ca 2) (F:Fg K mg ca 2 "_law_number" rn):D P w K mg base ca 2:=by
 refine dJ F (fun _ _ _ _ _ _=>gn fun _ _ _=>rfl) (F.F.ok gu (fun vs H Q E h=>?_) (fun cZ AZ oZ sZ H vs Q E hr h=>?_))
 ·obtain ⟨a,pc,ns,n,rfl,hS,h63,hc,k40,q⟩:=h
  rfl
 obtain ⟨a,pc,ns,n,rfl,hS,h63,hc,k40,q⟩:=h
 refine ⟨_,ah (av (i:=3) gu.nd rfl (Gd rfl) (aj dX (aF (aL.g 0) hr (aa (pv 0) (aa af ab))) af))
  (ah (aJ (aw cG (pv 3) af (aA _)) (ag (aq af)) aD)
  (ah (aJ (aw cG (pv 3) af (aA _)) (ag (aq (aj aM (aG aN (pv 2) (pv 1) (fun _ _=>rfl)) af))) aD)
  (ah (av (i:=4) gu.nd rfl (Gd rfl) af)
  (ah (aJ (PW.pt (iU (aw dH (pv 3) af (aA _)) (hW (aw gF (pv 1) af (aA _))))) (ah (bV Gr rfl (de rfl CA.eB (aa (aj dX (aF (aL.g 0) hr (aa (pv 0) (aa af ab))) (pv 1)) ab)) (az (i:=5) gu.nd rfl (Gd rfl)) (ag (av (i:=4) gu.nd rfl (Gd rfl) (aj aE (pv 4) (aj b5 (aG aN (pv 2) (pv 5) (fun _ _=>rfl)) (aG aN (pv 2) (aj aM (aj aM (pv 1) af) (pv 5)) (fun _ _=>rfl)))))))
  (ag (aq (aC (mI rfl) rfl CA.rO oW (aa (aj aM (pv 4) (aj dX (pv 3) af)) (aa af ab)))))) aD)
  (ah (bV Gr rfl (aO (di eA (pv 0) eO (dD af))) (az (i:=6) gu.nd rfl (Gd rfl)) (ag (av (i:=4) gu.nd rfl (Gd rfl) (aj dX (aj aE (aj aE (aj b5 (pv 4) af) (aj dX (pv 6) (aj Ag af af))) af) (aG aN (pv 2) (pv 1) (fun _ _=>rfl))))))
  (ag (aq (pv 4)))))))),?_⟩
 have lk:(bK 40).length=40+1:=bD 40
 have at_:∀ (j:Nat) (z:Int),z=(j:Int)->j<=40->bW ((bK 40).map V.int) z=some (.int (sh j)):=fun j z ez hj=>by
  have:=dF (ns:=bK 40) (i:=z) (by lia) (by lia)
  rw [show z.toNat=j by lia,cJ 40 j hj] at this
  exact this
 have pp:=b6 n
 have an:=at_ n (n:Int) rfl k40
 have r0:=HX (ns.getD (1:Int).toNat 0) (show (6:Int)≠0 by decide)
 refine ⟨_,rfl,a,ns,1,rfl,hS,by decide,_,_,rfl,rfl,pm (by decide),?_⟩
 try dsimp only
 generalize ns.getD (1:Int).toNat 0 % 6=so at r0 |-
 refine ⟨_,rfl,rfl,_,rfl,j6 (fun _=>q _ _ (ae.refl H) (by lia) (by lia)) (fun _=>⟨_,rfl,rfl,_,rfl,j6 (fun _=>⟨_,rfl,_,rfl,pc,_,_,_,rfl,rfl,ai.of hc,an,_,_,rfl,rfl,q _ _ (ae.refl H) (by lia) (by lia)⟩) (fun _=>?_)⟩)⟩
 have walk:True:=trivial
 refine ⟨_,rfl,_,_,rfl,rfl,_,rfl,j6 (fun _=>⟨_,rfl,_,_,rfl,rfl,_,rfl,j6 (fun c2=>?_) (fun _=>?_)⟩) (fun _=>bB ?_)⟩
 ·have c2:(0:Int) < (n:Int):=of_decide_eq_true c2
  have c0:=HX (ns.getD (2:Int).toNat 0) (show (n:Int)≠0 by lia)
  have c1:=Ie (ns.getD (2:Int).toNat 0) (show 0 < (n:Int) by lia)
  refine ⟨_,rfl,a,ns,2,rfl,hS,by decide,_,rfl,_,_,rfl,rfl,by lia,_,rfl,by lia,by lia,eV (lo:=0) (n:=(ns.getD (2:Int).toNat 0 % (n:Int)).toNat) (fun i σ H'=>∃ (o5 o6:Option V),σ=[some (.ref a),some (.int (n:Int)),some (.ref pc),some (.int so),some (.int (pre n i)),o5,o6]/\H=H') ⟨_,_,rfl,rfl⟩ ?_ ?_⟩
  ·rintro i σ H' hi ⟨o5,o6,rfl,rfl⟩
   generalize ns.getD (2:Int).toNat 0 % (n:Int)=e at c0 c1 hi
   have a1:=at_ i ((0:Int)+(i:Int)) (by lia) (by lia)
   have a2:=at_ (n - 1 - i) ((n:Int) - 1 - ((0:Int)+(i:Int))) (by lia) (by lia)
   have p1:=b6 i
   have p2:=b6 (n - 1 - i)
   have mc:gR (sh i) (sh (n - 1 - i)):=mulC (a:=i) (b:=n - 1 - i) (by lia) (by lia) (GA _) (by lia) (GA _)
   refine ⟨_,rfl,_,rfl,_,rfl,pc,_,_,_,rfl,rfl,ai.of hc,a1,_,rfl,_,rfl,_,_,rfl,rfl,_,rfl,_,_,rfl,rfl,pc,_,_,_,rfl,rfl,ai.of hc,a2,_,_,rfl,rfl,mc,_,_,rfl,rfl,some (.int ((0:Int)+(i:Int))),o6,?_,rfl⟩
   rw [eK]
   rfl
  ·rintro σ H' ⟨o5,o6,rfl,rfl⟩
   have pb:=A4 (n:=n) (m:=(ns.getD (2:Int).toNat 0 % (n:Int)).toNat) (by lia)
   have e0:=HX so (show (2:Int)≠0 by decide)
   refine ⟨_,rfl,_,rfl,_,_,rfl,rfl,pm (by decide),_,_,rfl,rfl,_,_,rfl,q _ _ (ae.refl H) ?_ ?_⟩
   all_goals
    split<;>lia
 all_goals
  refine ⟨_,rfl,_,rfl,a,_,rfl,hS,fun p hp=>⟨p,rfl,⟨_,ai.of upd_same⟩,?_⟩⟩
  rw [n5]
  have s1:=ae.new (ae.refl H) hp (.lst ((kB ns none (some 63)).map V.int))
  refine bY (xs:=(kB ns none (some 63)).map V.int) (fun i σ H'=>∃ (o1 o2:Option V) (m:Int),σ=[some (.ref a),some (.int (n:Int)),some (.ref pc),some (.int so),some (.int m),o1,o2]/\ae H H'/\H' p=some (.lst ((kB ns none (some 63)).map V.int))/\0<=m/\m < sh n) ⟨_,_,0,rfl,s1,upd_same,by lia,by lia⟩ (fun i σ H' _ h=>by obtain ⟨_,_,_,_,_,h,_⟩:=h; exact ai.of h) ?_ ?_
  ·rintro i x σ H' hx ⟨o1,o2,m,rfl,sm,hp',m0,m1⟩
   obtain ⟨c,rfl⟩:=cX hx
   refine ⟨_,rfl,_,_,rfl,rfl,.inr ⟨by decide,by decide⟩,_,rfl,_,_,rfl,rfl,⟨by decide,by decide,by decide⟩,_,_,rfl,rfl,(by show (0:Int) < 10 ^ 40; decide),_,_,rfl,rfl,_,_,rfl,rfl,_,rfl,_,rfl,pc,_,_,_,rfl,rfl,ai.of (sm _ _ hc),an,_,_,rfl,rfl,by lia,?_⟩
   exact ⟨_,_,_,rfl,sm,hp',HX _ (by lia),Ie _ (by lia)⟩
  ·rintro σ H1 ⟨o1,o2,m,rfl,sm,_,m0,m1⟩
   exact ⟨_,rfl,q _ _ sm m0 m1⟩
theorem Ax (aL:Al P w K mg base ca 3) (F:Fg K mg ca 3 "_law_bare" rN):D P w K mg base ca 3:=by
 refine dJ F (fun _ _ _ _ _ _=>eC fun _=>rfl) (F.F.ok zi (fun vs H Q E h=>?_) (fun cZ AZ oZ sZ H vs Q E hr h=>?_))
 ·obtain ⟨w,rfl,hw,q⟩:=h
  rfl
 obtain ⟨w,rfl,hw,q⟩:=h
 refine ⟨_,ah (aJ (aw cG (pv 0) af (aA _)) (ag (aq (aY (aa af (aa (bj ab) ab))))) aD)
  (ag (aq (bj ab))),?_⟩
 refine ⟨_,rfl,rfl,_,rfl,?_⟩
 rcases (by lia:w=2\/w≠2) with rfl | h
 ·refine bG rfl ⟨FI _,fun p hp=>⟨(by show 2<=sizeLine; decide),fun t ht=>?_⟩⟩
  have s1:=ae.new (ae.refl H) hp (.lst [])
  have s2:=ae.new (ae.refl _) ht (.tup [.int 2,.ref p])
  exact q _ _ (s1.trans s2) ⟨t,p,[],rfl,hp,upd_same,⟨[],s2 _ _ upd_same,.nil⟩,.refl _,.nil⟩
 ·refine aZ (fun z=>h (by injection z with z; lia)) ⟨FI _,fun p hp=>q _ _ (ae.new (ae.refl H) hp _) ?_⟩
  rcases (by lia:w=0\/w=1\/w=3) with rfl | rfl | rfl
  ·exact ⟨p,rfl,hp,[],upd_same,.nil⟩
  ·exact ⟨p,rfl,hp,aR.nil upd_same⟩
  ·exact ⟨p,rfl,hp,upd_same⟩
theorem AD (aL:Al P w K mg base ca 4) (F:Fg K mg ca 4 "_law_bows_joined" qV):D P w K mg base ca 4:=by
 refine dJ F (fun _ _ _ _ _ _=>gn fun _ _ _=>rfl) (F.F.ok h9 (fun vs H Q E h=>?_) (fun cZ AZ oZ sZ H vs Q E hr h=>?_))
 ·obtain ⟨l,r,ps,qs,rfl,hl,hr2,hij,q⟩:=h
  rfl
 obtain ⟨l,r,ps,qs,rfl,hl,hr2,hij,q⟩:=h
 refine ⟨_,ah (av (i:=3) h9.nd rfl (Gd rfl) (bj (aa (aY (aa af (aa (aj aE (aj b5 af (pv 2)) af) ab))) ab)))
  (ah (bV Gr rfl (aO (pv 0)) (ik rfl (a9 (az (i:=4) h9.nd rfl (Gd rfl)) (a9 (az (i:=5) h9.nd rfl (Gd rfl)) cY))) (ag (aW (cz FR Gf Gg bx (pv 3) (aa (aY (aa (aj aE (pv 4) af) (aa (aj aE (pv 5) af) ab))) ab)))))
  (ah (bV Gr rfl (aO (pv 1)) (ik rfl (a9 (az (i:=4) h9.nd rfl (Gd rfl)) (a9 (az (i:=5) h9.nd rfl (Gd rfl)) cY))) (ag (aW (cz FR Gf Gg bx (pv 3) (aa (aY (aa (aj aE (aj aE (pv 4) (aj b5 af (pv 2))) af) (aa (aj aE (aj aE (pv 5) (aj b5 af (pv 2))) af) ab))) ab)))))
  (ag (aq (pv 3))))),?_⟩
 obtain ⟨xs,el,lx,prl⟩:=hl.len
 obtain ⟨zs,er,lz,prz⟩:=hr2.len
 refine rW fun vT hT=>?_
 refine ⟨_,rfl,_,_,rfl,rfl,.inl ⟨by decide,by decide⟩,_,_,rfl,rfl,(by show 2<=sizeLine; decide),fun t0 ht0=>⟨(by show 1<=sizeLine; decide),fun pc hpc=>?_⟩⟩
 have s0:=ae.new (ae.refl H) ht0 (.tup [.int 0,.int (2*(ps.length:Int)+1)])
 have s1:=ae.new s0 hpc (.lst [.ref t0])
 have hc1:aX (upd (upd H t0 (.tup [.int 0,.int (2*(ps.length:Int)+1)])) pc (.lst [.ref t0])) pc [((0:Int),2*(ps.length:Int)+1)]:=⟨_,upd_same,.cons ⟨t0,rfl,(upd_ne (ar upd_same hpc)).trans upd_same⟩ .nil⟩
 have hpc:H pc=none:=s0.free hpc
 generalize upd (upd H t0 (.tup [.int 0,.int (2*(ps.length:Int)+1)])) pc (.lst [.ref t0])=H1 at s1 hc1 |-
 refine ⟨_,rfl,l,rfl,⟨_,ai.of (s1 _ _ el)⟩,bY (xs:=xs) (fun k σ H'=>∃ (o1 o2:Option V),σ=[some (.ref l),some (.ref r),some (.int (ps.length:Int)),some (.ref pc),o1,o2]/\ae H H'/\aX H' pc (((0:Int),2*(ps.length:Int)+1)::(ps.take k).map (up 1))) ⟨_,_,rfl,s1,hc1⟩ (fun k σ H' _ h=>by obtain ⟨_,_,_,h,_⟩:=h; exact ai.of (h _ _ el)) ?_ ?_⟩
 ·rintro k v σ H5 hv ⟨o1,o2,rfl,s5,hc5⟩
  obtain ⟨p,tt,hpp,rfl,htt⟩:=(prl.same s5).get hv
  obtain ⟨ys,ey,ly,pry⟩:=hc5.len
  simp only [FZ,Fw,Do,FU] at ly
  refine ⟨tt,_,rfl,bg.of htt,rfl,_,_,rfl,_,_,rfl,rfl,?_⟩
  refine ⟨_,rfl,.inl ⟨rfl,_,ai.of ey⟩,_,rfl,_,_,rfl,rfl,_,rfl,_,_,rfl,rfl,(by show 2<=sizeLine; decide),fun t3 ht3=>?_⟩
  refine ⟨pc,_,_,rfl,rfl,(upd_ne (ar ey ht3)).trans ey,fX (by lia),?_⟩
  refine ⟨_,_,rfl,(ae.new s5 ht3 _).upd hpc _,?_⟩
  rw [FT,hpp,Fu,<- JH]
  exact aX.push ey pry ht3
 rintro σ H2 ⟨o1,o2,rfl,s2,hc2⟩
 subst hT
 rw [lx,Jh] at hc2
 refine ⟨_,rfl,r,rfl,⟨_,ai.of (s2 _ _ er)⟩,bY (xs:=zs) (fun k σ H'=>∃ (o1 o2:Option V),σ=[some (.ref l),some (.ref r),some (.int (ps.length:Int)),some (.ref pc),o1,o2]/\ae H H'/\aX H' pc (((0:Int),2*(ps.length:Int)+1)::(ps.map (up 1)++(qs.take k).map (up (2*(ps.length:Int)+2))))) ⟨_,_,rfl,s2,by simpa using hc2⟩ (fun k σ H' _ h=>by obtain ⟨_,_,_,h,_⟩:=h; exact ai.of (h _ _ er)) ?_ ?_⟩
 ·rintro k v σ H5 hv ⟨o1,o2,rfl,s5,hc5⟩
  obtain ⟨p,tt,hpp,rfl,htt⟩:=(prz.same s5).get hv
  obtain ⟨ys,ey,ly,pry⟩:=hc5.len
  simp only [FZ,Fw,Do,FU] at ly
  refine ⟨tt,_,rfl,bg.of htt,rfl,_,_,rfl,_,_,rfl,rfl,?_⟩
  refine ⟨_,rfl,.inl ⟨rfl,_,ai.of ey⟩,_,rfl,_,rfl,_,_,rfl,rfl,.inl ⟨by decide,by decide⟩,_,_,rfl,rfl,_,_,rfl,rfl,_,rfl,_,rfl,_,_,rfl,rfl,.inl ⟨by decide,by decide⟩,_,_,rfl,rfl,_,_,rfl,rfl,(by show 2<=sizeLine; decide),fun t3 ht3=>?_⟩
  refine ⟨pc,_,_,rfl,rfl,(upd_ne (ar ey ht3)).trans ey,fX (by lia),?_⟩
  refine ⟨_,_,rfl,(ae.new s5 ht3 _).upd hpc _,?_⟩
  rw [FT,hpp,Fu,<- FX,<- JH]
  dsimp only
  rw [Jv,Jv]
  exact aX.push ey pry ht3
 rintro σ H3 ⟨o1,o2,rfl,s3,hc3⟩
 rw [lz,Jh] at hc3
 exact ⟨_,rfl,q pc H3 s3 hpc hc3⟩
theorem zt (aL:Al P w K mg base ca 5) (F:Fg K mg ca 5 "_law_rooms_joined" sD):D P w K mg base ca 5:=by
 refine dJ F (fun _ _ _ _ _ _=>gn fun _ _ _=>rfl) (F.F.ok k7 (fun vs H Q E h=>?_) (fun cZ AZ oZ sZ H vs Q E hr h=>?_))
 ·obtain ⟨l,r,Ha,Hb,i,j,ls,rs,rfl,hl,hr2,rm,rm2,hij,q⟩:=h
  rfl
 obtain ⟨l,r,Ha,Hb,i,j,ls,rs,rfl,hl,hr2,rm,rm2,hij,q⟩:=h
 refine ⟨_,ah (av (i:=3) k7.nd rfl (Gd rfl) (bj (aa (bj (aa af ab)) ab)))
  (ah (bV Gr rfl (aO (pv 0)) (az (i:=4) k7.nd rfl (Gd rfl)) (ag (aJ (aw cG (aG aN (pv 4) (e8 dN af) (fun _ _=>rfl)) (aj aM (pv 2) af) (aA _)) (ag (yV (aj eG (bj (aa af ab)) (bS rfl (aO (pv 4)) rfl rfl rfl rfl (N:=["_law_number_here"]) (.own .nil) (fun _ _ _ _ _ _=>(az (i:=0) (by show GP (["_law_number_here"]:List Str); decide +kernel) rfl (Gd rfl))) (fun _ _ _ _ _ _=>bZ) (fun _ _ _ _ _ _=>(aj aE (pv 0) af)))) (A5 (pv 3) af set_list))) (ag (aW (cz FR Gf Gg bx (pv 3) (aa (bS rfl (aO (pv 4)) rfl rfl rfl rfl (N:=["_law_number_here"]) (.own .nil) (fun _ _ _ _ _ _=>(az (i:=0) (by show GP (["_law_number_here"]:List Str); decide +kernel) rfl (Gd rfl))) (fun _ _ _ _ _ _=>bZ) (fun _ _ _ _ _ _=>(aj aE (pv 0) af))) ab)))))))
  (ah (bV Gr rfl (aO (pv 1)) (az (i:=4) k7.nd rfl (Gd rfl)) (ag (aW (cz FR Gf Gg bx (pv 3) (aa (bS rfl (aO (pv 4)) rfl rfl rfl rfl (N:=["_law_number_here","_law_i"]) (.own (.cap (j:=2) rfl rfl rfl .nil)) (fun _ _ _ _ _ _=>(az (i:=0) (by show GP (["_law_number_here","_law_i"]:List Str); decide +kernel) rfl (Gd rfl))) (fun _ _ _ _ _ _=>bZ) (fun _ _ _ _ _ _=>(aj aE (aj aE (pv 0) (pv 1)) af))) ab)))))
  (ag (aq (pv 3))))),?_⟩
 obtain ⟨xs,el,lxs⟩:=hl.len
 obtain ⟨zs,ez,lzs⟩:=hr2.len
 have ln:=rm.lens
 have ln2:=rm2.lens
 refine rW fun vT hT=>?_
 refine ⟨(by show 1<=sizeLine; decide),fun q0 hq0=>⟨(by show 1<=sizeLine; decide),fun pr hpr=>?_⟩⟩
 have s1:=ae.new (ae.refl H) hq0 (.lst [.int 0])
 have s2:=ae.new s1 hpr (.lst [.ref q0])
 have n0:q0≠pr:=ar upd_same hpr
 have fpr:H pr=none:=s1.free hpr
 have l2:aR H (upd (upd H q0 (.lst [.int 0])) pr (.lst [.ref q0])) pr [[(0:Int)]]:=⟨[q0],upd_same,.cons ⟨(upd_ne n0).trans upd_same,hq0,n0⟩ .nil,by simp⟩
 have st2:fG H (upd (upd H q0 (.lst [.int 0])) pr (.lst [.ref q0])):=fun b hb=>s2.free hb
 generalize upd (upd H q0 (.lst [.int 0])) pr (.lst [.ref q0])=H2 at s2 l2 st2 |-
 -- a room raised
 have up1:∀ (d:Int) (ns:List Int),(ns.map V.int).map (fun v=>match v with | .int c=>V.int (c+d) | v=>v)=(aH d ns).map V.int:=fun d ns=>by unfold aH; rw [GC,GC]; rfl
 refine ⟨_,rfl,l,rfl,⟨_,ai.of (s2 _ _ el)⟩,bY (xs:=xs) (fun k σ H'=>∃ (o:Option V),σ=[some (.ref l),some (.ref r),some (.int (i:Int)),some (.ref pr),o]/\ae H H'/\aR H H' pr (((0:Int)::aH 1 ((ls.take k).filter (aS i)).flatten)::((ls.take k).filter fun r=>!aS i r).map (aH 1))/\k<=ls.length) ⟨_,rfl,s2,l2,FI _⟩ (fun k σ H' _ h=>by obtain ⟨o,_,sm,_⟩:=h; exact ai.of (sm _ _ el)) ?_ ?_⟩
 ·rintro k v σ H' hv ⟨o,rfl,sm,lk,hk⟩
  obtain ⟨b,ns,rfl,hn,hb,_⟩:=hl.at el hv
  have hlt:k < ls.length:=(Fs.mp hn).1
  have hm:ns∈ls:=FG hn
  have qD:=ln.2 ns hm
  have mns:(ns.map V.int).length=ns.length:=Do _
  have tk:=cE (f:=aS i) hn
  have tk2:=cE (f:=fun r=>!aS i r) hn
  obtain ⟨ys,ey,ly⟩:=lk.len
  have lf:=Gz (fun r=>!aS i r) (ls.take k)
  rw [FZ,Do] at ly
  rw [FU] at lf
  have hbk:=sm _ _ hb
  refine ⟨_,rfl,_,rfl,b,_,_,_,rfl,rfl,ai.of hbk,je (rm.ne ns hm),_,rfl,_,_,rfl,rfl,rfl,_,rfl,?_⟩
  by_cases g:ns.getD (ns.length - 1) 0=(i:Int) - 1
  ·have hg:aS i ns=true:=decide_eq_true g
   have e0:=jE rm hn hg
   refine bG (congrArg V.int g) ⟨(by show 1<=sizeLine; decide),fun qa hqa=>?_⟩
   have k1:=ae.new (ae.refl H') hqa (.lst [.int 0])
   refine ⟨_,rfl,b,rfl,⟨_,ai.of (k1 _ _ hbk)⟩,fun D hD=>eW (fun v=>match v with | .int c=>.int (c+1) | v=>v) (by rw [mns]; exact sz (by lia)) (ai.of (k1 _ _ hbk)) hD (fun m x H9 R R0 hx hb9 hR=>?_) ?_⟩
   ·obtain ⟨c,rfl⟩:=cX hx
    exact ⟨Ext.set rfl,fV (bw ⟨_,rfl,_,_,rfl,rfl,hR⟩)⟩
   rw [up1]
   have k2:=ae.new k1 hD (.lst ((aH 1 ns).map V.int))
   have n1:qa≠D:=ar upd_same hD
   refine ⟨qa,D,_,_,rfl,rfl,(upd_ne n1).trans upd_same,upd_same,sz (by rw [Do,fC]; simp; lia),fun qc hqc=>?_⟩
   have k3:=ae.new k2 hqc (.lst ([.int 0]++(aH 1 ns).map V.int))
   have hc3:upd (upd (upd H' qa (.lst [.int 0])) D (.lst ((aH 1 ns).map V.int))) qc (.lst ([.int 0]++(aH 1 ns).map V.int)) qc=some (.lst (((0:Int)::aH 1 ns).map V.int)):=upd_same
   generalize upd (upd (upd H' qa (.lst [.int 0])) D (.lst ((aH 1 ns).map V.int))) qc (.lst ([.int 0]++(aH 1 ns).map V.int))=H5 at k3 hc3 |-
   have fc:H' qc=none:=k2.free hqc
   have hj:iS ys.length 0=some 0:=by
    unfold iS
    rw [if_pos (by decide),if_pos (by lia)]
    rfl
   refine ⟨_,rfl,pr,ys,0,0,rfl,rfl,k3 _ _ ey,hj,?_⟩
   refine ⟨_,rfl,(sm.trans k3).upd fpr _,?_,hlt⟩
   rw [tk,if_pos hg,e0,IV,tk2,if_neg (by rw [hg]; decide),Gj]
   have:=lk.swap ey k3 fc hc3 (sm.free fc)
   have e1:[ns].flatten=ns:=by simp
   rw [e1]
   exact this
  ·have hg:¬ aS i ns=true:=fun z=>g (of_decide_eq_true z)
   have hg':(!aS i ns)=true:=by cases e:aS i ns with
    | true=>exact absurd e hg
    | false=>rfl
   refine aZ (fun z=>g (by injection z)) ⟨_,rfl,.inl ⟨rfl,_,ai.of ey⟩,_,rfl,b,rfl,⟨_,ai.of hbk⟩,fun D hD=>eW (fun v=>match v with | .int c=>.int (c+1) | v=>v) (by rw [mns]; exact sz (by lia)) (ai.of hbk) hD (fun m x H9 R R0 hx hb9 hR=>?_) ?_⟩
   ·obtain ⟨c,rfl⟩:=cX hx
    exact ⟨Ext.set rfl,fV (bw ⟨_,rfl,_,_,rfl,rfl,hR⟩)⟩
   rw [up1]
   have k1:=ae.new (ae.refl H') hD (.lst ((aH 1 ns).map V.int))
   refine ⟨pr,_,_,rfl,rfl,k1 _ _ ey,fX (by lia),?_⟩
   refine ⟨_,rfl,(sm.trans k1).upd fpr _,?_,hlt⟩
   rw [tk,if_neg hg,Gj,tk2,if_pos hg',Fu]
   exact lk.push ey k1 hD upd_same (sm.free hD)
 ·rintro σ H5 ⟨o,rfl,s5,l5,hk⟩
  subst hT
  rw [FB (by lia)] at l5
  have lf:=Gz (fun r=>!aS i r) ls
  refine ⟨_,rfl,r,rfl,⟨_,ai.of (s5 _ _ ez)⟩,bY (xs:=zs) (fun k σ H'=>∃ (o:Option V),σ=[some (.ref l),some (.ref r),some (.int (i:Int)),some (.ref pr),o]/\ae H H'/\aR H H' pr (((0:Int)::aH 1 (ls.filter (aS i)).flatten)::((ls.filter fun r=>!aS i r).map (aH 1)++(rs.take k).map (aH ((i:Int)+1))))/\k<=rs.length) ⟨_,rfl,s5,by rw [List.take_zero,Ka,Gj]; exact l5,FI _⟩ (fun k σ H' _ h=>by obtain ⟨o,_,sm,_⟩:=h; exact ai.of (sm _ _ ez)) ?_ ?_⟩
  ·rintro k v σ H' hv ⟨o,rfl,sm,lk,hk⟩
   obtain ⟨b,ns,rfl,hn,hb,_⟩:=hr2.at ez hv
   have hlt:k < rs.length:=(Fs.mp hn).1
   have qD:=ln2.2 ns (FG hn)
   have mns:(ns.map V.int).length=ns.length:=Do _
   obtain ⟨ys,ey,ly⟩:=lk.len
   rw [FZ,Fw,Do,Do,FU] at ly
   have hbk:=sm _ _ hb
   refine ⟨_,rfl,.inl ⟨rfl,_,ai.of ey⟩,_,rfl,b,rfl,⟨_,ai.of hbk⟩,fun D hD=>eW (fun v=>match v with | .int c=>.int (c+((i:Int)+1)) | v=>v) (by rw [mns]; exact sz (by lia)) (ai.of hbk) hD (fun m x H9 R R0 hx hb9 hR=>?_) ?_⟩
   ·obtain ⟨c,rfl⟩:=cX hx
    refine ⟨Ext.set rfl,fV (bw ⟨_,rfl,_,rfl,_,_,rfl,rfl,_,_,rfl,rfl,?_⟩)⟩
    show R (.int (c+(i:Int)+1)) H9
    rw [Jv]
    exact hR
   rw [up1]
   have k1:=ae.new (ae.refl H') hD (.lst ((aH ((i:Int)+1) ns).map V.int))
   refine ⟨pr,_,_,rfl,rfl,k1 _ _ ey,fX (by lia),?_⟩
   refine ⟨_,rfl,(sm.trans k1).upd fpr _,?_,hlt⟩
   rw [FT,hn,Fu,<- FX,<- JH]
   exact lk.push ey k1 hD upd_same (sm.free hD)
  ·rintro σ H6 ⟨o,rfl,s6,l6,hk⟩
   rw [FB (by lia)] at l6
   exact ⟨_,rfl,q pr H6 s6 fpr l6⟩
theorem CS (aL:Al P w K mg base ca 6) (F:Fg K mg ca 6 "_law_floors_joined" wm):D P w K mg base ca 6:=by
 refine dJ F (fun _ _ _ _ _ _=>gn fun _ _ _=>rfl) (F.F.ok jt (fun vs H Q E h=>?_) (fun cZ AZ oZ sZ H vs Q E hr h=>?_))
 ·obtain ⟨tl,tr,l,r,i,j,ps,qs,rfl,htl,htr,hl,hr2,fp,fq,hij,q⟩:=h
  rfl
 obtain ⟨tl,tr,l,r,i,j,ps,qs,rfl,htl,htr,hl,hr2,fp,fq,hij,q⟩:=h
 refine ⟨_,ah (av (i:=3) jt.nd rfl (Gd rfl) (aj aE (pv 2) (aG bM (pv 1) af (fun _ _=>rfl))))
  (ah (av (i:=4) jt.nd rfl (Gd rfl) (gH e7 rfl CA.eE dC (aa (aG bM (pv 0) af (fun _ _=>rfl)) ab)))
  (ah (bV Gr rfl (aO (bj (aa (aY (aa af (aa (aj aE (pv 2) af) ab))) (aa (aY (aa (aj aE (pv 2) af) (aa (pv 3) ab))) ab)))) (az (i:=5) jt.nd rfl (Gd rfl)) (ag (aJ (aw gF (aj aM (aG bM (pv 5) af (fun _ _=>rfl)) (aG bM (pv 5) af (fun _ _=>rfl))) af (aA _)) (ag (aW (cz FR Gf Gg bx (pv 4) (aa (pv 5) ab)))) aD)))
  (ah (bV Gr rfl (aO (aG bM (pv 1) af (fun _ _=>rfl))) (ik rfl (a9 (az (i:=6) jt.nd rfl (Gd rfl)) (a9 (az (i:=7) jt.nd rfl (Gd rfl)) cY))) (ag (aW (cz FR Gf Gg bx (pv 4) (aa (aY (aa (aj aE (aj aE (pv 6) (pv 2)) af) (aa (aj aE (aj aE (pv 7) (pv 2)) af) ab))) ab)))))
  (ag (aq (aY (aa (aj aE (pv 3) af) (aa (aC gx rfl CA.dO c9 (aa (pv 4) ab)) ab)))))))),?_⟩
 have lp:=fp.len
 have lq:=fq.len
 have at0:∀ (c:Int) (a:FD),bW [V.int c,.ref a] 0=some (.int c):=fun _ _=>rfl
 have at1:∀ (c:Int) (a:FD),bW [V.int c,.ref a] 1=some (.ref a):=fun _ _=>rfl
 have ai0:∀ c d:Int,bW [V.int c,.int d] 0=some (.int c):=fun _ _=>rfl
 have ai1:∀ c d:Int,bW [V.int c,.int d] 1=some (.int d):=fun _ _=>rfl
 refine Dg fun vT hT=>?_
 refine ⟨_,rfl,_,rfl,tr,_,_,_,rfl,rfl,bg.of htr,at0 _ _,_,_,rfl,rfl,?_⟩
 try dsimp only
 rw [<- Jv]
 obtain ⟨xs,el,lx,prl⟩:=hl.len
 obtain ⟨zs,ez,lz,prz⟩:=hr2.len
 refine ⟨_,rfl,tl,_,_,_,rfl,rfl,bg.of htl,at1 _ _,l,_,rfl,.inl (ai.of el),fun pc hpc=>?_⟩
 have s1:=ae.new (ae.refl H) hpc (.lst xs)
 have hc1:aX (upd H pc (.lst xs)) pc ps:=⟨_,upd_same,prl.same s1⟩
 generalize upd H pc (.lst xs)=H1 at s1 hc1 |-
 refine ⟨_,rfl,_,_,rfl,rfl,(by show 2<=sizeLine; decide),fun t1 ht1=>⟨_,rfl,_,_,rfl,rfl,_,rfl,(by show 2<=sizeLine; decide),fun t2 ht2=>⟨(by show 2<=sizeLine; decide),fun pf hpf=>?_⟩⟩⟩
 have k1:=ae.new (ae.refl H1) ht1 (.tup [.int 0,.int ((i:Int)+1)])
 have k2:=ae.new (ae.refl _) ht2 (.tup [.int ((i:Int)+1),.int ((i:Int)+(j:Int)+2)])
 have k3:=ae.new (ae.refl _) hpf (.lst [.ref t1,.ref t2])
 have k23:=k2.trans k3
 have k13:=k1.trans k23
 have g1:=k23 _ _ (upd_same (H:=H1) (a:=t1) (o:=.tup [.int 0,.int ((i:Int)+1)]))
 have g2:=k3 _ _ (upd_same (H:=upd H1 t1 (.tup [.int 0,.int ((i:Int)+1)])) (a:=t2) (o:=.tup [.int ((i:Int)+1),.int ((i:Int)+(j:Int)+2)]))
 have g3:upd (upd (upd H1 t1 (.tup [.int 0,.int ((i:Int)+1)])) t2 (.tup [.int ((i:Int)+1),.int ((i:Int)+(j:Int)+2)])) pf (.lst [.ref t1,.ref t2]) pf=some (.lst [.ref t1,.ref t2]):=upd_same
 have s2:=s1.trans k13
 have hc2:=hc1.same k13
 have nfc:pf≠pc:=fun z=>by
  obtain ⟨ys,h,_⟩:=hc1
  have:=(k1.trans k2) _ _ h
  rw [z,this] at hpf
  cases hpf
 generalize upd (upd (upd H1 t1 (.tup [.int 0,.int ((i:Int)+1)])) t2 (.tup [.int ((i:Int)+1),.int ((i:Int)+(j:Int)+2)])) pf (.lst [.ref t1,.ref t2])=H2 at g1 g2 g3 s2 hc2 |-
 have prp:bC H2 [.ref t1,.ref t2] [((0:Int),(i:Int)+1),((i:Int)+1,(i:Int)+(j:Int)+2)]:=.cons ⟨t1,rfl,g1⟩ (.cons ⟨t2,rfl,g2⟩ .nil)
 refine ⟨pf,rfl,⟨_,ai.of g3⟩,bY (xs:=[.ref t1,.ref t2]) (fun k σ H'=>∃ (o1 o2 o3:Option V),σ=[some (.ref tl),some (.ref tr),some (.int (i:Int)),some (.int ((i:Int)+(j:Int)+2)),some (.ref pc),o1,o2,o3]/\ae H H'/\H' pf=some (.lst [.ref t1,.ref t2])/\bC H' [.ref t1,.ref t2] [((0:Int),(i:Int)+1),((i:Int)+1,(i:Int)+(j:Int)+2)]/\aX H' pc (ps++(([((0:Int),(i:Int)+1),((i:Int)+1,(i:Int)+(j:Int)+2)]:List Pair).take k).filter iE))
  ⟨_,_,_,rfl,s2,g3,prp,by simpa using hc2⟩ (fun k σ H' _ h=>by obtain ⟨_,_,_,_,_,h,_⟩:=h; exact ai.of h) ?_ ?_⟩
 ·rintro k v σ H5 hv ⟨o1,o2,o3,rfl,s5,hf5,pp5,hc5⟩
  obtain ⟨p,tt,hpp,rfl,htt⟩:=pp5.get hv
  have tk:=gM iE hpp
  obtain ⟨ys,ey,ly,pry⟩:=hc5.len
  have l2:((([((0:Int),(i:Int)+1),((i:Int)+1,(i:Int)+(j:Int)+2)]:List Pair).take k).filter iE).length<=2:=GM (Gz _ _) (by rw [FU]; exact Nat.min_le_right _ _)
  rw [Fw] at ly
  refine ⟨_,rfl,tt,_,_,_,rfl,rfl,bg.of htt,ai1 _ _,_,rfl,tt,_,_,_,rfl,rfl,bg.of htt,ai0 _ _,_,_,rfl,rfl,_,_,rfl,rfl,_,rfl,?_⟩
  by_cases h:p.2 - p.1 > 1
  ·refine bG h ⟨_,rfl,.inl ⟨rfl,_,ai.of ey⟩,_,rfl,pc,_,_,rfl,rfl,ey,fX (by lia),?_⟩
   refine ⟨_,_,_,rfl,s5.upd hpc _,(upd_ne nfc).trans hf5,pp5.updL ey _,?_⟩
   rw [tk,if_pos (show iE _=true from decide_eq_true h),<- FX]
   exact aX.put ey pry htt
  ·refine aZ h ⟨_,_,_,rfl,s5,hf5,pp5,?_⟩
   rw [tk,if_neg (by unfold iE; simpa using h),Gj]
   exact hc5
 rintro σ H3 ⟨o1,o2,o3,rfl,s3,hf3,pp3,hc3⟩
 subst hT
 rw [show (([((0:Int),(i:Int)+1),((i:Int)+1,(i:Int)+(j:Int)+2)]:List Pair).take [V.ref t1,V.ref t2].length).filter iE=df i j from wb i j] at hc3
 have ls:=mw i j
 refine ⟨_,rfl,tr,_,_,_,rfl,rfl,bg.of (s3 _ _ htr),at1 _ _,r,rfl,⟨_,ai.of (s3 _ _ ez)⟩,bY (xs:=zs) (fun k σ H'=>∃ (o1 o2 o3:Option V),σ=[some (.ref tl),some (.ref tr),some (.int (i:Int)),some (.int ((i:Int)+(j:Int)+2)),some (.ref pc),o1,o2,o3]/\ae H H'/\aX H' pc (ps++df i j++(qs.take k).map (up ((i:Int)+1))))
  ⟨_,_,_,rfl,s3,by simpa using hc3⟩ (fun k σ H' _ h=>by obtain ⟨_,_,_,_,h,_⟩:=h; exact ai.of (h _ _ ez)) ?_ ?_⟩
 ·rintro k v σ H5 hv ⟨o1,o2,o3,rfl,s5,hc5⟩
  obtain ⟨p,tt,hpp,rfl,htt⟩:=(prz.same s5).get hv
  obtain ⟨ys,ey,ly,pry⟩:=hc5.len
  have lk:((qs.take k).map (up ((i:Int)+1))).length<=qs.length:=by rw [Do,FU]; exact Nat.min_le_right _ _
  rw [Fw,Fw] at ly
  refine ⟨tt,_,rfl,bg.of htt,rfl,_,_,rfl,_,_,rfl,rfl,?_⟩
  refine ⟨_,rfl,.inl ⟨rfl,_,ai.of ey⟩,_,rfl,_,rfl,_,_,rfl,rfl,_,_,rfl,rfl,_,rfl,_,rfl,_,_,rfl,rfl,_,_,rfl,rfl,(by show 2<=sizeLine; decide),fun t3 ht3=>?_⟩
  refine ⟨pc,_,_,rfl,rfl,(upd_ne (ar ey ht3)).trans ey,fX (by lia),?_⟩
  refine ⟨_,_,_,rfl,(ae.new s5 ht3 _).upd hpc _,?_⟩
  rw [FT,hpp,Fu,<- FX]
  dsimp only
  rw [Jv,Jv]
  exact aX.push ey pry ht3
 rintro σ H4 ⟨o1,o2,o3,rfl,s4,hc4⟩
 rw [lz,Jh] at hc4
 have l5:=ja fp fq
 have hc4:aX H4 pc (cF i j ps qs):=hc4
 refine ⟨_,rfl,_,_,rfl,rfl,_,rfl,pc,_,rfl,hc4,by lia,fun p cs H5 s5 fp5 hp5 pm5 rs5=>⟨(by show 2<=sizeLine; decide),fun t ht=>?_⟩⟩
 have s45:=s4.trans s5
 have s6:=ae.new (ae.refl H5) ht (.tup [.int ((i:Int)+(j:Int)+2+1),.ref p])
 have h6:upd H5 t (.tup [.int ((i:Int)+(j:Int)+2+1),.ref p]) t=some (.tup [.int ((i:Int)+(j:Int)+3),.ref p]):=by rw [upd_same,show (i:Int)+(j:Int)+2+1=(i:Int)+(j:Int)+3 by lia]
 exact q t p cs _ (s45.trans s6) (s45.free ht) (s4.free fp5) h6 (hp5.same s6) pm5 rs5
theorem As (aL:Al P w K mg base ca 7) (F:Fg K mg ca 7 "_law_joined" qO):D P w K mg base ca 7:=by
 refine dJ F (fun _ _ _ _ _ _=>Bv fun _ _ _ _=>rfl) (F.F.ok Bh (fun vs H Q E h=>?_) (fun cZ AZ oZ sZ H vs Q E hr h=>?_))
 ·obtain ⟨w,vl,vr,bl,br,rfl,hw,thl,thr,h39,q⟩:=h
  rfl
 obtain ⟨w,vl,vr,bl,br,rfl,hw,thl,thr,h39,q⟩:=h
 refine ⟨_,ah (aJ (aw cG (pv 0) af (aA _)) (ag (aq (aF (aL.g 4) hr (aa (pv 1) (aa (pv 2) (aa (pv 3) ab)))))) aD)
  (ah (aJ (aw cG (pv 0) af (aA _)) (ag (aq (aF (aL.g 5) hr (aa (pv 1) (aa (pv 2) (aa (pv 3) ab)))))) aD)
  (ah (aJ (aw cG (pv 0) af (aA _)) (ag (aq (aF (aL.g 6) hr (aa (pv 1) (aa (pv 2) (aa (pv 3) ab)))))) aD)
  (ag (aq (aj eG (aj eG (bS rfl (aO (pv 1)) rfl rfl rfl rfl (N:=["_law_number_here"]) (.own .nil) (fun _ _ _ _ _ _=>(az (i:=0) (by show GP (["_law_number_here"]:List Str); decide +kernel) rfl (Gd rfl))) (fun _ _ _ _ _ _=>bZ) (fun _ _ _ _ _ _=>(aj aE (pv 0) af))) (bj (aa af ab))) (bS rfl (aO (pv 2)) rfl rfl rfl rfl (N:=["_law_number_here","_law_i"]) (.own (.cap (j:=3) rfl rfl rfl .nil)) (fun _ _ _ _ _ _=>(az (i:=0) (by show GP (["_law_number_here","_law_i"]:List Str); decide +kernel) rfl (Gd rfl))) (fun _ _ _ _ _ _=>bZ) (fun _ _ _ _ _ _=>(aj aE (aj aE (pv 0) (pv 1)) af)))))))),?_⟩
 refine ⟨_,rfl,rfl,_,rfl,?_⟩
 rcases (by lia:w=0\/w=1\/w=2\/w=3) with rfl | rfl | rfl | rfl
 ·obtain ⟨_,l,rfl,_,hl⟩:=thl
  obtain ⟨_,r,rfl,_,hr2⟩:=thr
  exact bG rfl ⟨_,rfl,_,rfl,_,rfl,l,r,cK bl,cK br,by rw [cB]; rfl,hl,hr2,by rw [cB,cB]; lia,fun p H' s f h=>q _ _ s ⟨p,rfl,f,h⟩⟩
 ·obtain ⟨Ha,l,rfl,_,hl⟩:=thl
  obtain ⟨Hb,r,rfl,_,hr2⟩:=thr
  exact aZ (by decide) ⟨_,rfl,rfl,_,rfl,bG rfl ⟨_,rfl,_,rfl,_,rfl,l,r,Ha,Hb,bl.size,br.size,cu bl,cu br,rfl,hl,hr2,cS bl,cS br,by lia,fun p H' s f h=>q _ _ s ⟨p,rfl,f,h⟩⟩⟩
 ·obtain ⟨_,tl,l,ps,rfl,_,htl,hl,pmp,rip⟩:=thl
  obtain ⟨_,tr,r,qs,rfl,_,htr,hr2,pmq,riq⟩:=thr
  exact aZ (by decide) ⟨_,rfl,rfl,_,rfl,aZ (by decide) ⟨_,rfl,rfl,_,rfl,bG rfl ⟨_,rfl,_,rfl,_,rfl,tl,tr,l,r,bl.size,br.size,ps,qs,rfl,htl,htr,hl,hr2,fY pmp rip,fY pmq riq,by lia,fun t p cs H' s f f' h h' pm ri=>q _ _ s ⟨t,p,cs,rfl,f',by rw [h,show (((Bt.node bl br).size:Nat):Int)+2=(bl.size:Int)+(br.size:Int)+3 by show ((bl.size+br.size+1:Nat):Int)+2=_; lia],h',pm.trans (lQ bl br pmp pmq),ri⟩⟩⟩⟩
 ·refine aZ (by decide) ⟨_,rfl,rfl,_,rfl,aZ (by decide) ⟨_,rfl,rfl,_,rfl,aZ (by decide) ?_⟩⟩
  obtain ⟨_,l,rfl,_,hl⟩:=thl
  obtain ⟨_,r,rfl,_,hr2⟩:=thr
  have q:∀ (p:FD) (H':Hp),ae H H'->H p=none->H' p=some (.lst ((cU (bO bl) (bO br)).map V.int))->Q (.ref p) H':=fun p H' s f h=>q _ _ s ⟨p,rfl,f,h⟩
  have z1:=cp bl
  have z2:=cp br
  rw [<- z1]
  rw [<- z1,<- z2] at h39
  generalize bO bl=ps at hl h39 q
  generalize bO br=qs at hr2 h39 q
  have m1:(ps.map V.int).length=ps.length:=Do _
  have m2:(qs.map V.int).length=qs.length:=Do _
  have up1:∀ (d:Int) (ns:List Int),(ns.map V.int).map (fun v=>match v with | .int c=>V.int (c+d) | v=>v)=(aH d ns).map V.int:=fun d ns=>by unfold aH; rw [GC,GC]; rfl
  refine ⟨_,rfl,l,rfl,⟨_,ai.of hl⟩,fun D hD=>eW (fun v=>match v with | .int c=>.int (c+1) | v=>v) (by rw [m1]; exact sz (by lia)) (ai.of hl) hD (fun m x H9 R R0 hx hb9 hR=>?_) ?_⟩
  ·obtain ⟨c,rfl⟩:=cX hx
   exact ⟨Ext.set rfl,fV (bw ⟨_,rfl,_,_,rfl,rfl,hR⟩)⟩
  rw [up1]
  have k1:=ae.new (ae.refl H) hD (.lst ((aH 1 ps).map V.int))
  have h1:upd H D (.lst ((aH 1 ps).map V.int)) D=some (.lst ((aH 1 ps).map V.int)):=upd_same
  generalize upd H D (.lst ((aH 1 ps).map V.int))=H1 at k1 h1 |-
  refine ⟨(by show 1<=sizeLine; decide),fun z hz=>?_⟩
  have k2:=ae.new (ae.refl H1) hz (.lst [.int 0])
  refine ⟨D,z,_,_,rfl,rfl,k2 _ _ h1,upd_same,sz (by rw [Do,fC]; simp; lia),fun p1 hp1=>?_⟩
  have k3:=ae.new (k1.trans k2) hp1 (.lst ((aH 1 ps).map V.int++[.int 0]))
  have h3:upd (upd H1 z (.lst [.int 0])) p1 (.lst ((aH 1 ps).map V.int++[.int 0])) p1=some (.lst ((aH 1 ps).map V.int++[.int 0])):=upd_same
  generalize upd (upd H1 z (.lst [.int 0])) p1 (.lst ((aH 1 ps).map V.int++[.int 0]))=H3 at k3 h3 |-
  refine ⟨_,rfl,r,rfl,⟨_,ai.of (k3 _ _ hr2)⟩,fun D2 hD2=>eW (fun v=>match v with | .int c=>.int (c+((ps.length:Int)+1)) | v=>v) (by rw [m2]; exact sz (by lia)) (ai.of (k3 _ _ hr2)) hD2 (fun m x H9 R R0 hx hb9 hR=>?_) ?_⟩
  ·obtain ⟨c,rfl⟩:=cX hx
   refine ⟨Ext.set rfl,fV (bw ⟨_,rfl,_,rfl,_,_,rfl,rfl,_,_,rfl,rfl,?_⟩)⟩
   show R (.int (c+(ps.length:Int)+1)) H9
   rw [Jv]
   exact hR
  rw [up1]
  have k4:=ae.new k3 hD2 (.lst ((aH ((ps.length:Int)+1) qs).map V.int))
  refine ⟨p1,D2,_,_,rfl,rfl,(upd_ne (ar h3 hD2)).trans h3,upd_same,sz (by simp [fC]; lia),fun p hp=>?_⟩
  refine q p _ (ae.new k4 hp _) (k4.free hp) ?_
  rw [upd_same]
  unfold cU aH
  simp
theorem zr (aL:Al P w K mg base ca 8) (F:Fg K mg ca 8 "_law_thing" tQ):D P w K mg base ca 8:=by
 refine zq 2 41 (by decide) F (fun _ _ _ _ _ _=>Bv fun _ _ _ _=>rfl) fun n eD=>bL.up (F.F.ok g5 (fun vs H Q E h=>?_) (fun cZ AZ oZ sZ H vs Q E hr h=>?_))
 ·obtain ⟨w,pc,t,rfl,hw,hc,hn,k40,q⟩:=h
  rfl
 obtain ⟨w,pc,t,rfl,hw,hc,hn,k40,q⟩:=h
 refine ⟨_,ah (aJ (aw cG (pv 1) af (aA _)) (ag (aq (aF (aL.g 3) hr (aa (pv 0) ab) (hjk:=by lia)))) aD)
  (ah (av (i:=4) g5.nd rfl (Gd rfl) af)
  (ah (j9 Gr (aw nk (pv 2) (aj b5 (aG aN (pv 3) (pv 4) (fun _ _=>rfl)) (aG aN (pv 3) (aj aM (aj aM (pv 1) af) (pv 4)) (fun _ _=>rfl))) (aA _)) (ah (av (i:=2) g5.nd rfl (Gd rfl) (aj aM (pv 2) (aj b5 (aG aN (pv 3) (pv 4) (fun _ _=>rfl)) (aG aN (pv 3) (aj aM (aj aM (pv 1) af) (pv 4)) (fun _ _=>rfl)))))
  (ag (av (i:=4) g5.nd rfl (Gd rfl) (aj aE (pv 4) af)))))
  (ah (av (i:=5) g5.nd rfl (Gd rfl) (aj aM (aj aM (pv 1) af) (pv 4)))
  (ah (av (i:=6) g5.nd rfl (Gd rfl) (aF eD hr (aa (pv 0) (aa (pv 4) (aa (aj ft (pv 2) (aG aN (pv 3) (pv 5) (fun _ _=>rfl))) (aa (pv 3) ab)))) (hjk:=by lia)))
  (ag (aq (aF (aL.g 7) hr (aa (pv 0) (aa (pv 6) (aa (aF eD hr (aa (pv 0) (aa (pv 5) (aa (aj dX (pv 2) (aG aN (pv 3) (pv 5) (fun _ _=>rfl))) (aa (pv 3) ab)))) (hjk:=by lia)) (aa (pv 4) ab)))) (hjk:=by lia)))))))),?_⟩
 refine ⟨_,rfl,rfl,_,rfl,?_⟩
 cases t with
 | leaf =>
  have hn:0=n:=hn
  exact bG (congrArg V.int (by lia)) ⟨_,rfl,w,rfl,hw,q⟩
 | node l r =>
  have hn:l.size+r.size+1=n:=hn
  have lk:(bK 40).length=40+1:=bD 40
  have at_:∀ (j:Nat) (z:Int),z=(j:Int)->j<=40->bW ((bK 40).map V.int) z=some (.int (sh j)):=fun j z ez hj=>by
   have:=dF (ns:=bK 40) (i:=z) (by lia) (by lia)
   rw [show z.toNat=j by lia,cJ 40 j hj] at this
   exact this
  refine aZ (fun z=>by injection z with z; lia) ?_
  refine ⟨fun mm σ H5=>∃ (o1 o2:Option V) (j:Nat),σ=[some (.int (w:Int)),some (.int (n:Int)),some (.int (aB (.node l r) - pre n j)),some (.ref pc),some (.int (j:Int)),o1,o2]/\H=H5/\j<=l.size/\mm=n - j,⟨_,_,_,0,by rw [show pre n 0=0 from rfl,Int.sub_zero]; rfl,rfl,by lia,rfl⟩,?_⟩
  rintro mm σ H5 ⟨o1,o2,j,rfl,rfl,hj,rfl⟩
  have p1:=b6 j
  have p2:=b6 (n - 1 - j)
  have a1:=at_ j (j:Int) rfl (by lia)
  have a2:=at_ (n - 1 - j) ((n:Int) - 1 - (j:Int)) (by lia) (by lia)
  have mc:gR (sh j) (sh (n - 1 - j)):=mulC (a:=j) (b:=n - 1 - j) (by lia) (by lia) (GA _) (by lia) (GA _)
  refine ⟨_,rfl,_,rfl,_,rfl,pc,_,_,_,rfl,rfl,ai.of hc,a1,_,rfl,_,rfl,_,_,rfl,rfl,_,rfl,_,_,rfl,rfl,pc,_,_,_,rfl,rfl,ai.of hc,a2,_,_,rfl,rfl,mc,_,_,rfl,rfl,_,rfl,?_⟩
  have ps:=eK n j
  by_cases h:j < l.size
  ·have go:=lZ (r:=r) h
   rw [hn,show l.size+r.size - j=n - 1 - j by lia] at go
   refine bG (by lia) ⟨fun σ' H6=>σ'=[some (.int (w:Int)),some (.int (n:Int)),some (.int (aB (.node l r) - pre n j - sh j*sh (n - 1 - j))),some (.ref pc),some (.int ((j:Int)+1)),o1,o2]/\H=H6,?_,?_⟩
   ·rintro σ' H6 ⟨rfl,rfl⟩
    refine ⟨n - (j+1),by lia,o1,o2,j+1,?_,rfl,h,rfl⟩
    rw [show aB (.node l r) - pre n (j+1)=aB (.node l r) - pre n j - sh j*sh (n - 1 - j) by lia]
    rfl
   ·exact ⟨_,rfl,_,rfl,_,rfl,pc,_,_,_,rfl,rfl,ai.of hc,a1,_,rfl,_,rfl,_,_,rfl,rfl,_,rfl,_,_,rfl,rfl,pc,_,_,_,rfl,rfl,ai.of hc,a2,_,_,rfl,rfl,mc,_,_,rfl,rfl,_,rfl,_,_,rfl,rfl,rfl,rfl⟩
  have ej:j=l.size:=by lia
  subst ej
  have bN:=fN l r
  rw [hn] at bN
  have er:n - 1 - l.size=r.size:=by lia
  have b1:=bJ l
  have b2:=bJ r
  have b3:=bU r
  have lt:=jq (bU l) b2 b3
  rw [er] at p2
  refine aZ (by rw [er,bN]; lia) ⟨_,rfl,_,_,rfl,rfl,_,rfl,_,_,rfl,rfl,?_⟩
  try dsimp only
  have eb:(n:Int) - 1 - (l.size:Int)=(r.size:Int):=by lia
  rw [eb,bN]
  have pd:=iu (x:=aB l) b2 b3
  have a3:=at_ r.size (r.size:Int) rfl (by lia)
  refine ⟨_,rfl,_,rfl,_,rfl,_,rfl,_,rfl,pc,_,_,_,rfl,rfl,ai.of hc,a3,_,_,rfl,rfl,za (by lia) (uE (by lia)),_,rfl,l.size,by lia,w,pc,l,congrArg (fun z=>[V.int (w:Int),V.int (l.size:Int),V.int z,V.ref pc]) pd.1,hw,hc,rfl,by lia,fun vl H1 s1 th1=>?_⟩
  refine ⟨_,rfl,_,rfl,_,rfl,_,rfl,_,rfl,_,rfl,_,rfl,pc,_,_,_,rfl,rfl,ai.of (s1 _ _ hc),a3,_,_,rfl,rfl,by lia,_,rfl,r.size,by lia,w,pc,r,congrArg (fun z=>[V.int (w:Int),V.int (r.size:Int),V.int z,V.ref pc]) pd.2,hw,s1 _ _ hc,rfl,by lia,fun vr H2 s2 th2=>?_⟩
  have s12:=s1.trans s2
  exact ⟨_,rfl,w,vl,vr,l,r,rfl,hw,⟨_,th1.same s2⟩,⟨_,th2⟩,by lia,fun v H' s th=>q v H' (s12.trans s) (th.since s12)⟩
theorem CO (aL:Al P w K mg base ca 9) (F:b7 K ca 9 "__init__" "Family.__init__" qX):D P w K mg base ca 9:=by
 refine cm F (fun _ _ _ _ _ _=>gn fun _ _ _=>rfl) (F.ok AL (fun vs H Q E h=>?_) (fun cZ AZ oZ sZ H vs Q E hr h=>?_))
 ·obtain ⟨fw,hf,x,dx,w,l,rfl,hx,q⟩:=h
  rfl
 obtain ⟨fw,hf,x,dx,w,l,rfl,hx,q⟩:=h
 refine ⟨_,ah (uD (pv 0) (pv 1) rfl)
  (ag (uD (pv 0) (pv 2) rfl)),?_⟩
 refine ⟨_,rfl,_,rfl,x,(ca.C fw),dx,_,rfl,hx,(CA.c4 fw hf),(CA.na4_word fw hf),(by show 0 < 1000; decide),?_⟩
 refine ⟨_,rfl,_,rfl,x,(ca.C fw),dx,_,rfl,upd_same,(CA.c4 fw hf),(CA.na4_least fw hf),(by show 1 < 1000; decide),?_⟩
 exact q _ _ l3 (yk w l)
theorem CQ (aL:Al P w K mg base ca 10) (F:b7 K ca 10 "__init__" "SplitFamily.__init__" wt):D P w K mg base ca 10:=by
 refine cm F (fun _ _ _ _ _ _=>dI fun _ _=>rfl) (F.ok DO (fun vs H Q E h=>?_) (fun cZ AZ oZ sZ H vs Q E hr h=>?_))
 ·obtain ⟨fw,hf,x,dx,w,rfl,hx,q⟩:=h
  rfl
 obtain ⟨fw,hf,x,dx,w,rfl,hx,q⟩:=h
 refine ⟨_,ag (aW (oB CA.nv CA.cm_Family___init___W (aL.g 9) hr (aa (pv 0) (aa (pv 1) (aa af ab))))),?_⟩
 exact ⟨_,rfl,_,rfl,fw,hf,x,dx,w,0,rfl,hx,fun fs H' e f=>q fs H' e f⟩
theorem Bn (aL:Al P w K mg base ca 11) (F:b7 K ca 11 "__init__" "Bows.__init__" qT):D P w K mg base ca 11:=by
 refine cm F (fun _ _ _ _ _ _=>eC fun _=>rfl) (F.ok yZ (fun vs H Q E h=>?_) (fun cZ AZ oZ sZ H vs Q E hr h=>?_))
 ·obtain ⟨x,dx,rfl,hx,q⟩:=h
  rfl
 obtain ⟨x,dx,rfl,hx,q⟩:=h
 refine ⟨_,ag (aW (oB CA.dB CA.cm_SplitFamily___init___W (aL.g 10) hr (aa (pv 0) (aa fL ab)))),?_⟩
 exact ⟨_,rfl,0,by decide,x,dx,_,rfl,hx,fun fs H' e f=>q fs H' e f⟩
theorem zB (aL:Al P w K mg base ca 12) (F:b7 K ca 12 "__init__" "Rooms.__init__" sG):D P w K mg base ca 12:=by
 refine cm F (fun _ _ _ _ _ _=>eC fun _=>rfl) (F.ok Be (fun vs H Q E h=>?_) (fun cZ AZ oZ sZ H vs Q E hr h=>?_))
 ·obtain ⟨x,dx,rfl,hx,q⟩:=h
  rfl
 obtain ⟨x,dx,rfl,hx,q⟩:=h
 refine ⟨_,ag (aW (oB CA.dB CA.cm_SplitFamily___init___W (aL.g 10) hr (aa (pv 0) (aa fL ab)))),?_⟩
 exact ⟨_,rfl,1,by decide,x,dx,_,rfl,hx,fun fs H' e f=>q fs H' e f⟩
theorem Ap (aL:Al P w K mg base ca 13) (F:b7 K ca 13 "__init__" "Floors.__init__" sJ):D P w K mg base ca 13:=by
 refine cm F (fun _ _ _ _ _ _=>eC fun _=>rfl) (F.ok zK (fun vs H Q E h=>?_) (fun cZ AZ oZ sZ H vs Q E hr h=>?_))
 ·obtain ⟨x,dx,rfl,hx,q⟩:=h
  rfl
 obtain ⟨x,dx,rfl,hx,q⟩:=h
 refine ⟨_,ag (aW (oB CA.dB CA.cm_SplitFamily___init___W (aL.g 10) hr (aa (pv 0) (aa fL ab)))),?_⟩
 exact ⟨_,rfl,2,by decide,x,dx,_,rfl,hx,fun fs H' e f=>q fs H' e f⟩
theorem Bc (aL:Al P w K mg base ca 14) (F:b7 K ca 14 "__init__" "Turns.__init__" qM):D P w K mg base ca 14:=by
 refine cm F (fun _ _ _ _ _ _=>eC fun _=>rfl) (F.ok zp (fun vs H Q E h=>?_) (fun cZ AZ oZ sZ H vs Q E hr h=>?_))
 ·obtain ⟨x,dx,rfl,hx,q⟩:=h
  rfl
 obtain ⟨x,dx,rfl,hx,q⟩:=h
 refine ⟨_,ag (aW (oB CA.dB CA.cm_SplitFamily___init___W (aL.g 10) hr (aa (pv 0) (aa fL ab)))),?_⟩
 exact ⟨_,rfl,3,by decide,x,dx,_,rfl,hx,fun fs H' e f=>q fs H' e f⟩
theorem By (aL:Al P w K mg base ca 15) (F:Fg K mg ca 15 "_law_kin" sO):D P w K mg base ca 15:=by
 refine dJ F (fun _ _ _ _ _ _=>eC fun _=>rfl) (F.F.ok y9 (fun vs H Q E h=>?_) (fun cZ AZ oZ sZ H vs Q E hr h=>?_))
 ·obtain ⟨w,rfl,hw,q⟩:=h
  rfl
 obtain ⟨w,rfl,hw,q⟩:=h
 refine ⟨_,ah (aJ (aw cG (pv 0) af (aA _)) (ag (aq (lF CA.mk_Bows CA.zV (aL.g 11) hr))) aD)
  (ah (aJ (aw cG (pv 0) af (aA _)) (ag (aq (lF CA.mk_Rooms CA.yn (aL.g 12) hr))) aD)
  (ah (aJ (aw cG (pv 0) af (aA _)) (ag (aq (lF CA.mk_Floors CA.xk (aL.g 13) hr))) aD)
  (ag (aq (lF CA.mk_Turns CA.yF (aL.g 14) hr))))),?_⟩
 refine ⟨_,rfl,rfl,_,rfl,?_⟩
 have mk:∀ (x dx:FD) (fs:List (Str × V)) (H1:Hp),H x=none->H dx=none->H1=upd (upd (upd H dx (.own x)) x (.ins (ca.C w) dx [])) x (.ins (ca.C w) dx fs)->dh fs (oz w) 0->Q (.ref x) H1:=fun x dx fs H1 nx ndx ex fx=>q x dx fs H1 (by rw [ex]; exact ((ae.new (ae.refl H) ndx _).upd nx _).upd nx _) (by rw [ex]; exact upd_same) fx
 rcases (by lia:w=0\/w=1\/w=2\/w=3) with rfl | rfl | rfl | rfl
 ·exact bG rfl fun x dx nx ndx _=>⟨x,dx,rfl,upd_same,fun fs H1 ex fx=>⟨rfl,mk x dx fs H1 nx ndx ex fx⟩⟩
 ·exact aZ (by decide) ⟨_,rfl,rfl,_,rfl,bG rfl fun x dx nx ndx _=>⟨x,dx,rfl,upd_same,fun fs H1 ex fx=>⟨rfl,mk x dx fs H1 nx ndx ex fx⟩⟩⟩
 ·exact aZ (by decide) ⟨_,rfl,rfl,_,rfl,aZ (by decide) ⟨_,rfl,rfl,_,rfl,bG rfl fun x dx nx ndx _=>⟨x,dx,rfl,upd_same,fun fs H1 ex fx=>⟨rfl,mk x dx fs H1 nx ndx ex fx⟩⟩⟩⟩
 ·exact aZ (by decide) ⟨_,rfl,rfl,_,rfl,aZ (by decide) ⟨_,rfl,rfl,_,rfl,aZ (by decide) fun x dx nx ndx _=>⟨x,dx,rfl,upd_same,fun fs H1 ex fx=>⟨rfl,mk x dx fs H1 nx ndx ex fx⟩⟩⟩⟩
theorem Co (aL:Al P w K mg base ca 16) (F:Fg K mg ca 16 "_law_whole" tp):D P w K mg base ca 16:=by
 refine dJ F (fun _ _ _ _ _ _=>eC fun _=>rfl) (F.F.ok A1 (fun vs H Q E h=>?_) (fun cZ AZ oZ sZ H vs Q E hr h=>?_))
 ·obtain ⟨n,rfl,q⟩:=h
  rfl
 obtain ⟨n,rfl,q⟩:=h
 refine ⟨_,ag (aq (fO (aC bu rfl CA.bb aU (aa (pv 0) (aa (cI (v:=.ty "int") rfl CA.r8 pE rfl) ab))) (hV (lh (aC bu rfl CA.bb aU (aa (pv 0) (aa (cI (v:=.ty "bool") rfl CA.vG qx rfl) ab))))))),?_⟩
 exact ⟨_,rfl,_,_,_,_,_,rfl,cn,.int _,gL,_,rfl,bw ⟨_,rfl,_,_,_,_,_,rfl,cn,.int _,i4,_,rfl,q⟩⟩
theorem Cr (aL:Al P w K mg base ca 17) (F:Fg K mg ca 17 "_law_copy" rQ):D P w K mg base ca 17:=by
 refine dJ F (fun _ _ _ _ _ _=>eC fun _=>rfl) (F.F.ok AK (fun vs H Q E h=>?_) (fun cZ AZ oZ sZ H vs Q E hr h=>?_))
 ·obtain ⟨w,v,t,rfl,hw,th,h40,q⟩:=h
  rfl
 obtain ⟨w,v,t,rfl,hw,th,h40,q⟩:=h
 refine ⟨_,ah (aJ (bQ (aC bu rfl CA.bb aU (aa (pv 0) (aa (cI (v:=.ty "tuple") rfl CA.me ki rfl) ab)))) (ag (aq (aY (aa (aG bM (pv 0) af (fun _ _=>rfl)) (aa (gH e7 rfl CA.eE dC (aa (aG bM (pv 0) af (fun _ _=>rfl)) ab)) ab))))) aD)
  (ah (aJ (PW.pt (iU (aw gF (aC bA rfl CA.eJ du (aa (pv 0) ab)) af (aA _)) (hW (bQ (aC bu rfl CA.bb aU (aa (aG aN (pv 0) af (fun _ _=>rfl)) (aa (cI (v:=.ty "list") rfl CA.eE dC rfl) ab))))))) (ag (aq (bS rfl (aO (pv 0)) rfl rfl rfl rfl (N:=["_law_room"]) (.own .nil) (fun _ _ _ _ _ _=>(az (i:=0) (by show GP (["_law_room"]:List Str); decide +kernel) rfl (Gd rfl))) (fun _ _ _ _ _ _=>bZ) (fun _ _ _ _ _ _=>(gH (mZ (K:=K) rfl) rfl CA.eE dC (aa (pv 0) ab)))))) aD)
  (ag (aq (gH e7 rfl CA.eE dC (aa (pv 0) ab))))),?_⟩
 obtain ⟨Ha,th⟩:=th
 rcases (by lia:w=2\/w≠2) with rfl | h2
 ·obtain ⟨u,l,cs,rfl,_,ht,hl,pm,ri⟩:=th
  obtain ⟨xs,el,pr⟩:=hl
  have at0:∀ (c:Int) (a:FD),bW [V.int c,.ref a] 0=some (.int c):=fun _ _=>rfl
  have at1:∀ (c:Int) (a:FD),bW [V.int c,.ref a] 1=some (.ref a):=fun _ _=>rfl
  refine ⟨_,rfl,_,_,_,_,_,rfl,cn,.tup ht,fh,_,rfl,bw ⟨_,rfl,u,_,_,_,rfl,rfl,bg.of ht,at0 _ _,_,rfl,u,_,_,_,rfl,rfl,bg.of ht,at1 _ _,l,_,rfl,.inl (ai.of el),fun l' hl'=>⟨(by show 2<=sizeLine; decide),fun t' ht'=>?_⟩⟩⟩
  have s1:=ae.new (ae.refl H) hl' (.lst xs)
  have s2:=ae.new (ae.refl _) ht' (.tup [.int ((t.size:Int)+2),.ref l'])
  exact q _ _ (s1.trans s2) ⟨t',l',cs,rfl,hl',upd_same,⟨xs,s2 _ _ upd_same,pr.same (s1.trans s2)⟩,pm,ri⟩
 have key:∃ (l:FD) (xs:List V),v = .ref l/\H l=some (.lst xs)/\(((∀ x,xs[0]? = some x->∃ k,eL K H x k/\Ij K k (.type "list")=some false)/\∀ l',H l'=none->Kn w H (upd H l' (.lst xs)) (.ref l') t)\/(w=1/\aR Ha H l (cu t)/\cu t≠[])):=by
  rcases (by lia:w=0\/w=1\/w=3) with rfl | rfl | rfl
  ·obtain ⟨l,rfl,_,xs,el,pr⟩:=th
   refine ⟨l,xs,rfl,el,.inl ⟨fun x hx=>?_,fun l' hl'=>⟨l',rfl,hl',xs,upd_same,pr.same (ae.new (ae.refl H) hl' _)⟩⟩⟩
   obtain ⟨_,tt,_,rfl,htt⟩:=pr.get hx
   exact ⟨_,.tup htt,fF⟩
  ·obtain ⟨l,rfl,_,hl⟩:=th
   obtain ⟨xs,el,lx⟩:=hl.len
   by_cases e:cu t=[]
   ·rw [e] at lx
    have:xs=[]:=Lj.mp lx
    subst this
    refine ⟨l,[],rfl,el,.inl ⟨fun x hx=>(by cases hx),fun l' hl'=>⟨l',rfl,hl',?_⟩⟩⟩
    rw [e]
    exact aR.nil upd_same
   ·exact ⟨l,xs,rfl,el,.inr ⟨rfl,hl,e⟩⟩
  ·obtain ⟨l,rfl,_,hl⟩:=th
   refine ⟨l,_,rfl,hl,.inl ⟨fun x hx=>?_,fun l' hl'=>⟨l',rfl,hl',upd_same⟩⟩⟩
   obtain ⟨c,rfl⟩:=cX hx
   exact ⟨_,.int c,rfl⟩
 clear th
 obtain ⟨l,xs,rfl,el,hh⟩:=key
 refine ⟨_,rfl,_,_,_,_,_,rfl,cn,.lst el,gZ,_,rfl,bB ⟨_,rfl,l,xs,rfl,.inl (ai.of el),_,_,rfl,rfl,_,rfl,?_⟩⟩
 rcases hh with ⟨hd,kn⟩ | ⟨rfl,hl,ne⟩
 ·cases xs with
  | nil=>exact aZ (by decide) (bB ⟨_,rfl,l,_,rfl,.inl (ai.of el),fun l' hl'=>q _ _ (ae.new (ae.refl H) hl' _) (kn l' hl')⟩)
  | cons x ys =>
   obtain ⟨k,ty,kk⟩:=hd x rfl
   have ax:bW (x::ys) 0=some x:=fH (show (x::ys)[0]? = some x from rfl)
   exact bG (by rw [FZ]; lia) ⟨_,rfl,l,_,_,_,rfl,rfl,ai.of el,ax,_,_,_,_,_,rfl,cn,ty,kk,_,rfl,bB ⟨_,rfl,l,_,rfl,.inl (ai.of el),fun l' hl'=>q _ _ (ae.new (ae.refl H) hl' _) (kn l' hl')⟩⟩
 ·have ln:=(cS t).lens
  obtain ⟨xs',el',lxs⟩:=hl.len
  rw [el] at el'
  cases el'
  have q:∀ (p:FD) (H':Hp),ae H H'->H p=none->aR H H' p (cu t)->Q (.ref p) H':=fun p H' s f h=>q _ _ s ⟨p,rfl,f,h⟩
  have hz:(cu t).length<=40:=by lia
  generalize cu t=ls at hl ne lxs hz q
  have pos:0 < xs.length:=by rw [lxs]; exact Iu.mpr ne
  obtain ⟨b0,_,e0,_,hb0,_⟩:=hl.at el (Da pos)
  have a0:bW xs 0=some (.ref b0):=by rw [<- e0]; exact fH (Da pos)
  refine bG (by lia) ⟨_,rfl,l,_,_,_,rfl,rfl,ai.of el,a0,_,_,_,_,_,rfl,cn,.lst hb0,eI,_,rfl,bw ?_⟩
  refine ⟨_,rfl,l,rfl,⟨_,ai.of el⟩,fun D hD=>bR (xs:=xs) (fun k ys H'=>ae H H'/\H' D=some (.lst ys)/\aR H H' D (ls.take k)/\k<=ls.length) (sz (by lia)) ⟨ae.new (ae.refl H) hD _,upd_same,aR.nil upd_same,FI _⟩ (fun k ys H' hk h=>⟨ai.of (h.1 _ _ el),?_⟩) (fun k v ys H' R R0 hx h r r0=>?_) (fun ys H' h=>?_)⟩
  ·obtain ⟨us,eu,lu⟩:=h.2.2.1.len
   rw [h.2.1] at eu
   cases eu
   rw [lu,FU]
   lia
  ·obtain ⟨sk,hy,lk,hk⟩:=h
   obtain ⟨b,ns,rfl,hn,hb,_⟩:=hl.at el hx
   have hlt:k < ls.length:=(Fs.mp hn).1
   refine ⟨Ext.set rfl,fV (bw ⟨_,rfl,b,_,rfl,.inl (ai.of (sk _ _ hb)),fun c hc=>?_⟩)⟩
   have k9:=ae.new (ae.refl H') hc (.lst (ns.map V.int))
   refine r _ _ (k9 _ _ hy) ⟨(sk.trans k9).upd hD _,upd_same,?_,hlt⟩
   rw [FT,hn]
   exact lk.push hy k9 hc upd_same (sk.free hc)
  ·obtain ⟨sk,hy,lk,hk⟩:=h
   rw [FB (by lia)] at lk
   exact q D H' sk hD lk
theorem Bx (aL:Al P w K mg base ca 18) (F:Fg K mg ca 18 "_law_alike" tR):D P w K mg base ca 18:=by
 refine zq 0 5 (by decide) F (fun _ _ _ _ _ _=>dI fun _ _=>rfl) fun n eD=>bL.up (F.F.ok u0 (fun vs H Q E h=>?_) (fun cZ AZ oZ sZ H vs Q E hr h=>?_))
 ·obtain ⟨x,y,t,rfl,rx,ry,hd,q⟩:=h
  rfl
 obtain ⟨x,y,t,rfl,rx,ry,hd,q⟩:=h
 refine ⟨_,ah (aJ (bQ (aC bu rfl CA.bb aU (aa (pv 1) (aa (cI (v:=.ty "int") rfl CA.r8 pE rfl) ab)))) (ag (aq (fO (aC bu rfl CA.bb aU (aa (pv 0) (aa (cI (v:=.ty "int") rfl CA.r8 pE rfl) ab))) (fO (lh (aC bu rfl CA.bb aU (aa (pv 0) (aa (cI (v:=.ty "bool") rfl CA.vG qx rfl) ab)))) (hV (fI cG (pv 0) (pv 1) (aA _))))))) aD)
  (ah (aJ (bQ (aC bu rfl CA.bb aU (aa (pv 1) (aa (cI (v:=.ty "list") rfl CA.eE dC rfl) ab)))) (ag (aJ (cV (bQ (aC bu rfl CA.bb aU (aa (pv 0) (aa (cI (v:=.ty "list") rfl CA.eE dC rfl) ab))))) (ag (aq cj)) aD)) (ag (aJ (cV (bQ (aC bu rfl CA.bb aU (aa (pv 0) (aa (cI (v:=.ty "tuple") rfl CA.me ki rfl) ab))))) (ag (aq cj)) aD)))
  (ah (aJ (aw kN (aC bA rfl CA.eJ du (aa (pv 0) ab)) (aC bA rfl CA.eJ du (aa (pv 1) ab)) (aA _)) (ag (aq cj)) aD)
  (ah (bV Gr rfl (de rfl CA.eB (aa (aC bA rfl CA.eJ du (aa (pv 1) ab)) ab)) (az (i:=2) u0.nd rfl (Gd rfl)) (ag (aJ (cV (bQ (aF eD hr (aa (aG u7 (pv 0) (pv 2) (fun _ _=>rfl)) (aa (aG u7 (pv 1) (pv 2) (fun _ _=>rfl)) ab)) (hjk:=by lia)))) (ag (aq cj)) aD)))
  (ag (aq cj))))),?_⟩
 rcases t with i | ts | ts
 ·unfold Rep at rx ry
  subst rx ry
  exact ⟨_,rfl,_,_,_,_,_,rfl,cn,.int _,gL,_,rfl,bw ⟨_,rfl,_,_,_,_,_,rfl,cn,.int _,gL,_,rfl,bw ⟨_,rfl,_,_,_,_,_,rfl,cn,.int _,i4,_,rfl,_,rfl,bw ⟨_,rfl,_,rfl,rfl,by rw [decide_eq_true rfl]; exact q⟩⟩⟩⟩
 all_goals
  unfold Rep at rx ry
  unfold dep at hd
  obtain ⟨p,xs,rfl,hp,lts,rx⟩:=rx
  obtain ⟨r,ys,rfl,hr',_,ry⟩:=ry
  have sx:ai K H p xs\/bg K H p xs:=by first | exact .inl (ai.of hp) | exact .inr (bg.of hp)
  have sy:ai K H r ys\/bg K H r ys:=by first | exact .inl (ai.of hr') | exact .inr (bg.of hr')
  have l1:=rx.length
  have l2:=ry.length
  have e0:V.int (xs.length:Int)=V.int (ys.length:Int):=congrArg V.int (by lia)
  first
   | refine ⟨_,rfl,_,_,_,_,_,rfl,cn,.lst hr',oJ,_,rfl,bB ⟨_,rfl,_,_,_,_,_,rfl,cn,.lst hr',eI,_,rfl,bw ⟨_,rfl,_,_,_,_,_,rfl,cn,.lst hp,eI,_,rfl,bB ?_⟩⟩⟩
   | refine ⟨_,rfl,_,_,_,_,_,rfl,cn,.tup hr',m6,_,rfl,bB ⟨_,rfl,_,_,_,_,_,rfl,cn,.tup hr',fF,_,rfl,bB ⟨_,rfl,_,_,_,_,_,rfl,cn,.tup hp,fh,_,rfl,bB ?_⟩⟩⟩
  refine ⟨_,rfl,p,xs,rfl,sx,_,rfl,r,ys,rfl,sy,rfl,_,rfl,jr e0 ?_⟩
  refine ⟨_,rfl,r,ys,rfl,sy,_,rfl,by lia,by lia,eV (lo:=0) (n:=((ys.length:Nat):Int).toNat) (fun i σ H'=>H=H'/\∃ o,σ=[some (.ref p),some (.ref r),o]) ⟨rfl,_,rfl⟩ ?_ ?_⟩
  ·rintro i σ H' hi ⟨rfl,o,rfl⟩
   have hi':i < ys.length:=by lia
   obtain ⟨t1,et1,r1⟩:=rx.get (Da (show i < xs.length by lia))
   obtain ⟨t2,et2,r2⟩:=ry.get (Da hi')
   rw [et1] at et2
   cases et2
   have dt:=ko et1
   have ax:bW xs ((0:Int)+(i:Int))=some xs[i]:=by rw [JN]; exact fH (Da (show i < xs.length by lia))
   have ay:bW ys ((0:Int)+(i:Int))=some ys[i]:=by rw [JN]; exact fH (Da hi')
   have ix:∀ (a:FD) (zs:List V) (z:V) (Q':VK),(ai K H a zs\/bg K H a zs)->bW zs ((0:Int)+(i:Int))=some z->Q' z H->DX K (.ref a) (.int ((0:Int)+(i:Int))) H Q':=fun a zs z Q' h e q=>by
    rcases h with h | h
    ·exact .inl ⟨a,_,_,_,rfl,rfl,h,e,q⟩
    ·exact .inr (.inl ⟨a,_,_,_,rfl,rfl,h,e,q⟩)
   exact ⟨_,rfl,_,rfl,ix p xs _ _ sx ax ⟨_,rfl,_,rfl,ix r ys _ _ sy ay ⟨dep t1,by lia,_,_,t1,rfl,r1,r2,Fy _,_,rfl,bB ⟨rfl,_,rfl⟩⟩⟩⟩
  ·rintro σ H' ⟨rfl,o,rfl⟩
   exact q
theorem Ba (aL:Al P w K mg base ca 19) (F:Fg K mg ca 19 "each_once" sY):D P w K mg base ca 19:=by
 refine dJ F (fun _ _ _ _ _ _=>eC fun _=>rfl) (F.F.ok zP (fun vs H Q E h=>?_) (fun cZ AZ oZ sZ H vs Q E hr h=>?_))
 ·obtain ⟨l,ns,rfl,hl,h64,q⟩:=h
  rfl
 obtain ⟨l,ns,rfl,hl,h64,q⟩:=h
 refine ⟨_,ag (aq (fI (se (E5 hr)) (aC oY rfl CA.dO c9 (aa (pv 0) ab)) (Bi rfl rfl CA.eE rfl CA.eB (aa (aC bA rfl CA.eJ du (aa (pv 0) ab)) ab)) (aA _))),?_⟩
 have lm:(ns.map V.int).length=ns.length:=Do _
 refine ⟨_,rfl,l,ns,rfl,ai.of hl,h64,fun ps ms hps hp hs=>?_⟩
 have s1:=ae.new (ae.refl H) hps (.lst (ms.map V.int))
 have hm1:upd H ps (.lst (ms.map V.int)) ps=some (.lst (ms.map V.int)):=upd_same
 generalize upd H ps (.lst (ms.map V.int))=H1 at s1 hm1 |-
 refine ⟨_,rfl,l,_,rfl,.inl (ai.of (s1 _ _ hl)),_,rfl,by lia,by lia,by lia,fun pr hpr=>?_⟩
 have s2:=ae.new (ae.refl H1) hpr (.lst (fE 0 (((ns.map V.int).length:Nat):Int).toNat))
 refine ⟨ps,pr,_,_,rfl,rfl,ai.of (s2 _ _ hm1),ai.of upd_same,mG ms,?_,?_⟩
 ·rw [mU]; exact mG _
 have e:jF (ms.map V.int) (fE 0 (((ns.map V.int).length:Nat):Int).toNat)=ck ns:=by
  rw [mU,ot,nZ hp hs,show (((ns.map V.int).length:Nat):Int).toNat=ns.length by lia]
 have last:∀ b:Bool,b=ck ns->Q (.bl b) (upd H1 pr (.lst (fE 0 (((ns.map V.int).length:Nat):Int).toNat))):=fun b z=>by rw [z]; exact q _ (s1.trans s2)
 exact last _ e
theorem BQ (aL:Al P w K mg base ca 20) (F:Fg K mg ca 20 "flat" tD):D P w K mg base ca 20:=by
 refine dJ F (fun _ _ _ _ _ _=>eC fun _=>rfl) (F.F.ok nJ (fun vs H Q E h=>?_) (fun cZ AZ oZ sZ H vs Q E hr h=>?_))
 ·obtain ⟨l,rfl,hor⟩:=h
  rfl
 obtain ⟨l,rfl,hor⟩:=h
 refine ⟨_,ah (av (i:=1) nJ.nd rfl (Gd rfl) (bj ab))
  (ah (bV Gr rfl (aO (pv 0)) (az (i:=2) nJ.nd rfl (Gd rfl)) (ag (aW (cz FR K6 K7 yq (pv 1) (aa (pv 2) ab)))))
  (ag (aq (pv 1)))),?_⟩
 rcases hor with ⟨ps,hl,hz,q⟩ | ⟨bs,xss,hl,rw_,hz,q⟩
 ·obtain ⟨xs,el,lxs,pr⟩:=hl.len
  refine ⟨FI _,fun pf hpf=>?_⟩
  have s1:=ae.new (ae.refl H) hpf (.lst [])
  refine ⟨_,rfl,l,rfl,⟨_,ai.of (s1 _ _ el)⟩,bY (xs:=xs) (fun i σ H'=>∃ (o1:Option V),σ=[some (.ref l),some (.ref pf),o1]/\ae H H'/\H' pf=some (.lst ((bE (ps.take i)).map V.int))) ⟨_,rfl,s1,upd_same⟩ (fun i σ H' _ h=>ai.of (h.choose_spec.2.1 _ _ el)) ?_ ?_⟩
  ·rintro i v σ H2 hv ⟨o1,rfl,sm,hf⟩
   obtain ⟨pp,tt,hpp,rfl,htt⟩:=pr.get hv
   have hz2:((bE (ps.take i)).map V.int).length<=2000:=by
    rw [Do,gC,FU]
    lia
   refine ⟨_,rfl,.inl ⟨rfl,_,ai.of hf⟩,_,rfl,.inr ⟨pf,tt,_,_,rfl,rfl,hf,bg.of (sm _ _ htt),(by show _+2<=_; exact sz (by lia)),?_⟩⟩
   refine ⟨_,rfl,sm.upd hpf _,?_⟩
   rw [upd_same,FT,hpp,jc,Fu]
   rfl
  ·rintro σ H2 ⟨o1,rfl,sm,hf⟩
   rw [FB (by lia)] at hf
   exact ⟨_,rfl,q pf H2 sm hpf hf⟩
 ·have lb:=rw_.len
  refine ⟨FI _,fun pf hpf=>?_⟩
  have s1:=ae.new (ae.refl H) hpf (.lst [])
  refine ⟨_,rfl,l,rfl,⟨_,ai.of (s1 _ _ hl)⟩,bY (xs:=bs.map V.ref) (fun i σ H'=>∃ (o1:Option V),σ=[some (.ref l),some (.ref pf),o1]/\ae H H'/\H' pf=some (.lst (xss.take i).flatten)) ⟨_,rfl,s1,upd_same⟩ (fun i σ H' _ h=>ai.of (h.choose_spec.2.1 _ _ hl)) ?_ ?_⟩
  ·rintro i v σ H2 hv ⟨o1,rfl,sm,hf⟩
   obtain ⟨b,xs,rfl,hx,hb⟩:=rw_.get hv
   have et:(xss.take (i+1)).flatten=(xss.take i).flatten++xs:=by
    rw [FT,hx,Iv]
    simp
   have hz2:(xss.take i).flatten.length+xs.length<=1000:=by
    have h1:(xss.take (i+1)).flatten.length<=xss.flatten.length:=by
     conv=>rhs; rw [<- HY (i+1) xss,Iv,Fw]
     lia
    rw [et,Fw] at h1
    lia
   have nb:b≠pf:=ar hb hpf
   refine ⟨_,rfl,.inl ⟨rfl,_,ai.of hf⟩,_,rfl,.inl ⟨pf,b,_,_,rfl,rfl,hf,sm _ _ hb,sz (by lia),?_⟩⟩
   exact ⟨_,rfl,sm.upd hpf _,by rw [upd_same,et]⟩
  ·rintro σ H2 ⟨o1,rfl,sm,hf⟩
   rw [FB (by rw [Do]; lia)] at hf
   exact ⟨_,rfl,q pf H2 sm hpf hf⟩
theorem Ao (aL:Al P w K mg base ca 21) (F:Fg K mg ca 21 "any_cross" sQ):D P w K mg base ca 21:=by
 refine dJ F (fun _ _ _ _ _ _=>eC fun _=>rfl) (F.F.ok i7 (fun vs H Q E h=>?_) (fun cZ AZ oZ sZ H vs Q E hr h=>?_))
 ·obtain ⟨l,ps,rfl,hl,q⟩:=h
  rfl
 obtain ⟨l,ps,rfl,hl,q⟩:=h
 refine ⟨_,ah (bV Gr rfl (aO (pv 0)) (ik rfl (a9 (az (i:=1) i7.nd rfl (Gd rfl)) (a9 (az (i:=2) i7.nd rfl (Gd rfl)) cY))) (ag (bV Gr rfl (aO (pv 0)) (ik rfl (a9 (az (i:=3) i7.nd rfl (Gd rfl)) (a9 (az (i:=4) i7.nd rfl (Gd rfl)) cY))) (ag (aJ (yU dH dH dH (pv 1) (pv 3) (pv 2) (pv 4)) (ag (aq cj)) aD)))))
  (ag (aq cj)),?_⟩
 obtain ⟨xs,el,lxs,pr⟩:=hl.len
 refine ⟨_,rfl,l,rfl,⟨_,ai.of el⟩,bY (xs:=xs) (fun i σ H'=>∃ (o1 o2 o3 o4:Option V),σ=[some (.ref l),o1,o2,o3,o4]/\H=H'/\∀ p∈ps.take i,ps.any (gS p)=false) ⟨_,_,_,_,rfl,rfl,by simp⟩ (fun i σ H' _ h=>by obtain ⟨_,_,_,_,_,rfl,_⟩:=h; exact ai.of el) ?_ ?_⟩
 ·rintro i v σ H2 hv ⟨o1,o2,o3,o4,rfl,rfl,al⟩
  obtain ⟨pp,tt,hpp,rfl,htt⟩:=pr.get hv
  refine ⟨tt,_,rfl,bg.of htt,rfl,_,_,rfl,_,_,rfl,rfl,?_⟩
  refine ⟨_,rfl,l,rfl,⟨_,ai.of el⟩,bY (xs:=xs) (fun j σ H'=>∃ (o3 o4:Option V),σ=[some (.ref l),some (.int pp.1),some (.int pp.2),o3,o4]/\H=H'/\∀ r∈ps.take j,gS pp r=false) ⟨_,_,rfl,rfl,by simp⟩ (fun i σ H' _ h=>by obtain ⟨_,_,_,rfl,_⟩:=h; exact ai.of el) ?_ ?_⟩
  ·rintro j v σ H3 hv ⟨o3,o4,rfl,rfl,al2⟩
   obtain ⟨rr,t2,hrr,rfl,ht2⟩:=pr.get hv
   refine ⟨t2,_,rfl,bg.of ht2,rfl,_,_,rfl,_,_,rfl,rfl,?_⟩
   have next:gS pp rr=false->∀ r∈ps.take (j+1),gS pp r=false:=fun hc r hr=>by
    rw [FT,hrr] at hr
    rcases FF.mp hr with z | z
    ·exact al2 r z
    ·have:r=rr:=by simpa using z
     rw [this]; exact hc
   refine ⟨_,rfl,_,rfl,_,_,rfl,rfl,_,rfl,?_⟩
   by_cases c1:pp.1 < rr.1
   ·refine bG c1 ⟨_,rfl,_,_,rfl,rfl,_,rfl,?_⟩
    by_cases c2:rr.1 < pp.2
    ·refine bG c2 ⟨_,rfl,_,_,rfl,rfl,_,rfl,?_⟩
     by_cases c3:pp.2 < rr.2
     ·refine bG c3 ?_
      have:cx ps=true:=iB.mpr ⟨pp,FG hpp,rr,FG hrr,c1,c2,c3⟩
      rw [this] at q
      exact q
     ·exact aZ c3 ⟨_,_,rfl,rfl,next (by unfold gS; simp [c3])⟩
    ·exact aZ c2 ⟨_,rfl,bB ⟨_,_,rfl,rfl,next (by unfold gS; simp [c2])⟩⟩
   ·exact aZ c1 ⟨_,rfl,bB ⟨_,_,rfl,rfl,next (by unfold gS; simp [c1])⟩⟩
  ·rintro σ H3 ⟨o3,o4,rfl,rfl,al2⟩
   rw [FB (by lia)] at al2
   refine ⟨_,_,_,_,rfl,rfl,fun p hp=>?_⟩
   rw [FT,hpp] at hp
   rcases FF.mp hp with z | z
   ·exact al p z
   ·have:p=pp:=by simpa using z
    rw [this,JY]
    intro r hr
    rw [al2 r hr]
    decide
 ·rintro σ H2 ⟨o1,o2,o3,o4,rfl,rfl,al⟩
  rw [FB (by lia)] at al
  have:cx ps=false:=by
   unfold cx
   rw [JY]
   intro p hp
   rw [al p hp]
   decide
  rw [this] at q
  exact q
theorem y6 (aL:Al P w K mg base ca 22) (F:b7 K ca 22 "is_one" "Bows.is_one" rE):D P w K mg base ca 22:=by
 refine cm F (fun _ _ _ _ _ _=>dI fun _ _=>rfl) (F.ok Cy (fun vs H Q E h=>?_) (fun cZ AZ oZ sZ H vs Q E hr h=>?_))
 ·obtain ⟨x,v,bt,rfl,th,h40,q⟩:=h
  rfl
 obtain ⟨x,v,bt,rfl,th,h40,q⟩:=h
 refine ⟨_,ah (aJ (PW.pt (fZ (cV (bQ (aF (aL.g 19) hr (aa (aF (aL.g 20) hr (aa (pv 1) ab)) ab)))) (ff (aw (i8 (eH hr)) (pv 1) (aC gx rfl CA.dO c9 (aa (pv 1) ab)) (aA _))))) (ag (aq cj)) aD)
  (ag (aq (fO (aC (oO rfl) rfl CA.xJ vk (aa (bS rfl (aO (pv 1)) rfl rfl rfl rfl (N:=["a","b"]) (.own (.own .nil)) (fun _ _ _ _ _ _=>(gk (K:=K) (n:=2) rfl rfl (a9 (az (i:=0) (by show GP (["a","b"]:List Str); decide +kernel) rfl (Gd rfl)) (a9 (az (i:=1) (by show GP (["a","b"]:List Str); decide +kernel) rfl (Gd rfl)) cY)))) (fun _ _ _ _ _ _=>bZ) (fun _ _ _ _ _ _=>(fI dH (pv 0) (pv 1) (aA _)))) ab)) (hV (lh (aF (aL.g 21) hr (aa (pv 1) ab))))))),?_⟩
 obtain ⟨_,l,rfl,_,hl⟩:=th
 have hz:(cK bt).length<=60:=by rw [cB]; lia
 rw [<- (jb bt).bows] at q
 generalize cK bt=ps at hl hz q
 refine ⟨_,rfl,l,rfl,.inl ⟨ps,hl,by lia,fun pf H1 s1 f1 h1=>⟨pf,_,rfl,h1,by rw [gC]; lia,fun H2 s2=>⟨_,rfl,?_⟩⟩⟩⟩
 have s12:=s1.trans s2
 have fg:=hl.same s12
 cases hE:ck (bE ps) with
 | false =>
  rw [uc hE] at q
  exact bw (bw (q _ s12))
 | true =>
  refine bB ⟨_,rfl,_,rfl,l,ps,rfl,fg,by lia,fun pq qs H3 s3 f3 h3 hp hs=>?_⟩
  have s13:=s12.trans s3
  have fQ:=hl.same s13
  have ne:l≠pq:=by
   obtain ⟨_,e,_⟩:=fg
   exact ar e f3
  refine ⟨2,_,by decide,ba.prs ne fQ h3,⟨l,pq,rfl,rfl,ne⟩,_,rfl,?_⟩
  by_cases e:ps=qs
  ·rw [pV hp hs hE e] at q
   obtain ⟨xs,el,lxs,pr⟩:=fQ.len
   rw [decide_eq_true e]
   refine bB ⟨_,rfl,l,rfl,⟨_,ai.of el⟩,fun D hD=>bR (xs:=xs) (fun i ys H'=>ae H3 H'/\H' D=some (.lst ys)/\ys=((ps.take i).map fun p=>decide (p.1 < p.2)).map V.bl/\i<=ps.length) (sz (by lia)) ⟨ae.new (ae.refl H3) hD _,upd_same,rfl,FI _⟩ (fun i ys H' hi h=>⟨ai.of (h.1 _ _ el),?_⟩) (fun i x ys H' R R0 hx h r r0=>?_) (fun ys H' h=>?_)⟩
   ·rw [h.2.2.1]
    simp
    lia
   ·obtain ⟨sm,hy,ey,hi⟩:=h
    obtain ⟨pp,tt,hpp,rfl,htt⟩:=pr.get hx
    have hlt:i < ps.length:=(Fs.mp hpp).1
    refine ⟨tt,_,rfl,bg.of (sm _ _ htt),rfl,_,_,rfl,_,_,rfl,rfl,(Ext.set rfl).trans (Ext.set rfl),fV (bw ⟨_,rfl,_,rfl,_,_,rfl,rfl,?_⟩)⟩
    refine r _ _ hy ⟨sm.upd hD _,upd_same,?_,hlt⟩
    rw [FT,hpp,Fu,Fu,<- ey]
    rfl
   ·obtain ⟨sm,hy,ey,hi⟩:=h
    rw [FB (by lia)] at ey
    have ha:(((ps.map fun p=>decide (p.1 < p.2)).map V.bl).length)=ps.length:=by simp
    rw [ey] at hy
    refine ⟨D,_,rfl,ai.of hy,_,rfl,?_⟩
    have e2:((ps.map fun p=>decide (p.1 < p.2)).all id)=ps.all fun p=>decide (p.1 < p.2):=by rw [LC]; rfl
    rw [e2]
    cases hA:ps.all fun p=>decide (p.1 < p.2) with
    | false =>
     rw [hA,HP] at q
     exact bB (q _ (s13.trans sm))
    | true =>
     rw [hA,Hs] at q
     exact bw ⟨_,rfl,l,ps,rfl,fQ.same sm,_,rfl,q _ (s13.trans sm)⟩
  ·rw [rj hp hs hE e] at q
   rw [decide_eq_false e]
   exact bw (q _ s13)
theorem Bf (aL:Al P w K mg base ca 23) (F:Fg K mg ca 23 "neighbours" tP):D P w K mg base ca 23:=by
 refine dJ F (fun _ _ _ _ _ _=>eC fun _=>rfl) (F.F.ok CB (fun vs H Q E h=>?_) (fun cZ AZ oZ sZ H vs Q E hr h=>?_))
 ·obtain ⟨l,H0,rs,rfl,hl,hz,hz2,q⟩:=h
  rfl
 obtain ⟨l,H0,rs,rfl,hl,hz,hz2,q⟩:=h
 refine ⟨_,ag (aq (aF (aL.g 20) hr (aa (bS rfl (aO (pv 0)) rfl rfl rfl rfl (N:=["room"]) (.own .nil) (fun _ _ _ _ _ _=>(az (i:=0) (by show GP (["room"]:List Str); decide +kernel) rfl (Gd rfl))) (fun _ _ _ _ _ _=>bZ) (fun _ _ _ _ _ _=>(yw (K:=K) rfl rfl rfl CA.eE rfl CA.Dn (aa (pv 0) (aa (di (xa (K:=K) rfl) (pv 0) (dD af) eO) ab))))) ab))),?_⟩
 obtain ⟨xs,el,lxs⟩:=hl.len
 refine ⟨_,rfl,l,rfl,⟨_,ai.of el⟩,fun D hD=>bR (xs:=xs) (fun k ys H'=>∃ (bs:List FD) (xss:List (List V)),ae H H'/\H' D=some (.lst ys)/\ys=bs.map V.ref/\cT H' bs xss/\(∀ b∈bs,b≠D)/\bC H' xss.flatten (eX (rs.take k))/\k<=rs.length/\bs.length=k) (sz (by lia)) ⟨[],[],ae.new (ae.refl H) hD _,upd_same,rfl,.nil,fun b hb=>absurd hb (by simp),.nil,FI _,rfl⟩ (fun k ys H' hk h=>?_) (fun k v ys H' R R0 hx h r r0=>?_) (fun ys H' h=>?_)⟩
 ·obtain ⟨bs,xss,sm,_,rfl,_,_,_,_,lb⟩:=h
  exact ⟨ai.of (sm _ _ el),by rw [Do]; lia⟩
 ·obtain ⟨bs,xss,sm,hy,rfl,rws,nD,pr,hk,lb⟩:=h
  obtain ⟨b,ns,rfl,hn,hb,_⟩:=hl.at el hx
  have hlt:k < rs.length:=(Fs.mp hn).1
  have hb2:=sm _ _ hb
  have ln:ns.length<=rs.flatten.length:=len_one rs ns (FG hn)
  refine ⟨Ext.set rfl,fV (bw ⟨_,rfl,_,rfl,_,rfl,b,_,rfl,ai.of hb2,fun ps hps=>?_⟩)⟩
  have s3:=ae.new (ae.refl H') hps (.lst (cW (ns.map V.int) (some 1) none))
  have e1:cW (ns.map V.int) (some 1) none=(ns.drop 1).map V.int:=by rw [n5,uP]
  refine ⟨b,ps,ns,ns.drop 1,rfl,ai.of (s3 _ _ hb2),ai.of (by rw [upd_same,e1]),by lia,fun pz H3 s4 f4 h4=>?_⟩
  have s5:=s3.trans s4
  obtain ⟨zs,ez,lz,pz4⟩:=h4.len
  have hy5:=s5 _ _ hy
  have nz:pz≠D:=fun z=>by
   rw [z] at f4
   rw [s3 _ _ hy] at f4
   cases f4
  refine r _ _ hy5 ⟨bs++[pz],xss++[zs],(sm.trans s5).upd hD _,upd_same,by rw [Fu]; rfl,?_,?_,?_,hlt,by rw [Fw]; show bs.length+1=k+1; lia⟩
  ·have up:∀ {c:FD} {ws:List V},c≠D->H3 c=some (.lst ws)->upd H3 D (.lst (bs.map V.ref++[.ref pz])) c=some (.lst ws):=fun n e=>(upd_ne n).trans e
   have go:∀ {bs:List FD} {xss:List (List V)},cT H' bs xss->(∀ b∈bs,b≠D)->cT (upd H3 D (.lst (bs.map V.ref++[.ref pz]))) bs xss->True:=fun _ _ _=>trivial
   have rws5:=rws.same s5
   have g:∀ {cs:List FD} {wss:List (List V)},cT H3 cs wss->(∀ c∈cs,c≠D)->cT (upd H3 D (.lst (bs.map V.ref++[.ref pz]))) (cs++[pz]) (wss++[zs]):=by
    intro cs wss h hc
    induction h with
    | nil=>exact .cons (up nz ez) .nil
    | cons x _ ih=>exact .cons (up (hc _ (by simp)) x) (ih fun c hc'=>hc c (by simp [hc']))
   exact g rws5 nD
  ·intro c hc
   rcases FF.mp hc with z | z
   ·exact nD c z
   ·rw [show c=pz by simpa using z]; exact nz
  ·have e2:eX (rs.take (k+1))=eX (rs.take k)++ns.zip (ns.drop 1):=by
    unfold eX
    rw [FT,hn,Fu,Iv]
    simp
   rw [e2,Iv]
   have p1:=(pr.same s5).app pz4
   rw [show ([zs]:List (List V)).flatten=zs by simp]
   exact p1.updL hy5 _
 ·obtain ⟨bs,xss,sm,hy,rfl,rws,nD,pr,hk,lb⟩:=h
  rw [FB (by lia)] at pr
  have lf:(eX rs).length<=rs.flatten.length:=by
   unfold eX
   rw [List.length_flatten,List.length_flatten,GC]
   have go:∀ rs:List (List Int),(rs.map (List.length ∘ fun r=>r.zip (r.drop 1))).sum<=(rs.map List.length).sum:=fun rs=>by
    induction rs with
    | nil=>exact Fy _
    | cons r rs ih =>
     rw [FQ,FQ,Jt,Jt]
     have:(r.zip (r.drop 1)).length<=r.length:=by rw [List.length_zip]; exact Nat.min_le_left _ _
     show (r.zip (r.drop 1)).length+_<=_
     lia
   exact go rs
  refine ⟨D,rfl,.inr ⟨bs,xss,hy,rws,by rw [pr.length]; lia,fun pf H3 s3 f3 h3=>q pf H3 (sm.trans s3) (sm.free f3) ⟨_,h3,pr.same s3⟩⟩⟩
theorem AV (aL:Al P w K mg base ca 24) (F:b7 K ca 24 "is_one" "Rooms.is_one" rK):D P w K mg base ca 24:=by
 refine cm F (fun _ _ _ _ _ _=>dI fun _ _=>rfl) (F.ok zu (fun vs H Q E h=>?_) (fun cZ AZ oZ sZ H vs Q E hr h=>?_))
 ·obtain ⟨x,v,bt,rfl,th,h40,q⟩:=h
  rfl
 obtain ⟨x,v,bt,rfl,th,h40,q⟩:=h
 refine ⟨_,ah (aJ (PW.pt (fZ (aw (B6 (eH hr)) (bj ab) (pv 1) (by rfl)) (ff (cV (bQ (aF (aL.g 19) hr (aa (aF (aL.g 20) hr (aa (pv 1) ab)) ab))))))) (ag (aq cj)) aD)
  (ag (aq (fO (fI (uA (eH hr)) (pv 1) (aC (jj (eH hr)) rfl CA.dO c9 (aa (bS rfl (aO (pv 1)) rfl rfl rfl rfl (N:=["room"]) (.own .nil) (fun _ _ _ _ _ _=>(az (i:=0) (by show GP (["room"]:List Str); decide +kernel) rfl (Gd rfl))) (fun _ _ _ _ _ _=>bZ) (fun _ _ _ _ _ _=>(aC (ox (K:=K) rfl) rfl CA.dO c9 (aa (pv 0) ab)))) ab)) (aA _)) (hV (lh (aF (aL.g 21) hr (aa (aF (aL.g 23) hr (aa (pv 1) ab)) ab))))))),?_⟩
 obtain ⟨H0,l,rfl,_,hl⟩:=th
 have rm:=cS bt
 have ln:=rm.lens
 have lf:=rm.flat.length_eq
 rw [pj,lJ] at lf
 have hz:(cu bt).length<=60:=by lia
 have hz2:(cu bt).flatten.length < 128:=by lia
 have hz1:∀ r∈cu bt,r.length < 64:=fun r hr=>by have:=ln.2 r hr; lia
 rw [<- tW bt] at q
 clear rm ln lf
 generalize cu bt=rs at hl hz hz2 hz1 q
 refine ⟨FI _,fun pe hpe=>?_⟩
 have s1:=ae.new (ae.refl H) hpe (.lst [])
 have eP:=hl.same s1
 have he1:upd H pe (.lst []) pe=some (.lst []):=upd_same
 generalize upd H pe (.lst [])=H1 at s1 eP he1 |-
 refine ⟨_,rfl,pe,l,H0,rs,rfl,rfl,he1,eP,_,rfl,?_⟩
 cases hv:rs.any fun r=>decide (r=[]) with
 | true =>
  obtain ⟨r,hr,e⟩:=ID.mp hv
  rw [wY ⟨r,hr,of_decide_eq_true e⟩] at q
  exact bw (bw (q _ s1))
 | false =>
  have hne:∀ r∈rs,r≠[]:=fun r hr e=>by
   have:=JY.mp hv r hr
   exact this (decide_eq_true e)
  obtain ⟨bs,el,rws⟩:=eP.rws
  refine bB ⟨_,rfl,l,rfl,.inr ⟨bs,_,el,rws,by rw [nI,Do]; lia,fun pf H2 s2 f2 h2=>?_⟩⟩
  rw [nI] at h2
  refine ⟨pf,rs.flatten,rfl,h2,hz2,fun H3 s3=>⟨_,rfl,?_⟩⟩
  have s13:=s1.trans (s2.trans s3)
  have fQ:=hl.same s13
  cases hE:ck rs.flatten with
  | false =>
   rw [vR hE] at q
   exact bw (q _ s13)
  | true =>
   rw [oI hne hE] at q
   obtain ⟨xs,ex,lxs⟩:=fQ.len
   refine bB ⟨_,rfl,_,rfl,l,rfl,⟨_,ai.of ex⟩,fun D hD=>bR (xs:=xs) (fun k ys H'=>∃ ts:List (List Int),ae H3 H'/\H' D=some (.lst ys)/\aR H3 H' D ts/\Jw (fun (r t:List Int)=>t.Perm r/\t.Pairwise (·<=·)) (rs.take k) ts/\k<=rs.length) (sz (by lia)) ⟨[],ae.new (ae.refl H3) hD _,upd_same,aR.nil upd_same,.nil,FI _⟩ (fun k ys H' hk h=>?_) (fun k v ys H' R R0 hx h r r0=>?_) (fun ys H' h=>?_)⟩
   ·obtain ⟨ts,sm,hy,lt,pt,hk'⟩:=h
    obtain ⟨us,eu,lu⟩:=lt.len
    rw [hy] at eu
    cases eu
    refine ⟨ai.of (sm _ _ ex),?_⟩
    rw [lu,<- Js pt,FU]
    lia
   ·obtain ⟨ts,sm,hy,lt,pt,hk'⟩:=h
    obtain ⟨b,ns,rfl,hn,hb,_⟩:=fQ.at ex hx
    have hlt:k < rs.length:=(Fs.mp hn).1
    refine ⟨Ext.set rfl,fV (bw ⟨_,rfl,b,ns,rfl,ai.of (sm _ _ hb),hz1 ns (FG hn),fun c ms hc hp hs=>?_⟩)⟩
    have k9:=ae.new (ae.refl H') hc (.lst (ms.map V.int))
    refine r _ _ (k9 _ _ hy) ⟨ts++[ms],(sm.trans k9).upd hD _,upd_same,lt.push hy k9 hc upd_same (sm.free hc),?_,hlt⟩
    rw [FT,hn]
    exact kH pt (.cons ⟨hp,hs⟩ .nil)
   ·obtain ⟨ts,sm,hy,lt,pt,hk'⟩:=h
    rw [FB (by lia)] at pt
    have ltl:=Js pt
    refine ⟨D,_,ts,rfl,lt,by lia,fun pq ss H5 s5 f5 l5 hp hs _=>?_⟩
    have s15:=s13.trans (sm.trans s5)
    have xH:=hl.same s15
    have ne:l≠pq:=by
     obtain ⟨_,e,_⟩:=fQ.same sm
     exact ar e f5
    refine ⟨2,_,by decide,ba.rooms xH l5 ne,⟨l,pq,rfl,rfl,ne⟩,_,rfl,?_⟩
    rw [wx pt hp hs hne hE]
    cases hR:pA rs with
    | false =>
     rw [hR,HP] at q
     exact bB (q _ s15)
    | true =>
     rw [hR,Hs] at q
     exact bw ⟨_,rfl,l,H0,rs,rfl,xH,by lia,by lia,fun pn H6 s6 f6 h6=>⟨pn,eX rs,rfl,h6,_,rfl,q _ (s15.trans s6)⟩⟩
theorem Cj (aL:Al P w K mg base ca 25) (F:Fg K mg ca 25 "may_be_cut" rS):D P w K mg base ca 25:=by
 refine dJ F (fun _ _ _ _ _ _=>gn fun _ _ _=>rfl) (F.F.ok Cm (fun vs H Q E h=>?_) (fun cZ AZ oZ sZ H vs Q E hr h=>?_))
 ·obtain ⟨c,a,b,rfl,q⟩:=h
  rfl
 obtain ⟨c,a,b,rfl,q⟩:=h
 refine ⟨_,ag (aq (fO (vL sR dH af (pv 1) (aj aM (pv 2) af)) (fO (fI dH (pv 2) (pv 0) (aA _)) (hV (fI (i8 (eH hr)) (aY (aa (pv 1) (aa (pv 2) ab))) (aY (aa af (aa (aj aM (pv 0) af) ab))) (aA _)))))),?_⟩
 unfold gT at q
 dsimp only at q
 refine ⟨_,rfl,_,_,rfl,rfl,_,rfl,?_⟩
 by_cases c1:0<=a
 ·rw [decide_eq_true c1,Hs] at q
  refine bG c1 ⟨_,rfl,_,_,rfl,rfl,_,_,rfl,rfl,_,rfl,?_⟩
  by_cases c2:a < b - 1
  ·rw [decide_eq_true c2,Hs] at q
   refine bG c2 ⟨_,rfl,_,rfl,_,_,rfl,rfl,_,rfl,?_⟩
   by_cases c3:b < c
   ·rw [decide_eq_true c3,Hs] at q
    refine bG c3 ⟨_,rfl,_,rfl,(by show 2<=sizeLine; decide),fun t1 ht1=>⟨_,rfl,_,_,rfl,rfl,(by show 2<=sizeLine; decide),fun t2 ht2=>?_⟩⟩
    have n12:t1≠t2:=ar upd_same ht2
    have h1:=(upd_ne (o:=.tup [.int 0,.int (c - 1)]) n12).trans (upd_same (H:=H) (a:=t1) (o:=.tup [.int a,.int b]))
    have s2:=ae.new (ae.new (ae.refl H) ht1 (.tup [.int a,.int b])) ht2 (.tup [.int 0,.int (c - 1)])
    exact ⟨1,_,by decide,ba.two n12 h1 upd_same,⟨t1,t2,rfl,rfl,n12⟩,q _ s2⟩
   ·rw [decide_eq_false c3] at q
    exact aZ c3 (q H (ae.refl H))
  ·rw [decide_eq_false c2,HP] at q
   exact aZ c2 (q H (ae.refl H))
 ·rw [decide_eq_false c1,HP] at q
  exact aZ c1 ⟨_,rfl,bB (q H (ae.refl H))⟩
theorem BE (aL:Al P w K mg base ca 26) (F:b7 K ca 26 "is_one" "Floors.is_one" sv):D P w K mg base ca 26:=by
 refine cm F (fun _ _ _ _ _ _=>dI fun _ _=>rfl) (F.ok oC (fun vs H Q E h=>?_) (fun cZ AZ oZ sZ H vs Q E hr h=>?_))
 ·obtain ⟨x,v,bt,rfl,th,h40,q⟩:=h
  rfl
 obtain ⟨x,v,bt,rfl,th,h40,q⟩:=h
 refine ⟨_,ah (av (i:=2) oC.nd rfl (LS rfl) (aG bM (pv 1) af (fun _ _=>rfl)))
  (ah (av (i:=3) oC.nd rfl (Gd rfl) (aG bM (pv 1) af (fun _ _=>rfl)))
  (ah (aJ (PW.pt (fZ (aw dH (pv 2) af (aA _)) (ff (aw kN (aC bA rfl CA.eJ du (aa (pv 3) ab)) (aC (mI rfl) rfl CA.rO oW (aa af (aa (aj aM (pv 2) af) ab))) (aA _))))) (ag (aq cj)) aD)
  (ah (aJ (PW.pt (fZ (aw (i8 (eH hr)) (pv 3) (pM rfl (eH hr) rfl CA.dO rfl CA.DP (aa (pv 3) ab)) (aA _)) (ff (bQ (aF (aL.g 21) hr (aa (pv 3) ab)))))) (ag (aq cj)) aD)
  (ag (aq (aC (oO rfl) rfl CA.xJ vk (aa (bS rfl (aO (pv 3)) rfl rfl rfl rfl (N:=["a","b","corners"]) (.own (.own (.cap (j:=2) rfl rfl rfl .nil))) (fun _ _ _ _ _ _=>(gk (K:=K) (n:=2) rfl rfl (a9 (az (i:=0) (by show GP (["a","b","corners"]:List Str); decide +kernel) rfl (Gd rfl)) (a9 (az (i:=1) (by show GP (["a","b","corners"]:List Str); decide +kernel) rfl (Gd rfl)) cY)))) (fun _ _ _ _ _ _=>bZ) (fun _ _ _ _ _ _=>(aF (aL.g 25) hr (aa (pv 2) (aa (pv 0) (aa (pv 1) ab)))))) ab))))))),?_⟩
 obtain ⟨_,t,l,ps,rfl,_,ht,hl,pm,ri⟩:=th
 have fl:=xI pm ri
 have h60:ps.length<=60:=by have:=(fY pm ri).len; lia
 rw [<- fl.flB] at q
 clear fl pm ri
 generalize (bt.size:Int)+2=c at ht q
 obtain ⟨xs,el,lxs,pr⟩:=hl.len
 have nolen:gP c ps.length=false->Q (.bl false) H:=fun z=>by
  have:=q H (ae.refl H)
  rw [zQ z] at this
  exact this
 refine ⟨_,rfl,t,_,_,_,rfl,rfl,bg.of ht,rfl,_,rfl,t,_,_,_,rfl,rfl,bg.of ht,rfl,?_⟩
 refine ⟨_,rfl,_,_,rfl,rfl,_,rfl,?_⟩
 by_cases c1:c < 2
 ·exact bG c1 (bw (nolen (by unfold gP; rw [decide_eq_false (by lia),HP])))
 refine aZ c1 ⟨_,rfl,l,_,rfl,.inl (ai.of el),_,rfl,_,_,rfl,rfl,_,_,rfl,rfl,_,rfl,?_⟩
 by_cases c2:((xs.length:Nat):Int)=if c - 3 > 0 then c - 3 else 0
 case neg =>
  refine xE (ne_int c2) (nolen ?_)
  unfold gP
  rw [decide_eq_false (show ¬ ((ps.length:Nat):Int)=_ by rw [<- lxs]; exact c2),Jy]
 have lb:gP c ps.length=true:=by
  unfold gP
  rw [FO,decide_eq_true_iff,decide_eq_true_iff]
  exact ⟨by lia,by rw [<- lxs]; exact c2⟩
 refine jr (congrArg V.int c2) ⟨_,rfl,_,rfl,l,ps,rfl,hl,by lia,fun pq qs H1 s1 f1 h1 nd mm rs=>?_⟩
 have eP:=hl.same s1
 have ne:l≠pq:=ar el f1
 refine ⟨2,_,by decide,ba.prs ne eP h1,⟨l,pq,rfl,rfl,ne⟩,_,rfl,?_⟩
 by_cases e:ps=qs
 case neg =>
  rw [yo nd mm rs e] at q
  rw [decide_eq_false e]
  exact bw (bw (q _ s1))
 rw [decide_eq_true e]
 subst e
 rw [nG nd rs lb] at q
 refine bB ⟨_,rfl,l,ps,rfl,eP,_,rfl,?_⟩
 cases hc:cx ps with
 | true =>
  rw [hc,HV,HP] at q
  exact bw (q _ s1)
 | false =>
  rw [hc,KR,Hs] at q
  refine bB ⟨_,rfl,l,rfl,⟨_,ai.of (s1 _ _ el)⟩,fun D hD=>bR (xs:=xs) (fun i ys H'=>ae H1 H'/\H' D=some (.lst ys)/\ys=((ps.take i).map fun p=>gT c p).map V.bl/\i<=ps.length) (sz (by lia)) ⟨ae.new (ae.refl H1) hD _,upd_same,rfl,FI _⟩ (fun i ys H' hi h=>⟨ai.of (h.1 _ _ (s1 _ _ el)),?_⟩) (fun i y ys H' R R0 hx h r r0=>?_) (fun ys H' h=>?_)⟩
  ·rw [h.2.2.1,Do,Do,FU]
   lia
  ·obtain ⟨sm,hy,ey,hi⟩:=h
   obtain ⟨pp,tt,hpp,rfl,htt⟩:=(pr.same s1).get hx
   have hlt:i < ps.length:=(Fs.mp hpp).1
   refine ⟨tt,_,rfl,bg.of (sm _ _ htt),rfl,_,_,rfl,_,_,rfl,rfl,(Ext.set rfl).trans (Ext.set rfl),fV (bw ?_)⟩
   refine ⟨_,rfl,_,rfl,_,rfl,c,pp.1,pp.2,rfl,fun H3 s3=>r _ _ (s3 _ _ hy) ⟨(sm.trans s3).upd hD _,upd_same,?_,hlt⟩⟩
   rw [FT,hpp,Fu,Fu,<- ey]
   rfl
  ·obtain ⟨sm,hy,ey,hi⟩:=h
   rw [FB (by lia)] at ey
   rw [ey] at hy
   refine ⟨D,_,rfl,ai.of hy,?_⟩
   have e2:((ps.map fun p=>gT c p).all id)=ps.all (gT c):=by rw [LC]; rfl
   rw [e2]
   exact q _ (s1.trans sm)
theorem B5 (aL:Al P w K mg base ca 27) (F:Fg K mg ca 27 "comes_off_a_stack" sd):D P w K mg base ca 27:=by
 refine dJ F (fun _ _ _ _ _ _=>eC fun _=>rfl) (F.F.ok jh (fun vs H Q E h=>?_) (fun cZ AZ oZ sZ H vs Q E hr h=>?_))
 ·obtain ⟨l,row,rfl,hl,h64,hB,q⟩:=h
  rfl
 obtain ⟨l,row,rfl,hl,h64,hB,q⟩:=h
 refine ⟨_,ah (av (i:=1) jh.nd rfl (Gd rfl) (bj ab))
  (ah (av (i:=2) jh.nd rfl (Gd rfl) af)
  (ah (bV Gr rfl (aO (pv 0)) (az (i:=3) jh.nd rfl (Gd rfl)) (ah (j9 Gr (aw sR (pv 2) (pv 3) (aA _)) (ah (aW (cz FR Gf Gg bx (pv 1) (aa (pv 2) ab)))
  (ag (oH (i:=2) jh.nd rfl (Gd rfl) af vg))))
  (ag (aJ (aw kN (zJ FR PySem.F.slot_list_pop PySem.F.type_list_pop Aq (pv 1)) (pv 3) (aA _)) (ag (aq cj)) aD))))
  (ag (aq cj)))),?_⟩
 have hperm:=(dc row).mp hB
 have lm:(row.map V.int).length=row.length:=Do _
 refine ⟨FI _,fun ps hps=>?_⟩
 have s1:=ae.new (ae.refl H) hps (.lst [])
 have hs1:upd H ps (.lst []) ps=some (.lst ((stk row 0 0).map V.int)):=upd_same
 generalize upd H ps (.lst [])=H1 at s1 hs1 |-
 refine ⟨_,rfl,l,rfl,⟨_,ai.of (s1 _ _ hl)⟩,bY (xs:=row.map V.int) (fun i σ H'=>∃ (o1:Option V) (p:Nat),σ=[some (.ref l),some (.ref ps),some (.int p),o1]/\ae H H'/\H' ps=some (.lst ((stk row i p).map V.int))/\Off row i p/\p<=100) ⟨_,0,rfl,s1,hs1,Off.start row,by lia⟩ (fun i σ H' _ h=>ai.of (h.choose_spec.choose_spec.2.1 _ _ hl)) ?_ ?_⟩
 ·rintro i v σ H2 hv ⟨o1,p,rfl,sm,hst,off,p100⟩
  obtain ⟨x,rfl⟩:=cX hv
  have hx:row[i]? = some x:=by
   rw [GD] at hv
   cases h:row[i]? with
   | none=>rw [h] at hv; cases hv
   | some d=>rw [h] at hv; injection hv with hv; injection hv with hv; rw [hv]
  have hi:i < row.length:=(Fs.mp hx).1
  have xr:=h8.mp (hperm.mem_iff.mp (FG hx))
  refine ⟨fun m σ H'=>∃ (d:Nat),σ=[some (.ref l),some (.ref ps),some (.int ((p+d:Nat):Int)),some (.int x)]/\ae H H'/\H' ps=some (.lst ((stk row i (p+d)).map V.int))/\m=(x+1 - (p:Int) - (d:Int)).toNat/\(d=0\/((p+d:Nat):Int)<=x+1),⟨_,0,rfl,sm,hst,rfl,.inl rfl⟩,?_⟩
  rintro m σ H3 ⟨d,rfl,sm3,hst3,hm,hd⟩
  have lst:∀ k p:Nat,((stk row k p).map V.int).length<=p:=fun k p=>by
   rw [Do]
   unfold stk
   exact GM (Gz _ _) (by rw [lJ]; exact Fy _)
  refine ⟨_,rfl,_,rfl,_,_,rfl,rfl,_,rfl,?_⟩
  by_cases hle:((p+d:Nat):Int)<=x
  ·refine bG hle ⟨fun σ' H'=>σ'=[some (.ref l),some (.ref ps),some (.int ((p+d:Nat)+1:Int)),some (.int x)]/\ae H H'/\H' ps=some (.lst ((stk row i (p+d+1)).map V.int)),?_,?_⟩
   ·rintro σ' H' ⟨rfl,a1,a2⟩
    exact ⟨(x+1 - (p:Int) - ((d+1:Nat):Int)).toNat,by lia,d+1,by rw [show ((p+d:Nat):Int)+1=((p+(d+1):Nat):Int) by lia],a1,a2,rfl,.inr (by lia)⟩
   ·have hn:((p+d:Nat):Int)∉row.take i:=fun z=>by have:=off.below _ z; lia
    have:=lst i (p+d)
    refine ⟨_,rfl,.inl ⟨rfl,_,ai.of hst3⟩,_,rfl,ps,_,_,rfl,rfl,hst3,fX (by lia),?_⟩
    refine ⟨_,rfl,_,_,rfl,rfl,rfl,sm3.upd hps _,?_⟩
    rw [upd_same,xc hn,Fu]
    rfl
  ·have hp':(((p+d:Nat):Nat):Int)=if (p:Int)<=x then x+1 else (p:Int):=by
    split<;>lia
   obtain ⟨l0,t,el,good,bad⟩:=off.step hperm hx hp'
   have lt:=lst i (p+d)
   rw [el] at hst3 lt
   have hlast:((l0++[t]).map V.int)[((l0++[t]).map V.int).length - 1]? = some (.int t):=by
    rw [Do,Fw,Fu]
    show (l0.map V.int++[V.int t])[l0.length+1 - 1]? = _
    rw [HI,GX (by simp)]
    simp
   have hdl:((l0++[t]).map V.int).dropLast=l0.map V.int:=by rw [Fu]; exact List.dropLast_concat
   refine aZ hle ⟨_,rfl,.inl ⟨rfl,_,ai.of hst3⟩,ps,_,_,rfl,rfl,hst3,hlast,?_⟩
   rw [hdl]
   refine ⟨_,rfl,rfl,_,rfl,?_⟩
   by_cases e:t=x
   ·obtain ⟨g1,g2⟩:=good e
    refine jr (by rw [e]) ⟨_,p+d,rfl,sm3.upd hps _,by rw [upd_same,g1],g2,by lia⟩
   ·refine xE (ne_int e) ?_
    have:=sP hi (bad e)
    rw [this] at q
    exact q _ (sm3.upd hps _)
 ·rintro σ H2 ⟨o1,p,rfl,sm,hst,off,_⟩
  have:j8 row=true:=mF fun k hk=>off.fine k (by rw [lm]; exact hk)
  rw [this] at q
  exact q _ sm
theorem B1 (aL:Al P w K mg base ca 28) (F:b7 K ca 28 "is_one" "Turns.is_one" tF):D P w K mg base ca 28:=by
 refine cm F (fun _ _ _ _ _ _=>dI fun _ _=>rfl) (F.ok A9 (fun vs H Q E h=>?_) (fun cZ AZ oZ sZ H vs Q E hr h=>?_))
 ·obtain ⟨x,v,bt,rfl,th,h40,q⟩:=h
  rfl
 obtain ⟨x,v,bt,rfl,th,h40,q⟩:=h
 refine ⟨_,ag (aq (fO (aF (aL.g 19) hr (aa (pv 1) ab)) (hV (aF (aL.g 27) hr (aa (pv 1) ab))))),?_⟩
 obtain ⟨_,l,rfl,_,hl⟩:=th
 have h64:(bO bt).length < 64:=by rw [cp]; lia
 rw [<- oq bt] at q
 generalize bO bt=ns at hl h64 q
 refine ⟨_,rfl,l,ns,rfl,hl,by lia,fun H1 s1=>⟨_,rfl,?_⟩⟩
 unfold iW at q
 cases hB:ck ns with
 | false =>
  rw [hB,HP] at q
  exact bB (q _ s1)
 | true =>
  rw [hB,Hs] at q
  exact bw ⟨_,rfl,l,ns,rfl,s1 _ _ hl,h64,hB,fun H2 s2=>q _ (s1.trans s2)⟩
theorem C6 (aL:Al P w K mg base ca 30) (F:b7 K ca 30 "refuse_other" "Family.refuse_other" wK):D P w K mg base ca 30:=by
 refine cm F (fun _ _ _ _ _ _=>dI fun _ _=>rfl) (F.ok DF (fun vs H Q E h=>?_) (fun cZ AZ oZ sZ H vs Q E hr h=>?_))
 ·obtain ⟨fw,hf,x,dx,fs,wd,v,t,rfl,hx,fl,th,h40,q⟩:=h
  rfl
 obtain ⟨fw,hf,x,dx,fs,wd,v,t,rfl,hx,fl,th,h40,q⟩:=h
 refine ⟨_,ag (aJ (cV (bQ (cQ (pv 0) CA.c4 CA.mt4_is_one (aL.g 29) hr (aa (pv 1) ab)))) (ag j5) aD),?_⟩
 exact ⟨fw,hf,_,rfl,x,dx,fs,rfl,hx,fl.no "is_one" (by decide) (by decide),_,rfl,x,v,t,rfl,th,h40,fun H1 s1=>⟨_,rfl,bB (q H1 s1)⟩⟩
theorem Cn (aL:Al P w K mg base ca 31) (F:b7 K ca 31 "size_of" "Bows.size_of" sX):D P w K mg base ca 31:=by
 refine cm F (fun _ _ _ _ _ _=>dI fun _ _=>rfl) (F.ok BB (fun vs H Q E h=>?_) (fun cZ AZ oZ sZ H vs Q E hr h=>?_))
 ·obtain ⟨x,v,bt,rfl,th,h40,q⟩:=h
  rfl
 obtain ⟨x,v,bt,rfl,th,h40,q⟩:=h
 refine ⟨_,ag (aq (aC bA rfl CA.eJ du (aa (pv 1) ab))),?_⟩
 obtain ⟨_,l,rfl,_,hl⟩:=th
 obtain ⟨xs,el,lxs,pr⟩:=hl.len
 rw [cB] at lxs
 refine ⟨_,rfl,l,_,rfl,.inl (ai.of el),?_⟩
 rw [lxs]
 exact q _ (ae.refl H)
theorem zL (aL:Al P w K mg base ca 32) (F:b7 K ca 32 "size_of" "Rooms.size_of" rF):D P w K mg base ca 32:=by
 refine cm F (fun _ _ _ _ _ _=>dI fun _ _=>rfl) (F.ok Aa (fun vs H Q E h=>?_) (fun cZ AZ oZ sZ H vs Q E hr h=>?_))
 ·obtain ⟨x,v,bt,rfl,th,h40,q⟩:=h
  rfl
 obtain ⟨x,v,bt,rfl,th,h40,q⟩:=h
 refine ⟨_,ag (aq (aC (kj rfl) rfl CA.sW n8 (aa (bS rfl (aO (pv 1)) rfl rfl rfl rfl (N:=["room"]) (.own .nil) (fun _ _ _ _ _ _=>(az (i:=0) (by show GP (["room"]:List Str); decide +kernel) rfl (Gd rfl))) (fun _ _ _ _ _ _=>bZ) (fun _ _ _ _ _ _=>(aC (m8 (K:=K) rfl) rfl CA.eJ du (aa (pv 0) ab)))) ab))),?_⟩
 obtain ⟨Ha,l,rfl,_,hl⟩:=th
 have rm:=cS bt
 have hi:bt.size<=1000:=by lia
 generalize cu bt=ls at hl rm
 generalize bt.size=i at rm hi q
 obtain ⟨xs,el,lxs⟩:=hl.len
 have ln:=rm.lens
 refine ⟨_,rfl,l,rfl,⟨_,ai.of el⟩,fun D hD=>bR (xs:=xs) (fun k ys H'=>ae H H'/\H' D=some (.lst ys)/\ys=((ls.take k).map fun r=>(r.length:Int)).map V.int/\k<=ls.length) (sz (by lia)) ⟨ae.new (ae.refl H) hD _,upd_same,rfl,FI _⟩ (fun k ys H' hk h=>⟨ai.of (h.1 _ _ el),?_⟩) (fun k v ys H' R R0 hx h r r0=>?_) (fun ys H' h=>?_)⟩
 ·rw [h.2.2.1,Do,Do,FU]; lia
 ·obtain ⟨sm,hy,ey,hk⟩:=h
  obtain ⟨b,ns,rfl,hn,hb,_⟩:=hl.at el hx
  have hlt:k < ls.length:=(Fs.mp hn).1
  refine ⟨Ext.set rfl,fV (bw ⟨_,rfl,b,_,rfl,.inl (ai.of (sm _ _ hb)),r _ _ hy ⟨sm.upd hD _,upd_same,?_,hlt⟩⟩)⟩
  rw [FT,hn,Fu,Fu,<- ey,Do]
  rfl
 ·obtain ⟨sm,hy,ey,hk⟩:=h
  rw [FB (by lia)] at ey
  rw [ey] at hy
  refine ⟨D,_,rfl,ai.of hy,?_⟩
  rw [rm.size]
  exact q _ sm
theorem BL (aL:Al P w K mg base ca 33) (F:b7 K ca 33 "size_of" "Floors.size_of" tG):D P w K mg base ca 33:=by
 refine cm F (fun _ _ _ _ _ _=>dI fun _ _=>rfl) (F.ok BZ (fun vs H Q E h=>?_) (fun cZ AZ oZ sZ H vs Q E hr h=>?_))
 ·obtain ⟨x,v,bt,rfl,th,h40,q⟩:=h
  rfl
 obtain ⟨x,v,bt,rfl,th,h40,q⟩:=h
 refine ⟨_,ag (aq (aj aM (aG bM (pv 1) af (fun _ _=>rfl)) af)),?_⟩
 obtain ⟨_,t0,l,cs,rfl,_,ht,_⟩:=th
 refine ⟨_,rfl,t0,_,_,_,rfl,rfl,bg.of ht,rfl,_,_,rfl,rfl,?_⟩
 try dsimp only
 rw [show (bt.size:Int)+2 - 2=(bt.size:Int) by lia]
 exact q _ (ae.refl H)
theorem Au (aL:Al P w K mg base ca 34) (F:b7 K ca 34 "size_of" "Turns.size_of" tJ):D P w K mg base ca 34:=by
 refine cm F (fun _ _ _ _ _ _=>dI fun _ _=>rfl) (F.ok BX (fun vs H Q E h=>?_) (fun cZ AZ oZ sZ H vs Q E hr h=>?_))
 ·obtain ⟨x,v,bt,rfl,th,h40,q⟩:=h
  rfl
 obtain ⟨x,v,bt,rfl,th,h40,q⟩:=h
 refine ⟨_,ag (aq (aC bA rfl CA.eJ du (aa (pv 1) ab))),?_⟩
 obtain ⟨_,p,rfl,_,hp⟩:=th
 refine ⟨_,rfl,p,_,rfl,.inl (ai.of hp),?_⟩
 rw [Do,cp]
 exact q _ (ae.refl H)
theorem B0 (aL:Al P w K mg base ca 36) (F:Fg K mg ca 36 "pairs_raised_by" qW):D P w K mg base ca 36:=by
 refine dJ F (fun _ _ _ _ _ _=>dI fun _ _=>rfl) (F.F.ok Cd (fun vs H Q E h=>?_) (fun cZ AZ oZ sZ H vs Q E hr h=>?_))
 ·obtain ⟨l,ps,d,rfl,hl,hz,q⟩:=h
  rfl
 obtain ⟨l,ps,d,rfl,hl,hz,q⟩:=h
 refine ⟨_,ag (aq (bS rfl (aO (pv 0)) rfl rfl rfl rfl (N:=["a","b","step"]) (.own (.own (.cap (j:=1) rfl rfl rfl .nil))) (fun _ _ _ _ _ _=>(gk (K:=K) (n:=2) rfl rfl (a9 (az (i:=0) (by show GP (["a","b","step"]:List Str); decide +kernel) rfl (Gd rfl)) (a9 (az (i:=1) (by show GP (["a","b","step"]:List Str); decide +kernel) rfl (Gd rfl)) cY)))) (fun _ _ _ _ _ _=>bZ) (fun _ _ _ _ _ _=>(aY (aa (aj aE (pv 0) (pv 2)) (aa (aj aE (pv 1) (pv 2)) ab)))))),?_⟩
 obtain ⟨xs,el,lxs,pr⟩:=hl.len
 refine ⟨_,rfl,l,rfl,⟨_,ai.of el⟩,fun D hD=>bR (xs:=xs) (fun i ys H'=>ae H H'/\H' D=some (.lst ys)/\bC H' ys ((ps.take i).map (up d))/\i<=ps.length) (sz (by lia)) ⟨ae.new (ae.refl H) hD _,upd_same,.nil,FI _⟩ (fun i ys H' hi h=>⟨ai.of (h.1 _ _ el),?_⟩) (fun i x ys H' R R0 hx h r r0=>?_) (fun ys H' h=>?_)⟩
 ·have:=h.2.2.1.length
  rw [Do,FU] at this
  lia
 ·obtain ⟨sm,hy,py,hi⟩:=h
  obtain ⟨pp,tt,hpp,rfl,htt⟩:=pr.get hx
  have hlt:i < ps.length:=(Fs.mp hpp).1
  refine ⟨tt,_,rfl,bg.of (sm _ _ htt),rfl,_,_,rfl,_,_,rfl,rfl,(Ext.set rfl).trans (Ext.set rfl),fV (bw ?_)⟩
  refine ⟨_,rfl,_,rfl,_,_,rfl,rfl,_,rfl,_,rfl,_,_,rfl,rfl,(by show 2<=sizeLine; decide),fun t1 ht1=>?_⟩
  have n1:D≠t1:=ar hy ht1
  have hy1:=(upd_ne (o:=.tup [.int (pp.1+d),.int (pp.2+d)]) n1).trans hy
  refine r _ _ hy1 ⟨(ae.new sm ht1 _).upd hD _,upd_same,?_,hlt⟩
  have:=((py.updN ht1 (.tup [.int (pp.1+d),.int (pp.2+d)])).snoc (t:=t1) (p:=up d pp) upd_same).updL hy1 (.lst (ys++[.ref t1]))
  rw [FT,hpp,Fu]
  exact this
 ·obtain ⟨sm,hy,py,hi⟩:=h
  rw [FB (by lia)] at py
  exact q D H' sm hD ⟨ys,hy,py⟩
theorem z5 (aL:Al P w K mg base ca 37) (F:b7 K ca 37 "parted" "Bows.parted" rT):D P w K mg base ca 37:=by
 refine cm F (fun _ _ _ _ _ _=>dI fun _ _=>rfl) (F.ok kT (fun vs H Q E h=>?_) (fun cZ AZ oZ sZ H vs Q E hr h=>?_))
 ·obtain ⟨x,v,bl,br,rfl,th,h39,q⟩:=h
  rfl
 obtain ⟨x,v,bl,br,rfl,th,h39,q⟩:=h
 refine ⟨_,ah (av (i:=2) kT.nd rfl (Gd rfl) (aj ft (aG bM (aG aN (pv 1) af (fun _ _=>rfl)) af (fun _ _=>rfl)) af))
  (ah (av (i:=3) kT.nd rfl (Gd rfl) (aF (aL.g 36) hr (aa (di eA (pv 1) (dD af) (dD (aj aE (pv 2) af))) (aa (e8 dN af) ab))))
  (ah (av (i:=4) kT.nd rfl (Gd rfl) (aF (aL.g 36) hr (aa (di eA (pv 1) (dD (aj aE (pv 2) af)) eO) (aa (aj aM (aj b5 (e8 dN af) (pv 2)) af) ab))))
  (ag (aq (aY (aa (pv 3) (aa (pv 4) ab))))))),?_⟩
 obtain ⟨_,d,rfl,_,hd⟩:=th
 have hd:aX H d (cg (cK bl) (cK br)):=hd
 have lps:(cK bl).length<=40:=by rw [cB]; lia
 have lqs:(cK br).length<=40:=by rw [cB]; lia
 have bp:∀ x∈cK bl,x.2 < 2*(cK bl).length:=fun x hx=>((jb bl).inr x hx).2.2
 have bq:∀ x∈cK br,0<=x.2:=fun x hx=>by have:=(jb br).inr x hx; unfold xC at this; lia
 have q:∀ (t l r:FD) (H':Hp),ae H H'->H l=none->H r=none->l≠r->H' t=some (.tup [.ref l,.ref r])->aX H' l (cK bl)->aX H' r (cK br)->Q (.ref t) H':=fun t l r H' s f f' _ h pl pr=>q t _ _ H' s h ⟨l,rfl,f,pl⟩ ⟨r,rfl,f',pr⟩
 generalize cK bl=ps at hd lps bp q
 generalize cK br=qs at hd lqs bq q
 obtain ⟨xs,ed,lxs,pr⟩:=hd.len
 have lj:(cg ps qs).length=ps.length+qs.length+1:=by unfold cg; simp
 obtain ⟨v0,hv0⟩:∃ v,xs[0]? = some v:=⟨_,Da (show 0 < xs.length by lia)⟩
 obtain ⟨p0,t0,hp0,rfl,ht0⟩:=pr.get hv0
 have e0:p0=(0,2*(ps.length:Int)+1):=by unfold cg at hp0; simpa using hp0.symm
 subst e0
 have at0:bW xs 0=some (.ref t0):=fH (j:=0) hv0
 refine ⟨_,rfl,d,_,_,_,rfl,rfl,ai.of ed,at0,t0,_,_,_,rfl,rfl,bg.of ht0,(rfl:bW [V.int 0,V.int (2*(ps.length:Int)+1)] 1=some _),_,_,rfl,rfl,⟨by decide,by decide +kernel⟩,?_⟩
 try dsimp only
 rw [show (2*(ps.length:Int)+1) / 2=(ps.length:Int) by lia]
 have c1:cW xs (some 1) (some ((ps.length:Int)+1))=(xs.drop 1).take ps.length:=by
  have:=vh xs 1 (ps.length+1) (by lia)
  rw [show ((1:Nat):Int)=1 from rfl,show ((ps.length+1:Nat):Int)=(ps.length:Int)+1 by lia,HI] at this
  exact this
 have c2:cW xs (some ((ps.length:Int)+1)) none=xs.drop (ps.length+1):=by
  rw [show ((ps.length:Int)+1)=((ps.length+1:Nat):Int) by lia,gE]
 have j1:((cg ps qs).drop 1).take ps.length=ps.map (up 1):=by
  unfold cg
  rw [JJ,Jz,List.take_left' (by simp)]
 have j2:(cg ps qs).drop (ps.length+1)=qs.map (up (2*(ps.length:Int)+2)):=by
  unfold cg
  rw [JJ,List.drop_left' (by simp)]
 have p1:=(pr.drop 1).take ps.length
 have p2:=pr.drop (ps.length+1)
 rw [j1] at p1
 rw [j2] at p2
 refine ⟨_,rfl,_,rfl,_,rfl,_,_,rfl,rfl,_,rfl,d,_,rfl,ai.of ed,fun c hc=>?_⟩
 rw [c1]
 have s1:=ae.new (ae.refl H) hc (.lst ((xs.drop 1).take ps.length))
 refine ⟨_,rfl,c,ps.map (up 1),-1,rfl,⟨_,upd_same,p1.same s1⟩,by simp; lia,fun l H2 s2 fl hl=>?_⟩
 have s12:=s1.trans s2
 rw [tN] at hl
 refine ⟨_,rfl,_,rfl,_,_,rfl,rfl,_,rfl,d,_,rfl,ai.of (s12 _ _ ed),fun c' hc'=>?_⟩
 rw [c2]
 have s3:=ae.new s12 hc' (.lst (xs.drop (ps.length+1)))
 have k3:=ae.new (ae.refl H2) hc' (.lst (xs.drop (ps.length+1)))
 refine ⟨_,rfl,_,rfl,_,_,rfl,rfl,.inl ⟨by decide,by decide⟩,_,_,rfl,rfl,c',qs.map (up (2*(ps.length:Int)+2)),_,rfl,⟨_,upd_same,p2.same s3⟩,by simp; lia,fun r H4 s4 fr hr2=>?_⟩
 have e2:(qs.map (up (2*(ps.length:Int)+2))).map (up (-2*(ps.length:Int) - 2))=qs:=by
  rw [show -2*(ps.length:Int) - 2 = -(2*(ps.length:Int)+2) by lia,tN]
 rw [e2] at hr2
 have fl':H l=none:=s1.free fl
 have fr':H r=none:=s3.free fr
 have fQ:=hl.same k3
 have nlr:l≠r:=by
  obtain ⟨ys,h,_⟩:=fQ
  exact ar h fr
 refine ⟨_,rfl,_,rfl,(by show 2<=sizeLine; decide),fun t ht=>?_⟩
 have s5:=ae.new (ae.refl _) ht (.tup [.ref l,.ref r])
 exact q t l r _ ((s3.trans s4).trans s5) fl' fr' nlr upd_same (fQ.same (s4.trans s5)) (hr2.same s5)
theorem Az (aL:Al P w K mg base ca 38) (F:Fg K mg ca 38 "raised_by" rk):D P w K mg base ca 38:=by
 refine dJ F (fun _ _ _ _ _ _=>dI fun _ _=>rfl) (F.F.ok Am (fun vs H Q E h=>?_) (fun cZ AZ oZ sZ H vs Q E hr h=>?_))
 ·obtain ⟨l,ns,d,rfl,hl,hz,q⟩:=h
  rfl
 obtain ⟨l,ns,d,rfl,hl,hz,q⟩:=h
 refine ⟨_,ag (aq (bS rfl (aO (pv 0)) rfl rfl rfl rfl (N:=["number","step"]) (.own (.cap (j:=1) rfl rfl rfl .nil)) (fun _ _ _ _ _ _=>(az (i:=0) (by show GP (["number","step"]:List Str); decide +kernel) rfl (Gd rfl))) (fun _ _ _ _ _ _=>bZ) (fun _ _ _ _ _ _=>(aj aE (pv 0) (pv 1))))),?_⟩
 have ml:(ns.map V.int).length=ns.length:=Do _
 refine ⟨_,rfl,l,rfl,⟨_,hl⟩,fun D hD=>eW (fun v=>match v with | .int c=>.int (c+d) | v=>v) (by rw [ml]; exact sz (by lia)) hl hD (fun i x H' R R0 hx hb hR=>?_) ?_⟩
 ·obtain ⟨c,rfl⟩:=cX hx
  exact ⟨Ext.set rfl,fV (bw ⟨_,rfl,_,rfl,_,_,rfl,rfl,hR⟩)⟩
 have e1:(ns.map V.int).map (fun v=>match v with | .int c=>V.int (c+d) | v=>v)=(ns.map (·+d)).map V.int:=by rw [GC,GC]; rfl
 rw [e1]
 exact q D _ (ae.new (ae.refl H) hD _) hD upd_same
theorem AF (aL:Al P w K mg base ca 39) (F:b7 K ca 39 "parted" "Rooms.parted" tw):D P w K mg base ca 39:=by
 refine cm F (fun _ _ _ _ _ _=>dI fun _ _=>rfl) (F.ok kM (fun vs H Q E h=>?_) (fun cZ AZ oZ sZ H vs Q E hr h=>?_))
 ·obtain ⟨x,v,bl,br,rfl,th,h39,q⟩:=h
  rfl
 obtain ⟨x,v,bl,br,rfl,th,h39,q⟩:=h
 refine ⟨_,ah (av (i:=2) kM.nd rfl (LS rfl) (aG aN (aG aN (pv 1) af (fun _ _=>rfl)) (e8 dN af) (fun _ _=>rfl)))
  (ah (gh (i:=3) kM.nd rfl (Gd rfl) rfl rfl (aO (di eA (pv 1) (dD af) eO)) rfl rfl rfl rfl (N:=["room","left_size"]) (.own (.cap (j:=2) rfl rfl rfl .nil)) (fun _ _ _ _ _ _=>(az (i:=0) (by show GP (["room","left_size"]:List Str); decide +kernel) rfl (Gd rfl))) (fun _ _ _ _ _ _=>(g6 (aw dH (aG (fo (K:=K) rfl) (pv 0) af (fun _ _=>rfl)) (pv 1) (aA _)))) (fun _ _ _ _ _ _=>(aF (aL.g 38) hr (aa (pv 0) (aa (e8 dN af) ab)))))
  (ah (gh (i:=4) kM.nd rfl (Gd rfl) rfl rfl (aO (di eA (pv 1) (dD af) eO)) rfl rfl rfl rfl (N:=["room","left_size"]) (.own (.cap (j:=2) rfl rfl rfl .nil)) (fun _ _ _ _ _ _=>(az (i:=0) (by show GP (["room","left_size"]:List Str); decide +kernel) rfl (Gd rfl))) (fun _ _ _ _ _ _=>(g6 (aw gF (aG (fo (K:=K) rfl) (pv 0) af (fun _ _=>rfl)) (pv 1) (aA _)))) (fun _ _ _ _ _ _=>(aF (aL.g 38) hr (aa (pv 0) (aa (aj aM (e8 dN (pv 1)) af) ab)))))
  (eQ (aJ (aw gF (pv 2) af (aA _)) (ag (aW (cz FR Gf Gg bx (pv 3) (aa (aF (aL.g 38) hr (aa (di eA (aG aN (pv 1) af (fun _ _=>rfl)) (dD af) eO) (aa (e8 dN af) ab))) ab)))) aD)
  (ag (aq (aY (aa (aC (jj (eH hr)) rfl CA.dO c9 (aa (pv 3) ab)) (aa (pv 4) ab)))))))),?_⟩
 obtain ⟨Ha,d,rfl,_,hl⟩:=th
 have hl:aR Ha H d (joinR bl.size (cu bl) (cu br)):=hl
 have rm:=cS bl
 have rm2:=cS br
 have q:∀ (t p1 p2:FD) (H':Hp),ae H H'->H p1=none->H p2=none->H' t=some (.tup [.ref p1,.ref p2])->aR H H' p1 (cu bl)->aR H H' p2 (cu br)->Apart H' p1 p2->Q (.ref t) H':=fun t p1 p2 H' s f f' h l1 l2 _=>q t _ _ H' s h ⟨p1,rfl,f,l1⟩ ⟨p2,rfl,f',l2⟩
 have hij:bl.size+br.size<=40:=by lia
 generalize cu bl=ls at hl rm q
 generalize cu br=rs at hl rm2 q
 generalize bl.size=i at hl rm hij
 generalize br.size=j at rm2 hij
 obtain ⟨xs,el,lxs⟩:=hl.len
 have ln:=rm.lens
 have ln2:=rm2.lens
 have lj:=ue rm rm2
 have jne:=pk rm rm2
 have j0:(joinR i ls rs)[0]? = some ((0:Int)::aH 1 (ls.filter (aS i)).flatten):=rfl
 obtain ⟨b0,g0,hb0,_⟩:=hl.get el j0
 have at0:bW xs 0=some (.ref b0):=fH (j:=0) g0
 have atl:bW (((0:Int)::aH 1 (ls.filter (aS i)).flatten).map V.int) (-1)=some (.int (i:Int)):=by
  rw [je (by simp),qU rm]
 have l0:xs.length=(joinR i ls rs).tail.length+1:=by rw [lxs]; unfold joinR; simp
 have tl:∀ (k:Nat),(xs.drop 1)[k]? = xs[k+1]?/\(joinR i ls rs).tail[k]? = (joinR i ls rs)[k+1]?:=fun k=>⟨by rw [Jn,Nat.add_comm],by rw [List.getElem?_tail]⟩
 have cut:cW xs (some 1) none=xs.drop 1:=gE xs 1
 have ld:(xs.drop 1).length=(joinR i ls rs).tail.length:=by rw [Hq]; lia
 refine rW fun vT hT=>?_
 refine ⟨_,rfl,d,_,_,_,rfl,rfl,ai.of el,at0,_,rfl,b0,_,_,_,rfl,rfl,ai.of hb0,atl,?_⟩
 refine ⟨_,rfl,_,rfl,d,_,rfl,ai.of el,fun c1 hc1=>?_⟩
 rw [cut]
 have s1:=ae.new (ae.refl H) hc1 (.lst (xs.drop 1))
 have hc1':upd H c1 (.lst (xs.drop 1)) c1=some (.lst (xs.drop 1)):=upd_same
 generalize upd H c1 (.lst (xs.drop 1))=H1 at s1 hc1' |-
 refine ⟨c1,rfl,⟨_,ai.of hc1'⟩,fun D1 hD1=>bR (xs:=xs.drop 1) (fun k ys H'=>ae H1 H'/\H' D1=some (.lst ys)/\aR H1 H' D1 ((((joinR i ls rs).tail.take k).filter fun r=>decide (hd r < (i:Int))).map (aH (-1)))/\k<=(joinR i ls rs).tail.length) (sz (by lia)) ⟨ae.new (ae.refl H1) hD1 _,upd_same,aR.nil upd_same,FI _⟩ (fun k ys H' hk h=>⟨ai.of (h.1 _ _ hc1'),?_⟩) (fun k v ys H' R R0 hx h r r0=>?_) (fun ys1 H2 h=>?_)⟩
 ·obtain ⟨us,eu,lu⟩:=h.2.2.1.len
  rw [h.2.1] at eu
  cases eu
  rw [lu,Do]
  exact GM (Gz _ _) (by rw [FU]; lia)
 ·obtain ⟨sk,hy,lk,hk⟩:=h
  rw [(tl k).1] at hx
  obtain ⟨b,ns,rfl,hn,hb,_⟩:=hl.at el hx
  have hn':=(tl k).2.trans hn
  have hlt:k < (joinR i ls rs).tail.length:=(Fs.mp hn').1
  have hm:=FG hn
  have qD:=lj.2 ns hm
  have tk:=cE (f:=fun r=>decide (hd r < (i:Int))) hn'
  have hbk:=(s1.trans sk) _ _ hb
  refine ⟨Ext.set rfl,_,rfl,b,_,_,_,rfl,rfl,ai.of hbk,uz (jne ns hm),_,rfl,_,_,rfl,rfl,_,rfl,?_⟩
  by_cases e1:hd ns < (i:Int)
  ·refine bG e1 ⟨_,rfl,_,rfl,b,ns,-1,rfl,ai.of hbk,by lia,fun c H9 s9 fc hc=>r _ _ (s9 _ _ hy) ⟨(sk.trans s9).upd hD1 _,upd_same,?_,hlt⟩⟩
   rw [tk,if_pos (decide_eq_true e1),Fu]
   exact lk.push hy s9 fc hc (sk.free fc)
  ·refine aZ e1 (r0 _ ⟨sk,hy,?_,hlt⟩)
   rw [tk,if_neg (fun z=>e1 (of_decide_eq_true z)),Gj]
   exact lk
 obtain ⟨s2,hD1',lw,_⟩:=h
 rw [FB (by lia),yK rm rm2,qh] at lw
 have s12:=s1.trans s2
 have el2:=s12 _ _ el
 have hb2:=s12 _ _ hb0
 subst hT
 refine ⟨_,rfl,_,rfl,d,_,rfl,ai.of el2,fun c2 hc2=>?_⟩
 rw [cut]
 have k3:=ae.new (ae.refl H2) hc2 (.lst (xs.drop 1))
 have hc2':upd H2 c2 (.lst (xs.drop 1)) c2=some (.lst (xs.drop 1)):=upd_same
 generalize upd H2 c2 (.lst (xs.drop 1))=H3 at k3 hc2' |-
 have s3:=s12.trans k3
 refine ⟨c2,rfl,⟨_,ai.of hc2'⟩,fun D2 hD2=>bR (xs:=xs.drop 1) (fun k ys H'=>ae H3 H'/\H' D2=some (.lst ys)/\aR H3 H' D2 ((((joinR i ls rs).tail.take k).filter fun r=>decide (hd r > (i:Int))).map (aH (-(i:Int) - 1)))/\k<=(joinR i ls rs).tail.length) (sz (by lia)) ⟨ae.new (ae.refl H3) hD2 _,upd_same,aR.nil upd_same,FI _⟩ (fun k ys H' hk h=>⟨ai.of (h.1 _ _ hc2'),?_⟩) (fun k v ys H' R R0 hx h r r0=>?_) (fun ys2 H4 h=>?_)⟩
 ·obtain ⟨us,eu,lu⟩:=h.2.2.1.len
  rw [h.2.1] at eu
  cases eu
  rw [lu,Do]
  exact GM (Gz _ _) (by rw [FU]; lia)
 ·obtain ⟨sk,hy,lk,hk⟩:=h
  rw [(tl k).1] at hx
  obtain ⟨b,ns,rfl,hn,hb,_⟩:=hl.at el hx
  have hn':=(tl k).2.trans hn
  have hlt:k < (joinR i ls rs).tail.length:=(Fs.mp hn').1
  have hm:=FG hn
  have qD:=lj.2 ns hm
  have tk:=cE (f:=fun r=>decide (hd r > (i:Int))) hn'
  have hbk:=(s3.trans sk) _ _ hb
  refine ⟨Ext.set rfl,_,rfl,b,_,_,_,rfl,rfl,ai.of hbk,uz (jne ns hm),_,rfl,_,_,rfl,rfl,_,rfl,?_⟩
  by_cases e1:hd ns > (i:Int)
  ·refine bG e1 ⟨_,rfl,_,rfl,_,rfl,_,_,rfl,rfl,b,ns,_,rfl,ai.of hbk,by lia,fun c H9 s9 fc hc=>r _ _ (s9 _ _ hy) ⟨(sk.trans s9).upd hD2 _,upd_same,?_,hlt⟩⟩
   rw [tk,if_pos (decide_eq_true e1),Fu]
   exact lk.push hy s9 fc hc (sk.free fc)
  ·refine aZ e1 (r0 _ ⟨sk,hy,?_,hlt⟩)
   rw [tk,if_neg (fun z=>e1 (of_decide_eq_true z)),Gj]
   exact lk
 obtain ⟨s4,hD2',lb,_⟩:=h
 rw [FB (by lia),wQ rm rm2,show -(i:Int) - 1 = -((i:Int)+1) by lia,qh] at lb
 have k34:=k3.trans s4
 have s34:=s3.trans s4
 have fD1:H D1=none:=s1.free hD1
 have fD2:H D2=none:=s3.free hD2
 have w4:=s34 _ _ el
 have n12:D1≠D2:=ar (k3 _ _ hD1') hD2
 have lf:=Gz (fun r=>!aS i r) ls
 -- what lies in within,and that it is apart from behind
 refine ⟨fun σ H'=>∃ (ws:List V),σ=[some (.ref x),some (.ref d),some (.int (i:Int)),some (.ref D1),some (.ref D2)]/\ae H H'/\H' D1=some (.lst ws)/\aR H H' D1 ((ls.filter fun r=>!aS i r)++ls.filter (aS i))/\aR H H' D2 rs/\H' D2=some (.lst ys2)/\(∀ c,V.ref c∈ws->c≠D2/\V.ref c∉ys2),?_,?_⟩
 ·have inW:∀ c,V.ref c∈ys1->c≠D2/\V.ref c∉ys2:=fun c hc=>by
   obtain ⟨b,ns,e,_,hb,_⟩:=lw.mem hD1' hc
   cases e
   have hb3:=k3 _ _ hb
   refine ⟨ar hb3 hD2,fun hc2=>?_⟩
   obtain ⟨b,ns,e,_,_,hb,_⟩:=lb.mem hD2' hc2
   cases e
   rw [hb] at hb3
   cases hb3
  refine ⟨_,rfl,_,_,rfl,rfl,_,rfl,?_⟩
  by_cases h0:(i:Int) > 0
  ·obtain ⟨R,eR,hR,_⟩:=oX rm (show 0 < i by lia)
   have lR:=ln.2 R hR
   rw [eR] at hb0
   have hb4:=s34 _ _ hb0
   have e1:[R].flatten=R:=by simp
   rw [e1] at hb4
   have hD14:=k34 _ _ hD1'
   refine bG h0 ⟨_,rfl,.inl ⟨rfl,_,ai.of hD14⟩,_,rfl,d,_,_,_,rfl,rfl,ai.of w4,at0,_,rfl,b0,_,rfl,ai.of hb4,fun c3 hc3=>?_⟩
   have c4:cW (((0:Int)::aH 1 R).map V.int) (some 1) none=(aH 1 R).map V.int:=by
    refine (gE _ 1).trans ?_
    rw [FQ,JJ,Jz]
   rw [c4]
   have k5:=ae.new (ae.refl H4) hc3 (.lst ((aH 1 R).map V.int))
   have hc3':upd H4 c3 (.lst ((aH 1 R).map V.int)) c3=some (.lst ((aH 1 R).map V.int)):=upd_same
   generalize upd H4 c3 (.lst ((aH 1 R).map V.int))=H5 at k5 hc3' |-
   refine ⟨_,rfl,c3,aH 1 R,-1,rfl,ai.of hc3',by rw [fC]; lia,fun b H6 s6 fb hb=>?_⟩
   have hb':H6 b=some (.lst (R.map V.int)):=by
    rw [hb]
    exact congrArg (fun z:List Int=>some (HO.lst (z.map V.int))) (qr 1 R)
   have k46:=k5.trans s6
   have hD16:=k46 _ _ hD14
   have hD26:=k46 _ _ hD2'
   have f4b:H4 b=none:=k5.free fb
   have k26:=k34.trans k46
   obtain ⟨us,eu,lu⟩:=lw.len
   rw [hD1'] at eu
   cases eu
   refine ⟨D1,_,_,rfl,rfl,hD16,fX (by lia),?_⟩
   refine ⟨_,rfl,(s34.trans k46).upd fD1 _,upd_same,?_,?_,(upd_ne (Ih n12)).trans hD26,fun c hc=>?_⟩
   ·rw [eR]
    exact ((lw.since s1).same k34).push hD14 k46 f4b hb' (s34.free f4b)
   ·exact ((lb.same k46).updC (k3 _ _ hD1') (Ih n12)).since s3
   ·rcases FF.mp hc with z | z
    ·exact inW c z
    ·have:c=b:=by simpa using z
     subst this
     refine ⟨fun z=>(by rw [z,hD2'] at f4b; cases f4b),fun z=>?_⟩
     obtain ⟨b',ns,e,_,hbb,_⟩:=lb.mem hD2' z
     cases e
     rw [hbb] at f4b
     cases f4b
  ·have e0:i=0:=by lia
   have eN:ls.filter (aS i)=[]:=by rw [none_of rm e0]; rfl
   refine aZ h0 ⟨ys1,rfl,s34,k34 _ _ hD1',?_,lb.since s3,hD2',inW⟩
   rw [eN,Gj]
   exact (lw.since s1).same k34
 rintro σ H5 ⟨ws,rfl,s5,hw,lw5,lb5,hD25,ap⟩
 have lf2:=eU rm
 refine ⟨_,rfl,D1,H,_,rfl,lw5,by rw [Fw]; lia,fun p1 ss H6 s6 f6 l6 pm6 ri6 mem6=>?_⟩
 have es:=uw rm pm6 ri6
 subst es
 refine ⟨_,rfl,(by show 2<=sizeLine; decide),fun t ht=>?_⟩
 have s7:=ae.new (ae.refl H6) ht (.tup [.ref p1,.ref D2])
 obtain ⟨vs1,ev1,_⟩:=l6.len
 have np:D2≠p1:=fun z=>by rw [z] at hD25; rw [hD25] at f6; cases f6
 refine q t p1 D2 _ ((s5.trans s6).trans s7) (s5.free f6) fD2 upd_same (l6.same s7) ((lb5.same s6).same s7) ?_
 have key:∀ c,(∀ v,V.ref c∈ws->False)->c≠p1->sj (upd H6 t (.tup [.ref p1,.ref D2])) p1 c:=fun c hc n=>⟨n,fun zs hz hm=>by
  rw [s7 _ _ ev1] at hz
  cases hz
  exact hc () (mem6 _ _ hw ev1 _ hm)⟩
 refine ⟨key D2 (fun _ z=>(ap D2 z).1 rfl) np,fun zs c hz hm=>?_⟩
 rw [s7 _ _ (s6 _ _ hD25)] at hz
 cases hz
 refine key c (fun _ z=>(ap c z).2 hm) (fun z=>?_)
 obtain ⟨b,ns,e,_,hbb,_⟩:=lb5.mem hD25 hm
 cases e
 rw [z,f6] at hbb
 cases hbb
theorem BO (aL:Al P w K mg base ca 40) (F:Fg K mg ca 40 "third_corner" qN):D P w K mg base ca 40:=by
 refine dJ F (fun _ _ _ _ _ _=>gn fun _ _ _=>rfl) (F.F.ok A6 (fun vs H Q E h=>?_) (fun cZ AZ oZ sZ H vs Q E hr h=>?_))
 ·obtain ⟨l,cs,la,rfl,hl,hz,q⟩:=h
  rfl
 obtain ⟨l,cs,la,rfl,hl,hz,q⟩:=h
 refine ⟨_,ag (aq (vp (vi rfl) rfl CA.rO oW (aa (bS rfl (aO (pv 0)) rfl rfl rfl rfl (N:=["a","b","begin","end"]) (.own (.own (.cap (j:=1) rfl rfl rfl (.cap (j:=2) rfl rfl rfl .nil)))) (fun _ _ _ _ _ _=>(gk (K:=K) (n:=2) rfl rfl (a9 (az (i:=0) (by show GP (["a","b","begin","end"]:List Str); decide +kernel) rfl (Gd rfl)) (a9 (az (i:=1) (by show GP (["a","b","begin","end"]:List Str); decide +kernel) rfl (Gd rfl)) cY)))) (fun _ _ _ _ _ _=>(g6 (PW.pt (iU (aw cG (pv 0) (pv 2) (aA _)) (hW (aw dH (pv 1) (pv 3) (aA _))))))) (fun _ _ _ _ _ _=>(pv 1))) ab) (ye (aj aE (pv 1) af) A7))),?_⟩
 obtain ⟨xs,el,lxs,pr⟩:=hl.len
 refine ⟨_,rfl,l,rfl,⟨_,ai.of el⟩,fun D hD=>bR (xs:=xs) (fun i ys H'=>ae H H'/\H' D=some (.lst ys)/\ys=(((cs.take i).filter (eF la)).map (·.2)).map V.int/\i<=cs.length) (sz (by lia)) ⟨ae.new (ae.refl H) hD _,upd_same,rfl,FI _⟩ (fun i ys H' hi h=>⟨ai.of (h.1 _ _ el),?_⟩) (fun i x ys H' R R0 hx h r r0=>?_) (fun ys H' h=>?_)⟩
 ·rw [h.2.2.1,Do,Do]
  exact GM (Gz _ _) (by rw [FU]; lia)
 ·obtain ⟨sm,hy,ey,hi⟩:=h
  obtain ⟨pp,tt,hpp,rfl,htt⟩:=pr.get hx
  have hlt:i < cs.length:=(Fs.mp hpp).1
  have tk:(cs.take (i+1)).filter (eF la)=(cs.take i).filter (eF la)++(if eF la pp=true then [pp] else []):=by
   rw [FT,hpp,GV]
   congr 1
   by_cases h:eF la pp=true
   ·rw [if_pos h]; exact Ja h
   ·rw [if_neg h]; exact Jb h
  refine ⟨tt,_,rfl,bg.of (sm _ _ htt),rfl,_,_,rfl,_,_,rfl,rfl,(Ext.set rfl).trans (Ext.set rfl),?_⟩
  refine ⟨_,rfl,_,rfl,rfl,_,rfl,?_⟩
  by_cases e1:pp.1=0
  ·refine bG (congrArg V.int e1) ⟨_,rfl,_,rfl,_,_,rfl,rfl,_,rfl,?_⟩
   by_cases e2:pp.2 < la
   ·have ht:eF la pp=true:=by unfold eF; simp [e1,e2]
    refine bG e2 ⟨_,rfl,r _ _ hy ⟨sm.upd hD _,upd_same,?_,hlt⟩⟩
    rw [tk,if_pos ht,Fu,Fu,<- ey]
    rfl
   ·have ht:¬ eF la pp=true:=by unfold eF; simp [e2]
    refine aZ e2 (r0 _ ⟨sm,hy,?_,hlt⟩)
    rw [tk,if_neg ht,Gj]
    exact ey
  ·have ht:¬ eF la pp=true:=by unfold eF; simp [e1]
   refine aZ (Fl e1) (bB (r0 _ ⟨sm,hy,?_,hlt⟩))
   rw [tk,if_neg ht,Gj]
   exact ey
 ·obtain ⟨sm,hy,ey,hi⟩:=h
  rw [FB (by lia)] at ey
  rw [ey] at hy
  refine ⟨_,rfl,_,_,rfl,rfl,D,_,_,rfl,rfl,ai.of hy,fun e=>?_,fun ne M hM al=>?_⟩
  ·exact q 1 H' sm (fun _=>rfl) (fun z=>absurd e z)
  ·exact q M H' sm (fun z=>absurd z ne) (fun _=>⟨hM,al⟩)
theorem Cf (aL:Al P w K mg base ca 41) (F:b7 K ca 41 "parted" "Floors.parted" rV):D P w K mg base ca 41:=by
 refine cm F (fun _ _ _ _ _ _=>dI fun _ _=>rfl) (F.ok g9 (fun vs H Q E h=>?_) (fun cZ AZ oZ sZ H vs Q E hr h=>?_))
 ·obtain ⟨x,v,bl,br,rfl,th,h39,q⟩:=h
  rfl
 obtain ⟨x,v,bl,br,rfl,th,h39,q⟩:=h
 refine ⟨_,ah (av (i:=2) g9.nd rfl (LS rfl) (aj aM (aG bM (pv 1) af (fun _ _=>rfl)) af))
  (ah (av (i:=3) g9.nd rfl (Gd rfl) (aG bM (pv 1) af (fun _ _=>rfl)))
  (ah (av (i:=4) g9.nd rfl (LS rfl) (aF (aL.g 40) hr (aa (pv 3) (aa af (aa (pv 2) ab)))))
  (ah (gh (i:=5) g9.nd rfl (Gd rfl) rfl rfl (aO (pv 3)) rfl rfl rfl rfl (N:=["a","b","third"]) (.own (.own (.cap (j:=4) rfl rfl rfl .nil))) (fun _ _ _ _ _ _=>(gk (K:=K) (n:=2) rfl rfl (a9 (az (i:=0) (by show GP (["a","b","third"]:List Str); decide +kernel) rfl (Gd rfl)) (a9 (az (i:=1) (by show GP (["a","b","third"]:List Str); decide +kernel) rfl (Gd rfl)) cY)))) (fun _ _ _ _ _ _=>(g6 (PW.pt (iU (aw sR (pv 1) (pv 2) (aA _)) (hW (aw (qi (K:=K) rfl (eH hr)) (aY (aa (pv 0) (aa (pv 1) ab))) (aY (aa af (aa (pv 2) ab))) (aA _))))))) (fun _ _ _ _ _ _=>(aY (aa (pv 0) (aa (pv 1) ab)))))
  (ah (gh (i:=6) g9.nd rfl (Gd rfl) rfl rfl (aO (pv 3)) rfl rfl rfl rfl (N:=["a","b","third","last"]) (.own (.own (.cap (j:=4) rfl rfl rfl (.cap (j:=2) rfl rfl rfl .nil)))) (fun _ _ _ _ _ _=>(gk (K:=K) (n:=2) rfl rfl (a9 (az (i:=0) (by show GP (["a","b","third","last"]:List Str); decide +kernel) rfl (Gd rfl)) (a9 (az (i:=1) (by show GP (["a","b","third","last"]:List Str); decide +kernel) rfl (Gd rfl)) cY)))) (fun _ _ _ _ _ _=>(g6 (PW.pt (iU (aw nk (pv 0) (pv 2) (aA _)) (hW (aw (qi (K:=K) rfl (eH hr)) (aY (aa (pv 0) (aa (pv 1) ab))) (aY (aa (pv 2) (aa (pv 3) ab))) (aA _))))))) (fun _ _ _ _ _ _=>(aY (aa (pv 0) (aa (pv 1) ab)))))
  (ag (aq (aY (aa (aY (aa (aj aE (pv 4) af) (aa (pv 5) ab))) (aa (aY (aa (aj aE (aj aM (pv 2) (pv 4)) af) (aa (aF (aL.g 36) hr (aa (pv 6) (aa (e8 dN (pv 4)) ab))) ab))) ab))))))))),?_⟩
 obtain ⟨_,t,l,cs,rfl,_,ht,hl,pm,ris⟩:=th
 obtain ⟨ps,pmp,rip⟩:=mP (fi bl 0)
 obtain ⟨qs,pmq,riq⟩:=mP (fi br 0)
 have fp:=fY pmp rip
 have fq:=fY pmq riq
 have pm:cs.Perm (cF bl.size br.size ps qs):=pm.trans (lQ bl br pmp pmq).symm
 have ht:H t=some (.tup [.int ((bl.size:Int)+(br.size:Int)+3),.ref l]):=by rw [ht,show (((Bt.node bl br).size:Nat):Int)+2=(bl.size:Int)+(br.size:Int)+3 by show ((bl.size+br.size+1:Nat):Int)+2=_; lia]
 have hij:bl.size+br.size<=40:=by lia
 have q:∀ (t0 t1 t2 p1 p2:FD) (H':Hp),ae H H'->H p1=none->H p2=none->p1≠p2->H' t0=some (.tup [.ref t1,.ref t2])->H' t1=some (.tup [.int ((bl.size:Int)+2),.ref p1])->H' t2=some (.tup [.int ((br.size:Int)+2),.ref p2])->aX H' p1 ps->aX H' p2 qs->Q (.ref t0) H':=fun t0 t1 t2 p1 p2 H' s f f' _ h h1 h2 l1 l2=>q t0 _ _ H' s h ⟨t1,p1,ps,rfl,f,h1,l1,pmp,rip⟩ ⟨t2,p2,qs,rfl,f',h2,l2,pmq,riq⟩
 clear pmp pmq rip riq
 generalize bl.size=i at *
 generalize br.size=j at *
 have lc:=pm.length_eq
 have lj:=ja fp fq
 have at0:∀ (c:Int) (a:FD),bW [V.int c,.ref a] 0=some (.int c):=fun _ _=>rfl
 have at1:∀ (c:Int) (a:FD),bW [V.int c,.ref a] 1=some (.ref a):=fun _ _=>rfl
 refine xx fun vT hT=>?_
 refine ⟨_,rfl,t,_,_,_,rfl,rfl,bg.of ht,at0 _ _,_,_,rfl,rfl,?_⟩
 try dsimp only
 rw [show (i:Int)+(j:Int)+3 - 1=(i:Int)+(j:Int)+2 by lia]
 refine ⟨_,rfl,t,_,_,_,rfl,rfl,bg.of ht,at1 _ _,?_⟩
 refine ⟨_,rfl,_,rfl,l,cs,_,rfl,hl,by lia,fun M H1 s1 m0 m1=>?_⟩
 have eM:M=(i:Int)+1:=by
  by_cases h0:i=0
  ·rw [m0 (wg fp fq pm ris h0)]; lia
  ·have hin:=wa fp fq pm ris h0
   obtain ⟨hM,hle⟩:=m1 (fun z=>by rw [z] at hin; cases hin)
   have:=vO fp fq pm ris M hM
   have:=hle _ hin
   lia
 subst eM
 obtain ⟨xs,el,lxs,pr⟩:=hl.len
 have e1l:=s1 _ _ el
 have pr1:=pr.same s1
 refine ⟨_,rfl,l,rfl,⟨_,ai.of e1l⟩,fun p1 hD1=>bR (xs:=xs) (fun k ys H'=>ae H1 H'/\H' p1=some (.lst ys)/\bC H' ys ((cs.take k).filter (fP ((i:Int)+1)))/\k<=cs.length) (sz (by lia)) ⟨ae.new (ae.refl H1) hD1 _,upd_same,.nil,FI _⟩ (fun k ys H' hk h=>⟨ai.of (h.1 _ _ e1l),?_⟩) (fun k v ys H' R R0 hx h r r0=>?_) (fun ys1 H2 h=>?_)⟩
 ·rw [h.2.2.1.length]
  exact GM (Gz _ _) (by rw [FU]; lia)
 ·obtain ⟨sm,hy,py,hk⟩:=h
  obtain ⟨pp,tt,hpp,rfl,htt⟩:=(pr1).get hx
  have hlt:k < cs.length:=(Fs.mp hpp).1
  have tk:=gM (fP ((i:Int)+1)) hpp
  refine ⟨tt,_,rfl,bg.of (sm _ _ htt),rfl,_,_,rfl,_,_,rfl,rfl,(Ext.set rfl).trans (Ext.set rfl),?_⟩
  refine ⟨_,rfl,_,rfl,_,_,rfl,rfl,_,rfl,?_⟩
  by_cases e1:pp.2<=((i:Int)+1)
  ·refine bG e1 ⟨_,rfl,_,rfl,(by show 2<=sizeLine; decide),fun u1 mY=>?_⟩
   have nD1:p1≠u1:=ar hy mY
   have y1:=(upd_ne (o:=.tup [.int pp.1,.int pp.2]) nD1).trans hy
   refine ⟨_,rfl,(by show 2<=sizeLine; decide),fun u2 hu2=>?_⟩
   have nD2:p1≠u2:=ar y1 hu2
   have n12:u1≠u2:=ar upd_same hu2
   have y2:=(upd_ne (o:=.tup [.int 0,.int ((i:Int)+1)]) nD2).trans y1
   have g1:=(upd_ne (o:=.tup [.int 0,.int ((i:Int)+1)]) n12).trans (upd_same (H:=H') (a:=u1) (o:=.tup [.int pp.1,.int pp.2]))
   have sm2:=ae.new (ae.new sm mY (.tup [.int pp.1,.int pp.2])) hu2 (.tup [.int 0,.int ((i:Int)+1)])
   have py2:=(py.updN mY (.tup [.int pp.1,.int pp.2])).updN hu2 (.tup [.int 0,.int ((i:Int)+1)])
   refine ⟨1,_,by decide,ba.two (n:=0) n12 g1 upd_same,⟨u1,u2,rfl,rfl,n12⟩,_,rfl,?_⟩
   cases e2:(decide (pp.1=0)&&decide (pp.2=((i:Int)+1))) with
   | false =>
    have ht:fP ((i:Int)+1) pp=true:=by unfold fP; rw [e2,decide_eq_true e1]; rfl
    refine tZ rfl ⟨_,rfl,_,rfl,(by show 2<=sizeLine; decide),fun t1 ht1=>?_⟩
    have y3:=(upd_ne (o:=.tup [.int pp.1,.int pp.2]) (ar y2 ht1)).trans y2
    refine r _ _ y3 ⟨(ae.new sm2 ht1 _).upd hD1 _,upd_same,?_,hlt⟩
    rw [tk,if_pos ht]
    exact ((py2.updN ht1 (.tup [.int pp.1,.int pp.2])).snoc (t:=t1) (p:=pp) upd_same).updL y3 _
   | true =>
    have ht:¬ fP ((i:Int)+1) pp=true:=by unfold fP; rw [e2]; simp
    refine nr rfl (r0 _ ⟨sm2,y2,?_,hlt⟩)
    rw [tk,if_neg ht,Gj]
    exact py2
  ·have ht:¬ fP ((i:Int)+1) pp=true:=by unfold fP; rw [decide_eq_false e1]; simp
   refine aZ e1 (bB (r0 _ ⟨sm,hy,?_,hlt⟩))
   rw [tk,if_neg ht,Gj]
   exact py
 obtain ⟨s2,hy,py,_⟩:=h
 rw [FB (by lia)] at py
 have hL:aX H2 p1 (cs.filter (fP ((i:Int)+1))):=⟨ys1,hy,py⟩
 rw [De fp fq pm ris] at hL
 have t2:=s1.trans s2
 have fD:H p1=none:=s1.free hD1
 have e2l:=t2 _ _ el
 have pr2:=pr.same t2
 clear hy py
 subst hT
 refine ⟨_,rfl,l,rfl,⟨_,ai.of e2l⟩,fun D hD=>bR (xs:=xs) (fun k ys H'=>ae H2 H'/\H' D=some (.lst ys)/\bC H' ys ((cs.take k).filter (dY ((i:Int)+1) ((i:Int)+(j:Int)+2)))/\k<=cs.length) (sz (by lia)) ⟨ae.new (ae.refl H2) hD _,upd_same,.nil,FI _⟩ (fun k ys H' hk h=>⟨ai.of (h.1 _ _ e2l),?_⟩) (fun k v ys H' R R0 hx h r r0=>?_) (fun ys H' h=>?_)⟩
 ·rw [h.2.2.1.length]
  exact GM (Gz _ _) (by rw [FU]; lia)
 ·obtain ⟨sm,hy,py,hk⟩:=h
  obtain ⟨pp,tt,hpp,rfl,htt⟩:=(pr2).get hx
  have hlt:k < cs.length:=(Fs.mp hpp).1
  have tk:=gM (dY ((i:Int)+1) ((i:Int)+(j:Int)+2)) hpp
  refine ⟨tt,_,rfl,bg.of (sm _ _ htt),rfl,_,_,rfl,_,_,rfl,rfl,(Ext.set rfl).trans (Ext.set rfl),?_⟩
  refine ⟨_,rfl,_,rfl,_,_,rfl,rfl,_,rfl,?_⟩
  by_cases e1:pp.1 ≥ ((i:Int)+1)
  ·refine bG e1 ⟨_,rfl,_,rfl,(by show 2<=sizeLine; decide),fun u1 mY=>?_⟩
   have nD1:D≠u1:=ar hy mY
   have y1:=(upd_ne (o:=.tup [.int pp.1,.int pp.2]) nD1).trans hy
   refine ⟨_,rfl,_,rfl,(by show 2<=sizeLine; decide),fun u2 hu2=>?_⟩
   have nD2:D≠u2:=ar y1 hu2
   have n12:u1≠u2:=ar upd_same hu2
   have y2:=(upd_ne (o:=.tup [.int ((i:Int)+1),.int ((i:Int)+(j:Int)+2)]) nD2).trans y1
   have g1:=(upd_ne (o:=.tup [.int ((i:Int)+1),.int ((i:Int)+(j:Int)+2)]) n12).trans (upd_same (H:=H') (a:=u1) (o:=.tup [.int pp.1,.int pp.2]))
   have sm2:=ae.new (ae.new sm mY (.tup [.int pp.1,.int pp.2])) hu2 (.tup [.int ((i:Int)+1),.int ((i:Int)+(j:Int)+2)])
   have py2:=(py.updN mY (.tup [.int pp.1,.int pp.2])).updN hu2 (.tup [.int ((i:Int)+1),.int ((i:Int)+(j:Int)+2)])
   refine ⟨1,_,by decide,ba.two (n:=0) n12 g1 upd_same,⟨u1,u2,rfl,rfl,n12⟩,_,rfl,?_⟩
   cases e2:(decide (pp.1=((i:Int)+1))&&decide (pp.2=((i:Int)+(j:Int)+2))) with
   | false =>
    have ht:dY ((i:Int)+1) ((i:Int)+(j:Int)+2) pp=true:=by unfold dY; rw [e2,decide_eq_true e1]; rfl
    refine tZ rfl ⟨_,rfl,_,rfl,(by show 2<=sizeLine; decide),fun t1 ht1=>?_⟩
    have y3:=(upd_ne (o:=.tup [.int pp.1,.int pp.2]) (ar y2 ht1)).trans y2
    refine r _ _ y3 ⟨(ae.new sm2 ht1 _).upd hD _,upd_same,?_,hlt⟩
    rw [tk,if_pos ht]
    exact ((py2.updN ht1 (.tup [.int pp.1,.int pp.2])).snoc (t:=t1) (p:=pp) upd_same).updL y3 _
   | true =>
    have ht:¬ dY ((i:Int)+1) ((i:Int)+(j:Int)+2) pp=true:=by unfold dY; rw [e2]; simp
    refine nr rfl (r0 _ ⟨sm2,y2,?_,hlt⟩)
    rw [tk,if_neg ht,Gj]
    exact py2
  ·have ht:¬ dY ((i:Int)+1) ((i:Int)+(j:Int)+2) pp=true:=by unfold dY; rw [decide_eq_false e1]; simp
   refine aZ e1 (bB (r0 _ ⟨sm,hy,?_,hlt⟩))
   rw [tk,if_neg ht,Gj]
   exact py
 obtain ⟨s3,hy,py,_⟩:=h
 rw [FB (by lia)] at py
 have hR:aX H' D (cs.filter (dY ((i:Int)+1) ((i:Int)+(j:Int)+2))):=⟨ys,hy,py⟩
 rw [DQ fp fq pm ris] at hR
 have t3:=t2.trans s3
 refine ⟨_,rfl,_,_,rfl,rfl,_,rfl,(by show 2<=sizeLine; decide),fun t1 ht1=>?_⟩
 have s4:=ae.new (ae.refl H') ht1 (.tup [.int ((i:Int)+1+1),.ref p1])
 refine ⟨_,rfl,_,rfl,_,_,rfl,rfl,_,_,rfl,rfl,_,rfl,_,rfl,_,rfl,D,_,_,rfl,hR.same s4,by rw [Do]; have:=fq.len; lia,fun p2 H5 s5 f5 h5=>⟨(by show 2<=sizeLine; decide),fun t2' ht2=>⟨(by show 2<=sizeLine; decide),fun t0 ht0=>?_⟩⟩⟩
 rw [tN] at h5
 have s6:=ae.new (ae.refl H5) ht2 (.tup [.int ((i:Int)+(j:Int)+2 - ((i:Int)+1)+1),.ref p2])
 have s7:=ae.new (ae.refl _) ht0 (.tup [.ref t1,.ref t2'])
 have s67:=s6.trans s7
 have s47:=(s4.trans s5).trans s67
 have f2:H p2=none:=(t3.trans s4).free f5
 have hL':=(hL.same s3).same s4
 have n12:p1≠p2:=by
  obtain ⟨ys,h,_⟩:=hL'
  exact ar h f5
 have g1:=(s5.trans s67) _ _ (upd_same (H:=H') (a:=t1) (o:=.tup [.int ((i:Int)+1+1),.ref p1]))
 have g2:=s7 _ _ (upd_same (H:=H5) (a:=t2') (o:=.tup [.int ((i:Int)+(j:Int)+2 - ((i:Int)+1)+1),.ref p2]))
 rw [show (i:Int)+1+1=(i:Int)+2 by lia] at g1
 rw [show (i:Int)+(j:Int)+2 - ((i:Int)+1)+1=(j:Int)+2 by lia] at g2
 exact q t0 t1 t2' p1 p2 _ (t3.trans s47) fD f2 n12 upd_same g1 g2 (hL'.same (s5.trans s67)) (h5.same s67)
theorem Af (aL:Al P w K mg base ca 42) (F:b7 K ca 42 "parted" "Turns.parted" rG):D P w K mg base ca 42:=by
 refine cm F (fun _ _ _ _ _ _=>dI fun _ _=>rfl) (F.ok vt (fun vs H Q E h=>?_) (fun cZ AZ oZ sZ H vs Q E hr h=>?_))
 ·obtain ⟨x,v,bl,br,rfl,th,h39,q⟩:=h
  rfl
 obtain ⟨x,v,bl,br,rfl,th,h39,q⟩:=h
 refine ⟨_,ah (av (i:=2) vt.nd rfl (Gd rfl) (cz FR Ld PySem.F.type_list_index wU (pv 1) (aa af ab)))
  (ag (aq (aY (aa (aF (aL.g 38) hr (aa (di eA (pv 1) eO (dD (pv 2))) (aa (e8 dN af) ab))) (aa (aF (aL.g 38) hr (aa (di eA (pv 1) (dD (aj aE (pv 2) af)) eO) (aa (aj aM (e8 dN (pv 2)) af) ab))) ab))))),?_⟩
 obtain ⟨_,d,rfl,_,hd⟩:=th
 have hd:H d=some (.lst ((cU (bO bl) (bO br)).map V.int)):=hd
 have lps:(bO bl).length<=40:=by rw [cp]; lia
 have lqs:(bO br).length<=40:=by rw [cp]; lia
 have nn:∀ bt:Bt,∀ x∈bO bt,0<=x:=fun bt x hx=>by
  have h:=oq bt
  unfold iW at h
  exact (h8.mp (((dc _).mp (Kk.mp h).1).mem_iff.mp hx)).1
 have bp:=nn bl
 have bq:=nn br
 have q:∀ (t l r:FD) (H':Hp),ae H H'->H l=none->H r=none->l≠r->H' t=some (.tup [.ref l,.ref r])->H' l=some (.lst ((bO bl).map V.int))->H' r=some (.lst ((bO br).map V.int))->Q (.ref t) H':=fun t l r H' s f f' _ h pl pr=>q t _ _ H' s h ⟨l,rfl,f,pl⟩ ⟨r,rfl,f',pr⟩
 clear nn
 generalize bO bl=ps at hd lps bp q
 generalize bO br=qs at hd lqs bq q
 have lj:=tX ps qs
 have h0:(0:Int)∈cU ps qs:=by unfold cU; simp
 have e0:(cU ps qs).idxOf 0=ps.length:=by
  unfold cU
  rw [FX,List.idxOf_append,if_neg (by
   intro z
   obtain ⟨y,hy,e⟩:=FH.mp z
   have:=bp y hy
   lia)]
  simp
 have c1:cW ((cU ps qs).map V.int) none (some (ps.length:Int))=(ps.map (·+1)).map V.int:=by
  rw [yI,<- List.map_take]
  unfold cU
  rw [FX,List.take_left' (by simp)]
 have c2:cW ((cU ps qs).map V.int) (some ((ps.length:Int)+1)) none=(qs.map (·+((ps.length:Int)+1))).map V.int:=by
  rw [show ((ps.length:Int)+1)=((ps.length+1:Nat):Int) by lia,gE,<- L6]
  unfold cU
  rw [List.drop_left' (by simp)]
  rfl
 refine ⟨_,rfl,.inl ⟨rfl,_,ai.of hd⟩,d,cU ps qs,0,rfl,rfl,ai.of hd,h0,?_⟩
 rw [e0]
 refine ⟨_,rfl,_,rfl,_,rfl,d,_,rfl,ai.of hd,fun c hc=>?_⟩
 rw [c1]
 have s1:=ae.new (ae.refl H) hc (.lst ((ps.map (·+1)).map V.int))
 refine ⟨_,rfl,c,ps.map (·+1),-1,rfl,ai.of upd_same,by simp; lia,fun l H2 s2 fl hl=>?_⟩
 have s12:=s1.trans s2
 rw [jL] at hl
 refine ⟨_,rfl,_,rfl,_,_,rfl,rfl,_,rfl,d,_,rfl,ai.of (s12 _ _ hd),fun c' hc'=>?_⟩
 rw [c2]
 have s3:=ae.new s12 hc' (.lst ((qs.map (·+((ps.length:Int)+1))).map V.int))
 refine ⟨_,rfl,_,rfl,_,_,rfl,rfl,c',qs.map (·+((ps.length:Int)+1)),_,rfl,ai.of upd_same,by simp; lia,fun r H4 s4 fr hr2=>?_⟩
 have e2:(qs.map (·+((ps.length:Int)+1))).map (·+(-(ps.length:Int) - 1))=qs:=by
  rw [show -(ps.length:Int) - 1 = -((ps.length:Int)+1) by lia,jL]
 rw [e2] at hr2
 have fl':H l=none:=s1.free fl
 have fr':H r=none:=s3.free fr
 have fQ:=(ae.new (ae.refl _) hc' (.lst ((qs.map (·+((ps.length:Int)+1))).map V.int))) _ _ hl
 have nlr:l≠r:=ar fQ fr
 refine ⟨(by show 2<=sizeLine; decide),fun t ht=>?_⟩
 have s5:=ae.new (ae.refl _) ht (.tup [.ref l,.ref r])
 exact q t l r _ ((s3.trans s4).trans s5) fl' fr' nlr upd_same (s5 _ _ (s4 _ _ fQ)) (s5 _ _ hr2)
theorem DR (aL:Al P w K mg base ca 44) (F:b7 K ca 44 "number_by_parts" "SplitFamily.number_by_parts" v3):D P w K mg base ca 44:=by
 refine CH 2 41 (by decide) F (fun _ _ _ _ _ _=>gn fun _ _ _=>rfl) fun n eD=>bL.up (F.ok iq (fun vs H Q E h=>?_) (fun cZ AZ oZ sZ H vs Q E hr h=>?_))
 ·obtain ⟨fw,hf,x,dx,fs,wd,pc,k,v,t,rfl,hx,fl,hc,th,hn,hk,k40,q⟩:=h
  rfl
 obtain ⟨fw,hf,x,dx,fs,wd,pc,k,v,t,rfl,hx,fl,hc,th,hn,hk,k40,q⟩:=h
 refine ⟨_,ah (av (i:=3) iq.nd rfl (LS rfl) (cQ (pv 0) CA.c4 CA.mt4_size_of (aL.g 35) hr (aa (pv 2) ab) (hjk:=by lia)))
  (ah (aJ (aw cG (pv 3) af (aA _)) (ag (aq af)) aD)
  (ah (av (i:=4) iq.nd rfl (Gd rfl) (cQ (pv 0) CA.c4 CA.mt4_parted (aL.g 43) hr (aa (pv 2) ab) (hjk:=by lia)))
  (ah (av (i:=5) iq.nd rfl (Gd rfl) (cQ (pv 0) CA.c4 CA.mt4_size_of (aL.g 35) hr (aa (aG bM (pv 4) af (fun _ _=>rfl)) ab) (hjk:=by lia)))
  (ah (av (i:=6) iq.nd rfl (Gd rfl) (aC (kj rfl) rfl CA.sW n8 (aa (bS rfl (de rfl CA.eB (aa (pv 5) ab)) rfl rfl rfl rfl (N:=["j","counts","size"]) (.own (.cap (j:=1) rfl rfl rfl (.cap (j:=3) rfl rfl rfl .nil))) (fun _ _ _ _ _ _=>(az (i:=0) (by show GP (["j","counts","size"]:List Str); decide +kernel) rfl (Gd rfl))) (fun _ _ _ _ _ _=>bZ) (fun _ _ _ _ _ _=>(aj b5 (aG (fo (K:=K) rfl) (pv 1) (pv 0) (fun _ _=>rfl)) (aG (fo (K:=K) rfl) (pv 1) (aj aM (aj aM (pv 2) af) (pv 0)) (fun _ _=>rfl))))) ab)))
  (ah (av (i:=7) iq.nd rfl (Gd rfl) (cQ (pv 0) CA.c4 CA.mt4_number_by_parts (fun _ _=>eD) hr (aa (pv 1) (aa (aG bM (pv 4) af (fun _ _=>rfl)) ab)) (hjk:=by lia)))
  (ah (av (i:=8) iq.nd rfl (Gd rfl) (cQ (pv 0) CA.c4 CA.mt4_number_by_parts (fun _ _=>eD) hr (aa (pv 1) (aa (aG bM (pv 4) af (fun _ _=>rfl)) ab)) (hjk:=by lia)))
  (ag (aq (aj aE (aj aE (pv 6) (aj b5 (pv 7) (aG aN (pv 1) (aj aM (aj aM (pv 3) af) (pv 5)) (fun _ _=>rfl)))) (pv 8)))))))))),?_⟩
 refine ⟨fw,hf,_,rfl,x,dx,fs,rfl,hx,fl.no "size_of" (by decide) (by decide),_,rfl,x,v,t,rfl,th,by lia,fun H1 s1=>⟨_,rfl,rfl,_,rfl,?_⟩⟩
 cases t with
 | leaf=>exact bG rfl (q _ s1)
 | node l r =>
  have hn:l.size+r.size+1=n:=hn
  have sn:(((Bt.node l r).size:Nat):Int)=(n:Int):=by rw [<- hn]; rfl
  have lk:(bK k).length=k+1:=bD k
  have at_:∀ (j:Nat) (z:Int),z=(j:Int)->j<=k->bW ((bK k).map V.int) z=some (.int (sh j)):=fun j z ez hj=>by
   have:=dF (ns:=bK k) (i:=z) (by lia) (by lia)
   rw [show z.toNat=j by lia,cJ k j hj] at this
   exact this
  rw [sn]
  refine aZ (fun z=>by injection z with z; lia) ?_
  refine ⟨fw,hf,_,rfl,x,dx,fs,rfl,s1 _ _ hx,fl.no "parted" (by decide) (by decide),_,rfl,x,v,l,r,rfl,th.same s1,by lia,fun p vl vr H2 s2 hp tl tr=>?_⟩
  have s12:=s1.trans s2
  refine ⟨fw,hf,_,rfl,x,dx,fs,rfl,s12 _ _ hx,fl.no "size_of" (by decide) (by decide),_,rfl,p,_,_,_,rfl,rfl,bg.of hp,rfl,x,vl,l,rfl,⟨_,tl⟩,by lia,fun H3 s3=>?_⟩
  have s13:=s12.trans s3
  have hc3:=s13 _ _ hc
  refine ⟨_,rfl,_,rfl,by lia,by lia,fun D hD=>kW (lo:=0) (n:=((l.size:Nat):Int).toNat) (fun j=>.int (sh j*sh (n - 1 - j))) (sz (by lia)) (fun j H4 R R0 hj hb hR=>?_) ?_⟩
  ·have hj:j < l.size:=by lia
   have hc4:H4 pc=some (.lst ((bK k).map V.int)):=(hb pc (ar hc3 hD)).trans hc3
   have a1:=at_ j ((0:Int)+(j:Int)) (by lia) (by lia)
   have a2:=at_ (n - 1 - j) ((n:Int) - 1 - ((0:Int)+(j:Int))) (by lia) (by lia)
   have p1:=b6 j
   have p2:=b6 (n - 1 - j)
   have mc:gR (sh j) (sh (n - 1 - j)):=mulC (a:=j) (b:=n - 1 - j) (by lia) (by lia) (GA _) (by lia) (GA _)
   exact ⟨Ext.set rfl,fV (bw ⟨_,rfl,_,rfl,pc,_,_,_,rfl,rfl,ai.of hc4,a1,_,rfl,_,rfl,_,_,rfl,rfl,_,rfl,_,_,rfl,rfl,pc,_,_,_,rfl,rfl,ai.of hc4,a2,_,_,rfl,rfl,mc,hR⟩)⟩
  have s4:=ae.new s13 hD (.lst ((FC ((l.size:Nat):Int).toNat).map fun j=>V.int (sh j*sh (n - 1 - j))))
  have k4:=ae.new (ae.refl H3) hD (.lst ((FC ((l.size:Nat):Int).toNat).map fun j=>V.int (sh j*sh (n - 1 - j))))
  refine ⟨D,(FC ((l.size:Nat):Int).toNat).map (fun j=>sh j*sh (n - 1 - j)),rfl,ai.of (by rw [upd_same,GC]; rfl),?_⟩
  have ep:((FC ((l.size:Nat):Int).toNat).map (fun j=>sh j*sh (n - 1 - j))).sum=pre n l.size:=by rw [GI]; rfl
  rw [ep]
  generalize upd H3 D (.lst ((FC ((l.size:Nat):Int).toNat).map fun j=>V.int (sh j*sh (n - 1 - j))))=H4 at s4 k4 |-
  have t24:=s3.trans k4
  refine ⟨fw,hf,_,rfl,x,dx,fs,rfl,s4 _ _ hx,fl.no "number_by_parts" (by decide) (by decide),_,rfl,_,rfl,p,_,_,_,rfl,rfl,bg.of (t24 _ _ hp),rfl,l.size,by lia,fw,hf,x,dx,fs,wd,pc,k,vl,l,rfl,s4 _ _ hx,fl,s4 _ _ hc,⟨_,tl.same t24⟩,rfl,by lia,k40,fun H5 s5=>?_⟩
  have t25:=t24.trans s5
  have s15:=s4.trans s5
  refine ⟨fw,hf,_,rfl,x,dx,fs,rfl,s15 _ _ hx,fl.no "number_by_parts" (by decide) (by decide),_,rfl,_,rfl,p,_,_,_,rfl,rfl,bg.of (t25 _ _ hp),rfl,r.size,by lia,fw,hf,x,dx,fs,wd,pc,k,vr,r,rfl,s15 _ _ hx,fl,s15 _ _ hc,⟨_,tr.same t25⟩,rfl,by lia,k40,fun H6 s6=>?_⟩
  have s16:=s15.trans s6
  have a3:=at_ r.size ((n:Int) - 1 - (l.size:Int)) (by lia) (by lia)
  have p3:=b6 r.size
  have mc:gR (aB l) (sh r.size):=mulC (a:=l.size) (b:=r.size) (by lia) (bJ l) (by have:=bU l; lia) (by lia) (GA _)
  refine ⟨_,rfl,_,rfl,_,rfl,_,rfl,_,_,rfl,rfl,_,rfl,_,_,rfl,rfl,pc,_,_,_,rfl,rfl,ai.of (s16 _ _ hc),a3,_,_,rfl,rfl,mc,_,_,rfl,rfl,_,rfl,_,_,rfl,rfl,?_⟩
  have e:aB (.node l r)=pre n l.size+aB l*sh r.size+aB r:=by rw [<- hn]; rfl
  rw [e] at q
  exact q _ s16
theorem Cb (aL:Al P w K mg base ca 45) (F:Fg K mg ca 45 "shares" rZ):D P w K mg base ca 45:=by
 refine dJ F (fun _ _ _ _ _ _=>eC fun _=>rfl) (F.F.ok nO (fun vs H Q E h=>?_) (fun cZ AZ oZ sZ H vs Q E hr h=>?_))
 ·obtain ⟨n,rfl,h0,h1,q⟩:=h
  rfl
 obtain ⟨n,rfl,h0,h1,q⟩:=h
 refine ⟨_,ah (av (i:=1) nO.nd rfl (LS rfl) (bj (aa af ab)))
  (ah (bV Gr rfl (de rfl CA.eB (aa (pv 0) ab)) (az (i:=2) nO.nd rfl (LS rfl)) (ag (aW (cz FR Gf Gg bx (pv 1) (aa (aC (kj rfl) rfl CA.sW n8 (aa (bS rfl (de rfl CA.eB (aa (aj aE (pv 2) af) ab)) rfl rfl rfl rfl (N:=["j","found","k"]) (.own (.cap (j:=1) rfl rfl rfl (.cap (j:=2) rfl rfl rfl .nil))) (fun _ _ _ _ _ _=>(az (i:=0) (by show GP (["j","found","k"]:List Str); decide +kernel) rfl (Gd rfl))) (fun _ _ _ _ _ _=>bZ) (fun _ _ _ _ _ _=>(aj b5 (aG (fo (K:=K) rfl) (pv 1) (pv 0) (fun _ _=>rfl)) (aG (fo (K:=K) rfl) (pv 1) (aj aM (pv 2) (pv 0)) (fun _ _=>rfl))))) ab)) ab)))))
  (ag (aq (pv 1)))),?_⟩
 refine ⟨(by show 1<=sizeLine; decide),fun p hp=>?_⟩
 refine ⟨_,rfl,n,rfl,by lia,by lia,eV (lo:=0) (n:=n.toNat) (fun i σ H'=>∃ o,σ=[some (.int n),some (.ref p),o]/\ae H H'/\H' p=some (.lst ((bK i).map V.int)))
  ⟨_,rfl,ae.new (ae.refl H) hp _,upd_same⟩ ?_ ?_⟩
 ·rintro i σ H1 hi ⟨o,rfl,sm,hp1⟩
  have en:((0:Int)+(i:Int)+1).toNat=i+1:=by lia
  refine ⟨_,rfl,.inl ⟨rfl,_,ai.of hp1⟩,_,rfl,_,_,rfl,rfl,_,rfl,by lia,by lia,?_⟩
  rw [en]
  intro D hD
  have hpD:p≠D:=ar hp1 hD
  refine kW (lo:=0) (n:=i+1) (fun j=>.int (sh j*sh (i - j))) (sz (by lia)) (fun j H2 R R0 hj hb hR=>?_) ?_
  ·have hp2:H2 p=some (.lst ((bK i).map V.int)):=(hb p hpD).trans hp1
   have l1:(bK i).length=i+1:=bD i
   have e1:(bK i).getD ((0:Int)+(j:Int)).toNat 0=sh j:=by rw [show ((0:Int)+(j:Int)).toNat=j by lia]; exact cJ i j (by lia)
   have e2:(bK i).getD ((0:Int)+(i:Int) - ((0:Int)+(j:Int))).toNat 0=sh (i - j):=by
    rw [show ((0:Int)+(i:Int) - ((0:Int)+(j:Int))).toNat=i - j by lia]; exact cJ i (i - j) (by lia)
   have a1:=dF (ns:=bK i) (i:=(0:Int)+(j:Int)) (by lia) (by lia)
   have a2:=dF (ns:=bK i) (i:=(0:Int)+(i:Int) - ((0:Int)+(j:Int))) (by lia) (by lia)
   rw [e1] at a1
   rw [e2] at a2
   refine ⟨Ext.set rfl,fV (bw ?_)⟩
   refine ⟨_,rfl,_,rfl,p,_,_,_,rfl,rfl,ai.of hp2,a1,_,rfl,_,rfl,_,rfl,_,_,rfl,rfl,p,_,_,_,rfl,rfl,ai.of hp2,a2,_,_,rfl,rfl,?_,hR⟩
   exact AM (by lia)
  ·have hp3:upd H1 D (.lst ((FC (i+1)).map fun j=>V.int (sh j*sh (i - j)))) p=some (.lst ((bK i).map V.int)):=(upd_ne hpD).trans hp1
   refine ⟨D,(FC (i+1)).map (fun j=>sh j*sh (i - j)),rfl,ai.of (by rw [upd_same,GC]; rfl),p,_,_,rfl,rfl,hp3,?_,?_⟩
   ·rw [Do,bD]; exact fX (by lia)
   ·refine ⟨_,rfl,?_,?_⟩
    ·exact (ae.new sm hD _).upd hp _
    ·rw [upd_same,wI,Fu,lY]; rfl
 ·rintro σ H1 ⟨o,rfl,sm,hp1⟩
  exact ⟨_,rfl,q p H1 sm hp hp1⟩
theorem DD (aL:Al P w K mg base ca 46) (F:b7 K ca 46 "unchecked_number" "SplitFamily.unchecked_number" xb):D P w K mg base ca 46:=by
 refine cm F (fun _ _ _ _ _ _=>dI fun _ _=>rfl) (F.ok Dp (fun vs H Q E h=>?_) (fun cZ AZ oZ sZ H vs Q E hr h=>?_))
 ·obtain ⟨fw,hf,x,dx,fs,wd,v,t,rfl,hx,fl,th,h40,q⟩:=h
  rfl
 obtain ⟨fw,hf,x,dx,fs,wd,v,t,rfl,hx,fl,th,h40,q⟩:=h
 refine ⟨_,ag (aq (cQ (pv 0) CA.c4 CA.mt4_number_by_parts (fun _ _=>(aL.g 44)) hr (aa (aF (aL.g 45) hr (aa (cQ (pv 0) CA.c4 CA.mt4_size_of (aL.g 35) hr (aa (pv 1) ab)) ab)) (aa (pv 1) ab)))),?_⟩
 refine ⟨fw,hf,_,rfl,x,dx,fs,rfl,hx,fl.no "number_by_parts" (by decide) (by decide),fw,hf,_,rfl,x,dx,fs,rfl,hx,fl.no "size_of" (by decide) (by decide),_,rfl,x,v,t,rfl,th,h40,fun H1 s1=>⟨(t.size:Int),rfl,by lia,by lia,fun pc H2 s2 fc hc=>?_⟩⟩
 rw [GI] at hc
 have s12:=s1.trans s2
 exact ⟨_,rfl,t.size,by lia,fw,hf,x,dx,fs,wd,pc,t.size,v,t,rfl,s12 _ _ hx,fl,hc,th.same s12,rfl,Fy _,h40,fun H' s=>q _ (s12.trans s)⟩
theorem Dl (aL:Al P w K mg base ca 47) (F:b7 K ca 47 "number_of" "Family.number_of" xm):D P w K mg base ca 47:=by
 refine cm F (fun _ _ _ _ _ _=>dI fun _ _=>rfl) (F.ok DI (fun vs H Q E h=>?_) (fun cZ AZ oZ sZ H vs Q E hr h=>?_))
 ·obtain ⟨fw,hf,x,dx,fs,wd,v,t,rfl,hx,fl,th,h40,q⟩:=h
  rfl
 obtain ⟨fw,hf,x,dx,fs,wd,v,t,rfl,hx,fl,th,h40,q⟩:=h
 refine ⟨_,ah (aW (cQ (pv 0) CA.c4 CA.mt4_refuse_other (fun _ _=>(aL.g 30)) hr (aa (pv 1) ab)))
  (ag (aq (cQ (pv 0) CA.c4 CA.mt4_unchecked_number (fun _ _=>(aL.g 46)) hr (aa (pv 1) ab)))),?_⟩
 refine ⟨fw,hf,_,rfl,x,dx,fs,rfl,hx,fl.no "refuse_other" (by decide) (by decide),_,rfl,fw,hf,x,dx,fs,wd,v,t,rfl,hx,fl,th,h40,fun H1 s1=>?_⟩
 exact ⟨fw,hf,_,rfl,x,dx,fs,rfl,s1 _ _ hx,fl.no "unchecked_number" (by decide) (by decide),_,rfl,fw,hf,x,dx,fs,wd,v,t,rfl,s1 _ _ hx,fl,th.same s1,h40,fun H2 s2=>q _ (s1.trans s2)⟩
theorem B8 (aL:Al P w K mg base ca 48) (F:Fg K mg ca 48 "by_rule" sM):D P w K mg base ca 48:=by
 refine dJ F (fun _ _ _ _ _ _=>eC fun _=>rfl) (F.F.ok kO (fun vs H Q E h=>?_) (fun cZ AZ oZ sZ H vs Q E hr h=>?_))
 ·obtain ⟨n,rfl,h0,h1,q⟩:=h
  rfl
 obtain ⟨n,rfl,h0,h1,q⟩:=h
 refine ⟨_,ah (av (i:=1) kO.nd rfl (Gd rfl) af)
  (ah (bV Gr rfl (de rfl CA.eB (aa (pv 0) ab)) (az (i:=2) kO.nd rfl (Gd rfl)) (ag (av (i:=1) kO.nd rfl (Gd rfl) (aj ft (aj b5 (pv 1) (aj aE (aj b5 af (pv 2)) af)) (aj aE (pv 2) af)))))
  (ag (aq (pv 1)))),?_⟩
 refine ⟨_,rfl,_,rfl,by lia,by lia,eV (lo:=0) (n:=n.toNat) (fun i σ H'=>H'=H/\∃ o,σ=[some (.int n),some (.int (cR i)),o]) ⟨rfl,_,rfl⟩ ?_ ?_⟩
 ·rintro i σ H' hi ⟨rfl,o,rfl⟩
  refine ⟨_,rfl,_,rfl,_,_,rfl,rfl,.inl ⟨by decide,by decide⟩,_,_,rfl,rfl,_,_,rfl,rfl,.inr ⟨by lia,by lia⟩,_,rfl,_,_,rfl,rfl,_,_,rfl,rfl,⟨by lia,?_⟩,rfl,some (.int ((0:Int)+(i:Int))),?_⟩
  ·exact log2_small (by lia) (by lia)
  ·have e:(0:Int)+(i:Int)=i:=JN _
   show [some (V.int n),some (V.int (cR i*(4*((0:Int)+(i:Int))+2) / (((0:Int)+(i:Int))+2))),some (V.int ((0:Int)+(i:Int)))]=_
   rw [e]
   try rfl
 ·rintro σ H' ⟨rfl,o,rfl⟩
  exact ⟨_,rfl,q⟩
theorem Dx (aL:Al P w K mg base ca 49) (F:b7 K ca 49 "unchecked_many" "SplitFamily.unchecked_many" wR):D P w K mg base ca 49:=by
 refine cm F (fun _ _ _ _ _ _=>dI fun _ _=>rfl) (F.ok DC (fun vs H Q E h=>?_) (fun cZ AZ oZ sZ H vs Q E hr h=>?_))
 ·obtain ⟨x,n,rfl,n0,n40,q⟩:=h
  rfl
 obtain ⟨x,n,rfl,n0,n40,q⟩:=h
 refine ⟨_,ag (aq (aF (aL.g 48) hr (aa (pv 1) ab))),?_⟩
 exact ⟨_,rfl,n,rfl,n0,by lia,q⟩
theorem Bw (aL:Al P w K mg base ca 50) (F:b7 K ca 50 "many" "Family.many" rM):D P w K mg base ca 50:=by
 refine cm F (fun _ _ _ _ _ _=>dI fun _ _=>rfl) (F.ok zj (fun vs H Q E h=>?_) (fun cZ AZ oZ sZ H vs Q E hr h=>?_))
 ·obtain ⟨fw,hf,x,dx,fs,wd,n,rfl,hx,fl,n1,n40,q⟩:=h
  rfl
 obtain ⟨fw,hf,x,dx,fs,wd,n,rfl,hx,fl,n1,n40,q⟩:=h
 refine ⟨_,ah (aJ (PW.pt (fZ (aw dH (pv 1) (lr (pv 0) rfl) (aA _)) (ff (aw gF (pv 1) (lM (v:=.int 40) rfl CA.gI.1 CA.gI.2) (aA _))))) (ag j5) aD)
  (ag (aq (cQ (pv 0) CA.c4 CA.mt4_unchecked_many (fun _ _=>(aL.g 49)) hr (aa (pv 1) ab)))),?_⟩
 refine ⟨_,rfl,_,rfl,x,_,dx,fs,_,rfl,hx,(CA.c4 fw hf),(CA.na4_least fw hf),fl.least,_,_,rfl,rfl,_,rfl,aZ (by lia) ⟨_,rfl,_,_,rfl,rfl,_,rfl,aZ (by lia) ?_⟩⟩
 exact ⟨fw,hf,_,rfl,x,dx,fs,rfl,hx,fl.no "unchecked_many" (by decide) (by decide),_,rfl,x,n,rfl,n1,n40,q⟩
theorem zz (aL:Al P w K mg base ca 51) (F:b7 K ca 51 "bare" "Bows.bare" si):D P w K mg base ca 51:=by
 refine cm F (fun _ _ _ _ _ _=>eC fun _=>rfl) (F.ok AG (fun vs H Q E h=>?_) (fun cZ AZ oZ sZ H vs Q E hr h=>?_))
 ·obtain ⟨x,rfl,q⟩:=h
  rfl
 obtain ⟨x,rfl,q⟩:=h
 refine ⟨_,ag (aq (bj ab)),?_⟩
 have q:∀ (p:FD) (H':Hp),ae H H'->H p=none->H' p=some (.lst [])->Q (.ref p) H':=fun p H' s f h=>q _ _ s ⟨p,rfl,f,⟨[],h,.nil⟩⟩
 exact ⟨FI _,fun p hp=>q p _ (ae.new (ae.refl H) hp _) hp upd_same⟩
theorem Cq (aL:Al P w K mg base ca 52) (F:b7 K ca 52 "bare" "Rooms.bare" tO):D P w K mg base ca 52:=by
 refine cm F (fun _ _ _ _ _ _=>eC fun _=>rfl) (F.ok A2 (fun vs H Q E h=>?_) (fun cZ AZ oZ sZ H vs Q E hr h=>?_))
 ·obtain ⟨x,rfl,q⟩:=h
  rfl
 obtain ⟨x,rfl,q⟩:=h
 refine ⟨_,ag (aq (bj ab)),?_⟩
 have q:∀ (p:FD) (H':Hp),ae H H'->H p=none->H' p=some (.lst [])->Q (.ref p) H':=fun p H' s f h=>q _ _ s ⟨p,rfl,f,aR.nil h⟩
 exact ⟨FI _,fun p hp=>q p _ (ae.new (ae.refl H) hp _) hp upd_same⟩
theorem zZ (aL:Al P w K mg base ca 53) (F:b7 K ca 53 "bare" "Floors.bare" rH):D P w K mg base ca 53:=by
 refine cm F (fun _ _ _ _ _ _=>eC fun _=>rfl) (F.ok Cs (fun vs H Q E h=>?_) (fun cZ AZ oZ sZ H vs Q E hr h=>?_))
 ·obtain ⟨x,rfl,q⟩:=h
  rfl
 obtain ⟨x,rfl,q⟩:=h
 refine ⟨_,ag (aq (aY (aa af (aa (bj ab) ab)))),?_⟩
 have q:∀ (t p:FD) (H':Hp),ae H H'->H t=none->H p=none->H' t=some (.tup [.int 2,.ref p])->H' p=some (.lst [])->Q (.ref t) H':=fun t p H' s f f' h h'=>q _ _ s ⟨t,p,[],rfl,f',h,⟨[],h',.nil⟩,.refl _,.nil⟩
 refine ⟨FI _,fun p hp=>⟨(by show 2<=sizeLine; decide),fun t ht=>?_⟩⟩
 have s1:=ae.new (ae.refl H) hp (.lst [])
 have s2:=ae.new s1 ht (.tup [.int 2,.ref p])
 exact q t p _ s2 (s1.free ht) hp upd_same ((upd_ne (ar upd_same ht)).trans upd_same)
theorem zg (aL:Al P w K mg base ca 54) (F:b7 K ca 54 "bare" "Turns.bare" tq):D P w K mg base ca 54:=by
 refine cm F (fun _ _ _ _ _ _=>eC fun _=>rfl) (F.ok zU (fun vs H Q E h=>?_) (fun cZ AZ oZ sZ H vs Q E hr h=>?_))
 ·obtain ⟨x,rfl,q⟩:=h
  rfl
 obtain ⟨x,rfl,q⟩:=h
 refine ⟨_,ag (aq (bj ab)),?_⟩
 have q:∀ (p:FD) (H':Hp),ae H H'->H p=none->H' p=some (.lst [])->Q (.ref p) H':=fun p H' s f h=>q _ _ s ⟨p,rfl,f,h⟩
 exact ⟨FI _,fun p hp=>q p _ (ae.new (ae.refl H) hp _) hp upd_same⟩
theorem B3 (aL:Al P w K mg base ca 56) (F:b7 K ca 56 "joined" "Bows.joined" rg):D P w K mg base ca 56:=by
 refine cm F (fun _ _ _ _ _ _=>gn fun _ _ _=>rfl) (F.ok uC (fun vs H Q E h=>?_) (fun cZ AZ oZ sZ H vs Q E hr h=>?_))
 ·obtain ⟨x,dx,fs,wd,vl,vr,bl,br,rfl,hx,fl,thl,thr,h39,q⟩:=h
  rfl
 obtain ⟨x,dx,fs,wd,vl,vr,bl,br,rfl,hx,fl,thl,thr,h39,q⟩:=h
 refine ⟨_,ah (av (i:=3) uC.nd rfl (Gd rfl) (aj aE (aj b5 af (aC bA rfl CA.eJ du (aa (pv 1) ab))) af))
  (ag (aq (aj eG (aj eG (bj (aa (aY (aa af (aa (pv 3) ab))) ab)) (aF (aL.g 36) hr (aa (pv 1) (aa af ab)))) (aF (aL.g 36) hr (aa (pv 2) (aa (aj aE (pv 3) af) ab)))))),?_⟩
 obtain ⟨_,l,rfl,_,hl⟩:=thl
 obtain ⟨_,r,rfl,_,hr2⟩:=thr
 have lps:(cK bl).length<=40:=by rw [cB]; lia
 have lqs:(cK br).length<=40:=by rw [cB]; lia
 have q:∀ (p:FD) (H':Hp),ae H H'->H p=none->aX H' p (cg (cK bl) (cK br))->Q (.ref p) H':=fun p H' s f h=>q _ _ s ⟨p,rfl,f,h⟩
 generalize cK bl=ps at hl lps q
 generalize cK br=qs at hr2 lqs q
 obtain ⟨xs,el,lxs,prl⟩:=hl.len
 refine ⟨_,rfl,l,xs,rfl,.inl (ai.of el),_,_,rfl,rfl,.inl ⟨by decide,by decide⟩,_,_,rfl,rfl,?_⟩
 try dsimp only
 rw [lxs]
 refine ⟨_,rfl,(by show 2<=sizeLine; decide),fun t0 ht0=>⟨(by show 1<=sizeLine; decide),fun p0 hp0=>?_⟩⟩
 have s1:=ae.new (ae.refl H) ht0 (.tup [.int 0,.int (2*(ps.length:Int)+1)])
 have s2:=ae.new s1 hp0 (.lst [.ref t0])
 have ntp:t0≠p0:=ar upd_same hp0
 have hp0':upd (upd H t0 (.tup [.int 0,.int (2*(ps.length:Int)+1)])) p0 (.lst [.ref t0]) p0=some (.lst [.ref t0]):=upd_same
 have pr0:bC (upd (upd H t0 (.tup [.int 0,.int (2*(ps.length:Int)+1)])) p0 (.lst [.ref t0])) [.ref t0] [(0,2*(ps.length:Int)+1)]:=.cons ⟨t0,rfl,(upd_ne ntp).trans upd_same⟩ .nil
 generalize upd (upd H t0 (.tup [.int 0,.int (2*(ps.length:Int)+1)])) p0 (.lst [.ref t0])=H2 at s2 hp0' pr0 |-
 refine ⟨_,rfl,l,ps,1,rfl,hl.same s2,by lia,fun D H3 s3 fD hD=>?_⟩
 obtain ⟨zs,ez,lz,prz⟩:=hD.len
 have s23:=s2.trans s3
 refine ⟨p0,D,_,_,rfl,rfl,s3 _ _ hp0',ez,?_,fun p1 hp1=>?_⟩
 ·rw [lz,Do]; exact sz (by simp; lia)
 have s4:=ae.new s23 hp1 (.lst ([.ref t0]++zs))
 have k4:=ae.new (ae.refl H3) hp1 (.lst ([.ref t0]++zs))
 have pr4:bC (upd H3 p1 (.lst ([.ref t0]++zs))) ([.ref t0]++zs) ([(0,2*(ps.length:Int)+1)]++ps.map (up 1)):=((pr0.same s3).app prz).same k4
 have h14:upd H3 p1 (.lst ([.ref t0]++zs)) p1=some (.lst ([.ref t0]++zs)):=upd_same
 generalize upd H3 p1 (.lst ([.ref t0]++zs))=H4 at s4 pr4 h14 |-
 refine ⟨_,rfl,_,rfl,_,_,rfl,rfl,?_⟩
 try dsimp only
 refine ⟨r,qs,_,rfl,hr2.same s4,by lia,fun D2 H5 s5 fD2 hD2=>?_⟩
 obtain ⟨ws,ew,lw,prw⟩:=hD2.len
 have s45:=s4.trans s5
 refine ⟨p1,D2,_,_,rfl,rfl,s5 _ _ h14,ew,?_,fun p hp=>?_⟩
 ·rw [Fw,lz,lw,Do,Do]; exact sz (by simp; lia)
 have k6:=ae.new (ae.refl H5) hp (.lst (([.ref t0]++zs)++ws))
 refine q p _ (s45.trans k6) (s45.free hp) ⟨_,upd_same,?_⟩
 have:=((pr4.same s5).app prw).same k6
 unfold cg
 rw [show 2*(ps.length:Int)+1+1=2*(ps.length:Int)+2 by lia] at this
 exact this
theorem AX (aL:Al P w K mg base ca 57) (F:b7 K ca 57 "joined" "Rooms.joined" qQ):D P w K mg base ca 57:=by
 refine cm F (fun _ _ _ _ _ _=>gn fun _ _ _=>rfl) (F.ok iZ (fun vs H Q E h=>?_) (fun cZ AZ oZ sZ H vs Q E hr h=>?_))
 ·obtain ⟨x,dx,fs,wd,vl,vr,bl,br,rfl,hx,fl,thl,thr,h39,q⟩:=h
  rfl
 obtain ⟨x,dx,fs,wd,vl,vr,bl,br,rfl,hx,fl,thl,thr,h39,q⟩:=h
 refine ⟨_,ah (av (i:=3) iZ.nd rfl (LS rfl) (xD (pv 0) (CA.c4 1 (by decide)) (CA.mt4_size_of 1 (by decide)) (aL.g 32) hr (aa (pv 1) ab)))
  (ah (av (i:=4) iZ.nd rfl (Gd rfl) (bj (aa af ab)))
  (ah (av (i:=5) iZ.nd rfl (Gd rfl) (bj ab))
  (ah (bV Gr rfl (aO (pv 1)) (az (i:=6) iZ.nd rfl (Gd rfl)) (ag (aJ (aw cG (aG aN (pv 6) (e8 dN af) (fun _ _=>rfl)) (aj aM (pv 3) af) (aA _)) (ag (aW (cz FR K6 K7 mD (pv 4) (aa (aF (aL.g 38) hr (aa (pv 6) (aa af ab))) ab)))) (ag (aW (cz FR Gf Gg bx (pv 5) (aa (aF (aL.g 38) hr (aa (pv 6) (aa af ab))) ab)))))))
  (ag (aq (aj eG (aj eG (bj (aa (pv 4) ab)) (pv 5)) (bS rfl (aO (pv 2)) rfl rfl rfl rfl (N:=["room","left_size"]) (.own (.cap (j:=3) rfl rfl rfl .nil)) (fun _ _ _ _ _ _=>(az (i:=0) (by show GP (["room","left_size"]:List Str); decide +kernel) rfl (Gd rfl))) (fun _ _ _ _ _ _=>bZ) (fun _ _ _ _ _ _=>(aF (aL.g 38) hr (aa (pv 0) (aa (aj aE (pv 1) af) ab))))))))))),?_⟩
 have thk:=thl
 obtain ⟨Ha,l,rfl,_,hl⟩:=thl
 obtain ⟨Hb,r,rfl,_,hr2⟩:=thr
 have rm:=cS bl
 have rm2:=cS br
 have hij:bl.size+br.size<=40:=by lia
 have fno:fs.lookup ("size_of" : Str)=none:=fl.no "size_of" (by decide) (by decide)
 have q:∀ (p:FD) (H':Hp),ae H H'->H p=none->aR H H' p (joinR bl.size (cu bl) (cu br))->Q (.ref p) H':=fun p H' s f h=>q _ _ s ⟨p,rfl,f,h⟩
 generalize cu bl=ls at hl rm q
 generalize cu br=rs at hr2 rm2 q
 generalize ei:bl.size=i at rm hij q
 generalize br.size=j at rm2 hij
 obtain ⟨xs,el,lxs⟩:=hl.len
 obtain ⟨zs,ez,lzs⟩:=hr2.len
 have ln:=rm.lens
 have ln2:=rm2.lens
 refine ⟨_,rfl,x,dx,fs,rfl,hx,fno,_,rfl,x,.ref l,bl,rfl,thk,by lia,fun H1 s1=>?_⟩
 rw [ei]
 refine ⟨(by show 1<=sizeLine; decide),fun pf hpf=>⟨FI _,fun po hpo=>?_⟩⟩
 have k2:=ae.new s1 hpf (.lst [.int 0])
 have s3:=ae.new k2 hpo (.lst [])
 have fpf:H pf=none:=s1.free hpf
 have fpo:H po=none:=k2.free hpo
 have nfo:pf≠po:=ar upd_same hpo
 have h3f:upd (upd H1 pf (.lst [.int 0])) po (.lst []) pf=some (.lst [.int 0]):=(upd_ne nfo).trans upd_same
 have h3o:upd (upd H1 pf (.lst [.int 0])) po (.lst []) po=some (.lst []):=upd_same
 generalize upd (upd H1 pf (.lst [.int 0])) po (.lst [])=H3 at s3 h3f h3o |-
 refine ⟨_,rfl,l,rfl,⟨_,ai.of (s3 _ _ el)⟩,bY (xs:=xs) (fun k σ H'=>∃ (o:Option V),σ=[some (.ref x),some (.ref l),some (.ref r),some (.int (i:Int)),some (.ref pf),some (.ref po),o]/\ae H H'/\fG H3 H'/\H' pf=some (.lst (((0:Int)::aH 1 ((ls.take k).filter (aS i)).flatten).map V.int))/\aR H3 H' po (((ls.take k).filter fun r=>!aS i r).map (aH 1))/\k<=ls.length) ⟨_,rfl,s3,fG.refl H3,h3f,aR.nil h3o,FI _⟩ (fun k σ H' _ h=>by obtain ⟨o,_,sm,_⟩:=h; exact ai.of (sm _ _ el)) ?_ ?_⟩
 ·rintro k v σ H' hv ⟨o,rfl,sm,st,hf,ho,hk⟩
  obtain ⟨b,ns,rfl,hn,hb,_⟩:=hl.at el hv
  have hlt:k < ls.length:=(Fs.mp hn).1
  have hm:ns∈ls:=FG hn
  have qD:=ln.2 ns hm
  have tk:=cE (f:=aS i) hn
  have tk2:=cE (f:=fun r=>!aS i r) hn
  refine ⟨_,rfl,_,rfl,b,_,_,_,rfl,rfl,ai.of (sm _ _ hb),je (rm.ne ns hm),_,rfl,_,_,rfl,rfl,rfl,_,rfl,?_⟩
  by_cases g:ns.getD (ns.length - 1) 0=(i:Int) - 1
  ·have hg:aS i ns=true:=decide_eq_true g
   have e0:=jE rm hn hg
   rw [e0] at hf
   refine bG (congrArg V.int g) ⟨_,rfl,.inl ⟨rfl,_,ai.of hf⟩,_,rfl,b,ns,1,rfl,ai.of (sm _ _ hb),by lia,fun c H5 s5 fc hc=>⟨pf,c,_,_,rfl,rfl,s5 _ _ hf,hc,?_,?_⟩⟩
   ·simp only [Do,List.flatten_nil,FZ]; exact sz (by unfold aH; simp; lia)
   refine ⟨_,rfl,(sm.trans s5).upd fpf _,(st.same s5).upd pf _,?_,?_,hlt⟩
   ·rw [upd_same,tk,if_pos hg,e0,IV,<- Fu]
    unfold aH
    simp
   ·rw [tk2,if_neg (by rw [hg]; decide),Gj]
    exact (ho.same s5).updC h3f (Ih nfo)
  ·have hg:¬ aS i ns=true:=fun z=>g (of_decide_eq_true z)
   have hg':(!aS i ns)=true:=by cases e:aS i ns with
    | true=>exact absurd e hg
    | false=>rfl
   obtain ⟨ys,ey,ly⟩:=ho.len
   have lf:=Gz (fun r=>!aS i r) (ls.take k)
   rw [Do] at ly
   rw [FU] at lf
   refine aZ (fun z=>g (by injection z)) ⟨_,rfl,.inl ⟨rfl,_,ai.of ey⟩,_,rfl,b,ns,1,rfl,ai.of (sm _ _ hb),by lia,fun c H5 s5 fc hc=>⟨po,_,_,rfl,rfl,s5 _ _ ey,fX (by lia),?_⟩⟩
   refine ⟨_,rfl,(sm.trans s5).upd fpo _,(st.same s5).upd po _,?_,?_,hlt⟩
   ·rw [upd_ne nfo,tk,if_neg hg,Gj]
    exact s5 _ _ hf
   ·rw [tk2,if_pos hg',Fu]
    exact ho.push ey s5 fc hc (st.free' fc)
 ·rintro σ H5 ⟨o,rfl,sm,st,hf,ho,hk⟩
  rw [FB (by lia)] at hf ho
  refine ⟨_,rfl,(by show 1<=sizeLine; decide),fun p1 hp1=>?_⟩
  have k6:=ae.new (ae.refl H5) hp1 (.lst [.ref pf])
  have nf1:pf≠p1:=ar hf hp1
  have l1:aR H (upd H5 p1 (.lst [.ref pf])) p1 [(0:Int)::aH 1 (ls.filter (aS i)).flatten]:=⟨[pf],upd_same,.cons ⟨(upd_ne nf1).trans hf,fpf,nf1⟩ .nil,by simp⟩
  have h1:upd H5 p1 (.lst [.ref pf]) p1=some (.lst [.ref pf]):=upd_same
  have lo:=ho.same k6
  have s6:=sm.trans k6
  generalize upd H5 p1 (.lst [.ref pf])=H6 at l1 h1 lo s6 |-
  obtain ⟨ys,ey,ly⟩:=lo.len
  have lf:=Gz (fun r=>!aS i r) ls
  rw [Do] at ly
  refine ⟨_,rfl,p1,po,_,_,rfl,rfl,h1,ey,sz (by simp; lia),fun p2 hp2=>?_⟩
  have s7:=ae.new s6 hp2 (.lst ([.ref pf]++ys))
  have l2:=l1.cat h1 lo ey s3 (fun c hc=>by
   have:c=pf:=by simpa using hc
   rw [this,h3f]; simp) hp2
  have h2:upd H6 p2 (.lst ([.ref pf]++ys)) p2=some (.lst ([.ref pf]++ys)):=upd_same
  generalize upd H6 p2 (.lst ([.ref pf]++ys))=H7 at s7 l2 h2 |-
  have ez7:=s7 _ _ ez
  refine ⟨_,rfl,r,rfl,⟨_,ai.of ez7⟩,fun D hD=>bR (xs:=zs) (fun k ws H'=>ae H7 H'/\H' D=some (.lst ws)/\aR H7 H' D ((rs.take k).map (aH ((i:Int)+1)))/\k<=rs.length) (sz (by lia)) ⟨ae.new (ae.refl H7) hD _,upd_same,aR.nil upd_same,FI _⟩ (fun k ws H' hk h=>⟨ai.of (h.1 _ _ ez7),?_⟩) (fun k v ws H' R R0 hx h r0 r1=>?_) (fun ws H' h=>?_)⟩
  ·obtain ⟨us,eu,lu⟩:=h.2.2.1.len
   rw [h.2.1] at eu
   cases eu
   rw [lu,Do,FU]
   lia
  ·obtain ⟨sk,hw,lk,hk⟩:=h
   obtain ⟨b,ns,rfl,hn,hb,_⟩:=hr2.at ez hx
   have hlt:k < rs.length:=(Fs.mp hn).1
   have qD:=ln2.2 ns (FG hn)
   refine ⟨Ext.set rfl,fV (bw ⟨_,rfl,_,rfl,_,_,rfl,rfl,b,ns,_,rfl,ai.of ((s7.trans sk) _ _ hb),by lia,fun c H9 s9 fc hc=>r0 _ _ (s9 _ _ hw) ⟨(sk.trans s9).upd hD _,upd_same,?_,hlt⟩⟩)⟩
   rw [FT,hn,Fu]
   exact lk.push hw s9 fc hc (sk.free fc)
  ·obtain ⟨sk,hw,lk,hk⟩:=h
   rw [FB (by lia)] at lk
   obtain ⟨us,eu,lu⟩:=lk.len
   rw [hw] at eu
   cases eu
   rw [Do] at lu
   refine ⟨p2,D,_,_,rfl,rfl,sk _ _ h2,hw,sz (by simp; lia),fun p hp=>?_⟩
   have s8:=s7.trans sk
   refine q p _ (ae.new s8 hp _) (s8.free hp) ?_
   exact (l2.same sk).cat (sk _ _ h2) lk hw s7 (fun c hc z=>by
    obtain ⟨b,ns,e,_,hb,_⟩:=l2.mem h2 hc
    cases e
    rw [hb] at z
    cases z) hp
theorem zE (aL:Al P w K mg base ca 58) (F:b7 K ca 58 "joined" "Floors.joined" rR):D P w K mg base ca 58:=by
 refine cm F (fun _ _ _ _ _ _=>gn fun _ _ _=>rfl) (F.ok lA (fun vs H Q E h=>?_) (fun cZ AZ oZ sZ H vs Q E hr h=>?_))
 ·obtain ⟨x,dx,fs,wd,vl,vr,bl,br,rfl,hx,fl,thl,thr,h39,q⟩:=h
  rfl
 obtain ⟨x,dx,fs,wd,vl,vr,bl,br,rfl,hx,fl,thl,thr,h39,q⟩:=h
 refine ⟨_,ah (av (i:=3) lA.nd rfl (Gd rfl) (aj aM (aG bM (pv 1) af (fun _ _=>rfl)) af))
  (ah (av (i:=4) lA.nd rfl (Gd rfl) (aj aM (aj aE (pv 3) (aG bM (pv 2) af (fun _ _=>rfl))) af))
  (ah (av (i:=5) lA.nd rfl (Gd rfl) (aj eG (aG bM (pv 1) af (fun _ _=>rfl)) (aF (aL.g 36) hr (aa (aG bM (pv 2) af (fun _ _=>rfl)) (aa (pv 3) ab)))))
  (eQ (aJ (aw gF (pv 3) af (aA _)) (ag (aW (cz FR Gf Gg bx (pv 5) (aa (aY (aa af (aa (pv 3) ab))) ab)))) aD)
  (eQ (aJ (aw gF (aj aM (pv 4) (pv 3)) af (aA _)) (ag (aW (cz FR Gf Gg bx (pv 5) (aa (aY (aa (pv 3) (aa (pv 4) ab))) ab)))) aD)
  (ag (aq (aY (aa (aj aE (pv 4) af) (aa (aC gx rfl CA.dO c9 (aa (pv 5) ab)) ab))))))))),?_⟩
 obtain ⟨_,tl,l,ps,rfl,_,htl,hl,pmp,rip⟩:=thl
 obtain ⟨_,tr,r,qs,rfl,_,htr,hr2,pmq,riq⟩:=thr
 have fp:=fY pmp rip
 have fq:=fY pmq riq
 have hij:bl.size+br.size<=40:=by lia
 have q:∀ (t p:FD) (cs:List Pair) (H':Hp),ae H H'->H t=none->H p=none->H' t=some (.tup [.int ((bl.size:Int)+(br.size:Int)+3),.ref p])->aX H' p cs->cs.Perm (cF bl.size br.size ps qs)->cs.Pairwise bH->Q (.ref t) H':=fun t p cs H' s f f' h h' pm ri=>q _ _ s ⟨t,p,cs,rfl,f',by rw [h,show (((Bt.node bl br).size:Nat):Int)+2=(bl.size:Int)+(br.size:Int)+3 by show ((bl.size+br.size+1:Nat):Int)+2=_; lia],h',pm.trans (lQ bl br pmp pmq),ri⟩
 clear pmp pmq rip riq
 generalize bl.size=i at *
 generalize br.size=j at *
 have lp:=fp.len
 have lq:=fq.len
 have at0:∀ (c:Int) (a:FD),bW [V.int c,.ref a] 0=some (.int c):=fun _ _=>rfl
 have at1:∀ (c:Int) (a:FD),bW [V.int c,.ref a] 1=some (.ref a):=fun _ _=>rfl
 refine ⟨_,rfl,tl,_,_,_,rfl,rfl,bg.of htl,at0 _ _,_,_,rfl,rfl,?_⟩
 try dsimp only
 rw [show (i:Int)+2 - 1=(i:Int)+1 by lia]
 refine ⟨_,rfl,_,rfl,tr,_,_,_,rfl,rfl,bg.of htr,at0 _ _,_,_,rfl,rfl,_,_,rfl,rfl,?_⟩
 try dsimp only
 rw [show (i:Int)+1+((j:Int)+2) - 1=(i:Int)+(j:Int)+2 by lia]
 refine ⟨_,rfl,tl,_,_,_,rfl,rfl,bg.of htl,at1 _ _,_,rfl,tr,_,_,_,rfl,rfl,bg.of htr,at1 _ _,_,rfl,r,qs,_,rfl,hr2,by lia,fun pu H1 s1 fu hu=>?_⟩
 obtain ⟨xs,el,lx,prl⟩:=(hl.same s1).len
 obtain ⟨zs,ez,lz,prz⟩:=hu.len
 rw [Do] at lz
 refine ⟨l,pu,_,_,rfl,rfl,el,ez,sz (by lia),fun pc hpc=>?_⟩
 have s2:=ae.new s1 hpc (.lst (xs++zs))
 have fpc:H pc=none:=s1.free hpc
 have k2:=ae.new (ae.refl H1) hpc (.lst (xs++zs))
 have hc2:aX (upd H1 pc (.lst (xs++zs))) pc (ps++qs.map (up ((i:Int)+1))):=⟨_,upd_same,(prl.app prz).same k2⟩
 generalize upd H1 pc (.lst (xs++zs))=H2 at s2 hc2 |-
 refine ⟨fun σ H'=>σ=[some (.ref x),some (.ref tl),some (.ref tr),some (.int ((i:Int)+1)),some (.int ((i:Int)+(j:Int)+2)),some (.ref pc)]/\ae H H'/\aX H' pc (ps++qs.map (up ((i:Int)+1))++(if i=0 then [] else [(0,(i:Int)+1)])),?_,?_⟩
 ·refine ⟨_,rfl,_,_,rfl,rfl,_,rfl,?_⟩
  by_cases h:(i:Int)+1 > 1
  ·refine bG h ?_
   obtain ⟨ys,ey,ly,pry⟩:=hc2.len
   simp only [Fw,Do] at ly
   refine ⟨_,rfl,.inl ⟨rfl,_,ai.of ey⟩,_,rfl,(by show 2<=sizeLine; decide),fun t1 ht1=>?_⟩
   refine ⟨pc,_,_,rfl,rfl,(upd_ne (ar ey ht1)).trans ey,fX (by lia),rfl,(ae.new s2 ht1 _).upd fpc _,?_⟩
   rw [if_neg (by lia)]
   exact aX.push ey pry ht1
  ·refine aZ h ⟨rfl,s2,?_⟩
   rw [if_pos (by lia),Gj]
   exact hc2
 rintro σ H3 ⟨rfl,s3,hc3⟩
 refine ⟨fun σ H'=>σ=[some (.ref x),some (.ref tl),some (.ref tr),some (.int ((i:Int)+1)),some (.int ((i:Int)+(j:Int)+2)),some (.ref pc)]/\ae H H'/\aX H' pc (ps++qs.map (up ((i:Int)+1))++(if i=0 then [] else [(0,(i:Int)+1)])++(if j=0 then [] else [((i:Int)+1,(i:Int)+(j:Int)+2)])),?_,?_⟩
 ·refine ⟨_,rfl,_,rfl,_,_,rfl,rfl,_,_,rfl,rfl,_,rfl,?_⟩
  by_cases h:(i:Int)+(j:Int)+2 - ((i:Int)+1) > 1
  ·refine bG h ?_
   obtain ⟨ys,ey,ly,pry⟩:=hc3.len
   have l1:(if i=0 then ([]:List Pair) else [(0,(i:Int)+1)]).length<=1:=by split<;>simp
   simp only [Fw,Do] at ly
   refine ⟨_,rfl,.inl ⟨rfl,_,ai.of ey⟩,_,rfl,_,rfl,(by show 2<=sizeLine; decide),fun t1 ht1=>?_⟩
   refine ⟨pc,_,_,rfl,rfl,(upd_ne (ar ey ht1)).trans ey,fX (by lia),rfl,(ae.new s3 ht1 _).upd fpc _,?_⟩
   rw [if_neg (show ¬ j=0 by lia)]
   exact aX.push ey pry ht1
  ·refine aZ h ⟨rfl,s3,?_⟩
   rw [if_pos (show j=0 by lia),Gj]
   exact hc3
 rintro σ H4 ⟨rfl,s4,hc4⟩
 have pm4:(ps++qs.map (up ((i:Int)+1))++(if i=0 then [] else [(0,(i:Int)+1)])++(if j=0 then [] else [((i:Int)+1,(i:Int)+(j:Int)+2)])).Perm (cF i j ps qs):=by
  unfold cF df
  rw [FX,FX,FX]
  refine GW ps ?_
  exact IG
 have l4:=pm4.length_eq
 have l5:=ja fp fq
 refine ⟨_,rfl,_,_,rfl,rfl,_,rfl,pc,_,rfl,hc4,by lia,fun p cs H5 s5 fp5 hp5 pm5 rs5=>⟨(by show 2<=sizeLine; decide),fun t ht=>?_⟩⟩
 have s45:=s4.trans s5
 have s6:=ae.new (ae.refl H5) ht (.tup [.int ((i:Int)+(j:Int)+2+1),.ref p])
 have h6:upd H5 t (.tup [.int ((i:Int)+(j:Int)+2+1),.ref p]) t=some (.tup [.int ((i:Int)+(j:Int)+3),.ref p]):=by rw [upd_same,show (i:Int)+(j:Int)+2+1=(i:Int)+(j:Int)+3 by lia]
 exact q t p cs _ (s45.trans s6) (s45.free ht) (s4.free fp5) h6 (hp5.same s6) (pm5.trans pm4) rs5
theorem Bl (aL:Al P w K mg base ca 59) (F:b7 K ca 59 "joined" "Turns.joined" tH):D P w K mg base ca 59:=by
 refine cm F (fun _ _ _ _ _ _=>gn fun _ _ _=>rfl) (F.ok BC (fun vs H Q E h=>?_) (fun cZ AZ oZ sZ H vs Q E hr h=>?_))
 ·obtain ⟨x,dx,fs,wd,vl,vr,bl,br,rfl,hx,fl,thl,thr,h39,q⟩:=h
  rfl
 obtain ⟨x,dx,fs,wd,vl,vr,bl,br,rfl,hx,fl,thl,thr,h39,q⟩:=h
 refine ⟨_,ag (aq (aj eG (aj eG (aF (aL.g 38) hr (aa (pv 1) (aa af ab))) (bj (aa af ab))) (aF (aL.g 38) hr (aa (pv 2) (aa (aj aE (aC bA rfl CA.eJ du (aa (pv 1) ab)) af) ab))))),?_⟩
 obtain ⟨_,l,rfl,_,hl⟩:=thl
 obtain ⟨_,r,rfl,_,hr2⟩:=thr
 have lps:(bO bl).length<=40:=by rw [cp]; lia
 have lqs:(bO br).length<=40:=by rw [cp]; lia
 have q:∀ (p:FD) (H':Hp),ae H H'->H p=none->H' p=some (.lst ((cU (bO bl) (bO br)).map V.int))->Q (.ref p) H':=fun p H' s f h=>q _ _ s ⟨p,rfl,f,h⟩
 generalize bO bl=ps at hl lps q
 generalize bO br=qs at hr2 lqs q
 have ml:(ps.map V.int).length=ps.length:=Do _
 refine ⟨_,rfl,l,ps,1,rfl,ai.of hl,by lia,fun D H1 s1 fD hD=>?_⟩
 refine ⟨(by show 1<=sizeLine; decide),fun p0 hp0=>?_⟩
 have s2:=ae.new s1 hp0 (.lst [.int 0])
 have nD0:D≠p0:=ar hD hp0
 refine ⟨D,p0,_,_,rfl,rfl,(upd_ne nD0).trans hD,upd_same,?_,fun p1 hp1=>?_⟩
 ·rw [Do,Do]; exact sz (by simp; lia)
 have s3:=ae.new s2 hp1 (.lst ((ps.map (·+1)).map V.int++[.int 0]))
 have h13:upd (upd H1 p0 (.lst [.int 0])) p1 (.lst ((ps.map (·+1)).map V.int++[.int 0])) p1=some (.lst ((ps.map (·+1)).map V.int++[.int 0])):=upd_same
 generalize upd (upd H1 p0 (.lst [.int 0])) p1 (.lst ((ps.map (·+1)).map V.int++[.int 0]))=H3 at s3 h13 |-
 refine ⟨_,rfl,_,rfl,l,_,rfl,.inl (ai.of (s3 _ _ hl)),_,_,rfl,rfl,?_⟩
 try dsimp only
 rw [ml]
 refine ⟨r,qs,_,rfl,ai.of (s3 _ _ hr2),by lia,fun D2 H4 s4 fD2 hD2=>?_⟩
 have s34:=s3.trans s4
 refine ⟨p1,D2,_,_,rfl,rfl,s4 _ _ h13,hD2,?_,fun p hp=>?_⟩
 ·simp only [Fw,Do]; exact sz (by simp; lia)
 refine q p _ (ae.new s34 hp _) (s34.free hp) ?_
 rw [upd_same]
 unfold cU
 rw [Fu,Fu]
 rfl
theorem DA (aL:Al P w K mg base ca 61) (F:b7 K ca 61 "thing_by_parts" "SplitFamily.thing_by_parts" vI):D P w K mg base ca 61:=by
 refine CH 2 41 (by decide) F (fun _ _ _ _ _ _=>Bv fun _ _ _ _=>rfl) fun n eD=>bL.up (F.ok gG (fun vs H Q E h=>?_) (fun cZ AZ oZ sZ H vs Q E hr h=>?_))
 ·obtain ⟨fw,hf,x,dx,fs,wd,pc,k,t,rfl,hx,fl,hc,hn,hk,k40,q⟩:=h
  rfl
 obtain ⟨fw,hf,x,dx,fs,wd,pc,k,t,rfl,hx,fl,hc,hn,hk,k40,q⟩:=h
 refine ⟨_,ah (aJ (aw cG (pv 2) af (aA _)) (ag (aq (Ey (pv 0) CA.c4 CA.mt4_bare (aL.g 55) hr (hjk:=by lia)))) aD)
  (ah (av (i:=4) gG.nd rfl (Gd rfl) af)
  (ah (av (i:=5) gG.nd rfl (Gd rfl) (pv 3))
  (ah (j9 Gr (aw nk (pv 5) (aj b5 (aG aN (pv 1) (pv 4) (fun _ _=>rfl)) (aG aN (pv 1) (aj aM (aj aM (pv 2) af) (pv 4)) (fun _ _=>rfl))) (aA _)) (ah (oH (i:=5) gG.nd rfl (Gd rfl) (aj b5 (aG aN (pv 1) (pv 4) (fun _ _=>rfl)) (aG aN (pv 1) (aj aM (aj aM (pv 2) af) (pv 4)) (fun _ _=>rfl))) zW)
  (ag (oH (i:=4) gG.nd rfl (Gd rfl) af vg))))
  (ah (av (i:=6) gG.nd rfl (Gd rfl) (aj aM (aj aM (pv 2) af) (pv 4)))
  (ah (av (i:=7) gG.nd rfl (Gd rfl) (cQ (pv 0) CA.c4 CA.mt4_thing_by_parts (fun _ _=>eD) hr (aa (pv 1) (aa (pv 4) (aa (aj ft (pv 5) (aG aN (pv 1) (pv 6) (fun _ _=>rfl))) ab))) (hjk:=by lia)))
  (ah (av (i:=8) gG.nd rfl (Gd rfl) (cQ (pv 0) CA.c4 CA.mt4_thing_by_parts (fun _ _=>eD) hr (aa (pv 1) (aa (pv 6) (aa (aj dX (pv 5) (aG aN (pv 1) (pv 6) (fun _ _=>rfl))) ab))) (hjk:=by lia)))
  (ag (aq (cQ (pv 0) CA.c4 CA.mt4_joined (aL.g 60) hr (aa (pv 7) (aa (pv 8) ab)) (hjk:=by lia)))))))))),?_⟩
 refine xx fun vT hT=>?_
 refine ⟨_,rfl,rfl,_,rfl,?_⟩
 cases t with
 | leaf =>
  have hn:0=n:=hn
  exact bG (congrArg V.int (by lia)) ⟨fw,hf,_,rfl,x,dx,fs,rfl,hx,fl.no "bare" (by decide) (by decide),x,rfl,fun v H' s th=>q v H' s th⟩
 | node l r =>
  have hn:l.size+r.size+1=n:=hn
  have lk:(bK k).length=k+1:=bD k
  have at_:∀ (j:Nat) (z:Int),z=(j:Int)->j<=k->bW ((bK k).map V.int) z=some (.int (sh j)):=fun j z ez hj=>by
   have:=dF (ns:=bK k) (i:=z) (by lia) (by lia)
   rw [show z.toNat=j by lia,cJ k j hj] at this
   exact this
  refine aZ (fun z=>by injection z with z; lia) ⟨_,rfl,?_⟩
  refine ⟨fun mm σ H5=>∃ (o1 o2 o3:Option V) (j:Nat),σ=[some (.ref x),some (.ref pc),some (.int (n:Int)),some (.int (aB (.node l r))),some (.int (j:Int)),some (.int (aB (.node l r) - pre n j)),o1,o2,o3]/\H=H5/\j<=l.size/\mm=n - j,⟨_,_,_,_,0,by rw [show pre n 0=0 from rfl,Int.sub_zero]; rfl,rfl,by lia,rfl⟩,?_⟩
  rintro mm σ H5 ⟨o1,o2,o3,j,rfl,rfl,hj,rfl⟩
  have p1:=b6 j
  have p2:=b6 (n - 1 - j)
  have a1:=at_ j (j:Int) rfl (by lia)
  have a2:=at_ (n - 1 - j) ((n:Int) - 1 - (j:Int)) (by lia) (by lia)
  have mc:gR (sh j) (sh (n - 1 - j)):=mulC (a:=j) (b:=n - 1 - j) (by lia) (by lia) (GA _) (by lia) (GA _)
  refine ⟨_,rfl,_,rfl,_,rfl,pc,_,_,_,rfl,rfl,ai.of hc,a1,_,rfl,_,rfl,_,_,rfl,rfl,_,rfl,_,_,rfl,rfl,pc,_,_,_,rfl,rfl,ai.of hc,a2,_,_,rfl,rfl,mc,_,_,rfl,rfl,_,rfl,?_⟩
  have ps:=eK n j
  by_cases h:j < l.size
  ·have go:=lZ (r:=r) h
   rw [hn,show l.size+r.size - j=n - 1 - j by lia] at go
   refine bG (by lia) ⟨fun σ' H6=>σ'=[some (.ref x),some (.ref pc),some (.int (n:Int)),some (.int (aB (.node l r))),some (.int ((j:Int)+1)),some (.int (aB (.node l r) - pre n j - sh j*sh (n - 1 - j))),o1,o2,o3]/\H=H6,?_,?_⟩
   ·rintro σ' H6 ⟨rfl,rfl⟩
    refine ⟨n - (j+1),by lia,o1,o2,o3,j+1,?_,rfl,h,rfl⟩
    rw [show aB (.node l r) - pre n (j+1)=aB (.node l r) - pre n j - sh j*sh (n - 1 - j) by lia]
    rfl
   ·exact ⟨_,rfl,_,rfl,_,rfl,pc,_,_,_,rfl,rfl,ai.of hc,a1,_,rfl,_,rfl,_,_,rfl,rfl,_,rfl,_,_,rfl,rfl,pc,_,_,_,rfl,rfl,ai.of hc,a2,_,_,rfl,rfl,mc,_,_,rfl,rfl,_,rfl,_,_,rfl,rfl,rfl,rfl⟩
  have ej:j=l.size:=by lia
  subst ej
  have bN:=fN l r
  rw [hn] at bN
  have er:n - 1 - l.size=r.size:=by lia
  have b1:=bJ l
  have b2:=bJ r
  have b3:=bU r
  have lt:=jq (bU l) b2 b3
  rw [er] at p2
  refine aZ (by rw [er,bN]; lia) ?_
  subst hT
  refine ⟨_,rfl,_,_,rfl,rfl,_,rfl,_,_,rfl,rfl,?_⟩
  try dsimp only
  have eb:(n:Int) - 1 - (l.size:Int)=(r.size:Int):=by lia
  rw [eb,bN]
  have pd:=iu (x:=aB l) b2 b3
  have a3:=at_ r.size (r.size:Int) rfl (by lia)
  refine ⟨fw,hf,_,rfl,x,dx,fs,rfl,hx,fl.no "thing_by_parts" (by decide) (by decide),_,rfl,_,rfl,_,rfl,_,rfl,_,rfl,pc,_,_,_,rfl,rfl,ai.of hc,a3,_,_,rfl,rfl,za (by lia) (uE (by lia)),l.size,by lia,fw,hf,x,dx,fs,wd,pc,k,l,congrArg (fun z=>[V.ref x,V.ref pc,V.int (l.size:Int),V.int z]) pd.1,hx,fl,hc,rfl,by lia,k40,fun vl H1 s1 th1=>?_⟩
  refine ⟨fw,hf,_,rfl,x,dx,fs,rfl,s1 _ _ hx,fl.no "thing_by_parts" (by decide) (by decide),_,rfl,_,rfl,_,rfl,_,rfl,_,rfl,pc,_,_,_,rfl,rfl,ai.of (s1 _ _ hc),a3,_,_,rfl,rfl,by lia,r.size,by lia,fw,hf,x,dx,fs,wd,pc,k,r,congrArg (fun z=>[V.ref x,V.ref pc,V.int (r.size:Int),V.int z]) pd.2,s1 _ _ hx,fl,s1 _ _ hc,rfl,by lia,k40,fun vr H2 s2 th2=>?_⟩
  have s12:=s1.trans s2
  refine ⟨fw,hf,_,rfl,x,dx,fs,rfl,s12 _ _ hx,fl.no "joined" (by decide) (by decide),_,rfl,_,rfl,x,dx,fs,wd,vl,vr,l,r,rfl,s12 _ _ hx,fl,⟨_,th1.same s2⟩,⟨_,th2⟩,by lia,fun v H' s th=>?_⟩
  exact q v H' (s12.trans s) (th.since s12)
theorem Dh (aL:Al P w K mg base ca 62) (F:b7 K ca 62 "unchecked_thing" "SplitFamily.unchecked_thing" v9):D P w K mg base ca 62:=by
 refine cm F (fun _ _ _ _ _ _=>gn fun _ _ _=>rfl) (F.ok Dw (fun vs H Q E h=>?_) (fun cZ AZ oZ sZ H vs Q E hr h=>?_))
 ·obtain ⟨fw,hf,x,dx,fs,wd,t,rfl,hx,fl,h40,q⟩:=h
  rfl
 obtain ⟨fw,hf,x,dx,fs,wd,t,rfl,hx,fl,h40,q⟩:=h
 refine ⟨_,ag (aq (cQ (pv 0) CA.c4 CA.mt4_thing_by_parts (fun _ _=>(aL.g 61)) hr (aa (aF (aL.g 45) hr (aa (pv 1) ab)) (aa (pv 1) (aa (pv 2) ab))))),?_⟩
 refine ⟨fw,hf,_,rfl,x,dx,fs,rfl,hx,fl.no "thing_by_parts" (by decide) (by decide),_,rfl,(t.size:Int),rfl,by lia,by lia,fun pc H1 s1 fc hc=>?_⟩
 rw [GI] at hc
 exact ⟨_,rfl,_,rfl,t.size,by lia,fw,hf,x,dx,fs,wd,pc,t.size,t,rfl,s1 _ _ hx,fl,hc,rfl,Fy _,h40,fun v H' s th=>q v H' (s1.trans s) (th.since s1)⟩
theorem CV (aL:Al P w K mg base ca 63) (F:b7 K ca 63 "thing_of" "Family.thing_of" vP):D P w K mg base ca 63:=by
 refine cm F (fun _ _ _ _ _ _=>gn fun _ _ _=>rfl) (F.ok xG (fun vs H Q E h=>?_) (fun cZ AZ oZ sZ H vs Q E hr h=>?_))
 ·obtain ⟨fw,hf,x,dx,fs,wd,t,rfl,hx,fl,h40,q⟩:=h
  rfl
 obtain ⟨fw,hf,x,dx,fs,wd,t,rfl,hx,fl,h40,q⟩:=h
 refine ⟨_,ah (av (i:=3) xG.nd rfl (Gd rfl) (cQ (pv 0) CA.c4 CA.mt4_many (fun _ _=>(aL.g 50)) hr (aa (pv 1) ab)))
  (ah (aJ (PW.pt (fZ (aw dH (pv 2) af (aA _)) (ff (aw nk (pv 2) (pv 3) (aA _))))) (ag j5) aD)
  (ag (aq (cQ (pv 0) CA.c4 CA.mt4_unchecked_thing (fun _ _=>(aL.g 62)) hr (aa (pv 1) (aa (pv 2) ab)))))),?_⟩
 have b1:=bJ t
 have b2:=bU t
 rw [iL (by lia)] at b2
 refine ⟨fw,hf,_,rfl,x,dx,fs,rfl,hx,fl.no "many" (by decide) (by decide),_,rfl,fw,hf,x,dx,fs,wd,(t.size:Int),rfl,hx,fl,by lia,by lia,?_⟩
 rw [GI]
 refine ⟨_,rfl,_,_,rfl,rfl,_,rfl,aZ (by lia) ⟨_,rfl,_,rfl,_,_,rfl,rfl,_,rfl,aZ (by lia) ?_⟩⟩
 exact ⟨fw,hf,_,rfl,x,dx,fs,rfl,hx,fl.no "unchecked_thing" (by decide) (by decide),_,rfl,_,rfl,fw,hf,x,dx,fs,wd,t,rfl,hx,fl,h40,q⟩
theorem Ac (aL:Al P w K mg base ca 64) (F:b7 K ca 64 "next_of" "Family.next_of" tI):D P w K mg base ca 64:=by
 refine cm F (fun _ _ _ _ _ _=>dI fun _ _=>rfl) (F.ok oy (fun vs H Q E h=>?_) (fun cZ AZ oZ sZ H vs Q E hr h=>?_))
 ·obtain ⟨fw,hf,x,dx,fs,wd,v,t,rfl,hx,fl,th,h40,q0,q1⟩:=h
  rfl
 obtain ⟨fw,hf,x,dx,fs,wd,v,t,rfl,hx,fl,th,h40,q0,q1⟩:=h
 refine ⟨_,ah (av (i:=2) oy.nd rfl (Gd rfl) (aj aE (cQ (pv 0) CA.c4 CA.mt4_number_of (fun _ _=>(aL.g 47)) hr (aa (pv 1) ab)) af))
  (ah (av (i:=3) oy.nd rfl (Gd rfl) (cQ (pv 0) CA.c4 CA.mt4_size_of (aL.g 35) hr (aa (pv 1) ab)))
  (ah (aJ (aw cG (pv 2) (cQ (pv 0) CA.c4 CA.mt4_unchecked_many (fun _ _=>(aL.g 49)) hr (aa (pv 3) ab)) (aA _)) (ag (aq lC)) aD)
  (ag (aq (cQ (pv 0) CA.c4 CA.mt4_unchecked_thing (fun _ _=>(aL.g 62)) hr (aa (pv 3) (aa (pv 2) ab))))))),?_⟩
 refine ⟨fw,hf,_,rfl,x,dx,fs,rfl,hx,fl.no "number_of" (by decide) (by decide),_,rfl,fw,hf,x,dx,fs,wd,v,t,rfl,hx,fl,th,h40,fun H1 s1=>⟨_,_,rfl,rfl,?_⟩⟩
 refine ⟨fw,hf,_,rfl,x,dx,fs,rfl,s1 _ _ hx,fl.no "size_of" (by decide) (by decide),_,rfl,x,v,t,rfl,th.same s1,h40,fun H2 s2=>?_⟩
 have s12:=s1.trans s2
 refine ⟨_,rfl,fw,hf,_,rfl,x,dx,fs,rfl,s12 _ _ hx,fl.no "unchecked_many" (by decide) (by decide),_,rfl,x,(t.size:Int),rfl,by lia,by lia,?_⟩
 rw [GI,<- iL (by lia)]
 refine ⟨rfl,_,rfl,?_⟩
 have b1:=bJ t
 have b2:=bU t
 by_cases e:aB t+1=sh t.size
 ·exact bG (congrArg V.int e) (q0 _ s12 e)
 ·refine aZ (fun z=>e (by injection z)) ?_
  obtain ⟨t',es,eb⟩:=fA t.size (aB t+1) (by lia) (by lia)
  try dsimp only
  rw [<- eb,<- es]
  exact ⟨fw,hf,_,rfl,x,dx,fs,rfl,s12 _ _ hx,fl.no "unchecked_thing" (by decide) (by decide),_,rfl,_,rfl,fw,hf,x,dx,fs,wd,t',rfl,s12 _ _ hx,fl,by lia,fun g H3 s3 tg=>q1 t' g H3 (s12.trans s3) es eb (tg.since s12)⟩
theorem CF (aL:Al P w K mg base ca 65) (F:Fg K mg ca 65 "_law_spoiled" r9):D P w K mg base ca 65:=by
 refine dJ F (fun _ _ _ _ _ _=>eC fun _=>rfl) (F.F.ok vf (fun vs H Q E h=>?_) (fun cZ AZ oZ sZ H vs Q E hr h=>?_))
 ·obtain ⟨w,v,t,H0,H1,rfl,hw,th,sm,h40,q⟩:=h
  rfl
 obtain ⟨w,v,t,H0,H1,rfl,hw,th,sm,h40,q⟩:=h
 refine ⟨_,ag (aJ (bQ (aC bu rfl CA.bb aU (aa (pv 0) (aa (cI (v:=.ty "tuple") rfl CA.me ki rfl) ab)))) (ag (aW (cz FR Gf Gg bx (aG bM (pv 0) af (fun _ _=>rfl)) (aa (aY (aa af (aa af ab))) ab)))) (ah (bV Gr rfl (aO (pv 0)) (az (i:=1) vf.nd rfl (Gd rfl)) (ag (aJ (bQ (aC bu rfl CA.bb aU (aa (pv 1) (aa (cI (v:=.ty "list") rfl CA.eE dC rfl) ab)))) (ag (aW (cz FR Gf Gg bx (pv 1) (aa af ab)))) aD)))
  (ag (aW (cz FR Gf Gg bx (pv 0) (aa (bj (aa af ab)) ab)))))),?_⟩
 rcases (by lia:w=2\/w≠2) with rfl | h2
 ·obtain ⟨u,l,cs,rfl,n0,ht,hl,pm,ri⟩:=th
  obtain ⟨xs,el,lx,_⟩:=hl.len
  have lc:=(fY pm ri).len
  have at1:∀ (c:Int) (a:FD),bW [V.int c,.ref a] 1=some (.ref a):=fun _ _=>rfl
  have el2:=sm _ _ el
  refine ⟨_,rfl,_,_,_,_,_,rfl,cn,.tup (sm _ _ ht),fh,_,rfl,bw ⟨_,rfl,u,_,_,_,rfl,rfl,bg.of (sm _ _ ht),at1 _ _,.inl ⟨rfl,_,ai.of el2⟩,(by show 2<=sizeLine; decide),fun t3 ht3=>⟨l,_,_,rfl,rfl,(upd_ne (ar el2 ht3)).trans el2,fX (by lia),?_⟩⟩⟩
  exact q _ (((dW.refl H0 H1 H).new ht3 _).put sm el n0 _)
 obtain ⟨l,xs,rfl,el,n0,lx,al⟩:=th.list h2 h40
 have el2:=sm _ _ el
 refine ⟨_,rfl,_,_,_,_,_,rfl,cn,.lst el2,gZ,_,rfl,bB ⟨_,rfl,l,rfl,⟨_,ai.of el2⟩,bY (xs:=xs) (fun k σ H'=>∃ (o:Option V),σ=[some (.ref l),o]/\H' l=some (.lst xs)/\dW H0 H1 H H'/\∀ x∈xs,(∃ i,x = .int i)\/(∃ b ys,x = .ref b/\H' b=some (.tup ys))\/(∃ b ns ms,x = .ref b/\b≠l/\H1 b=some (.lst ns)/\H0 b=none/\H' b=some (.lst ms)/\ms.length<=1000+k)) ⟨_,rfl,el2,dW.refl _ _ _,fun x hx=>?_⟩ (fun k σ H' _ h=>by obtain ⟨o,_,h,_⟩:=h; exact ai.of h) ?_ ?_⟩⟩
 ·rcases al x hx with h | ⟨b,ys,e,h⟩ | ⟨b,ns,e,n,h,f,z⟩
  ·exact .inl h
  ·exact .inr (.inl ⟨b,ys,e,sm _ _ h⟩)
  ·exact .inr (.inr ⟨b,ns,ns,e,n,h,f,sm _ _ h,z⟩)
 ·rintro k v σ H' hv ⟨o,rfl,h1,sp,al⟩
  have hk:k < xs.length:=(Fs.mp hv).1
  have mono:∀ x∈xs,(∃ i,x = .int i)\/(∃ b ys,x = .ref b/\H' b=some (.tup ys))\/(∃ b ns ms,x = .ref b/\b≠l/\H1 b=some (.lst ns)/\H0 b=none/\H' b=some (.lst ms)/\ms.length<=1000+(k+1)):=fun x hx=>by
   rcases al x hx with h | h | ⟨b,ns,ms,e,n,h,f,g,z⟩
   ·exact .inl h
   ·exact .inr (.inl h)
   ·exact .inr (.inr ⟨b,ns,ms,e,n,h,f,g,by lia⟩)
  rcases al _ (FG hv) with ⟨i,rfl⟩ | ⟨b,ys,rfl,h⟩ | ⟨b,ns,ms,rfl,n,h,f,g,z⟩
  ·exact ⟨_,rfl,_,_,_,_,_,rfl,cn,.int i,rfl,_,rfl,bB ⟨_,rfl,h1,sp,mono⟩⟩
  ·exact ⟨_,rfl,_,_,_,_,_,rfl,cn,.tup h,fF,_,rfl,bB ⟨_,rfl,h1,sp,mono⟩⟩
  ·refine ⟨_,rfl,_,_,_,_,_,rfl,cn,.lst g,eI,_,rfl,bw ⟨_,rfl,.inl ⟨rfl,_,ai.of g⟩,b,_,_,rfl,rfl,g,fX (by lia),?_⟩⟩
   refine ⟨_,rfl,(upd_ne (Ih n)).trans h1,sp.put sm h f _,fun x hx=>?_⟩
   rcases mono x hx with h | ⟨b',ys,e,h⟩ | ⟨b',ns',ms',e,n',h',f',g',z'⟩
   ·exact .inl h
   ·refine .inr (.inl ⟨b',ys,e,?_⟩)
    rw [upd_ne (fun y=>by rw [y,g] at h; cases h)]
    exact h
   ·by_cases y:b'=b
    ·subst y
     exact .inr (.inr ⟨b',ns',_,e,n',h',f',upd_same,by rw [Fw]; simp; lia⟩)
    ·exact .inr (.inr ⟨b',ns',ms',e,n',h',f',(upd_ne y).trans g',z'⟩)
 ·rintro σ H' ⟨o,rfl,h1,sp,_⟩
  exact ⟨_,rfl,.inl ⟨rfl,_,ai.of h1⟩,(by show 1<=sizeLine; decide),fun c hc=>⟨l,_,_,rfl,rfl,(upd_ne (ar h1 hc)).trans h1,fX (by lia),q _ ((sp.new hc _).put sm el n0 _)⟩⟩
theorem Ay (aL:Al P w K mg base ca 66) (F:b7 K ca 66 "law" "law" jy):bL P w K mg base kX 48 (ca.f 66) (ca.fd 66) ["_law_script"] (zl K ca):=by
 refine F.ok cw (fun vs H Q E h=>?_) (fun cZ AZ oZ sZ H vs Q E hr h=>?_)
 ·obtain ⟨a,ns,rfl,hS,h63,q⟩:=h
  rfl
 obtain ⟨a,ns,rfl,hS,h63,q⟩:=h
 refine ⟨_,ah (av (i:=1) cw.nd rfl (Gd rfl) (aj dX (aj ft (aF (aL.g 0) hr (aa (pv 0) (aa af ab))) af) af))
  (ah (av (i:=2) cw.nd rfl (Gd rfl) (aj dX (aF (aL.g 0) hr (aa (pv 0) (aa af ab))) af))
  (ah (av (i:=3) cw.nd rfl (Gd rfl) (aF (aL.g 1) hr (aa af ab)))
  (ah (av (i:=4) cw.nd rfl (Gd rfl) (aF (aL.g 2) hr (aa (pv 0) (aa (pv 1) (aa (pv 3) ab)))))
  (ah (av (i:=5) cw.nd rfl (Gd rfl) (aF (aL.g 8) hr (aa (pv 2) (aa (pv 1) (aa (pv 4) (aa (pv 3) ab))))))
  (ah (av (i:=6) cw.nd rfl (Gd rfl) (aF (aL.g 15) hr (aa (pv 2) ab)))
  (ah (aJ (PW.pt (fZ (cV (bQ (aC bu rfl CA.bb aU (aa (pv 6) (aa (lM (v:=.ref (ca.C 4)) rfl CA.nv rfl) ab))))) (ff (cV (bQ (aC bu rfl CA.bb aU (aa (pv 6) (aa (lM (v:=.ref (ca.C 5)) rfl CA.dB rfl) ab)))))))) (ag (aq cj)) aD)
  (ah (aJ (aw kN (lr (pv 6) rfl) (aG aN (bj (aa fL (aa fL (aa fL (aa fL ab))))) (pv 2) (fun _ _=>rfl)) (aA _)) (ag (aq cj)) aD)
  (ah (aJ (PW.pt (fZ (cV (bQ (aF (aL.g 16) hr (aa (lr (pv 6) rfl) ab)))) (ff (aw kN (lr (pv 6) rfl) af (aA _))))) (ag (aq cj)) aD)
  (ah (av (i:=7) cw.nd rfl (Gd rfl) lC)
  (eQ (aJ (aw dH (aj aE (pv 4) af) (aG aN (pv 3) (pv 1) (fun _ _=>rfl)) (aA _)) (ag (av (i:=7) cw.nd rfl (Gd rfl) (aF (aL.g 8) hr (aa (pv 2) (aa (pv 1) (aa (aj aE (pv 4) af) (aa (pv 3) ab))))))) aD)
  (ah (av (i:=8) cw.nd rfl (Gd rfl) (aF (aL.g 17) hr (aa (pv 5) ab)))
  (ah (av (i:=9) cw.nd rfl (Gd rfl) (aj dX (aF (aL.g 0) hr (aa (pv 0) (aa af ab))) af))
  (ah (av (i:=10) cw.nd rfl (Gd rfl) (aj aM (aG aN (pv 3) (pv 9) (fun _ _=>rfl)) af))
  (ah (bV Gr rfl (de rfl CA.eB (aa af ab)) (az (i:=11) cw.nd rfl (Gd rfl)) (eQ (aJ (aw cG (pv 11) (aj dX (aF (aL.g 0) hr (aa (pv 0) (aa af ab))) af) (aA _)) (ag (aJ (cV (bQ (aF (aL.g 18) hr (aa (bj (aa (cQ (pv 6) CA.c4 CA.mt4_number_of (fun _ _=>(aL.g 47)) hr (aa (cQ (pv 6) CA.c4 CA.mt4_thing_of (fun _ _=>(aL.g 63)) hr (aa (pv 9) (aa (pv 10) ab))) ab)) (aa (cQ (pv 6) CA.c4 CA.mt4_many (fun _ _=>(aL.g 50)) hr (aa (pv 9) ab)) ab))) (aa (bj (aa (pv 10) (aa (aj aE (pv 10) af) ab))) ab))))) (ag (aq cj)) aD)) aD)
  (ah (av (i:=12) cw.nd rfl (Gd rfl) (bj (aa (cQ (pv 6) CA.c4 CA.mt4_number_of (fun _ _=>(aL.g 47)) hr (aa (pv 8) ab)) (aa (cQ (pv 6) CA.c4 CA.mt4_many (fun _ _=>(aL.g 50)) hr (aa (pv 1) ab)) ab))))
  (eQ (aJ (cV (bQ (aF (aL.g 18) hr (aa (pv 12) (aa (bj (aa (pv 4) (aa (aG aN (pv 3) (pv 1) (fun _ _=>rfl)) ab))) ab))))) (ag (aq cj)) aD)
  (ah (av (i:=13) cw.nd rfl (Gd rfl) (cQ (pv 6) CA.c4 CA.mt4_thing_of (fun _ _=>(aL.g 63)) hr (aa (pv 1) (aa (pv 4) ab))))
  (eQ (av (i:=14) cw.nd rfl (Gd rfl) (cQ (pv 6) CA.c4 CA.mt4_next_of (fun _ _=>(aL.g 64)) hr (aa (pv 8) ab)))
  (eQ (aJ (PW.pt (fZ (cV (bQ (aF (aL.g 18) hr (aa (pv 13) (aa (pv 5) ab))))) (ff (aw (i8 (eH hr)) (pv 8) (pv 5) (aA _))))) (ag (aq cj)) aD)
  (ah (aW (aF (aL.g 65) hr (aa (pv 13) ab)))
  (ag (aJ (aw BG (pv 7) lC (aA _)) (ag (aJ (aw yd (pv 14) lC (aA _)) (ag (aq cj)) aD)) (ag (aJ (cV (bQ (aF (aL.g 18) hr (aa (pv 14) (aa (pv 7) ab))))) (ag (aq cj)) (ag (aW (aF (aL.g 65) hr (aa (pv 14) ab))))))))))))))))
  (ag (aq (fI (uA (eH hr)) (pv 8) (pv 5) (aA _)))))))))))))))))),?_⟩
 have lk:(bK 40).length=40+1:=bD 40
 have at_:∀ (j:Nat) (z:Int),z=(j:Int)->j<=40->bW ((bK 40).map V.int) z=some (.int (sh j)):=fun j z ez hj=>by
  have:=dF (ns:=bK 40) (i:=z) (by lia) (by lia)
  rw [show z.toNat=j by lia,cJ 40 j hj] at this
  exact this
 have w0:=HX (ns.getD (0:Int).toNat 0) (show (4:Int)≠0 by decide)
 have w3:=Ie (ns.getD (0:Int).toNat 0) (show (0:Int) < 4 by decide)
 have z0:=HX (ns.getD (0:Int).toNat 0 / 4) (show (41:Int)≠0 by decide)
 have z1:=Ie (ns.getD (0:Int).toNat 0 / 4) (show (0:Int) < 41 by decide)
 have g0:=HX (ns.getD (3:Int).toNat 0) (show (41:Int)≠0 by decide)
 have g1:=Ie (ns.getD (3:Int).toNat 0) (show (0:Int) < 41 by decide)
 refine CZ fun vT hT=>?_
 refine ⟨_,rfl,a,ns,0,rfl,hS,by decide,_,_,rfl,rfl,⟨by decide,by decide +kernel⟩,_,_,rfl,rfl,pm (by decide),?_⟩
 refine ⟨_,rfl,a,ns,0,rfl,hS,by decide,_,_,rfl,rfl,pm (by decide),?_⟩
 try dsimp only
 obtain ⟨w,ew⟩:∃ w:Nat,ns.getD (0:Int).toNat 0 % 4=(w:Int):=⟨_,(KF w0).symm⟩
 obtain ⟨n,en⟩:∃ n:Nat,ns.getD (0:Int).toNat 0 / 4 % 41=(n:Int):=⟨_,(KF z0).symm⟩
 rw [ew] at w3 |-
 rw [en] at z1 |-
 have hw:w<=3:=by lia
 have n40:n<=40:=by lia
 clear ew en w0 z0 w3 z1
 refine ⟨40,rfl,by decide,fun pc H2 s2 fc hc=>?_⟩
 rw [zR] at hc
 refine ⟨_,rfl,_,rfl,_,rfl,a,pc,ns,n,rfl,s2.seq hS,h63,hc,n40,fun m H3 s3 m0 m1=>?_⟩
 obtain ⟨t,rfl,rfl⟩:=fA n m m0 m1
 refine ⟨_,rfl,_,rfl,_,rfl,_,rfl,t.size,by lia,w,pc,t,rfl,hw,s3 _ _ hc,rfl,n40,fun v H4 s4 kv=>?_⟩
 refine ⟨_,rfl,w,rfl,hw,fun x dx fs H5 s5 hx fl=>?_⟩
 refine ⟨_,rfl,_,_,_,_,_,rfl,vn,(CA.in4 w hw).ty hx,CA.kit4_Family w hw,_,rfl,bB ⟨_,rfl,_,_,_,_,_,rfl,vn,(CA.in4 w hw).ty hx,CA.kit4_SplitFamily w hw,_,rfl,bB ?_⟩⟩
 refine ⟨_,rfl,x,_,dx,fs,_,rfl,hx,CA.c4 w hw,CA.na4_word w hw,fl.word,(by show 4<=sizeLine; decide),fun pl hpl=>⟨_,rfl,pl,_,_,_,rfl,rfl,ai.of upd_same,E7 hw,rfl,_,rfl,jr rfl ?_⟩⟩
 have s6:=ae.new (ae.refl H5) hpl (.lst [.str "bows",.str "rooms",.str "floor",.str "turns"])
 have hx6:=s6 _ _ hx
 have t6:=s2.trans (s3.trans (s4.trans (s5.trans s6)))
 have hc6:=(s3.trans (s4.trans (s5.trans s6))) _ _ hc
 have kv6:=(kv.same s5).same s6
 clear hx hc s2 s3 s4 s5 kv
 generalize upd H5 pl (.lst [.str "bows",.str "rooms",.str "floor",.str "turns"])=H6 at s6 hx6 t6 hc6 kv6 |-
 clear s6
 refine ⟨_,rfl,x,_,dx,fs,_,rfl,hx6,CA.c4 w hw,CA.na4_least w hw,fl.least,_,rfl,_,rfl,bB ⟨_,rfl,x,_,dx,fs,_,rfl,hx6,CA.c4 w hw,CA.na4_least w hw,fl.least,rfl,_,rfl,jr rfl ?_⟩⟩
 have bt1:=bU t
 have bt0:=bJ t
 refine ⟨fun σ H'=>∃ (lv:V) (o8 o9 o10 o11 o12 o13 o14:Option V),σ=[some (.ref a),some (.int (t.size:Int)),some (.int (w:Int)),some (.ref pc),some (.int (aB t)),some v,some (.ref x),some lv,o8,o9,o10,o11,o12,o13,o14]/\ae H6 H'/\((lv = .non/\aB t+1=sh t.size)\/∃ (t':Bt) (Hl:Hp),t'.size=t.size/\aB t'=aB t+1/\Kn w Hl H' lv t'),?_,?_⟩
 ·refine ⟨_,rfl,_,_,rfl,rfl,_,rfl,_,rfl,pc,_,_,_,rfl,rfl,ai.of hc6,at_ t.size _ rfl n40,_,_,rfl,rfl,_,rfl,j6 (fun c=>?_) (fun c=>?_)⟩
  ·have c:aB t+1 < sh t.size:=of_decide_eq_true c
   obtain ⟨t',e1,e2⟩:=fA t.size (aB t+1) (by lia) c
   exact ⟨_,rfl,_,rfl,_,rfl,_,_,rfl,rfl,_,rfl,t.size,by lia,w,pc,t',by rw [e2]; rfl,hw,hc6,e1,n40,fun lv H7 s7 kl=>⟨lv,_,_,_,_,_,_,_,rfl,s7,.inr ⟨t',H6,e1,e2,kl⟩⟩⟩
  ·have c:¬ aB t+1 < sh t.size:=of_decide_eq_false (Bool.eq_false_iff.mpr c)
   exact ⟨_,_,_,_,_,_,_,_,rfl,ae.refl _,.inl ⟨rfl,by lia⟩⟩
 rintro σ H7 ⟨lv,o8,o9,o10,o11,o12,o13,o14,rfl,s7,LT⟩
 subst hT
 have kv7:=kv6.same s7
 refine ⟨_,rfl,w,v,t,rfl,hw,⟨_,kv7⟩,n40,fun hv H8 s8c kh=>?_⟩
 have kv8:=kv7.same s8c
 have hx8:=(s7.trans s8c) _ _ hx6
 have hc8:=(s7.trans s8c) _ _ hc6
 have hS8:=(t6.trans (s7.trans s8c)).seq hS
 have LT:(lv = .non/\aB t+1=sh t.size)\/∃ (t':Bt) (Hl:Hp),t'.size=t.size/\aB t'=aB t+1/\Kn w Hl H8 lv t':=LT.imp id fun ⟨t',Hl,e1,e2,k⟩=>⟨t',Hl,e1,e2,k.same s8c⟩
 clear hc6 hx6 t6
 refine ⟨_,rfl,a,ns,3,rfl,hS8,by decide,_,_,rfl,rfl,pm (by decide),?_⟩
 try dsimp only
 obtain ⟨u,eu⟩:∃ u:Nat,ns.getD (3:Int).toNat 0 % 41=(u:Int):=⟨_,(KF g0).symm⟩
 rw [eu] at g1 |-
 clear eu g0
 have u40:u<=40:=by lia
 refine ⟨_,rfl,_,rfl,pc,_,_,_,rfl,rfl,ai.of hc8,at_ u _ rfl u40,_,_,rfl,rfl,?_⟩
 try dsimp only
 have su:=b6 u
 obtain ⟨tu,rfl,etu⟩:=fA u (sh u - 1) (by lia) (by lia)
 rw [<- etu]
 refine ⟨2,rfl,by decide,by decide,eV (lo:=0) (n:=(2:Int).toNat) (fun i σ H'=>∃ (o11 o12 o13 o14:Option V),σ=[some (.ref a),some (.int (t.size:Int)),some (.int (w:Int)),some (.ref pc),some (.int (aB t)),some v,some (.ref x),some lv,some hv,some (.int (tu.size:Int)),some (.int (aB tu)),o11,o12,o13,o14]/\ae H8 H') ⟨_,_,_,_,rfl,ae.refl _⟩ ?_ ?_⟩
 ·rintro i σ HA hi ⟨o11,o12,o13,o14,rfl,sA⟩
  refine zf fun vB hB=>?_
  refine ⟨fun σ H'=>∃ (o12 o13 o14:Option V),σ=[some (.ref a),some (.int (t.size:Int)),some (.int (w:Int)),some (.ref pc),some (.int (aB t)),some v,some (.ref x),some lv,some hv,some (.int (tu.size:Int)),some (.int (aB tu)),some (.int ((0:Int)+(i:Int))),o12,o13,o14]/\ae H8 H',?_,?_⟩
  ·refine ⟨_,rfl,_,rfl,a,ns,4,rfl,sA.seq hS8,by decide,_,_,rfl,rfl,pm (by decide),rfl,_,rfl,j6 (fun _=>?_) (fun _=>⟨_,_,_,rfl,sA⟩)⟩
   have e40:cR (tu.size:Int).toNat=aB tu+1:=by rw [GI,<- iL (by lia)]; lia
   refine ⟨w,hw,_,rfl,x,dx,fs,rfl,sA _ _ hx8,fl.no "number_of" (by decide) (by decide),w,hw,_,rfl,x,dx,fs,rfl,sA _ _ hx8,fl.no "thing_of" (by decide) (by decide),_,rfl,_,rfl,w,hw,x,dx,fs,_,tu,rfl,sA _ _ hx8,fl,u40,fun uv HB sB ku=>⟨w,hw,x,dx,fs,_,uv,tu,rfl,(sA.trans sB) _ _ hx8,fl,⟨_,ku⟩,u40,fun HC sC=>⟨w,hw,_,rfl,x,dx,fs,rfl,(sA.trans (sB.trans sC)) _ _ hx8,fl.no "many" (by decide) (by decide),_,rfl,w,hw,x,dx,fs,_,(tu.size:Int),rfl,(sA.trans (sB.trans sC)) _ _ hx8,fl,by lia,by lia,(by show 2<=sizeLine; decide),fun p1 hp1=>⟨_,rfl,_,rfl,_,_,rfl,rfl,(by show 2<=sizeLine; decide),fun p2 hp2=>⟨1,by lia,_,_,.lst [.int (aB tu),.int (aB tu+1)],rfl,?_,iA upd_same (eY _) (eY _),?_,_,rfl,bB ⟨_,_,_,rfl,sA.trans ((sB.trans sC).trans ((ae.new (ae.refl HC) hp1 _).trans (ae.new (ae.refl _) hp2 _)))⟩⟩⟩⟩⟩⟩
   all_goals first
    | (rw [ou,jz,jz]; decide)
    | (rw [e40]; exact iA ((upd_ne (ar upd_same hp2)).trans upd_same) (eY _) (eY _))
  rintro σ HB ⟨o12,o13,o14,rfl,sB2⟩
  subst hB
  refine Ca fun vC hC=>?_
  have krB:Kr w HB hv t:=⟨_,kh.same sB2⟩
  refine ⟨w,hw,_,rfl,x,dx,fs,rfl,sB2 _ _ hx8,fl.no "number_of" (by decide) (by decide),_,rfl,w,hw,x,dx,fs,_,hv,t,rfl,sB2 _ _ hx8,fl,krB,n40,fun HC sC=>?_⟩
  refine ⟨w,hw,_,rfl,x,dx,fs,rfl,(sB2.trans sC) _ _ hx8,fl.no "many" (by decide) (by decide),_,rfl,w,hw,x,dx,fs,_,(t.size:Int),rfl,(sB2.trans sC) _ _ hx8,fl,by lia,by lia,?_⟩
  rw [GI,<- iL (by lia)]
  refine ⟨(by show 2<=sizeLine; decide),fun p1 hp1=>?_⟩
  have s1:=ae.new (ae.refl HC) hp1 (.lst [.int (aB t),.int (sh t.size)])
  refine ⟨fun σ H'=>∃ (o12 o13 o14:Option V),σ=[some (.ref a),some (.int (t.size:Int)),some (.int (w:Int)),some (.ref pc),some (.int (aB t)),some v,some (.ref x),some lv,some hv,some (.int (tu.size:Int)),some (.int (aB tu)),some (.int ((0:Int)+(i:Int))),o12,o13,o14]/\ae H8 H',?_,?_⟩
  ·refine ⟨_,rfl,_,rfl,_,rfl,_,rfl,pc,_,_,_,rfl,rfl,ai.of ((sB2.trans (sC.trans s1)) _ _ hc8),at_ t.size _ rfl n40,(by show 2<=sizeLine; decide),fun p2 hp2=>⟨1,by lia,_,_,.lst [.int (aB t),.int (sh t.size)],rfl,iA ((upd_ne (ar upd_same hp2)).trans upd_same) (eY _) (eY _),iA upd_same (eY _) (eY _),by rw [ou,jz,jz]; decide,_,rfl,bB ⟨_,_,_,rfl,sB2.trans (sC.trans (s1.trans (ae.new (ae.refl _) hp2 (.lst [.int (aB t),.int (sh t.size)]))))⟩⟩⟩
  clear s1 hp1 sC krB sB2
  rintro σ HT ⟨o12,o13,o14,rfl,sT⟩
  subst hC
  refine Ca fun vE hE=>?_
  refine ⟨w,hw,_,rfl,x,dx,fs,rfl,sT _ _ hx8,fl.no "thing_of" (by decide) (by decide),_,rfl,_,rfl,w,hw,x,dx,fs,_,t,rfl,sT _ _ hx8,fl,n40,fun tv HU s7 ktv=>?_⟩
  have sU:=sT.trans s7
  refine ⟨fun σ H'=>∃ bv,σ=[some (.ref a),some (.int (t.size:Int)),some (.int (w:Int)),some (.ref pc),some (.int (aB t)),some v,some (.ref x),some lv,some hv,some (.int (tu.size:Int)),some (.int (aB tu)),some (.int ((0:Int)+(i:Int))),o12,some tv,some bv]/\ae HU H'/\((bv = .non/\aB t+1=sh t.size)\/∃ t':Bt,t'.size=t.size/\aB t'=aB t+1/\Kn w HU H' bv t'),?_,?_⟩
  ·exact ⟨w,hw,_,rfl,x,dx,fs,rfl,sU _ _ hx8,fl.no "next_of" (by decide) (by decide),_,rfl,w,hw,x,dx,fs,_,hv,t,rfl,sU _ _ hx8,fl,⟨_,kh.same sU⟩,n40,fun HE s8 eN=>⟨_,rfl,s8,.inl ⟨rfl,eN⟩⟩,fun t' bv HE s8 e1 e2 kb=>⟨bv,rfl,s8,.inr ⟨t',e1,e2,kb⟩⟩⟩
  rintro σ HE ⟨bv,rfl,s8,BV⟩
  subst hE
  refine zf fun vF hF=>?_
  have sE:=sU.trans s8
  refine ⟨fun σ H'=>σ=[some (.ref a),some (.int (t.size:Int)),some (.int (w:Int)),some (.ref pc),some (.int (aB t)),some v,some (.ref x),some lv,some hv,some (.int (tu.size:Int)),some (.int (aB tu)),some (.int ((0:Int)+(i:Int))),o12,some tv,some bv]/\H'=HE,?_,?_⟩
  ·obtain ⟨T,dT,r1,r2⟩:=(ktv.same s8).two (kv8.same sE) n40
   obtain ⟨T2,dT2,r3,r4⟩:=(kh.same sE).two (kv8.same sE) n40
   obtain ⟨p3,p4,e3,e4,n34⟩:=kv7.apart kh s8c
   exact ⟨_,rfl,_,rfl,dep T,by lia,_,_,T,rfl,r1,r2,Fy _,_,rfl,bB ⟨_,rfl,_,rfl,3,true,by decide,pY 3 T2 dT2 r3 r4,⟨p3,p4,e3,e4,n34⟩,_,rfl,nr rfl ⟨rfl,rfl⟩⟩⟩
  rintro _ _ ⟨rfl,rfl⟩
  subst hF
  refine ⟨_,rfl,w,tv,t,HT,HU,rfl,hw,ktv,s8,n40,fun HF sp=>?_⟩
  have sF:=sT.trans (sp.same (s7.trans s8))
  rcases LT with ⟨rfl,e⟩ | ⟨t2,Hl,f1,f2,kl⟩
  ·rcases BV with ⟨rfl,_⟩ | ⟨t',e1,e2,_⟩
   ·exact ⟨_,rfl,rfl,_,rfl,bG rfl ⟨_,rfl,rfl,_,rfl,jr rfl ⟨_,_,_,_,rfl,sF⟩⟩⟩
   ·have:=bU t'
    rw [e1] at this
    lia
  ·have bl:=bU t2
   rw [f1] at bl
   rcases BV with ⟨_,e⟩ | ⟨t',e1,e2,kb⟩
   ·lia
   ·have et:=jX t' t2 (by lia) (by lia)
    subst et
    have kb2:=kb.spoi sp
    obtain ⟨T3,dT3,r5,r6⟩:=kb2.two (kl.same sF) (by lia)
    refine ⟨_,rfl,rfl,_,rfl,aZ kl.ref ⟨_,rfl,_,rfl,dep T3,by lia,_,_,T3,rfl,r5,r6,Fy _,_,rfl,bB ?_⟩⟩
    exact ⟨_,rfl,w,bv,t2,H8,HF,rfl,hw,kb2.since sU,ae.refl _,by lia,fun HG sp2=>⟨_,_,_,_,rfl,sp2.same sF⟩⟩
 ·rintro σ H' ⟨o11,o12,o13,o14,rfl,sA⟩
  obtain ⟨T2,dT2,r3,r4⟩:=(kh.same sA).two (kv8.same sA) n40
  obtain ⟨p3,p4,e3,e4,n34⟩:=kv7.apart kh s8c
  exact ⟨_,rfl,_,rfl,3,true,by decide,pY 3 T2 dT2 r3 r4,⟨p3,p4,e3,e4,n34⟩,q _⟩
end
noncomputable abbrev Gb (K:Ga) (x:Str) (a:FD):Prop:=KN K mainGlobals x=some (some (.ref a))
noncomputable def CI (K:Ga):Sp:=fun vs H Q _=>∃ (a:FD) (ns:List Int),vs=[.ref a]/\ai K H a (ns.map V.int)/\ns.length<=63/\∀ H',Q (.bl true) H'
theorem all_mk {l:W.OpenLaw} {w:GF} {K:Ga} {h:HM} {mg:Str->Option Fk} {fa:FD} (X:K.In h) (G:h.Ns mainGlobals mg) (hfa:mg "law" = some (.ref fa)) {C0 C1 C2 C3 C4 C5 f0 f1 f2 f3 f4 f5 f6 f7 f8 f9 f10 f11 f12 f13 f14 f15 f16 f17 f18 f19 f20 f21 f22 f23 f24 f25 f26 f27 f28 f30 f31 f32 f33 f34 f36 f37 f38 f39 f40 f41 f42 f44 f45 f46 f47 f48 f49 f50 f51 f52 f53 f54 f56 f57 f58 f59 f61 f62 f63 f64 f65 f66:FD} {d0 d1 d2 d3 d4 d5 d6 d7 d8 d9 d10 d11 d12 d13 d14 d15 d16 d17 d18 d19 d20 d21 d22 d23 d24 d25 d26 d27 d28 d30 d31 d32 d33 d34 d36 d37 d38 d39 d40 d41 d42 d44 d45 d46 d47 d48 d49 d50 d51 d52 d53 d54 d56 d57 d58 d59 d61 d62 d63 d64 d65 d66:G7} {t_GREATEST_SIZE:Tok}
  (yJ:Gb K "Bows" C0)
  (xj:Gb K "Rooms" C1)
  (vo:Gb K "Floors" C2)
  (wZ:Gb K "Turns" C3)
  (uu:Gb K "Family" C4)
  (l8:Gb K "SplitFamily" C5)
  (in4_0:InsT K C0)
  (in4_1:InsT K C1)
  (in4_2:InsT K C2)
  (in4_3:InsT K C3)
  (q0_number_of:Meth K C0 "number_of" f47)
  (q1_number_of:Meth K C1 "number_of" f47)
  (q2_number_of:Meth K C2 "number_of" f47)
  (q3_number_of:Meth K C3 "number_of" f47)
  (q0_thing_of:Meth K C0 "thing_of" f63)
  (q1_thing_of:Meth K C1 "thing_of" f63)
  (q2_thing_of:Meth K C2 "thing_of" f63)
  (q3_thing_of:Meth K C3 "thing_of" f63)
  (q0_many:Meth K C0 "many" f50)
  (q1_many:Meth K C1 "many" f50)
  (q2_many:Meth K C2 "many" f50)
  (q3_many:Meth K C3 "many" f50)
  (q0_next_of:Meth K C0 "next_of" f64)
  (q1_next_of:Meth K C1 "next_of" f64)
  (q2_next_of:Meth K C2 "next_of" f64)
  (q3_next_of:Meth K C3 "next_of" f64)
  (q0_refuse_other:Meth K C0 "refuse_other" f30)
  (q1_refuse_other:Meth K C1 "refuse_other" f30)
  (q2_refuse_other:Meth K C2 "refuse_other" f30)
  (q3_refuse_other:Meth K C3 "refuse_other" f30)
  (q0_unchecked_number:Meth K C0 "unchecked_number" f46)
  (q1_unchecked_number:Meth K C1 "unchecked_number" f46)
  (q2_unchecked_number:Meth K C2 "unchecked_number" f46)
  (q3_unchecked_number:Meth K C3 "unchecked_number" f46)
  (q0_is_one:Meth K C0 "is_one" f22)
  (q1_is_one:Meth K C1 "is_one" f24)
  (q2_is_one:Meth K C2 "is_one" f26)
  (q3_is_one:Meth K C3 "is_one" f28)
  (q0_number_by_parts:Meth K C0 "number_by_parts" f44)
  (q1_number_by_parts:Meth K C1 "number_by_parts" f44)
  (q2_number_by_parts:Meth K C2 "number_by_parts" f44)
  (q3_number_by_parts:Meth K C3 "number_by_parts" f44)
  (q0_size_of:Meth K C0 "size_of" f31)
  (q1_size_of:Meth K C1 "size_of" f32)
  (q2_size_of:Meth K C2 "size_of" f33)
  (q3_size_of:Meth K C3 "size_of" f34)
  (q0_parted:Meth K C0 "parted" f37)
  (q1_parted:Meth K C1 "parted" f39)
  (q2_parted:Meth K C2 "parted" f41)
  (q3_parted:Meth K C3 "parted" f42)
  (q0_unchecked_thing:Meth K C0 "unchecked_thing" f62)
  (q1_unchecked_thing:Meth K C1 "unchecked_thing" f62)
  (q2_unchecked_thing:Meth K C2 "unchecked_thing" f62)
  (q3_unchecked_thing:Meth K C3 "unchecked_thing" f62)
  (q0_unchecked_many:Meth K C0 "unchecked_many" f49)
  (q1_unchecked_many:Meth K C1 "unchecked_many" f49)
  (q2_unchecked_many:Meth K C2 "unchecked_many" f49)
  (q3_unchecked_many:Meth K C3 "unchecked_many" f49)
  (q0_thing_by_parts:Meth K C0 "thing_by_parts" f61)
  (q1_thing_by_parts:Meth K C1 "thing_by_parts" f61)
  (q2_thing_by_parts:Meth K C2 "thing_by_parts" f61)
  (q3_thing_by_parts:Meth K C3 "thing_by_parts" f61)
  (q0_bare:Meth K C0 "bare" f51)
  (q1_bare:Meth K C1 "bare" f52)
  (q2_bare:Meth K C2 "bare" f53)
  (q3_bare:Meth K C3 "bare" f54)
  (q0_joined:Meth K C0 "joined" f56)
  (q1_joined:Meth K C1 "joined" f57)
  (q2_joined:Meth K C2 "joined" f58)
  (q3_joined:Meth K C3 "joined" f59)
  (n0_word:NoAttr K C0 "word")
  (n1_word:NoAttr K C1 "word")
  (n2_word:NoAttr K C2 "word")
  (n3_word:NoAttr K C3 "word")
  (n0_least:NoAttr K C0 "least")
  (n1_least:NoAttr K C1 "least")
  (n2_least:NoAttr K C2 "least")
  (n3_least:NoAttr K C3 "least")
  (ki0_Family:Ij K (.ref C0) (.ref C4)=some true)
  (ki1_Family:Ij K (.ref C1) (.ref C4)=some true)
  (ki2_Family:Ij K (.ref C2) (.ref C4)=some true)
  (ki3_Family:Ij K (.ref C3) (.ref C4)=some true)
  (ki0_SplitFamily:Ij K (.ref C0) (.ref C5)=some true)
  (ki1_SplitFamily:Ij K (.ref C1) (.ref C5)=some true)
  (ki2_SplitFamily:Ij K (.ref C2) (.ref C5)=some true)
  (ki3_SplitFamily:Ij K (.ref C3) (.ref C5)=some true)
  (mk_Bows:Mk K C0 f11)
  (mk_Rooms:Mk K C1 f12)
  (mk_Floors:Mk K C2 f13)
  (mk_Turns:Mk K C3 f14)
  (cm_SplitFamily___init__:ClsM K C5 "__init__" f10)
  (cm_Family___init__:ClsM K C4 "__init__" f9)
  (z_len:KN K mainGlobals "len" = some none)
  (z_range:KN K mainGlobals "range" = some none)
  (z_max:KN K mainGlobals "max" = some none)
  (z_list:KN K mainGlobals "list" = some none)
  (z_sorted:KN K mainGlobals "sorted" = some none)
  (z_isinstance:KN K mainGlobals "isinstance" = some none)
  (z_int:KN K mainGlobals "int" = some none)
  (z_bool:KN K mainGlobals "bool" = some none)
  (z_tuple:KN K mainGlobals "tuple" = some none)
  (z_all:KN K mainGlobals "all" = some none)
  (z_zip:KN K mainGlobals "zip" = some none)
  (z_set:KN K mainGlobals "set" = some none)
  (z_sum:KN K mainGlobals "sum" = some none)
  (y_GREATEST_SIZE:KN K mainGlobals "GREATEST_SIZE" = some (some (Lz 40 t_GREATEST_SIZE)))
  (a0:Gb K "_law_cell_at" f0)
  (F0:aQ K "_law_cell_at" "_law_cell_at" qZ f0 d0)
  (a1:Gb K "_law_counts" f1)
  (F1:aQ K "_law_counts" "_law_counts" qY f1 d1)
  (a2:Gb K "_law_number" f2)
  (F2:aQ K "_law_number" "_law_number" rn f2 d2)
  (a3:Gb K "_law_bare" f3)
  (F3:aQ K "_law_bare" "_law_bare" rN f3 d3)
  (a4:Gb K "_law_bows_joined" f4)
  (F4:aQ K "_law_bows_joined" "_law_bows_joined" qV f4 d4)
  (a5:Gb K "_law_rooms_joined" f5)
  (F5:aQ K "_law_rooms_joined" "_law_rooms_joined" sD f5 d5)
  (a6:Gb K "_law_floors_joined" f6)
  (F6:aQ K "_law_floors_joined" "_law_floors_joined" wm f6 d6)
  (a7:Gb K "_law_joined" f7)
  (F7:aQ K "_law_joined" "_law_joined" qO f7 d7)
  (a8:Gb K "_law_thing" f8)
  (F8:aQ K "_law_thing" "_law_thing" tQ f8 d8)
  (F9:aQ K "__init__" "Family.__init__" qX f9 d9)
  (F10:aQ K "__init__" "SplitFamily.__init__" wt f10 d10)
  (F11:aQ K "__init__" "Bows.__init__" qT f11 d11)
  (F12:aQ K "__init__" "Rooms.__init__" sG f12 d12)
  (F13:aQ K "__init__" "Floors.__init__" sJ f13 d13)
  (F14:aQ K "__init__" "Turns.__init__" qM f14 d14)
  (a15:Gb K "_law_kin" f15)
  (F15:aQ K "_law_kin" "_law_kin" sO f15 d15)
  (a16:Gb K "_law_whole" f16)
  (F16:aQ K "_law_whole" "_law_whole" tp f16 d16)
  (a17:Gb K "_law_copy" f17)
  (F17:aQ K "_law_copy" "_law_copy" rQ f17 d17)
  (a18:Gb K "_law_alike" f18)
  (F18:aQ K "_law_alike" "_law_alike" tR f18 d18)
  (a19:Gb K "each_once" f19)
  (F19:aQ K "each_once" "each_once" sY f19 d19)
  (a20:Gb K "flat" f20)
  (F20:aQ K "flat" "flat" tD f20 d20)
  (a21:Gb K "any_cross" f21)
  (F21:aQ K "any_cross" "any_cross" sQ f21 d21)
  (F22:aQ K "is_one" "Bows.is_one" rE f22 d22)
  (a23:Gb K "neighbours" f23)
  (F23:aQ K "neighbours" "neighbours" tP f23 d23)
  (F24:aQ K "is_one" "Rooms.is_one" rK f24 d24)
  (a25:Gb K "may_be_cut" f25)
  (F25:aQ K "may_be_cut" "may_be_cut" rS f25 d25)
  (F26:aQ K "is_one" "Floors.is_one" sv f26 d26)
  (a27:Gb K "comes_off_a_stack" f27)
  (F27:aQ K "comes_off_a_stack" "comes_off_a_stack" sd f27 d27)
  (F28:aQ K "is_one" "Turns.is_one" tF f28 d28)
  (F30:aQ K "refuse_other" "Family.refuse_other" wK f30 d30)
  (F31:aQ K "size_of" "Bows.size_of" sX f31 d31)
  (F32:aQ K "size_of" "Rooms.size_of" rF f32 d32)
  (F33:aQ K "size_of" "Floors.size_of" tG f33 d33)
  (F34:aQ K "size_of" "Turns.size_of" tJ f34 d34)
  (a36:Gb K "pairs_raised_by" f36)
  (F36:aQ K "pairs_raised_by" "pairs_raised_by" qW f36 d36)
  (F37:aQ K "parted" "Bows.parted" rT f37 d37)
  (a38:Gb K "raised_by" f38)
  (F38:aQ K "raised_by" "raised_by" rk f38 d38)
  (F39:aQ K "parted" "Rooms.parted" tw f39 d39)
  (a40:Gb K "third_corner" f40)
  (F40:aQ K "third_corner" "third_corner" qN f40 d40)
  (F41:aQ K "parted" "Floors.parted" rV f41 d41)
  (F42:aQ K "parted" "Turns.parted" rG f42 d42)
  (F44:aQ K "number_by_parts" "SplitFamily.number_by_parts" v3 f44 d44)
  (a45:Gb K "shares" f45)
  (F45:aQ K "shares" "shares" rZ f45 d45)
  (F46:aQ K "unchecked_number" "SplitFamily.unchecked_number" xb f46 d46)
  (F47:aQ K "number_of" "Family.number_of" xm f47 d47)
  (a48:Gb K "by_rule" f48)
  (F48:aQ K "by_rule" "by_rule" sM f48 d48)
  (F49:aQ K "unchecked_many" "SplitFamily.unchecked_many" wR f49 d49)
  (F50:aQ K "many" "Family.many" rM f50 d50)
  (F51:aQ K "bare" "Bows.bare" si f51 d51)
  (F52:aQ K "bare" "Rooms.bare" tO f52 d52)
  (F53:aQ K "bare" "Floors.bare" rH f53 d53)
  (F54:aQ K "bare" "Turns.bare" tq f54 d54)
  (F56:aQ K "joined" "Bows.joined" rg f56 d56)
  (F57:aQ K "joined" "Rooms.joined" qQ f57 d57)
  (F58:aQ K "joined" "Floors.joined" rR f58 d58)
  (F59:aQ K "joined" "Turns.joined" tH f59 d59)
  (F61:aQ K "thing_by_parts" "SplitFamily.thing_by_parts" vI f61 d61)
  (F62:aQ K "unchecked_thing" "SplitFamily.unchecked_thing" v9 f62 d62)
  (F63:aQ K "thing_of" "Family.thing_of" vP f63 d63)
  (F64:aQ K "next_of" "Family.next_of" tI f64 d64)
  (a65:Gb K "_law_spoiled" f65)
  (F65:aQ K "_law_spoiled" "_law_spoiled" r9 f65 d65)
  (a66:Gb K "law" f66)
  (F66:aQ K "law" "law" jy f66 d66) :
  ∃ fd:G7,(∀ (s:Fq) (v:Fk),BindsTo s fd ⟨[v],[]⟩ [("_law_script",v)])/\∀ base:HM,K.In base->base.Ns mainGlobals mg->bL l.prog w K mg base kX 48 fa fd ["_law_script"] (CI K):=by
 have e:=hfa.symm.trans (Ho X G a66)
 cases e
 have CA:zF K mg ⟨pick 0 [C0,C1,C2,C3,C4,C5],pick 0 [f0,f1,f2,f3,f4,f5,f6,f7,f8,f9,f10,f11,f12,f13,f14,f15,f16,f17,f18,f19,f20,f21,f22,f23,f24,f25,f26,f27,f28,0,f30,f31,f32,f33,f34,0,f36,f37,f38,f39,f40,f41,f42,0,f44,f45,f46,f47,f48,f49,f50,f51,f52,f53,f54,0,f56,f57,f58,f59,0,f61,f62,f63,f64,f65,fa],pick d0 [d0,d1,d2,d3,d4,d5,d6,d7,d8,d9,d10,d11,d12,d13,d14,d15,d16,d17,d18,d19,d20,d21,d22,d23,d24,d25,d26,d27,d28,d0,d30,d31,d32,d33,d34,d0,d36,d37,d38,d39,d40,d41,d42,d0,d44,d45,d46,d47,d48,d49,d50,d51,d52,d53,d54,d0,d56,d57,d58,d59,d0,d61,d62,d63,d64,d65,d66],Lz 40 t_GREATEST_SIZE⟩:=⟨Ho X G yJ,Ho X G xj,Ho X G vo,Ho X G wZ,Ho X G uu,Ho X G l8,four in4_0 in4_1 in4_2 in4_3,four in4_0.cl in4_1.cl in4_2.cl in4_3.cl,four q0_number_of q1_number_of q2_number_of q3_number_of,four q0_thing_of q1_thing_of q2_thing_of q3_thing_of,four q0_many q1_many q2_many q3_many,four q0_next_of q1_next_of q2_next_of q3_next_of,four q0_refuse_other q1_refuse_other q2_refuse_other q3_refuse_other,four q0_unchecked_number q1_unchecked_number q2_unchecked_number q3_unchecked_number,four q0_is_one q1_is_one q2_is_one q3_is_one,four q0_number_by_parts q1_number_by_parts q2_number_by_parts q3_number_by_parts,four q0_size_of q1_size_of q2_size_of q3_size_of,four q0_parted q1_parted q2_parted q3_parted,four q0_unchecked_thing q1_unchecked_thing q2_unchecked_thing q3_unchecked_thing,four q0_unchecked_many q1_unchecked_many q2_unchecked_many q3_unchecked_many,four q0_thing_by_parts q1_thing_by_parts q2_thing_by_parts q3_thing_by_parts,four q0_bare q1_bare q2_bare q3_bare,four q0_joined q1_joined q2_joined q3_joined,four n0_word n1_word n2_word n3_word,four n0_least n1_least n2_least n3_least,four ki0_Family ki1_Family ki2_Family ki3_Family,four ki0_SplitFamily ki1_SplitFamily ki2_SplitFamily ki3_SplitFamily,mk_Bows,mk_Rooms,mk_Floors,mk_Turns,cm_SplitFamily___init__,cm_Family___init__,HL X G z_len,HL X G z_range,HL X G z_max,HL X G z_list,HL X G z_sorted,HL X G z_isinstance,HL X G z_int,HL X G z_bool,HL X G z_tuple,HL X G z_all,HL X G z_zip,HL X G z_set,HL X G z_sum,⟨Ho X G y_GREATEST_SIZE,⟨_,rfl⟩⟩⟩
 obtain ⟨oc,od,kV,doc,pm,an,cdv,ct,osl,e,lk,hcd⟩:=F66.ex
 subst e
 refine ⟨Mi "law" "law" (dE jy) (c6 jy) (ao jy) .none kV doc pm an cdv ct,fun s v=>.of_eq rfl,fun base kb _=>?_⟩
 have a:=EY (P:=l.prog) (w:=w) (base:=base) CA
 have a:=a.s (Aw CA a ⟨F0,Ho X G a0⟩)
 have a:=a.s (z6 CA a ⟨F1,Ho X G a1⟩)
 have a:=a.s (BP CA a ⟨F2,Ho X G a2⟩)
 have a:=a.s (Ax CA a ⟨F3,Ho X G a3⟩)
 have a:=a.s (AD CA a ⟨F4,Ho X G a4⟩)
 have a:=a.s (zt CA a ⟨F5,Ho X G a5⟩)
 have a:=a.s (CS CA a ⟨F6,Ho X G a6⟩)
 have a:=a.s (As CA a ⟨F7,Ho X G a7⟩)
 have a:=a.s (zr CA a ⟨F8,Ho X G a8⟩)
 have a:=a.s (CO CA a F9)
 have a:=a.s (CQ CA a F10)
 have a:=a.s (Bn CA a F11)
 have a:=a.s (zB CA a F12)
 have a:=a.s (Ap CA a F13)
 have a:=a.s (Bc CA a F14)
 have a:=a.s (By CA a ⟨F15,Ho X G a15⟩)
 have a:=a.s (Co CA a ⟨F16,Ho X G a16⟩)
 have a:=a.s (Cr CA a ⟨F17,Ho X G a17⟩)
 have a:=a.s (Bx CA a ⟨F18,Ho X G a18⟩)
 have a:=a.s (Ba CA a ⟨F19,Ho X G a19⟩)
 have a:=a.s (BQ CA a ⟨F20,Ho X G a20⟩)
 have a:=a.s (Ao CA a ⟨F21,Ho X G a21⟩)
 have a:=a.s (y6 CA a F22)
 have a:=a.s (Bf CA a ⟨F23,Ho X G a23⟩)
 have a:=a.s (AV CA a F24)
 have a:=a.s (Cj CA a ⟨F25,Ho X G a25⟩)
 have a:=a.s (BE CA a F26)
 have a:=a.s (B5 CA a ⟨F27,Ho X G a27⟩)
 have a:=a.s (B1 CA a F28)
 have a:=a.s (four (qS (a.g 22)) (a.g 24) (qS (a.g 26)) (qS (a.g 28)))
 have a:=a.s (C6 CA a F30)
 have a:=a.s (Cn CA a F31)
 have a:=a.s (zL CA a F32)
 have a:=a.s (BL CA a F33)
 have a:=a.s (Au CA a F34)
 have a:=a.s (four (a.g 31) (a.g 32) (a.g 33) (a.g 34))
 have a:=a.s (B0 CA a ⟨F36,Ho X G a36⟩)
 have a:=a.s (z5 CA a F37)
 have a:=a.s (Az CA a ⟨F38,Ho X G a38⟩)
 have a:=a.s (AF CA a F39)
 have a:=a.s (BO CA a ⟨F40,Ho X G a40⟩)
 have a:=a.s (Cf CA a F41)
 have a:=a.s (Af CA a F42)
 have a:=a.s (four (a.g 37) (a.g 39) (a.g 41) (a.g 42))
 have a:=a.s (DR CA a F44)
 have a:=a.s (Cb CA a ⟨F45,Ho X G a45⟩)
 have a:=a.s (DD CA a F46)
 have a:=a.s (Dl CA a F47)
 have a:=a.s (B8 CA a ⟨F48,Ho X G a48⟩)
 have a:=a.s (Dx CA a F49)
 have a:=a.s (Bw CA a F50)
 have a:=a.s (zz CA a F51)
 have a:=a.s (Cq CA a F52)
 have a:=a.s (zZ CA a F53)
 have a:=a.s (zg CA a F54)
 have a:=a.s (four (a.g 51) (a.g 52) (a.g 53) (a.g 54))
 have a:=a.s (B3 CA a F56)
 have a:=a.s (AX CA a F57)
 have a:=a.s (zE CA a F58)
 have a:=a.s (Bl CA a F59)
 have a:=a.s (four (a.g 56) (a.g 57) (a.g 58) (a.g 59))
 have a:=a.s (DA CA a F61)
 have a:=a.s (Dh CA a F62)
 have a:=a.s (CV CA a F63)
 have a:=a.s (Ac CA a F64)
 have a:=a.s (CF CA a ⟨F65,Ho X G a65⟩)
 exact Ay CA a F66
theorem walk {l:W.OpenLaw} {q:Gi} {loose:List Str} {XP:(Str->Option Fk)->HM->Prop} {YP:GF->HM->Prop} {d:DefRec} {K:G1->Ga} (hn:l.most=some 63) (hdf:d.params.defaults=[])
  (hY:∀ (w:GF) (h:HM),YP w h->(K w.params).In h)
  (F:∀ (w:GF) (mg:Str->Option Fk) (fa:FD) (h:HM),(K w.params).In h->h.Ns mainGlobals mg->mg d.name=some (.ref fa) ->
   ∃ fd:G7,(∀ (s:Fq) (u:Fk),BindsTo s fd ⟨[u],[]⟩ [("_law_script",u)])/\∀ base:HM,(K w.params).In base->base.Ns mainGlobals mg->bL l.prog w (K w.params) mg base kX 48 fa fd ["_law_script"] (CI (K w.params))) :
  W.WalkO q loose XP YP l.row.toRowW d [] (fun f vs=>PySem.call f vs) :=
 L2.walk_of (n:=63) (k:=48) (x:="_law_script") (CX:=fun _=>kX) (sp:=fun w=>CI (K w.params)) hn (by decide) hdf ⟨rfl,by decide,by decide⟩ hY F (fun _ _ a ns hl _ hS=>⟨a,ns,rfl,hS,hl,fun _=>rfl⟩) fun _ _ _ _ _ z=>z
end Ck
open L2
namespace Ck
open PySem PySem.W PySem.Calls PyProof.Rows
noncomputable def hB:List IB:=behindTheImports PySem.Challenge.pw_countkin_k22_four_families_numbered
noncomputable def hE:Env:={ scope:=PySem.Challenge.pw_countkin_k22_four_families_numbered.main.scope,locals:=mainNs,globals:=mainNs,cells:=[],code:=(.ref 13),frame:=some 14 }
noncomputable def hC:Code:=.body hB hE
noncomputable def kV (a:Array Fk):Obj:=⟨.type "tuple",none,.seq a 0,#[]⟩
noncomputable def kD (P:G1) (x:Str) (n:Tok) (v:Fk):Jf:=⟨PyData.keyHash P x,.str x n,v⟩
noncomputable def kF (a b:Str) (s:IB) (m:Str) (n:Tok) (c:FD):Obj:=⟨.type "function",none,.func (fnOf a b (dE s) (c6 s) (ao s) .none .none .none (.str m n) none (.ref c) .none),#[]⟩
noncomputable def kC (a b:Str) (t:Nat) (l n:Int) (r q x y z w:Fk) (e:Nat):Obj:=⟨.type "code",none,.fields #[.str a t,.str b (t+1),.str "/claim/cut.py" (t+2),.int l 0,.int n 0,.int 0 0,.int 0 0,.int 3 0,r,.bool true,.int 181 0,q,x,y,z,w,.int (Int.ofNat e) 0,.int l 0,.str "/claim/cut.py" (e+1)],#[]⟩
noncomputable def hTree (P:G1):BT:=(.node (boot_o_0 P) (.node (boot_o_1 P) (.node (boot_o_3 P) (.node (boot_o_7 P) .nil .nil) (.node ⟨(.type "tuple"),none,(.seq #[] 0),#[]⟩ .nil .nil)) (.node (boot_o_5 P) (.node (boot_o_9 P) .nil .nil) (.node ⟨(.type "code"),none,(.fields #[(.str "<module>" 182),(.str "<module>" 183),(.str "/claim/cut.py" 184),(.int 1 0),(.int 0 0),(.int 0 0),(.int 0 0),(.int 0 0),(.ref 11),(.bool false),(.int 181 0),(.ref 12),.none,.none,.none,.none,(.int 185 0),(.int 1 0),(.str "/claim/cut.py" 186)]),#[]⟩ .nil .nil))) (.node (boot_o_2 P) (.node (boot_o_4 P) (.node (boot_o_8 P) .nil .nil) (.node ⟨.none,none,(.fields #[]),#[]⟩ .nil .nil)) (.node (boot_o_6 P) (.node (boot_o_10 P) .nil .nil) (.node ⟨(.type "frame"),none,.plain,#[(some (.ref 13)),(some (.ref 3)),(some (.ref 3)),none,(some (.str "__main__" 164)),none,(some (.ref 0))]⟩ .nil .nil))))
noncomputable def hS (w:GF) (os:LZ):SharedT:=⟨hTree w.params,15,({}:Life),Array.mk [],⟨0,0,0,0⟩,187,os⟩
noncomputable def hQ:Gi:={ PySem.Challenge.pw_countkin_k22_four_families_numbered with main:={ PySem.Challenge.pw_countkin_k22_four_families_numbered.main with body:=[top 44] } }
noncomputable def EU:List Str:=FY "_law_spoiled"::[]
noncomputable def Fj:List Str:=FY "_law_joined"::FY "_law_bare"::FY "_law_thing"::FY "_law_copy"::FY "_law_kin"::EU
noncomputable def xH:List Str:=FY "_law_counts"::FY "_law_number"::FY "_law_bows_joined"::FY "_law_rooms_joined"::FY "_law_floors_joined"::Fj
noncomputable def E8:List Str:=FY "Turns"::FY "comes_off_a_stack"::FY "_law_cell_at"::FY "_law_whole"::FY "_law_alike"::xH
noncomputable def fQ:List Str:=FY "Rooms"::FY "neighbours"::FY "Floors"::FY "may_be_cut"::FY "third_corner"::E8
noncomputable def fg:List Str:=FY "pairs_raised_by"::FY "flat"::FY "each_once"::FY "any_cross"::FY "Bows"::fQ
noncomputable def eP:List Str:=FY "NoNumber"::FY "NoThing"::FY "Family"::FY "SplitFamily"::FY "raised_by"::fg
noncomputable def Fd:List Str:=FY "GREATEST_SIZE"::FY "shares"::FY "by_rule"::FY "KinError"::FY "NoSize"::eP
noncomputable def hL:List Str:=Fd
noncomputable def hK:G1->LO:=fun P=>(nat_lit 2,⟨.none,none,(.dict #[] 0),#[]⟩)::(nat_lit 3,⟨(.type "dict"),none,(.dict (Kc (kD P "__name__" 165 (.str "law_countkin_k22_four_families_numbered" 809)::kD P "__doc__" 166 .none::kD P "__package__" 167 .none::kD P "__loader__" 168 (.builtin "__main__.__loader__#opaque")::kD P "__spec__" 169 .none::kD P "__annotations__" 170 (.ref 6)::kD P "__builtins__" 171 (.ref 4)::kD P "__file__" 173 (.str "/claim/cut.py" 172)::kD P "__cached__" 174 .none::kD P "GREATEST_SIZE" 190 (.int 40 189)::kD P "shares" 196 (.ref 19)::kD P "by_rule" 205 (.ref 26)::kD P "KinError" 225 (.ref 36)::kD P "NoSize" 241 (.ref 49)::kD P "NoNumber" 257 (.ref 61)::kD P "NoThing" 273 (.ref 73)::kD P "Family" 391 (.ref 162)::kD P "SplitFamily" 485 (.ref 237)::kD P "raised_by" 493 (.ref 244)::kD P "pairs_raised_by" 499 (.ref 249)::kD P "flat" 508 (.ref 256)::kD P "each_once" 515 (.ref 263)::kD P "any_cross" 526 (.ref 270)::kD P "Bows" 593 (.ref 320)::kD P "Rooms" 647 (.ref 366)::kD P "neighbours" 653 (.ref 373)::kD P "Floors" 717 (.ref 421)::kD P "may_be_cut" 726 (.ref 430)::kD P "third_corner" 732 (.ref 435)::kD P "Turns" 798 (.ref 487)::kD P "comes_off_a_stack" 808 (.ref 496)::kD P "_law_cell_at" 818 (.ref 503)::kD P "_law_whole" 825 (.ref 510)::kD P "_law_alike" 834 (.ref 517)::kD P "_law_counts" 843 (.ref 524)::kD P "_law_number" 856 (.ref 531)::kD P "_law_bows_joined" 868 (.ref 538)::kD P "_law_rooms_joined" 874 (.ref 543)::kD P "_law_floors_joined" 888 (.ref 550)::kD P "_law_joined" 894 (.ref 555)::kD P "_law_bare" 901 (.ref 562)::kD P "_law_thing" 914 (.ref 569)::kD P "_law_copy" 920 (.ref 574)::kD P "_law_kin" 927 (.ref 581)::kD P "_law_spoiled" 935 (.ref 588)::kD P "law" 956 (.ref 595)::[])) 46),#[]⟩)::(nat_lit 18,(kC "shares" "shares" 191 3 1 (.ref 15) (.ref 16) .none .none .none (.ref 17) 194))::(nat_lit 19,(kF "shares" "shares" (top 2) "countkin.counts" 187 18))::(nat_lit 25,(kC "by_rule" "by_rule" 197 8 1 (.ref 20) (.ref 21) .none (.ref 22) (.ref 23) (.ref 24) 203))::(nat_lit 26,(kF "by_rule" "by_rule" (top 3) "countkin.counts" 187 25))::(nat_lit 35,⟨(.type "dict"),none,(.dict #[kD P "__module__" 215 (.str "countkin.errors" 206),kD P "__firstlineno__" 219 (.int 14 218),kD P "__static_attributes__" 220 (.ref 34),kD P "__weakref__" 222 (.ref 37),kD P "__doc__" 223 .none] 3),#[]⟩)::(nat_lit 36,⟨(.type "type"),none,(.cls ⟨"KinError",[(.type "ValueError")],[(.ref 36),(.type "ValueError"),(.type "Exception"),(.type "BaseException"),(.type "object")],35,"KinError",true,[],[(.ref 49),(.ref 61),(.ref 73)],false,none,false⟩),#[(some (.ref 27)),none,(some (.str "KinError" 208)),(some (.str "KinError" 216)),(some (.builtin "ValueError.__new__")),(some (.bool true))]⟩)::(nat_lit 37,⟨(.type "getset_descriptor"),none,(.fields #[(.str "__weakref__" 221),(.ref 36),(.builtin "ExceptionGroup.__weakref__"),.none]),#[]⟩)::(nat_lit 48,⟨(.type "dict"),none,(.dict #[kD P "__module__" 233 (.str "countkin.errors" 206),kD P "__firstlineno__" 237 (.int 16 236),kD P "__static_attributes__" 238 (.ref 47),kD P "__doc__" 239 .none] 2),#[]⟩)::(nat_lit 49,⟨(.type "type"),none,(.cls ⟨"NoSize",[(.ref 36)],[(.ref 49),(.ref 36),(.type "ValueError"),(.type "Exception"),(.type "BaseException"),(.type "object")],48,"NoSize",true,[],[],false,none,false⟩),#[(some (.ref 40)),none,(some (.str "NoSize" 226)),(some (.str "NoSize" 234)),(some (.builtin "ValueError.__new__")),(some (.bool true))]⟩)::(nat_lit 60,⟨(.type "dict"),none,(.dict #[kD P "__module__" 249 (.str "countkin.errors" 206),kD P "__firstlineno__" 253 (.int 18 252),kD P "__static_attributes__" 254 (.ref 59),kD P "__doc__" 255 .none] 2),#[]⟩)::(nat_lit 61,⟨(.type "type"),none,(.cls ⟨"NoNumber",[(.ref 36)],[(.ref 61),(.ref 36),(.type "ValueError"),(.type "Exception"),(.type "BaseException"),(.type "object")],60,"NoNumber",true,[],[],false,none,false⟩),#[(some (.ref 52)),none,(some (.str "NoNumber" 242)),(some (.str "NoNumber" 250)),(some (.builtin "ValueError.__new__")),(some (.bool true))]⟩)::(nat_lit 72,⟨(.type "dict"),none,(.dict #[kD P "__module__" 265 (.str "countkin.errors" 206),kD P "__firstlineno__" 269 (.int 20 268),kD P "__static_attributes__" 270 (.ref 71),kD P "__doc__" 271 .none] 2),#[]⟩)::(nat_lit 73,⟨(.type "type"),none,(.cls ⟨"NoThing",[(.ref 36)],[(.ref 73),(.ref 36),(.type "ValueError"),(.type "Exception"),(.type "BaseException"),(.type "object")],72,"NoThing",true,[],[],false,none,false⟩),#[(some (.ref 64)),none,(some (.str "NoThing" 258)),(some (.str "NoThing" 266)),(some (.builtin "ValueError.__new__")),(some (.bool true))]⟩)::(nat_lit 88,(kC "__init__" "Family.__init__" 288 25 3 (.ref 83) (.ref 84) .none (.ref 85) (.ref 86) (.ref 87) 294))::(nat_lit 89,(kF "__init__" "Family.__init__" (inClass (top 10) 0) "countkin.kin" 274 88))::(nat_lit 130,(kC "many" "Family.many" 338 44 2 (.ref 125) (.ref 126) .none (.ref 127) (.ref 128) (.ref 129) 343))::(nat_lit 131,(kF "many" "Family.many" (inClass (top 10) 6) "countkin.kin" 274 130))::(nat_lit 137,(kC "refuse_other" "Family.refuse_other" 346 49 2 (.ref 132) (.ref 133) .none (.ref 134) (.ref 135) (.ref 136) 351))::(nat_lit 138,(kF "refuse_other" "Family.refuse_other" (inClass (top 10) 7) "countkin.kin" 274 137))::(nat_lit 144,(kC "number_of" "Family.number_of" 354 53 2 (.ref 139) (.ref 140) .none (.ref 141) (.ref 142) (.ref 143) 359))::(nat_lit 145,(kF "number_of" "Family.number_of" (inClass (top 10) 8) "countkin.kin" 274 144))::(nat_lit 151,(kC "thing_of" "Family.thing_of" 362 57 3 (.ref 146) (.ref 147) .none (.ref 148) (.ref 149) (.ref 150) 369))::(nat_lit 152,(kF "thing_of" "Family.thing_of" (inClass (top 10) 9) "countkin.kin" 274 151))::(nat_lit 158,(kC "next_of" "Family.next_of" 372 63 2 (.ref 153) (.ref 154) .none (.ref 155) (.ref 156) (.ref 157) 379))::(nat_lit 159,(kF "next_of" "Family.next_of" (inClass (top 10) 10) "countkin.kin" 274 158))::(nat_lit 161,⟨(.type "dict"),none,(.dict #[kD P "__module__" 283 (.str "countkin.kin" 274),kD P "__firstlineno__" 287 (.int 23 286),kD P "__init__" 296 (.ref 89),kD P "size_of" 304 (.ref 96),kD P "is_one" 312 (.ref 103),kD P "unchecked_many" 320 (.ref 110),kD P "unchecked_number" 328 (.ref 117),kD P "unchecked_thing" 337 (.ref 124),kD P "many" 345 (.ref 131),kD P "refuse_other" 353 (.ref 138),kD P "number_of" 361 (.ref 145),kD P "thing_of" 371 (.ref 152),kD P "next_of" 381 (.ref 159),kD P "__static_attributes__" 384 (.ref 160),kD P "__dict__" 386 (.ref 163),kD P "__weakref__" 388 (.ref 164),kD P "__doc__" 389 .none] 4),#[]⟩)::(nat_lit 162,⟨(.type "type"),none,(.cls ⟨"Family",[(.type "object")],[(.ref 162),(.type "object")],161,"Family",true,[],[(.ref 237)],false,none,false⟩),#[none,none,(some (.str "Family" 276)),(some (.str "Family" 284)),(some (.builtin "object.__new__")),(some (.bool true))]⟩)::(nat_lit 163,⟨(.type "getset_descriptor"),none,(.fields #[(.str "__dict__" 385),(.ref 162),(.builtin "function.__dict__"),(.builtin "function.__dict__#set")]),#[]⟩)::(nat_lit 164,⟨(.type "getset_descriptor"),none,(.fields #[(.str "__weakref__" 387),(.ref 162),(.builtin "ExceptionGroup.__weakref__"),.none]),#[]⟩)::(nat_lit 179,(kC "__init__" "SplitFamily.__init__" 404 71 2 (.ref 174) (.ref 175) .none (.ref 176) (.ref 177) (.ref 178) 409))::(nat_lit 180,(kF "__init__" "SplitFamily.__init__" (inClass (top 11) 0) "countkin.kin" 274 179))::(nat_lit 207,(kC "unchecked_many" "SplitFamily.unchecked_many" 436 83 2 (.ref 202) (.ref 203) .none (.ref 204) (.ref 205) (.ref 206) 441))::(nat_lit 208,(kF "unchecked_many" "SplitFamily.unchecked_many" (inClass (top 11) 4) "countkin.kin" 274 207))::(nat_lit 214,(kC "unchecked_number" "SplitFamily.unchecked_number" 444 86 2 (.ref 209) (.ref 210) .none (.ref 211) (.ref 212) (.ref 213) 449))::(nat_lit 215,(kF "unchecked_number" "SplitFamily.unchecked_number" (inClass (top 11) 5) "countkin.kin" 274 214))::(nat_lit 221,(kC "unchecked_thing" "SplitFamily.unchecked_thing" 452 89 3 (.ref 216) (.ref 217) .none (.ref 218) (.ref 219) (.ref 220) 458))::(nat_lit 222,(kF "unchecked_thing" "SplitFamily.unchecked_thing" (inClass (top 11) 6) "countkin.kin" 274 221))::(nat_lit 226,(kC "number_by_parts" "SplitFamily.number_by_parts" 461 92 3 (.ref 223) (.ref 224) .none .none .none (.ref 225) 464))::(nat_lit 227,(kF "number_by_parts" "SplitFamily.number_by_parts" (inClass (top 11) 7) "countkin.kin" 274 226))::(nat_lit 233,(kC "thing_by_parts" "SplitFamily.thing_by_parts" 467 103 4 (.ref 228) (.ref 229) .none (.ref 230) (.ref 231) (.ref 232) 479))::(nat_lit 234,(kF "thing_by_parts" "SplitFamily.thing_by_parts" (inClass (top 11) 8) "countkin.kin" 274 233))::(nat_lit 236,⟨(.type "dict"),none,(.dict #[kD P "__module__" 399 (.str "countkin.kin" 274),kD P "__firstlineno__" 403 (.int 69 402),kD P "__init__" 411 (.ref 180),kD P "bare" 418 (.ref 187),kD P "parted" 426 (.ref 194),kD P "joined" 435 (.ref 201),kD P "unchecked_many" 443 (.ref 208),kD P "unchecked_number" 451 (.ref 215),kD P "unchecked_thing" 460 (.ref 222),kD P "number_by_parts" 466 (.ref 227),kD P "thing_by_parts" 481 (.ref 234),kD P "__static_attributes__" 482 (.ref 235),kD P "__doc__" 483 .none] 2),#[]⟩)::(nat_lit 237,⟨(.type "type"),none,(.cls ⟨"SplitFamily",[(.ref 162)],[(.ref 237),(.ref 162),(.type "object")],236,"SplitFamily",true,[],[(.ref 320),(.ref 366),(.ref 421),(.ref 487)],false,none,false⟩),#[(some (.ref 167)),none,(some (.str "SplitFamily" 392)),(some (.str "SplitFamily" 400)),(some (.builtin "object.__new__")),(some (.bool true))]⟩)::(nat_lit 243,(kC "raised_by" "raised_by" 488 116 2 (.ref 240) (.ref 241) .none .none .none (.ref 242) 491))::(nat_lit 244,(kF "raised_by" "raised_by" (top 13) "countkin.common" 486 243))::(nat_lit 248,(kC "pairs_raised_by" "pairs_raised_by" 494 118 2 (.ref 245) (.ref 246) .none .none .none (.ref 247) 497))::(nat_lit 249,(kF "pairs_raised_by" "pairs_raised_by" (top 14) "countkin.common" 486 248))::(nat_lit 255,(kC "flat" "flat" 500 120 1 (.ref 250) (.ref 251) .none (.ref 252) (.ref 253) (.ref 254) 506))::(nat_lit 256,(kF "flat" "flat" (top 15) "countkin.common" 486 255))::(nat_lit 262,(kC "each_once" "each_once" 509 125 1 (.ref 257) (.ref 258) .none (.ref 259) (.ref 260) (.ref 261) 513))::(nat_lit 263,(kF "each_once" "each_once" (top 16) "countkin.common" 486 262))::(nat_lit 269,(kC "any_cross" "any_cross" 516 127 1 (.ref 264) (.ref 265) .none (.ref 266) (.ref 267) (.ref 268) 524))::(nat_lit 270,(kF "any_cross" "any_cross" (top 17) "countkin.common" 486 269))::(nat_lit 283,(kC "__init__" "Bows.__init__" 541 136 1 (.ref 278) (.ref 279) .none (.ref 280) (.ref 281) (.ref 282) 545))::(nat_lit 284,(kF "__init__" "Bows.__init__" (inClass (top 19) 0) "countkin.bends" 527 283))::(nat_lit 290,(kC "size_of" "Bows.size_of" 548 139 2 (.ref 285) (.ref 286) .none (.ref 287) (.ref 288) (.ref 289) 553))::(nat_lit 291,(kF "size_of" "Bows.size_of" (inClass (top 19) 1) "countkin.bends" 527 290))::(nat_lit 295,(kC "is_one" "Bows.is_one" 556 142 2 (.ref 292) (.ref 293) .none .none .none (.ref 294) 559))::(nat_lit 296,(kF "is_one" "Bows.is_one" (inClass (top 19) 2) "countkin.bends" 527 295))::(nat_lit 302,(kC "bare" "Bows.bare" 562 147 1 (.ref 297) (.ref 298) .none (.ref 299) (.ref 300) (.ref 301) 566))::(nat_lit 303,(kF "bare" "Bows.bare" (inClass (top 19) 3) "countkin.bends" 527 302))::(nat_lit 309,(kC "parted" "Bows.parted" 569 150 2 (.ref 304) (.ref 305) .none (.ref 306) (.ref 307) (.ref 308) 577))::(nat_lit 310,(kF "parted" "Bows.parted" (inClass (top 19) 4) "countkin.bends" 527 309))::(nat_lit 316,(kC "joined" "Bows.joined" 580 156 3 (.ref 311) (.ref 312) .none (.ref 313) (.ref 314) (.ref 315) 587))::(nat_lit 317,(kF "joined" "Bows.joined" (inClass (top 19) 5) "countkin.bends" 527 316))::(nat_lit 319,⟨(.type "dict"),none,(.dict #[kD P "__module__" 536 (.str "countkin.bends" 527),kD P "__firstlineno__" 540 (.int 134 539),kD P "__init__" 547 (.ref 284),kD P "size_of" 555 (.ref 291),kD P "is_one" 561 (.ref 296),kD P "bare" 568 (.ref 303),kD P "parted" 579 (.ref 310),kD P "joined" 589 (.ref 317),kD P "__static_attributes__" 590 (.ref 318),kD P "__doc__" 591 .none] 2),#[]⟩)::(nat_lit 320,⟨(.type "type"),none,(.cls ⟨"Bows",[(.ref 237)],[(.ref 320),(.ref 237),(.ref 162),(.type "object")],319,"Bows",true,[],[],false,none,false⟩),#[(some (.ref 271)),none,(some (.str "Bows" 529)),(some (.str "Bows" 537)),(some (.builtin "object.__new__")),(some (.bool true))]⟩)::(nat_lit 335,(kC "__init__" "Rooms.__init__" 606 161 1 (.ref 330) (.ref 331) .none (.ref 332) (.ref 333) (.ref 334) 610))::(nat_lit 336,(kF "__init__" "Rooms.__init__" (inClass (top 20) 0) "countkin.bends" 527 335))::(nat_lit 340,(kC "size_of" "Rooms.size_of" 613 164 2 (.ref 337) (.ref 338) .none .none .none (.ref 339) 616))::(nat_lit 341,(kF "size_of" "Rooms.size_of" (inClass (top 20) 1) "countkin.bends" 527 340))::(nat_lit 345,(kC "is_one" "Rooms.is_one" 619 167 2 (.ref 342) (.ref 343) .none .none .none (.ref 344) 622))::(nat_lit 346,(kF "is_one" "Rooms.is_one" (inClass (top 20) 2) "countkin.bends" 527 345))::(nat_lit 352,(kC "bare" "Rooms.bare" 625 172 1 (.ref 347) (.ref 348) .none (.ref 349) (.ref 350) (.ref 351) 629))::(nat_lit 353,(kF "bare" "Rooms.bare" (inClass (top 20) 3) "countkin.bends" 527 352))::(nat_lit 357,(kC "parted" "Rooms.parted" 632 175 2 (.ref 354) (.ref 355) .none .none .none (.ref 356) 635))::(nat_lit 358,(kF "parted" "Rooms.parted" (inClass (top 20) 4) "countkin.bends" 527 357))::(nat_lit 362,(kC "joined" "Rooms.joined" 638 183 3 (.ref 359) (.ref 360) .none .none .none (.ref 361) 641))::(nat_lit 363,(kF "joined" "Rooms.joined" (inClass (top 20) 5) "countkin.bends" 527 362))::(nat_lit 365,⟨(.type "dict"),none,(.dict #[kD P "__module__" 601 (.str "countkin.bends" 527),kD P "__firstlineno__" 605 (.int 159 604),kD P "__init__" 612 (.ref 336),kD P "size_of" 618 (.ref 341),kD P "is_one" 624 (.ref 346),kD P "bare" 631 (.ref 353),kD P "parted" 637 (.ref 358),kD P "joined" 643 (.ref 363),kD P "__static_attributes__" 644 (.ref 364),kD P "__doc__" 645 .none] 2),#[]⟩)::(nat_lit 366,⟨(.type "type"),none,(.cls ⟨"Rooms",[(.ref 237)],[(.ref 366),(.ref 237),(.ref 162),(.type "object")],365,"Rooms",true,[],[],false,none,false⟩),#[(some (.ref 323)),none,(some (.str "Rooms" 594)),(some (.str "Rooms" 602)),(some (.builtin "object.__new__")),(some (.bool true))]⟩)::(nat_lit 372,(kC "neighbours" "neighbours" 648 193 1 (.ref 369) (.ref 370) .none .none .none (.ref 371) 651))::(nat_lit 373,(kF "neighbours" "neighbours" (top 21) "countkin.bends" 527 372))::(nat_lit 386,(kC "__init__" "Floors.__init__" 668 198 1 (.ref 381) (.ref 382) .none (.ref 383) (.ref 384) (.ref 385) 672))::(nat_lit 387,(kF "__init__" "Floors.__init__" (inClass (top 23) 0) "countkin.floors" 654 386))::(nat_lit 393,(kC "size_of" "Floors.size_of" 675 201 2 (.ref 388) (.ref 389) .none (.ref 390) (.ref 391) (.ref 392) 680))::(nat_lit 394,(kF "size_of" "Floors.size_of" (inClass (top 23) 1) "countkin.floors" 654 393))::(nat_lit 398,(kC "is_one" "Floors.is_one" 683 204 2 (.ref 395) (.ref 396) .none .none .none (.ref 397) 686))::(nat_lit 399,(kF "is_one" "Floors.is_one" (inClass (top 23) 2) "countkin.floors" 654 398))::(nat_lit 405,(kC "bare" "Floors.bare" 689 213 1 (.ref 400) (.ref 401) .none (.ref 402) (.ref 403) (.ref 404) 693))::(nat_lit 406,(kF "bare" "Floors.bare" (inClass (top 23) 3) "countkin.floors" 654 405))::(nat_lit 410,(kC "parted" "Floors.parted" 696 216 2 (.ref 407) (.ref 408) .none .none .none (.ref 409) 699))::(nat_lit 411,(kF "parted" "Floors.parted" (inClass (top 23) 4) "countkin.floors" 654 410))::(nat_lit 417,(kC "joined" "Floors.joined" 702 224 3 (.ref 412) (.ref 413) .none (.ref 414) (.ref 415) (.ref 416) 711))::(nat_lit 418,(kF "joined" "Floors.joined" (inClass (top 23) 5) "countkin.floors" 654 417))::(nat_lit 420,⟨(.type "dict"),none,(.dict #[kD P "__module__" 663 (.str "countkin.floors" 654),kD P "__firstlineno__" 667 (.int 196 666),kD P "__init__" 674 (.ref 387),kD P "size_of" 682 (.ref 394),kD P "is_one" 688 (.ref 399),kD P "bare" 695 (.ref 406),kD P "parted" 701 (.ref 411),kD P "joined" 713 (.ref 418),kD P "__static_attributes__" 714 (.ref 419),kD P "__doc__" 715 .none] 2),#[]⟩)::(nat_lit 421,⟨(.type "type"),none,(.cls ⟨"Floors",[(.ref 237)],[(.ref 421),(.ref 237),(.ref 162),(.type "object")],420,"Floors",true,[],[],false,none,false⟩),#[(some (.ref 374)),none,(some (.str "Floors" 656)),(some (.str "Floors" 664)),(some (.builtin "object.__new__")),(some (.bool true))]⟩)::(nat_lit 429,(kC "may_be_cut" "may_be_cut" 718 233 3 (.ref 424) (.ref 425) .none (.ref 426) (.ref 427) (.ref 428) 724))::(nat_lit 430,(kF "may_be_cut" "may_be_cut" (top 24) "countkin.floors" 654 429))::(nat_lit 434,(kC "third_corner" "third_corner" 727 235 3 (.ref 431) (.ref 432) .none .none .none (.ref 433) 730))::(nat_lit 435,(kF "third_corner" "third_corner" (top 25) "countkin.floors" 654 434))::(nat_lit 448,(kC "__init__" "Turns.__init__" 747 240 1 (.ref 443) (.ref 444) .none (.ref 445) (.ref 446) (.ref 447) 751))::(nat_lit 449,(kF "__init__" "Turns.__init__" (inClass (top 27) 0) "countkin.rows" 733 448))::(nat_lit 455,(kC "size_of" "Turns.size_of" 754 243 2 (.ref 450) (.ref 451) .none (.ref 452) (.ref 453) (.ref 454) 759))::(nat_lit 456,(kF "size_of" "Turns.size_of" (inClass (top 27) 1) "countkin.rows" 733 455))::(nat_lit 462,(kC "is_one" "Turns.is_one" 762 246 2 (.ref 457) (.ref 458) .none (.ref 459) (.ref 460) (.ref 461) 767))::(nat_lit 463,(kF "is_one" "Turns.is_one" (inClass (top 27) 2) "countkin.rows" 733 462))::(nat_lit 469,(kC "bare" "Turns.bare" 770 249 1 (.ref 464) (.ref 465) .none (.ref 466) (.ref 467) (.ref 468) 774))::(nat_lit 470,(kF "bare" "Turns.bare" (inClass (top 27) 3) "countkin.rows" 733 469))::(nat_lit 476,(kC "parted" "Turns.parted" 777 252 2 (.ref 471) (.ref 472) .none (.ref 473) (.ref 474) (.ref 475) 783))::(nat_lit 477,(kF "parted" "Turns.parted" (inClass (top 27) 4) "countkin.rows" 733 476))::(nat_lit 483,(kC "joined" "Turns.joined" 786 256 3 (.ref 478) (.ref 479) .none (.ref 480) (.ref 481) (.ref 482) 792))::(nat_lit 484,(kF "joined" "Turns.joined" (inClass (top 27) 5) "countkin.rows" 733 483))::(nat_lit 486,⟨(.type "dict"),none,(.dict #[kD P "__module__" 742 (.str "countkin.rows" 733),kD P "__firstlineno__" 746 (.int 238 745),kD P "__init__" 753 (.ref 449),kD P "size_of" 761 (.ref 456),kD P "is_one" 769 (.ref 463),kD P "bare" 776 (.ref 470),kD P "parted" 785 (.ref 477),kD P "joined" 794 (.ref 484),kD P "__static_attributes__" 795 (.ref 485),kD P "__doc__" 796 .none] 2),#[]⟩)::(nat_lit 487,⟨(.type "type"),none,(.cls ⟨"Turns",[(.ref 237)],[(.ref 487),(.ref 237),(.ref 162),(.type "object")],486,"Turns",true,[],[],false,none,false⟩),#[(some (.ref 436)),none,(some (.str "Turns" 735)),(some (.str "Turns" 743)),(some (.builtin "object.__new__")),(some (.bool true))]⟩)::(nat_lit 495,(kC "comes_off_a_stack" "comes_off_a_stack" 799 258 1 (.ref 490) (.ref 491) .none (.ref 492) (.ref 493) (.ref 494) 806))::(nat_lit 496,(kF "comes_off_a_stack" "comes_off_a_stack" (top 28) "countkin.rows" 733 495))::(nat_lit 502,(kC "_law_cell_at" "_law_cell_at" 811 269 2 (.ref 497) (.ref 498) .none (.ref 499) (.ref 500) (.ref 501) 816))::(nat_lit 503,(kF "_law_cell_at" "_law_cell_at" (top 30) "law_countkin_k22_four_families_numbered" 809 502))::(nat_lit 509,(kC "_law_whole" "_law_whole" 819 273 1 (.ref 504) (.ref 505) .none (.ref 506) (.ref 507) (.ref 508) 823))::(nat_lit 510,(kF "_law_whole" "_law_whole" (top 31) "law_countkin_k22_four_families_numbered" 809 509))::(nat_lit 516,(kC "_law_alike" "_law_alike" 826 275 2 (.ref 511) (.ref 512) .none (.ref 513) (.ref 514) (.ref 515) 832))::(nat_lit 517,(kF "_law_alike" "_law_alike" (top 32) "law_countkin_k22_four_families_numbered" 809 516))::(nat_lit 523,(kC "_law_counts" "_law_counts" 835 289 1 (.ref 518) (.ref 519) .none (.ref 520) (.ref 521) (.ref 522) 841))::(nat_lit 524,(kF "_law_counts" "_law_counts" (top 33) "law_countkin_k22_four_families_numbered" 809 523))::(nat_lit 530,(kC "_law_number" "_law_number" 844 294 3 (.ref 525) (.ref 526) .none (.ref 527) (.ref 528) (.ref 529) 854))::(nat_lit 531,(kF "_law_number" "_law_number" (top 34) "law_countkin_k22_four_families_numbered" 809 530))::(nat_lit 537,(kC "_law_bows_joined" "_law_bows_joined" 857 308 3 (.ref 532) (.ref 533) .none (.ref 534) (.ref 535) (.ref 536) 866))::(nat_lit 538,(kF "_law_bows_joined" "_law_bows_joined" (top 35) "law_countkin_k22_four_families_numbered" 809 537))::(nat_lit 542,(kC "_law_rooms_joined" "_law_rooms_joined" 869 315 3 (.ref 539) (.ref 540) .none .none .none (.ref 541) 872))::(nat_lit 543,(kF "_law_rooms_joined" "_law_rooms_joined" (top 36) "law_countkin_k22_four_families_numbered" 809 542))::(nat_lit 549,(kC "_law_floors_joined" "_law_floors_joined" 875 325 3 (.ref 544) (.ref 545) .none (.ref 546) (.ref 547) (.ref 548) 886))::(nat_lit 550,(kF "_law_floors_joined" "_law_floors_joined" (top 37) "law_countkin_k22_four_families_numbered" 809 549))::(nat_lit 554,(kC "_law_joined" "_law_joined" 889 334 4 (.ref 551) (.ref 552) .none .none .none (.ref 553) 892))::(nat_lit 555,(kF "_law_joined" "_law_joined" (top 38) "law_countkin_k22_four_families_numbered" 809 554))::(nat_lit 561,(kC "_law_bare" "_law_bare" 895 342 1 (.ref 556) (.ref 557) .none (.ref 558) (.ref 559) (.ref 560) 899))::(nat_lit 562,(kF "_law_bare" "_law_bare" (top 39) "law_countkin_k22_four_families_numbered" 809 561))::(nat_lit 568,(kC "_law_thing" "_law_thing" 902 346 4 (.ref 563) (.ref 564) .none (.ref 565) (.ref 566) (.ref 567) 912))::(nat_lit 569,(kF "_law_thing" "_law_thing" (top 40) "law_countkin_k22_four_families_numbered" 809 568))::(nat_lit 573,(kC "_law_copy" "_law_copy" 915 356 1 (.ref 570) (.ref 571) .none .none .none (.ref 572) 918))::(nat_lit 574,(kF "_law_copy" "_law_copy" (top 41) "law_countkin_k22_four_families_numbered" 809 573))::(nat_lit 580,(kC "_law_kin" "_law_kin" 921 362 1 (.ref 575) (.ref 576) .none (.ref 577) (.ref 578) (.ref 579) 925))::(nat_lit 581,(kF "_law_kin" "_law_kin" (top 42) "law_countkin_k22_four_families_numbered" 809 580))::(nat_lit 587,(kC "_law_spoiled" "_law_spoiled" 928 370 1 (.ref 582) (.ref 583) .none (.ref 584) (.ref 585) (.ref 586) 933))::(nat_lit 588,(kF "_law_spoiled" "_law_spoiled" (top 43) "law_countkin_k22_four_families_numbered" 809 587))::(nat_lit 594,(kC "law" "law" 936 378 1 (.ref 589) (.ref 590) .none (.ref 591) (.ref 592) (.ref 593) 954))::(nat_lit 595,(kF "law" "law" (top 44) "law_countkin_k22_four_families_numbered" 809 594))::[]
noncomputable def Ai (P:G1):List Jf:=kD P "law" 956 (.ref 595)::[]
noncomputable def CM (P:G1):List Jf:=kD P "_law_bare" 901 (.ref 562)::kD P "_law_thing" 914 (.ref 569)::kD P "_law_copy" 920 (.ref 574)::kD P "_law_kin" 927 (.ref 581)::kD P "_law_spoiled" 935 (.ref 588)::Ai P
noncomputable def AB (P:G1):List Jf:=kD P "_law_number" 856 (.ref 531)::kD P "_law_bows_joined" 868 (.ref 538)::kD P "_law_rooms_joined" 874 (.ref 543)::kD P "_law_floors_joined" 888 (.ref 550)::kD P "_law_joined" 894 (.ref 555)::CM P
noncomputable def Bd (P:G1):List Jf:=kD P "comes_off_a_stack" 808 (.ref 496)::kD P "_law_cell_at" 818 (.ref 503)::kD P "_law_whole" 825 (.ref 510)::kD P "_law_alike" 834 (.ref 517)::kD P "_law_counts" 843 (.ref 524)::AB P
noncomputable def BY (P:G1):List Jf:=kD P "neighbours" 653 (.ref 373)::kD P "Floors" 717 (.ref 421)::kD P "may_be_cut" 726 (.ref 430)::kD P "third_corner" 732 (.ref 435)::kD P "Turns" 798 (.ref 487)::Bd P
noncomputable def Ab (P:G1):List Jf:=kD P "flat" 508 (.ref 256)::kD P "each_once" 515 (.ref 263)::kD P "any_cross" 526 (.ref 270)::kD P "Bows" 593 (.ref 320)::kD P "Rooms" 647 (.ref 366)::BY P
noncomputable def Ce (P:G1):List Jf:=kD P "NoThing" 273 (.ref 73)::kD P "Family" 391 (.ref 162)::kD P "SplitFamily" 485 (.ref 237)::kD P "raised_by" 493 (.ref 244)::kD P "pairs_raised_by" 499 (.ref 249)::Ab P
noncomputable def zA (P:G1):List Jf:=kD P "shares" 196 (.ref 19)::kD P "by_rule" 205 (.ref 26)::kD P "KinError" 225 (.ref 36)::kD P "NoSize" 241 (.ref 49)::kD P "NoNumber" 257 (.ref 61)::Ce P
noncomputable def zd (P:G1):List Jf:=kD P "__annotations__" 170 (.ref 6)::kD P "__builtins__" 171 (.ref 4)::kD P "__file__" 173 (.str "/claim/cut.py" 172)::kD P "__cached__" 174 .none::kD P "GREATEST_SIZE" 190 (.int 40 189)::zA P
noncomputable def BN (P:G1):List Jf:=kD P "__name__" 165 (.str "law_countkin_k22_four_families_numbered" 809)::kD P "__doc__" 166 .none::kD P "__package__" 167 .none::kD P "__loader__" 168 (.builtin "__main__.__loader__#opaque")::kD P "__spec__" 169 .none::zd P
noncomputable def D0 (P:G1):LO:=(nat_lit 587,(kC "_law_spoiled" "_law_spoiled" 928 370 1 (.ref 582) (.ref 583) .none (.ref 584) (.ref 585) (.ref 586) 933))::(nat_lit 588,(kF "_law_spoiled" "_law_spoiled" (top 43) "law_countkin_k22_four_families_numbered" 809 587))::(nat_lit 594,(kC "law" "law" 936 378 1 (.ref 589) (.ref 590) .none (.ref 591) (.ref 592) (.ref 593) 954))::(nat_lit 595,(kF "law" "law" (top 44) "law_countkin_k22_four_families_numbered" 809 594))::[]
noncomputable def ED (P:G1):LO:=(nat_lit 569,(kF "_law_thing" "_law_thing" (top 40) "law_countkin_k22_four_families_numbered" 809 568))::(nat_lit 573,(kC "_law_copy" "_law_copy" 915 356 1 (.ref 570) (.ref 571) .none .none .none (.ref 572) 918))::(nat_lit 574,(kF "_law_copy" "_law_copy" (top 41) "law_countkin_k22_four_families_numbered" 809 573))::(nat_lit 580,(kC "_law_kin" "_law_kin" 921 362 1 (.ref 575) (.ref 576) .none (.ref 577) (.ref 578) (.ref 579) 925))::(nat_lit 581,(kF "_law_kin" "_law_kin" (top 42) "law_countkin_k22_four_families_numbered" 809 580))::D0 P
noncomputable def EH (P:G1):LO:=(nat_lit 554,(kC "_law_joined" "_law_joined" 889 334 4 (.ref 551) (.ref 552) .none .none .none (.ref 553) 892))::(nat_lit 555,(kF "_law_joined" "_law_joined" (top 38) "law_countkin_k22_four_families_numbered" 809 554))::(nat_lit 561,(kC "_law_bare" "_law_bare" 895 342 1 (.ref 556) (.ref 557) .none (.ref 558) (.ref 559) (.ref 560) 899))::(nat_lit 562,(kF "_law_bare" "_law_bare" (top 39) "law_countkin_k22_four_families_numbered" 809 561))::(nat_lit 568,(kC "_law_thing" "_law_thing" 902 346 4 (.ref 563) (.ref 564) .none (.ref 565) (.ref 566) (.ref 567) 912))::ED P
noncomputable def En (P:G1):LO:=(nat_lit 538,(kF "_law_bows_joined" "_law_bows_joined" (top 35) "law_countkin_k22_four_families_numbered" 809 537))::(nat_lit 542,(kC "_law_rooms_joined" "_law_rooms_joined" 869 315 3 (.ref 539) (.ref 540) .none .none .none (.ref 541) 872))::(nat_lit 543,(kF "_law_rooms_joined" "_law_rooms_joined" (top 36) "law_countkin_k22_four_families_numbered" 809 542))::(nat_lit 549,(kC "_law_floors_joined" "_law_floors_joined" 875 325 3 (.ref 544) (.ref 545) .none (.ref 546) (.ref 547) (.ref 548) 886))::(nat_lit 550,(kF "_law_floors_joined" "_law_floors_joined" (top 37) "law_countkin_k22_four_families_numbered" 809 549))::EH P
noncomputable def EI (P:G1):LO:=(nat_lit 523,(kC "_law_counts" "_law_counts" 835 289 1 (.ref 518) (.ref 519) .none (.ref 520) (.ref 521) (.ref 522) 841))::(nat_lit 524,(kF "_law_counts" "_law_counts" (top 33) "law_countkin_k22_four_families_numbered" 809 523))::(nat_lit 530,(kC "_law_number" "_law_number" 844 294 3 (.ref 525) (.ref 526) .none (.ref 527) (.ref 528) (.ref 529) 854))::(nat_lit 531,(kF "_law_number" "_law_number" (top 34) "law_countkin_k22_four_families_numbered" 809 530))::(nat_lit 537,(kC "_law_bows_joined" "_law_bows_joined" 857 308 3 (.ref 532) (.ref 533) .none (.ref 534) (.ref 535) (.ref 536) 866))::En P
noncomputable def Ew (P:G1):LO:=(nat_lit 503,(kF "_law_cell_at" "_law_cell_at" (top 30) "law_countkin_k22_four_families_numbered" 809 502))::(nat_lit 509,(kC "_law_whole" "_law_whole" 819 273 1 (.ref 504) (.ref 505) .none (.ref 506) (.ref 507) (.ref 508) 823))::(nat_lit 510,(kF "_law_whole" "_law_whole" (top 31) "law_countkin_k22_four_families_numbered" 809 509))::(nat_lit 516,(kC "_law_alike" "_law_alike" 826 275 2 (.ref 511) (.ref 512) .none (.ref 513) (.ref 514) (.ref 515) 832))::(nat_lit 517,(kF "_law_alike" "_law_alike" (top 32) "law_countkin_k22_four_families_numbered" 809 516))::EI P
noncomputable def EC (P:G1):LO:=(nat_lit 486,⟨(.type "dict"),none,(.dict #[kD P "__module__" 742 (.str "countkin.rows" 733),kD P "__firstlineno__" 746 (.int 238 745),kD P "__init__" 753 (.ref 449),kD P "size_of" 761 (.ref 456),kD P "is_one" 769 (.ref 463),kD P "bare" 776 (.ref 470),kD P "parted" 785 (.ref 477),kD P "joined" 794 (.ref 484),kD P "__static_attributes__" 795 (.ref 485),kD P "__doc__" 796 .none] 2),#[]⟩)::(nat_lit 487,⟨(.type "type"),none,(.cls ⟨"Turns",[(.ref 237)],[(.ref 487),(.ref 237),(.ref 162),(.type "object")],486,"Turns",true,[],[],false,none,false⟩),#[(some (.ref 436)),none,(some (.str "Turns" 735)),(some (.str "Turns" 743)),(some (.builtin "object.__new__")),(some (.bool true))]⟩)::(nat_lit 495,(kC "comes_off_a_stack" "comes_off_a_stack" 799 258 1 (.ref 490) (.ref 491) .none (.ref 492) (.ref 493) (.ref 494) 806))::(nat_lit 496,(kF "comes_off_a_stack" "comes_off_a_stack" (top 28) "countkin.rows" 733 495))::(nat_lit 502,(kC "_law_cell_at" "_law_cell_at" 811 269 2 (.ref 497) (.ref 498) .none (.ref 499) (.ref 500) (.ref 501) 816))::Ew P
noncomputable def Et (P:G1):LO:=(nat_lit 470,(kF "bare" "Turns.bare" (inClass (top 27) 3) "countkin.rows" 733 469))::(nat_lit 476,(kC "parted" "Turns.parted" 777 252 2 (.ref 471) (.ref 472) .none (.ref 473) (.ref 474) (.ref 475) 783))::(nat_lit 477,(kF "parted" "Turns.parted" (inClass (top 27) 4) "countkin.rows" 733 476))::(nat_lit 483,(kC "joined" "Turns.joined" 786 256 3 (.ref 478) (.ref 479) .none (.ref 480) (.ref 481) (.ref 482) 792))::(nat_lit 484,(kF "joined" "Turns.joined" (inClass (top 27) 5) "countkin.rows" 733 483))::EC P
noncomputable def EL (P:G1):LO:=(nat_lit 455,(kC "size_of" "Turns.size_of" 754 243 2 (.ref 450) (.ref 451) .none (.ref 452) (.ref 453) (.ref 454) 759))::(nat_lit 456,(kF "size_of" "Turns.size_of" (inClass (top 27) 1) "countkin.rows" 733 455))::(nat_lit 462,(kC "is_one" "Turns.is_one" 762 246 2 (.ref 457) (.ref 458) .none (.ref 459) (.ref 460) (.ref 461) 767))::(nat_lit 463,(kF "is_one" "Turns.is_one" (inClass (top 27) 2) "countkin.rows" 733 462))::(nat_lit 469,(kC "bare" "Turns.bare" 770 249 1 (.ref 464) (.ref 465) .none (.ref 466) (.ref 467) (.ref 468) 774))::Et P
noncomputable def EA (P:G1):LO:=(nat_lit 430,(kF "may_be_cut" "may_be_cut" (top 24) "countkin.floors" 654 429))::(nat_lit 434,(kC "third_corner" "third_corner" 727 235 3 (.ref 431) (.ref 432) .none .none .none (.ref 433) 730))::(nat_lit 435,(kF "third_corner" "third_corner" (top 25) "countkin.floors" 654 434))::(nat_lit 448,(kC "__init__" "Turns.__init__" 747 240 1 (.ref 443) (.ref 444) .none (.ref 445) (.ref 446) (.ref 447) 751))::(nat_lit 449,(kF "__init__" "Turns.__init__" (inClass (top 27) 0) "countkin.rows" 733 448))::EL P
noncomputable def Er (P:G1):LO:=(nat_lit 417,(kC "joined" "Floors.joined" 702 224 3 (.ref 412) (.ref 413) .none (.ref 414) (.ref 415) (.ref 416) 711))::(nat_lit 418,(kF "joined" "Floors.joined" (inClass (top 23) 5) "countkin.floors" 654 417))::(nat_lit 420,⟨(.type "dict"),none,(.dict #[kD P "__module__" 663 (.str "countkin.floors" 654),kD P "__firstlineno__" 667 (.int 196 666),kD P "__init__" 674 (.ref 387),kD P "size_of" 682 (.ref 394),kD P "is_one" 688 (.ref 399),kD P "bare" 695 (.ref 406),kD P "parted" 701 (.ref 411),kD P "joined" 713 (.ref 418),kD P "__static_attributes__" 714 (.ref 419),kD P "__doc__" 715 .none] 2),#[]⟩)::(nat_lit 421,⟨(.type "type"),none,(.cls ⟨"Floors",[(.ref 237)],[(.ref 421),(.ref 237),(.ref 162),(.type "object")],420,"Floors",true,[],[],false,none,false⟩),#[(some (.ref 374)),none,(some (.str "Floors" 656)),(some (.str "Floors" 664)),(some (.builtin "object.__new__")),(some (.bool true))]⟩)::(nat_lit 429,(kC "may_be_cut" "may_be_cut" 718 233 3 (.ref 424) (.ref 425) .none (.ref 426) (.ref 427) (.ref 428) 724))::EA P
noncomputable def DY (P:G1):LO:=(nat_lit 399,(kF "is_one" "Floors.is_one" (inClass (top 23) 2) "countkin.floors" 654 398))::(nat_lit 405,(kC "bare" "Floors.bare" 689 213 1 (.ref 400) (.ref 401) .none (.ref 402) (.ref 403) (.ref 404) 693))::(nat_lit 406,(kF "bare" "Floors.bare" (inClass (top 23) 3) "countkin.floors" 654 405))::(nat_lit 410,(kC "parted" "Floors.parted" 696 216 2 (.ref 407) (.ref 408) .none .none .none (.ref 409) 699))::(nat_lit 411,(kF "parted" "Floors.parted" (inClass (top 23) 4) "countkin.floors" 654 410))::Er P
noncomputable def Ek (P:G1):LO:=(nat_lit 386,(kC "__init__" "Floors.__init__" 668 198 1 (.ref 381) (.ref 382) .none (.ref 383) (.ref 384) (.ref 385) 672))::(nat_lit 387,(kF "__init__" "Floors.__init__" (inClass (top 23) 0) "countkin.floors" 654 386))::(nat_lit 393,(kC "size_of" "Floors.size_of" 675 201 2 (.ref 388) (.ref 389) .none (.ref 390) (.ref 391) (.ref 392) 680))::(nat_lit 394,(kF "size_of" "Floors.size_of" (inClass (top 23) 1) "countkin.floors" 654 393))::(nat_lit 398,(kC "is_one" "Floors.is_one" 683 204 2 (.ref 395) (.ref 396) .none .none .none (.ref 397) 686))::DY P
noncomputable def Ei (P:G1):LO:=(nat_lit 363,(kF "joined" "Rooms.joined" (inClass (top 20) 5) "countkin.bends" 527 362))::(nat_lit 365,⟨(.type "dict"),none,(.dict #[kD P "__module__" 601 (.str "countkin.bends" 527),kD P "__firstlineno__" 605 (.int 159 604),kD P "__init__" 612 (.ref 336),kD P "size_of" 618 (.ref 341),kD P "is_one" 624 (.ref 346),kD P "bare" 631 (.ref 353),kD P "parted" 637 (.ref 358),kD P "joined" 643 (.ref 363),kD P "__static_attributes__" 644 (.ref 364),kD P "__doc__" 645 .none] 2),#[]⟩)::(nat_lit 366,⟨(.type "type"),none,(.cls ⟨"Rooms",[(.ref 237)],[(.ref 366),(.ref 237),(.ref 162),(.type "object")],365,"Rooms",true,[],[],false,none,false⟩),#[(some (.ref 323)),none,(some (.str "Rooms" 594)),(some (.str "Rooms" 602)),(some (.builtin "object.__new__")),(some (.bool true))]⟩)::(nat_lit 372,(kC "neighbours" "neighbours" 648 193 1 (.ref 369) (.ref 370) .none .none .none (.ref 371) 651))::(nat_lit 373,(kF "neighbours" "neighbours" (top 21) "countkin.bends" 527 372))::Ek P
noncomputable def Eg (P:G1):LO:=(nat_lit 352,(kC "bare" "Rooms.bare" 625 172 1 (.ref 347) (.ref 348) .none (.ref 349) (.ref 350) (.ref 351) 629))::(nat_lit 353,(kF "bare" "Rooms.bare" (inClass (top 20) 3) "countkin.bends" 527 352))::(nat_lit 357,(kC "parted" "Rooms.parted" 632 175 2 (.ref 354) (.ref 355) .none .none .none (.ref 356) 635))::(nat_lit 358,(kF "parted" "Rooms.parted" (inClass (top 20) 4) "countkin.bends" 527 357))::(nat_lit 362,(kC "joined" "Rooms.joined" 638 183 3 (.ref 359) (.ref 360) .none .none .none (.ref 361) 641))::Ei P
noncomputable def D7 (P:G1):LO:=(nat_lit 336,(kF "__init__" "Rooms.__init__" (inClass (top 20) 0) "countkin.bends" 527 335))::(nat_lit 340,(kC "size_of" "Rooms.size_of" 613 164 2 (.ref 337) (.ref 338) .none .none .none (.ref 339) 616))::(nat_lit 341,(kF "size_of" "Rooms.size_of" (inClass (top 20) 1) "countkin.bends" 527 340))::(nat_lit 345,(kC "is_one" "Rooms.is_one" 619 167 2 (.ref 342) (.ref 343) .none .none .none (.ref 344) 622))::(nat_lit 346,(kF "is_one" "Rooms.is_one" (inClass (top 20) 2) "countkin.bends" 527 345))::Eg P
noncomputable def Ez (P:G1):LO:=(nat_lit 316,(kC "joined" "Bows.joined" 580 156 3 (.ref 311) (.ref 312) .none (.ref 313) (.ref 314) (.ref 315) 587))::(nat_lit 317,(kF "joined" "Bows.joined" (inClass (top 19) 5) "countkin.bends" 527 316))::(nat_lit 319,⟨(.type "dict"),none,(.dict #[kD P "__module__" 536 (.str "countkin.bends" 527),kD P "__firstlineno__" 540 (.int 134 539),kD P "__init__" 547 (.ref 284),kD P "size_of" 555 (.ref 291),kD P "is_one" 561 (.ref 296),kD P "bare" 568 (.ref 303),kD P "parted" 579 (.ref 310),kD P "joined" 589 (.ref 317),kD P "__static_attributes__" 590 (.ref 318),kD P "__doc__" 591 .none] 2),#[]⟩)::(nat_lit 320,⟨(.type "type"),none,(.cls ⟨"Bows",[(.ref 237)],[(.ref 320),(.ref 237),(.ref 162),(.type "object")],319,"Bows",true,[],[],false,none,false⟩),#[(some (.ref 271)),none,(some (.str "Bows" 529)),(some (.str "Bows" 537)),(some (.builtin "object.__new__")),(some (.bool true))]⟩)::(nat_lit 335,(kC "__init__" "Rooms.__init__" 606 161 1 (.ref 330) (.ref 331) .none (.ref 332) (.ref 333) (.ref 334) 610))::D7 P
noncomputable def D6 (P:G1):LO:=(nat_lit 296,(kF "is_one" "Bows.is_one" (inClass (top 19) 2) "countkin.bends" 527 295))::(nat_lit 302,(kC "bare" "Bows.bare" 562 147 1 (.ref 297) (.ref 298) .none (.ref 299) (.ref 300) (.ref 301) 566))::(nat_lit 303,(kF "bare" "Bows.bare" (inClass (top 19) 3) "countkin.bends" 527 302))::(nat_lit 309,(kC "parted" "Bows.parted" 569 150 2 (.ref 304) (.ref 305) .none (.ref 306) (.ref 307) (.ref 308) 577))::(nat_lit 310,(kF "parted" "Bows.parted" (inClass (top 19) 4) "countkin.bends" 527 309))::Ez P
noncomputable def Eo (P:G1):LO:=(nat_lit 283,(kC "__init__" "Bows.__init__" 541 136 1 (.ref 278) (.ref 279) .none (.ref 280) (.ref 281) (.ref 282) 545))::(nat_lit 284,(kF "__init__" "Bows.__init__" (inClass (top 19) 0) "countkin.bends" 527 283))::(nat_lit 290,(kC "size_of" "Bows.size_of" 548 139 2 (.ref 285) (.ref 286) .none (.ref 287) (.ref 288) (.ref 289) 553))::(nat_lit 291,(kF "size_of" "Bows.size_of" (inClass (top 19) 1) "countkin.bends" 527 290))::(nat_lit 295,(kC "is_one" "Bows.is_one" 556 142 2 (.ref 292) (.ref 293) .none .none .none (.ref 294) 559))::D6 P
noncomputable def Ec (P:G1):LO:=(nat_lit 256,(kF "flat" "flat" (top 15) "countkin.common" 486 255))::(nat_lit 262,(kC "each_once" "each_once" 509 125 1 (.ref 257) (.ref 258) .none (.ref 259) (.ref 260) (.ref 261) 513))::(nat_lit 263,(kF "each_once" "each_once" (top 16) "countkin.common" 486 262))::(nat_lit 269,(kC "any_cross" "any_cross" 516 127 1 (.ref 264) (.ref 265) .none (.ref 266) (.ref 267) (.ref 268) 524))::(nat_lit 270,(kF "any_cross" "any_cross" (top 17) "countkin.common" 486 269))::Eo P
noncomputable def E2 (P:G1):LO:=(nat_lit 243,(kC "raised_by" "raised_by" 488 116 2 (.ref 240) (.ref 241) .none .none .none (.ref 242) 491))::(nat_lit 244,(kF "raised_by" "raised_by" (top 13) "countkin.common" 486 243))::(nat_lit 248,(kC "pairs_raised_by" "pairs_raised_by" 494 118 2 (.ref 245) (.ref 246) .none .none .none (.ref 247) 497))::(nat_lit 249,(kF "pairs_raised_by" "pairs_raised_by" (top 14) "countkin.common" 486 248))::(nat_lit 255,(kC "flat" "flat" 500 120 1 (.ref 250) (.ref 251) .none (.ref 252) (.ref 253) (.ref 254) 506))::Ec P
noncomputable def EN (P:G1):LO:=(nat_lit 227,(kF "number_by_parts" "SplitFamily.number_by_parts" (inClass (top 11) 7) "countkin.kin" 274 226))::(nat_lit 233,(kC "thing_by_parts" "SplitFamily.thing_by_parts" 467 103 4 (.ref 228) (.ref 229) .none (.ref 230) (.ref 231) (.ref 232) 479))::(nat_lit 234,(kF "thing_by_parts" "SplitFamily.thing_by_parts" (inClass (top 11) 8) "countkin.kin" 274 233))::(nat_lit 236,⟨(.type "dict"),none,(.dict #[kD P "__module__" 399 (.str "countkin.kin" 274),kD P "__firstlineno__" 403 (.int 69 402),kD P "__init__" 411 (.ref 180),kD P "bare" 418 (.ref 187),kD P "parted" 426 (.ref 194),kD P "joined" 435 (.ref 201),kD P "unchecked_many" 443 (.ref 208),kD P "unchecked_number" 451 (.ref 215),kD P "unchecked_thing" 460 (.ref 222),kD P "number_by_parts" 466 (.ref 227),kD P "thing_by_parts" 481 (.ref 234),kD P "__static_attributes__" 482 (.ref 235),kD P "__doc__" 483 .none] 2),#[]⟩)::(nat_lit 237,⟨(.type "type"),none,(.cls ⟨"SplitFamily",[(.ref 162)],[(.ref 237),(.ref 162),(.type "object")],236,"SplitFamily",true,[],[(.ref 320),(.ref 366),(.ref 421),(.ref 487)],false,none,false⟩),#[(some (.ref 167)),none,(some (.str "SplitFamily" 392)),(some (.str "SplitFamily" 400)),(some (.builtin "object.__new__")),(some (.bool true))]⟩)::E2 P
noncomputable def E3 (P:G1):LO:=(nat_lit 214,(kC "unchecked_number" "SplitFamily.unchecked_number" 444 86 2 (.ref 209) (.ref 210) .none (.ref 211) (.ref 212) (.ref 213) 449))::(nat_lit 215,(kF "unchecked_number" "SplitFamily.unchecked_number" (inClass (top 11) 5) "countkin.kin" 274 214))::(nat_lit 221,(kC "unchecked_thing" "SplitFamily.unchecked_thing" 452 89 3 (.ref 216) (.ref 217) .none (.ref 218) (.ref 219) (.ref 220) 458))::(nat_lit 222,(kF "unchecked_thing" "SplitFamily.unchecked_thing" (inClass (top 11) 6) "countkin.kin" 274 221))::(nat_lit 226,(kC "number_by_parts" "SplitFamily.number_by_parts" 461 92 3 (.ref 223) (.ref 224) .none .none .none (.ref 225) 464))::EN P
noncomputable def Fc (P:G1):LO:=(nat_lit 164,⟨(.type "getset_descriptor"),none,(.fields #[(.str "__weakref__" 387),(.ref 162),(.builtin "ExceptionGroup.__weakref__"),.none]),#[]⟩)::(nat_lit 179,(kC "__init__" "SplitFamily.__init__" 404 71 2 (.ref 174) (.ref 175) .none (.ref 176) (.ref 177) (.ref 178) 409))::(nat_lit 180,(kF "__init__" "SplitFamily.__init__" (inClass (top 11) 0) "countkin.kin" 274 179))::(nat_lit 207,(kC "unchecked_many" "SplitFamily.unchecked_many" 436 83 2 (.ref 202) (.ref 203) .none (.ref 204) (.ref 205) (.ref 206) 441))::(nat_lit 208,(kF "unchecked_many" "SplitFamily.unchecked_many" (inClass (top 11) 4) "countkin.kin" 274 207))::E3 P
noncomputable def E1 (P:G1):LO:=(nat_lit 158,(kC "next_of" "Family.next_of" 372 63 2 (.ref 153) (.ref 154) .none (.ref 155) (.ref 156) (.ref 157) 379))::(nat_lit 159,(kF "next_of" "Family.next_of" (inClass (top 10) 10) "countkin.kin" 274 158))::(nat_lit 161,⟨(.type "dict"),none,(.dict #[kD P "__module__" 283 (.str "countkin.kin" 274),kD P "__firstlineno__" 287 (.int 23 286),kD P "__init__" 296 (.ref 89),kD P "size_of" 304 (.ref 96),kD P "is_one" 312 (.ref 103),kD P "unchecked_many" 320 (.ref 110),kD P "unchecked_number" 328 (.ref 117),kD P "unchecked_thing" 337 (.ref 124),kD P "many" 345 (.ref 131),kD P "refuse_other" 353 (.ref 138),kD P "number_of" 361 (.ref 145),kD P "thing_of" 371 (.ref 152),kD P "next_of" 381 (.ref 159),kD P "__static_attributes__" 384 (.ref 160),kD P "__dict__" 386 (.ref 163),kD P "__weakref__" 388 (.ref 164),kD P "__doc__" 389 .none] 4),#[]⟩)::(nat_lit 162,⟨(.type "type"),none,(.cls ⟨"Family",[(.type "object")],[(.ref 162),(.type "object")],161,"Family",true,[],[(.ref 237)],false,none,false⟩),#[none,none,(some (.str "Family" 276)),(some (.str "Family" 284)),(some (.builtin "object.__new__")),(some (.bool true))]⟩)::(nat_lit 163,⟨(.type "getset_descriptor"),none,(.fields #[(.str "__dict__" 385),(.ref 162),(.builtin "function.__dict__"),(.builtin "function.__dict__#set")]),#[]⟩)::Fc P
noncomputable def E4 (P:G1):LO:=(nat_lit 138,(kF "refuse_other" "Family.refuse_other" (inClass (top 10) 7) "countkin.kin" 274 137))::(nat_lit 144,(kC "number_of" "Family.number_of" 354 53 2 (.ref 139) (.ref 140) .none (.ref 141) (.ref 142) (.ref 143) 359))::(nat_lit 145,(kF "number_of" "Family.number_of" (inClass (top 10) 8) "countkin.kin" 274 144))::(nat_lit 151,(kC "thing_of" "Family.thing_of" 362 57 3 (.ref 146) (.ref 147) .none (.ref 148) (.ref 149) (.ref 150) 369))::(nat_lit 152,(kF "thing_of" "Family.thing_of" (inClass (top 10) 9) "countkin.kin" 274 151))::E1 P
noncomputable def Fh (P:G1):LO:=(nat_lit 88,(kC "__init__" "Family.__init__" 288 25 3 (.ref 83) (.ref 84) .none (.ref 85) (.ref 86) (.ref 87) 294))::(nat_lit 89,(kF "__init__" "Family.__init__" (inClass (top 10) 0) "countkin.kin" 274 88))::(nat_lit 130,(kC "many" "Family.many" 338 44 2 (.ref 125) (.ref 126) .none (.ref 127) (.ref 128) (.ref 129) 343))::(nat_lit 131,(kF "many" "Family.many" (inClass (top 10) 6) "countkin.kin" 274 130))::(nat_lit 137,(kC "refuse_other" "Family.refuse_other" 346 49 2 (.ref 132) (.ref 133) .none (.ref 134) (.ref 135) (.ref 136) 351))::E4 P
noncomputable def ES (P:G1):LO:=(nat_lit 49,⟨(.type "type"),none,(.cls ⟨"NoSize",[(.ref 36)],[(.ref 49),(.ref 36),(.type "ValueError"),(.type "Exception"),(.type "BaseException"),(.type "object")],48,"NoSize",true,[],[],false,none,false⟩),#[(some (.ref 40)),none,(some (.str "NoSize" 226)),(some (.str "NoSize" 234)),(some (.builtin "ValueError.__new__")),(some (.bool true))]⟩)::(nat_lit 60,⟨(.type "dict"),none,(.dict #[kD P "__module__" 249 (.str "countkin.errors" 206),kD P "__firstlineno__" 253 (.int 18 252),kD P "__static_attributes__" 254 (.ref 59),kD P "__doc__" 255 .none] 2),#[]⟩)::(nat_lit 61,⟨(.type "type"),none,(.cls ⟨"NoNumber",[(.ref 36)],[(.ref 61),(.ref 36),(.type "ValueError"),(.type "Exception"),(.type "BaseException"),(.type "object")],60,"NoNumber",true,[],[],false,none,false⟩),#[(some (.ref 52)),none,(some (.str "NoNumber" 242)),(some (.str "NoNumber" 250)),(some (.builtin "ValueError.__new__")),(some (.bool true))]⟩)::(nat_lit 72,⟨(.type "dict"),none,(.dict #[kD P "__module__" 265 (.str "countkin.errors" 206),kD P "__firstlineno__" 269 (.int 20 268),kD P "__static_attributes__" 270 (.ref 71),kD P "__doc__" 271 .none] 2),#[]⟩)::(nat_lit 73,⟨(.type "type"),none,(.cls ⟨"NoThing",[(.ref 36)],[(.ref 73),(.ref 36),(.type "ValueError"),(.type "Exception"),(.type "BaseException"),(.type "object")],72,"NoThing",true,[],[],false,none,false⟩),#[(some (.ref 64)),none,(some (.str "NoThing" 258)),(some (.str "NoThing" 266)),(some (.builtin "ValueError.__new__")),(some (.bool true))]⟩)::Fh P
noncomputable def ET (P:G1):LO:=(nat_lit 26,(kF "by_rule" "by_rule" (top 3) "countkin.counts" 187 25))::(nat_lit 35,⟨(.type "dict"),none,(.dict #[kD P "__module__" 215 (.str "countkin.errors" 206),kD P "__firstlineno__" 219 (.int 14 218),kD P "__static_attributes__" 220 (.ref 34),kD P "__weakref__" 222 (.ref 37),kD P "__doc__" 223 .none] 3),#[]⟩)::(nat_lit 36,⟨(.type "type"),none,(.cls ⟨"KinError",[(.type "ValueError")],[(.ref 36),(.type "ValueError"),(.type "Exception"),(.type "BaseException"),(.type "object")],35,"KinError",true,[],[(.ref 49),(.ref 61),(.ref 73)],false,none,false⟩),#[(some (.ref 27)),none,(some (.str "KinError" 208)),(some (.str "KinError" 216)),(some (.builtin "ValueError.__new__")),(some (.bool true))]⟩)::(nat_lit 37,⟨(.type "getset_descriptor"),none,(.fields #[(.str "__weakref__" 221),(.ref 36),(.builtin "ExceptionGroup.__weakref__"),.none]),#[]⟩)::(nat_lit 48,⟨(.type "dict"),none,(.dict #[kD P "__module__" 233 (.str "countkin.errors" 206),kD P "__firstlineno__" 237 (.int 16 236),kD P "__static_attributes__" 238 (.ref 47),kD P "__doc__" 239 .none] 2),#[]⟩)::ES P
noncomputable def xP (P:G1):LO:=(nat_lit 2,⟨.none,none,(.dict #[] 0),#[]⟩)::(nat_lit 3,⟨(.type "dict"),none,(.dict (Kc (BN P)) 46),#[]⟩)::(nat_lit 18,(kC "shares" "shares" 191 3 1 (.ref 15) (.ref 16) .none .none .none (.ref 17) 194))::(nat_lit 19,(kF "shares" "shares" (top 2) "countkin.counts" 187 18))::(nat_lit 25,(kC "by_rule" "by_rule" 197 8 1 (.ref 20) (.ref 21) .none (.ref 22) (.ref 23) (.ref 24) 203))::ET P
noncomputable def hKs:G1->LO:=fun P=>xP P
noncomputable def bT:Bool:=true
noncomputable def bF:Bool:=false
noncomputable def hM:List Bool:=(bF::bF::bT::bT::bF::bF::bF::bF::bF::bF::bF::bF::bF::bF::bF::bF::bF::bF::bT::bT::bF::bF::bF::bF::bF::bT::bT::bF::bF::bF::bF::bF::bF::bF::bF::bT::bT::bT::bF::bF::bF::bF::bF::bF::bF::bF::bF::bF::bT::bT::bF::bF::bF::bF::bF::bF::bF::bF::bF::bF::bT::bT::bF::bF::bF::bF::bF::bF::bF::bF::bF::bF::bT::bT::bF::bF::bF::bF::bF::bF::bF::bF::bF::bF::bF::bF::bF::bF::bT::bT::bF::bF::bF::bF::bF::bF::bF::bF::bF::bF::bF::bF::bF::bF::bF::bF::bF::bF::bF::bF::bF::bF::bF::bF::bF::bF::bF::bF::bF::bF::bF::bF::bF::bF::bF::bF::bF::bF::bF::bF::bT::bT::bF::bF::bF::bF::bF::bT::bT::bF::bF::bF::bF::bF::bT::bT::bF::bF::bF::bF::bF::bT::bT::bF::bF::bF::bF::bF::bT::bT::bF::bT::bT::bT::bT::bF::bF::bF::bF::bF::bF::bF::bF::bF::bF::bF::bF::bF::bF::bT::bT::bF::bF::bF::bF::bF::bF::bF::bF::bF::bF::bF::bF::bF::bF::bF::bF::bF::bF::bF::bF::bF::bF::bF::bF::bF::bF::bT::bT::bF::bF::bF::bF::bF::bT::bT::bF::bF::bF::bF::bF::bT::bT::bF::bF::bF::bT::bT::bF::bF::bF::bF::bF::bT::bT::bF::bT::bT::bF::bF::bF::bF::bF::bT::bT::bF::bF::bF::bT::bT::bF::bF::bF::bF::bF::bT::bT::bF::bF::bF::bF::bF::bT::bT::bF::bF::bF::bF::bF::bT::bT::bF::bF::bF::bF::bF::bF::bF::bF::bF::bF::bF::bF::bT::bT::bF::bF::bF::bF::bF::bT::bT::bF::bF::bF::bT::bT::bF::bF::bF::bF::bF::bT::bT::bF::bF::bF::bF::bF::bT::bT::bF::bF::bF::bF::bF::bT::bT::bF::bT::bT::bF::bF::bF::bF::bF::bF::bF::bF::bF::bF::bF::bF::bF::bF::bT::bT::bF::bF::bF::bT::bT::bF::bF::bF::bT::bT::bF::bF::bF::bF::bF::bT::bT::bF::bF::bF::bT::bT::bF::bF::bF::bT::bT::bF::bT::bT::bF::bF::bF::bF::bF::bT::bT::bF::bF::bF::bF::bF::bF::bF::bF::bF::bF::bF::bF::bT::bT::bF::bF::bF::bF::bF::bT::bT::bF::bF::bF::bT::bT::bF::bF::bF::bF::bF::bT::bT::bF::bF::bF::bT::bT::bF::bF::bF::bF::bF::bT::bT::bF::bT::bT::bF::bF::bF::bF::bF::bF::bF::bT::bT::bF::bF::bF::bT::bT::bF::bF::bF::bF::bF::bF::bF::bF::bF::bF::bF::bF::bT::bT::bF::bF::bF::bF::bF::bT::bT::bF::bF::bF::bF::bF::bT::bT::bF::bF::bF::bF::bF::bT::bT::bF::bF::bF::bF::bF::bT::bT::bF::bF::bF::bF::bF::bT::bT::bF::bT::bT::bF::bF::bF::bF::bF::bF::bF::bT::bT::bF::bF::bF::bF::bF::bT::bT::bF::bF::bF::bF::bF::bT::bT::bF::bF::bF::bF::bF::bT::bT::bF::bF::bF::bF::bF::bT::bT::bF::bF::bF::bF::bF::bT::bT::bF::bF::bF::bF::bF::bT::bT::bF::bF::bF::bT::bT::bF::bF::bF::bF::bF::bT::bT::bF::bF::bF::bT::bT::bF::bF::bF::bF::bF::bT::bT::bF::bF::bF::bF::bF::bT::bT::bF::bF::bF::bT::bT::bF::bF::bF::bF::bF::bT::bT::bF::bF::bF::bF::bF::bT::bT::bF::bF::bF::bF::bF::bT::bT::[])
noncomputable def hA:List FD:=i5 hM 0
theorem hAM:hA=i5 hM 0:=rfl
noncomputable abbrev hX:Fq->Bool:=(fun s=>xlAt hQ [] s&&recOk (RowW.records (OpenRow.toRowW (OpenLaw.row PySem.Challenge.rw_countkin_k22_four_families_numbered))) s)
theorem hKA:∀ P:G1,hA=(hK P).map (·.1):=fun _=>by kernel_rfl
noncomputable abbrev hH:Hook:=kHook hK hA hKA
noncomputable def hLook (P:G1) (s:Fq):=((staticsOk (importedModules PySem.Challenge.pw_countkin_k22_four_families_numbered.main.body) (LM P) s.heap&&namesBound PySem.Challenge.pw_countkin_k22_four_families_numbered s.heap&&gensDone s&&laidKept (LM P) s.heap),openSeen hQ hL (importedModules PySem.Challenge.pw_countkin_k22_four_families_numbered.main.body) hX true s,fJ s.heap.objs.toList hM)
noncomputable def hPreF (w:GF) (os:LZ):=topGo treeTable PySem.Challenge.pw_countkin_k22_four_families_numbered w 11 (some (.ref 6)) 12 ⟨LM w.params,Array.mk [],boot_drawn,boot_toks,os⟩ (topStub PySem.Challenge.pw_countkin_k22_four_families_numbered)
noncomputable def hPreG (w:GF) (os:LZ):Option (Fq × Thread):=some ((hS w os).abs,⟨denote treeTable hC,hC,⟨0,0,0,0⟩,[topFrame ⟨0,0,0,0⟩]⟩)
noncomputable def hBlkF (w:GF) (os:LZ):=segRun treeTable PySem.Challenge.pw_countkin_k22_four_families_numbered w 11 (some (.ref 6)) 1 1 (hS w os).abs (blockOf hB hE hC ⟨0,0,0,0⟩ [topFrame ⟨0,0,0,0⟩])
noncomputable def hBlkG (w:GF) (os:LZ):Option (Flow × Fq × Code × Pos):=some (.next,(hS w os).abs,hC,⟨0,0,0,0⟩)
noncomputable def hRunF (w:GF) (os:LZ):=(segRunT treeTable PySem.Challenge.pw_countkin_k22_four_families_numbered w 11 (some (.ref 6)) 1 4394 (hS w os) (piecesOf hB hE hC ⟨0,0,0,0⟩ [topFrame ⟨0,0,0,0⟩])).map (l7 treeTable PySem.Challenge.pw_countkin_k22_four_families_numbered w 11 (some (.ref 6)) ⟨0,0,0,0⟩ hC 2 (hLook w.params))
noncomputable def hRunG (w:GF) (_:LZ):=some (Flow.next,hC,some (true,openGood hQ hL,(hKs w.params).map fun p=>some p.2))
noncomputable def hSizF (w:GF):=((LM w.params).isNs mainGlobals&&(Array.mk []:Array K9).size == 0,(LM w.params).objs.size,(LM w.params).nsMap mainGlobals "__annotations__")
noncomputable def hSizG (_:GF):Bool × Nat × Option Fk:=(true,11,(some (.ref 6)))
theorem hSeed:(fun _ _ _ _ _ _ _ _=>true) hPreF hPreG hBlkF hBlkG hRunF hRunG hSizF hSizG=true:=by k_qdec
theorem hPre:hPreF=hPreG:=LQ PySem.W.Fast.te5317814654954331368 (LQ (by kernel_rfl) (Eq.symm PySem.W.Fast.te14277440360295502494))
theorem hBlk:hBlkF=hBlkG:=LQ PySem.W.Fast.te2033988648308832629 (LQ (by kernel_rfl) (Eq.symm PySem.W.Fast.te1798457917166677164))
theorem hRun:hRunF=hRunG:=LQ PySem.W.Fast.te6412348297585774662 (LQ (by kernel_rfl) (Eq.symm PySem.W.Fast.te15447895654253735931))
theorem hSiz:hSizF=hSizG:=LQ PySem.W.Fast.te13693962943478796877 (by kernel_rfl)
theorem hLeft:LeftO PySem.Challenge.pw_countkin_k22_four_families_numbered hQ hL hX (Hook.obs hH) (Hook.val hH) 8912 :=
 rB (boot_open (by kernel_rfl) (by decide) (fun _=>by kernel_rfl)) (fun w=>congrFun hSiz w)
  (fun w os=>by
   obtain ⟨e,r,l⟩:=uL (b:=hB) (env:=hE) (L:=hLook w.params) rfl (congrFun (congrFun hPre w) os) (congrFun (congrFun hBlk w) os) (congrFun (congrFun hRun w) os)
   exact ⟨e,r,(congrArg (fun z=>(_,_,z)) (x9 hAM e.heap)).trans l⟩) (by decide)
end Ck
open PySem PySem.W PyProof.Rows
set_option maxRecDepth 100000 in
set_option maxHeartbeats 0 in
theorem PySem.Challenge.cw_countkin_k22_four_families_numbered_holds : PySem.Challenge.rw_countkin_k22_four_families_numbered.Holds := by
 w_on; o_law
 refine holds_open (q:=Ck.hQ) (loose:=Ck.hL) (Xt:=Ck.hX) (XP:=XL Ck.hQ []) (Yf:=Hook.obs (kHook Ck.hK Ck.hA Ck.hKA)) (Ya:=Hook.val (kHook Ck.hK Ck.hA Ck.hKA)) (YP:=Hook.says (kHook Ck.hK Ck.hA Ck.hKA)) (N:=8912) Ck.hLeft (Hook.of (kHook Ck.hK Ck.hA Ck.hKA)) (Hook.keeps (kHook Ck.hK Ck.hA Ck.hKA))
  (fun s e=>xl_of s (Kk.mp e).1) XL.keeps (by rfl) (by rfl) (by rfl) (fun s e=>recFacts_of (Kk.mp e).2) (by rfl) (by first | assumption | decide +kernel) (by decide +kernel) ⟨rfl,rfl,rfl,rfl,rfl,by decide +kernel⟩ ?hw ?hc
 case hw=>w_witness2
 k_fill
 refine Ck.walk (l:=PySem.Challenge.rw_countkin_k22_four_families_numbered) rfl rfl (fun w h Y=>W.kIn_of Y) ?F
 case F =>
  intro w mg fa h KX G hmg
  refine' Ck.all_mk KX G hmg ?_ ?_ ?_ ?_ ?_ ?_ ?_ ?_ ?_ ?_ ?_ ?_ ?_ ?_ ?_ ?_ ?_ ?_ ?_ ?_ ?_ ?_ ?_ ?_ ?_ ?_ ?_ ?_ ?_ ?_ ?_ ?_ ?_ ?_ ?_ ?_ ?_ ?_ ?_ ?_ ?_ ?_ ?_ ?_ ?_ ?_ ?_ ?_ ?_ ?_ ?_ ?_ ?_ ?_ ?_ ?_ ?_ ?_ ?_ ?_ ?_ ?_ ?_ ?_ ?_ ?_ ?_ ?_ ?_ ?_ ?_ ?_ ?_ ?_ ?_ ?_ ?_ ?_ ?_ ?_ ?_ ?_ ?_ ?_ ?_ ?_ ?_ ?_ ?_ ?_ ?_ ?_ ?_ ?_ ?_ ?_ ?_ ?_ ?_ ?_ ?_ ?_ ?_ ?_ ?_ ?_ ?_ ?_ ?_ ?_ ?_ ?_ ?_ ?_ ?_ ?_ ?_ ?_ ?_ ?_ ?_ ?_ ?_ ?_ ?_ ?_ ?_ ?_ ?_ ?_ ?_ ?_ ?_ ?_ ?_ ?_ ?_ ?_ ?_ ?_ ?_ ?_ ?_ ?_ ?_ ?_ ?_ ?_ ?_ ?_ ?_ ?_ ?_ ?_ ?_ ?_ ?_ ?_ ?_ ?_ ?_ ?_ ?_ ?_ ?_ ?_ ?_ ?_ ?_ ?_ ?_ ?_ ?_ ?_ ?_ ?_ ?_ ?_ ?_ ?_ ?_ ?_ ?_ ?_ ?_ ?_ ?_ ?_ ?_ ?_ ?_ ?_ ?_ ?_
  any_goals first | refine' L2.Meth.mk ?_ ?_ ?_ | refine' L2.Cls.mk ?_ ?_ ?_ ?_ | refine' L2.InsT.mk (L2.Cls.mk ?_ ?_ ?_ ?_) ?_ ?_ ?_ ?_ | refine' L2.Mk.mk ?_ ?_ ?_ ?_ | refine' L2.ClsM.mk ?_ ?_ ?_ ?_ | refine' L2.fun_mk ?_ ?_ ?_ | unfold L2.NoAttr | unfold Ck.Gb
  any_goals k_is
  all_goals kernel_rfl
