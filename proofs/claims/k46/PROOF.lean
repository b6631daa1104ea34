import PyProof.Rows.All
import Wide.All
import OpenK.AllK
import Wide.FinOn
import Lean
import PyProof.EqAt
import PyProof.EqKinds
import PyProof.TupleCall
import KE.KLam
import KE.KMinBuiltin
import KE.KRevIter
import KE.KRevSl
import KE.KSortTup
import KE.KTryMore
import KE.KxAffix
import Open.Pieces
import OpenK.KQuick
import OpenK.KWalk
import PyProof.CollectWalk
import PyProof.DictDisplay
import PyProof.DictTable
import PyProof.DictUpdate
import PyProof.DictWalks
import PyProof.EnumMake
import PyProof.ExcAttrAll.ValueError
import PyProof.FString
import PyProof.FitsBits
import PyProof.ListRange
import PyProof.MeetsStr
import PyProof.NeKinds
import PyProof.Rows.FStr
import PyProof.Rows.RegStrFacts
import PyProof.Rows.SetFrom
import PyProof.Rows.SortRuns
import PyProof.Rows.StrInSeq3
import PyProof.SetRoads
import PyProof.StrBlockH
import PyProof.TupleKey
import PyProof.ZipIter
import PySem.Challenge.RW_countkin_k46_words_and_marks
noncomputable section
open Array renaming getElem?_eq_some_iff→S4,length_toList→S6,getElem?_eq_getElem→S7,getElem?_eq_none→TX,getD_eq_getD_getElem?→Ua,getElem?_toList→UW,forIn_toList→Vn,mem_toList_iff→Wr,getElem_toList→Ws,perm_iff_toList_perm→WK,size_append→W6,toList_push→W8,toArray_toList→XN,toList_extract→XQ
open Bool renaming and_eq_true→On,false_ne_true→SJ,false_eq_true→Ta,eq_iff_iff→TH,true_and→TN,false_and→Ud,and_eq_true_iff→Uu,or_eq_true→Vv,or_eq_false_iff→VG,not_eq_true'→Wa,not_true→Ww,and_false→WT,eq_false_iff→W4,or_false→Xe,and_eq_false_iff→XD
open Classical renaming byContradiction→WV
open Eq renaming trans→WO
open False renaming elim→Up
open ForInStep renaming yield→WC
open Int renaming emod_lt_of_pos→Tx,emod_nonneg→TJ,toNat_natCast→UK,toNat_of_nonneg→WH
open List renaming getElem?_eq_getElem→Da,getD_eq_getElem?_getD→FM,length_map→FS,mem_cons→GT,getElem?_eq_some_iff→Pi,size_toArray→Re,mem_cons_of_mem→SH,range→SO,map_cons→SQ,all_eq_true→SS,map_append→SV,length_append→SW,mem_range→SX,mem_cons_self→SY,mem_of_getElem?→S5,Nodup→S8,pairwise_iff_getElem→Tb,getElem?_map→Td,take_of_length_le→Tg,take_add_one→Th,length_take→Tj,length_cons→Tu,mem_append_right→TC,replicate→TR,drop_eq_getElem_cons→TU,getElem?_of_mem→TV,append_nil→T7,nodup_cons→T8,map_map→Uc,not_mem_nil→Ue,mem_singleton→Uh,mem_append→Uj,lookup_cons→Uv,mem_map→Uw,append_assoc→Uy,any_cons→UA,getElem?_eq_none→UB,eq_nil_of_length_eq_zero→UE,any_eq_true→UF,length_range→UM,filterMap_cons→UO,take_append_drop→UY,getElem?_take_of_lt→U2,flatten_cons→U3,pairwise_map→U4,find?_cons→U6,lookup→Va,replicate_succ→Vc,getElem?_cons_zero→Vd,getElem_mem→Vi,drop_eq_nil_of_le→Vl,range_succ→Vq,toArray→Vr,length_nil→Vs,all_cons→Vx,nodup_append→Vz,getElem?_append_right→VA,mem_append_left→VC,getElem?_set_ne→VD,pairwise_append→VF,ext_getElem→VI,getElem_of_mem→VL,map_congr_left→VM,flatten_append→VN,map_nil→VP,all_map→VR,nil_append→VT,getElem?_set_self→V2,any_eq_false→V7,eraseIdxIfInBounds_toArray→V9,map→Wc,nodup_nil→Wd,length_singleton→Wh,forIn_cons→WB,filter_append→WM,getElem?_append_left→WS,take_sublist→W2,getElem?_inj→W5,getElem?_cons_succ→Xl,length_drop→Xm,isEmpty_nil→Xq,range_succ_eq_map→Xu,mem_filter→Xx,of_mem_zip→XA,length_filter_le→XF,forIn_nil→XR
open List.Pairwise renaming nil→W3
open List.Perm renaming eq_of_pairwise→UD
open Nat renaming zero_le→KM,le_refl→M2,ne_of_lt→SM,lt_of_lt_of_le→SN,le_trans→Tt,lt_irrefl→Tz,not_lt_zero→UC,le_succ→UP,ne_of_gt→UU,lt_succ_of_lt→U5,le_add_right→Vj,lt_of_le_of_lt→Vm,lt_succ_self→VH,add_sub_cancel→VW,lt_succ_iff→VY,le_of_lt→Wf,succ_pos→WN,mod_lt→X9
open Ne renaming symm→T6
open Option renaming map_eq_some_iff→V4,getD_some→Wo,none→Xf,getD_none→Xn,bind_some→Xr
open Option.some renaming inj→To,injEq→X8
open Or renaming inl→SI,inr→WA
open Prod renaming ext→XM,fst→X2
open PyProof.Rows renaming callWith_type1→SU,IntsAre→UZ,callWith_builtin1→U9,AllBare→Xd,boot_range→XJ
open PyProof.Rows.F renaming plain_set_update_loop→V0
open PySem renaming wpAny_bind→tz,Value→Do,Shared→FB,wpAny_pure→Gc,Addr→GM,Params→IR,Program→SK,World→Tc,Around→Tf,wpAny_holding→Ti,DictEntry→Ts,wpAny_Call_Name_kw→Tv,FuncData→TK,sizeLine_eq→TM,wpAny_truthy_bool→TQ,Paired→TY,wpAny_mono→TZ,Stmt→T4,codeAny_builtin→T9,wpAny_loadPart'→Ub,Expr→Uo,plainId_quiet→Ur,wpAny_updateSeq→Us,Heap→Ux,wpAny_call_entry→UG,codeAny_call_builtin→UH,wpAny_newObj_type→UL,wpAny_ite_split→UQ,wpAny_passesOwn→U0,wpAny_setState_of→U7,codeAny_mono→U8,mem_of_lookup→Vb,wpAny_field→Ve,wpAny_callSpecial?_slot→Vg,wpAny_execs_nil→Vp,wpAny_specialOf→Vt,builtinLookup_eq_fast→Vu,wpAny_attempt→Vy,wpAny_call→VO,call_meets→VQ,GenState→VS,wpAny_setField_rec→VX,SetTable→VZ,wpAny_nextOf_list_item→V5,plainObj_wpAny_Assign_Attribute→V8,wpAny_seqItems→We,IsPair→Wj,wpAny_typeOf→Wk,wpAny_eqBool_int→Wl,wpAny_execs_cons→Wm,wpAny_isInstance→Wp,OsState→Wq,wpAny_standAt→Wt,ZipApart→Wv,typeLookup_type→WE,wpAny_setEntries_of→WG,isSubtype_type→WW,wpAny_pyIter_list→W0,wpAny_loadPart_at→W9,wpAny_pyIter_zip→Xo,wpAny_askSetting→Xp,codeAny_of_tree→XE,IsRangeIter→XT,Scope→X0,NameKind→X1,Within→Yb,Result→Yd
open PySem.Around renaming under_plainId→TF,under→Ye
open PySem.AutoSeq1 renaming wpAny_loadPart'→W7,sub_list_list→Xv
open PySem.Calls renaming spliced_cons→UV,spliced_nil→U1,evalArgs_plain→VE,callWith_builtin→V3,Name_function_global→WI,call_function_entry→WU
open PySem.Code renaming quiet_builtin→VU,isFrame→Yg
open PySem.Data renaming cell→Xy,fields→XU
open PySem.EntryCells renaming newEntry→XW
open PySem.F renaming plainAttrs_list→P3,slot_list_append→SZ,type_list_append→S1,plain_extend_loop→Um,slot_list_count→UJ,excBase_ValueError→US,type_list_count→Vh,called_set→Vw,plainAttrs_str→V6,slot_zip_next→WD,slot_list_extend→Xa,type_list_extend→Xb,attr_ValueError→Xi,entry_bexc_ga→XC,slot_list_pop→XG,type_list_pop→XH,args_bexc_ga→XO
open PySem.Heap renaming get?_push_of_some→Fk,lt_size→GE,get?_update_other→Os,get?_push_size→SB,get?_update_self→S3,get?_none_of_le→Ug,size_push→Uk,SameBut→Vo,size_update→VJ
open PySem.Heap.Ns1 renaming of_empty→X6
open PySem.IsRange renaming new→Yj
open PySem.MeetsSeq3 renaming plain_eq_loop→Vf,entry_eq_loop→Xk
open PySem.NameKind renaming free→Wu
open PySem.Obj renaming mapSeq→Te,data_mapFields→UX,isFreed_of_fields→Wi,mapFields→Xg
open PySem.Paired renaming length→UI
open PySem.PassesOwn renaming never→S9
open PySem.SeqAt renaming eq_list_lengthsAt→Xh,EqAt→X7
open PySem.SeqAt.EqAt renaming int_str→XY,str_int→XZ,same→Yk
open PySem.SeqAt.RcNeAt renaming lists_lengths→WJ,lists→X3
open PySem.SetTable renaming below→Vk,insertAt→Wb,slot→X4
open PySem.Str renaming ofString→AC
open PySem.Value renaming ref→PP,none→TB,type→Ut,int→Wx,isInt_shape→WX,bool→WY,str→Xw
open PySem.W renaming Frag→KB,Frag→SL,mg_of→SR,mg_none_of→Ui,kia_one→Ul,emptyDict→Uq,findIn→Uz,instObj→UN,kitOne→UR,Frag→VB,nsIn→V1,methodCall_KW→Wg,plainGet→Wn,plainGet_of→Wy,callWith_K0→Wz,callWith_K→WL,lookIn→WQ,keepIn→WR,methodObj→WZ,hasDictIn→W1,findIn→Xj,cellsFrom_some→Xs,takerIn→Xz,callWith_K→XB,boot_heap→XI,looks_findIn→XS,kas_rev→XX,isFn→Yc,fnOf→Yh
open PySem.pickOrder renaming go→Yi
open Sum renaming inr→Xc,inl→X5
open True renaming intro→UT
set_option Elab.async false
set_option linter.all false
set_option maxRecDepth 100000
namespace Qwq
open PySem
open PySem.Challenge renaming pw_countkin_k46_words_and_marks→pZq
noncomputable def aZq{α:Type}(a b:List α):List α:=@List.rec α (fun _=>List α) b (fun x _ i=>x::i) a
abbrev sZq:=List Stmt
abbrev mZq:=List (Str×NameKind)
abbrev gZq(k m:Nat):=(l:sZq)->List.take m (List.drop k pZq.main.body)=l->sZq
abbrev hZq(k m:Nat):=(l:mZq)->List.take m (List.drop k pZq.main.scope.names)=l->mZq
noncomputable def qZq0:sZq:=by
 refine (?k:gZq 0 13) ?l ?h;case h=>delta pZq;dsimp only[List.drop,List.take];rfl
 case k=>exact fun l _=>l
noncomputable def qZq1:sZq:=by
 refine (?k:gZq 13 5) ?l ?h;case h=>delta pZq;dsimp only[List.drop,List.take];rfl
 case k=>exact fun l _=>l
noncomputable def qZq2:sZq:=by
 refine (?k:gZq 18 6) ?l ?h;case h=>delta pZq;dsimp only[List.drop,List.take];rfl
 case k=>exact fun l _=>l
noncomputable def qZq3:sZq:=by
 refine (?k:gZq 24 1) ?l ?h;case h=>delta pZq;dsimp only[List.drop,List.take];rfl
 case k=>exact fun l _=>l
noncomputable def qZq4:sZq:=by
 refine (?k:gZq 25 2) ?l ?h;case h=>delta pZq;dsimp only[List.drop,List.take];rfl
 case k=>exact fun l _=>l
noncomputable def qZq5:sZq:=by
 refine (?k:gZq 27 3) ?l ?h;case h=>delta pZq;dsimp only[List.drop,List.take];rfl
 case k=>exact fun l _=>l
noncomputable def qZq6:sZq:=by
 refine (?k:gZq 30 3) ?l ?h;case h=>delta pZq;dsimp only[List.drop,List.take];rfl
 case k=>exact fun l _=>l
noncomputable def qZq7:sZq:=by
 refine (?k:gZq 33 3) ?l ?h;case h=>delta pZq;dsimp only[List.drop,List.take];rfl
 case k=>exact fun l _=>l
noncomputable def qZq8:sZq:=by
 refine (?k:gZq 36 4) ?l ?h;case h=>delta pZq;dsimp only[List.drop,List.take];rfl
 case k=>exact fun l _=>l
noncomputable def qZq9:sZq:=by
 refine (?k:gZq 40 3) ?l ?h;case h=>delta pZq;dsimp only[List.drop,List.take];rfl
 case k=>exact fun l _=>l
noncomputable def qZq10:sZq:=by
 refine (?k:gZq 43 7) ?l ?h;case h=>delta pZq;dsimp only[List.drop,List.take];rfl
 case k=>exact fun l _=>l
noncomputable def qZq11:sZq:=by
 refine (?k:gZq 50 3) ?l ?h;case h=>delta pZq;dsimp only[List.drop,List.take];rfl
 case k=>exact fun l _=>l
noncomputable def qZq12:sZq:=by
 refine (?k:gZq 53 7) ?l ?h;case h=>delta pZq;dsimp only[List.drop,List.take];rfl
 case k=>exact fun l _=>l
noncomputable def qZq13:sZq:=by
 refine (?k:gZq 60 11) ?l ?h;case h=>delta pZq;dsimp only[List.drop,List.take];rfl
 case k=>exact fun l _=>l
noncomputable def qZq14:sZq:=by
 refine (?k:gZq 71 7) ?l ?h;case h=>delta pZq;dsimp only[List.drop,List.take];rfl
 case k=>exact fun l _=>l
noncomputable def qZq15:sZq:=by
 refine (?k:gZq 78 6) ?l ?h;case h=>delta pZq;dsimp only[List.drop,List.take];rfl
 case k=>exact fun l _=>l
noncomputable def qZq16:sZq:=by
 refine (?k:gZq 84 8) ?l ?h;case h=>delta pZq;dsimp only[List.drop,List.take];rfl
 case k=>exact fun l _=>l
noncomputable def qZq17:sZq:=by
 refine (?k:gZq 92 1) ?l ?h;case h=>delta pZq;dsimp only[List.drop,List.take];rfl
 case k=>exact fun l _=>l
noncomputable def qZq18:sZq:=by
 refine (?k:gZq 93 3) ?l ?h;case h=>delta pZq;dsimp only[List.drop,List.take];rfl
 case k=>exact fun l _=>l
noncomputable def qZq19:sZq:=by
 refine (?k:gZq 96 2) ?l ?h;case h=>delta pZq;dsimp only[List.drop,List.take];rfl
 case k=>exact fun l _=>l
noncomputable def qZq20:sZq:=by
 refine (?k:gZq 98 3) ?l ?h;case h=>delta pZq;dsimp only[List.drop,List.take];rfl
 case k=>exact fun l _=>l
noncomputable def qZq21:sZq:=by
 refine (?k:gZq 101 1) ?l ?h;case h=>delta pZq;dsimp only[List.drop,List.take];rfl
 case k=>exact fun l _=>l
noncomputable def qZq22:sZq:=by
 refine (?k:gZq 102 1) ?l ?h;case h=>delta pZq;dsimp only[List.drop,List.take];rfl
 case k=>exact fun l _=>l
noncomputable def qZq23:sZq:=by
 refine (?k:gZq 103 3) ?l ?h;case h=>delta pZq;dsimp only[List.drop,List.take];rfl
 case k=>exact fun l _=>l
noncomputable def qZq24:sZq:=by
 refine (?k:gZq 106 2) ?l ?h;case h=>delta pZq;dsimp only[List.drop,List.take];rfl
 case k=>exact fun l _=>l
noncomputable def qZq25:sZq:=by
 refine (?k:gZq 108 1) ?l ?h;case h=>delta pZq;dsimp only[List.drop,List.take];rfl
 case k=>exact fun l _=>l
noncomputable def nZq0:mZq:=by
 refine (?k:hZq 0 16) ?l ?h;case h=>delta pZq;dsimp only[List.drop,List.take];rfl
 case k=>exact fun l _=>l
noncomputable def nZq1:mZq:=by
 refine (?k:hZq 16 16) ?l ?h;case h=>delta pZq;dsimp only[List.drop,List.take];rfl
 case k=>exact fun l _=>l
noncomputable def nZq2:mZq:=by
 refine (?k:hZq 32 16) ?l ?h;case h=>delta pZq;dsimp only[List.drop,List.take];rfl
 case k=>exact fun l _=>l
noncomputable def nZq3:mZq:=by
 refine (?k:hZq 48 16) ?l ?h;case h=>delta pZq;dsimp only[List.drop,List.take];rfl
 case k=>exact fun l _=>l
noncomputable def nZq4:mZq:=by
 refine (?k:hZq 64 16) ?l ?h;case h=>delta pZq;dsimp only[List.drop,List.take];rfl
 case k=>exact fun l _=>l
noncomputable def nZq5:mZq:=by
 refine (?k:hZq 80 16) ?l ?h;case h=>delta pZq;dsimp only[List.drop,List.take];rfl
 case k=>exact fun l _=>l
noncomputable def vZq:Program:={main:={body:=(aZq qZq0 (aZq qZq1 (aZq qZq2 (aZq qZq3 (aZq qZq4 (aZq qZq5 (aZq qZq6 (aZq qZq7 (aZq qZq8 (aZq qZq9 (aZq qZq10 (aZq qZq11 (aZq qZq12 (aZq qZq13 (aZq qZq14 (aZq qZq15 (aZq qZq16 (aZq qZq17 (aZq qZq18 (aZq qZq19 (aZq qZq20 (aZq qZq21 (aZq qZq22 (aZq qZq23 (aZq qZq24 (aZq qZq25 [])))))))))))))))))))))))))),scope:={kind:=.module,names:=(aZq nZq0 (aZq nZq1 (aZq nZq2 (aZq nZq3 (aZq nZq4 (aZq nZq5 [])))))),isGenerator:=false,isCoroutine:=false,more:=[]},futureAnnotations:=false,file:="/claim/cut.py",more:=[]},modules:=[],parses:=[],absent:=[],harvested:=[],given:={argv:=[],stdin:=[],environ:=some [([76,67,95,65,76,76],[67,46,85,84,70,45,56])]}}
theorem eZq:pZq=vZq:=by kernel_rfl
end Qwq
name_quick tw10138056867970274953 for Qwq.vZq by Qwq.eZq
theorem PySem.W.Fast.te10138056867970274953:PySem.Challenge.pw_countkin_k46_words_and_marks=PySem.W.Fast.tw10138056867970274953:=PySem.W.Fast.tw10138056867970274953_eq
namespace L2
open PySem PySem.Spec PyProof.Rows
noncomputable abbrev Key:=Sum Int Str
noncomputable def jv:Key->Do->Bool
 |.inl k,v=>Value.isInt k v
 |.inr x,v=>Value.isStrOf x v
noncomputable def Pn(w:Tc):Key->Int
 |.inl k=>hashInt k
 |.inr x=>hashStr w x
theorem bM:∀{k:Key}{v:Do},jv k v=true->(∃i t,k=X5 i/\v=Wx i t)\/(∃x t,k=Xc x/\v=Xw x t)
 |.inl i,v,h=>by obtain⟨t,e⟩:=WX (k:=i) (v:=v) h;exact .inl ⟨i,t,rfl,e⟩
 |.inr x,v,h=>by obtain⟨t,e⟩:=Value.isStrOf_shape (x:=x) (v:=v) h;exact .inr ⟨x,t,rfl,e⟩
theorem vT(i:Int)(t:Tok):jv (.inl i) (.int i t)=true:=by simp[jv,Value.isInt]
theorem wq(x:Str)(t:Tok):jv (.inr x) (.str x t)=true:=by simp[jv,Value.isStrOf]
theorem Km(a b:Int):decide ((X5 a:Key)=X5 b)=(a==b):=by
 by_cases e:a=b;·subst e;simp
 ·have h:¬ (X5 a:Key)=X5 b:=fun q=>e (Sum.inl.inj q)
  rw[decide_eq_false h];exact(beq_eq_false_iff_ne.mpr e).symm
theorem HJ(a b:Str):decide ((Xc a:Key)=Xc b)=decide (a=b):=by
 by_cases e:a=b;·subst e;simp
 ·have h:¬ (Xc a:Key)=Xc b:=fun q=>e (Sum.inr.inj q)
  rw[decide_eq_false h,decide_eq_false e]
theorem Kq(a:Int)(b:Str):decide ((X5 a:Key)=Xc b)=false:=decide_eq_false (fun q=>nomatch q)
theorem Kx(a:Str)(b:Int):decide ((Xc a:Key)=X5 b)=false:=decide_eq_false (fun q=>nomatch q)
noncomputable def bJ(prog:SK)(w:Tc):PySem.KeyKind prog w Key where
 is:=jv;hash:=Pn w;inj:=fun v a b ha hb=>by
  rcases bM ha with⟨i,t,rfl,rfl⟩| ⟨x,t,rfl,rfl⟩
  ·rcases bM hb with⟨j,u,rfl,e⟩| ⟨y,u,rfl,e⟩
   ·injection e with e1 _;rw[e1]
   ·exact nomatch e
  ·rcases bM hb with⟨j,u,rfl,e⟩| ⟨y,u,rfl,e⟩
   ·exact nomatch e
   ·injection e with e1 _;rw[e1]
 byValue:=fun k v h=>by rcases bM h with⟨i,t,rfl,rfl⟩| ⟨x,t,rfl,rfl⟩<;>rfl
 pyHash:=fun hv h=>by
  rcases bM hv with⟨i,t,rfl,rfl⟩| ⟨x,t,rfl,rfl⟩;·exact wpAny_pyHash_int h
  ·exact wpAny_pyHash_str h
 eqBool:=fun hu hv h=>by
  rcases bM hu with⟨i,t,rfl,rfl⟩| ⟨x,t,rfl,rfl⟩
  ·rcases bM hv with⟨j,u,rfl,rfl⟩| ⟨y,u,rfl,rfl⟩
   ·rw[Km]at h;exact Wl h
   ·rw[Kq]at h;exact XY i t y u _ _ _ _ h
  ·rcases bM hv with⟨j,u,rfl,rfl⟩| ⟨y,u,rfl,rfl⟩
   ·rw[Kx]at h;exact XZ x t j u _ _ _ _ h
   ·rw[HJ]at h;exact wpAny_eqBool_str h
 «strs»:=fun k x t v h=>by
  rcases bM h with⟨i,u,rfl,e⟩| ⟨y,u,rfl,e⟩;·exact nomatch e
  ·injection e with e1 _
   subst e1;cases v<;>rfl
theorem qi(prog:SK)(w:Tc)(i:Int)(t:Tok):(bJ prog w).is (.inl i) (.int i t)=true:=vT i t
theorem pT(prog:SK)(w:Tc)(x:Str)(t:Tok):(bJ prog w).is (.inr x) (.str x t)=true:=wq x t
inductive V where|non|bl(b:Bool)|int(i:Int)|str(x:Str)|byt(b:Array UInt8)|flt(b:UInt64)|ref(a:GM)|ty(n:String)deriving DecidableEq
noncomputable def RelV:V->Do->Prop
 |.non,u=>u=TB
 |.bl b,u=>u=WY b
 |.int i,u=>∃t,u=Wx i t
 |.str x,u=>∃t,u=Xw x t
 |.byt b,u=>∃t,u=Value.bytes b t
 |.flt b,u=>∃t,u=Value.float b t
 |.ref a,u=>u=PP a
 |.ty n,u=>u=Ut n
abbrev Vals:List V->List Do->Prop:=TY RelV
theorem Vals.length{xs:List V}{us:List Do}(r:Vals xs us):xs.length=us.length:=UI r
theorem Vals.get:∀{xs:List V}{us:List Do}{i:Nat}{x:V},Vals xs us->xs[i]?=some x->∃u,us[i]?=some u/\RelV x u
 |_,_,_,_,.nil,e=>by simp at e
 |_,_,0,_,.cons r _,e=>by simp at e;subst e;exact⟨_,rfl,r⟩
 |_,_,i+1,x,.cons _ t,e=>by obtain⟨u,h1,h2⟩:=Vals.get (i:=i) (x:=x) t (by simpa using e);exact⟨u,by simpa using h1,h2⟩
theorem Vals.set{x:V}{u:Do}(r:RelV x u):∀{xs:List V}{us:List Do}(i:Nat),Vals xs us->Vals (xs.set i x) (us.set i u)
 |_,_,_,.nil=>.nil
 |_,_,0,.cons _ t=>.cons r t
 |_,_,i+1,.cons q t=>.cons q (Vals.set r i t)
theorem Vals.append:∀{xs ys:List V}{us ws:List Do},Vals xs us->Vals ys ws->Vals (xs++ys) (us++ws)
 |_,_,_,_,.nil,s=>s
 |_,_,_,_,.cons r t,s=>.cons r (Vals.append t s)
theorem Vals.take:∀{xs:List V}{us:List Do}(n:Nat),Vals xs us->Vals (xs.take n) (us.take n)
 |_,_,0,_=>.nil
 |_,_,_+1,.nil=>.nil
 |_,_,n+1,.cons r t=>.cons r (Vals.take n t)
theorem Vals.drop:∀{xs:List V}{us:List Do}(n:Nat),Vals xs us->Vals (xs.drop n) (us.drop n)
 |_,_,0,r=>r
 |_,_,_+1,.nil=>.nil
 |_,_,n+1,.cons _ t=>Vals.drop n t
def df:Option V->Option Do->Prop
 |some v,some u=>RelV v u
 |none,none=>True
 |_,_=>False
def KV{κ:Type}:List (κ×V)->List (κ×Do)->Prop:=TY fun(p:κ×V)(q:κ×Do)=>p.1=q.1/\RelV p.2 q.2
noncomputable def kV:Key->V
 |.inl i=>.int i
 |.inr x=>.str x
inductive HO where|lst(xs:List V)|tup(xs:List V)|dK(kvs:List (Key×V))|dT(kvs:List (List Key×V))|set(S:Int->Bool)(n:Nat)|ins(C dx:GM)(fs:List (Str×V))|own(x:GM)|xd(fs:List (Str×V))|met(f x:GM)|rng(lo hi:Int)|frz(o:Obj)(u:HO)|tbl(ps:Array Do)|ext(φ:Ux->Prop)
noncomputable abbrev Hp:=GM->Option HO
noncomputable def upd(H:Hp)(a:GM)(o:HO):Hp:=fun b=>if b=a then some o else H b
theorem ag{H:Hp}{a:GM}{o:HO}:upd H a o a=some o:=by unfold upd;rw[if_pos rfl]
theorem aw{H:Hp}{a b:GM}{o:HO}(h:b≠a):upd H a o b=H b:=by unfold upd;rw[if_neg h]
theorem jt{H:Hp}{a:GM}{o u:HO}:upd (upd H a o) a u=upd H a u:=by funext b;unfold upd;split<;>rfl
theorem ky{H:Hp}{a b:GM}{o u:HO}(h:H a=some o)(h':H b=some u)(d:o≠u):a≠b:=by intro e;subst e;rw[h]at h';exact d (To h')
theorem aF{H:Hp}{a b:GM}{o:HO}(h:H a=some o)(h':H b=none):a≠b:=by intro e;subst e;rw[h]at h';cases h'
section
variable(P:SK)(w:Tc)
def aW(H:Hp)(h:Ux)(a:GM):HO->Prop
 |.lst xs=>xs.length<=sizeLine/\∃(its:List Do)(n:Nat),Vals xs its/\h.get? a=some {cls:=.type "list",data:=.seq its.toArray n}
 |.tup xs=>xs.length<=sizeLine/\∃its:List Do,Vals xs its/\IsTup h a its.toArray
 |.dK kvs=>kvs.length<=sizeLine/\(a==sysModules)=false/\∃vs,KV kvs vs/\h.DictOf (bJ P w) a vs
 |.dT kvs=>kvs.length<=sizeLine/\(a==sysModules)=false/\∃xs:List (List Key×GM×Do),TY (fun(p:List Key×V)(q:List Key×GM×Do)=>p.1=q.1/\H q.2.1=some (.tup (p.1.map kV))/\RelV p.2 q.2.2) kvs xs/\ ∃o es ep,h.get? a=some o/\o.ExactDict/\o.data=.dict es ep/\es.toList=xs.map (entryOfKey (tupleKind (bJ P w)))/\(xs.map (·.1)).Nodup
 |.set S n=>h.SetOf (intKind P w) a S n
 |.ins C dx fs=>H dx=some (.own a)/\fs.length<=1000/\dx≠a/\h.get? a=some (UN C dx)/\∃mA,h.Ns1 dx mA/\(∀f,df (fs.lookup f) (mA f))/\Yb mA (fs.map (·.1))
 |.own _=>∃o,h.get? a=some o
 |.xd fs=>∃mA,h.Ns1 a mA/\∀f,df (fs.lookup f) (mA f)
 |.rng lo hi=>∃t u v,h.get? a=some {cls:=.type "range",data:=.fields #[.int lo t,.int hi u,.int 1 v]}
 |.frz o u=>h.get? a=some o/\aW H h a u
 |.tbl ps=>h.get? a=some {cls:=.none,data:=.fields ps}
 |.met f x=>h.get? a=some (WZ (.ref f) (.ref x))
 |.ext φ=>φ h/\(∃o,h.get? a=some o)/\∀h1 h2:Ux,φ h1->(∀o,h1.get? a=some o->h2.get? a=some o)->φ h2
def bW(H:Hp)(h:Ux):Prop:=∀a o,H a=some o->aW P w H h a o
end
section
variable{P:SK}{w:Tc}{H H':Hp}{h h':Ux}{a:GM}{o:HO}
theorem aW.lt(x:aW P w H h a o):a<h.objs.size:=by cases o with
 |lst xs=>obtain⟨_,_,_,_,e⟩:=x;exact GE e
 |tup xs=>obtain⟨_,_,_,p⟩:=x;exact p.lt
 |dK kvs=>obtain⟨_,_,_,_,o,_,_,e,_⟩:=x;exact GE e
 |dT kvs=>obtain⟨_,_,_,_,o,_,_,e,_⟩:=x;exact GE e
 |set S n=>obtain⟨o,_,_,_,e,_⟩:=x;exact GE e
 |ins C dx fs=>obtain⟨_,_,_,e,_⟩:=x;exact GE e
 |own y=>obtain⟨_,e⟩:=x;exact GE e
 |xd fs=>obtain⟨_,⟨_,_,_,e,_⟩,_⟩:=x;exact GE e
 |rng lo hi=>obtain⟨_,_,_,e⟩:=x;exact GE e
 |frz ob u=>obtain⟨e,_⟩:=x;exact GE e
 |tbl ps=>exact GE (show h.get? a=some _ from x)
 |met f y=>exact GE (show h.get? a=some _ from x)
 |ext φ=>obtain⟨_,⟨_,e⟩,_⟩:=x;exact GE e
theorem Paired.mapP{α β:Type}{F G:α->β->Prop}:∀{l₁:List α}{l₂:List β},TY F l₁ l₂->(∀a b,F a b->G a b)->TY G l₁ l₂
 |_,_,.nil,_=>.nil
 |_,_,.cons r t,f=>.cons (f _ _ r) (Paired.mapP t f)
theorem aW.stay(x:aW P w H h a o)(k:∀b u,(b=a\/H b=some (.own a))->h.get? b=some u->h'.get? b=some u)(ho:∀b,H b=some (.own a)->H' b=some (.own a))(ht:∀b xs,H b=some (.tup xs)->H' b=some (.tup xs)):aW P w H' h' a o:=by induction o with
 |lst xs=>obtain⟨z,its,n,r,e⟩:=x;exact⟨z,its,n,r,k _ _ (.inl rfl) e⟩
 |tup xs=>obtain⟨z,its,r,ob,e,c⟩:=x;exact⟨z,its,r,ob,k _ _ (.inl rfl) e,c⟩
 |dK kvs=>obtain⟨z,y,vs,r,ob,es,ep,e,c⟩:=x;exact⟨z,y,vs,r,ob,es,ep,k _ _ (.inl rfl) e,c⟩
 |dT kvs=> obtain⟨z,y,xs,r,ob,es,ep,e,c⟩:=x;exact⟨z,y,xs,Paired.mapP r fun p q z=>⟨z.1,ht _ _ z.2.1,z.2.2⟩,ob,es,ep,k _ _ (.inl rfl) e,c⟩
 |set S n=>obtain⟨ob,es,ep,t,e,c⟩:=x;exact⟨ob,es,ep,t,k _ _ (.inl rfl) e,c⟩
 |ins C dx fs=> obtain⟨d,z,ne,e,mA,⟨od,es,ep,e2,c⟩,r⟩:=x;exact⟨ho _ d,z,ne,k _ _ (.inl rfl) e,mA,⟨od,es,ep,k _ _ (.inr d) e2,c⟩,r⟩
 |own y=>obtain⟨ob,e⟩:=x;exact⟨ob,k _ _ (.inl rfl) e⟩
 |xd fs=>obtain⟨mA,⟨od,es,ep,e,c⟩,r⟩:=x;exact⟨mA,⟨od,es,ep,k _ _ (.inl rfl) e,c⟩,r⟩
 |rng lo hi=>obtain⟨t,u,v,e⟩:=x;exact⟨t,u,v,k _ _ (.inl rfl) e⟩
 |frz ob u ih=>obtain⟨e,q⟩:=x;exact⟨k _ _ (.inl rfl) e,ih q⟩
 |tbl ps=> have e:h.get? a=some {cls:=.none,data:=.fields ps}:=x;show h'.get? a=some {cls:=.none,data:=.fields ps};exact k a _ (.inl rfl) e
 |met f y=> have e:h.get? a=some (WZ (.ref f) (.ref y)):=x;show h'.get? a=some (WZ (.ref f) (.ref y));exact k a _ (.inl rfl) e
 |ext φ=>obtain⟨p,⟨o,e⟩,st⟩:=x;exact⟨st _ _ p fun o q=>k _ _ (.inl rfl) q,⟨o,k _ _ (.inl rfl) e⟩,st⟩
theorem bW.lt(x:bW P w H h)(e:H a=some o):a<h.objs.size:=(x a o e).lt
theorem bW.fresh(x:bW P w H h)(e:h.objs.size<=a):H a=none:=by cases q:H a with
 |none=>rfl
 |some u=>exact absurd (SN (x.lt q) e) (Tz _)
theorem bW.kept(x:bW P w H h)(k:∀b u,h.get? b=some u->h'.get? b=some u):bW P w H h':=fun a o e=> (x a o e).stay (fun b u _ q=>k b u q) (fun _ q=>q) fun _ _ q=>q
theorem bW.laid(x:bW P w H h)(k:∀b u,h.get? b=some u->h'.get? b=some u)(hp:h.objs.size<=a)(new:aW P w (upd H a o) h' a o):bW P w (upd H a o) h':=fun b u e=>by
 have hn:=x.fresh hp;by_cases hb:b=a;·subst hb;rw[ag]at e;cases e;exact new
 ·rw[aw hb]at e
  exact(x b u e).stay (fun c v _ q=>k c v q) (fun c q=>by rw[aw (aF q hn)];exact q) fun c xs q=>by rw[aw (aF q hn)];exact q
end
def Rd(H:Hp)(a:GM)(u:HO):Prop:=H a=some u\/∃o,H a=some (.frz o u)
theorem Rd.ok{P:SK}{w:Tc}{H:Hp}{h:Ux}{a:GM}{u:HO}(r:Rd H a u)(x:bW P w H h):aW P w H h a u:=by
 rcases r with r| ⟨o,r⟩;·exact x a u r
 ·obtain⟨_,q⟩:=x a _ r
  exact q
noncomputable def vF:Option HO->Prop
 |some (.lst _)=>True
 |some (.dK _)=>True
 |some (.dT _)=>True
 |some (.set _ _)=>True
 |some (.ins _ _ _)=>True
 |some (.ext _)=>True
 |_=>False
section
variable{P:SK}{w:Tc}{H:Hp}{h h':Ux}{x e:GM}{o':HO}
theorem bW.write(ok:bW P w H h)(mu:vF (H x))(he:e=x\/H e=some (.own x))(k:∀b u,b≠e->h.get? b=some u->h'.get? b=some u)(heo:∃u,h'.get? e=some u)(new:aW P w (upd H x o') h' x o'):bW P w (upd H x o') h':=fun b u q=>by
 have nown:∀c y,H c=some (.own y)->c≠x:=fun c y r z=>by subst z;rw[r]at mu;exact mu
 have ntup:∀c xs,H c=some (.tup xs)->c≠x:=fun c xs r z=>by subst z;rw[r]at mu;exact mu
 by_cases hb:b=x;·subst hb;rw[ag]at q;cases q;exact new
 ·rw[aw hb]at q
  by_cases hbe:b=e
  ·have q':H b=some (.own x):=by
    rcases he with z|z;·exact absurd (hbe.trans z) hb
    ·rw[hbe];exact z
   rw[q]at q';cases q';obtain⟨v,hv⟩:=heo;exact⟨v,by rw[hbe];exact hv⟩
  ·refine(ok b u q).stay (fun c v hc r=>k c v ?_ r) (fun c r=>by rw[aw (nown c b r)];exact r) fun c xs r=>by rw[aw (ntup c xs r)];exact r
   rcases hc with rfl|hc;·exact hbe
   ·rintro rfl
    rcases he with z|z;·exact nown c b hc z
    ·rw[hc]at z;cases z;exact hb rfl
end
structure Un(fs ex:List GM)(H H':Hp)(h h':Ux):Prop where
 keep:∀b o,h.get? b=some o->H b=none->b∉fs->b∉ex->h'.get? b=some o
 slot:∀b o,h.get? b=some o->H b=none->b∈fs->b∉ex->∃sl,h'.get? b=some {o with slots:=sl}
 free:∀b o,h.get? b=some o->H b=none->b∉ex->H' b=none
 there:∀b o,h.get? b=some o->b∉ex->∃o',h'.get? b=some o'
 tups:∀b xs,H b=some (.tup xs)->H' b=some (.tup xs)
 frzs:∀b o u,H b=some (.frz o u)->H' b=some (.frz o u)
 tbls:∀b ps,H b=some (.tbl ps)->∃more,H' b=some (.tbl (ps++more))
section
variable{fs fs' ex ex':List GM}{H H1 H2:Hp}{h h1 h2 h':Ux}{a x e:GM}{o:HO}
theorem Un.any(u:Un fs ex H H1 h h1){b:GM}{ob:Obj}(q:h.get? b=some ob)(n:H b=none)(hx:b∉ex):∃sl,h1.get? b=some {ob with slots:=sl}:=by
 by_cases hb:b∈fs;·exact u.slot b ob q n hb hx
 ·exact⟨ob.slots,u.keep b ob q n hb hx⟩
theorem Un.kept(k:∀b u,h.get? b=some u->h'.get? b=some u):Un fs ex H H h h':= ⟨fun b ob q _ _ _=>k b ob q,fun b ob q _ _ _=>⟨ob.slots,k b ob q⟩,fun _ _ _ n _=>n,fun b ob q _=>⟨ob,k b ob q⟩,fun _ _ q=>q,fun _ _ _ q=>q,fun _ ps q=>⟨#[],by rw[q];simp⟩⟩
theorem Un.refl:Un fs ex H H h h:=Un.kept fun _ _ q=>q
theorem Un.laid(k:∀b u,h.get? b=some u->h'.get? b=some u)(hp:h.objs.size<=a)(hn:H a=none):Un fs ex H (upd H a o) h h' where
 keep:=fun b u q _ _ _=>k b u q;slot:=fun b u q _ _ _=>⟨u.slots,k b u q⟩;free:=fun b u q n _=>by rw[aw (SM (SN (GE q) hp))];exact n
 there:=fun b u q _=>⟨u,k b u q⟩;tups:=fun b xs q=>by rw[aw (aF q hn)];exact q
 frzs:=fun b u xs q=>by rw[aw (aF q hn)];exact q
 tbls:=fun b ps q=>⟨#[],by rw[aw (aF q hn),q];simp⟩
theorem Un.write(mu:vF (H x))(he:e=x\/H e=some (.own x))(k:∀b u,b≠e->h.get? b=some u->h'.get? b=some u)(heo:∃u,h'.get? e=some u):Un fs ex H (upd H x o) h h':=by
 have hx:∀b,H b=none->b≠x:=fun b n z=>by subst z;rw[n]at mu;exact mu
 have hb:∀b,H b=none->b≠e:=fun b n z=>by
  subst z;rcases he with r|r;·exact hx b n r
  ·rw[n]at r;cases r
 have hm:∀b u,H b=some u->¬vF (some u)->b≠x:=fun b u q nm z=>by subst z;rw[q]at mu;exact nm mu
 refine⟨fun b u q n _ _=>k b u (hb b n) q,fun b u q n _ _=>⟨u.slots,k b u (hb b n) q⟩,fun b u q n _=>by rw[aw (hx b n)];exact n,fun b u q _=>?_,fun b xs q=>by rw[aw (hm b _ q fun z=>z)];exact q,fun b u xs q=>by rw[aw (hm b _ q fun z=>z)];exact q,fun b ps q=>⟨#[],by rw[aw (hm b _ q fun z=>z),q];simp⟩⟩;by_cases hbe:b=e;·subst hbe;exact heo
 ·exact⟨u,k b u hbe q⟩
end
noncomputable def CF(h:Ux)(H:Hp):List GM:=(SO h.objs.size).filter fun a=>(H a).isSome
noncomputable def ik(h:Ux)(H:Hp):Ux:=PySem.W.hideAll h (CF h H)
theorem vd(h:Ux)(H:Hp):(ik h H).objs.size=h.objs.size:=PySem.W.hideAll_size _ _
theorem yH{h:Ux}{H:Hp}{b:GM}{o:Obj}(e:h.get? b=some o)(n:H b=none):(ik h H).get? b=some o:=PySem.W.hideAll_get _ e fun hm=>by have q:(H b).isSome=true:=(Xx.mp hm).2;rw[n]at q;simp at q
theorem D6{h:Ux}{H:Hp}{b:GM}{o:Obj}(e:(ik h H).get? b=some o):h.get? b=some o/\H b=none:=by have e':h.get? b=some o:=PySem.W.of_hideAll (CF h H) e;refine⟨e',?_⟩;cases q:H b with
 |none=>rfl
 |some x=> have hm:b∈CF h H:=Xx.mpr ⟨SX.mpr (GE e'),by simp[q]⟩;have z:(ik h H).get? b=none:=PySem.W.hideAll_none (CF h H) hm;rw[z]at e;cases e
noncomputable def DJ(g h:Ux)(L:GM):List (GM×Obj):=(SO h.objs.size).filterMap fun a=>if a=L\/(g.get? a).isSome=true then none else(h.get? a).map fun o=>(a,o)
def rest(g h:Ux)(L d:GM):List (GM×Obj):=(DJ g h L).filter fun p=>decide (p.1≠d)
structure Mod(K:SL)(mg:Str->Option Do)(base:Ux):Prop where
 kin:K.In base
 glob:base.Ns mainGlobals mg
 blt:∃mb,base.Ns builtinsNs mb/\∀x:Str,x≠"__name__"->mb x=bootBuiltins x
 nolimit:base.NoLimit
set_option genInjectivity false in
structure Cx where
 prog:SK
 w:Tc
 K:SL
 mg:Str->Option Do
 base:Ux
 A:Tf
 N:List Str
 s₀:FB
 H₀:Hp
 env:Env
 outer:List Env
 stack:List Env
 ex:List GM
 fn:Str->Bool
 calm:Bool
 pn:List (GM×Obj)
 xe:Do->FB->Prop
noncomputable def bS(l:List Env):List GM:=l.filterMap (·.frame)
abbrev Cx.fs(X:Cx):List GM:=bS X.outer
def mG(sc:X0)(x:Str):Prop:=sc.names.lookup x=some .local\/sc.names.lookup x=some .cell\/sc.names.lookup x=some .free
def Loc(sc:X0)(x:Str):Prop:=sc.names.lookup x=some .local\/sc.names.lookup x=some .cell
def Look(env:Env)(h:Ux)(m:Str->Option Do)(x:Str)(u:Do):Prop:= (env.kindOf x=some .local/\m x=some u)\/((env.kindOf x=some .cell\/env.kindOf x=some .free)/\∃c,env.cells.lookup x=some c/\h.IsCell c (some u))
structure Cx.Ok(X:Cx):Prop where
 mod:Mod X.K X.mg X.base
 kind:X.env.scope.kind=.function
 glob:X.env.globals=mainGlobals
 blt:X.env.builtins=builtinsNs
 above:X.s₀.heap.objs.size<=X.env.locals
 inj:∀x y c,X.env.cells.lookup x=some c->X.env.cells.lookup y=some c->x=y
 has:∀x,(X.env.kindOf x=some .cell\/X.env.kindOf x=some .free)->∃c,X.env.cells.lookup x=some c
 cab:∀x c,X.fn x=true->X.env.cells.lookup x=some c->X.s₀.heap.objs.size<=c
 hd:X.calm=true->X.A.handled=none
 frames:X.A.frames=some X.stack
 stk:X.stack=X.outer\/(X.stack=X.env::X.outer/\X.env.frame=some X.env.locals)
 exf:∀b∈X.ex,b≠X.env.locals/\∀x c,X.env.cells.lookup x=some c->c≠b
 bs:∀b o,X.base.get? b=some o->X.s₀.heap.get? b=some o/\X.H₀ b=none
 bsz:X.base.objs.size<=X.s₀.heap.objs.size
 noex:∀b o,X.base.get? b=some o->b∉X.ex
 exfs:∀b∈X.ex,b∉X.fs
 funs:X.s₀.heap.FunFrames X.base X.outer
 frf:∀b∈X.fs,X.H₀ b=none
structure Inv(X:Cx)(pins:List (GM×Obj))(σ:List (Option V))(H:Hp)(s:FB):Prop where
 ok:X.Ok
 os:s.os=X.s₀.os
 bare:Xd s.gens
 base:Un X.fs X.ex X.H₀ H X.s₀.heap s.heap
 loc:∃m,s.heap.Ns X.env.locals m/\∀(i:Nat)(x:Str)(v:V),X.N[i]?=some x->σ[i]?=some (some v)->mG X.env.scope x->∃u,RelV v u/\Look X.env s.heap m x u
 cell:∀x c,X.env.cells.lookup x=some c->∃v,s.heap.IsCell c v
 free:H X.env.locals=none
 freeC:∀x c,X.env.cells.lookup x=some c->H c=none
 pin:∀p∈X.pn++pins,s.heap.get? p.1=some p.2/\H p.1=none/\p.1≠X.env.locals/\p.1∉X.fs/\∀v,p.2.data≠.cell v
 hok:bW X.prog X.w H s.heap
 len:σ.length=X.N.length
section
variable{X:Cx}{pins:List (GM×Obj)}{σ:List (Option V)}{H H':Hp}{s:FB}{h':Ux}
theorem Cx.Ok.nofr(ok:X.Ok){b:GM}{o:Obj}(e:X.base.get? b=some o):b∉X.fs:=fun hb=>by have:=(ok.funs.mem hb).1;rw[e]at this;cases this
theorem Inv.bs(I:Inv X pins σ H s):∀b o,X.base.get? b=some o->s.heap.get? b=some o/\H b=none:=fun b o e=> ⟨I.base.keep b o (I.ok.bs b o e).1 (I.ok.bs b o e).2 (I.ok.nofr e) (I.ok.noex b o e),I.base.free b o (I.ok.bs b o e).1 (I.ok.bs b o e).2 (I.ok.noex b o e)⟩
theorem Inv.bk(I:Inv X pins σ H s):∀b o,X.base.get? b=some o->s.heap.get? b=some o:=fun b o e=>(I.bs b o e).1
theorem Inv.mod(I:Inv X pins σ H s):Mod X.K X.mg X.base:=I.ok.mod
theorem Inv.kIn(I:Inv X pins σ H s):X.K.In s.heap:=I.ok.mod.kin.keeps I.bk
theorem Inv.fr(I:Inv X pins σ H s):∃m,Fr X.base X.env.locals s.heap m:=let⟨m,hn,_⟩:=I.loc;⟨m,hn,I.bk,Tt I.ok.bsz I.ok.above⟩
theorem Inv.lt(I:Inv X pins σ H s):X.env.locals<s.heap.objs.size:=let⟨_,hn,_⟩:=I.loc;hn.lt
theorem Inv.sz(I:Inv X pins σ H s):X.s₀.heap.objs.size<=s.heap.objs.size:=Tt I.ok.above (Wf I.lt)
theorem Inv.nofs(I:Inv X pins σ H s){a:GM}(h:s.heap.objs.size<=a):a∉X.fs:=fun hb=>by obtain⟨_,o,ho,_⟩:=I.ok.funs.mem hb;exact absurd (SN (GE ho) (Tt I.sz h)) (Tz _)
theorem Inv.cne(I:Inv X pins σ H s):∀x c,X.env.cells.lookup x=some c->c≠X.env.locals:=fun x c e z=>by obtain⟨v,o,ho,hd⟩:=I.cell x c e;obtain⟨m,⟨o',es,ep,ho',hd',_⟩,_⟩:=I.loc;rw[z,ho']at ho;cases ho;rw[hd']at hd;cases hd
theorem Inv.funs(I:Inv X pins σ H s):s.heap.FunFrames X.base X.outer:=by
 have all:∀(l:List Env),(∀b∈bS l,b∈X.fs)->X.s₀.heap.FunFrames X.base l->s.heap.FunFrames X.base l:=by intro l;induction l with
  |nil=>intro _ _;trivial
  |cons env r ih=> intro hs hl;obtain⟨hk,⟨L,o,hf,hn,ho,hd⟩,hr⟩:=hl;have hL:L∈X.fs:=hs L (by unfold bS;rw[UO,hf];exact SY);obtain⟨sl,e⟩:=I.base.slot L o ho (I.ok.frf L hL) hL fun z=>I.ok.exfs L z hL;exact⟨hk,⟨L,_,hf,hn,e,hd⟩,ih (fun b hb=>hs b (by unfold bS;rw[UO,hf];exact SH _ hb)) hr⟩
 exact all X.outer (fun _ hb=>hb) I.ok.funs
theorem Inv.stack(I:Inv X pins σ H s):s.heap.FunFrames X.base X.stack:=by
 rcases I.ok.stk with e| ⟨e,hf⟩;·rw[e];exact I.funs
 ·rw[e]
  obtain⟨m,hn,_⟩:=I.loc;refine .cons (by rw[I.ok.kind];decide) hf hn ?_ I.funs;exact Ug (Tt I.ok.bsz I.ok.above)
theorem Inv.stkSub(I:Inv X pins σ H s):∀b∈bS X.stack,b∈X.env.locals::X.fs:=fun b hb=>by
 rcases I.ok.stk with e| ⟨e,hf⟩;·rw[e]at hb;exact SH _ hb
 ·rw[e]at hb
  unfold bS at hb;rw[UO,hf]at hb;exact hb
theorem Inv.stkFree(I:Inv X pins σ H s):∀b∈bS X.stack,H b=none:=fun b hb=>by
 rcases GT.mp (I.stkSub b hb)with e|hb;·rw[e];exact I.free
 ·obtain⟨_,o,ho,_⟩:=I.ok.funs.mem hb
  exact I.base.free b o ho (I.ok.frf b hb) fun z=>I.ok.exfs b z hb
theorem Inv.step{g':Array VS}{t':Nat}{d':Drawn}{ch:List GM}(I:Inv X pins σ H s)(hch:∀b∈ch,(b∈X.ex\/X.s₀.heap.objs.size<=b)/\b≠X.env.locals/\(∀x c,X.env.cells.lookup x=some c->c≠b)/\∀p∈X.pn++pins,p.1≠b)(keep:∀b o,b≠X.env.locals->b∉X.fs->b∉ch->s.heap.get? b=some o->H b=none->h'.get? b=some o)(slot:∀b o,b≠X.env.locals->b∈X.fs->b∉ch->s.heap.get? b=some o->H b=none->∃sl,h'.get? b=some {o with slots:=sl})(free:∀b o,b∉ch->s.heap.get? b=some o->H b=none->H' b=none)(there:∀b o,b∉ch->s.heap.get? b=some o->∃o',h'.get? b=some o')(tups:∀b xs,H b=some (.tup xs)->H' b=some (.tup xs))(frzs:∀b o u,H b=some (.frz o u)->H' b=some (.frz o u))(tbls:∀b ps,H b=some (.tbl ps)->∃more,H' b=some (.tbl (ps++more)))(ns:∀m,s.heap.Ns X.env.locals m->h'.Ns X.env.locals m)(hok:bW X.prog X.w H' h')(hg:Xd g'): Inv X pins σ H' {s with heap:=h',gens:=g',drawn:=d',toks:=t'}:=by
 have neL:∀b o,X.s₀.heap.get? b=some o->b≠X.env.locals:=fun b o e=>SM (SN (GE e) I.ok.above);have neC:∀b o,X.s₀.heap.get? b=some o->b∉X.ex->b∉ch:=fun b o e hx hb=>by
  rcases(hch b hb).1 with z|z;·exact hx z
  ·exact absurd (SN (GE e) z) (Tz _)
 have cellK:∀x c,X.env.cells.lookup x=some c->∀v,s.heap.IsCell c v->h'.IsCell c v:=fun x c e v⟨o,ho,hd⟩=>by
  have nch:c∉ch:=fun z=>(hch c z).2.2.1 x c e rfl;by_cases hc:c∈X.fs
  ·obtain⟨sl,q⟩:=slot c o (I.cne x c e) hc nch ho (I.freeC x c e)
   exact⟨_,q,hd⟩
  ·exact⟨o,keep c o (I.cne x c e) hc nch ho (I.freeC x c e),hd⟩
 refine⟨I.ok,I.os,hg,⟨fun b o e n hb hx=>?_,fun b o e n hb hx=>?_,fun b o e n hx=>?_,fun b o e hx=>?_,fun b xs e=>tups b xs (I.base.tups b xs e),fun b o xs e=>frzs b o xs (I.base.frzs b o xs e),fun b ps e=>?_⟩,?_,fun x c e=>?_,?_,fun x c e=>?_,fun p hp=>?_,hok,I.len⟩;·exact keep b o (neL b o e) hb (neC b o e hx) (I.base.keep b o e n hb hx) (I.base.free b o e n hx)
 ·obtain⟨sl,e1⟩:=I.base.slot b o e n hb hx
  obtain⟨sl',e2⟩:=slot b _ (neL b o e) hb (neC b o e hx) e1 (I.base.free b o e n hx);exact⟨sl',e2⟩
 ·obtain⟨o',e1⟩:=I.base.there b o e hx
  exact free b o' (neC b o e hx) e1 (I.base.free b o e n hx)
 ·obtain⟨o',e1⟩:=I.base.there b o e hx
  exact there b o' (neC b o e hx) e1
 ·obtain⟨m1,e1⟩:=I.base.tbls b ps e
  obtain⟨m2,e2⟩:=tbls b _ e1;exact⟨m1++m2,by rw[e2,Array.append_assoc]⟩
 ·obtain⟨m,hn,hl⟩:=I.loc
  refine⟨m,ns m hn,fun i x v e1 e2 e3=>?_⟩;obtain⟨u,r,l⟩:=hl i x v e1 e2 e3;refine⟨u,r,?_⟩;rcases l with l| ⟨k,c,e,z⟩;·exact .inl l
  ·exact .inr ⟨k,c,e,cellK x c e _ z⟩
 ·obtain⟨v,z⟩:=I.cell x c e
  exact⟨v,cellK x c e v z⟩
 ·obtain⟨m,⟨o,_,_,ho,_⟩,_⟩:=I.loc
  exact free _ o (fun z=>(hch _ z).2.1 rfl) ho I.free
 ·obtain⟨v,o,ho,hd⟩:=I.cell x c e
  exact free c o (fun z=>(hch c z).2.2.1 x c e rfl) ho (I.freeC x c e)
 ·obtain⟨e,n,ne,nf,d⟩:=I.pin p hp
  have nch:p.1∉ch:=fun z=>(hch p.1 z).2.2.2 p hp rfl;exact⟨keep p.1 p.2 ne nf nch e n,free p.1 p.2 nch e n,ne,nf,d⟩
theorem Inv.un{t':Nat}(I:Inv X pins σ H s)(u:Un X.fs [] H H' s.heap h')(hok:bW X.prog X.w H' h'):Inv X pins σ H' {s with heap:=h',toks:=t'}:=by obtain⟨m,⟨o,es,ep,ho,r⟩,_⟩:=id I.loc;obtain⟨sl,hL⟩:=u.any ho I.free (by simp);exact I.step (g':=s.gens) (d':=s.drawn) (ch:=[]) (fun _ z=>nomatch z) (fun b o _ hb _ e n=>u.keep b o e n hb (by simp)) (fun b o _ hb _ e n=>u.slot b o e n hb (by simp)) (fun b o _ e n=>u.free b o e n (by simp)) (fun b o _ e=>u.there b o e (by simp)) u.tups u.frzs u.tbls (fun m' hm=>by obtain⟨o',es',ep',ho',r'⟩:=hm;rw[ho]at ho';cases ho';exact⟨_,es',ep',hL,r'⟩) hok I.bare
theorem Inv.call{g':Array VS}{t':Nat}{d':Drawn}{ch:List GM}(I:Inv X pins σ H s)(u:Un (bS X.stack) ch H H' s.heap h')(hok:bW X.prog X.w H' h')(hg:Xd g')(hch:∀b∈ch,(b∈X.ex\/X.s₀.heap.objs.size<=b)/\b≠X.env.locals/\(∀x c,X.env.cells.lookup x=some c->c≠b)/\∀p∈X.pn++pins,p.1≠b): Inv X pins σ H' {s with heap:=h',gens:=g',drawn:=d',toks:=t'}:=by obtain⟨m,⟨o,es,ep,ho,r⟩,_⟩:=id I.loc;obtain⟨sl,hL⟩:=u.any ho I.free fun z=>(hch _ z).2.1 rfl;exact I.step (ch:=ch) hch (fun b o hL hb hc e n=>u.keep b o e n (fun z=>(GT.mp (I.stkSub b z)).elim hL hb) hc) (fun b o _ _ hc e n=>u.any e n hc) (fun b o hc e n=>u.free b o e n hc) (fun b o hc e=>u.there b o e hc) u.tups u.frzs u.tbls (fun m' hm=>by obtain⟨o',es',ep',ho',r'⟩:=hm;rw[ho]at ho';cases ho';exact⟨_,es',ep',hL,r'⟩) hok hg
theorem Inv.turned{t':Nat}{it:GM}(I:Inv X pins σ H s)(k:∀b o,b≠it->s.heap.get? b=some o->h'.get? b=some o)(hn:H it=none)(hL:it≠X.env.locals)(h1:it∈X.ex\/X.s₀.heap.objs.size<=it)(h2:∀x c,X.env.cells.lookup x=some c->c≠it)(h3:∀p∈X.pn++pins,p.1≠it):Inv X pins σ H {s with heap:=h',toks:=t'}:=by
 have nit:∀b u,H b=some u->b≠it:=fun b u e z=>by rw[z,hn]at e;cases e
 refine I.step (g':=s.gens) (d':=s.drawn) (ch:=[it]) (fun b hb=>?_) (fun b o _ _ hc e _=>k b o (fun z=>hc (by simp[z])) e) (fun b o _ _ hc e _=>⟨o.slots,k b o (fun z=>hc (by simp[z])) e⟩) (fun _ _ _ _ n=>n) (fun b o hc e=>⟨o,k b o (fun z=>hc (by simp[z])) e⟩) (fun _ _ e=>e) (fun _ _ _ e=>e) (fun b ps e=>⟨#[],by rw[e];simp⟩) (fun m hm=>?_) (fun b u e=>?_) I.bare
 ·have e:b=it:=by simpa using hb
  subst e;exact⟨h1,hL,h2,h3⟩
 ·obtain⟨o,es,ep,ho,r⟩:=hm
  exact⟨o,es,ep,k _ o (T6 hL) ho,r⟩
 ·refine(I.hok b u e).stay (fun c v hc q=>k c v ?_ q) (fun _ q=>q) fun _ _ q=>q
  rcases hc with z|z;·rw[z];exact nit b u e
  ·exact nit c _ z
theorem Inv.tok(I:Inv X pins σ H s)(t:Nat):Inv X pins σ H {s with toks:=t}:=I.un (h':=s.heap) (t':=t) Un.refl I.hok
theorem Inv.kept{t':Nat}(I:Inv X pins σ H s)(k:∀b u,s.heap.get? b=some u->h'.get? b=some u):Inv X pins σ H {s with heap:=h',toks:=t'}:=I.un (Un.kept k) (I.hok.kept k)
theorem Inv.laid{a:GM}{o:HO}{t':Nat}(I:Inv X pins σ H s)(k:∀b u,s.heap.get? b=some u->h'.get? b=some u)(hp:s.heap.objs.size<=a)(new:aW X.prog X.w (upd H a o) h' a o):Inv X pins σ (upd H a o) {s with heap:=h',toks:=t'}:=I.un (Un.laid k hp (I.hok.fresh hp)) (I.hok.laid k hp new)
theorem Inv.write{x e:GM}{o:HO}{t':Nat}(I:Inv X pins σ H s)(mu:vF (H x))(he:e=x\/H e=some (.own x))(k:∀b u,b≠e->s.heap.get? b=some u->h'.get? b=some u)(heo:∃u,h'.get? e=some u)(new:aW X.prog X.w (upd H x o) h' x o):Inv X pins σ (upd H x o) {s with heap:=h',toks:=t'}:=I.un (Un.write mu he k heo) (I.hok.write mu he k heo new)
theorem Inv.weak{σ':List (Option V)}(I:Inv X pins σ H s)(hl:σ'.length=σ.length)(w:∀(i:Nat)v,σ'[i]?=some (some v)->σ[i]?=some (some v)):Inv X pins σ' H s:= ⟨I.ok,I.os,I.bare,I.base,let⟨m,hn,hl'⟩:=I.loc; ⟨m,hn,fun i x v e1 e2 e3=>hl' i x v e1 (w i v e2) e3⟩,I.cell,I.free,I.freeC,I.pin,I.hok,hl.trans I.len⟩
theorem Inv.pins_of{pins':List (GM×Obj)}(I:Inv X pins σ H s)(h:∀p∈pins',s.heap.get? p.1=some p.2/\H p.1=none/\p.1≠X.env.locals/\p.1∉X.fs/\∀v,p.2.data≠.cell v):Inv X pins' σ H s:= ⟨I.ok,I.os,I.bare,I.base,I.loc,I.cell,I.free,I.freeC,fun p hp=>(Uj.mp hp).elim (fun z=>I.pin p (VC _ z)) (h p),I.hok,I.len⟩
theorem jQ{N:List Str}(hN:N.Nodup){i j:Nat}{x:Str}(a:N[i]?=some x)(b:N[j]?=some x):i=j:=by obtain⟨h1,e1⟩:=Pi.mp a;obtain⟨h2,e2⟩:=Pi.mp b;exact(List.getElem_inj hN).mp (e1.trans e2.symm)
theorem iG{M:Model}{A:Tf}{E:Do->FB->Prop}{i:Nat}{x:Str}{v:V}{u:Do}{Q:Unit->FB->Prop}(I:Inv X pins σ H s)(hN:X.N.Nodup)(hi:X.N[i]?=some x)(hx:Loc X.env.scope x)(r:RelV v u)(h:∀s',Inv X pins (σ.set i (some v)) H s'->(∃a,Vo a s.heap s'.heap/\(a=X.env.locals\/X.env.cells.lookup x=some a))->Q () s')(hf:X.fn x=true\/X.env.scope.names.lookup x=some .local:=by first|exact .inl rfl|exact .inr rfl|assumption):wpAny M A (storeName X.env x u) Q E s:=by
 obtain⟨m,hn,hl⟩:=id I.loc;have hcls:(X.env.scope.kind==.class|| (X.env.scope.kind==.module&&X.env.locals !=X.env.globals))=false:=by rw[I.ok.kind];rfl
 have hiσ:i<σ.length:=by rw[I.len];exact(Pi.mp hi).1
 have cne:=I.cne;have tracked:∀{a:GM}{h':Ux},(∃o,s.heap.get? a=some o/\H a=none)->Vo a s.heap h'->bW X.prog X.w H h':=fun{a h'}ha hs b ob e=>by
  obtain⟨_,_,hfree⟩:=ha;refine(I.hok b ob e).stay (fun c w' hc q=>(hs.2 c ?_).trans q) (fun _ q=>q) fun _ _ q=>q;rintro rfl;rcases hc with rfl|hc;·rw[hfree]at e;cases e
  ·rw[hfree]at hc;cases hc
 rcases hx with hk|hk
 ·refine wpAny_storeName_local hk hn (fun h' hn' hs=>?_) hcls
  obtain⟨oL,_,_,hoL,_⟩:=id hn;refine h _ ⟨I.ok,I.os,I.bare,⟨fun b o e n hb hx=>?_,fun b o e n hb hx=>?_,I.base.free,fun b o e hx=>?_,I.base.tups,I.base.frzs,I.base.tbls⟩,⟨_,hn',fun j y v' e1 e2 e3=>?_⟩,fun y c e=>?_,I.free,I.freeC,fun p hp=>?_,tracked ⟨oL,hoL,I.free⟩ hs,by simpa using I.len⟩ ⟨_,hs,.inl rfl⟩;·exact(hs.2 b (SM (SN (GE e) I.ok.above))).trans (I.base.keep b o e n hb hx)
  ·obtain⟨sl,e1⟩:=I.base.slot b o e n hb hx
   exact⟨sl,(hs.2 b (SM (SN (GE e) I.ok.above))).trans e1⟩
  ·obtain⟨o',e1⟩:=I.base.there b o e hx
   exact⟨o',(hs.2 b (SM (SN (GE e) I.ok.above))).trans e1⟩
  ·by_cases hj:j=i
   ·subst hj
    rw[hi]at e1;cases e1;rw[V2 hiσ]at e2;cases e2;exact⟨u,r,.inl ⟨hk,by simp⟩⟩
   ·rw[VD (T6 hj)]at e2
    obtain⟨u',r',q⟩:=hl j y v' e1 e2 e3;refine⟨u',r',?_⟩;rcases q with⟨k,e⟩| ⟨k,c,e,z⟩
    ·refine .inl ⟨k,?_⟩
     have:y≠x:=fun e=>hj (jQ hN e1 (e▸hi));simp[this,e]
    ·exact .inr ⟨k,c,e,z.sameBut hs (cne y c e)⟩
  ·obtain⟨w',z⟩:=I.cell y c e
   exact⟨w',z.sameBut hs (cne y c e)⟩
  ·obtain⟨e,n,ne,nf,d⟩:=I.pin p hp
   exact⟨(hs.2 p.1 ne).trans e,n,ne,nf,d⟩
 ·have hfn:X.fn x=true:=by
   rcases hf with z|z;·exact z
   ·rw[z]at hk;cases hk
  obtain⟨c,hc⟩:=I.ok.has x (.inl hk);obtain⟨w',z⟩:=I.cell x c hc;refine wpAny_storeName_cell I.ok.kind hk hc z (fun h' hc' hs=>?_);obtain⟨oc,hoc,hocd⟩:=id z;refine h {s with heap:=h'} ⟨I.ok,I.os,I.bare,⟨fun b o e n hb hx=>?_,fun b o e n hb hx=>?_,I.base.free,fun b o e hx=>?_,I.base.tups,I.base.frzs,I.base.tbls⟩,⟨m,hn.sameBut hs (T6 (cne x c hc)),fun j y v' e1 e2 e3=>?_⟩,fun y c' e=>?_,I.free,I.freeC,fun p hp=>?_,tracked ⟨oc,hoc,I.freeC x c hc⟩ hs,by simpa using I.len⟩ ⟨c,hs,.inr hc⟩;·exact(hs.2 b (SM (SN (GE e) (I.ok.cab x c hfn hc)))).trans (I.base.keep b o e n hb hx)
  ·obtain⟨sl,e1⟩:=I.base.slot b o e n hb hx
   exact⟨sl,(hs.2 b (SM (SN (GE e) (I.ok.cab x c hfn hc)))).trans e1⟩
  ·obtain⟨o',e1⟩:=I.base.there b o e hx
   exact⟨o',(hs.2 b (SM (SN (GE e) (I.ok.cab x c hfn hc)))).trans e1⟩
  ·by_cases hj:j=i
   ·subst hj
    rw[hi]at e1;cases e1;rw[V2 hiσ]at e2;cases e2;exact⟨u,r,.inr ⟨.inl hk,c,hc,hc'⟩⟩
   ·rw[VD (T6 hj)]at e2
    obtain⟨u',r',q⟩:=hl j y v' e1 e2 e3;refine⟨u',r',?_⟩;rcases q with q| ⟨k,c',e,z'⟩;·exact .inl q
    ·refine .inr ⟨k,c',e,z'.sameBut hs ?_⟩
     rintro rfl;exact hj (jQ hN e1 (I.ok.inj _ _ _ e hc▸hi))
  ·by_cases hcc:c'=c
   ·subst hcc;exact⟨_,hc'⟩
   ·obtain⟨w2,z2⟩:=I.cell y c' e
    exact⟨w2,z2.sameBut hs hcc⟩
  ·obtain⟨e,n,ne,nf,d⟩:=I.pin p hp
   refine⟨(hs.2 p.1 ?_).trans e,n,ne,nf,d⟩;intro q;rw[q,hoc]at e;have q':oc=p.2:=To e;exact d w' (by rw[<-q'];exact hocd)
theorem jI{M:Model}{A:Tf}{E:Do->FB->Prop}{i:Nat}{x:Str}{v:V}{u:Do}{Q:Unit->FB->Prop}(I:Inv X pins σ H s)(hN:X.N.Nodup)(hi:X.N[i]?=some x)(hx:Loc X.env.scope x)(r:RelV v u)(h:∀s',Inv X pins (σ.set i (some v)) H s'->Q () s')(hf:X.fn x=true\/X.env.scope.names.lookup x=some .local:=by first|exact .inl rfl|exact .inr rfl|assumption):wpAny M A (storeName X.env x u) Q E s:= iG I hN hi hx r (fun s' I' _=>h s' I') hf
theorem Inv.call'{s':FB}{ch:List GM}(I:Inv X pins σ H s)(ho:s'.os=s.os)(u:Un (bS X.stack) ch H H' s.heap s'.heap)(hok:bW X.prog X.w H' s'.heap)(hg:Xd s'.gens)(hch:∀b∈ch,(b∈X.ex\/X.s₀.heap.objs.size<=b)/\b≠X.env.locals/\(∀x c,X.env.cells.lookup x=some c->c≠b)/\∀p∈X.pn++pins,p.1≠b):Inv X pins σ H' s':=by obtain⟨h',g',d',t',o'⟩:=s';have e:o'=s.os:=ho;subst e;exact I.call (g':=g') (t':=t') (d':=d') u hok hg hch
end
abbrev XK:=Do->Option GM->Hp->Prop
noncomputable abbrev St:=List (Option V)
abbrev VK:=V->Hp->Prop
abbrev TE:=St->Hp->VK->Prop
abbrev TT:=St->Hp->(Bool->Hp->Prop)->Prop
abbrev TA:=St->Hp->(List V->Hp->Prop)->Prop
structure Ends where
 nx:St->Hp->Prop
 rt:VK
 bk:St->Hp->Prop:=fun _ _=>False
 ct:St->Hp->Prop:=fun _ _=>False
abbrev TS:=Ends->St->Hp->Prop
def EP(X:Cx)(pins:List (GM×Obj))(σ:St)(Q:VK)(u:Do)(s':FB):Prop:=∃v H',Inv X pins σ H' s'/\RelV v u/\Q v H'
def TP(X:Cx)(pins:List (GM×Obj))(σ:St)(Q:Bool->Hp->Prop)(b:Bool)(s':FB):Prop:=∃H',Inv X pins σ H' s'/\Q b H'
def AP(X:Cx)(pins:List (GM×Obj))(σ:St)(Q:List V->Hp->Prop)(us:List Do)(s':FB):Prop:=∃vs H',Inv X pins σ H' s'/\Vals vs us/\Q vs H'
def SP(X:Cx)(pins:List (GM×Obj))(D:Ends)(f:Flow)(s':FB):Prop:=match f with
 |.next=>∃σ' H',Inv X pins σ' H' s'/\D.nx σ' H'
 |.brk=>∃σ' H',Inv X pins σ' H' s'/\D.bk σ' H'
 |.cont=>∃σ' H',Inv X pins σ' H' s'/\D.ct σ' H'
 |.ret u=>∃v σ' H',Inv X pins σ' H' s'/\RelV v u/\D.rt v H'
def PE(X:Cx)(e:Uo)(t:TE):Prop:=∀(pins:List (GM×Obj))(s:FB)(σ:St)(H:Hp)(Q:VK),Inv X pins σ H s->t σ H Q->wpAny (model X.prog X.w) X.A (eval e X.env) (EP X pins σ Q) X.xe s
def PT(X:Cx)(e:Uo)(t:TT):Prop:=∀(pins:List (GM×Obj))(s:FB)(σ:St)(H:Hp)(Q:Bool->Hp->Prop),Inv X pins σ H s->t σ H Q->wpAny (model X.prog X.w) X.A (isTrue e X.env (eval e X.env)) (TP X pins σ Q) X.xe s
def PW(X:Cx)(e:Uo)(t:TT):Prop:=∀(whole:Sem Do)(pins:List (GM×Obj))(s:FB)(σ:St)(H:Hp)(Q:Bool->Hp->Prop),Inv X pins σ H s->t σ H Q->wpAny (model X.prog X.w) X.A (isTrue e X.env whole) (TP X pins σ Q) X.xe s
theorem PW.pt{X:Cx}{e:Uo}{t:TT}(h:PW X e t):PT X e t:=h _
def PA(X:Cx)(es:List Uo)(t:TA):Prop:=∀(pos:Pos)(pins:List (GM×Obj))(s:FB)(σ:St)(H:Hp)(Q:List V->Hp->Prop),Inv X pins σ H s->t σ H Q->wpAny (model X.prog X.w) X.A (spliced (backTo pos (starEach es X.env))) (AP X pins σ Q) X.xe s
def PS(X:Cx)(st:T4)(t:TS):Prop:=∀(pins:List (GM×Obj))(s:FB)(σ:St)(H:Hp)(D:Ends),Inv X pins σ H s->t D σ H->wpAny (model X.prog X.w) X.A (exec st X.env) (SP X pins D) X.xe s
def dq(X:Cx)(st:List T4)(t:TS):Prop:=∀(pins:List (GM×Obj))(s:FB)(σ:St)(H:Hp)(D:Ends),Inv X pins σ H s->t D σ H->wpAny (model X.prog X.w) X.A (execs st X.env) (SP X pins D) X.xe s
theorem aD{α:Type}{t:Sem α}{Q Q':α->FB->Prop}{M:Model}{A:Tf}{E:Do->FB->Prop}{s:FB}(h:wpAny M A t Q E s)(hQ:∀a s,Q a s->Q' a s):wpAny M A t Q' E s:=TZ h hQ fun _ _ x=>x
section
variable{X:Cx}
def KC(i:Nat):TE:=fun σ H Q=>∃v,σ[i]?=some (some v)/\Q v H
def tC(v:V):TE:=fun _ H Q=>Q v H
theorem iY{i:Nat}{x:Str}{pos:Pos}(hN:X.N[i]?=some x)(hv:mG X.env.scope x)(hd:(x== ("__debug__" :Str))=false:=by decide)(hcd:(x== ("__classdict__" :Str))=false:=by decide):PE X (.Name x pos) (KC i):=by
 intro pins s σ H Q I h;obtain⟨v,e,h⟩:=h;obtain⟨m,hn,hl⟩:=I.loc;obtain⟨u,r,l⟩:=hl i x v hN e hv;have fin:EP X pins σ Q u s:=⟨v,H,I,r,h⟩;rcases l with⟨hk,hm⟩| ⟨hk,c,hc,hcell⟩;·exact wpAny_Name (wpAny_loadName_local I.ok.kind hk hn hm fin) hd
 ·rcases hk with hk|hk
  ·exact wpAny_Name (wpAny_loadName_cell I.ok.kind hk hc hcell fin) hd
  ·exact wpAny_Name (wpAny_loadName_free I.ok.kind hk hc hcell fin hcd) hd
theorem ak{i j pos}:PE X (.Constant (.int i) j pos) (tC (.int i)):=fun _ _ _ H _ I h=>wpAny_Constant_int ⟨.int i,H,I.tok _,⟨_,rfl⟩,h⟩
theorem bL{b j pos}:PE X (.Constant (.bool b) j pos) (tC (.bl b)):=fun _ _ _ H _ I h=>Constant_bool ⟨.bl b,H,I,rfl,h⟩
theorem wC{j pos}:PE X (.Constant .none j pos) (tC .non):=fun _ _ _ H _ I h=>Constant_none ⟨.non,H,I,rfl,h⟩
theorem az{x j pos}:PE X (.Constant (.str x) j pos) (tC (.str x)):=fun _ _ _ H _ I h=>Calls.Constant_str ⟨.str x,H,I.tok _,⟨_,rfl⟩,h⟩
def Gl(X:Cx)(x:Str):Prop:=X.env.kindOf x=some .globalImplicit
theorem cL{E:Do->FB->Prop}{pins:List (GM×Obj)}{s:FB}{σ:St}{H:Hp}{x:Str}{u:Do}{pos:Pos}{Q:Do->FB->Prop}(I:Inv X pins σ H s)(hg:Gl X x)(hm:X.mg x=some u)(h:Q u s)(hd:(x== ("__debug__" :Str))=false:=by decide):wpAny (model X.prog X.w) X.A (eval (.Name x pos) X.env) Q E s:= WI I.ok.kind hg (Calls.loadGlobal_global (by rw[I.ok.glob];exact I.mod.glob.keeps I.bk) hm h) hd
theorem bO{E:Do->FB->Prop}{pins:List (GM×Obj)}{s:FB}{σ:St}{H:Hp}{x:Str}{u:Do}{pos:Pos}{Q:Do->FB->Prop}(I:Inv X pins σ H s)(hg:Gl X x)(hm:X.mg x=none)(hv:bootBuiltins x=some u)(h:Q u s)(hn:x≠"__name__":=by decide)(hd:(x== ("__debug__" :Str))=false:=by decide):wpAny (model X.prog X.w) X.A (eval (.Name x pos) X.env) Q E s:=by obtain⟨mb,h1,h2⟩:=I.mod.blt;exact WI I.ok.kind hg (Calls.loadGlobal_builtin (by rw[I.ok.glob];exact I.mod.glob.keeps I.bk) hm (by rw[I.ok.blt];exact h1.keeps I.bk) ((h2 x hn).trans hv) h) hd
theorem bV{x:Str}{v:V}{u:Do}{pos:Pos}(hg:Gl X x)(hm:X.mg x=some u)(r:RelV v u)(hd:(x== ("__debug__" :Str))=false:=by decide):PE X (.Name x pos) (tC v):=fun _ _ _ H _ I h=>cL I hg hm ⟨v,H,I,r,h⟩ hd
theorem gE{x:Str}{v:V}{u:Do}{pos:Pos}(hg:Gl X x)(hm:X.mg x=none)(hv:bootBuiltins x=some u)(r:RelV v u)(hn:x≠"__name__":=by decide)(hd:(x== ("__debug__" :Str))=false:=by decide):PE X (.Name x pos) (tC v):=fun _ _ _ H _ I h=>bO I hg hm hv ⟨v,H,I,r,h⟩ hn hd
variable{a b:Uo}{ta tb:TE}{pos:Pos}
def PC(X:Cx)(op:CmpOp)(a b:Uo)(t:TE):Prop:=∀(pins:List (GM×Obj))(s:FB)(σ:St)(H:Hp)(Q:VK),Inv X pins σ H s->t σ H Q->wpAny (model X.prog X.w) X.A (eval a X.env) (fun v s₁=>wpAny (model X.prog X.w) X.A (eval b X.env) (fun u s₂=>wpAny (model X.prog X.w) X.A (compareOp op v u) (EP X pins σ Q) X.xe s₂) X.xe s₁) X.xe s
theorem yV(b:Uo){op:CmpOp}(h:op≠.In)(h2:op≠.NotIn):behindInMarks op b=false:=by
 have e1:(op==CmpOp.In)=false:=by cases op<;>first|rfl|exact absurd rfl h
 have e2:(op==CmpOp.NotIn)=false:=by cases op<;>first|rfl|exact absurd rfl h2
 cases b<;>simp[behindInMarks,e1,e2]
def tB(t:TE):TT:=fun σ H Q=>t σ H fun x H1=>∃c,x=.bl c/\Q c H1
theorem br{e:Uo}{t:TE}(h:PE X e t)(he:∀whole,isTrue e X.env whole=(do let v<-whole;standAt e.pos;holding [v] (truthy v)):=by intro _;rfl):PT X e (tB t):=by
 intro pins s σ H Q I hw;refine isTrue_plain (aD (h pins s σ H _ I hw) fun v s1⟨x,H1,I1,r1,q1⟩=>?_) (he _);obtain⟨d,rfl,q⟩:=q1;cases r1;exact TQ ⟨H1,I1,q⟩
variable{tA tB':TT}{rest:List Uo}
def Ro(t u:TT):TT:=fun σ H Q=>t σ H fun c H1=>if c=true then u σ H1 Q else Q false H1
def RF(t u:TT):TT:=fun σ H Q=>t σ H fun c H1=>if c=true then Q true H1 else u σ H1 Q
def PQ(t:TT):TT:=fun σ H Q=>t σ H fun c H1=>Q (!c) H1
theorem D7(ha:PT X a tA):PW X (.BoolOp .And [a] pos) tA:=by intro wh pins s σ H Q I h;refine isTrue_and (aD (ha pins s σ H Q I h) fun c s1 e=>?_);cases c with
 |true=>exact isTrue_and_nil e
 |false=>exact e
theorem cg(ha:PT X a tA):PW X (.BoolOp .Or [a] pos) tA:=by intro wh pins s σ H Q I h;refine isTrue_or (aD (ha pins s σ H Q I h) fun c s1 e=>?_);cases c with
 |false=>exact isTrue_or_nil e
 |true=>exact e
theorem MJ(ha:PT X a tA)(hb:PW X (.BoolOp .And (b::rest) pos) tB'):PW X (.BoolOp .And (a::b::rest) pos) (Ro tA tB'):=by intro wh pins s σ H Q I h;refine isTrue_and (aD (ha pins s σ H _ I h) fun c s1⟨H1,I1,q1⟩=>?_);cases c with
 |true=>exact hb wh pins s1 σ H1 Q I1 q1
 |false=>exact⟨H1,I1,q1⟩
theorem b7(ha:PT X a tA)(hb:PW X (.BoolOp .Or (b::rest) pos) tB'):PW X (.BoolOp .Or (a::b::rest) pos) (RF tA tB'):=by intro wh pins s σ H Q I h;refine isTrue_or (aD (ha pins s σ H _ I h) fun c s1⟨H1,I1,q1⟩=>?_);cases c with
 |true=>exact⟨H1,I1,q1⟩
 |false=>exact hb wh pins s1 σ H1 Q I1 q1
theorem cS(ha:PT X a tA):PT X (.UnaryOp .Not a pos) (PQ tA):=by intro pins s σ H Q I h;exact isTrue_not (ha pins s σ H (fun c H1=>Q (!c) H1) I h)
def NU(ta tb:TE):TE:=fun σ H Q=>ta σ H fun x H1=>∃c,x=.bl c/\if c=true then tb σ H1 Q else Q (.bl false) H1
def OB(ta:TE):TE:=fun σ H Q=>ta σ H fun x H1=>∃c,x=.bl c/\Q (.bl (!c)) H1
theorem kg{op}{t:TE}(h:PE X a t):PE X (.BoolOp op [a] pos) t:=fun pins s σ H Q I hw=>BoolOp_one (h pins s σ H Q I hw)
theorem iz(ha:PE X a ta)(hb:PE X (.BoolOp .And (b::rest) pos) tb):PE X (.BoolOp .And (a::b::rest) pos) (NU ta tb):=by
 intro pins s σ H Q I h;refine BoolOp_and (aD (ha pins s σ H _ I h) fun v s1⟨x,H1,I1,r1,q1⟩=>?_);obtain⟨c,rfl,q1⟩:=q1;cases r1;refine TQ ?_;cases c with
 |true=>exact hb pins s1 σ H1 Q I1 q1
 |false=>exact⟨.bl false,H1,I1,rfl,q1⟩
theorem wR(ha:PE X a ta):PE X (.UnaryOp .Not a pos) (OB ta):=by
 intro pins s σ H Q I h;refine UnaryOp_ (aD (ha pins s σ H _ I h) fun v s1⟨x,H1,I1,r1,q1⟩=>?_);obtain⟨c,rfl,q1⟩:=q1;cases r1;exact not_of (TQ ⟨.bl (!c),H1,I1,rfl,q1⟩)
def So(t:TT)(ta tb:TE):TE:=fun σ H Q=>t σ H fun c H1=>if c=true then ta σ H1 Q else tb σ H1 Q
theorem yA{c:Uo}(hc:PT X c tA)(ha:PE X a ta)(hb:PE X b tb):PE X (.IfExp c a b pos) (So tA ta tb):=by intro pins s σ H Q I h;refine wpAny_IfExp (aD (hc pins s σ H _ I h) fun d s1⟨H1,I1,q1⟩=>?_);cases d with
 |true=>exact ha pins s1 σ H1 Q I1 q1
 |false=>exact hb pins s1 σ H1 Q I1 q1
end
def ao(K:SL)(H:Hp)(a:GM)(xs:List V):Prop:=Rd H a (.lst xs)\/∃(o:Obj)(its:Array Do)(n:Nat),K.lookup a=some o/\o.cls=.type "list"/\o.dict=none/\o.data=.seq its n/\its.size<=sizeLine/\Vals xs its.toList
def bN(K:SL)(H:Hp)(a:GM)(xs:List V):Prop:=Rd H a (.tup xs)\/∃(o:Obj)(its:Array Do)(n:Nat),K.lookup a=some o/\o.cls=.type "tuple"/\o.data=.seq its n/\its.size<=sizeLine/\Vals xs its.toList
noncomputable def Rc:Do->Option V
 |.none=>some .non
 |.bool b=>some (.bl b)
 |.int i _=>some (.int i)
 |.str x _=>some (.str x)
 |.bytes b _=>some (.byt b)
 |.float b _=>some (.flt b)
 |.ref a=>some (.ref a)
 |.type n=>some (.ty n)
 |_=>none
theorem RelV.abs{x:V}{u:Do}(r:RelV x u):Rc u=some x:=by cases x with
 |non=>cases r;rfl
 |bl _=>cases r;rfl
 |int _=>obtain⟨t,rfl⟩:=r;rfl
 |str _=>obtain⟨t,rfl⟩:=r;rfl
 |byt _=>obtain⟨t,rfl⟩:=r;rfl
 |flt _=>obtain⟨t,rfl⟩:=r;rfl
 |ref _=>cases r;rfl
 |ty _=>cases r;rfl
theorem RelV.inj{x y:V}{u:Do}(r:RelV x u)(q:RelV y u):x=y:=To (r.abs.symm.trans q.abs)
theorem Vals.inj:∀{xs ys:List V}{us:List Do},Vals xs us->Vals ys us->xs=ys
 |_,_,_,.nil,.nil=>rfl
 |_,_,_,.cons r t,.cons r' t'=>by rw[r.inj r',Vals.inj t t']
section
variable{X:Cx}{pins:List (GM×Obj)}{σ:St}{H:Hp}{s:FB}{a:GM}{xs ys:List V}
theorem ao.of{K:SL}(h:H a=some (.lst xs)):ao K H a xs:=.inl (.inl h)
theorem bN.of{K:SL}(h:H a=some (.tup xs)):bN K H a xs:=.inl (.inl h)
theorem Inv.list(I:Inv X pins σ H s)(h:ao X.K H a xs):∃its:List Do,Vals xs its/\PlainL s.heap a its.toArray/\xs.length<=sizeLine:=by
 rcases h with h| ⟨o,its,n,hk,hc,hd,hs,hz,r⟩
 ·obtain⟨z,its,n,r,e⟩:=h.ok I.hok
  exact⟨its,r,⟨_,n,e,rfl,rfl,rfl⟩,z⟩
 ·refine⟨its.toList,r,⟨o,n,I.kIn a o hk,hc,hd,by simpa using hs⟩,?_⟩
  have e:=r.length;simp only[S6]at e;lia
theorem Inv.tuple(I:Inv X pins σ H s)(h:bN X.K H a xs):∃its:List Do,Vals xs its/\IsTup s.heap a its.toArray/\xs.length<=sizeLine:=by
 rcases h with h| ⟨o,its,n,hk,hc,hs,hz,r⟩
 ·obtain⟨z,its,r,p⟩:=h.ok I.hok
  exact⟨its,r,p,z⟩
 ·refine⟨its.toList,r,⟨o,I.kIn a o hk,hc,n,by simpa using hs⟩,?_⟩
  have e:=r.length;simp only[S6]at e;lia
theorem Inv.list_inj(I:Inv X pins σ H s)(h:ao X.K H a xs)(h':ao X.K H a ys):xs=ys:=by
 obtain⟨its,r,⟨o,n,e,_,_,d⟩,_⟩:=I.list h;obtain⟨its',r',⟨o',n',e',_,_,d'⟩,_⟩:=I.list h';rw[e]at e';cases e';rw[d]at d';injection d' with d1 _;have:its=its':=by simpa using congrArg Array.toList d1
 subst this;exact r.inj r'
end
noncomputable abbrev Cx.wish(X:Cx)(E:Do->FB->Prop):Cx:={X with xe:=E}
abbrev Cx.nox(X:Cx):Cx:=X.wish fun _ _=>False
theorem Cx.Ok.wish{X:Cx}(ok:X.Ok)(E:Do->FB->Prop):(X.wish E).Ok:= ⟨ok.mod,ok.kind,ok.glob,ok.blt,ok.above,ok.inj,ok.has,ok.cab,ok.hd,ok.frames,ok.stk,ok.exf,ok.bs,ok.bsz,ok.noex,ok.exfs,ok.funs,ok.frf⟩
theorem Cx.Ok.unwish{X:Cx}{E:Do->FB->Prop}(ok:(X.wish E).Ok):X.Ok:= ⟨ok.mod,ok.kind,ok.glob,ok.blt,ok.above,ok.inj,ok.has,ok.cab,ok.hd,ok.frames,ok.stk,ok.exf,ok.bs,ok.bsz,ok.noex,ok.exfs,ok.funs,ok.frf⟩
section
variable{X:Cx}{pins:List (GM×Obj)}{σ:St}{H:Hp}{s:FB}{E:Do->FB->Prop}
theorem Inv.wish(I:Inv X pins σ H s)(E:Do->FB->Prop):Inv (X.wish E) pins σ H s:=⟨I.ok.wish E,I.os,I.bare,I.base,I.loc,I.cell,I.free,I.freeC,I.pin,I.hok,I.len⟩
theorem Inv.unwish(I:Inv (X.wish E) pins σ H s):Inv X pins σ H s:=⟨I.ok.unwish,I.os,I.bare,I.base,I.loc,I.cell,I.free,I.freeC,I.pin,I.hok,I.len⟩
theorem SP.unwish{D:Ends}{f:Flow}{s':FB}(h:SP (X.wish E) pins D f s'):SP X pins D f s':=by cases f with
 |next=>obtain⟨σ',H',I,q⟩:=h;exact⟨σ',H',I.unwish,q⟩
 |brk=>obtain⟨σ',H',I,q⟩:=h;exact⟨σ',H',I.unwish,q⟩
 |cont=>obtain⟨σ',H',I,q⟩:=h;exact⟨σ',H',I.unwish,q⟩
 |ret u=>obtain⟨v,σ',H',I,r,q⟩:=h;exact⟨v,σ',H',I.unwish,r,q⟩
theorem dq.nox{st:List T4}{t:TS}(h:dq X.nox st t):dq X st t:=fun pins s σ H D I hw=>TZ (h pins s σ H D (I.wish _) hw) (fun _ _ q=>q.unwish) fun _ _ z=>Up z
end
section
variable{X:Cx}{st:T4}{rest:List T4}{t u:TS}{e:Uo}{te:TE}{pos:Pos}
def N5:TS:=fun D σ H=>D.nx σ H
def QN(t u:TS):TS:=fun D σ H=>t {D with nx:=u D} σ H
theorem aG:dq X [] N5:=fun _ _ σ H _ I h=>Vp ⟨σ,H,I,h⟩
theorem ai(h1:PS X st t)(h2:dq X rest u):dq X (st::rest) (QN t u):=by intro pins s σ H D I h;refine Wm (aD (h1 pins s σ H {D with nx:=u D} I h) fun f s1 q=>?_);cases f with
 |next=> obtain⟨σ',H',I',q⟩:=q;exact h2 pins s1 σ' H' D I' q
 |ret v=>exact q
 |brk=>exact q
 |cont=>exact q
theorem ah(h1:PS X st t):dq X [st] t:=by intro pins s σ H D I h;refine Wm (aD (h1 pins s σ H D I h) fun f s1 q=>?_);cases f with
 |next=>exact Vp q
 |ret v=>exact q
 |brk=>exact q
 |cont=>exact q
theorem Inv.quiet{pins:List (GM×Obj)}{σ:St}{H:Hp}{s:FB}(I:Inv X pins σ H s):interactive X.env=false:=by simp[interactive,I.ok.kind]
def NI(te:TE):TS:=fun D σ H=>te σ H fun _ H1=>D.nx σ H1
theorem aQ(he:PE X e te)(hs:swapsWith e none pos.line X.env=pure false:=by rfl):PS X (.Expr e pos) (NI te):=by intro pins s σ H D I h;exact wpAny_Expr_any (aD (he pins s σ H _ I h) fun v s1⟨x,H1,I1,r1,q1⟩=>⟨σ,H1,I1,q1⟩) I.quiet hs
def Nc(te:TE):TS:=fun D σ H=>te σ H D.rt
theorem ar(he:PE X e te):PS X (.Return (some e) pos) (Nc te):=by intro pins s σ H D I h;exact wpAny_Return_some (aD (he pins s σ H _ I h) fun v s1⟨x,H1,I1,r1,q1⟩=>⟨x,σ,H1,I1,r1,q1⟩)
def Pj(c:TT)(t u:TS):TS:=fun D σ H=>c σ H fun b H1=>if b=true then t D σ H1 else u D σ H1
theorem aO{c:Uo}{a b:List T4}{tc:TT}(hc:PT X c tc)(ha:dq X a t)(hb:dq X b u):PS X (.If c a b pos) (Pj tc t u):=by intro pins s σ H D I h;refine wpAny_If (aD (hc pins s σ H _ I h) fun d s1⟨H1,I1,q1⟩=>?_);cases d with
 |true=>exact ha pins s1 σ H1 D I1 q1
 |false=>exact hb pins s1 σ H1 D I1 q1
def xx:TS:=fun _ _ _=>False
theorem n6:PS X st xx:=fun _ _ _ _ _ _ h=>h.elim
theorem eW{sts:List T4}:dq X sts xx:=fun _ _ _ _ _ _ h=>h.elim
end
abbrev TG:=V->St->Hp->(St->Hp->Prop)->Prop
abbrev mV:=List V->St->Hp->(St->Hp->Prop)->Prop
def PG(X:Cx)(target:Uo)(t:TG):Prop:=∀(pins:List (GM×Obj))(s:FB)(σ:St)(H:Hp)(v:V)(u:Do)(Q:St->Hp->Prop),Inv X pins σ H s->RelV v u->t v σ H Q->wpAny (model X.prog X.w) X.A (assign target X.env u) (fun _ s'=>∃σ' H',Inv X pins σ' H' s'/\Q σ' H') X.xe s
def vb(X:Cx)(ts:List Uo)(t:mV):Prop:=∀(pins:List (GM×Obj))(s:FB)(σ:St)(H:Hp)(vs:List V)(us:List Do)(Q:St->Hp->Prop),Inv X pins σ H s->Vals vs us->t vs σ H Q->wpAny (model X.prog X.w) X.A (assignInOrder ((assignEach ts X.env).map (·.2)) us) (fun _ s'=>∃σ' H',Inv X pins σ' H' s'/\Q σ' H') X.xe s
abbrev yg:=V->V->V->Hp->(Hp->Prop)->Prop
def eL(X:Cx)(t:yg):Prop:=∀(pins:List (GM×Obj))(s:FB)(σ:St)(H:Hp)(o i v:V)(ov iv u:Do)(Q:Hp->Prop),Inv X pins σ H s->RelV o ov->RelV i iv->RelV v u->t o i v H Q->wpAny (model X.prog X.w) X.A (setItem ov iv u) (fun _ s'=>∃H',Inv X pins σ H' s'/\Q H') X.xe s
abbrev CQ:=V->V->Hp->VK->Prop
def Li(X:Cx)(op:Operator)(t:CQ):Prop:=∀(pins:List (GM×Obj))(s:FB)(σ:St)(H:Hp)(x y:V)(v u:Do)(Q:VK),Inv X pins σ H s->RelV x v->RelV y u->t x y H Q->wpAny (model X.prog X.w) X.A (inplaceOp op v u) (EP X pins σ Q) X.xe s
section
variable{X:Cx}{pos:Pos}
def Bo(i:Nat):TG:=fun v σ H Q=>Q (σ.set i (some v)) H
theorem ax{i:Nat}{x:Str}(hN:X.N.Nodup)(hi:X.N[i]?=some x)(hx:Loc X.env.scope x)(hf:X.fn x=true\/X.env.scope.names.lookup x=some .local:=by first|exact .inl rfl|exact .inr rfl|assumption):PG X (.Name x pos) (Bo i):=by intro pins s σ H v u Q I r h;exact wpAny_assign_Name (jI I hN hi hx r (fun s' I'=>⟨_,H,I',h⟩) hf)
def Qu:mV:=fun vs σ H Q=>vs=[]/\Q σ H
def NX(t:TG)(u:mV):mV:=fun vs σ H Q=>∃v r,vs=v::r/\t v σ H fun σ' H'=>u r σ' H' Q
theorem bP:vb X [] Qu:=by
 intro pins s σ H vs us Q I r h;obtain⟨e,h⟩:=h;subst e;cases r;exact assignInOrder_nil ⟨σ,H,I,h⟩
theorem aJ{e:Uo}{es:List Uo}{t:TG}{u:mV}(h1:PG X e t)(h2:vb X es u)(hs:(assignEach (e::es) X.env).map (·.2)=assign e X.env::(assignEach es X.env).map (·.2):=by rfl):vb X (e::es) (NX t u):=by intro pins s σ H vs us Q I r h;obtain⟨v,vr,e1,h⟩:=h;subst e1;cases r with
 |cons r rr=> rw[hs];refine assignInOrder_cons (aD (h1 pins s σ H _ _ _ I r h) fun _ s1⟨σ1,H1,I1,q1⟩=>?_);exact h2 pins s1 σ1 H1 _ _ Q I1 rr q1
def FT(K:SL)(n:Nat)(t:mV):TG:=fun v σ H Q=>∃a xs,v=.ref a/\bN K H a xs/\xs.length=n/\t xs σ H Q
theorem gQ{es:List Uo}{k:Nat}{t:mV}{n:Nat}(hc:X.calm=true)(h:vb X es t)(hn:(assignEach es X.env).length=n:=by rfl)(hst:(assignEach es X.env).findIdx? (·.1)=none:=by rfl):PG X (.Tuple es k pos) (FT X.K n t):=by
 intro pins s σ H v u Q I r hw;obtain⟨a,xs,e1,hq,hl,hw⟩:=hw;subst e1;cases r;obtain⟨its,rv,ht,hz⟩:=I.tuple hq;refine assign_Tuple_tuple (I.ok.hd hc) ht (by simp[hn,<-hl,rv.length]) hst fun h' hx=>?_;have I1:Inv X pins σ H {s with heap:=h'}:=I.kept (t':=s.toks) fun b o e=>hx b o (SM (GE e)) e;exact h pins _ σ H xs _ Q I1 (by simpa using rv) hw
def O8(to ti:TE)(t:yg):TG:=fun v σ H Q=>to σ H fun o H1=>ti σ H1 fun i H2=>t o i v H2 fun H3=>Q σ H3
theorem nN{o i:Uo}{to ti:TE}{t:yg}(ho:PE X o to)(hi:PE X i ti)(hs:eL X t)(ha:∀v,assign (.Subscript o i pos) X.env v=(do
   let ov<-holding [v] (eval o X.env)let iv<-holding [v,ov] (eval i X.env)standAt pos
   holding [v,ov,iv] (setItem ov iv v)release [v,ov,iv] []):=by intro _;rfl):PG X (.Subscript o i pos) (O8 to ti t):=by intro pins s σ H v u Q I r h;rw[ha];refine tz (Ti (aD (ho pins s σ H _ I h) fun ov s1⟨x,H1,I1,r1,q1⟩=>?_));refine tz (Ti (aD (hi pins s1 σ H1 _ I1 q1) fun iv s2⟨y,H2,I2,r2,q2⟩=>?_));refine tz (Wt (tz (Ti (aD (hs pins s2 σ H2 x y v ov iv u _ I2 r1 r2 r q2) fun _ s3⟨H3,I3,q3⟩=>?_))));exact wpAny_release ⟨σ,H3,I3,q3⟩
def Ia(te:TE)(g:TG):TS:=fun D σ H=>te σ H fun x H1=>g x σ H1 D.nx
theorem oz{tg e:Uo}{te:TE}{g:TG}(he:PE X e te)(hg:PG X tg g)(hs:swapsWithSole [tg] e pos.line X.env=pure false:=by rfl)(hw:swappedStores [tg] e X.env=pure none:=by rfl)(h1:(assignEach [tg] X.env).map (·.2)=[assign tg X.env]:=by rfl):PS X (.Assign [tg] e pos) (Ia te g):=by intro pins s σ H D I h;refine wpAny_Assign_stores (aD (he pins s σ H _ I h) fun v s1⟨x,H1,I1,r1,q1⟩=>?_) hs hw;rw[h1];exact aD (hg pins s1 σ H1 x v _ I1 r1 q1) fun _ s2 q=>q
theorem aA{i:Nat}{x:Str}{e:Uo}{te:TE}{pos':Pos}(hN:X.N.Nodup)(hi:X.N[i]?=some x)(hx:Loc X.env.scope x)(he:PE X e te)(hs:swapsWith e (some (.Name x pos')) pos.line X.env=pure false:=by rfl)(hf:X.fn x=true\/X.env.scope.names.lookup x=some .local:=by first|exact .inl rfl|exact .inr rfl|assumption):PS X (.Assign [.Name x pos'] e pos) (Ia te (Bo i)):=by intro pins s σ H D I h;refine wpAny_Assign_Name (aD (he pins s σ H _ I h) fun v s1⟨y,H1,I1,r1,q1⟩=>?_) hs;exact jI I1 hN hi hx r1 (fun s2 I2=>⟨_,H1,I2,q1⟩) hf
def Q6(i:Nat)(te:TE)(ti:CQ):TS:=fun D σ H=>∃x,σ[i]?=some (some x)/\te σ H fun y H1=>ti x y H1 fun z H2=>D.nx (σ.set i (some z)) H2
theorem fH{i:Nat}{x:Str}{e:Uo}{te:TE}{op:Operator}{ti:CQ}{pos':Pos}(hN:X.N.Nodup)(hi:X.N[i]?=some x)(hx:Loc X.env.scope x)(he:PE X e te)(ho:Li X op ti)(hf:X.fn x=true\/X.env.scope.names.lookup x=some .local:=by first|exact .inl rfl|exact .inr rfl|assumption):PS X (.AugAssign (.Name x pos') op e pos) (Q6 i te ti):=by
 intro pins s σ H D I h;obtain⟨v,e1,h⟩:=h;obtain⟨m,hn,hl⟩:=I.loc;have vis:mG X.env.scope x:=by rcases hx with k|k;exact .inl k;exact .inr (.inl k)
 obtain⟨u,r,l⟩:=hl i x v hi e1 vis;refine wpAny_AugAssign_Name ?_;have go:wpAny (model X.prog X.w) X.A (eval e X.env) (fun w s₂=>wpAny (model X.prog X.w) X.A (inplaceOp op u w) (fun r s₃=>wpAny (model X.prog X.w) X.A (storeName X.env x r) (fun _=>SP X pins D .next) X.xe s₃) X.xe s₂) X.xe s:=by refine aD (he pins s σ H _ I h) fun w s1⟨y,H1,I1,r1,q1⟩=>?_;refine aD (ho pins s1 σ H1 v y u w _ I1 r r1 q1) fun z s2⟨zv,H2,I2,r2,q2⟩=>?_;exact jI I2 hN hi hx r2 (fun s3 I3=>⟨_,H2,I3,q2⟩) hf
 rcases l with⟨hk,hm⟩| ⟨hk,c,hc,hcell⟩;·exact wpAny_loadName_local I.ok.kind hk hn hm go
 ·rcases hk with hk|hk
  ·exact wpAny_loadName_cell I.ok.kind hk hc hcell go
  ·rcases hx with k|k
   ·have:X.env.scope.names.lookup x=some .free:=hk
    rw[k]at this;cases this
   ·have:X.env.scope.names.lookup x=some .free:=hk
    rw[k]at this;cases this
def OS(f:Int->Int->Int):CQ:=fun x y H Q=>∃i j,x=.int i/\y=.int j/\Q (.int (f i j)) H
theorem ja:Li X .Add (OS fun i j=>i+j):=by intro pins s σ H x y v u Q I r1 r2 h;obtain⟨i,j,e1,e2,q⟩:=h;subst e1;subst e2;obtain⟨t,rfl⟩:=r1;obtain⟨t',rfl⟩:=r2;exact iadd_int ⟨.int _,H,I.tok _,⟨_,rfl⟩,q⟩
theorem xa:Li X .Sub (OS fun i j=>i-j):=by intro pins s σ H x y v u Q I r1 r2 h;obtain⟨i,j,e1,e2,q⟩:=h;subst e1;subst e2;obtain⟨t,rfl⟩:=r1;obtain⟨t',rfl⟩:=r2;exact isub_int ⟨.int _,H,I.tok _,⟨_,rfl⟩,q⟩
end
section
variable{X:Cx}{pos:Pos}
def LJ(c:TT)(tb:TS):TS:=fun D σ H=>∃W:Nat->St->Hp->Prop,(∃m,W m σ H)/\∀m σ H,W m σ H->c σ H fun b H1=>if b=true then∃N:St->Hp->Prop,(∀σ' H',N σ' H'->∃m',m'<m/\W m' σ' H')/\tb {D with nx:=N,ct:=N,bk:=D.nx} σ H1 else D.nx σ H1
theorem h8{c:Uo}{body:List T4}{tc:TT}{tb:TS}(hp:PassesOwn (model X.prog X.w) X.A X.env X.xe)(hc:PT X c tc)(hb:dq X body tb):PS X (.While c body [] pos) (LJ tc tb):=by intro pins s σ H D I h;obtain⟨W,⟨m0,w0⟩,turn⟩:=h;refine wpAny_While (codeAny_whileLoop (fun n s'=>∃σ' H',Inv X pins σ' H' s'/\W n σ' H') ?_ m0 ⟨σ,H,I,w0⟩);rintro n s1 ⟨σ1,H1,I1,w1⟩;refine U0 hp (aD (hc pins s1 σ1 H1 _ I1 (turn n σ1 H1 w1)) fun b s2⟨H2,I2,q2⟩=>?_);cases b with
 |true=> obtain⟨N,hN,q2⟩:=q2;rw[if_pos rfl];refine U0 hp (aD (hb pins s2 σ1 H2 _ I2 q2) fun f s3 q3=>?_);cases f with
  |next=> obtain⟨σ3,H3,I3,n3⟩:=q3;obtain⟨m',hm,w3⟩:=hN σ3 H3 n3;exact⟨m',hm,σ3,H3,I3,w3⟩
  |cont=> obtain⟨σ3,H3,I3,n3⟩:=q3;obtain⟨m',hm,w3⟩:=hN σ3 H3 n3;exact⟨m',hm,σ3,H3,I3,w3⟩
  |brk=>exact q3
  |ret v=>exact q3
 |false=> rw[if_neg SJ];exact Vp ⟨σ1,H2,I2,q2⟩
end
structure It where
 go:Nat->Hp->Prop
 yld:Nat->Hp->V->Hp->Prop
 stop:Nat->Hp->Prop
def fj(X:Cx)(pins:List (GM×Obj))(H:Hp)(b:GM):Prop:=H b=none/\b≠X.env.locals/\b∉X.fs/\(b∈X.ex\/X.s₀.heap.objs.size<=b)/\(∀x c,X.env.cells.lookup x=some c->c≠b)/\∀p∈X.pn++pins,p.1≠b
theorem Inv.fpOk{X:Cx}{pins:List (GM×Obj)}{σ:St}{H H':Hp}{s:FB}{b:GM}(I:Inv X pins σ H s)(hb:s.heap.objs.size<=b)(hn:H' b=none):fj X pins H' b:=by
 refine⟨hn,UU (SN I.lt hb),I.nofs hb,.inr (Tt I.sz hb),fun x c e z=>?_,fun p hp z=>?_⟩
 ·obtain⟨v,q⟩:=I.cell x c e
  exact absurd (SN q.lt (by rw[z];exact hb)) (Tz _)
 ·exact absurd (SN (GE (I.pin p hp).1) (by rw[z];exact hb)) (Tz _)
structure Turn(P:SK)(w:Tc)(K:SL)(tg:Uo)(J:It)(fp:List GM)(it:GM)(tn:Nat->Ux->Prop):Prop where
 mem:it∈fp
 obj:∀i h,tn i h->∀b∈fp,∃o,h.get? b=some o/\∀v,o.data≠.cell v
 keep:∀i h h',tn i h->(∀b∈fp,∀o,h.get? b=some o->h'.get? b=some o)->tn i h'
 item:∀(X:Cx),X.prog=P->X.w=w->X.K=K->X.calm=true->∀(i:Nat)(pins:List (GM×Obj))(s:FB)(σ:St)(H:Hp)(E:Do->FB->Prop),Inv X pins σ H s->(∀b∈fp,fj X pins H b)->tn i s.heap->J.go i H->wpAny (model P w) X.A (pyNext (.ref it)) (fun r s1=>∃u,r=some u/\wpAny (model P w) X.A (letOwnedTupleGo tg (.ref it) u) (fun _ s2=>∃x H',Inv X pins σ H' s2/\RelV x u/\J.yld i H x H'/\tn (i+1) s2.heap/\∀b∈fp,H' b=none) E s1) E s
 done:∀(X:Cx),X.prog=P->X.w=w->X.K=K->X.calm=true->∀(i:Nat)(pins:List (GM×Obj))(s:FB)(σ:St)(H:Hp)(E:Do->FB->Prop),Inv X pins σ H s->(∀b∈fp,fj X pins H b)->tn i s.heap->J.stop i H->wpAny (model P w) X.A (pyNext (.ref it)) (fun r s1=>r=none/\Inv X pins σ H s1) E s
 self:∀(A:Tf)(i:Nat)(s:FB)(Q:Do->FB->Prop)(E:Do->FB->Prop),tn i s.heap->Q (.ref it) s->wpAny (model P w) A (pyIter (.ref it)) Q E s
abbrev TI:=St->Hp->(It->Hp->Prop)->Prop
def BX(X:Cx)(pins:List (GM×Obj))(σ:St)(tg:Uo)(R:It->Hp->Prop)(itv:Do)(s2:FB):Prop:=∃(it:GM)(fp:List GM)(tn:Nat->Ux->Prop)(J:It)(H':Hp),itv=.ref it/\Inv X pins σ H' s2/\Turn X.prog X.w X.K tg J fp it tn/\tn 0 s2.heap/\(∀b∈fp,fj X pins H' b)/\R J H'
def PI(X:Cx)(tg iter:Uo)(wi:TI):Prop:=∀(pins:List (GM×Obj))(s:FB)(σ:St)(H:Hp)(R:It->Hp->Prop),Inv X pins σ H s->wi σ H R->wpAny (model X.prog X.w) X.A (eval iter X.env) (fun v s1=>wpAny (model X.prog X.w) X.A (pyIter v) (BX X pins σ tg R) X.xe s1) X.xe s
theorem nK{M:Model}{A:Tf}{E:Do->FB->Prop}{s:FB}{tg:Uo}{it:GM}{u:Do}{o:Obj}{n:String}{vs:Array Do}{Q:Unit->FB->Prop}(ho:s.heap.get? it=some o)(hc:o.cls=.type n)(hd:o.data=.fields vs)(hn:["enumerate","zip","dict_itemiterator","dict_reverseitemiterator","odict_iterator","itertools.zip_longest","itertools.pairwise"].contains n=false)(hQ:Q () s):wpAny M A (letOwnedTupleGo tg (.ref it) u) Q E s:=by unfold letOwnedTupleGo;cases tg<;>first
  |exact Gc hQ
  | (cases u<;>first
    |exact Gc hQ
    | (refine tz (wpAny_load ho ?_)
       rw[hc,hd];show wpAny M A (if(["enumerate","zip","dict_itemiterator","dict_reverseitemiterator","odict_iterator","itertools.zip_longest","itertools.pairwise"].contains n&&vs[0]?==some (rawInt _))=true then _ else _) Q E s;rw[if_neg (by intro h;rw[hn,Ud]at h;cases h)];exact Gc hQ))
noncomputable def my(K:SL)(a:GM):It:= ⟨fun i H=>∃xs x,ao K H a xs/\xs[i]?=some x,fun i H x H'=>H'=H/\∀xs,ao K H a xs->xs[i]?=some x,fun i H=>∃xs,ao K H a xs/\xs.length<=i⟩
noncomputable def lH(lo:Int)(n:Nat):It:=⟨fun i _=>i<n,fun i H x H'=>H'=H/\x=.int (lo+i),fun i _=>n<=i⟩
theorem wy{P:SK}{w:Tc}{K:SL}{tg:Uo}(a it:GM):Turn P w K tg (my K a) [it] it (fun i h=>h.IsListIter it a i)where
 mem:=by simp
 obj:=fun i h st b hb=>by
  have e:b=it:=by simpa using hb
  subst e;obtain⟨o,e,c,d⟩:=st;exact⟨o,e,fun v z=>by rw[d]at z;cases z⟩
 keep:=fun i h h' st k=>st.at fun o e=>k it (by simp) o e;item:=by intro X hP hw hK hc i pins s σ H E I hf st hg;subst hP hw hK;obtain⟨xs,x,hq,hx⟩:=hg;obtain⟨its,rv,p,hz⟩:=I.list hq;obtain⟨u,hu,ru⟩:=rv.get hx;obtain⟨f0,f1,f2,f3,f4,f5⟩:=hf it (by simp);refine wpAny_pyNext_list_item st p.isList (x:=u) (by simpa using hu) fun h' st' sb=>?_;have I1:Inv X pins σ H {s with heap:=h'}:=I.turned (t':=s.toks) (fun b o hb e=>(sb.2 b hb).trans e) f0 f1 f3 f4 f5;obtain⟨o,e,c,d⟩:=id st';exact⟨u,rfl,nK (s:={s with heap:=h'}) e c d (by decide) ⟨x,H,I1,ru,⟨rfl,fun ys hy=>by rw[I.list_inj hy hq];exact hx⟩,st',fun b hb=>(hf b hb).1⟩⟩
 done:=by intro X hP hw hK hc i pins s σ H E I hf st hg;subst hP hw hK;obtain⟨xs,hq,hx⟩:=hg;obtain⟨its,rv,p,hz⟩:=I.list hq;obtain⟨f0,f1,f2,f3,f4,f5⟩:=hf it (by simp);have hl:=rv.length;exact wpAny_pyNext_list_end (I.ok.hd hc) st p.isList (by simp;lia) fun h' eb=>⟨rfl,I.turned (t':=s.toks) (fun b o hb e=>eb b o hb e) f0 f1 f3 f4 f5⟩
 self:=fun _ _ _ _ _ st h=>wpAny_pyIter_listiter st h
theorem sF{P:SK}{w:Tc}{K:SL}{tg:Uo}(it:GM)(lo:Int)(n:Nat):Turn P w K tg (lH lo n) [it] it (fun i h=>XT h it (lo+(i:Nat)*1) ((n:Int)- (i:Nat)) 1)where
 mem:=by simp
 obj:=fun i h st b hb=>by
  have e:b=it:=by simpa using hb
  subst e;exact⟨_,st,fun v z=>by have z':XU _=Xy v:=z;cases z'⟩
 keep:=fun i h h' st k=>k it (by simp) _ st;item:=by intro X hP hw hK hc i pins s σ H E I hf st hg;subst hP hw hK;obtain⟨f0,f1,f2,f3,f4,f5⟩:=hf it (by simp);have W:=Walks.range (prog:=X.prog) (w:=X.w) (I.ok.hd hc) it lo 1 n;refine W.item i s _ _ hg st fun v h' tk hv st' kk=>?_;obtain⟨t,rfl⟩:=hv;have I1:Inv X pins σ H {s with heap:=h',toks:=tk}:=I.turned (fun b o hb e=>kk b o (by simpa using hb) e) f0 f1 f3 f4 f5;refine⟨_,rfl,nK (s:={s with heap:=h',toks:=tk}) (n:="range_iterator") st' rfl rfl (by decide) ⟨.int (lo+i),H,I1,⟨t,?_⟩,⟨rfl,rfl⟩,st',fun b hb=>(hf b hb).1⟩⟩;rw[Int.mul_one]
 done:=by intro X hP hw hK hc i pins s σ H E I hf st hg;subst hP hw hK;obtain⟨f0,f1,f2,f3,f4,f5⟩:=hf it (by simp);exact wpAny_pyNext_range_end (I.ok.hd hc) st (by have:n<=i:=hg;lia) fun h' eb=>⟨rfl,I.turned (t':=s.toks) (fun b o hb e=>eb b o hb e) f0 f1 f3 f4 f5⟩
 self:=fun _ _ _ _ _ st h=>wpAny_pyIter_rangeiter st h
section
variable{X:Cx}{tg:Uo}
def ND(K:SL)(tl:TE):TI:=fun σ H R=>tl σ H fun x H1=>∃a,x=.ref a/\(∃xs,ao K H1 a xs)/\R (my K a) H1
theorem a8{l:Uo}{tl:TE}(hl:PE X l tl):PI X tg l (ND X.K tl):=by
 intro pins s σ H R I h;refine aD (hl pins s σ H _ I h) fun v s1⟨x,H1,I1,r1,q1⟩=>?_;obtain⟨a,e,⟨xs,hq⟩,q⟩:=q1;subst e;cases r1;obtain⟨its,rv,p,hz⟩:=I1.list hq;refine W0 p.isList ?_;refine⟨s1.heap.objs.size,[s1.heap.objs.size],_,_,H1,rfl,I1.kept (t':=s1.toks) fun b o e=>Fk _ e,wy a _,⟨_,SB _ rfl,rfl,rfl⟩,fun b hb=>?_,q⟩;have e:b=s1.heap.objs.size:=by simpa using hb
 subst e;exact I1.fpOk (M2 _) (I1.hok.fresh (M2 _))
theorem pQ{pins:List (GM×Obj)}{σ:St}{H:Hp}{s:FB}{R:It->Hp->Prop}{E:Do->FB->Prop}{lo hi:Int}{t u v:Tok}{tk:Nat}(I:Inv X pins σ H s)(h1:-(2^62)<=lo)(h2:lo<2^62)(h3:-(2^62)<=hi)(h4:hi<2^62)(q:R (lH lo (hi-lo).toNat) H):wpAny (model X.prog X.w) X.A (pyIter (.ref s.heap.objs.size)) (BX X pins σ tg R) E {s with heap:=s.heap.push {cls:=.type "range",data:=.fields #[.int lo t,.int hi u,.int 1 v]},toks:=tk}:=by
 refine wpAny_pyIter_range (Yj ..) (small_one h1 h2 h3 h4) ?_;have I1:Inv X pins σ H {s with heap:=s.heap.push {cls:=.type "range",data:=.fields #[.int lo t,.int hi u,.int 1 v]},toks:=tk}:=I.kept fun b o e=>Fk _ e;refine⟨(s.heap.push {cls:=.type "range",data:=.fields #[.int lo t,.int hi u,.int 1 v]}).objs.size,[(s.heap.push {cls:=.type "range",data:=.fields #[.int lo t,.int hi u,.int 1 v]}).objs.size],_,_,H,rfl,I1.kept (t':=tk) fun b o e=>Fk _ e,sF _ lo (hi-lo).toNat,?_,fun b hb=>?_,q⟩
 ·have e1:lo+((0:Nat):Int)*1=lo:=by simp
  have e2:(((hi-lo).toNat:Nat):Int)- ((0:Nat):Int)=Builtin.Range.rangeSize lo hi 1:=by rw[rangeSize_one];split<;>lia
  show XT _ _ (lo+((0:Nat):Int)*1) ((((hi-lo).toNat:Nat):Int)- ((0:Nat):Int)) 1;rw[e1,e2];exact SB _ rfl
 ·have e:b=(s.heap.push {cls:=.type "range",data:=.fields #[.int lo t,.int hi u,.int 1 v]}).objs.size:=by simpa using hb
  subst e;exact I1.fpOk (M2 _) (I1.hok.fresh (M2 _))
def OE(ta:TA):TI:=fun σ H R=>ta σ H fun vs H1=>∃j:Int,vs=[.int j]/\-(2^62)<=j/\j<2^62/\R (lH 0 j.toNat) H1
def OF(ta:TA):TI:=fun σ H R=>ta σ H fun vs H1=>∃i j:Int,vs=[.int i,.int j]/\(-(2^62)<=i/\i<2^62/\-(2^62)<=j/\j<2^62)/\R (lH i (j-i).toNat) H1
theorem cn{a:Uo}{ta:TA}{p pos:Pos}(hg:Gl X "range")(hm:X.mg "range" =none)(ha:PA X [a] ta)(hs:starEach [a] X.env=[(false,eval a X.env)]:=by rfl):PI X tg (.Call (.Name "range" p) [a] [] pos) (OE ta):=by intro pins s σ H R I h;refine Call_ (bO I hg hm XJ (SU (aD (ha pos pins s σ H _ I h) fun us s1⟨vs,H1,I1,r1,q1⟩=>?_) hs rfl));obtain⟨j,e,q1,q2,q⟩:=q1;subst e;cases r1 with
 |cons r rr=>
  cases rr
  obtain⟨t,rfl⟩:=r;exact call_range_1 (pQ I1 (by lia) (by lia) q1 q2 (by simpa using q))
theorem vk{a b:Uo}{ta:TA}{p pos:Pos}(hg:Gl X "range")(hm:X.mg "range" =none)(ha:PA X [a,b] ta)(hs:starEach [a,b] X.env=[(false,eval a X.env),(false,eval b X.env)]:=by rfl)(hs2:starEach [b] X.env=[(false,eval b X.env)]:=by rfl):PI X tg (.Call (.Name "range" p) [a,b] [] pos) (OF ta):=by intro pins s σ H R I h;refine Call_ (bO I hg hm XJ (SU (aD (ha pos pins s σ H _ I h) fun us s1⟨vs,H1,I1,r1,q1⟩=>?_) (by rw[hs,hs2]) (by rw[hs2];rfl)));obtain⟨i,j,e,⟨q1,q2,q3,q4⟩,q⟩:=q1;subst e;cases r1 with
 |cons r rr=>cases rr with |cons r' rr=>
   cases rr
   obtain⟨t,rfl⟩:=r;obtain⟨t',rfl⟩:=r';exact call_range_2 (pQ I1 q1 q2 q3 q4 q)
def PV(wi:TI)(g:TG)(tb:TS):TS:=fun D σ H=>wi σ H fun J H1=>∃W:Nat->Nat->St->Hp->Prop,(∃m,W 0 m σ H1)/\∀i m σ H,W i m σ H-> (J.stop i H/\D.nx σ H)\/(J.go i H/\∃N:St->Hp->Prop,(∀σ' H',N σ' H'->∃m',m'<m/\W (i+1) m' σ' H')/\∀x H',J.yld i H x H'->g x σ H' fun σ2 H2=>tb {D with nx:=N,ct:=N,bk:=D.nx} σ2 H2)
noncomputable def iM(fp:List GM)(h:Ux):List (GM×Obj):=fp.filterMap fun b=>(h.get? b).map fun o=>(b,o)
theorem fo{fp:List GM}{h:Ux}{b:GM}{o:Obj}(hb:b∈fp)(e:h.get? b=some o):(b,o)∈iM fp h:=List.mem_filterMap.mpr ⟨b,hb,by rw[e];rfl⟩
theorem wH{fp:List GM}{h:Ux}{p:GM×Obj}(hp:p∈iM fp h):p.1∈fp/\h.get? p.1=some p.2:=by obtain⟨b,hb,e⟩:=List.mem_filterMap.mp hp;cases q:h.get? b with
 |none=>rw[q]at e;cases e
 |some o=> rw[q]at e;have e':(b,o)=p:=To e;subst e';exact⟨hb,q⟩
theorem Inv.pinned{pins:List (GM×Obj)}{σ:St}{H:Hp}{s:FB}{fp:List GM}(I:Inv X pins σ H s)(hf:∀b∈fp,fj X pins H b)(ho:∀b∈fp,∃o,s.heap.get? b=some o/\∀v,o.data≠.cell v):Inv X (pins++iM fp s.heap) σ H s:=I.pins_of fun p hp=>(Uj.mp hp).elim (fun z=>I.pin p (TC _ z)) fun z=>by obtain⟨hb,e⟩:=wH z;obtain⟨f0,f1,f2,_⟩:=hf p.1 hb;obtain⟨o,e',d⟩:=ho p.1 hb;rw[e]at e';cases e';exact⟨e,f0,f1,f2,d⟩
theorem Inv.unpinned{pins pl:List (GM×Obj)}{σ:St}{H:Hp}{s:FB}(I:Inv X (pins++pl) σ H s):Inv X pins σ H s:=I.pins_of fun p hp=>I.pin p (TC _ (VC _ hp))
theorem bH{iter:Uo}{body:List T4}{wi:TI}{g:TG}{tb:TS}{pos:Pos}(hp:PassesOwn (model X.prog X.w) X.A X.env X.xe)(hc:X.calm=true)(hi:PI X tg iter wi)(hg:PG X tg g)(hb:dq X body tb)(hs:∀x,foldedSetIterable iter X.env x=pure x:=by intro _;rfl):PS X (.For tg iter body [] pos) (PV wi g tb):=by
 intro pins s σ H D I h;refine wpAny_For (aD (hi pins s σ H _ I h) fun v s1 h1=>aD h1 fun itv s2 h2=>?_) hs;obtain⟨it,fp,tn,J,H2,e,I2,T,st2,f2,W,⟨m0,w0⟩,turn⟩:=h2;subst e;--what stays true of the iterator's objects through the loop
 have stat:∀{H':Hp},(∀b∈fp,H' b=none)->∀b∈fp,fj X pins H' b:=fun hn b hb=>⟨hn b hb,(f2 b hb).2⟩;refine codeAny_forLoop_any (fun n s'=>∃i σ' H',Inv X pins σ' H' s'/\tn i s'.heap/\(∀b∈fp,H' b=none)/\W i n σ' H') ?_ m0 ⟨0,σ,H2,I2,st2,fun b hb=>(f2 b hb).1,w0⟩;rintro n s3 ⟨i,σ3,H3,I3,st3,fr3,w3⟩;rcases turn i n σ3 H3 w3 with⟨stop,qn⟩| ⟨go,N,hN,step⟩
 ·refine U0 hp (aD (T.done X rfl rfl rfl hc i pins s3 σ3 H3 X.xe I3 (stat fr3) st3 stop) fun r s4⟨hr,I4⟩=>?_)
  subst hr;exact Vp ⟨σ3,H3,I4,qn⟩
 ·refine U0 hp (aD (T.item X rfl rfl rfl hc i pins s3 σ3 H3 X.xe I3 (stat fr3) st3 go) fun r s4⟨u,hr,h4⟩=>?_)
  subst hr;refine U0 hp (aD h4 fun _ s5⟨x,H5,I5,r5,y5,st5,fr5⟩=>?_);have I5':=I5.pinned (stat fr5) (T.obj _ _ st5);refine U0 hp (aD (hg _ s5 σ3 H5 x u _ I5' r5 (step x H5 y5)) fun _ s6⟨σ6,H6,I6,q6⟩=>?_);refine U0 hp (aD (hb _ s6 σ6 H6 _ I6 q6) fun f s7 q7=>?_);have again:∀{σ7:St}{H7:Hp},Inv X (pins++iM fp s5.heap) σ7 H7 s7->N σ7 H7->∃m,m<n/\∃i σ' H',Inv X pins σ' H' s7/\tn i s7.heap/\(∀b∈fp,H' b=none)/\W i m σ' H':=fun{σ7 H7}I7 n7=>by obtain⟨m',hm,w7⟩:=hN σ7 H7 n7;refine⟨m',hm,i+1,σ7,H7,I7.unpinned,T.keep _ _ _ st5 fun b hb o e=>(I7.pin (b,o) (TC _ (TC _ (fo hb e)))).1,fun b hb=>?_,w7⟩;obtain⟨o,e,d⟩:=T.obj _ _ st5 b hb;exact(I7.pin (b,o) (TC _ (TC _ (fo hb e)))).2.1
  cases f with
  |next=>obtain⟨σ7,H7,I7,n7⟩:=q7;exact again I7 n7
  |cont=>obtain⟨σ7,H7,I7,n7⟩:=q7;exact again I7 n7
  |brk=>obtain⟨σ7,H7,I7,q7⟩:=q7;exact⟨σ7,H7,I7.unpinned,q7⟩
  |ret v=>obtain⟨x7,σ7,H7,I7,r7,q7⟩:=q7;exact⟨x7,σ7,H7,I7.unpinned,r7,q7⟩
end
theorem dv{K:SL}{a:GM}{xs:List V}{g:TG}{tb:TS}{D:Ends}{σ:St}{H:Hp}(Pv:Nat->St->Hp->Prop)(h0:Pv 0 σ H)(hl:∀i σ H,i<=xs.length->Pv i σ H->ao K H a xs)(hs:∀i x σ H,xs[i]?=some x->Pv i σ H->g x σ H fun σ2 H2=>tb {D with nx:=Pv (i+1),ct:=Pv (i+1),bk:=D.nx} σ2 H2)(hd:∀σ H,Pv xs.length σ H->D.nx σ H): ∃W:Nat->Nat->St->Hp->Prop,(∃m,W 0 m σ H)/\∀i m σ H,W i m σ H-> ((my K a).stop i H/\D.nx σ H)\/((my K a).go i H/\∃N:St->Hp->Prop,(∀σ' H',N σ' H'->∃m',m'<m/\W (i+1) m' σ' H')/\∀x H',(my K a).yld i H x H'->g x σ H' fun σ2 H2=>tb {D with nx:=N,ct:=N,bk:=D.nx} σ2 H2):=by
 refine⟨fun i m σ H=>m=xs.length-i/\i<=xs.length/\Pv i σ H,⟨xs.length,by simp,KM _,h0⟩,?_⟩;rintro i m σ H ⟨rfl,hi,p⟩;have q:=hl i σ H hi p;by_cases hlt:i<xs.length
 ·refine .inr ⟨⟨xs,xs[i],q,by simp[hlt]⟩,Pv (i+1),fun σ' H' p'=>⟨xs.length- (i+1),by lia,rfl,hlt,p'⟩,fun x H' y=>?_⟩
  obtain⟨e,y⟩:=y;subst e;exact hs i x σ _ (y xs q) p
 ·have e:i=xs.length:=by lia
  subst e;exact .inl ⟨⟨xs,q,M2 _⟩,hd σ H p⟩
theorem dj{lo:Int}{n:Nat}{g:TG}{tb:TS}{D:Ends}{σ:St}{H:Hp}(Pv:Nat->St->Hp->Prop)(h0:Pv 0 σ H)(hs:∀i σ H,i<n->Pv i σ H->g (.int (lo+i)) σ H fun σ2 H2=>tb {D with nx:=Pv (i+1),ct:=Pv (i+1),bk:=D.nx} σ2 H2)(hd:∀σ H,Pv n σ H->D.nx σ H): ∃W:Nat->Nat->St->Hp->Prop,(∃m,W 0 m σ H)/\∀i m σ H,W i m σ H-> ((lH lo n).stop i H/\D.nx σ H)\/((lH lo n).go i H/\∃N:St->Hp->Prop,(∀σ' H',N σ' H'->∃m',m'<m/\W (i+1) m' σ' H')/\∀x H',(lH lo n).yld i H x H'->g x σ H' fun σ2 H2=>tb {D with nx:=N,ct:=N,bk:=D.nx} σ2 H2):=by
 refine⟨fun i m σ H=>m=n-i/\i<=n/\Pv i σ H,⟨n,by simp,KM _,h0⟩,?_⟩;rintro i m σ H ⟨rfl,hi,p⟩;by_cases hlt:i<n
 ·refine .inr ⟨hlt,Pv (i+1),fun σ' H' p'=>⟨n- (i+1),by lia,rfl,hlt,p'⟩,fun x H' y=>?_⟩
  obtain⟨e,y⟩:=y;subst e y;exact hs i σ _ hlt p
 ·have e:i=n:=by lia
  subst e;exact .inl ⟨M2 _,hd σ H p⟩
abbrev R2:=V->V->Hp->VK->Prop
def bX(X:Cx)(f:Do->Do->Sem Do)(r:R2):Prop:=∀(pins:List (GM×Obj))(s:FB)(σ:St)(H:Hp)(x y:V)(v u:Do)(Q:VK),Inv X pins σ H s->RelV x v->RelV y u->r x y H Q->wpAny (model X.prog X.w) X.A (f v u) (EP X pins σ Q) X.xe s
def Hz(X:Cx)(f:Do->Sem Do)(r:V->Hp->VK->Prop):Prop:=∀(pins:List (GM×Obj))(s:FB)(σ:St)(H:Hp)(x:V)(v:Do)(Q:VK),Inv X pins σ H s->RelV x v->r x H Q->wpAny (model X.prog X.w) X.A (f v) (EP X pins σ Q) X.xe s
def ck(X:Cx)(f:Do)(r:List V->Hp->VK->Prop):Prop:=∀(pins:List (GM×Obj))(s:FB)(σ:St)(H:Hp)(xs:List V)(us:List Do)(Q:VK),Inv X pins σ H s->Vals xs us->r xs H Q->wpAny (model X.prog X.w) X.A (call f us) (EP X pins σ Q) X.xe s
def DH(r:R2)(ta tb:TE):TE:=fun σ H Q=>ta σ H fun x H1=>tb σ H1 fun y H2=>r x y H2 Q
def R7(r:V->Hp->VK->Prop)(ta:TE):TE:=fun σ H Q=>ta σ H fun x H1=>r x H1 Q
def rI(C:Int->Int->Prop)(g:Int->Int->V):R2:=fun x y H Q=>∃i j,x=.int i/\y=.int j/\C i j/\Q (g i j) H
def nq(g:Int->Int->V):R2:=fun x y H Q=>∃i j,x=.int i/\y=.int j/\Q (g i j) H
def rU(g:Int->V):V->Hp->VK->Prop:=fun x H Q=>∃i,x=.int i/\Q (g i) H
section
variable{X:Cx}{a b c:Uo}{ta tb tc:TE}{pos:Pos}
theorem AB(ha:PE X a ta)(hb:PE X b tb){pins:List (GM×Obj)}{s:FB}{σ:St}{H:Hp}{R:V->V->Hp->Prop}(I:Inv X pins σ H s)(h:ta σ H fun x H1=>tb σ H1 fun y H2=>R x y H2){Q:Do->FB->Prop}{f:Do->Do->Sem Do}(hf:∀v u s2 x y H2,Inv X pins σ H2 s2->RelV x v->RelV y u->R x y H2->wpAny (model X.prog X.w) X.A (f v u) Q X.xe s2): wpAny (model X.prog X.w) X.A (eval a X.env) (fun v s₁=>wpAny (model X.prog X.w) X.A (eval b X.env) (fun u s₂=>wpAny (model X.prog X.w) X.A (f v u) Q X.xe s₂) X.xe s₁) X.xe s:=by refine aD (ha pins s σ H _ I h) fun v s1⟨x,H1,I1,r1,q1⟩=>?_;refine aD (hb pins s1 σ H1 _ I1 q1) fun u s2⟨y,H2,I2,r2,q2⟩=>?_;exact hf v u s2 x y H2 I2 r1 r2 q2
theorem au{op:Operator}{r:R2}(ho:bX X (binaryOp op) r)(ha:PE X a ta)(hb:PE X b tb):PE X (.BinOp a op b pos) (DH r ta tb):=by intro pins s σ H Q I h;exact wpAny_BinOp (AB ha hb I h fun v u s2 x y H2 I2 rx ry q=>ho pins s2 σ H2 x y v u Q I2 rx ry q)
theorem rW{op:UnaryOp}{r:V->Hp->VK->Prop}(ho:Hz X (unaryOp op) r)(ha:PE X a ta):PE X (.UnaryOp op a pos) (R7 r ta):=by intro pins s σ H Q I h;exact UnaryOp_ (aD (ha pins s σ H _ I h) fun v s1⟨x,H1,I1,r1,q1⟩=>ho pins s1 σ H1 x v Q I1 r1 q1)
theorem Ds{f:Do->Do->Sem Do}{C:Int->Int->Prop}{g:Int->Int->Int}(rule:∀(i j:Int)(t u:Tok)(s:FB)(Q:Do->FB->Prop)(E:Do->FB->Prop),C i j->Q (.int (g i j) s.toks) {s with toks:=s.toks+1}->wpAny (model X.prog X.w) X.A (f (.int i t) (.int j u)) Q E s): bX X f (rI C fun i j=>.int (g i j)):=by intro pins s σ H x y v u Q I rx ry h;obtain⟨i,j,rfl,rfl,hc,q⟩:=h;obtain⟨t,rfl⟩:=rx;obtain⟨t',rfl⟩:=ry;exact rule i j t t' s _ _ hc ⟨.int (g i j),H,I.tok _,⟨_,rfl⟩,q⟩
theorem Hf{f:Do->Do->Sem Do}{g:Int->Int->Int}(rule:∀(i j:Int)(t u:Tok)(s:FB)(Q:Do->FB->Prop)(E:Do->FB->Prop),Q (.int (g i j) s.toks) {s with toks:=s.toks+1}->wpAny (model X.prog X.w) X.A (f (.int i t) (.int j u)) Q E s): bX X f (nq fun i j=>.int (g i j)):=by intro pins s σ H x y v u Q I rx ry h;obtain⟨i,j,rfl,rfl,q⟩:=h;obtain⟨t,rfl⟩:=rx;obtain⟨t',rfl⟩:=ry;exact rule i j t t' s _ _ ⟨.int (g i j),H,I.tok _,⟨_,rfl⟩,q⟩
theorem tG{f:Do->Do->Sem Do}{g:Int->Int->Bool}(rule:∀(i j:Int)(t u:Tok)(s:FB)(Q:Do->FB->Prop)(E:Do->FB->Prop),Q (.bool (g i j)) s->wpAny (model X.prog X.w) X.A (f (.int i t) (.int j u)) Q E s): bX X f (nq fun i j=>.bl (g i j)):=by intro pins s σ H x y v u Q I rx ry h;obtain⟨i,j,rfl,rfl,q⟩:=h;obtain⟨t,rfl⟩:=rx;obtain⟨t',rfl⟩:=ry;exact rule i j t t' s _ _ ⟨.bl (g i j),H,I,rfl,q⟩
def Q7(i j:Int):Prop:=0<=j/\j<=1000000/\i.natAbs<2^64
def zE(i j:Int):Prop:=(-(2^64)<i/\i<2^64)\/(-(2^64)<j/\j<2^64)
theorem zE.ok{i j:Int}(h:zE i j):IntMulOk i j:=by
 rcases h with⟨h1,h2⟩| ⟨h1,h2⟩;·exact .of_left (intBits_le_64 h1 h2)
 ·exact .of_right (intBits_le_64 h1 h2)
theorem ba:bX X (binaryOp .Add) (nq fun i j=>.int (i+j)):=Hf fun _ _ _ _ _ _ _ q=>add_int q
theorem cz:bX X (binaryOp .Sub) (nq fun i j=>.int (i-j)):=Hf fun _ _ _ _ _ _ _ q=>sub_int q
theorem dG:bX X (binaryOp .Mult) (rI zE fun i j=>.int (i*j)):=Ds fun _ _ _ _ _ _ _ hc q=>mul_int q hc.ok
theorem bu:bX X (binaryOp .Mod) (rI (fun _ j=>0<j) fun i j=>.int (i%j)):=Ds fun i j _ _ _ _ _ hc q=>by have h1:(0:Int)<j:=hc;exact mod_int' (by lia) (by rw[Int.fmod_eq_emod_of_nonneg i (by lia)];exact q)
theorem Nt:bX X (binaryOp .Pow) (rI Q7 fun i j=>.int (i^j.toNat)):=Ds fun _ _ _ _ _ _ _ hc q=>pow_int_small hc.1 hc.2.1 hc.2.2 q
theorem R9{f:Do->Sem Do}{g:Int->Int}(rule:∀(i:Int)(t:Tok)(s:FB)(Q:Do->FB->Prop)(E:Do->FB->Prop),Q (.int (g i) s.toks) {s with toks:=s.toks+1}->wpAny (model X.prog X.w) X.A (f (.int i t)) Q E s): Hz X f (rU fun i=>.int (g i)):=by intro pins s σ H x v Q I rx h;obtain⟨i,rfl,q⟩:=h;obtain⟨t,rfl⟩:=rx;exact rule i t s _ _ ⟨.int (g i),H,I.tok _,⟨_,rfl⟩,q⟩
theorem pO:Hz X (unaryOp .USub) (rU fun i=>.int (-i)):=R9 fun _ _ _ _ _ q=>neg_int q
end
noncomputable def Mz:V->V->Bool
 |.non,.non=>true|.non,.int _=>true|.int _,.non=>true|.non,.bl _=>true|.bl _,.non=>true|.non,.str _=>true|.str _,.non=>true
 |.int _,.int _=>true|.bl _,.bl _=>true|.str _,.str _=>true|.byt _,.byt _=>true
 |.int _,.str _=>true|.str _,.int _=>true|.bl _,.str _=>true|.str _,.bl _=>true
 |_,_=>false
def OP:R2:=fun x y H Q=>Mz x y=true/\Q (.bl (decide (x=y))) H
def RO:R2:=fun x y H Q=>Mz x y=true/\Q (.bl (!decide (x=y))) H
theorem jn{i j:Int}:decide (V.int i=V.int j)=(i==j):=by rw[TH];simp
theorem wj{i j:Bool}:decide (V.bl i=V.bl j)=(i==j):=by rw[TH];simp
theorem qF{i j:Str}:decide (V.str i=V.str j)=(i==j):=by rw[TH];simp
theorem qr{i j:Array UInt8}:decide (V.byt i=V.byt j)=(i.toList==j.toList):=by
 rw[TH];cases i;cases j
 simp
section
variable{X:Cx}{a b c:Uo}{ta tb tc:TE}{pos:Pos}
theorem aY{pins:List (GM×Obj)}{σ:St}{H:Hp}{s:FB}{Q:VK}{k k':Bool}(I:Inv X pins σ H s)(q:Q (.bl k) H)(e:k=k'):EP X pins σ Q (.bool k') s:=by subst e;exact⟨.bl k,H,I,rfl,q⟩
theorem b6:bX X (compareOp .Eq) OP:=by intro pins s σ H x y v u Q I rx ry h;obtain⟨hs,q⟩:=h;cases x with
 |non=>
  cases rx
  cases y with
  |non=>cases ry;exact PySem.EqNone.eq_none_none (aY I q (by simp))
  |bl j=>cases ry;exact PySem.EqNone.eq_none_bool (aY I q (by simp))
  |int j=>obtain⟨t',rfl⟩:=ry;exact PySem.EqNone.eq_none_int (aY I q (by simp))
  |str j=>obtain⟨t',rfl⟩:=ry;exact PySem.EqNone.eq_none_str (aY I q (by simp))
  |_=>exact absurd (show false=true from hs) SJ
 |bl i=>
  cases rx
  cases y with
  |non=>cases ry;exact PySem.EqNone.eq_bool_none (aY I q (by simp))
  |bl j=>cases ry;exact eq_bool (aY I q wj)
  |str j=>obtain⟨t',rfl⟩:=ry;exact PySem.EqMixed.eq_bool_str (aY I q (by simp))
  |_=>exact absurd (show false=true from hs) SJ
 |int i=> obtain⟨t,rfl⟩:=rx;cases y with
  |non=>cases ry;exact PySem.EqNone.eq_int_none (aY I q (by simp))
  |int j=>obtain⟨t',rfl⟩:=ry;exact eq_int (aY I q jn)
  |str j=>obtain⟨t',rfl⟩:=ry;exact PySem.EqMixed.eq_int_str (aY I q (by simp))
  |_=>exact absurd (show false=true from hs) SJ
 |str i=> obtain⟨t,rfl⟩:=rx;cases y with
  |non=>cases ry;exact PySem.EqNone.eq_str_none (aY I q (by simp))
  |bl j=>cases ry;exact PySem.EqMixed.eq_str_bool (aY I q (by simp))
  |int j=>obtain⟨t',rfl⟩:=ry;exact PySem.EqMixed.eq_str_int (aY I q (by simp))
  |str j=>obtain⟨t',rfl⟩:=ry;exact eq_str (aY I q qF)
  |_=>exact absurd (show false=true from hs) SJ
 |byt i=> obtain⟨t,rfl⟩:=rx;cases y with
  |byt j=>obtain⟨t',rfl⟩:=ry;exact PySem.W.eq_bytes (aY I q qr)
  |_=>exact absurd (show false=true from hs) SJ
 |_=>cases y<;>exact absurd (show false=true from hs) SJ
theorem ji:bX X (compareOp .NotEq) RO:=by intro pins s σ H x y v u Q I rx ry h;obtain⟨hs,q⟩:=h;cases x with
 |non=>
  cases rx
  cases y with
  |non=>cases ry;exact PySem.EqNone.ne_none_none (aY I q (by simp))
  |bl j=>cases ry;exact PySem.EqNone.ne_none_bool (aY I q (by simp))
  |int j=>obtain⟨t',rfl⟩:=ry;exact PySem.EqNone.ne_none_int (aY I q (by simp))
  |str j=>obtain⟨t',rfl⟩:=ry;exact PySem.EqNone.ne_none_str (aY I q (by simp))
  |_=>exact absurd (show false=true from hs) SJ
 |bl i=>
  cases rx
  cases y with
  |non=>cases ry;exact PySem.EqNone.ne_bool_none (aY I q (by simp))
  |bl j=>cases ry;exact ne_bool (aY I q (congrArg not wj))
  |str j=>obtain⟨t',rfl⟩:=ry;exact PySem.EqMixed.ne_bool_str (aY I q (by simp))
  |_=>exact absurd (show false=true from hs) SJ
 |int i=> obtain⟨t,rfl⟩:=rx;cases y with
  |non=>cases ry;exact PySem.EqNone.ne_int_none (aY I q (by simp))
  |int j=>obtain⟨t',rfl⟩:=ry;exact ne_int (aY I q (congrArg not jn))
  |str j=>obtain⟨t',rfl⟩:=ry;exact PySem.EqMixed.ne_int_str (aY I q (by simp))
  |_=>exact absurd (show false=true from hs) SJ
 |str i=> obtain⟨t,rfl⟩:=rx;cases y with
  |non=>cases ry;exact PySem.EqNone.ne_str_none (aY I q (by simp))
  |bl j=>cases ry;exact PySem.EqMixed.ne_str_bool (aY I q (by simp))
  |int j=>obtain⟨t',rfl⟩:=ry;exact PySem.EqMixed.ne_str_int (aY I q (by simp))
  |str j=>obtain⟨t',rfl⟩:=ry;exact ne_str (aY I q (congrArg not qF))
  |_=>exact absurd (show false=true from hs) SJ
 |byt i=> obtain⟨t,rfl⟩:=rx;cases y with
  |byt j=>obtain⟨t',rfl⟩:=ry;exact PySem.W.ne_bytes (aY I q (congrArg not qr))
  |_=>exact absurd (show false=true from hs) SJ
 |_=>cases y<;>exact absurd (show false=true from hs) SJ
theorem dz:bX X (compareOp .Lt) (nq fun i j=>.bl (decide (i<j))):=tG fun _ _ _ _ _ _ _ q=>lt_int q
theorem gX:bX X (compareOp .LtE) (nq fun i j=>.bl (decide (i<=j))):=tG fun _ _ _ _ _ _ _ q=>le_int q
theorem je:bX X (compareOp .Gt) (nq fun i j=>.bl (decide (j<i))):=tG fun _ _ _ _ _ _ _ q=>gt_int q
theorem CB:bX X (compareOp .GtE) (nq fun i j=>.bl (decide (j<=i))):=tG fun _ _ _ _ _ _ _ q=>ge_int q
theorem aB(b:Uo){op:CmpOp}(h:op≠.In:=by decide)(h2:op≠.NotIn:=by decide):behindInMarks op b=false:=by
 have e1:(op==CmpOp.In)=false:=by cases op<;>first|rfl|exact absurd rfl h
 have e2:(op==CmpOp.NotIn)=false:=by cases op<;>first|rfl|exact absurd rfl h2
 cases b<;>simp[behindInMarks,e1,e2]
theorem cx{op:CmpOp}{r:R2}(ho:bX X (compareOp op) r)(ha:PE X a ta)(hb:PE X b tb)(hm:behindInMarks op b=false):PE X (.Compare a [op] [b] pos) (DH r ta tb):=by intro pins s σ H Q I h;exact wpAny_Compare1 (AB ha hb I h fun v u s2 x y H2 I2 rx ry q=>ho pins s2 σ H2 x y v u Q I2 rx ry q) hm
def DG(t:TE):TT:=fun σ H Q=>t σ H fun x H'=>∃k,x=.bl k/\Q k H'
theorem ay{op:CmpOp}{r:R2}(ho:bX X (compareOp op) r)(ha:PE X a ta)(hb:PE X b tb)(hm:behindInMarks op b=false):PT X (.Compare a [op] [b] pos) (DG (DH r ta tb)):=by
 intro pins s σ H Q I h;refine wpAny_isTrue_Compare1 (aD (ha pins s σ H _ I h) fun v s1⟨x,H1,I1,r1,q1⟩=>aD (hb pins s1 σ H1 _ I1 q1) fun u s2⟨y,H2,I2,r2,q2⟩=>aD (ho pins s2 σ H2 x y v u _ I2 r1 r2 q2) fun c s3⟨z,H3,I3,r3,k,e,q3⟩=>?_) hm;subst e;cases r3;exact TQ ⟨H3,I3,q3⟩
def Mm(r r':R2)(ta tb tc:TE):TE:=fun σ H Q=>ta σ H fun x H1=>tb σ H1 fun y H2=>r x y H2 fun z H3=>∃k,z=.bl k/\ (if k=true then tc σ H3 fun w' H4=>r' y w' H4 Q else Q (.bl false) H3)
theorem j5{op op':CmpOp}{r r':R2}(ho:bX X (compareOp op) r)(ho':bX X (compareOp op') r')(ha:PE X a ta)(hb:PE X b tb)(hc:PE X c tc)(hm:lastMarks [op,op'] [b,c]=false:=by with_unfolding_all rfl):PE X (.Compare a [op,op'] [b,c] pos) (Mm r r' ta tb tc):=by
 intro pins s σ H Q I h;refine Compare_chain (aD (ha pins s σ H _ I h) fun v s1⟨x,H1,I1,r1,q1⟩=>chain_link (aD (hb pins s1 σ H1 _ I1 q1) fun u s2⟨y,H2,I2,r2,q2⟩=>aD (ho pins s2 σ H2 x y v u _ I2 r1 r2 q2) fun d s3⟨z,H3,I3,r3,k,e,q3⟩=>?_)) hm;subst e;cases r3;refine TQ ?_;cases k with
 |false=>exact ite_ff ⟨.bl false,H3,I3,rfl,q3⟩
 |true=>exact ite_tt (chain_last (aD (hc pins s3 σ H3 _ I3 q3) fun w' s4⟨z',H4,I4,r4,q4⟩=>ho' pins s4 σ H4 y z' u w' Q I4 r2 r4 q4))
theorem gI:(sizeLine:Nat)<2^63:=by rw[TM];decide
theorem cm:bX X (binaryOp .Add) (fun x y H Q=>∃i j,x=.str i/\y=.str j/\i.length+j.length<=sizeLine/\Q (.str (i++j)) H):=by intro pins s σ H x y v u Q I rx ry h;obtain⟨i,j,rfl,rfl,hz,q⟩:=h;obtain⟨t,rfl⟩:=rx;obtain⟨t',rfl⟩:=ry;exact add_str (fun t' tk=>⟨.str (i++j),H,I.tok _,⟨_,rfl⟩,q⟩) hz
theorem vals1{x:V}{us:List Do}(r:Vals [x] us):∃u,us=[u]/\RelV x u:=by cases r with |cons r1 r2=>cases r2;exact⟨_,rfl,r1⟩
theorem vals2{x y:V}{us:List Do}(r:Vals [x,y] us):∃u w',us=[u,w']/\RelV x u/\RelV y w':=by cases r with |cons r1 r2=>cases r2 with |cons r3 r4=>cases r4;exact⟨_,_,rfl,r1,r3⟩
theorem mL(hc:X.calm=true):ck X (.builtin "max") (fun xs H Q=>∃i j,xs=[.int i,.int j]/\Q (.int (if j>i then j else i)) H):=by
 intro pins s σ H xs us Q I r h;obtain⟨i,j,rfl,q⟩:=h;obtain⟨u,w',rfl,⟨t,rfl⟩,⟨t',rfl⟩⟩:=vals2 r;refine max_two_ints (I.ok.hd hc) fun h' tk k=>⟨_,H,I.kept k,?_,q⟩;by_cases hj:j>i;·rw[if_pos hj,if_pos hj];exact⟨_,rfl⟩
 ·rw[if_neg hj,if_neg hj];exact⟨_,rfl⟩
theorem wo:ck X (.type "int") (fun xs H Q=>(∃i,xs=[.int i]/\Q (.int i) H)\/∃k,xs=[.bl k]/\Q (.int (if k then 1 else 0)) H):=by
 intro pins s σ H xs us Q I r h;rcases h with⟨i,rfl,q⟩| ⟨k,rfl,q⟩
 ·obtain⟨u,rfl,t,rfl⟩:=vals1 r
  exact call_int_int ⟨.int i,H,I,⟨_,rfl⟩,q⟩
 ·obtain⟨u,rfl,r1⟩:=vals1 r
  cases r1
  exact call_int_bool ⟨.int (if k then 1 else 0),H,I.tok _,⟨_,rfl⟩,q⟩
end
structure jL(h:Ux)(x dx C:GM)(mA:Str->Option Do):Prop where
 obj:h.get? x=some (UN C dx)
 ns:h.Ns1 dx mA
 ne:dx≠x
theorem mS{h:Ux}{dx:GM}{mA:Str->Option Do}(n:h.Ns1 dx mA):∃od,h.get? dx=some od/\∀name,WQ name od=some (mA name):=by
 obtain⟨o,es,ep,ho,hd,hk,_,hm⟩:=n;refine⟨o,ho,fun name=>?_⟩;have e:=hm name;unfold nsFind findBy at e;rw[<-Array.find?_toList]at e;unfold WQ;rw[hd];dsimp only;split
 ·rename_i y q
  rw[q]at e;exact congrArg some e
 ·rename_i q
  rw[q]at e;have a:es.toList.any (·.refKey)=false:=by rw[V7];intro y hy;obtain⟨z,t,hkey⟩:=hk y (Wr.mp hy);simp[DictEntry.refKey,hkey]
  have a':¬es.toList.any (·.refKey)=true:=by rw[a];exact SJ
  rw[if_neg a'];exact congrArg some e
theorem jL.look{h:Ux}{x dx C:GM}{mA:Str->Option Do}(I:jL h x dx C mA):∃od,PySem.W.InstAt h x (UN C dx) C (some od)/\∀name,WQ name od=some (mA name):=let⟨od,ho,hl⟩:=mS I.ns;⟨od,⟨I.obj,rfl,rfl,ho⟩,hl⟩
section
variable{prog:SK}{w:Tc}{A:Tf}{E:Do->FB->Prop}{s:FB}{K:SL}{x dx C f:GM}{mA:Str->Option Do}{name:Str}{v:Do}
theorem get_map{expr:Bool}{Q:Do->FB->Prop}(X:K.In s.heap)(I:jL s.heap x dx C mA)(hg:Wn K C name=true)(hh:W1 K C=true)(ha:Uz K (.ref C) name=some none)(hv:mA name=some v)(hv':PySem.W.handedIn v=true)(h:Q v {s with toks:=s.toks+1}): wpAny (model prog w) A (getAttr (.ref x) name expr) Q E s:=by obtain⟨od,J,hl⟩:=I.look;exact PySem.W.get_value X J (Wy hg).1 (PySem.W.findObj_own hh ha rfl (by rw[hl,hv])) hv' h
theorem A3{pl:Sem Bool}{Q:Do×List Do->FB->Prop}(X:K.In s.heap)(I:jL s.heap x dx C mA)(hg:Wn K C name=true)(hf:Uz K (.ref C) name=some (some (.ref f)))(ht:Yc K (.ref f)=true)(hv:mA name=none)(h:Q (.ref f,[.ref x]) s): wpAny (model prog w) A (getMethod (.ref x) name pl) Q E s:=by obtain⟨od,J,hl⟩:=I.look;exact PySem.W.method_fn X J (Wy hg).1 (Wy hg).2 hf (beq_iff_eq.mp ht) (by show(WQ name od).map (·.isSome)=some false;rw[hl,hv];rfl) h
theorem DT{ns:List Str}{Q:Unit->FB->Prop}(X:K.In s.heap)(I:jL s.heap x dx C mA)(hs:Uz K (.ref C) "__setattr__" =some (some (.builtin "object.__setattr__")))(hp:PySem.W.plainOver K C=true)(ht:Xz K C name=some none)(hh:W1 K C=true)(hw:Yb mA ns)(hsz:ns.length<=sizeLine)(h:∀h',jL h' x dx C (fun y=>if y=name then some v else mA y)->Vo dx s.heap h'->Q () {s with heap:=h',toks:=s.toks+2}): wpAny (model prog w) A (setAttr (.ref x) name v) Q E s:=by obtain⟨od,J,hl⟩:=I.look;refine PySem.W.set_plain X J hs (PySem.W.osa_open (s:={s with toks:=s.toks+1}) (r:=none) X J hp ht fun b=>?_);obtain⟨cd,hc,hd'⟩:=PySem.W.any_some hh;have hx:s.heap.get? x=some ⟨.ref C,some dx,.plain,#[]⟩:=I.obj;refine tz (Gc (tz (tz (wpAny_loadPart hx (tz (PySem.W.Looks.here (s:={s with toks:=s.toks+1}) (PySem.W.looks_clsIn X hc) ?_))))));rw[hd'];refine Gc (a:=some dx) (tz (Gc (tz ?_)));refine wpAny_nsSet1 (s:={s with toks:=s.toks+1}) I.ns fun h' hn2 hs2=>?_;obtain⟨oD,esD,epD,hoD,hdD,hcD⟩:=hn2.count (PySem.Within.cons name v hw);refine tz (wpAny_lookBehind hoD (by rw[hdD];exact pastItsLine_dict (Tt hcD (by rw[Tu];lia))) ?_);exact Gc (h _ ⟨(hs2.2 _ (T6 I.ne)).trans I.obj,hn2,I.ne⟩ hs2)
theorem A9{R:Yd->FB->Prop}{vs:List Do}{kw:List (Str×Do)}(X:K.In s.heap)(hm:PySem.W.makesIn K C=true)(hi:Uz K (.ref C) "__init__" =some (some (.ref f)))(hf:PySem.W.typeIn K (.ref f)=some (.type "function"))(h:codeAny (model prog w) (A.under (.builtin "type.__call__" ⟨.ref C::vs,kw⟩)) (.call (.ref f) ⟨.ref (s.heap.objs.size+1)::vs,kw⟩) (PySem.W.InitBack (s.heap.objs.size+1) R)
   {s with heap:=(s.heap.push Uq).push (UN C s.heap.objs.size)}):
  codeAny (model prog w) A (.call (.ref C) ⟨vs,kw⟩) R s:=by obtain⟨hh,g,d,t,os⟩:=s;exact PySem.W.make_core (PySem.W.makes_of X hm) (PySem.W.looks_findIn X hi) (fun self=>PySem.W.bind_fn X self hf) (.inl rfl) h
end
noncomputable def dg(f:Str)(v:V):List (Str×V)->List (Str×V)
 | []=>[(f,v)]
 | (g,x)::r=>if g=f then(g,v)::r else(g,x)::dg f v r
theorem cH(f g:Str)(v:V):∀fs:List (Str×V),(dg f v fs).lookup g=if g=f then some v else fs.lookup g
 | []=>by
  show Va g [(f,v)]=_;by_cases h:g=f
  ·have hb:(g==f)=true:=beq_iff_eq.mpr h
   simp only[Va,hb,if_pos h]
  ·have hb:(g==f)=false:=beq_eq_false_iff_ne.mpr h
   simp only[Va,hb,if_neg h]
 | (k,x)::r=>by
  have ih:=cH f g v r;rw[show dg f v ((k,x)::r)=(if k=f then(k,v)::r else(k,x)::dg f v r)from rfl];by_cases hk:k=f
  ·rw[if_pos hk]
   by_cases h:g=k
   ·have hb:(g==k)=true:=beq_iff_eq.mpr h
    simp only[Va,hb,if_pos (h.trans hk)]
   ·have hb:(g==k)=false:=beq_eq_false_iff_ne.mpr h
    simp only[Va,hb,if_neg (fun e:g=f=>h (e.trans hk.symm))]
  ·rw[if_neg hk]
   by_cases h:g=k
   ·have hb:(g==k)=true:=beq_iff_eq.mpr h
    simp only[Va,hb,if_neg (fun e:g=f=>hk (h.symm.trans e))]
   ·have hb:(g==k)=false:=beq_eq_false_iff_ne.mpr h
    simp only[Va,hb];exact ih
theorem iX(f:Str)(v:V):∀fs:List (Str×V),f∈(dg f v fs).map (·.1)/\∀g,g∈fs.map (·.1)->g∈(dg f v fs).map (·.1)
 | []=>⟨by simp[dg],fun g h=>by simp at h⟩
 | (k,x)::r=>by
  obtain⟨i1,i2⟩:=iX f v r;rw[show dg f v ((k,x)::r)=(if k=f then(k,v)::r else(k,x)::dg f v r)from rfl];by_cases hk:k=f
  ·rw[if_pos hk]
   subst hk;exact⟨by simp,fun g h=>by simpa using h⟩
  ·rw[if_neg hk]
   refine⟨?_,fun g h=>?_⟩
   ·rw[SQ]
    exact SH _ i1
   ·rw[SQ]at h|-
    rcases GT.mp h with e|e;·exact GT.mpr (.inl e)
    ·exact SH _ (i2 g e)
theorem jH(f:Str)(v:V):∀fs:List (Str×V),(dg f v fs).length<=fs.length+1
 | []=>by simp[dg]
 | (k,x)::r=>by
  have ih:=jH f v r;rw[show dg f v ((k,x)::r)=(if k=f then(k,v)::r else(k,x)::dg f v r)from rfl];by_cases hk:k=f;·rw[if_pos hk,Tu,Tu];lia
  ·rw[if_neg hk,Tu,Tu];lia
theorem df.some_of{v:V}{o:Option Do}(r:df (some v) o):∃u,o=some u/\RelV v u:=by cases o with
 |none=>exact(show False from r).elim
 |some u=>exact⟨u,rfl,r⟩
theorem df.none_of{o:Option Do}(r:df none o):o=none:=by cases o with
 |none=>rfl
 |some u=>exact(show False from r).elim
theorem m7{v:V}{u:Do}(r:RelV v u):PySem.W.handedIn u=true:=by cases v with
 |non=>cases(show u=TB from r);rfl
 |bl b=>cases(show u=WY b from r);rfl
 |int i=>obtain⟨t,e⟩:=(show∃t,u=Wx i t from r);cases e;rfl
 |str x=>obtain⟨t,e⟩:=(show∃t,u=Xw x t from r);cases e;rfl
 |byt b=>obtain⟨t,e⟩:=(show∃t,u=Value.bytes b t from r);cases e;rfl
 |flt b=>obtain⟨t,e⟩:=(show∃t,u=Value.float b t from r);cases e;rfl
 |ref a=>cases(show u=PP a from r);rfl
 |ty n=>cases(show u=Ut n from r);rfl
section
variable{P:SK}{w:Tc}{H H':Hp}{h h':Ux}{a C dx:GM}{fs fs':List (Str×V)}
theorem jr(hok:bW P w H h)(e:H a=some (.ins C dx fs)):∃mA,jL h a dx C mA/\(∀f,df (fs.lookup f) (mA f))/\Yb mA (fs.map (·.1))/\fs.length<=1000/\H dx=some (.own a):=by obtain⟨d,z,ne,ob,mA,n,r,q⟩:=(show aW P w H h a (.ins C dx fs)from hok a _ e);exact⟨mA,⟨ob,n,ne⟩,r,q,z,d⟩
end
structure Cls(K:SL)(C:GM):Prop where
 pg:Wn K C Str.empty=true
 hd:W1 K C=true
 po:PySem.W.plainOver K C=true
 sa:Uz K (.ref C) "__setattr__" =some (some (.builtin "object.__setattr__"))
theorem Cls.get{K:SL}{C:GM}(c:Cls K C)(f:Str):Wn K C f=true:=c.pg
def NoAttr(K:SL)(C:GM)(f:Str):Prop:=Uz K (.ref C) f=some none
theorem NoAttr.taker{K:SL}{C:GM}{f:Str}(n:NoAttr K C f):Xz K C f=some none:=by unfold Xz;rw[show Uz K (.ref C) f=some none from n];rfl
structure Meth(K:SL)(C:GM)(m:Str)(f:GM):Prop where
 at_:Uz K (.ref C) m=some (some (.ref f))
 fn:Yc K (.ref f)=true
 kp:WR K (.ref f)=true
section
variable{X:Cx}{pins:List (GM×Obj)}{σ:St}{H:Hp}{s:FB}{a C dx:GM}{fs:List (Str×V)}{f:Str}{v:V}{A:Tf}{E:Do->FB->Prop}
theorem rH{b:Bool}{Q:Do->FB->Prop}(I:Inv X pins σ H s)(e:H a=some (.ins C dx fs))(c:Cls X.K C)(n:NoAttr X.K C f)(l:fs.lookup f=some v)(h:∀u s',Inv X pins σ H s'->RelV v u->Q u s'):wpAny (model X.prog X.w) A (getAttr (.ref a) f b) Q E s:=by obtain⟨mA,O,r,_,_,_⟩:=jr I.hok e;obtain⟨u,hu,ru⟩:=df.some_of (v:=v) (o:=mA f) (by rw[<-l];exact r f);exact get_map I.kIn O (c.get f) c.hd n hu (m7 ru) (h u _ (I.tok _) ru)
theorem g4{m:Str}{g:GM}{pl:Sem Bool}{Q:Do×List Do->FB->Prop}(I:Inv X pins σ H s)(e:H a=some (.ins C dx fs))(c:Cls X.K C)(k:Meth X.K C m g)(l:fs.lookup m=none)(h:Q (.ref g,[.ref a]) s):wpAny (model X.prog X.w) A (getMethod (.ref a) m pl) Q E s:=by obtain⟨mA,O,r,_,_,_⟩:=jr I.hok e;have hn:mA m=none:=df.none_of (by rw[<-l];exact r m);exact A3 I.kIn O (c.get m) k.at_ k.fn hn h
theorem tL{y:V}{u:Do}{Q:Unit->FB->Prop}(I:Inv X pins σ H s)(e:H a=some (.ins C dx fs))(c:Cls X.K C)(n:NoAttr X.K C f)(hl:fs.length<1000)(ry:RelV y u)(h:∀s',Inv X pins σ (upd H a (.ins C dx (dg f y fs))) s'->Q () s'):wpAny (model X.prog X.w) A (setAttr (.ref a) f u) Q E s:=by
 obtain⟨mA,O,r,wi,_,ho⟩:=jr I.hok e;have hz:(fs.map (·.1)).length<=sizeLine:=by rw[FS,TM];lia
 refine DT I.kIn O c.sa c.po n.taker c.hd wi hz fun h' O' sb=>h _ ?_;have hd:∃o,h'.get? dx=some o:=let⟨o,_,_,e',_⟩:=O'.ns; ⟨o,e'⟩;refine I.write (x:=a) (e:=dx) (by rw[e];exact UT) (.inr ho) (fun b q hb z=>(sb.2 b hb).trans z) hd ?_;refine⟨by rw[aw O.ne];exact ho,?_,O.ne,O'.obj,_,O'.ns,fun g=>?_,fun g hg=>?_⟩;·have:=jH f y fs;lia
 ·show df ((dg f y fs).lookup g) (if g=f then some u else mA g)
  rw[cH];by_cases q:g=f;·rw[if_pos q,if_pos q];exact ry
  ·rw[if_neg q,if_neg q];exact r g
 ·by_cases q:g=f
  ·rw[q];exact(iX f y fs).1
  ·refine(iX f y fs).2 g (wi g fun z=>hg ?_)
   show(if g=f then some u else mA g)=none;rw[if_neg q];exact z
theorem Inv.made(I:Inv X pins σ H s):Inv X pins σ (upd (upd H s.heap.objs.size (.own (s.heap.objs.size+1))) (s.heap.objs.size+1) (.ins C s.heap.objs.size [])) {s with heap:=(s.heap.push Uq).push (UN C s.heap.objs.size)}:=by
 have e1:(s.heap.push Uq).get? s.heap.objs.size=some Uq:=SB s.heap rfl;have e2:((s.heap.push Uq).push (UN C s.heap.objs.size)).get? (s.heap.objs.size+1)=some (UN C s.heap.objs.size):=by have:=SB (s.heap.push Uq) (o:=UN C s.heap.objs.size) rfl;rwa[Uk]at this
 have e3:(s.heap.push Uq).Ns s.heap.objs.size (fun _=>none):=⟨Uq,#[],_,e1,rfl,(fun e he=>absurd he (by simp)),fun _=>rfl⟩;have I1:=I.laid (a:=s.heap.objs.size) (o:=.own (s.heap.objs.size+1)) (h':=s.heap.push Uq) (t':=s.toks) (fun b u q=>Fk _ q) (M2 _) ⟨_,e1⟩;refine I1.laid (a:=s.heap.objs.size+1) (o:=.ins C s.heap.objs.size []) (t':=s.toks) (fun b u q=>Fk _ q) (Nat.le_of_eq (Uk _ _)) ?_;have ne:s.heap.objs.size≠s.heap.objs.size+1:=SM (VH _);refine⟨by rw[aw ne,ag],KM _,ne,e2,fun _=>none,(X6 e3).at fun o q=>Fk _ q,fun _=>UT,fun y hy=>absurd rfl hy⟩
theorem qM{prog:SK}{w:Tc}{env:Env}{e:Uo}{f:Str}{pos:Pos}{s:FB}{Q:Do->FB->Prop}(hb:attributeBase e f env (eval e env)=eval e env)(h:wpAny (model prog w) A (eval e env) (fun o s₁=>wpAny (model prog w) A (getAttr o f true) Q E s₁) E s):wpAny (model prog w) A (eval (.Attribute e f pos) env) Q E s:= Attribute_any_ h (by rw[arm_eval_Attribute,hb])
end
def HX(K:SL)(ta:TE)(f:Str):TE:=fun σ H Q=>ta σ H fun x H1=>∃a C dx fs v,x=.ref a/\H1 a=some (.ins C dx fs)/\Cls K C/\NoAttr K C f/\fs.lookup f=some v/\Q v H1
def PM(K:SL)(ta tv:TE)(f:Str):TS:=fun D σ H=>tv σ H fun y H1=>ta σ H1 fun x H2=>∃a C dx fs,x=.ref a/\H2 a=some (.ins C dx fs)/\Cls K C/\NoAttr K C f/\fs.length<1000/\D.nx σ (upd H2 a (.ins C dx (dg f y fs)))
section
variable{X:Cx}{o e value:Uo}{f:Str}{pos pos' tpos:Pos}{ta tv:TE}
theorem eA(he:PE X e ta)(hb:attributeBase e f X.env (eval e X.env)=eval e X.env):PE X (.Attribute e f pos) (HX X.K ta f):=by intro pins s σ H Q I h;refine qM hb (aD (he pins s σ H _ I h) fun u s1 hZ=>?_);obtain⟨x,H1,I1,rx,a,C,dx,fs,v,ex,ea,c,n,l,q⟩:=hZ;subst ex;obtain rfl:u=PP a:=rx;exact rH I1 ea c n l fun u' s2 I2 ru=>⟨v,H1,I2,ru,q⟩
theorem xg(ha:PE X o ta)(hv:PE X value tv)(hs:swapsWith value (some (.Attribute o f pos')) pos.line X.env=pure false):PS X (.Assign [.Attribute o f pos'] value pos) (PM X.K ta tv f):=by intro pins s σ H D I h;refine V8 (aD (hv pins s σ H _ I h) fun u s1⟨y,H1,I1,ry,q⟩=>aD (ha pins s1 σ H1 _ I1 q) fun ov s2 hZ=>?_) hs;obtain⟨x,H2,I2,rx,a,C,dx,fs,ex,ea,c,n,l,q2⟩:=hZ;subst ex;obtain rfl:ov=PP a:=rx;exact tL I2 ea c n l ry fun s3 I3=>⟨σ,_,I3,q2⟩
end
section
variable{X:Cx}{pins:List (GM×Obj)}{σ:St}{H:Hp}{s:FB}{A:Tf}{E:Do->FB->Prop}{Q:Do->FB->Prop}{c:Do}{b:Bool}
inductive eh(K:SL)(H:Hp):V->Do->Prop where|non:eh K H .non (.type "NoneType") |bl (x:Bool):eh K H (.bl x) (.type "bool")
 |int (i:Int):eh K H (.int i) (.type "int")
 |str (x:Str):eh K H (.str x) (.type "str")
 |flt (x:UInt64):eh K H (.flt x) (.type "float")
 |lst {a:GM}{xs:List V} (e:H a=some (.lst xs)):eh K H (.ref a) (.type "list")
 |frz {a:GM}{o:Obj}{xs:List V} (e:H a=some (.frz o (.lst xs))):eh K H (.ref a) (.type "list")
 |tup {a:GM}{xs:List V} (e:H a=some (.tup xs)):eh K H (.ref a) (.type "tuple")
 |dK {a:GM}{kvs:List (Key×V)} (e:H a=some (.dK kvs)):eh K H (.ref a) (.type "dict")
 |dT {a:GM}{kvs:List (List Key×V)} (e:H a=some (.dT kvs)):eh K H (.ref a) (.type "dict")
 |ins {a C dx:GM}{fs:List (Str×V)} (e:H a=some (.ins C dx fs)) (cl:Cls K C) (ha:Uz K (.ref C) "__class__" =some (some (.builtin "object.__class__"))) (hn:PySem.W.specialIn K (.builtin "object.__class__") "__get__" =some (some (.builtin "getset_descriptor.__get__"))) (htk:PySem.W.takesIn K (.builtin "object.__class__")=some true) (hm:PySem.W.mroIn K C (.type "object")=some true):eh K H (.ref a) (.ref C)
theorem w8{x:V}{u t:Do}(I:Inv X pins σ H s)(rx:RelV x u)(ty:eh X.K H x t)(e:PySem.W.kitOne X.K t c=some b)(h:∀tk,Q (.bool b) {s with toks:=tk}):wpAny (model X.prog X.w) A (call (.builtin "isinstance") [u,c]) Q E s:=by cases ty with
 |non=>cases(show u=TB from rx);exact Ul PySem.W.kitx_none I.kIn UT e (fun z=>nomatch z) h
 |bl y=>cases(show u=WY y from rx);exact Ul PySem.W.kitx_bool I.kIn UT e (fun z=>nomatch z) h
 |int i=>obtain⟨t,q⟩:=(show∃t,u=Wx i t from rx);cases q;exact Ul PySem.W.kitx_int I.kIn UT e (fun z=>nomatch z) h
 |str y=>obtain⟨t,q⟩:=(show∃t,u=Xw y t from rx);cases q;exact Ul PySem.W.kitx_str I.kIn UT e (fun z=>nomatch z) h
 |flt y=>obtain⟨t,q⟩:=(show∃t,u=Value.float y t from rx);cases q;exact Ul PySem.W.kitx_float I.kIn UT e (fun z=>nomatch z) h
 |@lst a xs ea=>
  cases(show u=PP a from rx)
  obtain⟨_,_,n,_,h1⟩:=(show aW X.prog X.w H s.heap a (.lst xs)from I.hok a _ ea);exact Ul PySem.W.kitx_list I.kIn ⟨_,h1,rfl⟩ e (fun z=>nomatch z) h
 |@frz a ob xs ea=>
  cases(show u=PP a from rx)
  obtain⟨_,_,_,n,_,h1⟩:=(show aW X.prog X.w H s.heap a (.frz ob (.lst xs))from I.hok a _ ea);exact Ul PySem.W.kitx_list I.kIn ⟨_,h1,rfl⟩ e (fun z=>nomatch z) h
 |@tup a xs ea=>
  cases(show u=PP a from rx)
  obtain⟨_,_,_,p⟩:=(show aW X.prog X.w H s.heap a (.tup xs)from I.hok a _ ea);obtain⟨o,h1,h2,_⟩:=p;exact Ul PySem.W.kitx_tuple I.kIn ⟨o,h1,h2⟩ e (fun z=>nomatch z) h
 |@dK a kvs ea=>
  cases(show u=PP a from rx)
  obtain⟨_,_,vs,_,p⟩:=(show aW X.prog X.w H s.heap a (.dK kvs)from I.hok a _ ea);obtain⟨o,es,ep,h1,h2,_⟩:=p;exact Ul PySem.W.kitx_dict I.kIn ⟨o,h1,h2.1⟩ e (fun z=>nomatch z) h
 |@dT a kvs ea=>
  cases(show u=PP a from rx)
  obtain⟨_,_,xs,_,o,es,ep,h1,h2,_⟩:=(show aW X.prog X.w H s.heap a (.dT kvs)from I.hok a _ ea);exact Ul PySem.W.kitx_dict I.kIn ⟨o,h1,h2.1⟩ e (fun z=>nomatch z) h
 |@ins a C dx fs ea cl ha hn htk hm=>
  cases(show u=PP a from rx)
  obtain⟨mA,O,_⟩:=jr I.hok ea;obtain⟨od,J,_⟩:=O.look;exact Ul (PySem.W.kitx_own (cl.get _) cl.hd ha hn htk hm) I.kIn J e (fun z=>nomatch z) h
end
structure aU(k:Nat)(A:Tf):Prop where
 hd:A.handled=none
 dp:A.depth+3*k+5<recursionLimit
 un:A.units+16*k+200<cLine
theorem aU.mono{j k:Nat}{A:Tf}(r:aU k A)(h:j<=k):aU j A:=⟨r.hd,by have:=r.dp;lia,by have:=r.un;lia⟩
theorem aU.deeper{k:Nat}{A:Tf}(r:aU (k+1) A)(env:Env):aU k (A.deeper env):= ⟨r.hd,by have:=r.dp;show A.depth+1+3*k+5<_;lia,by have:=r.un;show A.units+3+16*k+200<_;lia⟩
theorem uk{A:Tf}{C:GM}{us:List Do}{kw:List (Str×Do)}:(A.under (.builtin "type.__call__" ⟨.ref C::us,kw⟩)).depth=A.depth+1:=by first|rfl|simp[Ye,Code.weight,Code.isCreation,Code.isGuard,Code.isCaller,Code.frames,Yg,guardIds]
theorem rG{A:Tf}{C:GM}{us:List Do}{kw:List (Str×Do)}:(A.under (.builtin "type.__call__" ⟨.ref C::us,kw⟩)).units=A.units+1:=by first|rfl|simp[Ye,Code.cUnits,Code.frames,Yg]
theorem aU.make{k:Nat}{A:Tf}(r:aU (k+1) A)(C:GM)(us:List Do)(kw:List (Str×Do)):aU k (A.under (.builtin "type.__call__" ⟨.ref C::us,kw⟩)):= ⟨r.hd,by have:=r.dp;rw[uk];lia,by have:=r.un;rw[rG];lia⟩
theorem aU.depth{k:Nat}{A:Tf}(r:aU k A):A.depth<recursionLimit:=by have:=r.dp;lia
theorem aU.units{k:Nat}{A:Tf}(r:aU k A):A.units+64<cLine:=by have:=r.un;lia
def fJ:TA:=fun _ H Q=>Q [] H
def nF(ta:TE)(tr:TA):TA:=fun σ H Q=>ta σ H fun x H1=>tr σ H1 fun xs H2=>Q (x::xs) H2
section
variable{X:Cx}{e:Uo}{es:List Uo}{te:TE}{t:TA}{pos:Pos}
theorem ae:PA X [] fJ:=fun _ _ _ _ H Q I h=>U1 ⟨[],H,I,.nil,h⟩
theorem aa(ha:PE X e te)(hr:PA X es t)(hs:starEach (e::es) X.env=(false,eval e X.env)::starEach es X.env:=by rfl):PA X (e::es) (nF te t):=by intro pos pins s σ H Q I h;rw[hs];show wpAny _ _ (spliced ((false,eval e X.env)::backTo pos (starEach es X.env))) _ _ s;refine UV (aD (ha pins s σ H _ I h) fun u s1⟨x,H1,I1,r1,q1⟩=>?_);exact aD (hr pos pins s1 σ H1 _ I1 q1) fun us s2⟨xs,H2,I2,r2,q2⟩=>⟨x::xs,H2,I2,.cons r1 r2,q2⟩
def QU(t:TA):TE:=fun σ H Q=>t σ H fun xs H1=>xs.length<=sizeLine/\∀p,H1 p=none->Q (.ref p) (upd H1 p (.tup xs))
def zy(t:TA):TE:=fun σ H Q=>t σ H fun xs H1=>xs.length<=sizeLine/\∀p,H1 p=none->Q (.ref p) (upd H1 p (.lst xs))
theorem cD{x1}(h:PA X es t):PE X (.Tuple es x1 pos) (QU t):=by intro pins s σ H Q I hq;refine wpAny_Tuple_spliced (aD (h pos pins s σ H _ I hq) fun us s1⟨xs,H1,I1,r,z,q⟩=>⟨by rw[<-r.length];exact z,?_⟩);have hf:H1 s1.heap.objs.size=none:=I1.hok.fresh (M2 _);refine⟨.ref s1.heap.objs.size,upd H1 s1.heap.objs.size (.tup xs),I1.laid (t':=s1.toks) (fun b u e=>Fk _ e) (M2 _) ?_,rfl,q _ hf⟩;exact⟨z,us,r,⟨_,SB _ rfl,rfl,_,rfl⟩⟩
theorem aK(h:PA X es t):PE X (.List es pos) (zy t):=by intro pins s σ H Q I hq;refine wpAny_List_spliced (aD (h pos pins s σ H _ I hq) fun us s1⟨xs,H1,I1,r,z,q⟩=>⟨by rw[<-r.length];exact z,?_⟩);have hf:H1 s1.heap.objs.size=none:=I1.hok.fresh (M2 _);refine⟨.ref s1.heap.objs.size,upd H1 s1.heap.objs.size (.lst xs),I1.laid (t':=s1.toks) (fun b u e=>Fk _ e) (M2 _) ?_,rfl,q _ hf⟩;exact⟨z,us,0,r,SB _ rfl⟩
end
abbrev Sp:=List V->Hp->VK->XK->Prop
abbrev gc:=List Env->Hp->FB->XK->Do->FB->Prop
structure jU(P:SK)(w:Tc)(K:SL)(mg:Str->Option Do)(base:Ux)(A:Tf)(outer:List Env)(s:FB)(H:Hp):Prop where
 frames:A.frames=some outer
 mod:Mod K mg base
 bs:∀b o,base.get? b=some o->s.heap.get? b=some o/\H b=none
 bsz:base.objs.size<=s.heap.objs.size
 funs:s.heap.FunFrames base outer
 frf:∀b∈bS outer,H b=none
 hok:bW P w H s.heap
 bare:Xd s.gens
def CE(outer:List Env)(P:SK)(w:Tc)(H:Hp)(s:FB)(Q:VK)(u:Do)(s':FB):Prop:=∃v H',s'.os=s.os/\Xd s'.gens/\Un (bS outer) [] H H' s.heap s'.heap/\bW P w H' s'.heap/\RelV v u/\Q v H'
noncomputable def CR(CX:gc)(outer:List Env)(P:SK)(w:Tc)(H:Hp)(s:FB)(Q:VK)(E:XK)(r:Yd)(s':FB):Prop:=match r with
 |.ok (.ret u)=>CE outer P w H s Q u s'
 |.ok _=>False
 |.error e=>CX outer H s E e s'
structure bz(P:SK)(w:Tc)(K:SL)(mg:Str->Option Do)(base:Ux)(CX:gc)(k:Nat)(f:GM)(fd:TK)(ps:List Str)(sp:Sp):Prop where
 len:∀vs H Q E,sp vs H Q E->vs.length=ps.length
 run:∀(A:Tf)(outer:List Env)(s:FB)(H:Hp)(args:Args)(us:List Do)(vs:List V)(Q:VK)(E:XK),aU k A->jU P w K mg base A outer s H->BindsTo s fd args (ps.zip us)->Vals vs us->sp vs H Q E->codeAny (model P w) A (.call (.ref f) args) (CR CX outer P w H s Q E) s
theorem bz.mono{P:SK}{w:Tc}{K:SL}{mg:Str->Option Do}{base:Ux}{CX:gc}{j k:Nat}{f:GM}{fd:TK}{ps:List Str}{sp:Sp}(F:bz P w K mg base CX j f fd ps sp)(h:j<=k):bz P w K mg base CX k f fd ps sp:=⟨F.len,fun A outer s H args us vs Q E hr=>F.run A outer s H args us vs Q E (hr.mono h)⟩
theorem bz.imp{P:SK}{w:Tc}{K:SL}{mg:Str->Option Do}{base:Ux}{CX:gc}{k:Nat}{f:GM}{fd:TK}{ps:List Str}{sp sp':Sp}(F:bz P w K mg base CX k f fd ps sp)(h:∀vs H Q E,sp' vs H Q E->sp vs H Q E):bz P w K mg base CX k f fd ps sp':= ⟨fun vs H Q E q=>F.len vs H Q E (h _ _ _ _ q),fun A outer s H args us vs Q E hr he hb hv hs=>F.run A outer s H args us vs Q E hr he hb hv (h _ _ _ _ hs)⟩
theorem jU.make{P:SK}{w:Tc}{K:SL}{mg:Str->Option Do}{base:Ux}{A:Tf}{outer:List Env}{s:FB}{H:Hp}(e:jU P w K mg base A outer s H)(C:GM)(us:List Do)(kw:List (Str×Do)):jU P w K mg base (A.under (.builtin "type.__call__" ⟨.ref C::us,kw⟩)) outer s H:=⟨by first|exact e.frames| (simpa[Ye,Code.envs,Yg,pushEnvs]using e.frames),e.mod,e.bs,e.bsz,e.funs,e.frf,e.hok,e.bare⟩
section
variable{X:Cx}{pins:List (GM×Obj)}{σ:St}{H:Hp}{s s':FB}
theorem Inv.env0(I:Inv X pins σ H s):jU X.prog X.w X.K X.mg X.base X.A X.stack s H:= ⟨I.ok.frames,I.ok.mod,I.bs,Tt I.ok.bsz I.sz,I.stack,I.stkFree,I.hok,I.bare⟩
theorem Inv.after{Q:VK}{u:Do}(I:Inv X pins σ H s)(h:CE X.stack X.prog X.w H s Q u s'):EP X pins σ Q u s':=by obtain⟨v,H',os,bare,un,hok,r,q⟩:=h;obtain⟨hh,g,d,t,os'⟩:=s';obtain rfl:os'=s.os:=os;exact⟨v,H',I.call (h':=hh) (g':=g) (d':=d) (t':=t) (ch:=[]) un hok bare (fun b z=>absurd z (by simp)),r,q⟩
end
def hW(sp:Sp)(dvs:List V)(E:XK)(t:TA):TE:=fun σ H Q=>t σ H fun vs H1=>sp (vs++dvs) H1 Q E
def jh(C:GM)(m:Str)(sp:Sp)(dvs:List V)(E:XK)(ta:TE)(t:TA):TE:=fun σ H Q=>ta σ H fun x H1=>∃a dx fs,x=.ref a/\H1 a=some (.ins C dx fs)/\fs.lookup m=none/\t σ H1 fun vs H2=>sp (x::(vs++dvs)) H2 Q E
def nL(C:GM)(sp:Sp)(dvs:List V)(E:XK)(t:TA):TE:=fun σ H Q=>t σ H fun vs H1=>∀x dx,H1 x=none->H1 dx=none->dx≠x->sp (.ref x::(vs++dvs)) (upd (upd H1 dx (.own x)) x (.ins C dx [])) (fun v H2=>v=.non/\Q (.ref x) H2) E
def Binds(K:SL)(fd:TK)(ps:List Str)(ds:List Do):Prop:=∀(s:FB)(us:List Do),K.In s.heap->(us++ds).length=ps.length->BindsTo s fd ⟨us,[]⟩ (ps.zip (us++ds))
theorem Binds.all{K:SL}{fd:TK}{ps:List Str}(h:∀us:List Do,us.length=ps.length->bindArgs fd ⟨us,[]⟩=pure (ps.zip us)):Binds K fd ps []:=fun s us _ hl=>by rw[T7]at hl|-;exact .of_eq (h us hl)
def Passes(CX:gc)(X:Cx)(E:XK):Prop:=∀(pins:List (GM×Obj))(σ:St)(H:Hp)(s:FB)(e:Do)(s':FB),Inv X pins σ H s->CX X.stack H s E e s'->X.xe e s'
section
variable{X:Cx}{CX:gc}{k:Nat}{f C:GM}{fd:TK}{ps:List Str}{sp:Sp}{dvs:List V}{ds:List Do}{E:XK}{x m:Str}{p pos apos:Pos}{e o:Uo}{es:List Uo}{ta:TE}{t:TA}
theorem gG{pins:List (GM×Obj)}{σ:St}{H:Hp}{s:FB}{Q:VK}{us:List Do}{vs:List V}(F:bz X.prog X.w X.K X.mg X.base CX k f fd ps sp)(hr:aU k X.A)(hb:Binds X.K fd ps ds)(hd:Vals dvs ds)(hx:Passes CX X E)(I:Inv X pins σ H s)(r:Vals vs us)(h:sp (vs++dvs) H Q E):wpAny (model X.prog X.w) X.A (call (.ref f) us) (EP X pins σ Q) X.xe s:=by
 have r2:Vals (vs++dvs) (us++ds):=r.append hd;have hl:(us++ds).length=ps.length:=by rw[<-r2.length];exact F.len _ _ _ _ h
 refine VO (U8 (F.run X.A X.stack s H ⟨us,[]⟩ (us++ds) (vs++dvs) Q E hr I.env0 (hb s us I.kIn hl) r2 h) fun r s' hq=>?_);cases r with
 |error e=>exact hx pins σ H s e s' I hq
 |ok fl=>cases fl with
  |ret u=>exact I.after hq
  |next=>exact Up hq
  |brk=>exact Up hq
  |cont=>exact Up hq
theorem qH(F:bz X.prog X.w X.K X.mg X.base CX k f fd ps sp)(hr:aU k X.A)(hg:Gl X x)(hm:X.mg x=some (.ref f))(hk:WR X.K (.ref f)=true)(hb:Binds X.K fd ps ds)(hd:Vals dvs ds)(hx:Passes CX X E)(ha:PA X (e::es) t)(hdb:(x== ("__debug__" :Str))=false:=by decide)(he:starEach (e::es) X.env=(false,eval e X.env)::starEach es X.env:=by rfl)(hpl:(backTo pos (starEach es X.env)).any (·.1)=false:=by rfl): PE X (.Call (.Name x p) (e::es) [] pos) (hW sp dvs E t):=by intro pins s σ H Q I h;refine Tv (cL I hg hm ?_ hdb);refine WL (h₀:=X.base) I.ok.mod.kin hk (aD (ha pos pins s σ H _ I h) fun us s1⟨vs,H1,I1,r,q⟩=>⟨I1.kIn,?_⟩) he hpl;exact gG F hr hb hd hx I1 r q
theorem xy(F:bz X.prog X.w X.K X.mg X.base CX k f fd ps sp)(hr:aU k X.A)(hg:Gl X x)(hm:X.mg x=some (.ref f))(hk:WR X.K (.ref f)=true)(hb:Binds X.K fd ps ds)(hd:Vals dvs ds)(hx:Passes CX X E)(hdb:(x== ("__debug__" :Str))=false:=by decide):PE X (.Call (.Name x p) [] [] pos) (hW sp dvs E fJ):=by intro pins s σ H Q I h;refine Tv (cL I hg hm ?_ hdb);exact Wz I.kIn hk (gG (us:=[]) F hr hb hd hx I .nil h)
theorem qU{pl:Sem Bool}(he:PE X o ta)(c:Cls X.K C)(hm:Meth X.K C m f)(F:bz X.prog X.w X.K X.mg X.base CX k f fd ps sp)(hr:aU k X.A)(hb:Binds X.K fd ps ds)(hd:Vals dvs ds)(hx:Passes CX X E)(ha:PA X (e::es) t)(hst:starEach (e::es) X.env=(false,eval e X.env)::starEach es X.env:=by rfl)(hpl:(backTo pos (starEach es X.env)).any (·.1)=false:=by rfl)(ht:eval (.Call (.Attribute o m apos) (e::es) [] pos) X.env=(do
   let ov<-eval o X.env
   standAt apos.atName let(f,first)<-holding [ov] (getMethod ov m pl)callWith pos f first (backTo pos (starEach (e::es) X.env)) (backToKw pos (keywordEach [] X.env))):=by rfl):
  PE X (.Call (.Attribute o m apos) (e::es) [] pos) (jh C m sp dvs E ta t):=by intro pins s σ H Q I h;refine Wg (pl:=pl) (aD (he pins s σ H _ I h) fun u s1 hZ=>?_) ht;obtain⟨x,H1,I1,rx,a,dx,fs,ex,ea,l,q⟩:=hZ;subst ex;obtain rfl:u=PP a:=rx;refine g4 I1 ea c hm l ?_;refine WL (first:=[.ref a]) (h₀:=X.base) I.ok.mod.kin hm.kp (aD (ha pos pins s1 σ H1 _ I1 q) fun us s2⟨vs,H2,I2,r,q2⟩=>⟨I2.kIn,?_⟩) hst hpl;exact gG (us:=.ref a::us) (vs:=.ref a::vs) F hr hb hd hx I2 (.cons rfl r) q2
theorem Ae{pl:Sem Bool}(he:PE X o ta)(c:Cls X.K C)(hm:Meth X.K C m f)(F:bz X.prog X.w X.K X.mg X.base CX k f fd ps sp)(hr:aU k X.A)(hb:Binds X.K fd ps ds)(hd:Vals dvs ds)(hx:Passes CX X E)(ht:eval (.Call (.Attribute o m apos) [] [] pos) X.env=(do
   let ov<-eval o X.env
   standAt apos.atName let(f,first)<-holding [ov] (getMethod ov m pl)callWith pos f first (backTo pos (starEach [] X.env)) (backToKw pos (keywordEach [] X.env))):=by rfl):
  PE X (.Call (.Attribute o m apos) [] [] pos) (jh C m sp dvs E ta fJ):=by intro pins s σ H Q I h;refine Wg (pl:=pl) (aD (he pins s σ H _ I h) fun u s1 hZ=>?_) ht;obtain⟨x,H1,I1,rx,a,dx,fs,ex,ea,l,q⟩:=hZ;subst ex;obtain rfl:u=PP a:=rx;refine g4 I1 ea c hm l ?_;exact Wz (first:=[.ref a]) I1.kIn hm.kp (gG (us:=[.ref a]) (vs:=[.ref a]) F hr hb hd hx I1 (.cons rfl .nil) q)
structure Mk(K:SL)(C f:GM):Prop where
 makes:PySem.W.makesIn K C=true
 init:Uz K (.ref C) "__init__" =some (some (.ref f))
 fn:Yc K (.ref f)=true
 kp:WR K (.ref C)=true
theorem oH{pins:List (GM×Obj)}{σ:St}{H:Hp}{s:FB}{Q:VK}{us:List Do}{vs:List V}(M:Mk X.K C f)(F:bz X.prog X.w X.K X.mg X.base CX k f fd ps sp)(hr:aU (k+1) X.A)(hb:Binds X.K fd ps ds)(hd:Vals dvs ds)(hx:Passes CX X E)(I:Inv X pins σ H s)(r:Vals vs us)(h:∀x dx,H x=none->H dx=none->dx≠x->sp (.ref x::(vs++dvs)) (upd (upd H dx (.own x)) x (.ins C dx [])) (fun v H2=>v=.non/\Q (.ref x) H2) E): wpAny (model X.prog X.w) X.A (call (.ref C) us) (EP X pins σ Q) X.xe s:=by
 have hq:=h (s.heap.objs.size+1) s.heap.objs.size (I.hok.fresh (UP _)) (I.hok.fresh (M2 _)) (SM (VH _));have I2:=Inv.made (C:=C) I;have r2:Vals (V.ref (s.heap.objs.size+1)::(vs++dvs)) (PP (s.heap.objs.size+1)::(us++ds)):=.cons rfl (r.append hd);have hl:(PP (s.heap.objs.size+1)::us++ds).length=ps.length:=by have e:=r2.length;rw[F.len _ _ _ _ hq]at e;exact e.symm
 refine VO (A9 (f:=f) I.kIn M.makes M.init (beq_iff_eq.mp M.fn) (U8 (F.run _ X.stack _ _ ⟨PP (s.heap.objs.size+1)::us,[]⟩ (PP (s.heap.objs.size+1)::(us++ds)) _ _ E (hr.make C us []) (I2.env0.make C us []) (hb _ (PP (s.heap.objs.size+1)::us) I2.kIn hl) r2 hq) fun r s' hq'=>?_));cases r with
 |error e=>exact hx pins σ _ _ e s' I2 hq'
 |ok fl=>cases fl with
  |ret u=> obtain⟨v,H',I3,rv,ev,q3⟩:=I2.after hq';subst ev;exact⟨rv,⟨V.ref (s.heap.objs.size+1),H',I3,rfl,q3⟩⟩
  |next=>exact Up hq'
  |brk=>exact Up hq'
  |cont=>exact Up hq'
theorem EG(M:Mk X.K C f)(F:bz X.prog X.w X.K X.mg X.base CX k f fd ps sp)(hr:aU (k+1) X.A)(hg:Gl X x)(hm:X.mg x=some (.ref C))(hb:Binds X.K fd ps ds)(hd:Vals dvs ds)(hx:Passes CX X E)(ha:PA X (e::es) t)(hdb:(x== ("__debug__" :Str))=false:=by decide)(he:starEach (e::es) X.env=(false,eval e X.env)::starEach es X.env:=by rfl)(hpl:(backTo pos (starEach es X.env)).any (·.1)=false:=by rfl): PE X (.Call (.Name x p) (e::es) [] pos) (nL C sp dvs E t):=by intro pins s σ H Q I h;refine Tv (cL I hg hm ?_ hdb);refine WL (h₀:=X.base) I.ok.mod.kin M.kp (aD (ha pos pins s σ H _ I h) fun us s1⟨vs,H1,I1,r,q⟩=>⟨I1.kIn,?_⟩) he hpl;exact oH M F hr hb hd hx I1 r q
theorem Bd(M:Mk X.K C f)(F:bz X.prog X.w X.K X.mg X.base CX k f fd ps sp)(hr:aU (k+1) X.A)(hg:Gl X x)(hm:X.mg x=some (.ref C))(hb:Binds X.K fd ps ds)(hd:Vals dvs ds)(hx:Passes CX X E)(hdb:(x== ("__debug__" :Str))=false:=by decide):PE X (.Call (.Name x p) [] [] pos) (nL C sp dvs E fJ):=by intro pins s σ H Q I h;refine Tv (cL I hg hm ?_ hdb);exact Wz I.kIn M.kp (oH (us:=[]) M F hr hb hd hx I .nil h)
end
def PK(X:Cx)(kws:List Keyword)(t:TA):Prop:=∀(pos:Pos)(pins:List (GM×Obj))(s:FB)(σ:St)(H:Hp)(Q:List V->Hp->Prop),Inv X pins σ H s->t σ H Q->wpAny (model X.prog X.w) X.A (evalAll ((backToKw pos (keywordEach kws X.env)).map (·.2))) (AP X pins σ Q) X.xe s
section
variable{X:Cx}{CX:gc}{k:Nat}{f C:GM}{fd:TK}{ps ks:List Str}{sp:Sp}{E:XK}{x m:Str}{p pos apos kpos:Pos}{e o:Uo}{es:List Uo}{kws:List Keyword}{te ta:TE}{t tk:TA}{nm:Option Str}
theorem i4:PK X [] fJ:=fun _ _ _ _ H Q I h=>wpAny_evalAll_nil ⟨[],H,I,.nil,h⟩
theorem gD(ha:PE X e te)(hr:PK X kws t):PK X (⟨nm,e,kpos⟩::kws) (nF te t):=by intro pos pins s σ H Q I h;show wpAny _ _ (evalAll ((do let v<-eval e X.env;standAt pos;pure v)::(backToKw pos (keywordEach kws X.env)).map (·.2))) _ _ s;refine wpAny_evalAll_cons (tz (aD (ha pins s σ H _ I h) fun u s1⟨x,H1,I1,r1,q1⟩=>tz (Wt (Gc ?_))));exact aD (hr pos pins s1 σ H1 _ I1 q1) fun us s2⟨xs,H2,I2,r2,q2⟩=>⟨x::xs,H2,I2,.cons r1 r2,q2⟩
variable{g:List Do->List Do->List Do}{gV:List V->List V->List V}
end
structure aq(N P:List Str)(sc:X0):Prop where
 kind:sc.kind=.function
 co:sc.isCoroutine=false
 gen:sc.isGenerator=false
 nd:N.Nodup
 pre:N.take P.length=P
 par:∀x∈P,sc.names.lookup x=some .local\/sc.names.lookup x=some .cell
 nofree:∀y∈sc.names,y.2≠.free
theorem mB{kindOf:Str->Option X1}{x:Str}:∀{binds:List (Str×Do)}{m:Str->Option Do},(∀v,(x,v)∉binds)->bindL kindOf binds m x=m x
 | [],_,_=>rfl
 | (n,v)::r,m,h=>by
  unfold bindL;rw[mB fun w hw=>h w (SH _ hw)];split
  ·have:x≠n:=by rintro rfl;exact h v SY
   simp[this]
  ·rfl
theorem mF{kindOf:Str->Option X1}{x:Str}:∀{binds:List (Str×Do)}{m:Str->Option Do},(∀v,(x,v)∉binds)->bindC kindOf binds m x=m x
 | [],_,_=>rfl
 | (n,v)::r,m,h=>by
  unfold bindC;rw[mF fun w hw=>h w (SH _ hw)];split;·rfl
  ·have:x≠n:=by rintro rfl;exact h v SY
   simp[this]
theorem mQ{kindOf:Str->Option X1}{x:Str}{v:Do}:∀{P:List Str}{vs:List Do}{i:Nat}{m:Str->Option Do},P.Nodup->P[i]?=some x->vs[i]?=some v->kindOf x=some .local->bindL kindOf (P.zip vs) m x=some v
 | [],_,_,_,_,h,_,_=>by simp at h
 |_::_,[],_,_,_,_,h,_=>by simp at h
 |p::P,w::vs,0,m,nd,h1,h2,hk=>by simp at h1 h2;subst h1;subst h2;show bindL kindOf ((p,w)::P.zip vs) m p=_;unfold bindL;rw[mB fun v hv=>(T8.mp nd).1 (XA hv).1,if_pos hk];simp
 |p::P,w::vs,i+1,m,nd,h1,h2,hk=>by show bindL kindOf ((p,w)::P.zip vs) m x=_;unfold bindL;exact mQ (i:=i) (T8.mp nd).2 (by simpa using h1) (by simpa using h2) hk
theorem mw{kindOf:Str->Option X1}{x:Str}{v:Do}:∀{P:List Str}{vs:List Do}{i:Nat}{m:Str->Option Do},P.Nodup->P[i]?=some x->vs[i]?=some v->kindOf x≠some .local->bindC kindOf (P.zip vs) m x=some v
 | [],_,_,_,_,h,_,_=>by simp at h
 |_::_,[],_,_,_,_,h,_=>by simp at h
 |p::P,w::vs,0,m,nd,h1,h2,hk=>by simp at h1 h2;subst h1;subst h2;show bindC kindOf ((p,w)::P.zip vs) m p=_;unfold bindC;rw[mF fun v hv=>(T8.mp nd).1 (XA hv).1,if_neg hk];simp
 |p::P,w::vs,i+1,m,nd,h1,h2,hk=>by show bindC kindOf ((p,w)::P.zip vs) m x=_;unfold bindC;exact mw (i:=i) (T8.mp nd).2 (by simpa using h1) (by simpa using h2) hk
noncomputable def start(N:List Str)(vs:List V):St:=vs.map some++TR (N.length-vs.length) none
noncomputable def fk(CX:gc)(P:SK)(w:Tc)(K:SL)(mg:Str->Option Do)(base:Ux)(N:List Str)(qual:Str)(scope:X0)(f:GM)(cd:Do)(A:Tf)(outer:List Env)(s:FB)(H:Hp)(E:XK):Cx where prog:=P;w:=w;K:=K;mg:=mg;base:=base;A:=A.deeper (envOfC qual scope s.heap.objs.size f cd);N:=N;s₀:=s;H₀:=H;env:=envOfC qual scope s.heap.objs.size f cd;outer:=outer;stack:=envOfC qual scope s.heap.objs.size f cd::outer;ex:=[];calm:=true;fn:=fun _=>true;pn:=[];xe:=fun e s'=>wpAny (model P w) (A.deeper (envOfC qual scope s.heap.objs.size f cd)) (leaving (envOfC qual scope s.heap.objs.size f cd) e) (fun _ s''=>CX outer H s E e s'') (fun e' s''=>CX outer H s E e' s'') s'
theorem pB{sc:X0}{n:Nat}{x:Str}(h:sc.names.lookup x=some .cell):∃c,(cellsFrom n sc.names []).lookup x=some c:=by have q:=Xs sc.names n [] (.inl h);exact Option.isSome_iff_exists.mp q
theorem va{CX:gc}{P:SK}{w:Tc}{K:SL}{mg:Str->Option Do}{base:Ux}{N ps:List Str}{qual:Str}{scope:X0}{f:GM}{cd:Do}{A:Tf}{outer:List Env}{s s1:FB}{H:Hp}{E:XK}{us:List Do}{vs:List V}(S:aq N ps scope)(hd:A.handled=none)(e0:jU P w K mg base A outer s H)(hl:vs.length=ps.length)(r:Vals vs us)(x:InCallC s s.heap.objs.size (bindL (envOfC qual scope s.heap.objs.size f cd).kindOf (ps.zip us) fun _=>none) (cellsFrom (s.heap.objs.size+1) scope.names []) (bindC (envOfC qual scope s.heap.objs.size f cd).kindOf (ps.zip us) fun _=>none) s1): Inv (fk CX P w K mg base N qual scope f cd A outer s H E) [] (start N vs) H s1:=by
 have hpl:ps.length<=N.length:=by have:=congrArg List.length S.pre;rw[Tj]at this;lia
 obtain⟨h1,tk,rfl,hk⟩:=x.done;have noA:∀b:GM,b∉(fk CX P w K mg base N qual scope f cd A outer s H E).ex:=fun b z=>absurd (show b∈([]:List GM)from z) (by simp);refine⟨⟨e0.mod,S.kind,rfl,rfl,M2 _,fun y z c h1 h2=>?_,fun y hy=>?_,fun y c _ h=>?_,fun _=>hd,Around.frames_deeper e0.frames,.inr ⟨rfl,rfl⟩,fun b z=>absurd z (noA b),e0.bs,e0.bsz,fun b _ _=>noA b,fun b z=>absurd z (noA b),e0.funs,e0.frf⟩,rfl,e0.bare,Un.kept hk,⟨_,x.toInCall.ns,fun i y v h1 h2 h3=>?_⟩,fun y c h=>⟨_,x.cell y c h⟩,e0.hok.fresh (M2 _),fun y c h=>?_,fun p hp=>absurd (show p∈([]:List (GM×Obj))from hp) (by simp),e0.hok.kept hk,?_⟩;·exact name_of_addr x.apart (Vb h1) (Vb h2)
 ·have hy:scope.names.lookup y=some .cell\/scope.names.lookup y=some .free:=hy
  rcases hy with hy|hy;·exact pB hy
  ·exact absurd rfl (S.nofree _ (Vb hy))
 ·exact Wf (x.above y c (Vb h))
 ·have hi:i<vs.length:=by
   unfold start at h2;by_cases hi:i<vs.length;·exact hi
   ·rw[VA (by simpa using hi)]at h2
    rw[List.getElem?_replicate]at h2;split at h2<;>cases h2
  have ha:vs[i]?=some v:=by unfold start at h2;rw[WS (by simpa using hi),Td]at h2;cases e:vs[i]? with
   |none=>rw[e]at h2;cases h2
   |some a=>rw[e]at h2;cases h2;rfl
  obtain⟨u,hu,rv⟩:=r.get ha;have hp:ps[i]?=some y:=by rw[<-S.pre,U2 (by lia)];exact h1
  have ndP:ps.Nodup:=by rw[<-S.pre];exact S.nd.sublist (W2 _ _)
  refine⟨u,rv,?_⟩;rcases S.par y (S5 hp)with k|k;·exact .inl ⟨k,mQ ndP hp hu k⟩
  ·obtain⟨c,e⟩:=pB (n:=s.heap.objs.size+1) k
   refine .inr ⟨.inl k,c,e,?_⟩;have q:=x.cell y c e;rw[mw ndP hp hu (by show scope.names.lookup y≠_;rw[k];decide)]at q;exact q
 ·exact e0.hok.fresh (Wf (x.above y c (Vb h)))
 ·unfold start
  show _=N.length;rw[SW,FS,List.length_replicate];lia
theorem CH{CX:gc}{P:SK}{w:Tc}{K:SL}{mg:Str->Option Do}{base:Ux}{k:Nat}{f:GM}{name qual:Str}{params:Arguments}{body:List T4}{scope:X0}{dV kV doc pm cdv ct oc:Do}{an od:Option GM}{osl:Array (Option Do)}{N ps:List Str}{sp:Sp}(lk:K.lookup f=some ⟨oc,od,.func (PySem.W.fnOf name qual params body scope dV kV doc pm an cdv ct),osl⟩)(hcd:PySem.W.codeIn K cdv qual=true)(S:aq N ps scope)(len:∀vs H Q E,sp vs H Q E->vs.length=ps.length)(hbody:∀(A:Tf)(outer:List Env)(s:FB)(H:Hp)(vs:List V)(Q:VK)(E:XK),aU k (A.deeper (envOfC qual scope s.heap.objs.size f cdv))->sp vs H Q E->∃t,dq (fk CX P w K mg base N qual scope f cdv A outer s H E) body t/\t {nx:=fun _ H'=>Q .non H',rt:=Q} (start N vs) H): bz P w K mg base CX (k+1) f (PySem.W.fnOf name qual params body scope dV kV doc pm an cdv ct) ps sp:=by
 refine⟨len,fun A outer s H args us vs Q E hr e0 hb r hsp=>?_⟩;have hl:=len _ _ _ _ hsp;have KX:K.In s.heap:=e0.mod.kin.keeps fun b o e=>(e0.bs b o e).1;have lim:s.heap.NoLimit:=e0.mod.nolimit.keeps fun b o e=>(e0.bs b o e).1;have hkind:∀y∈ps.zip us,scope.names.lookup y.1=some .local\/(scope.names.lookup y.1=some .cell/\((cellsFrom (s.heap.objs.size+1) scope.names []).lookup y.1).isSome=true):=fun⟨n,v⟩hy=>by
  rcases S.par n (XA hy).1 with q|q;·exact .inl q
  ·exact .inr ⟨q,Xs _ _ _ (.inl q)⟩
 refine codeAny_call_function hr.depth (KX _ _ lk) rfl S.co S.gen rfl (PySem.W.codeRec_of KX hcd) (hb _ _ _ _ ?_);refine wpAny_newFunctionEnv_cells S.kind hkind fun env he s1 x=>?_;subst he;refine⟨lim.keeps x.toInCall.keep,codeAny_func ?_⟩;obtain⟨t,ht,hq⟩:=hbody A outer s H vs Q E (hr.deeper _) hsp;have I:Inv (fk CX P w K mg base N qual scope f cdv A outer s H E) [] (start N vs) H s1:=va S hr.hd e0 hl r x;refine TZ (ht [] s1 (start N vs) H _ I hq) (fun fl s' hs=>?_) fun e s' hs=>hs;have fin:∀{σ':St}{H':Hp}{v:V}{u:Do},Inv (fk CX P w K mg base N qual scope f cdv A outer s H E) [] σ' H' s'->RelV v u->Q v H'->CE outer P w H s Q u s':=fun{σ' H' v u}J rv q=>⟨v,H',J.os,J.bare,J.base,J.hok,rv,q⟩;cases fl with
 |ret u=> obtain⟨v,σ',H',J,rv,q⟩:=hs;exact fin J rv q
 |next=> obtain⟨σ',H',J,q⟩:=hs;exact fin (v:=V.non) (u:=TB) J rfl q
 |brk=> obtain⟨_,_,_,q⟩:=hs;exact Up q
 |cont=> obtain⟨_,_,_,q⟩:=hs;exact Up q
section
variable{X:Cx}{x:Str}{p pos:Pos}{e:Uo}{es:List Uo}{t:TA}{id T:String}{r:List V->Hp->VK->Prop}
def OR(r:List V->Hp->VK->Prop)(t:TA):TE:=fun σ H Q=>t σ H fun vs H1=>r vs H1 Q
theorem av(hc:ck X (.builtin id) r)(hg:Gl X x)(hm:X.mg x=none)(hv:bootBuiltins x=some (.builtin id))(ha:PA X (e::es) t)(hn:x≠"__name__":=by decide)(hdb:(x== ("__debug__" :Str))=false:=by decide)(he:starEach (e::es) X.env=(false,eval e X.env)::starEach es X.env:=by rfl)(hpl:(backTo pos (starEach es X.env)).any (·.1)=false:=by rfl):PE X (.Call (.Name x p) (e::es) [] pos) (OR r t):=by intro pins s σ H Q I h;refine Tv (bO I hg hm hv ?_ hn hdb);exact U9 (aD (ha pos pins s σ H _ I h) fun us s1⟨vs,H1,I1,r1,q1⟩=>hc pins s1 σ H1 vs us Q I1 r1 q1) he hpl
theorem iJ(hc:ck X (.type T) r)(hg:Gl X x)(hm:X.mg x=none)(hv:bootBuiltins x=some (.type T))(ha:PA X (e::es) t)(hn:x≠"__name__":=by decide)(hdb:(x== ("__debug__" :Str))=false:=by decide)(he:starEach (e::es) X.env=(false,eval e X.env)::starEach es X.env:=by rfl)(hpl:(backTo pos (starEach es X.env)).any (·.1)=false:=by rfl):PE X (.Call (.Name x p) (e::es) [] pos) (OR r t):=by intro pins s σ H Q I h;refine Tv (bO I hg hm hv ?_ hn hdb);exact SU (aD (ha pos pins s σ H _ I h) fun us s1⟨vs,H1,I1,r1,q1⟩=>hc pins s1 σ H1 vs us Q I1 r1 q1) he hpl
end
end L2
namespace HT
open PySem PyProof.Rows
section
open PySem.SeqAt
open PySem.AutoSeq1 (wpAny_loadPart')
open PySem.MeetsSeq PySem.MeetsSeq2 PySem.MeetsSeq3
end
section
variable{prog:SK}{w:Tc}{A:Tf}{E:Do->FB->Prop}{s:FB}
noncomputable def sIx(n d:Nat):Option Int->Nat
 |none=>d
 |some v=>if v<0 then(v+(n:Int)).toNat else min v.toNat n
theorem sIx_none(n d:Nat):sIx n d none=d:=rfl
theorem sIx_nat(n d k:Nat):sIx n d (some (k:Int))=min k n:=by show(if(k:Int)<0 then((k:Int)+(n:Int)).toNat else min (k:Int).toNat n)=min k n;rw[if_neg (by lia),UK]
end
end HT
namespace L2
open PySem PySem.Spec PyProof.Rows
abbrev TO:=St->Hp->(Option Int->Hp->Prop)->Prop
def PO(X:Cx)(e:Option Uo)(t:TO):Prop:=∀(pins:List (GM×Obj))(s:FB)(σ:St)(H:Hp)(Q:Option Int->Hp->Prop),Inv X pins σ H s->t σ H Q->wpAny (model X.prog X.w) X.A (evalPart e X.env) (fun u s'=>∃o H',Inv X pins σ H' s'/\IsPart u o/\Q o H') X.xe s
def DW:TO:=fun _ H Q=>Q none H
def Ov(t:TE):TO:=fun σ H Q=>t σ H fun x H1=>∃i,x=.int i/\Q (some i) H1
theorem intsAre_of{ns:List Int}:∀{us:List Do},Vals (ns.map V.int) us->UZ us ns:=by induction ns with
 |nil=>intro us r;rw[VP]at r;cases r;exact .nil
 |cons n ns ih=> intro us r;rw[SQ]at r;cases r with
  |cons r1 r2=> obtain⟨t,e⟩:=r1;subst e;exact .cons n t (ih r2)
section
variable{X:Cx}{e:Uo}{te:TE}{lo hi:Option Uo}{tl th:TO}{pos p2:Pos}
theorem cU:PO X none DW:=by intro pins s σ H Q I h;rw[evalPart_none];exact Gc ⟨none,H,I,.none,h⟩
theorem cV(h:PE X e te):PO X (some e) (Ov te):=by intro pins s σ H Q I hw;rw[evalPart_some];refine aD (h pins s σ H _ I hw) fun u s1⟨x,H1,I1,r1,q1⟩=>?_;obtain⟨i,rfl,q⟩:=q1;obtain⟨t,rfl⟩:=r1;exact⟨some i,H1,I1,.int i t,q⟩
def CM(X:Cx)(r:V->Option Int->Option Int->Hp->VK->Prop):Prop:=∀(pins:List (GM×Obj))(s:FB)(σ:St)(H:Hp)(x:V)(v vl vu:Do)(lo hi:Option Int)(sl:GM)(Q:VK),Inv X pins σ H s->RelV x v->s.heap.IsSliceOf sl vl vu .none->IsPart vl lo->IsPart vu hi->r x lo hi H Q->∃T id,typeLookup (.type T) "__getitem__" =pure (some (.builtin id))/\s.TypeIs v T/\wpAny (model X.prog X.w) X.A (getItem v (.ref sl)) (EP X pins σ Q) X.xe s
def RE(r:V->Option Int->Option Int->Hp->VK->Prop)(te:TE)(tl th:TO):TE:=fun σ H Q=>te σ H fun x H1=>tl σ H1 fun l H2=>th σ H2 fun u H3=>r x l u H3 Q
theorem cu{r:V->Option Int->Option Int->Hp->VK->Prop}(hr:CM X r)(he:PE X e te)(hl:PO X lo tl)(hu:PO X hi th):PE X (.Subscript e (.Slice lo hi none p2) pos) (RE r te tl th):=by intro pins s σ H Q I h;refine Subscript_ (aD (he pins s σ H _ I h) fun v s1⟨x,H1,I1,r1,q1⟩=>?_);refine wpAny_Slice (aD (hl pins s1 σ H1 _ I1 q1) fun vl s2⟨l,H2,I2,pl,q2⟩=>aD (hu pins s2 σ H2 _ I2 q2) fun vu s3⟨u,H3,I3,pu,q3⟩=>?_);rw[evalPart_none];refine Gc ?_;have I4:Inv X pins σ H3 {s3 with heap:=s3.heap.push {cls:=.type "slice",data:=.fields #[vl,vu,.none]}}:=I3.kept (t':=s3.toks) fun b ob q=>Fk _ q;obtain⟨T,id,hT,ht,hg⟩:=hr pins {s3 with heap:=s3.heap.push {cls:=.type "slice",data:=.fields #[vl,vu,.none]}} σ H3 x v vl vu l u s3.heap.objs.size Q I4 r1 (Heap.IsSliceOf.new ..) pl pu q3;show wpAny (model X.prog X.w) X.A (subscriptTail e (.Slice lo hi none p2) v (.ref s3.heap.objs.size)) (EP X pins σ Q) X.xe {s3 with heap:=s3.heap.push {cls:=.type "slice",data:=.fields #[vl,vu,.none]}};exact tail_any (ops:=[.ref s3.heap.objs.size,v]) ht hT hg (by with_unfolding_all rfl)
def dX(xs:List V)(lo hi:Option Int):List V:=(xs.drop (HT.sIx xs.length 0 lo)).take (HT.sIx xs.length xs.length hi-HT.sIx xs.length 0 lo)
theorem pU(xs:List V)(lo hi:Option Int):(dX xs lo hi).length<=xs.length:=by unfold dX;rw[Tj,Xm];lia
end
noncomputable def ku(n:Nat)(i:Int):Option Nat:=if 0<=i then(if i<n then some i.toNat else none)else if-(n:Int)<=i then some (i+n).toNat else none
def eS{α:Type}(xs:List α)(i:Int):Option α:=(ku xs.length i).bind fun j=>xs[j]?
theorem rb{n:Nat}{i:Int}{j:Nat}(h:ku n i=some j):seqIndex? i n=some j/\j<n/\-(n:Int)<=i/\i<n:=by
 unfold ku at h;by_cases h0:0<=i
 ·rw[if_pos h0]at h
  by_cases h1:i<n
  ·rw[if_pos h1]at h
   have e:i.toNat=j:=To h;exact⟨by rw[seqIndex_of h0 h1,e],by lia,by lia,h1⟩
  ·rw[if_neg h1]at h;cases h
 ·rw[if_neg h0]at h
  by_cases h1:-(n:Int)<=i
  ·rw[if_pos h1]at h
   have e:(i+n).toNat=j:=To h;exact⟨by rw[seqIndex_neg (by lia) h1,e],by lia,h1,by lia⟩
  ·rw[if_neg h1]at h;cases h
theorem lZ{α:Type}{xs:List α}{i:Int}{v:α}(h:eS xs i=some v):∃j,seqIndex? i xs.length=some j/\xs[j]?=some v/\j<xs.length/\-(xs.length:Int)<=i/\i<xs.length:=by unfold eS at h;cases e:ku xs.length i with
 |none=>rw[e]at h;cases h
 |some j=> rw[e]at h;obtain⟨h1,h2,h3,h4⟩:=rb e;exact⟨j,h1,h,h2,h3,h4⟩
theorem gH{α:Type}{xs:List α}{j:Nat}{v:α}(h:xs[j]?=some v):eS xs (j:Int)=some v:=by
 have hj:j<xs.length:=(Pi.mp h).1;have e:ku xs.length (j:Int)=some j:=by unfold ku;rw[if_pos (by lia),if_pos (by lia)];simp
 unfold eS;rw[e];exact h
def Ef(b:Uo):Prop:=∀o i,subscripted b false o i=operate [o,i] (getItem o i)
def qx(X:Cx)(r:R2):Prop:=∀(value slice:Uo)(pins:List (GM×Obj))(s:FB)(σ:St)(H:Hp)(x y:V)(v u:Do)(Q:VK),Inv X pins σ H s->RelV x v->RelV y u->r x y H Q->subscripted slice false v u=operate [v,u] (getItem v u)->wpAny (model X.prog X.w) X.A (subscriptTail value slice v u) (EP X pins σ Q) X.xe s
def OM(X:Cx)(id:String)(r:V->List V->Hp->VK->Prop):Prop:=∀(pins:List (GM×Obj))(s:FB)(σ:St)(H:Hp)(x:V)(xs:List V)(v:Do)(us:List Do)(Q:VK),Inv X pins σ H s->RelV x v->Vals xs us->r x xs H Q->wpAny (model X.prog X.w) X.A (call (.builtin id) (v::us)) (EP X pins σ Q) X.xe s
section
variable{X:Cx}{a b:Uo}{ta tb:TE}{pos:Pos}
theorem aV{r:R2}(hr:qx X r)(ha:PE X a ta)(hb:PE X b tb)(hs:Ef b):PE X (.Subscript a b pos) (DH r ta tb):=by intro pins s σ H Q I h;exact Subscript_ (AB ha hb I h fun v u s2 x y H2 I2 rx ry q=>hr a b pins s2 σ H2 x y v u Q I2 rx ry q (hs _ _))
def Np(K:SL):R2:=fun x y H Q=>∃p xs i v,x=.ref p/\y=.int i/\ao K H p xs/\eS xs i=some v/\Q v H
def HH(K:SL):R2:=fun x y H Q=>∃p xs i v,x=.ref p/\y=.int i/\bN K H p xs/\eS xs i=some v/\Q v H
def Qm:R2:=fun x y H Q=>∃z i c,x=.str z/\y=.int i/\z.length<=sizeLine/\eS z.cps.toList i=some c/\Q (.str ⟨#[c]⟩) H
theorem a9:qx X (Np X.K):=by
 intro value slice pins s σ H x y v u Q I rx ry h hs;obtain⟨p,xs,i,z,rfl,rfl,hq,he,q⟩:=h;cases rx;obtain⟨t,rfl⟩:=ry;obtain⟨its,r,pl,hz⟩:=I.list hq;obtain⟨j,h1,h2,h3,h4,h5⟩:=lZ he;obtain⟨w,ew,rw'⟩:=r.get h2;have hl:=r.length;have hn:=gI;have fin:EP X pins σ Q w s:=⟨z,H,I,rw',q⟩;by_cases h0:0<=i
 ·have hj:i.toNat=j:=by rw[seqIndex_of h0 h5]at h1;exact To h1
  exact item_listR pl.isList h0 (by lia) (by rw[hj];simpa using ew) fin hs
 ·have hj:(i+(its.toArray.size:Int)).toNat=j:=by rw[seqIndex_neg (by lia) h4]at h1;rw[Re,<-hl];exact To h1
  exact subscriptTail_builtinR (x:=w) pl.isList.typeIs slot_list_getitem.lookup (wpAny_getItem_list_neg (Q:=fun r s'=>r=w/\EP X pins σ Q r s') pl.isList (by lia) (by rw[Re]<;>lia) (by lia) (by rw[hj];simpa using ew) ⟨rfl,fin⟩) hs
theorem fR:qx X (HH X.K):=by
 intro value slice pins s σ H x y v u Q I rx ry h hs;obtain⟨p,xs,i,z,rfl,rfl,hq,he,q⟩:=h;cases rx;obtain⟨t,rfl⟩:=ry;obtain⟨its,r,pl,hz⟩:=I.tuple hq;obtain⟨j,h1,h2,h3,h4,h5⟩:=lZ he;obtain⟨w,ew,rw'⟩:=r.get h2;have hl:=r.length;have hn:=gI;have fin:EP X pins σ Q w s:=⟨z,H,I,rw',q⟩;exact subscriptTail_builtinR (x:=w) pl.typeIs slot_tuple_getitem.lookup (getItem_tuple (j:=j) (Q:=fun r s'=>r=w/\EP X pins σ Q r s') pl (by lia) (by lia) (by rw[Re,<-hl];exact h1) (by simpa using ew) ⟨rfl,fin⟩) hs
theorem K1:qx X Qm:=by
 intro value slice pins s σ H x y v u Q I rx ry h hs;obtain⟨z,i,c,rfl,rfl,hz,he,q⟩:=h;obtain⟨t,rfl⟩:=rx;obtain⟨t',rfl⟩:=ry;obtain⟨j,h1,h2,h3,h4,h5⟩:=lZ he;have hl:z.cps.toList.length=z.length:=by simp[Str.length]
 rw[hl]at h1 h4 h5;have hn:=gI;exact tail_any (typeIs_str s z t) slot_str_getitem.lookup (getItem_str (c:=c) (by have e1:decide (i< -(2^63:Int))=false:=decide_eq_false (by lia);have e2:decide (i≥2^63)=false:=decide_eq_false (by lia);rw[e1,e2,Xe]) (by rw[h1];simpa using h2) ⟨.str ⟨#[c]⟩,H,I.tok _,⟨_,rfl⟩,q⟩) hs
theorem tX(its:List Do)(n j:Nat)(u:Do):Te (·.setIfInBounds j u) {cls:=.type "list",data:=.seq its.toArray n}={cls:=.type "list",data:=.seq (its.set j u).toArray n}:=by simp[Te]
theorem Inv.lst{pins:List (GM×Obj)}{σ:St}{H:Hp}{s:FB}{p:GM}{xs:List V}(I:Inv X pins σ H s)(h:H p=some (.lst xs)):∃(its:List Do)(n:Nat),Vals xs its/\s.heap.get? p=some {cls:=.type "list",data:=.seq its.toArray n}/\xs.length<=sizeLine:=by obtain⟨z,its,n,r,e⟩:=I.hok p _ h;exact⟨its,n,r,e,z⟩
theorem Inv.lstUpd{pins:List (GM×Obj)}{σ:St}{H:Hp}{s:FB}{p:GM}{xs ys:List V}{its its':List Do}{n n':Nat}{f:Obj->Obj}(I:Inv X pins σ H s)(h:H p=some (.lst xs))(ho:s.heap.get? p=some {cls:=.type "list",data:=.seq its.toArray n})(hf:f {cls:=.type "list",data:=.seq its.toArray n}={cls:=.type "list",data:=.seq its'.toArray n'})(r:Vals ys its')(hz:ys.length<=sizeLine)(t:Nat): Inv X pins σ (upd H p (.lst ys)) {s with heap:=s.heap.update p f,toks:=t}:=by
 have e:(s.heap.update p f).get? p=some {cls:=.type "list",data:=.seq its'.toArray n'}:=by rw[S3 f ho (by rw[hf]<;>rfl),hf]
 refine I.write (x:=p) (e:=p) (by rw[h];trivial) (.inl rfl) (fun b u hb q=>(Os _ _ (T6 hb)).trans q) ⟨_,e⟩ ?_;exact⟨hz,its',n',r,e⟩
def Ob:V->V->V->Hp->(Hp->Prop)->Prop:=fun o i v H Q=>∃p xs k j,o=.ref p/\i=.int k/\H p=some (.lst xs)/\ku xs.length k=some j/\Q (upd H p (.lst (xs.set j v)))
theorem set_list:eL X Ob:=by
 intro pins s σ H o i v ov iv u Q I ro ri rv h;obtain⟨p,xs,k,j,rfl,rfl,hp,hj,q⟩:=h;cases ro;obtain⟨t,rfl⟩:=ri;obtain⟨its,n,r,ho,hz⟩:=I.lst hp;obtain⟨h1,h2,h3,h4⟩:=rb hj;have hl:=r.length;have hn:=gI;have I':Inv X pins σ (upd H p (.lst (xs.set j v))) {s with heap:=s.heap.update p (Te (·.setIfInBounds j u))}:=I.lstUpd hp ho (tX its n j u) (r.set rv j) (by rw[List.length_set];exact hz) s.toks;by_cases h0:0<=k
 ·have hk:k.toNat=j:=by rw[seqIndex_of h0 h4]at h1;exact To h1
  exact PySem.W.ki_setAt ho h0 (by lia) (by rw[Re,<-hl];exact h4) (by rw[hk];exact⟨_,I',q⟩)
 ·have hk:(k+(its.toArray.size:Int)).toNat=j:=by rw[seqIndex_neg (by lia) h3]at h1;rw[Re,<-hl];exact To h1
  exact PySem.W.ki_setBack ho (by lia) (by rw[Re,<-hl];exact h3) (by lia) (by rw[hk];exact⟨_,I',q⟩)
theorem oa(lo hi:Option Int)(n:Nat):(sliceBounds lo hi none n).1=((HT.sIx n 0 lo:Nat):Int)/\(sliceBounds lo hi none n).2.1=((HT.sIx n n hi:Nat):Int)/\(sliceBounds lo hi none n).2.2=1:=by
 refine⟨?_,?_,rfl⟩;·cases lo with
  |none=>simp[sliceBounds,HT.sIx]
  |some i=>
   simp only[sliceBounds,HT.sIx,Xn,show(1:Int)>0 by decide,if_true];by_cases h:i<0;·simp only[h,if_true]<;>lia
   ·simp only[h,if_false]<;>lia
 ·cases hi with
  |none=>simp[sliceBounds,HT.sIx]
  |some i=>
   simp only[sliceBounds,HT.sIx,Xn,show(1:Int)>0 by decide,if_true];by_cases h:i<0;·simp only[h,if_true]<;>lia
   ·simp only[h,if_false]<;>lia
theorem ny(its:List Do)(lo hi:Option Int):slicePick its.toArray lo hi none=((its.drop (HT.sIx its.length 0 lo)).take (HT.sIx its.length its.length hi-HT.sIx its.length 0 lo)).toArray:=by obtain⟨h1,h2,h3⟩:=oa lo hi its.toArray.size;unfold slicePick;rw[h1,h2,h3];simp only[sliceRange_one,pick_run,Re]<;>rfl
def MA(K:SL):V->Option Int->Option Int->Hp->VK->Prop:=fun x lo hi H Q=>∃a xs,x=.ref a/\ao K H a xs/\∀p,H p=none->Q (.ref p) (upd H p (.lst (dX xs lo hi)))
theorem ml:CM X (MA X.K):=by
 intro pins s σ H x v vl vu lo hi sl Q I rx hs pl pu h;obtain⟨a,xs,rfl,hx,q⟩:=h;cases rx;obtain⟨its,r,ht,hz⟩:=I.list hx;have hlen:=r.length;refine⟨"list",_,slot_list_getitem.lookup,ht.isList.typeIs,?_⟩;refine wpAny_getItem_list_slice ht.isList hs pl pu .none (by simp) ?_ (by rw[Re]<;>lia);rw[ny,<-hlen];refine⟨.ref s.heap.objs.size,_,I.laid (t':=s.toks) (o:=.lst (dX xs lo hi)) (fun b ob q=>Fk _ q) (M2 _) ?_,rfl,q _ (I.hok.fresh (M2 _))⟩;exact⟨Tt (pU xs lo hi) hz,_,0,(r.drop (HT.sIx xs.length 0 lo)).take (HT.sIx xs.length xs.length hi-HT.sIx xs.length 0 lo),SB _ rfl⟩
noncomputable def cC:V->Bool
 |.non=>true
 |.bl _=>true
 |.int _=>true
 |.str _=>true
 |_=>false
noncomputable def dB:V->V->Bool
 |.non,.non=>true
 |.bl a,.bl b=>a==b
 |.bl a,.int b=>(if a then 1 else 0)==b
 |.int a,.bl b=>a== (if b then 1 else 0)
 |.int a,.int b=>a==b
 |.str a,.str b=>a==b
 |_,_=>false
theorem ou{A:Tf}{s:FB}{y x:V}{u v:Do}(ry:RelV y u)(rx:RelV x v)(fy:cC y=true)(fx:cC x=true):X7 A s u v (dB y x):=by cases y with
 |non=>
  cases ry
  cases x with
  |non=>cases rx;exact Yk _
  |bl b=>cases rx;exact SeqAt.EqAt.none_bool b
  |int b=>obtain⟨t,rfl⟩:=rx;exact SeqAt.EqAt.none_int b t
  |str b=>obtain⟨t,rfl⟩:=rx;exact SeqAt.EqAt.none_str b t
  |_=>exact absurd (show false=true from fx) SJ
 |bl a=>
  cases ry
  cases x with
  |non=>cases rx;exact SeqAt.EqAt.bool_none a
  |bl b=>cases rx;exact SeqAt.EqAt.bool_bool a b
  |int b=>obtain⟨t,rfl⟩:=rx;exact SeqAt.EqAt.bool_int a b t
  |str b=>obtain⟨t,rfl⟩:=rx;exact SeqAt.EqAt.bool_str a b t
  |_=>exact absurd (show false=true from fx) SJ
 |int a=> obtain⟨t',rfl⟩:=ry;cases x with
  |non=>cases rx;exact SeqAt.EqAt.int_none a t'
  |bl b=>cases rx;exact SeqAt.EqAt.int_bool a t' b
  |int b=>obtain⟨t,rfl⟩:=rx;exact SeqAt.EqAt.int_int a t' b t
  |str b=>obtain⟨t,rfl⟩:=rx;exact XY a t' b t
  |_=>exact absurd (show false=true from fx) SJ
 |str a=> obtain⟨t',rfl⟩:=ry;cases x with
  |non=>cases rx;exact SeqAt.EqAt.str_none a t'
  |bl b=>cases rx;exact SeqAt.EqAt.str_bool a t' b
  |int b=>obtain⟨t,rfl⟩:=rx;exact XZ a t' b t
  |str b=>obtain⟨t,rfl⟩:=rx;exact SeqAt.EqAt.str_str a t' b t
  |_=>exact absurd (show false=true from fx) SJ
 |_=>exact absurd (show false=true from fy) SJ
def km(x:V)(u:Do):Bool:=match u with
 |.none=>dB .non x
 |.bool b=>dB (.bl b) x
 |.int i _=>dB (.int i) x
 |.str z _=>dB (.str z) x
 |_=>false
theorem wN{x y:V}{u:Do}(r:RelV y u)(f:cC y=true):km x u=dB y x:=by cases y with
 |non=>cases r;rfl
 |bl b=>cases r;rfl
 |int i=>obtain⟨t,rfl⟩:=r;rfl
 |str z=>obtain⟨t,rfl⟩:=r;rfl
 |_=>exact absurd (show false=true from f) SJ
theorem mh{x:V}:∀{xs:List V}{us:List Do},Vals xs us->xs.all cC=true->us.any (km x)=xs.any fun y=>dB y x
 |_,_,.nil,_=>rfl
 |y::xs,u::us,.cons r t,f=>by rw[Vx,On]at f;rw[UA,UA,wN r f.1,mh t f.2]
theorem jJ{A:Tf}{s:FB}{x:V}{v:Do}(rx:RelV x v)(fx:cC x=true):∀{xs:List V}{us:List Do},Vals xs us->xs.all cC=true->∀u∈us,X7 A s u v (km x u)
 |_,_,.nil,_=>fun u hu=>by cases hu
 |y::xs,u::us,.cons r t,f=>fun u' hu=>by
  rw[Vx,On]at f;rcases GT.mp hu with rfl|hu;·rw[wN r f.1];exact ou r rx f.1 fx
  ·exact jJ rx fx t f.2 u' hu
def jD(x:V)(xs:List V):Bool:=xs.any fun y=>dB y x
def R8(K:SL)(neg:Bool):R2:=fun x y H Q=>∃p xs,y=.ref p/\(ao K H p xs\/bN K H p xs)/\cC x=true/\xs.all cC=true/\Q (.bl (if neg then !jD x xs else jD x xs)) H
theorem fZ:bX X (compareOp .In) (R8 X.K false):=by
 intro pins s σ H x y v u Q I rx ry h;obtain⟨p,xs,rfl,hq,fx,fs,q⟩:=h;cases ry;rcases hq with hq|hq
 ·obtain⟨its,r,pl,hz⟩:=I.list hq
  refine SeqAt.in_listAt (km x) pl.isList (fun w hw=>jJ rx fx r fs w (by simpa using hw)) ⟨.bl _,H,I,rfl,?_⟩;rw[show its.toArray.any (km x)=its.any (km x)by simp,mh r fs];exact q
 ·obtain⟨its,r,pl,hz⟩:=I.tuple hq
  refine SeqAt.in_tupleAt (km x) pl (fun w hw=>jJ rx fx r fs w (by simpa using hw)) ⟨.bl _,H,I,rfl,?_⟩;rw[show its.toArray.any (km x)=its.any (km x)by simp,mh r fs];exact q
theorem aH:ck X (.builtin "len") (fun xs H Q=>∃p ys,xs=[.ref p]/\(ao X.K H p ys\/bN X.K H p ys)/\Q (.int ys.length) H):=by
 intro pins s σ H xs us Q I r h;obtain⟨p,ys,rfl,hq,q⟩:=h;obtain⟨u,rfl,rx⟩:=vals1 r;cases rx;have hn:=gI;rcases hq with hq|hq
 ·obtain⟨its,r',pl,hz⟩:=I.list hq
  have hlen:=r'.length;exact Calls.call_len_list pl.isList (by simp only[Re]<;>lia) ⟨.int ys.length,H,I.tok _,⟨s.toks+1,by rw[Re,hlen]⟩,q⟩
 ·obtain⟨its,r',pl,hz⟩:=I.tuple hq
  have hlen:=r'.length;exact len_tuple pl (by simp only[Re]<;>lia) ⟨.int ys.length,H,I.tok _,⟨s.toks+1,by rw[Re,hlen]⟩,q⟩
theorem iB:ck X (.builtin "len") (fun xs H Q=>∃z,xs=[.str z]/\z.length<=sizeLine/\Q (.int z.length) H):=by intro pins s σ H xs us Q I r h;obtain⟨z,rfl,hz,q⟩:=h;obtain⟨u,rfl,t,rfl⟩:=vals1 r;have hn:=gI;exact len_str (by lia) ⟨.int z.length,H,I.tok _,⟨_,rfl⟩,q⟩
theorem o8:ck X (.type "list") (fun xs H Q=>∃p ys,xs=[.ref p]/\(ao X.K H p ys\/bN X.K H p ys)/\∀l,H l=none->Q (.ref l) (upd H l (.lst ys))):=by
 intro pins s σ H xs us Q I r h;obtain⟨p,ys,rfl,hq,q⟩:=h;obtain⟨u,rfl,rx⟩:=vals1 r;cases rx;have fin:∀(its:List Do),Vals ys its->ys.length<=sizeLine->∀(h':Ux)(c':Nat),(∀b o',s.heap.get? b=some o'->h'.get? b=some o')->h'.get? s.heap.objs.size=some {cls:=.type "list",dict:=none,data:=.seq its.toArray c',slots:=#[]}->EP X pins σ Q (.ref s.heap.objs.size) {s with heap:=h'}:=fun its r' hz h' c' kp e=> ⟨.ref s.heap.objs.size,_,I.laid (t':=s.toks) kp (M2 _) (show aW X.prog X.w _ h' _ (.lst ys)from⟨hz,its,c',r',e⟩),rfl,q _ (I.hok.fresh (M2 _))⟩
 rcases hq with hq|hq
 ·obtain⟨its,r',pl,hz⟩:=I.list hq
  have hlen:=r'.length;obtain⟨o,ho,hc,n,hd⟩:=pl.isList;exact call_list_seq p (.inl rfl) ho hc hd (fun h' c' kp e=>fin its r' hz h' c' kp e) (by simp only[Re]<;>lia)
 ·obtain⟨its,r',pl,hz⟩:=I.tuple hq
  have hlen:=r'.length;obtain⟨o,ho,hc,n,hd⟩:=pl;exact call_list_seq p (.inr rfl) ho hc hd (fun h' c' kp e=>fin its r' hz h' c' kp e) (by simp only[Re]<;>lia)
def Js(K:SL)(T:String)(x:V)(H:Hp):Prop:=match x with
 |.str _=>T= "str"
 |.int _=>T= "int"
 |.ref p=>(T= "list"/\∃xs,ao K H p xs)\/(T= "tuple"/\∃o,K.lookup p=some o/\o.cls=.type "tuple"/\o.dict=none)\/ (T= "dict"/\((∃kvs,H p=some (.dK kvs))\/∃kvs,H p=some (.dT kvs)))\/(T= "set"/\∃S n,H p=some (.set S n))
 |_=>False
theorem vy{pins:List (GM×Obj)}{σ:St}{H:Hp}{s:FB}{T:String}{x:V}{v:Do}(I:Inv X pins σ H s)(r:RelV x v)(ty:Js X.K T x H):s.TypeIs v T/\∀a,v=.ref a->∃ob,s.heap.get? a=some ob/\ob.dict=none:=by cases x with
 |str z=>
  obtain⟨t,rfl⟩:=r;cases(show T= "str"from ty);exact⟨typeIs_str s z t,fun _ e=>nomatch e⟩
 |int i=>
  obtain⟨t,rfl⟩:=r;cases(show T= "int"from ty);exact⟨typeIs_int s i t,fun _ e=>nomatch e⟩
 |ref p=>
  cases r
  rcases ty with⟨rfl,xs,hq⟩| ⟨rfl,o,hk,hc,hd⟩| ⟨rfl,hk⟩| ⟨rfl,S,n,hk⟩
  ·obtain⟨its,_,pl,_⟩:=I.list hq
   refine⟨pl.isList.typeIs,fun a e=>?_⟩;cases e;obtain⟨o,n,e,c,hd,_⟩:=pl;exact⟨o,e,hd⟩
  ·refine⟨⟨o,I.kIn p o hk,hc⟩,fun a e=>?_⟩
   cases e
   exact⟨o,I.kIn _ o hk,hd⟩
  ·have z:∃o,s.heap.get? p=some o/\o.ExactDict:=by
    rcases hk with⟨kvs,hk⟩| ⟨kvs,hk⟩
    ·obtain⟨_,_,_,_,o,_,_,e,ex,_⟩:=I.hok p _ hk
     exact⟨o,e,ex⟩
    ·obtain⟨_,_,_,_,o,_,_,e,ex,_⟩:=I.hok p _ hk
     exact⟨o,e,ex⟩
   obtain⟨o,e,ex⟩:=z;refine⟨⟨o,e,ex.1⟩,fun a e2=>?_⟩;cases e2;exact⟨o,e,ex.2.1⟩
  ·obtain⟨o,_,_,_,e,ex,_⟩:=I.hok p _ hk
   refine⟨⟨o,e,ex.1⟩,fun a e2=>?_⟩;cases e2;exact⟨o,e,ex.2.1⟩
 |_=>exact Up ty
def QA(K:SL)(T:String)(r:V->List V->Hp->VK->Prop)(to:TE):TE:=fun σ H Q=>to σ H fun x H1=>Js K T x H1/\r x [] H1 Q
def R3(K:SL)(T:String)(r:V->List V->Hp->VK->Prop)(to:TE)(t:TA):TE:=fun σ H Q=>to σ H fun x H1=>Js K T x H1/\t σ H1 fun xs H2=>r x xs H2 Q
variable{o e:Uo}{es:List Uo}{to:TE}{t:TA}{name:Str}{apos cpos:Pos}{T id:String}{r:V->List V->Hp->VK->Prop}
theorem og(pa:PlainAttrs T)(slot:Slot T name id)(hty:typeOf (.builtin id)=pure (.type "method_descriptor"))(hm:OM X id r)(ho:PE X o to)(hbase:attributeBase o name X.env (eval o X.env)=eval o X.env:=by rfl)(hline:(apos.endLine==cpos.line)=true:=by rfl):PE X (.Call (.Attribute o name apos) [] [] cpos) (QA X.K T r to):=by intro pins s σ H Q I h;refine wpAny_Call_method0_late hbase hline (aD (ho pins s σ H _ I h) fun v s1⟨x,H1,I1,r1,ty,q1⟩=>?_);obtain⟨h1,h2⟩:=vy I1 r1 ty;exact⟨T,id,pa,slot,hty,h1,h2,V3 rfl (PySem.evalArgs_none (hm pins s1 σ H1 x [] v [] Q I1 r1 .nil q1))⟩
theorem bK(pa:PlainAttrs T)(slot:Slot T name id)(hty:typeOf (.builtin id)=pure (.type "method_descriptor"))(hm:OM X id r)(ho:PE X o to)(ha:PA X (e::es) t)(hbase:attributeBase o name X.env (eval o X.env)=eval o X.env:=by rfl)(hfew:((backTo cpos (starEach (e::es) X.env)).all (fun x=>!x.1)&&(backToKw cpos (keywordEach [] X.env)).all (fun x=>x.1.isSome)&&decide ((e::es).length+([]:List Keyword).length+(if([]:List Keyword).isEmpty then 0 else 1)<30))=true:=by rfl)(hline:(apos.endLine==cpos.line)=true:=by rfl)(hs:starEach (e::es) X.env=(false,eval e X.env)::starEach es X.env:=by rfl)(hplain:(backTo cpos (starEach es X.env)).any (·.1)=false:=by rfl): PE X (.Call (.Attribute o name apos) (e::es) [] cpos) (R3 X.K T r to t):=by intro pins s σ H Q I h;refine wpAny_Call_method_late hbase hfew hline rfl (aD (ho pins s σ H _ I h) fun v s1⟨x,H1,I1,r1,ty,q1⟩=>?_);obtain⟨h1,h2⟩:=vy I1 r1 ty;refine⟨T,id,pa,slot,hty,h1,h2,?_⟩;have hA:=ha cpos pins s1 σ H1 _ I1 q1;rw[hs]at hA|-;refine V3 (by show(false|| (backTo cpos (starEach es X.env)).any (·.1))=false;rw[hplain]<;>rfl) (VE ?_);exact aD hA fun us s2⟨vs,H2,I2,r2,q2⟩=>hm pins s2 σ H2 x vs v us Q I2 r1 r2 q2
end
def jC(X:Cx)(id:String)(r:V->List V->Hp->VK->Prop):Prop:=∀(pins:List (GM×Obj))(s:FB)(σ:St)(H:Hp)(x:V)(xs:List V)(v:Do)(us:List Do)(Q:VK),Inv X pins σ H s->RelV x v->Vals xs us->r x xs H Q->wpAny (model X.prog X.w) X.A (call (.builtin id) (v::us)) (EP X pins σ Q) X.xe s
theorem Vals.one:∀{x:V}{us:List Do},Vals [x] us->∃u,us=[u]/\RelV x u|_,_,.cons r .nil=>⟨_,rfl,r⟩
theorem Vals.zero:∀{us:List Do},Vals [] us->us=[]|_,.nil=>rfl
theorem Vals.dropLast{xs:List V}{us:List Do}(h:Vals xs us):Vals xs.dropLast us.dropLast:=by induction h with
 |nil=>exact .nil
 |cons r t ih=>cases t with
  |nil=>exact .nil
  |cons q t'=>exact .cons r ih
theorem Vals.eraseIdx:∀{xs:List V}{us:List Do}(i:Nat),Vals xs us->Vals (xs.eraseIdx i) (us.eraseIdx i)
 |_,_,_,.nil=>.nil
 |_,_,0,.cons _ t=>t
 |_,_,i+1,.cons r t=>.cons r (Vals.eraseIdx i t)
theorem Vals.rep{xs:List V}{us:List Do}(h:Vals xs us):∀k:Nat,Vals (TR k xs).flatten (TR k us).flatten
 |0=>.nil
 |k+1=>by rw[Vc,Vc,U3,U3];exact Vals.append h (Vals.rep h k)
theorem so{α:Type}(l:List α):l.eraseIdx (l.length-1)=l.dropLast:=by induction l with
 |nil=>rfl
 |cons a r ih=>cases r with
  |nil=>rfl
  |cons b r=>
   have e:(a::b::r).length-1=((b::r).length-1)+1:=by have h1:(a::b::r).length=r.length+2:=rfl;have h2:(b::r).length=r.length+1:=rfl;lia
   rw[e,List.eraseIdx_cons_succ,ih];all_goals rfl
theorem foldl_rep(its:List Do):∀(k:Nat)(acc:List Do),List.foldl (fun x1 x2=>x1++x2) acc.toArray (TR k its.toArray)=(acc++(TR k its).flatten).toArray
 |0,acc=>by simp
 |k+1,acc=>by
  have e:acc.toArray++its.toArray=(acc++its).toArray:=by simp
  have e2:(acc++its)++(TR k its).flatten=acc++(TR (k+1) its).flatten:=by rw[Vc,U3,Uy]
  rw[<-e2,<-foldl_rep its k (acc++its),<-e,Vc,List.foldl_cons]
section
variable{X:Cx}{pins:List (GM×Obj)}{σ:St}{H:Hp}{s:FB}{l b:GM}{xs ys zs:List V}
theorem Inv.lset{its its':List Do}{n:Nat}{f:Array Do->Array Do}{t':Nat}(I:Inv X pins σ H s)(hH:H l=some (.lst xs))(e:s.heap.get? l=some {cls:=.type "list",data:=.seq its.toArray n})(hf:f its.toArray=its'.toArray)(hv:Vals ys its')(hz:ys.length<=sizeLine): Inv X pins σ (upd H l (.lst ys)) {s with heap:=s.heap.update l (Te f),toks:=t'}:=by have q:=PySem.IsL.update e f;rw[hf]at q;refine I.write (x:=l) (e:=l) (by rw[hH];exact trivial) (.inl rfl) (fun b' u hb hu=>(Os s.heap (Te f) (T6 hb)).trans hu) ⟨_,q⟩ ?_;exact⟨hz,its',_,hv,q⟩
theorem Inv.lnew{its:List Do}{t':Nat}(I:Inv X pins σ H s)(hv:Vals ys its)(hz:ys.length<=sizeLine):Inv X pins σ (upd H s.heap.objs.size (.lst ys)) {s with heap:=s.heap.push {cls:=.type "list",data:=.seq its.toArray},toks:=t'}:= I.laid (fun _ _ q=>Fk _ q) (M2 _) ⟨hz,its,0,hv,SB _ rfl⟩
theorem Inv.fresh(I:Inv X pins σ H s):H s.heap.objs.size=none:=I.hok.fresh (M2 _)
theorem Inv.lstM(I:Inv X pins σ H s)(hH:H l=some (.lst xs)):xs.length<=sizeLine/\∃(its:List Do)(n:Nat),Vals xs its/\xs.length=its.length/\s.heap.get? l=some {cls:=.type "list",data:=.seq its.toArray n}:=by obtain⟨z,its,n,r,e⟩:=I.hok l _ hH;exact⟨z,its,n,r,r.length,e⟩
theorem jR{n:Nat}(h:n<=sizeLine):Builtin.List.listTooLong n=false:=by unfold Builtin.List.listTooLong;exact decide_eq_false (by lia)
end
section
variable{X:Cx}
def EV:V->List V->Hp->VK->Prop:=fun x vs H Q=>∃l xs y,x=.ref l/\vs=[y]/\H l=some (.lst xs)/\xs.length<sizeLine/\Q .non (upd H l (.lst (xs++[y])))
theorem bp:jC X "list.append" EV:=by
 intro pins s σ H x vs v us Q I rx rv h;obtain⟨l,xs,y,rfl,rfl,hH,hz,q⟩:=h;cases rx;obtain⟨u,rfl,ru⟩:=rv.one;obtain⟨z,its,n,r,hl,e⟩:=I.lstM hH;refine VQ F.slot_list_append ⟨_,e,rfl⟩ F.entry_list_append (F.args_list_append_2 _ _) (PySem.list_append l its.toArray n u (by rw[Re];lia)) ⟨e,?_⟩;refine⟨.non,_,I.lset (its':=its++[u]) hH e (by simp) (r.append (.cons ru .nil)) ?_,rfl,q⟩;rw[SW,Wh];lia
def qu:V->List V->Hp->VK->Prop:=fun x vs H Q=>∃l b xs zs,x=.ref l/\vs=[.ref b]/\H l=some (.lst xs)/\H b=some (.lst zs)/\xs.length+zs.length<=sizeLine/\Q .non (upd H l (.lst (xs++zs)))
theorem wQ:jC X "list.extend" qu:=by
 intro pins s σ H x vs v us Q I rx rv h;obtain⟨l,b,xs,zs,rfl,rfl,hH,hB,hz,q⟩:=h;cases rx;obtain⟨u,rfl,ru⟩:=rv.one;cases ru;obtain⟨z,its,n,r,hl,e⟩:=I.lstM hH;obtain⟨z2,its2,n2,r2,eB,e2⟩:=I.lstM hB;have hsz:its.toArray.size+its2.toArray.size<=sizeLine:=by rw[Re,Re];lia
 have hlong:¬ (!its.toArray.isEmpty&&Builtin.List.listTooLong (its.toArray.size+its2.toArray.size))=true:=by rw[jR hsz,WT];exact SJ
 refine VQ F.slot_list_extend ⟨_,e,rfl⟩ F.entry_list_extend (F.args_list_extend_2 _ _) (AutoSeq1.list_extend_list_list_0 l its.toArray n b its2.toArray n2 hlong (by rw[Re];lia) (by lia)) ⟨e,e2,?_⟩;refine⟨.non,_,I.lset (its':=its++its2) hH e (by simp) (r.append r2) ?_,rfl,q⟩;rw[SW];lia
def Q9:V->List V->Hp->VK->Prop:=fun x vs H Q=>∃l xs y,x=.ref l/\vs=[]/\H l=some (.lst xs)/\xs[xs.length-1]?=some y/\Q y (upd H l (.lst xs.dropLast))
theorem vQ:jC X "list.pop" Q9:=by
 intro pins s σ H x vs v us Q I rx rv h;obtain⟨l,xs,y,rfl,rfl,hH,hy,q⟩:=h;cases rx;have hus:=rv.zero;subst hus;obtain⟨z,its,n,r,hl,e⟩:=I.lstM hH;obtain⟨u,hu,ru⟩:=r.get hy;have hy':its.toArray[its.toArray.size-1]?=some u:=by show its.toArray[its.length-1]?=some u;rw[<-UW,<-hl];exact hu
 refine VQ F.slot_list_pop ⟨_,e,rfl⟩ F.entry_list_pop (F.args_list_pop_1 _) (MeetsSeq.list_pop_last l its.toArray n u hy' (by rw[Re];lia)) ⟨e,?_⟩;refine⟨y,_,I.lset (its':=its.dropLast) hH e ?_ r.dropLast ?_,ru,q⟩
 ·show its.toArray.eraseIdxIfInBounds (its.toArray.size-1)=its.dropLast.toArray
  rw[Re,V9,so]
 ·rw[List.length_dropLast]
  lia
def Qn:R2:=fun x y H Q=>∃l b xs zs,x=.ref l/\y=.ref b/\H l=some (.lst xs)/\H b=some (.lst zs)/\xs.length+zs.length<=sizeLine/\∀p,H p=none->Q (.ref p) (upd H p (.lst (xs++zs)))
theorem iQ:bX X (binaryOp .Add) Qn:=by
 intro pins s σ H x y v u Q I rx ry h;obtain⟨l,b,xs,zs,rfl,rfl,hH,hB,hz,q⟩:=h;cases rx;cases ry
 obtain⟨z,its,n,r,hl,e⟩:=I.lstM hH;obtain⟨z2,its2,n2,r2,eB,e2⟩:=I.lstM hB;refine PySem.P.add_list e e2 ?_ (by rw[Re,Re];lia);have ea:its.toArray++its2.toArray=(its++its2).toArray:=by simp
 rw[ea];exact⟨.ref _,_,I.lnew (t':=s.toks) (r.append r2) (by rw[SW];lia),rfl,q _ I.fresh⟩
def QM:R2:=fun x y H Q=>∃l k xs,x=.ref l/\y=.int k/\H l=some (.lst xs)/\-(2^63)<=k/\k<2^63/\xs.length*k.toNat<=sizeLine/\∀p,H p=none->Q (.ref p) (upd H p (.lst (TR k.toNat xs).flatten))
theorem len_rep{α:Type}(xs:List α)(k:Nat):(TR k xs).flatten.length=k*xs.length:=by induction k with
 |zero=>simp
 |succ k ih=>rw[Vc,U3,SW,ih,Nat.succ_mul,Nat.add_comm]
theorem nZ:bX X (binaryOp .Mult) QM:=by
 intro pins s σ H x y v u Q I rx ry h;obtain⟨l,k,xs,rfl,rfl,hH,h1,h2,hz,q⟩:=h;cases rx;obtain⟨t,rfl⟩:=ry;obtain⟨z,its,n,r,hl,e⟩:=I.lstM hH;have hlen:its.toArray.size*k.toNat<=sizeLine:=by rw[Re,<-hl];exact hz
 have hcap:¬its.toArray.size*k.toNat> (2^63-1)/8:=by
  have:(sizeLine:Nat)<=(2^63-1)/8:=by decide
  lia
 have hfit:¬ (!Builtin.List.listFitsIndex k)=true:=by rw[fitsIndex_both h1 h2];exact SJ
 have hlong:¬Builtin.List.listTooLong (its.toArray.size*k.toNat)=true:=by rw[jR hlen];exact SJ
 have hnew:List.foldl (fun x1 x2=>x1++x2) #[] (TR (if its.toArray.isEmpty=true then 0 else k.toNat) its.toArray)=(TR k.toNat its).flatten.toArray:=by
  have f0:∀m:Nat,List.foldl (fun x1 x2=>x1++x2) #[] (TR m its.toArray)=(TR m its).flatten.toArray:=fun m=>by have:=foldl_rep its m [];rw[VT]at this;exact this
  rw[f0];cases its with
  |nil=>simp
  |cons a r'=>rw[if_neg (by simp)]
 refine wpAny_binaryOp_repeat_ref (T:="list") (U:="int") (by decide) ⟨_,e,rfl⟩ (fun s'=>typeIs_int s' k t) noFill_list_mul F.fills_int_mul F.slot_int_rmul repeat_list F.slot_int_index.lookup (VQ F.slot_int_rmul (typeIs_int s k t) F.entry_int_rmul (F.args_int_rmul_2 _ _) (int___rmul___int_list k t l its.toArray n) ⟨e,rfl,⟨_,e,rfl⟩,VQ F.slot_list_mul ⟨_,e,rfl⟩ F.entry_list_mul (F.args_list_mul_2 _ _) (AutoListH.list___mul___list_int_3 l its.toArray n k t hfit hcap hlong) ⟨e,?_⟩⟩);rw[hnew];exact⟨.ref _,_,I.lnew (t':=s.toks) (r.rep k.toNat) (by rw[len_rep,Nat.mul_comm];exact hz),rfl,q _ I.fresh⟩
end
section
variable{prog:SK}{w:Tc}{A:Tf}{E:Do->FB->Prop}{s:FB}
set_option maxRecDepth 100000 in
end
section
variable{X:Cx}
end
end L2
namespace Att
open PySem PySem.W PySem.Calls PyProof.Rows
theorem kr{P:IR}{h:Ux}:∀(ns:List Int)(vs:List Do),WellAll P h vs (ns.map WData.int)->UZ vs ns:=by intro ns;induction ns with
 |nil=>
  intro vs w;rw[VP]at w;cases w;exact .nil
 |cons n ns ih=> intro vs w;rw[SQ]at w;cases w with
  |cons a b=>
   cases a
   exact .cons _ _ (ih _ b)
theorem vH{l:OpenLaw}{n:Nat}(hn:l.most=some n){P:IR}{h:Ux}{args:List WData}{vals:List Do}(hpre:l.row.toRowW.claim.pre args=true)(hwl:WellAll P h vals args): ∃a vs ns,vals=[PP a]/\args=[WData.list (ns.map WData.int)]/\h.get? a=some {cls:=.type "list",data:=.seq vs.toArray}/\UZ vs ns/\ns.length<=n:=by
 have hsh:WShape.hasAll [] args [.list .int]=true:=(pre_splitW hpre).1;have hc:l.pre.holds [] {args:=args}=true:=(pre_splitW hpre).2;obtain⟨d,r,rfl,h1,h2⟩:=hasAllW_cons hsh;obtain rfl:=hasAllW_nil h2;obtain⟨xs,rfl,h3⟩:=hasW_list h1;obtain⟨ns,rfl⟩:=items_int h3;have hlen:ns.length<=n:=by
  unfold OpenLaw.pre at hc;have h4:(WTm.not (.lt (.lit (.int (n:Int))) (.len (.arg 0)))).holds [] {args:=[.list (ns.map .int)]}=true:=by have h4:=(holds_andW hc).1;rw[hn]at h4;exact h4
  have h5:=condW_of h4 (w_not (w_lt w_lit (w_len_list (w_arg rfl))));rw[FS]at h5;refine Nat.le_of_not_lt fun q=>?_;have q':(n:Int)< ((ns.length:Nat):Int):=by lia
  first
   | (rw[decide_eq_true q']at h5;exact absurd h5 (by decide))
   | (simp at h5;lia)
 cases hwl with
 |cons w1 w2=>
  cases w2
  cases w1 with
  |list ho hall=>exact⟨_,_,ns,rfl,rfl,ho,kr ns _ hall,hlen⟩
theorem xm(l:OpenLaw)(args:List WData):l.row.toRowW.claim.post args (.bool true) args=true:=postW_of (r:=l.row.toRowW) (X:=(true==true)) (show WShape.has [] (.bool true) .bool=true by first|rfl|decide|simp[WShape.has,WShape.arms,WShape.armsAll]) (show(WTm.eq .res (.lit (.bool true))).value [] {args:=args,res:=some (.bool true),after:=args}=some (.bool (true==true))from w_eq_bool (w_res rfl) w_lit) rfl
theorem attach_call{l:OpenLaw}{n:Nat}{q:SK}{loose:List Str}{XP:(Str->Option Do)->Ux->Prop}{YP:Tc->Ux->Prop}{d:DefRec}(hn:l.most=some n)(hdf:d.params.defaults=[])(call:∀(w:Tc)(s₀ s₁:FB)(mg mb:Str->Option Do)(fa:GM)(o:Obj)(pm cd doc:Do)(a:GM)(vs:List Do)(ns:List Int),Ground q loose [] XP w s₀ mg mb s₁.heap->YP w s₁.heap->s₁.heap.get? fa=some o->o.data=.func (docDef d.name d.params d.body d.scope pm cd doc)->s₁.heap.CodeRec cd d.name->mg d.name=some (.ref fa)->s₁.heap.get? a=some {cls:=.type "list",data:=.seq vs.toArray}->UZ vs ns->ns.length<=n->s₁.gens=#[]->codeAny (model l.prog w) callerA (.call (.ref fa) ⟨[.ref a],[]⟩) (fun r s'=>r=.ok (.ret (.bool true))/\OldK s₁.heap s'.heap/\s'.os=s₁.os/\Xd s'.gens) s₁): WalkO q loose XP YP l.row.toRowW d [] (fun f vs=>PySem.call f vs):=by intro w s₀ s₁ mg mb G Y fa o pm cd doc dV kV ho hd hcd hD hmg hg args vals as hpre hlay hrd hwl hlo;obtain rfl:dV=.none:=Dflts.none hD hdf;obtain rfl:kV=.none:=Dflts.noKw hD;obtain⟨a,vs,ns,rfl,rfl,hobj,hints,hlen⟩:=vH hn hpre hwl;refine enter_call (U8 (call w s₀ s₁ mg mb fa o pm cd doc a vs ns G Y ho (fd_plain hd) hcd hmg hobj hints hlen hg) fun r s' hq=>?_);obtain⟨rfl,h2,h3,h4⟩:=hq;exact⟨.inl ⟨.bool true,.bool true,[],rfl,fun _=>rfl,.bool true,xm l _,fun _=>⟨W3,fun _ hm=>(nomatch hm)⟩⟩,h2,h3,h4⟩
section
variable{prog:SK}{w:Tc}{A:Tf}{E:Do->FB->Prop}{s:FB}{K:VB}
noncomputable def ledger(h:Ux)(L d:GM):List (GM×Obj):=(SO h.objs.size).filterMap fun a=>if a=L\/a=d then none else(h.get? a).map fun o=>(a,o)
end
end Att
namespace L2
open PySem PySem.Spec PyProof.Rows
theorem mW:∀{vs:List Do}{ns:List Int},UZ vs ns->Vals (ns.map V.int) vs
 |_,_,.nil=>.nil
 |_,_,.cons n t h=>.cons ⟨t,rfl⟩ (mW h)
def u9(H:Hp):Prop:=∀b,H b=none\/∃o xs,H b=some (.frz o (.lst xs))
theorem A8{P:SK}{w:Tc}{K:SL}{mg mb:Str->Option Do}{CX:gc}{k:Nat}{fa a:GM}{fd:TK}{x:Str}{sp:Sp}{s₁:FB}{vs:List Do}{ns:List Int}(KX:K.In s₁.heap)(hns:s₁.heap.Ns mainGlobals mg)(hb:s₁.heap.Ns builtinsNs mb)(hbb:∀x:Str,x≠"__name__"->mb x=bootBuiltins x)(hlim:s₁.heap.NoLimit)(hg:s₁.gens=#[])(ha:s₁.heap.get? a=some {cls:=.type "list",data:=.seq vs.toArray})(hi:UZ vs ns)(hl:ns.length<=sizeLine)(hr:aU k callerA)(F:∀base:Ux,K.In base->base.Ns mainGlobals mg->bz P w K mg base CX k fa fd [x] sp)(hbind:∀(s:FB)(u:Do),BindsTo s fd ⟨[u],[]⟩ [(x,u)])(hsp:∀H:Hp,u9 H->ao K H a (ns.map V.int)->sp [.ref a] H (fun v _=>v=.bl true) fun _ _ _=>False)(hCX:∀H e s',CX [] H s₁ (fun _ _ _=>False) e s'->False): codeAny (model P w) callerA (.call (.ref fa) ⟨[.ref a],[]⟩) (fun r s'=>r=.ok (.ret (.bool true))/\OldK s₁.heap s'.heap/\s'.os=s₁.os/\Xd s'.gens) s₁:=by
 have rv:=mW hi;have lenV:=hi.length;--from an abstract heap in which nothing but the script may be tracked
 have core:∀H:Hp,u9 H->ao K H a (ns.map V.int)->bW P w H s₁.heap->(∀b,H b≠none->b=a)->(H a≠none->K.lookup a=none)->codeAny (model P w) callerA (.call (.ref fa) ⟨[.ref a],[]⟩) (fun r s'=>r=.ok (.ret (.bool true))/\OldK s₁.heap s'.heap/\s'.os=s₁.os/\Xd s'.gens) s₁:=by
  intro H hO hS hok hA hK;have base_of:∀{b:GM}{o:Obj},s₁.heap.get? b=some o->H b=none->(ik s₁.heap H).get? b=some o:=fun e n=>yH e n;have noA:∀{b:GM}{o:Obj}{es:Array Ts}{ep:Nat},s₁.heap.get? b=some o->o.data=.dict es ep->H b=none:=fun{b o es ep}e d=>by cases q:H b with
   |none=>rfl
   |some u=> have e':b=a:=hA b (by rw[q];simp);subst e';rw[ha]at e;cases e;have d':Data.seq vs.toArray _=Data.dict es ep:=d;cases d'
  have nsK:∀{b:GM}{m:Str->Option Do},s₁.heap.Ns b m->(ik s₁.heap H).Ns b m:=fun{b m}⟨o,es,ep,e,d,r⟩=>⟨o,es,ep,base_of e (noA e d),d,r⟩;have hKb:K.In (ik s₁.heap H):=fun b o e=>base_of (KX b o e) (by cases q:H b with
   |none=>rfl
   |some u=> have e':b=a:=hA b (by rw[q];simp);subst e';rw[hK (by rw[q];simp)]at e;cases e)
  have hM:Mod K mg (ik s₁.heap H):=⟨hKb,nsK hns,⟨mb,nsK hb,hbb⟩,let⟨mc,h1,h2⟩:=hlim; ⟨mc,nsK h1,h2⟩⟩;have e0:jU P w K mg (ik s₁.heap H) callerA [] s₁ H:=⟨rfl,hM,fun b o e=>D6 e,Nat.le_of_eq (vd _ _),trivial,fun b hb=>absurd (show b∈([]:List GM)from hb) (by simp),hok,.of_eq hg⟩;refine U8 ((F _ hKb (nsK hns)).run callerA [] s₁ H ⟨[.ref a],[]⟩ [.ref a] [.ref a] _ _ hr e0 (hbind s₁ (.ref a)) (.cons rfl .nil) (hsp H hO hS)) fun r s' h=>?_;cases r with
  |error e=>exact(hCX H e s' h).elim
  |ok fl=>cases fl with
   |next=>exact Up h
   |brk=>exact Up h
   |cont=>exact Up h
   |ret u=> obtain⟨v,H',os,bare,un,hok',r',q⟩:=h;have q':v=.bl true:=q;subst q';obtain rfl:u=WY true:=r';refine⟨rfl,OldK.of_keep fun b o e=>?_,os,bare⟩;cases q:H b with
    |none=>exact un.keep b o e q (by intro z;exact absurd (show b∈([]:List GM)from z) (by simp)) (by simp)
    |some u=>
     rcases hO b with z| ⟨ob,xs,z⟩;·rw[q]at z;cases z
     ·have z2:=un.frzs b ob _ z
      obtain⟨e1,_⟩:=hok b _ z;obtain⟨e2,_⟩:=hok' b _ z2;rw[e]at e1;cases e1;exact e2
 cases hk:K.lookup a with
 |some o=>--the script is one of the module's own objects
  have e:=KX a o hk;rw[ha]at e;cases e;refine core (fun _=>none) (fun _=>.inl rfl) (.inr ⟨_,vs.toArray,_,hk,rfl,rfl,rfl,by rw[Re,lenV];exact hl,by simpa using rv⟩) (fun b u z=>by have z':(none:Option HO)=some u:=z;cases z') (fun b z=>absurd rfl z) fun z=>absurd rfl z
 |none=>
  refine core (fun b=>if b=a then some (.frz {cls:=.type "list",data:=.seq vs.toArray} (.lst (ns.map V.int)))else none) (fun b=>?_) (.inl (.inr ⟨{cls:=.type "list",data:=.seq vs.toArray},if_pos rfl⟩)) (fun b u z=>?_) (fun b z=>?_) fun _=>hk
  ·by_cases hb:b=a
   ·exact .inr ⟨_,_,if_pos hb⟩
   ·exact .inl (if_neg hb)
  ·by_cases hb:b=a
   ·have z':=(if_pos hb).symm.trans z
    cases z'
    subst hb;exact⟨ha,by rw[FS];exact hl,vs,_,rv,ha⟩
   ·have z':=(if_neg hb).symm.trans z
    cases z'
  ·by_cases hb:b=a
   ·exact hb
   ·exact absurd (if_neg hb) z
noncomputable abbrev SG{K:SL}{h:Ux}(_:K.In h):SL:=K
theorem walk_of{l:W.OpenLaw}{n k:Nat}{q:SK}{loose:List Str}{XP:(Str->Option Do)->Ux->Prop}{YP:Tc->Ux->Prop}{d:DefRec}{K:IR->KB}{CX:Tc->gc}{sp:Tc->Sp}{x:Str}(hn:l.most=some n)(hn2:n<=sizeLine)(hdf:d.params.defaults=[])(hr:aU k callerA)(hY:∀(w:Tc)(h:Ux),YP w h->(K w.params).In h)(F:∀(w:Tc)(mg:Str->Option Do)(fa:GM)(h:Ux),(K w.params).In h->h.Ns mainGlobals mg->mg d.name=some (.ref fa)->∃fd:TK,(∀(s:FB)(u:Do),BindsTo s fd ⟨[u],[]⟩ [(x,u)])/\∀base:Ux,(K w.params).In base->base.Ns mainGlobals mg->bz l.prog w (K w.params) mg base (CX w) k fa fd [x] (sp w))(hsp:∀(w:Tc)(H:Hp)(a:GM)(ns:List Int),ns.length<=n->u9 H->ao (K w.params) H a (ns.map V.int)->sp w [.ref a] H (fun v _=>v=.bl true) fun _ _ _=>False)(hCX:∀(w:Tc)(H:Hp)(s:FB)(e:Do)(s':FB),CX w [] H s (fun _ _ _=>False) e s'->False): W.WalkO q loose XP YP l.row.toRowW d [] (fun f vs=>PySem.call f vs):=by refine Att.attach_call hn hdf fun w s₀ s₁ mg mb fa o pm cd doc a vs ns G Y ho hd hcd hmg hobj hints hlen hg=>?_;have KX:=hY w _ Y;obtain⟨fd,hb,hF⟩:=F w mg fa _ KX G.T.g hmg;exact A8 KX G.T.g G.T.b G.T.builtins G.T.nolimit hg hobj hints (Tt hlen hn2) hr hF hb (fun H hO hS=>hsp w H a ns hlen hO hS) fun H e s'=>hCX w H s₁ e s'
noncomputable def inClass(s:T4)(j:Nat):T4:=match s with
 |.ClassDef _ _ _ body _ _ _ _ _ _ _=>body.getD j (.Pass ⟨0,0,0,0⟩)
 |_=>.Pass ⟨0,0,0,0⟩
noncomputable def cR(s:T4):Arguments:=match s with
 |.FunctionDef _ a _ _ _ _ _ _ _ _=>a
 |_=>{posonlyargs:=[],args:=[],vararg:=none,kwonlyargs:=[],kw_defaults:=[],kwarg:=none,defaults:=[]}
noncomputable def bI(s:T4):List T4:=match s with
 |.FunctionDef _ _ b _ _ _ _ _ _ _=>b
 |_=>[]
noncomputable def aj(s:T4):X0:=match s with
 |.FunctionDef _ _ _ _ _ _ sc _ _ _=>sc
 |_=>{kind:=.function,names:=[],isGenerator:=false,isCoroutine:=false}
abbrev lF:gc:=fun _ _ _ _ _ _=>False
abbrev E0:XK:=fun _ _ _=>False
structure aE(K:KB)(x qual:Str)(st:T4)(f:GM)(fd:TK):Prop where
 ex:∃(oc:Do)(od:Option GM)(kV doc pm:Do)(an:Option GM)(cdv ct:Do)(osl:Array (Option Do)),fd=Yh x qual (cR st) (bI st) (aj st) .none kV doc pm an cdv ct/\K.lookup f=some ⟨oc,od,.func fd,osl⟩/\W.codeIn K cdv qual=true
 kp:W.keepIn K (.ref f)=true
section
variable{P:SK}{w:Tc}{K:KB}{mg:Str->Option Do}{base:Ux}
theorem aE.ok{x qual:Str}{st:T4}{f:GM}{fd:TK}{N ps:List Str}{k:Nat}{sp:Sp}(F:aE K x qual st f fd)(S:aq N ps (aj st))(len:∀vs H Q E,sp vs H Q E->vs.length=ps.length)(hbody:∀(cdv:Do)(A:Tf)(outer:List Env)(s:FB)(H:Hp)(vs:List V)(Q:VK)(E:XK),aU k (A.deeper (envOfC qual (aj st) s.heap.objs.size f cdv))->sp vs H Q E->∃t,dq (fk lF P w K mg base N qual (aj st) f cdv A outer s H E).nox (bI st) t/\t {nx:=fun _ H'=>Q .non H',rt:=Q} (start N vs) H):bz P w K mg base lF (k+1) f fd ps sp:=by obtain⟨oc,od,kV,doc,pm,an,cdv,ct,osl,rfl,lk,hcd⟩:=F.ex;refine CH lk hcd S len fun A outer s H vs Q E hr hsp=>?_;obtain⟨t,h,q⟩:=hbody cdv A outer s H vs Q E hr hsp;exact⟨t,h.nox,q⟩
theorem aE.binds{x qual:Str}{st:T4}{f:GM}{fd:TK}{ps:List Str}(F:aE K x qual st f fd)(h:∀(kV doc pm:Do)(an:Option GM)(cdv ct:Do)(us:List Do),us.length=ps.length->bindArgs (Yh x qual (cR st) (bI st) (aj st) .none kV doc pm an cdv ct) ⟨us,[]⟩=pure (ps.zip us)):Binds K fd ps []:=by obtain⟨oc,od,kV,doc,pm,an,cdv,ct,osl,rfl,lk,hcd⟩:=F.ex;exact .all (h kV doc pm an cdv ct)
theorem fun_mk{x qual:Str}{st:T4}{f:GM}{oc:Do}{od an:Option GM}{osl:Array (Option Do)}{kV doc pm cdv ct:Do}(l:K.lookup f=some ⟨oc,od,.func (Yh x qual (cR st) (bI st) (aj st) .none kV doc pm an cdv ct),osl⟩)(c:W.codeIn K cdv qual=true)(k:W.keepIn K (.ref f)=true):aE K x qual st f (Yh x qual (cR st) (bI st) (aj st) .none kV doc pm an cdv ct):=⟨⟨oc,od,kV,doc,pm,an,cdv,ct,osl,rfl,l,c⟩,k⟩
end
theorem NL{A:Tf}{k:Nat}(hr:aU k A):A.units+1<cLine:=Vm (Nat.add_le_add_left (by decide:1<=64) _) hr.units
section
variable{X:Cx}
theorem pv(i:Nat){x:Str}{pos:Pos}(hN:X.N[i]?=some x:=by rfl)(hv:mG X.env.scope x:=by first|exact SI rfl|exact WA (SI rfl)|exact WA (WA rfl))(hd:(x== ("__debug__" :Str))=false:=by decide)(hcd:(x== ("__classdict__" :Str))=false:=by decide):PE X (.Name x pos) (KC i):=iY hN hv hd hcd
end
theorem aP{A B:Prop}(h:B):if false=true then A else B:=by rw[if_neg SJ];exact h
theorem bw{A B:Prop}(h:A):if true=true then A else B:=by rw[if_pos rfl];exact h
theorem g9{c A B:Prop}[Decidable c](h1:c->A)(h2:¬c->B):if c then A else B:=by
 by_cases h:c
 ·rw[if_pos h]
  exact h1 h
 ·rw[if_neg h]
  exact h2 h
theorem dS{c A B:Prop}[Decidable c](hc:c)(h:B):if(!decide c)=true then A else B:=by rw[decide_eq_true hc];exact aP h
def af(H H':Hp):Prop:=∀b o,H b=some o->H' b=some o
theorem af.refl(H:Hp):af H H:=fun _ _ h=>h
theorem af.trans{H H1 H2:Hp}(a:af H H1)(b:af H1 H2):af H H2:=fun c o h=>b c o (a c o h)
theorem af.free{H H':Hp}(e:af H H'){l:GM}(h:H' l=Xf):H l=Xf:=by cases q:H l with
 |none=>rfl
 |some o=> rw[e l o q]at h;cases h
theorem af.seq{K:KB}{H H':Hp}{a:GM}{xs:List V}(e:af H H')(h:ao K H a xs):ao K H' a xs:=by
 rcases h with(h| ⟨o,h⟩)|h;·exact .inl (.inl (e _ _ h))
 ·exact .inl (.inr ⟨o,e _ _ h⟩)
 ·exact .inr h
end L2
set_option maxHeartbeats 4000000
namespace L2
open PySem PySem.Spec PyProof.Rows
section
variable{X:Cx}
def NH(i j:Int):Prop:=0<j/\j.natAbs.log2<9000
theorem fM:bX X (binaryOp .FloorDiv) (rI NH fun i j=>.int (i/j)):=Ds fun i j _ _ _ _ _ hc q=>by have h1:(0:Int)<j:=hc.1;exact floordiv_int (by lia) (by rw[Int.fdiv_eq_ediv_of_nonneg i (by lia)];exact q) (.inl (PyProof.noPylong_of_log2 hc.2))
theorem Ab(hc:X.calm=true):ck X (.builtin "sum") (fun xs H Q=>∃(p:GM)(ns:List Int),xs=[.ref p]/\ao X.K H p (ns.map V.int)/\Q (.int ns.sum) H):=by
 intro pins s σ H xs us Q I r h;obtain⟨p,ns,rfl,hl,q⟩:=h;obtain⟨u,rfl,ru⟩:=vals1 r;cases ru;obtain⟨its,r',pl,hz⟩:=I.list hl;have hi:UZ its ns:=intsAre_of r';have hall:AllInts its.toArray:=hi.allInts;obtain⟨ys,e⟩:=hall.items;have hl':s.heap.IsList p (intItems ys):=by rw[<-e];exact pl.isList
 refine sum_intListG (I.ok.hd hc) hl' fun h' tk t' hk=>?_;have e2:preSum (numAt ys) ys.size=ns.sum:=by
  have e3:numsOf (intItems ys).toList=ns:=by rw[<-e];exact hi.numsOf
  rw[preSum_eq,Tg (by simp),<-e3,nums_intItems]
 rw[e2];exact⟨.int ns.sum,H,I.kept hk,⟨_,rfl⟩,q⟩
theorem dc:ck X (.builtin "isinstance") (fun xs H Q=>∃x c cv t b,xs=[x,c]/\(∀u,RelV c u->u=cv)/\eh X.K H x t/\UR X.K t cv=some b/\Q (.bl b) H):=by intro pins s σ H xs us Q I r h;obtain⟨x,c,cv,t,b,rfl,hcv,ty,e,q⟩:=h;obtain⟨u,w',rfl,r1,r2⟩:=vals2 r;rw[hcv w' r2];exact w8 I r1 ty e fun tk=>⟨.bl b,H,I.tok _,rfl,q⟩
theorem g8:∀u,RelV (.ty n) u->u=Ut n:=fun _ h=>h
noncomputable def ir(x:Str):It:=⟨fun i _=>i<x.cps.size,fun i H v H'=>H'=H/\∃c,x.cps[i]?=some c/\v=.str ⟨#[c]⟩,fun i _=>i=x.cps.size⟩
theorem oj{P:SK}{w:Tc}{K:KB}{tg:Uo}(it:GM)(ty:String)(x:Str)(t:Tok)(W:∀A:Tf,A.handled=none->Walks P w A it [it] [it] x.cps.size (SignAt x) (fun i h=>h.IsStrIter it ty x t i))(hty:["enumerate","zip","dict_itemiterator","dict_reverseitemiterator","odict_iterator","itertools.zip_longest","itertools.pairwise"].contains ty=false)(hself:∀(A:Tf)(i:Nat)(s:FB)(Q:Do->FB->Prop)(E:Do->FB->Prop),s.heap.IsStrIter it ty x t i->Q (.ref it) s->wpAny (model P w) A (pyIter (.ref it)) Q E s): Turn P w K tg (ir x) [it] it (fun i h=>h.IsStrIter it ty x t i)where
 mem:=by simp
 obj:=fun i h st b hb=>by
  have e:b=it:=by simpa using hb
  subst e;obtain⟨o,e,c,d⟩:=st;exact⟨o,e,fun v z=>by rw[d]at z;cases z⟩
 keep:=fun i h h' st k=>by obtain⟨o,e,c,d⟩:=st;exact⟨o,k it (by simp) o e,c,d⟩
 item:=by intro X hP hw hK hc i pins s σ H E I hf st hg;subst hP hw hK;obtain⟨f0,f1,f2,f3,f4,f5⟩:=hf it (by simp);refine(W X.A (I.ok.hd hc)).item i s _ _ hg st fun v h' tk hv st' kk=>?_;obtain⟨c,u,ec,rfl⟩:=hv;have I1:Inv X pins σ H {s with heap:=h',toks:=tk}:=I.turned (fun b o hb e=>kk b o (by simpa using hb) e) f0 f1 f3 f4 f5;obtain⟨o,e,cl,d⟩:=id st';exact⟨_,rfl,nK (s:={s with heap:=h',toks:=tk}) e cl d hty ⟨.str ⟨#[c]⟩,H,I1,⟨_,rfl⟩,⟨rfl,c,ec,rfl⟩,st',fun b hb=>(hf b hb).1⟩⟩
 done:=by intro X hP hw hK hc i pins s σ H E I hf st hg;subst hP hw hK;obtain⟨f0,f1,f2,f3,f4,f5⟩:=hf it (by simp);have hi:i=x.cps.size:=hg;subst hi;exact(W X.A (I.ok.hd hc)).done s _ _ st fun h' tk kk=>⟨rfl,I.turned (fun b o hb e=>kk b o (by simpa using hb) e) f0 f1 f3 f4 f5⟩
 self:=hself
def Qt(tl:TE):TI:=fun σ H R=>tl σ H fun v H1=>∃x,v=.str x/\R (ir x) H1
theorem vL(hl:PE X l tl):PI X tg l (Qt tl):=by
 intro pins s σ H R I h;refine aD (hl pins s σ H _ I h) fun v s1⟨y,H1,I1,r1,q1⟩=>?_;obtain⟨x,e,q⟩:=q1;subst e;obtain⟨t,rfl⟩:=r1;have fin:∀(o:Obj)(ty:String),(s1.heap.push o).IsStrIter s1.heap.objs.size ty x t 0->Turn X.prog X.w X.K tg (ir x) [s1.heap.objs.size] s1.heap.objs.size (fun i h=>h.IsStrIter s1.heap.objs.size ty x t i)->BX X pins σ tg R (.ref s1.heap.objs.size) {s1 with heap:=s1.heap.push o}:=fun o ty st T=>by
  refine⟨s1.heap.objs.size,[s1.heap.objs.size],_,_,H1,rfl,I1.kept (t':=s1.toks) fun b o e=>Fk _ e,T,st,fun b hb=>?_,q⟩;have e:b=s1.heap.objs.size:=by simpa using hb
  subst e;exact I1.fpOk (M2 _) (I1.hok.fresh (M2 _))
 cases ha:x.cps.all (·<128)
 ·exact wpAny_pyIter_wide ha (fin _ "str_iterator" ⟨_,SB _ rfl,rfl,rfl⟩ (oj _ _ x t (fun A' hA=>Walks.strWide hA _ x t) (by decide) fun _ _ _ _ _ st h=>wpAny_pyIter_striter_wide st h))
 ·exact wpAny_pyIter_ascii ha (fin _ "str_ascii_iterator" ⟨_,SB _ rfl,rfl,rfl⟩ (oj _ _ x t (fun A' hA=>Walks.strAscii hA _ x t) (by decide) fun _ _ _ _ _ st h=>wpAny_pyIter_striter_ascii st h))
theorem rg{x:Str}{g:TG}{tb:TS}{D:Ends}{σ:St}{H:Hp}(Pv:Nat->St->Hp->Prop)(h0:Pv 0 σ H)(hs:∀i c σ H,x.cps[i]?=some c->Pv i σ H->g (.str ⟨#[c]⟩) σ H fun σ2 H2=>tb {D with nx:=Pv (i+1),ct:=Pv (i+1),bk:=D.nx} σ2 H2)(hd:∀σ H,Pv x.cps.size σ H->D.nx σ H): ∃W:Nat->Nat->St->Hp->Prop,(∃m,W 0 m σ H)/\∀i m σ H,W i m σ H-> ((ir x).stop i H/\D.nx σ H)\/((ir x).go i H/\∃N:St->Hp->Prop,(∀σ' H',N σ' H'->∃m',m'<m/\W (i+1) m' σ' H')/\∀v H',(ir x).yld i H v H'->g v σ H' fun σ2 H2=>tb {D with nx:=N,ct:=N,bk:=D.nx} σ2 H2):=by
 refine⟨fun i m σ H=>m=x.cps.size-i/\i<=x.cps.size/\Pv i σ H,⟨x.cps.size,by simp,KM _,h0⟩,?_⟩;rintro i m σ H ⟨rfl,hi,p⟩;by_cases hlt:i<x.cps.size
 ·refine .inr ⟨hlt,Pv (i+1),fun σ' H' p'=>⟨x.cps.size- (i+1),by lia,rfl,hlt,p'⟩,fun v H' y=>?_⟩
  obtain⟨e,c,ec,ev⟩:=y;subst e ev;exact hs i c σ _ ec p
 ·have e:i=x.cps.size:=by lia
  subst e;exact .inl ⟨rfl,hd σ H p⟩
def Qd:V->Option Int->Option Int->Hp->VK->Prop:=fun v lo hi H Q=>∃x,v=.str x/\x.length<=sizeLine/\Q (.str (Txt.slice x lo hi)) H
theorem gO:CM X Qd:=by
 intro pins s σ H v vv vl vu lo hi sl Q I rx hs pl pu h;obtain⟨x,rfl,hz,q⟩:=h;obtain⟨t,rfl⟩:=rx;refine⟨"str",_,F.slot_str_getitem.lookup,typeIs_str _ _ _,?_⟩;have fin:∀(l u:Option (Int×Tok)),s.heap.IsSlice sl l u none->l.map (·.1)=lo->u.map (·.1)=hi->wpAny (model X.prog X.w) X.A (getItem (.str x t) (.ref sl)) (EP X pins σ Q) X.xe s:=fun l u hsl el eu=>by refine wpAny_getItem_str_slice (l:=l) (u:=u) (st:=none) hsl rfl ?_;subst el eu;exact post_val_or_str ⟨Tt (Txt.slice_le x _ _) hz,fun t' k=>⟨.str (Txt.slice x (l.map (·.1)) (u.map (·.1))),H,I.tok _,⟨t',rfl⟩,q⟩⟩
 cases pl with
 |none=>cases pu with
  |none=>exact fin none none hs rfl rfl
  |int j uj=>exact fin none (some (j,uj)) hs rfl rfl
 |int i ui=>cases pu with
  |none=>exact fin (some (i,ui)) none hs rfl rfl
  |int j uj=>exact fin (some (i,ui)) (some (j,uj)) hs rfl rfl
theorem kM:∀{us:List Do},Vals (ys.map V.str) us->StrsAre us ys:=by induction ys with
 |nil=>intro us r;rw[VP]at r;cases r;exact .nil
 |cons n ns ih=> intro us r;rw[SQ]at r;cases r with
  |cons h t=> obtain⟨tk,rfl⟩:=h;exact .cons n tk (ih t)
def rJoin(K:KB):V->List V->Hp->VK->Prop:=fun x vs H Q=>∃sep p ys,x=.str sep/\vs=[.ref p]/\ao K H p (ys.map V.str)/\(ys.map (·.length)).sum+ys.length*sep.length<=16777216/\Q (.str (Txt.join sep ys)) H
theorem Ea:jC X "str.join" (rJoin X.K):=by
 intro pins s σ H x xs v us Q I rx rs h;obtain⟨sep,p,ys,rfl,rfl,hl,hok,q⟩:=h;obtain⟨t,rfl⟩:=rx;obtain⟨u,rfl,ru⟩:=vals1 rs;cases ru;obtain⟨its,r',pl,hz⟩:=I.list hl;exact join_list pl.isList (kM r') hok fun t' k=>⟨.str (Txt.join sep ys),H,I.tok _,⟨_,rfl⟩,q⟩
end
theorem nB{α β:Type}{l:List α}{f:α->β->Sem (ForInStep β)}(g:β->α->β)(c:β)(h:∀x∈l,∀c,f x c=pure (.yield (g c x))):forIn l c f=pure (l.foldl g c):=by induction l generalizing c with
 |nil=>rfl
 |cons x l ih=> rw[WB,h x SY,pure_bind];exact ih _ fun y hy=>h y (SH _ hy)
noncomputable def oK(cells:List (Str×GM))(names:List (Str×X1))(acc:List (Str×GM)):List (Str×GM):=names.foldl (fun cs y=>if y.2==.free then(y.1,(cells.lookup y.1).getD 0)::cs else cs) acc
theorem ug{scope:X0}{env:Env}(h:∀y∈scope.names,y.2=.free->∃c,env.cells.lookup y.1=some c):closureFor scope env=pure (oK env.cells scope.names []):=by
 simp only[closureFor];rw[nB (fun cs y=>if y.2==.free then(y.1,(env.cells.lookup y.1).getD 0)::cs else cs) [] fun x hx c=>?_];·rfl
 ·obtain⟨n,k⟩:=x
  by_cases hk:k=.free
  ·subst hk
   obtain⟨a,ea⟩:=h (n,.free) hx rfl;have ea':env.cells.lookup n=some a:=ea;simp only[beq_self_eq_true,if_true,cellOf,ea',pure_bind,Wo]
  ·have hb:(k==Wu)=false:=by simpa using hk
   simp only[hb,Ta,if_false]
theorem lookup_mem{α:Type}:∀{l:List (Str×α)}{x:Str}{c:α},l.lookup x=some c->(x,c)∈l
 | [],_,_,h=>by simp at h
 | (y,d)::r,x,c,h=>by rw[Uv]at h;cases hx:x==y with
  |true=>
   rw[hx]at h;have e:x=y:=by simpa using hx
   subst e;cases h;exact SY
  |false=> rw[hx]at h;exact SH _ (lookup_mem h)
theorem mem_lookup{α:Type}:∀{l:List (Str×α)}{x:Str}{c:α},(x,c)∈l->∃d,l.lookup x=some d
 | [],_,_,h=>by cases h
 | (y,d)::r,x,c,h=>by rw[Uv];cases hx:x==y with
  |true=>exact⟨d,rfl⟩
  |false=>
   rcases GT.mp h with e|h;·cases e;simp at hx
   ·exact mem_lookup h
theorem jZ:∀{names:List (Str×X1)}{acc:List (Str×GM)}{p:Str×GM},p∈oK cells names acc↔p∈acc\/((p.1,Wu)∈names/\p.2=(cells.lookup p.1).getD 0)
 | [],acc,p=>by simp[oK]
 | (n,k)::r,acc,p=>by
  show p∈oK cells r (if k==.free then(n,(cells.lookup n).getD 0)::acc else acc)↔_;rw[jZ (names:=r)];by_cases hk:k=.free
  ·subst hk
   simp only[beq_self_eq_true,if_true,GT];constructor
   ·rintro((rfl|h)|h)
    ·exact .inr ⟨.inl rfl,rfl⟩
    ·exact .inl h
    ·exact .inr ⟨.inr h.1,h.2⟩
   ·rintro(h| ⟨h|h,e⟩)
    ·exact .inl (.inr h)
    ·obtain⟨a,b⟩:=p
     cases h
     exact .inl (.inl (by rw[show b=_ from e]))
    ·exact .inr ⟨h,e⟩
  ·have hb:(k==Wu)=false:=by simpa using hk
   simp only[hb,Ta,if_false,GT];constructor
   ·rintro(h|h)
    ·exact .inl h
    ·exact .inr ⟨.inr h.1,h.2⟩
   ·rintro(h| ⟨h|h,e⟩)
    ·exact .inl h
    ·cases h;exact absurd rfl hk
    ·exact .inr ⟨h,e⟩
theorem gy(h:(relabel scope env).names.lookup x=some k):∃k',(x,k')∈scope.names/\(k'=k\/(k'=.free/\k=.cell)):=by
 have m:=lookup_mem h;unfold relabel at m;obtain⟨⟨n,k'⟩,hm,e⟩:=Uw.mp m;dsimp only at e;split at e
 ·rename_i hc
  rw[On,On]at hc;have e1:n=x:=congrArg X2 e;have e2:NameKind.cell=k:=congrArg Prod.snd e;subst e1 e2;exact⟨k',hm,.inr ⟨by simpa using hc.1.1,rfl⟩⟩
 ·have e1:n=x:=congrArg X2 e
  have e2:k'=k:=congrArg Prod.snd e;subst e1 e2;exact⟨k',hm,.inl rfl⟩
noncomputable def cj(X:Cx)(scope:X0)(N:List Str)(cl:List (Str×GM))(C:GM)(s:FB)(H:Hp)(fp:List GM)(xe:Do->FB->Prop):Cx:= {X with N:=N,s₀:=s,H₀:=H,env:=compEnvC scope cl C X.env,outer:=X.stack,stack:=X.stack,ex:=fp,fn:=fun _=>false,pn:=[],xe:=xe}
inductive fh(X:Cx)(scope:X0):List Str->List (Option Nat)->Prop where|nil:fh X scope [] [] |own {x:Str}{N:List Str}{ix:List (Option Nat)} (r:fh X scope N ix):fh X scope (x::N) (none::ix)
 |cap {x:Str}{j:Nat}{N:List Str}{ix:List (Option Nat)} (h1:X.N[j]?=some x) (h2:X.env.kindOf x=some .cell) (h3:(relabel scope X.env).names.lookup x=some .cell) (r:fh X scope N ix):fh X scope (x::N) (some j::ix)
noncomputable def eG(ix:List (Option Nat))(σ:St):St:=ix.map fun o=>match o with
 |none=>none
 |some j=>(σ[j]?).getD none
theorem fh.get:∀{N:List Str}{ix:List (Option Nat)},fh X scope N ix->∀(i:Nat)(x:Str)(v:V),N[i]?=some x->(eG ix σ)[i]?=some (some v)->∃j:Nat,X.N[j]?=some x/\σ[j]?=some (some v)/\X.env.kindOf x=some .cell/\(relabel scope X.env).names.lookup x=some .cell
 |_,_,.nil,i,x,v,h,_=>by simp at h
 |_,_,.own r,0,x,v,_,h=>by simp[eG]at h
 |_,_,.own r,i+1,x,v,h1,h2=>r.get i x v (by simpa using h1) (by simpa[eG]using h2)
 |_,_,.cap (j:=j) e1 e2 e3 r,0,x,v,h1,h2=>by simp at h1;subst h1;refine⟨j,e1,?_,e2,e3⟩;simp only[eG,SQ,Vd,X8]at h2;cases q:σ[j]? with
  |none=>rw[q]at h2;cases h2
  |some o=>rw[q]at h2;simp only[Wo]at h2;rw[h2]
 |_,_,.cap e1 e2 e3 r,i+1,x,v,h1,h2=>r.get i x v (by simpa using h1) (by simpa[eG]using h2)
theorem fh.length(h:fh X scope N ix):ix.length=N.length:=by induction h with
 |nil=>rfl
 |own _ ih=>simp[ih]
 |cap _ _ _ _ ih=>simp[ih]
def Ext(a b:St):Prop:=b.length=a.length/\∀(i:Nat)v,a[i]?=some (some v)->b[i]?=some (some v)
theorem Ext.set(h:a[i]?=some none):Ext a (a.set i (some v)):=by
 refine⟨by simp,fun j w e=>?_⟩;by_cases hj:j=i;·subst hj;rw[h]at e;cases e
 ·rw[VD (T6 hj)];exact e
theorem Ext.trans(h:Ext a b)(h':Ext b c):Ext a c:=⟨h'.1.trans h.1,fun i v e=>h'.2 i v (h.2 i v e)⟩
def xv(X:Cx)(ifs:List Uo)(t:TT):Prop:=∀(pins:List (GM×Obj))(s:FB)(σ:St)(H:Hp)(Q:Bool->Hp->Prop),Inv X pins σ H s->t σ H Q->wpAny (model X.prog X.w) X.A (forIn ifs true fun c r=>if r=true then do let ok<-isTrue c X.env (eval c X.env);pure (WC ok)else pure (WC r)) (TP X pins σ Q) X.xe s
def BR:TT:=fun _ H Q=>Q true H
theorem bQ:xv X [] BR:=fun pins s σ H Q I h=>wpAny_tests_nil ⟨H,I,h⟩
theorem cN(h:PT X c t):xv X [c] t:=fun pins s σ H Q I q=>wpAny_tests_one (h pins s σ H Q I q)
def eQ(J:It)(g:TG)(tt:TT)(te:TE)(σ0:St)(D:GM)(Q:VK)(H1:Hp):Prop:=∃W:Nat->Nat->List V->Hp->Prop,(∃m,W 0 m [] (upd H1 D (.lst [])))/\∀i m ys H,W i m ys H-> (J.stop i H/\Q (.ref D) H)\/(J.go i H/\∀x H',J.yld i H x H'->g x σ0 H' fun σ2 H2=>Ext σ0 σ2/\tt σ2 H2 fun b H3=>if b=true then te σ2 H3 fun v H4=>H4 D=some (.lst ys)/\ys.length<sizeLine/\∃m',m'<m/\W (i+1) m' (ys++[v]) (upd H4 D (.lst (ys++[v])))else∃m',m'<m/\W (i+1) m' ys H3)
def r9(wi:TI)(g:TG)(tt:TT)(te:TE)(ix:List (Option Nat)):TE:=fun σ H Q=>wi σ H fun J H1=>∀D,H1 D=none->eQ J g tt te (eG ix σ) D Q H1
section
variable{prog:SK}{w:Tc}{A:Tf}{R:Yd->FB->Prop}{s:FB}
theorem wA(I:Nat->FB->Prop)(turn:∀n s,I n s->wpAny (model prog w) A (pyNext it) (fun r s₁=>match r with|none=>R (.ok .next) s₁|some v=>wpAny (model prog w) A (letOwnedTupleGo target it v) (fun _ s₁'=>wpAny (model prog w) A (assign target env v) (fun _ s₂=>wpAny (model prog w) A (forIn ifs true fun c r=>if r=true then do let ok<-isTrue c env (eval c env);pure (WC ok)else pure (WC r)) (fun ok s₃=>if ok=true then wpAny (model prog w) A (eval elt env) (fun x s₄=>wpAny (model prog w) A (call (.builtin "list.append") [acc,x]) (fun _ s₅=>∃m,m<n/\I m s₅) (notedBy (model prog w) A env fun e s'=>R (.error e) s') s₄) (notedBy (model prog w) A env fun e s'=>R (.error e) s') s₃ else∃m,m<n/\I m s₃) (notedBy (model prog w) A env fun e s'=>R (.error e) s') s₂) (notedBy (model prog w) A env fun e s'=>R (.error e) s') s₁') (notedBy (model prog w) A env fun e s'=>R (.error e) s') s₁) (notedBy (model prog w) A env fun e s'=>R (.error e) s') s)(n:Nat)(h:I n s):codeAny (model prog w) A (.compLoop (.ListComp elt [⟨target,iter,ifs,0⟩] scope pos) 0 it acc env) R s:=by refine codeAny_loop rfl I (fun n s hI=>?_) n h;show wpAny _ A ((compTurn (.ListComp elt [⟨target,iter,ifs,0⟩] scope pos) 0 it acc env).onRaise (fun x=>do noteFrame x env;theTreesLotGoes x)) _ _ s;refine wpAny_noted ?_;rw[compTurn_list];refine tz (Wt (tz (TZ (turn n s hI) (fun r s₁ h₁=>?_) fun _ _ h'=>h')));cases r with
 |none=>exact Gc h₁
 |some v=> refine tz (TZ h₁ (fun _ s₁' h₁'=>?_) fun _ _ h'=>h');refine tz (TZ h₁' (fun _ s₂ h₂=>tz (TZ h₂ (fun ok s₃ h₃=>?_) fun _ _ h'=>h')) fun _ _ h'=>h');cases ok with
  |false=>exact Gc ⟨rfl,h₃⟩
  |true=>exact tz (tz (TZ h₃ (fun x s₄ h₄=>tz (TZ h₄ (fun _ s₅ h₅=>Gc (Gc ⟨rfl,h₅⟩)) fun _ _ h'=>h')) fun _ _ h'=>h'))
end
section
variable{X:Cx}
noncomputable def pR(sc:X0):Bool:=sc.names.all fun y=>y.2 !=.cell
noncomputable def freeOk(sc:X0)(env:Env):Bool:=sc.names.all fun y=>y.2 !=.free||env.kindOf y.1==some .cell
noncomputable def namesOk(sc:X0):Bool:=sc.names.all fun y=>y.2 !=.local||sc.names.lookup y.1==some .local
structure hV(X:Cx)(pins:List (GM×Obj))(σ:St)(H:Hp)(C:GM)(s:FB):Prop where
 inv:Inv X pins σ H s
 ns:∃m,s.heap.Ns C m
 free:H C=none
 loc:C≠X.env.locals
 young:X.s₀.heap.objs.size<=C
 cell:∀x c,X.env.cells.lookup x=some c->c≠C
 pin:∀p∈X.pn++pins,p.1≠C
theorem hV.gone(B:hV X pins σ H C s)(hs:Vo C s.heap h'):Inv X pins σ H {s with heap:=h'}:=B.inv.turned (t':=s.toks) (it:=C) (fun b o hb e=>hs.extBut b o hb e) B.free B.loc (.inr B.young) B.cell B.pin
theorem m5(hc:X.calm=true)(hi:PI X tg iter wi)(hk:scope.kind=.function)(hcell0:pR scope=true)(hfree0:freeOk scope X.env=true)(hnames0:namesOk scope=true)(caps:fh X scope N ix)(hg:∀cl C s H fp xe,PG (cj X scope N cl C s H fp xe) tg g)(ht:∀cl C s H fp xe,xv (cj X scope N cl C s H fp xe) ifs tt)(he:∀cl C s H fp xe,PE (cj X scope N cl C s H fp xe) elt te)(hs:∀x,foldedSetIterable iter X.env x=pure x){pins:List (GM×Obj)}{s:FB}{σ:St}{H:Hp}{Q:VK}(I:Inv X pins σ H s)(h:r9 wi g tt te ix σ H Q)(fin:∀(C D:GM)(H6:Hp)(s6:FB),hV X pins σ H6 C s6->Q (.ref D) H6->compPost (model X.prog X.w) X.A X.xe use Qv (.ref D) C (.ok .next) s6): wpAny (model X.prog X.w) X.A (comprehension (.ListComp elt [⟨tg,iter,ifs,0⟩] scope pos) scope X.env pos' (newList []) false (eval iter X.env) use) Qv X.xe s:=by
 have hcell:∀y∈scope.names,y.2≠.cell:=fun y hy e=>by have:=SS.mp hcell0 y hy;rw[e]at this;exact absurd this (by decide)
 have hfree:∀y∈scope.names,y.2=.free->X.env.kindOf y.1=some .cell:=fun y hy e=>by have:=SS.mp hfree0 y hy;rw[e]at this;simpa using this
 have hnames:∀y∈scope.names,y.2=.local->scope.names.lookup y.1=some .local:=fun y hy e=>by have:=SS.mp hnames0 y hy;rw[e]at this;simpa using this
 have hcl:∀y∈scope.names,y.2=.free->∃c,X.env.cells.lookup y.1=some c:=fun y hy e=>I.ok.has y.1 (.inl (hfree y hy e));refine wpAny_comprehension_free (use:=use) rfl hs (ug hcl) hk hnames ?_;generalize ecl:oK X.env.cells scope.names []=cl;--the cells of the block are the def's
 have cl1:∀x c,cl.lookup x=some c->X.env.cells.lookup x=some c:=fun x c e=>by
  have m:=lookup_mem e;rw[<-ecl]at m;rcases jZ.mp m with z| ⟨z,z'⟩;·cases z
  ·obtain⟨a,ea⟩:=hcl _ z rfl
   have ea':X.env.cells.lookup x=some a:=ea;have z2:c=(X.env.cells.lookup x).getD 0:=z';rw[ea',Wo]at z2;rw[ea',z2]
 have cl2:∀x,(x,Wu)∈scope.names->∃c,cl.lookup x=some c:=fun x hx=>by
  have m:(x,(X.env.cells.lookup x).getD 0)∈cl:=by rw[<-ecl];exact jZ.mpr (.inr ⟨hx,rfl⟩)
  exact mem_lookup m
 refine aD (hi pins s σ H _ I h) fun v s1 h1=>aD h1 fun itv s2 h2=>?_;obtain⟨it,fp,tn,J,H2,e,I2,T,st2,f2,body⟩:=h2;subst e;refine UL (wpAny_newFunctionEnv hcell (by intro y hy;simp at hy) (fun h₁ hns₁ hsb₁=>?_) hk);dsimp only at hns₁ hsb₁|-;have hD:H2 s2.heap.objs.size=none:=I2.hok.fresh (M2 _);obtain⟨W,⟨m0,w0⟩,turn⟩:=body _ hD;have I3:Inv X pins σ (upd H2 s2.heap.objs.size (.lst [])) {s2 with heap:=s2.heap.push {cls:=.type "list",dict:=none,data:=.seq ([]:List Do).toArray}}:=I2.laid (t':=s2.toks) (fun b o e=>Fk _ e) (M2 _) ⟨KM _,[],0,.nil,SB _ rfl⟩;generalize hs3:({s2 with heap:=s2.heap.push {cls:=.type "list",dict:=none,data:=.seq ([]:List Do).toArray}}:FB)=s3 at I3;have es3:s2.heap.push {cls:=.type "list",dict:=none,data:=.seq ([]:List Do).toArray}=s3.heap:=by rw[<-hs3]
 rw[es3]at hns₁ hsb₁|-;generalize hD':s2.heap.objs.size=D at*;generalize hH3:upd H2 D (.lst [])=H3 at*;have szC:s3.heap.objs.size=D+1:=by rw[<-es3,Uk,hD']
 --what was,is
 have old:∀b o,s3.heap.get? b=some o->h₁.get? b=some o:=fun b o e=>hsb₁.extBut b o (SM (GE e)) (Fk _ e);have fpl:∀b∈fp,b<D:=fun b hb=>by obtain⟨o,e,_⟩:=T.obj 0 _ st2 b hb;rw[<-hD'];exact GE e
 have fpD:∀b∈fp,H3 b=none:=fun b hb=>by rw[<-hH3,aw (SM (fpl b hb))];exact(f2 b hb).1
 have fstk:∀b∈fp,b∉bS X.stack:=fun b hb z=>by
  obtain⟨_,f1,f3,_⟩:=f2 b hb;rcases GT.mp (I2.stkSub b z)with e|e;·exact f1 e
  ·exact f3 e
 let E':Do->FB->Prop:=notedBy (model X.prog X.w) X.A (compEnvC scope cl s3.heap.objs.size X.env) fun e s'=>compPost (model X.prog X.w) X.A X.xe use Qv (.ref D) s3.heap.objs.size (.error e) s';have ok':(cj X scope N cl s3.heap.objs.size s3 H3 fp E').Ok:=by
  refine{mod:=I.ok.mod,kind:=?_,glob:=I.ok.glob,blt:=I.ok.blt,above:=M2 _,inj:=?_,has:=?_,cab:=?_,hd:=I.ok.hd,frames:=I.ok.frames,stk:=.inl rfl,exf:=?_,bs:=I3.bs,bsz:=?_,noex:=?_,exfs:=fstk,funs:=I3.stack,frf:=I3.stkFree}
  ·show(relabel scope X.env).kind=.function
   exact hk
  ·exact fun x y c e1 e2=>I.ok.inj x y c (cl1 x c e1) (cl1 y c e2)
  ·intro x hx
   have hx':(relabel scope X.env).names.lookup x=some .cell\/(relabel scope X.env).names.lookup x=some .free:=hx;have:(x,Wu)∈scope.names:=by
    rcases hx' with e|e
    ·obtain⟨k',hm,z| ⟨z,_⟩⟩:=gy e
     ·subst z;exact absurd rfl (hcell _ hm)
     ·subst z;exact hm
    ·obtain⟨k',hm,z| ⟨z,z'⟩⟩:=gy e
     ·subst z;exact hm
     ·cases z'
   exact cl2 x this
  ·intro x c z;cases z
  ·intro b hb
   refine⟨fun z=>?_,fun x c e=>(f2 b hb).2.2.2.2.1 x c (cl1 x c e)⟩;have lt:=fpl b hb;have z':b=s3.heap.objs.size:=z;rw[z',szC]at lt;exact absurd lt (Nat.not_lt.mpr (UP D))
  ·exact Tt I3.ok.bsz I3.sz
  ·intro b o e hb
   rcases(f2 b hb).2.2.2.1 with z|z;·exact I.ok.noex b o e z
   ·exact absurd (SN (GE e) (Tt I.ok.bsz z)) (Tz _)
 have I4:∀tk,Inv (cj X scope N cl s3.heap.objs.size s3 H3 fp E') [] (eG ix σ) H3 {s3 with heap:=h₁,toks:=tk}:=fun tk=>by
  refine⟨ok',rfl,I3.bare,Un.kept old,⟨_,hns₁,fun i x v e1 e2 e3=>?_⟩,fun x c e=>?_,?_,fun x c e=>I3.freeC x c (cl1 x c e),fun p hp=>(by cases hp),I3.hok.kept old,?_⟩
  ·obtain⟨j,j1,j2,j3,j4⟩:=caps.get i x v e1 e2
   obtain⟨m,hn,hl⟩:=I3.loc;obtain⟨u,r,l⟩:=hl j x v j1 j2 (.inr (.inl j3));refine⟨u,r,.inr ⟨.inl j4,?_⟩⟩;rcases l with⟨l,_⟩| ⟨_,c,ec,hcell⟩
   ·have l':X.env.kindOf x=some .local:=l
    rw[j3]at l';cases l'
   ·obtain⟨k',hm,z| ⟨z,_⟩⟩:=gy j4
    ·subst z;exact absurd rfl (‹∀y∈scope.names,y.2≠.cell› _ hm)
    ·subst z
     obtain⟨c',ec'⟩:=cl2 x hm;have:=cl1 x c' ec';rw[ec]at this;cases this;obtain⟨o,ho,hd⟩:=hcell;exact⟨c,ec',o,old _ _ ho,hd⟩
  ·obtain⟨v,o,ho,hd⟩:=I3.cell x c (cl1 x c e)
   exact⟨v,o,old _ _ ho,hd⟩
  ·exact I3.hok.fresh (M2 _)
  ·show(eG ix σ).length=N.length
   rw[<-caps.length];simp[eG]
 have st4:tn 0 h₁:=T.keep 0 _ _ st2 fun b hb o e=>old b o (by rw[<-es3];exact Fk _ e);--the block's end
 have fin6:∀(s6:FB)(H6:Hp),Inv (cj X scope N cl s3.heap.objs.size s3 H3 fp E') [] (eG ix σ) H6 s6->Q (.ref D) H6->compPost (model X.prog X.w) X.A X.xe use Qv (.ref D) s3.heap.objs.size (.ok .next) s6:=fun s6 H6 I6 q=>by
  obtain⟨m,hn,_⟩:=I6.loc;refine fin s3.heap.objs.size D H6 s6 ⟨I3.call' (s':=s6) (ch:=fp) I6.os I6.base I6.hok I6.bare ?_,⟨m,hn⟩,I6.free,?_,I3.sz,?_,?_⟩ q
  ·intro b hb
   obtain⟨_,f1,_,f3,f4,f5⟩:=f2 b hb;exact⟨f3,f1,f4,f5⟩
  ·exact UU I3.lt
  ·intro x c e z
   obtain⟨v,o,ho,_⟩:=I3.cell x c e;exact absurd (GE ho) (by rw[z];exact Tz _)
  ·intro p hp z
   exact absurd (GE (I3.pin p hp).1) (by rw[z];exact Tz _)
 --the loop
 have loop:∀s4:FB,s4={s3 with heap:=h₁,toks:=s2.toks+([]:List (Str×Do)).length}->codeAny (model X.prog X.w) X.A (.compLoop (.ListComp elt [⟨tg,iter,ifs,0⟩] scope pos) 0 (.ref it) (.ref D) (compEnvC scope cl s3.heap.objs.size X.env)) (compPost (model X.prog X.w) X.A X.xe use Qv (.ref D) s3.heap.objs.size) s4:=by
  rintro s4 rfl;refine wA (fun n s'=>∃i ys H',Inv (cj X scope N cl s3.heap.objs.size s3 H3 fp E') [] (eG ix σ) H' s'/\tn i s'.heap/\(∀b∈fp,H' b=none)/\W i n ys H') ?_ m0 ⟨0,[],H3,I4 _,st4,fpD,w0⟩;rintro n s5 ⟨i,ys,H5,I5,st5,fr5,w5⟩;have stat:∀{H':Hp},(∀b∈fp,H' b=none)->∀b∈fp,fj (cj X scope N cl s3.heap.objs.size s3 H3 fp E') [] H' b:=fun hn b hb=>by refine⟨hn b hb,fun z=>?_,fstk b hb,.inl hb,fun x c e=>(f2 b hb).2.2.2.2.1 x c (cl1 x c e),fun p hp=>(by cases hp)⟩;have lt:=fpl b hb;have z':b=s3.heap.objs.size:=z;rw[z',szC]at lt;exact absurd lt (Nat.not_lt.mpr (UP D))
  rcases turn i n ys H5 w5 with⟨stop,q⟩| ⟨go,step⟩
  ·refine aD (T.done (cj X scope N cl s3.heap.objs.size s3 H3 fp E') rfl rfl rfl hc i [] s5 _ H5 E' I5 (stat fr5) st5 stop) fun r s6⟨hr,I6⟩=>?_
   subst hr;exact fin6 s6 H5 I6 q
  ·refine aD (T.item (cj X scope N cl s3.heap.objs.size s3 H3 fp E') rfl rfl rfl hc i [] s5 _ H5 E' I5 (stat fr5) st5 go) fun r s6⟨u,hr,h6⟩=>?_
   subst hr;refine aD h6 fun _ s7⟨x,H7,I7,r7,y7,st7,fr7⟩=>?_;have I7':=I7.pinned (stat fr7) (T.obj _ _ st7);refine aD (hg cl s3.heap.objs.size s3 H3 fp E' _ s7 _ H7 x u _ I7' r7 (step x H7 y7)) fun _ s8⟨σ8,H8,I8,ext,q8⟩=>?_;have again:∀{σ9:St}{H9:Hp}{s9:FB}{m':Nat}{zs:List V},Ext (eG ix σ) σ9->Inv (cj X scope N cl s3.heap.objs.size s3 H3 fp E') ([]++iM fp s7.heap) σ9 H9 s9->m'<n->W (i+1) m' zs H9->∃m,m<n/\∃i ys H',Inv (cj X scope N cl s3.heap.objs.size s3 H3 fp E') [] (eG ix σ) H' s9/\tn i s9.heap/\(∀b∈fp,H' b=none)/\W i m ys H':=fun{σ9 H9 s9 m' zs}ex I9 hm w9=>by refine⟨m',hm,i+1,zs,H9,(I9.unpinned).weak ex.1.symm ex.2,T.keep _ _ _ st7 fun b hb o e=>(I9.pin (b,o) (TC _ (TC _ (fo hb e)))).1,fun b hb=>?_,w9⟩;obtain⟨o,e,d⟩:=T.obj _ _ st7 b hb;exact(I9.pin (b,o) (TC _ (TC _ (fo hb e)))).2.1
   refine aD (ht cl s3.heap.objs.size s3 H3 fp E' _ s8 σ8 H8 _ I8 q8) fun ok s9⟨H9,I9,q9⟩=>?_;cases ok with
   |false=> obtain⟨m',hm,w9⟩:=q9;exact again ext I9 hm w9
   |true=> refine aD (he cl s3.heap.objs.size s3 H3 fp E' _ s9 σ8 H9 _ I9 q9) fun u10 s10⟨v10,H10,I10,r10,hDl,hlt,m',hm,w10⟩=>?_;refine aD (bp (X:=cj X scope N cl s3.heap.objs.size s3 H3 fp E') _ s10 σ8 H10 (.ref D) [v10] (.ref D) [u10] (fun _ H'=>H'=upd H10 D (.lst (ys++[v10]))) I10 rfl (.cons r10 .nil) ⟨D,ys,v10,rfl,rfl,hDl,hlt,rfl⟩) fun _ s11⟨_,H11,I11,_,e11⟩=>?_;subst e11;exact again ext I11 hm w10
 exact codeAny_compStart_list (loop _ (by rw[<-hs3])) (T.self _ 0 _ _ _ st4 (loop _ (by rw[<-hs3])))
theorem bh(hc:X.calm=true)(hi:PI X tg iter wi)(hk:scope.kind=.function)(hcell0:pR scope=true)(hfree0:freeOk scope X.env=true)(hnames0:namesOk scope=true)(caps:fh X scope N ix)(hg:∀cl C s H fp xe,PG (cj X scope N cl C s H fp xe) tg g)(ht:∀cl C s H fp xe,xv (cj X scope N cl C s H fp xe) ifs tt)(he:∀cl C s H fp xe,PE (cj X scope N cl C s H fp xe) elt te)(hs:∀x,foldedSetIterable iter X.env x=pure x:=by intro _;rfl): PE X (.ListComp elt [⟨tg,iter,ifs,0⟩] scope pos) (r9 wi g tt te ix):=by intro pins s σ H Q I h;rw[eval_ListComp];refine m5 (use:=none) hc hi hk hcell0 hfree0 hnames0 caps hg ht he hs I h fun C D H6 s6 B q=>?_;obtain⟨m,hn⟩:=B.ns;exact⟨m,hn,fun h' hsb=>⟨.ref D,H6,B.gone hsb,rfl,q⟩⟩
def Oo(i:Nat)(te:TE):TS:=fun D σ H=>te σ H fun x H1=>D.nx (σ.set i (some x)) H1
theorem gY(hN:X.N.Nodup)(hi':X.N[i]?=some y)(hx:Loc X.env.scope y)(hsw:swapsWith (.ListComp elt [⟨tg,iter,ifs,0⟩] scope pos) (some (.Name y py)) spos.line X.env=pure true)(hc:X.calm=true)(hi:PI X tg iter wi)(hk:scope.kind=.function)(hcell0:pR scope=true)(hfree0:freeOk scope X.env=true)(hnames0:namesOk scope=true)(caps:fh X scope N ix)(hg:∀cl C s H fp xe,PG (cj X scope N cl C s H fp xe) tg g)(ht:∀cl C s H fp xe,xv (cj X scope N cl C s H fp xe) ifs tt)(he:∀cl C s H fp xe,PE (cj X scope N cl C s H fp xe) elt te)(hs:∀x,foldedSetIterable iter X.env x=pure x:=by intro _;rfl)(hf:X.fn y=true\/X.env.scope.names.lookup y=some .local:=by first|exact .inl rfl|exact .inr rfl|assumption): PS X (.Assign [.Name y py] (.ListComp elt [⟨tg,iter,ifs,0⟩] scope pos) spos) (Oo i (r9 wi g tt te ix)):=by
 intro pins s σ H D I h;rw[exec_Assign_Name_used _ _ _ _ hsw];refine tz (Wt (tz ?_));show wpAny _ X.A (do let _<-comprehension (.ListComp elt [⟨tg,iter,ifs,0⟩] scope pos) scope X.env _ (newList []) false (eval iter X.env) (some (assign (.Name y py) X.env))) _ _ s;refine tz (TZ (m5 (use:=some (assign (.Name y py) X.env)) (Qv:=fun _ s'=>SP X pins D .next s') hc hi hk hcell0 hfree0 hnames0 caps hg ht he hs I h fun C a H6 s6 B q=>?_) (fun _ s' hq=>Gc (Gc hq)) fun _ _ e=>e);obtain⟨m,hn⟩:=B.ns;show wpAny _ X.A (assign (.Name y py) X.env (.ref a)) _ _ s6;refine wpAny_assign_Name (iG B.inv hN hi' hx (v:=.ref a) rfl (fun s7 I7⟨z,hz,hz'⟩=>?_) hf);have hzC:C≠z:=by
  rcases hz' with e|e;·rw[e];exact B.loc
  ·exact fun w=>B.cell y z e w.symm
 refine⟨m,hn.sameBut hz hzC,fun h' hsb=>?_⟩;have B7:hV X pins (σ.set i (some (.ref a))) H6 C s7:=⟨I7,⟨m,hn.sameBut hz hzC⟩,B.free,B.loc,B.young,B.cell,B.pin⟩;exact⟨_,H6,B7.gone hsb,q⟩
theorem tH{lo:Int}{n:Nat}{g:TG}{tt:TT}{te:TE}{σ0:St}{H:Hp}{D:GM}{Q:VK}(f:Nat->V)(hz:n<=sizeLine)(hs:∀(i:Nat)(H':Hp)(R:VK)(R0:Hp->Prop),i<n->(∀b,b≠D->H' b=H b)->R (f i) H'->g (.int (lo+i)) σ0 H' fun σ2 H2=>Ext σ0 σ2/\tt σ2 H2 fun b H3=>if b=true then te σ2 H3 R else R0 H3)(hq:Q (.ref D) (upd H D (.lst ((SO n).map f)))): eQ (lH lo n) g tt te σ0 D Q H:=by
 refine⟨fun i m ys H'=>m=n-i/\i<=n/\ys=(SO i).map f/\H'=upd H D (.lst ys),⟨n,by simp,KM _,rfl,rfl⟩,?_⟩;rintro i m ys H' ⟨rfl,hi,rfl,rfl⟩;by_cases hlt:i<n
 ·refine .inr ⟨hlt,fun x H'' y=>?_⟩
  obtain⟨e,y⟩:=y;subst e y;refine hs i _ _ _ hlt (fun b hb=>aw hb) ⟨ag,by simp;lia,n- (i+1),by lia,rfl,hlt,?_,?_⟩;·rw[Vq,SV];rfl
  ·rw[jt]
 ·have e:i=n:=by lia
  subst e;exact .inl ⟨M2 _,hq⟩
theorem i3{K:KB}{a:GM}{xs:List V}{g:TG}{tt:TT}{te:TE}{σ0:St}{H:Hp}{D:GM}{Q:VK}(f:V->V)(hz:xs.length<=sizeLine)(hx:ao K H a xs)(hD:H D=none)(hs:∀(i:Nat)(x:V)(H':Hp)(R:VK)(R0:Hp->Prop),xs[i]?=some x->(∀b,b≠D->H' b=H b)->R (f x) H'->g x σ0 H' fun σ2 H2=>Ext σ0 σ2/\tt σ2 H2 fun b H3=>if b=true then te σ2 H3 R else R0 H3)(hq:Q (.ref D) (upd H D (.lst (xs.map f)))): eQ (my K a) g tt te σ0 D Q H:=by
 have stays:∀ys:List V,ao K (upd H D (.lst ys)) a xs:=fun ys=>by
  have sm:af H (upd H D (.lst ys)):=fun b u q=>by rw[aw (aF q hD)];exact q
  exact sm.seq hx
 refine⟨fun i m ys H'=>m=xs.length-i/\i<=xs.length/\ys=(xs.take i).map f/\H'=upd H D (.lst ys),⟨xs.length,by simp,KM _,by simp,rfl⟩,?_⟩;rintro i m ys H' ⟨rfl,hi,rfl,rfl⟩;by_cases hlt:i<xs.length
 ·refine .inr ⟨⟨xs,xs[i],stays _,by simp[hlt]⟩,fun x H'' y=>?_⟩
  obtain⟨e,y⟩:=y;subst e;have ex:=y xs (stays _);refine hs i x _ _ _ ex (fun b hb=>aw hb) ⟨ag,by simp;lia,xs.length- (i+1),by lia,rfl,hlt,?_,?_⟩;·rw[Th,ex,SV];rfl
  ·rw[jt]
 ·have e:i=xs.length:=by lia
  subst e;refine .inl ⟨⟨xs,stays _,M2 _⟩,?_⟩;rw[List.take_length];exact hq
end
section
variable{P:SK}{w:Tc}{H:Hp}{h h':Ux}{a:GM}{o:HO}
theorem aW.there(x:aW P w H h a o):∃u,h.get? a=some u:=by cases o with
 |lst xs=>obtain⟨_,_,_,_,e⟩:=x;exact⟨_,e⟩
 |tup xs=>obtain⟨_,_,_,_,e,_⟩:=x;exact⟨_,e⟩
 |dK kvs=>obtain⟨_,_,_,_,_,_,_,e,_⟩:=x;exact⟨_,e⟩
 |dT kvs=>obtain⟨_,_,_,_,_,_,_,e,_⟩:=x;exact⟨_,e⟩
 |set S n=>obtain⟨_,_,_,_,e,_⟩:=x;exact⟨_,e⟩
 |ins C dx fs=>obtain⟨_,_,_,e,_⟩:=x;exact⟨_,e⟩
 |own y=>obtain⟨_,e⟩:=x;exact⟨_,e⟩
 |xd fs=>obtain⟨_,⟨_,_,_,e,_⟩,_⟩:=x;exact⟨_,e⟩
 |rng lo hi=>obtain⟨_,_,_,e⟩:=x;exact⟨_,e⟩
 |frz ob u=>obtain⟨e,_⟩:=x;exact⟨_,e⟩
 |tbl ps=>exact⟨_,show h.get? a=some _ from x⟩
 |met f y=>exact⟨_,show h.get? a=some _ from x⟩
 |ext φ=>obtain⟨_,e,_⟩:=x;exact e
theorem bW.none(x:bW P w H h)(e:h.get? a=Xf):H a=Xf:=by cases q:H a with
 |none=>rfl
 |some u=> obtain⟨v,z⟩:=(x a u q).there;rw[e]at z;cases z
theorem bW.part(x:bW P w H h)(k:∀b o,H b≠Xf->h.get? b=some o->h'.get? b=some o):bW P w H h':=fun b u e=>by
 refine(x b u e).stay (fun c v hc q=>k c v ?_ q) (fun _ q=>q) fun _ _ q=>q;intro z;rcases hc with rfl|hc;·rw[z]at e;cases e
 ·rw[z]at hc;cases hc
end
def xk(h:Ux)(e T:GM)(cls:Do)(od:Option GM)(fl:Do):Prop:=∃oe vs oT ts,h.get? e=some oe/\oe.cls=cls/\oe.data=.fields vs/\vs[1]?=some (.ref T)/\T≠e/\h.get? T=some oT/\oT.data=.fields ts/\ts[3]?=some fl/\∀d,od=some d->oe.dict=some d
noncomputable abbrev Tr(h:Ux)(e T:GM)(cls:Do)(od:Option GM):Prop:=xk h e T cls od .none
structure Kept(l:List Env)(ch:List GM)(h h':Ux):Prop where
 keep:∀b o,b∉bS l->b∉ch->h.get? b=some o->h'.get? b=some o
 slot:∀b o,b∈bS l->h.get? b=some o->∃sl,h'.get? b=some {o with slots:=sl}
theorem Kept.trans(a:Kept l ch h h1)(b:Kept l ch h1 h2):Kept l ch h h2:= ⟨fun c o h1 h2 q=>b.keep c o h1 h2 (a.keep c o h1 h2 q),fun c o hm q=>by obtain⟨sl,e⟩:=a.slot c o hm q;obtain⟨sl',e'⟩:=b.slot c _ hm e;exact⟨sl',e'⟩⟩
section
variable{M:Model}{A:Tf}{E:Do->FB->Prop}{s:FB}{Q:Unit->FB->Prop}{base:Ux}{env:Env}{outer l:List Env}{L e T:GM}{cls:Do}
theorem yT(hl:s.heap.FunFrames base l)(hb:b∈bS l)(q:s.heap.get? b=some o):∀vs,o.data≠.fields vs:=by obtain⟨_,o',ho,hd⟩:=hl.mem hb;rw[q]at ho;cases ho;exact hd
theorem mD(f:Array Do->Array Do)(o:Obj):(o.mapFields f).dict=o.dict:=by obtain⟨c,d,dt,sl⟩:=o;cases dt<;>rfl
theorem Kept.sub(k:Kept l ch h h')(f:∀b o,h.get? b=some o->b∈ch->b∈ch'):Kept l ch' h h':= ⟨fun b o hb hc q=>k.keep b o hb (fun z=>hc (f b o q z)) q,k.slot⟩
theorem jW(f:Obj->Obj)(hn:b∉bS l):Kept l [b] h (h.update b f):= ⟨fun c o _ hc q=>(Os _ _ (fun z=>hc (by rw[<-z];exact Uh.mpr rfl))).trans q,fun c o hm q=>⟨o.slots,(Os _ _ (fun z=>hn (by rw[z];exact hm))).trans q⟩⟩
theorem qS(hfr:A.frames=some (env::outer))(hl:s.heap.FunFrames base (env::outer))(hf:env.frame=some L)(he:s.heap.get? e=some oe)(hd:oe.data=.fields vs)(hz:1<vs.size)(hQ:∀h' T',h'.get? e=some (oe.mapFields (·.setIfInBounds 1 (.ref T')))->s.heap.get? T'=none->T'≠e->(∃oT ts,h'.get? T'=some oT/\oT.data=.fields ts/\ts[3]?=some (rawInt L))->Kept (env::outer) [e] s.heap h'->Q () {s with heap:=h'}): wpAny M A (do let a<-frameOf env;let pl<-entryPlaceOf L hadNext;let b<-XW head a .none (rawInt L) .none pl;setField (.ref e) 1 b) Q E s:=by
 have en:e∉bS (env::outer):=fun z=>yT hl z he vs hd;refine tz (wpAny_frameOf_fun hfr hl hf fun h1⟨z1,z2,z3⟩=>tz (wpAny_entryPlaceOf fun pl hpl=>?_));unfold XW newFields;refine tz (UL ?_ (hpl.sizeOk5 _ _ _ _ _));have e1:h1.get? e=some oe:=(z2 e en).trans he;have Tn:h1.objs.size≠e:=UU (GE e1);generalize hob:({cls:=.type "traceback",dict:=none,data:=.fields ([head,.ref L,.none,rawInt L,.none]++(if pl.isEmpty then TR 6 TB else pl)).toArray}:Obj)=ob;have nf:ob.isFreed=false:=by rw[<-hob];rfl
 have e2:=Fk ob e1;have eT:(h1.push ob).get? h1.objs.size=some ob:=SB h1 nf;refine wpAny_setField e2 hd hz (hQ _ h1.objs.size (S3 _ e2 (Wi (UX hd _))) ?_ Tn ⟨ob,_,(Os _ _ (T6 Tn)).trans eT,by rw[<-hob],?_⟩ ?_)
 ·rw[z1]
  exact Ug (M2 _)
 ·first| (simp;done)| (rcases hpl with rfl| ⟨_,_,_,_,_,_,_,rfl⟩<;>simp)
 ·have k:=jW (h:=h1.push ob) (l:=env::outer) (Xg (·.setIfInBounds 1 (.ref h1.objs.size))) en
  exact⟨fun b o hb hc q=>k.keep b o hb hc (Fk _ ((z2 b hb).trans q)),fun b o hm q=>by obtain⟨sl,q1⟩:=z3 b o q;obtain⟨sl',q2⟩:=k.slot b _ hm (Fk _ q1);exact⟨sl',q2⟩⟩
theorem yw(hfr:A.frames=some (env::outer))(hl:s.heap.FunFrames base (env::outer))(hf:env.frame=some L)(he:s.heap.get? e=some oe)(hc:oe.cls=cls)(hd:oe.data=.fields vs)(h1:vs[1]?=some .none)(hod:∀d,od=some d->oe.dict=some d)(hQ:∀h' T',xk h' e T' cls od (rawInt L)->s.heap.get? T'=none->Kept (env::outer) [e] s.heap h'->Q () {s with heap:=h'}):wpAny M A (noteFrame (.ref e) env) Q E s:=by have hz:=(S4.mp h1).1;unfold noteFrame;simp only[hf];refine tz (Ve he hd h1 ?_);rw[if_neg (by decide)];refine qS hfr hl hf he hd hz fun h' T' q1 q2 q3⟨oT,ts,q4,q5,q6⟩q7=>hQ h' T' ⟨_,_,oT,ts,q1,(Obj.cls_mapFields _ _).trans hc,UX hd _,by simp[hz],q3,q4,q5,q6,fun d z=>(mD _ _).trans (hod d z)⟩ q2 q7
theorem qP(hfr:A.frames=some (env::outer))(hl:s.heap.FunFrames base (env::outer))(hf:env.frame=some L)(tr:Tr s.heap e T cls od)(hQ:∀h' T',xk h' e T' cls od (rawInt L)->s.heap.get? T'=none->Kept (env::outer) [e,T] s.heap h'->Q () {s with heap:=h'}):wpAny M A (noteFrame (.ref e) env) Q E s:=by
 obtain⟨oe,vs,oT,ts,he,hc,hd,h1,hTe,hT,hdT,h3,hod⟩:=tr;have hz:=(S4.mp h1).1;have Tn:T∉bS (env::outer):=fun z=>yT hl z hT ts hdT;unfold noteFrame;simp only[hf];refine tz (Ve he hd h1 ?_);rw[if_pos (show(PP T !=TB)=true from by simp)];refine tz (Ve hT hdT h3 ?_);rw[if_neg (show¬ ((TB==rawInt L)=true)from by simp[rawInt])];refine tz (wpAny_setField hT hdT (S4.mp h3).1 ?_);have k0:=jW (h:=s.heap) (Xg (·.setIfInBounds 3 TB)) Tn;have there:∀b o,s.heap.get? b=some o->∃o',(s.heap.update T (Xg (·.setIfInBounds 3 TB))).get? b=some o':=fun b o q=>by
  by_cases z:b=T
  ·subst z
   exact⟨_,S3 _ q (by rw[hT]at q;cases q;exact Wi (UX hdT _))⟩
  ·exact⟨o,(Os _ _ (T6 z)).trans q⟩
 refine qS (s:={s with heap:=s.heap.update T (Xg (·.setIfInBounds 3 TB))}) (base:=base) hfr (hl.of_keeps fun b o q n=>⟨o,(Os _ _ (fun z=>n ts (by rw[<-z,hT]at q;cases q;exact hdT))).trans q,rfl⟩) hf ((Os _ _ hTe).trans he) hd hz fun h' T' q1 q2 q3⟨oT,ts,q4,q5,q6⟩q7=>hQ h' T' ⟨_,_,oT,ts,q1,(Obj.cls_mapFields _ _).trans hc,UX hd _,by simp[hz],q3,q4,q5,q6,fun d z=>(mD _ _).trans (hod d z)⟩ ?_ ((k0.sub (ch':=[e,T]) fun b o _ z=>SH _ z).trans (q7.sub fun b o _ z=>by rw[Uh.mp z];exact SY));cases y:s.heap.get? T' with
 |none=>rfl
 |some o=> obtain⟨o',z⟩:=there _ _ y;rw[q2]at z;cases z
theorem jf(hn:T∉bS l)(tr:xk s.heap e T cls od fl)(hQ:∀h',Tr h' e T cls od->Kept l [T] s.heap h'->Q () {s with heap:=h'}):wpAny M A (setFlight (.ref e) none) Q E s:=by obtain⟨oe,vs,oT,ts,he,hc,hd,h1,hTe,hT,hdT,h3,hod⟩:=tr;have hz:=(S4.mp h3).1;unfold setFlight;refine tz (Ve he hd h1 ?_);rw[if_pos (show(PP T !=TB)=true from by simp)];refine wpAny_setField hT hdT hz (hQ _ ⟨oe,vs,_,_,(Os _ _ hTe).trans he,hc,hd,h1,hTe,S3 _ hT (Wi (UX hdT _)),UX hdT _,by simp[hz],hod⟩ (jW _ hn))
theorem E2(hl:s.heap.FunFrames base l)(tr:xk s.heap e T cls od fl):T∉bS l:=fun z=>by obtain⟨oe,vs,oT,ts,he,hc,hd,h1,hTe,hT,hdT,_⟩:=tr;exact yT hl z hT ts hdT
theorem j7(hl:s.heap.FunFrames base l)(n:s.heap.get? T'=none):T'∉bS l:=fun z=>by obtain⟨_,o,ho,_⟩:=hl.mem z;rw[n]at ho;cases ho
theorem ma(n:h.get? T'=none)(a:Kept l ch h h')(k:Kept l [T'] h' h2):Kept l ch h h2:= ⟨fun b o hb hc q=>k.keep b o hb (fun z=>by rw[Uh.mp z,n]at q;cases q) (a.keep b o hb hc q),fun b o hm q=>by obtain⟨sl,e1⟩:=a.slot b o hm q;obtain⟨sl',e2⟩:=k.slot b _ hm e1;exact⟨sl',e2⟩⟩
theorem Av(hfr:A.frames=some (env::outer))(hl:s.heap.FunFrames base (env::outer))(hf:env.frame=some L)(tr:Tr s.heap e T cls od)(hQ:∀h' T',Tr h' e T' cls od->(T'=T\/s.heap.get? T'=none)->Kept (env::outer) [e,T] s.heap h'->Q () {s with heap:=h'}):wpAny M A (leaving env (.ref e)) Q E s:=by unfold leaving;exact tz (qP hfr hl hf tr fun h' T' t1 n1 k1=>jf (l:=env::outer) (s:={s with heap:=h'}) (j7 hl n1) t1 fun h2 t2 k2=>hQ h2 T' t2 (.inr n1) (ma n1 k1 k2))
theorem t8(hfr:A.frames=some (env::outer))(hl:s.heap.FunFrames base (env::outer))(hf:env.frame=some L)(he:s.heap.get? e=some oe)(hc:oe.cls=cls)(hd:oe.data=.fields vs)(h1:vs[1]?=some .none)(hod:∀d,od=some d->oe.dict=some d)(hQ:∀h' T',Tr h' e T' cls od->s.heap.get? T'=none->Kept (env::outer) [e] s.heap h'->Q () {s with heap:=h'}):wpAny M A (leaving env (.ref e)) Q E s:=by unfold leaving;exact tz (yw hfr hl hf he hc hd h1 hod fun h' T' t1 n1 k1=>jf (l:=env::outer) (s:={s with heap:=h'}) (j7 hl n1) t1 fun h2 t2 k2=>hQ h2 T' t2 n1 (ma n1 k1 k2))
theorem Ec(hfr:A.frames=some (env::outer))(hl:s.heap.FunFrames base (env::outer))(hf:env.frame=some L)(tr:Tr s.heap e T cls od)(hQ:∀h' T',Tr h' e T' cls od->(T'=T\/s.heap.get? T'=none)->Kept (env::outer) [e,T] s.heap h'->Q () {s with heap:=h'}): wpAny M A (noteFrame (.ref e) env) (fun _ s2=>wpAny M A (setFlight (.ref e) none) Q E s2) E s:=
 qP hfr hl hf tr fun h' T' t1 n1 k1=>jf (l:=env::outer) (s:={s with heap:=h'}) (j7 hl n1) t1 fun h2 t2 k2=>hQ h2 T' t2 (.inr n1) (ma n1 k1 k2)
theorem xN(hl:s.heap.FunFrames base l)(tr:Tr s.heap e T cls od)(hQ:∀h' T',Tr h' e T' cls od->(T'=T\/s.heap.get? T'=none)->Kept l [e,T] s.heap h'->Q () {s with heap:=h'}):wpAny M A (setFlight (.ref e) none) Q E s:= jf (E2 hl tr) tr fun h' t k=>hQ h' T t (.inl rfl) (k.sub fun b o _ z=>SH _ z)
end
section
variable{X:Cx}{pins:List (GM×Obj)}{σ:St}{H:Hp}{s:FB}{h':Ux}{ch:List GM}
structure gr(X:Cx)(pins:List (GM×Obj))(H:Hp)(b:GM):Prop where
 new:X.s₀.heap.get? b=none
 free:H b=none
 loc:b≠X.env.locals
 cell:∀x c,X.env.cells.lookup x=some c->c≠b
 pin:∀p∈X.pn++pins,p.1≠b
theorem Inv.ours(I:Inv X pins σ H s)(hx:X.ex=[])(n:s.heap.get? b=none):X.s₀.heap.get? b=none/\b≠X.env.locals/\(∀x c,X.env.cells.lookup x=some c->c≠b)/\∀p∈X.pn++pins,p.1≠b:=by
 refine⟨?_,?_,fun x c e z=>?_,fun p hp z=>?_⟩;·cases q:X.s₀.heap.get? b with
  |none=>rfl
  |some o=> obtain⟨o',e⟩:=I.base.there b o q (by rw[hx];simp);rw[n]at e;cases e
 ·rintro rfl
  obtain⟨m,⟨o,_,_,e,_⟩,_⟩:=I.loc;rw[n]at e;cases e
 ·subst z
  obtain⟨v,o,e',_⟩:=I.cell x c e;rw[n]at e';cases e'
 ·have:=(I.pin p hp).1
  rw[z,n]at this;cases this
theorem Inv.exc(I:Inv X pins σ H s)(hx:X.ex=[])(ours:∀b∈ch,gr X pins H b)(k:Kept X.stack ch s.heap h'):Inv X pins σ H {s with heap:=h'}:=by
 have sub:=I.stkSub;have above:=I.ok.above;have outs:∀b∈X.fs,b∈bS X.stack:=fun b hb=>by
  rcases I.ok.stk with e| ⟨e,hf⟩;·rw[e];exact hb
  ·rw[e]
   show b∈bS (X.env::X.outer);unfold bS;rw[UO,hf];exact SH _ hb
 have anyk:∀b o,b∉ch->s.heap.get? b=some o->∃sl,h'.get? b=some {o with slots:=sl}:=fun b o hc q=>by
  by_cases hb:b∈bS X.stack;·exact k.slot b o hb q
  ·exact⟨o.slots,k.keep b o hb hc q⟩
 have nch:∀b o,X.s₀.heap.get? b=some o->b∉ch:=fun b o q z=>by rw[(ours b z).new]at q;cases q
 have lch:X.env.locals∉ch:=fun z=>(ours _ z).loc rfl;have cch:∀x c,X.env.cells.lookup x=some c->c∉ch:=fun x c e z=>(ours _ z).cell x c e rfl;have cellK:∀x c v,X.env.cells.lookup x=some c->s.heap.IsCell c v->h'.IsCell c v:=fun x c v e z=>by obtain⟨o,ho,hd⟩:=z;obtain⟨sl,q⟩:=anyk c o (cch x c e) ho;exact⟨_,q,hd⟩
 refine⟨I.ok,I.os,I.bare,⟨fun b o e n hb hxx=>?_,fun b o e n hb hxx=>?_,I.base.free,fun b o e hxx=>?_,I.base.tups,I.base.frzs,I.base.tbls⟩,?_,fun x c e=>?_,I.free,I.freeC,fun p hp=>?_,?_,I.len⟩
 ·refine k.keep b o (fun z=>?_) (nch b o e) (I.base.keep b o e n hb hxx)
  rcases GT.mp (sub b z)with z|z;·exact absurd (SN (GE e) above) (by rw[z];exact Tz _)
  ·exact hb z
 ·obtain⟨sl,e1⟩:=I.base.slot b o e n hb hxx
  obtain⟨sl',e2⟩:=k.slot b _ (outs b hb) e1;exact⟨sl',e2⟩
 ·obtain⟨o',e1⟩:=I.base.there b o e hxx
  obtain⟨sl,e2⟩:=anyk b o' (nch b o e) e1;exact⟨_,e2⟩
 ·obtain⟨m,⟨o,es,ep,ho,r⟩,hl⟩:=I.loc
  obtain⟨sl,q⟩:=anyk _ o lch ho;refine⟨m,⟨_,es,ep,q,r⟩,fun i x v e1 e2 e3=>?_⟩;obtain⟨u,ru,lk⟩:=hl i x v e1 e2 e3;refine⟨u,ru,?_⟩;rcases lk with z| ⟨z,c,e,ic⟩;·exact .inl z
  ·exact .inr ⟨z,c,e,cellK x c _ e ic⟩
 ·obtain⟨v,z⟩:=I.cell x c e
  exact⟨v,cellK x c v e z⟩
 ·obtain⟨e,n,ne,nf,d⟩:=I.pin p hp
  refine⟨k.keep p.1 p.2 (fun z=>?_) (fun z=>(ours _ z).pin p hp rfl) e,n,ne,nf,d⟩;rcases GT.mp (sub _ z)with z|z;·exact ne z
  ·exact nf z
 ·refine I.hok.part fun b o hb q=>k.keep b o (fun z=>hb (I.stkFree b z)) (fun z=>hb (ours b z).free) q
theorem Inv.track(I:Inv X pins σ H s)(o:gr X pins H e)(new:aW X.prog X.w (upd H e (.ext φ)) s.heap e (.ext φ)):Inv X pins σ (upd H e (.ext φ)) s:=by
 have ne:∀b u,H b=some u->b≠e:=fun b u q z=>by rw[z,o.free]at q;cases q
 refine⟨I.ok,I.os,I.bare,⟨I.base.keep,I.base.slot,fun b ob q n hx=>?_,I.base.there,fun b xs q=>?_,fun b ob u q=>?_,fun b ps q=>?_⟩,I.loc,I.cell,?_,fun x c q=>?_,fun p hp=>?_,fun b u q=>?_,I.len⟩;·rw[aw (fun z=>by rw[z,o.new]at q;cases q)];exact I.base.free b ob q n hx
 ·have:=I.base.tups b xs q
  rw[aw (ne _ _ this)];exact this
 ·have:=I.base.frzs b ob u q
  rw[aw (ne _ _ this)];exact this
 ·obtain⟨m,z⟩:=I.base.tbls b ps q
  exact⟨m,by rw[aw (ne _ _ z)];exact z⟩
 ·rw[aw (T6 o.loc)];exact I.free
 ·rw[aw (o.cell x c q)];exact I.freeC x c q
 ·obtain⟨z,n,r⟩:=I.pin p hp
  exact⟨z,by rw[aw (o.pin p hp)];exact n,r⟩
 ·by_cases z:b=e
  ·subst z;rw[ag]at q;cases q;exact new
  ·rw[aw z]at q
   exact(I.hok b u q).stay (fun _ _ _ x=>x) (fun c x=>by rw[aw (ne _ _ x)];exact x) fun c xs x=>by rw[aw (ne _ _ x)];exact x
end
def e9(P:SK)(w:Tc):gc:=fun outer H s E e s'=>∃(ea T:GM)(cls:Do)(od:Option GM)(H':Hp),e=.ref ea/\s.heap.get? ea=none/\s.heap.get? T=none/\H' ea=none/\H' T=none/\Tr s'.heap ea T cls od/\s'.os=s.os/\Xd s'.gens/\Un (bS outer) [] H H' s.heap s'.heap/\bW P w H' s'.heap/\E cls od H'
theorem gi:Passes (e9 P w) X E0:=by intro _ _ _ _ _ _ _ h;obtain⟨_,_,_,_,_,_,_,_,_,_,_,_,_,_,_,q⟩:=h;exact q.elim
structure mM(X:Cx)(E:XK):Prop where
 ex:X.ex=[]
 rise:∀{pins:List (GM×Obj)}{σ:St}{H:Hp}{s:FB}{e:GM}{cls:Do}{oe:Obj}{vs:Array Do}{od:Option GM},Inv X pins σ H s->X.s₀.heap.get? e=none->H e=none->s.heap.get? e=some oe->oe.cls=cls->oe.data=.fields vs->vs[1]?=some .none->(∀d,od=some d->oe.dict=some d)->E cls od H->X.xe (.ref e) s
 pass:Passes (e9 X.prog X.w) X E
theorem mM.made(T:mM X E)(I:Inv X pins σ H s)(m:Heap.MadeExcOf s.heap h' e cls vs)(q:E cls none H):X.xe (.ref e) {s with heap:=h'}:=by obtain⟨t,he,htn,ht⟩:=m.there;exact T.rise (I.kept (t':=s.toks) m.keeps) (I.ours T.ex m.new).1 (I.hok.none m.new) he rfl rfl rfl (fun d z=>by cases z) q
section
variable{P:SK}{w:Tc}{K:KB}{mg:Str->Option Do}{base:Ux}{N:List Str}{qual:Str}{scope:X0}{f:GM}{cd:Do}{A:Tf}{outer:List Env}{s:FB}{H:Hp}{E:XK}
theorem xH(I:Inv (fk (e9 P w) P w K mg base N qual scope f cd A outer s H E) pins σ H2 s2)(tr:Tr s2.heap ea T cls od)(n1:s.heap.get? ea=none)(n2:s.heap.get? T=none)(f1:H2 ea=none)(f2:H2 T=none)(q:E cls od H2):(fk (e9 P w) P w K mg base N qual scope f cd A outer s H E).xe (.ref ea) s2:=by
 have fr:(A.deeper (envOfC qual scope s.heap.objs.size f cd)).frames=some (envOfC qual scope s.heap.objs.size f cd::outer):=I.ok.frames;have above:s.heap.objs.size<=(envOfC qual scope s.heap.objs.size f cd).locals:=I.ok.above;have nex:∀b:GM,b∉(fk (e9 P w) P w K mg base N qual scope f cd A outer s H E).ex:=fun b z=>absurd (show b∈([]:List GM)from z) (by simp);have sub:∀b∈bS (envOfC qual scope s.heap.objs.size f cd::outer),b=(envOfC qual scope s.heap.objs.size f cd).locals\/b∈bS outer:=fun b hb=>GT.mp (I.stkSub b hb);have out:∀b∈bS outer,b∈bS (envOfC qual scope s.heap.objs.size f cd::outer):=fun b hb=>by
  unfold bS at hb|-;rw[UO];split;·exact hb
  ·exact SH _ hb
 refine Av fr I.stack rfl tr fun h' T' tr' hT' k=>?_;have anyk:∀b o,b≠ea->b≠T->s2.heap.get? b=some o->∃sl,h'.get? b=some {o with slots:=sl}:=fun b o h1 h2 z=>by
  by_cases hb:b∈bS (envOfC qual scope s.heap.objs.size f cd::outer);·exact k.slot b o hb z
  ·exact⟨o.slots,k.keep b o hb (by simp[h1,h2]) z⟩
 have ne:∀b o,s.heap.get? b=some o->b≠ea/\b≠T:=fun b o z=>⟨fun y=>(by rw[y,n1]at z;cases z),fun y=>(by rw[y,n2]at z;cases z)⟩;refine⟨ea,T',cls,od,H2,rfl,n1,?_,f1,?_,tr',I.os,I.bare,⟨fun b o z n hb hx=>?_,fun b o z n hb hx=>?_,fun b o z n hx=>I.base.free b o z n (nex b),fun b o z hx=>?_,I.base.tups,I.base.frzs,I.base.tbls⟩,?_,q⟩
 ·rcases hT' with z|z
  ·rw[z];exact n2
  ·cases y:s.heap.get? T' with
   |none=>rfl
   |some o=> obtain⟨o',e'⟩:=I.base.there T' o y (nex _);rw[z]at e';cases e'
 ·rcases hT' with z|z
  ·rw[z];exact f2
  ·exact I.hok.none z
 ·refine k.keep b o (fun y=>?_) (by have:=ne b o z;simp[this.1,this.2]) (I.base.keep b o z n hb (nex b))
  rcases sub b y with y|y;·exact absurd (SN (GE z) above) (by rw[y];exact Tz _)
  ·exact hb y
 ·obtain⟨sl,e1⟩:=I.base.slot b o z n hb (nex b)
  obtain⟨sl',e2⟩:=k.slot b _ (out b hb) e1;exact⟨sl',e2⟩
 ·obtain⟨o',e1⟩:=I.base.there b o z (nex b)
  obtain⟨sl,e2⟩:=anyk b o' (ne b o z).1 (ne b o z).2 e1;exact⟨_,e2⟩
 ·refine I.hok.part fun b o hb z=>k.keep b o (fun y=>hb (I.stkFree b y)) (fun y=>?_) z
  rcases GT.mp y with y|y;·exact hb (by rw[y];exact f1)
  ·exact hb (by rw[show b=T by simpa using y];exact f2)
theorem dP:mM (fk (e9 P w) P w K mg base N qual scope f cd A outer s H E) E where
 ex:=rfl;rise:=fun{pins σ H1 s1 e cls oe vs od}I2 n1 f1 he hc hd hv hod q=>by
  have fr:(A.deeper (envOfC qual scope s.heap.objs.size f cd)).frames=some (envOfC qual scope s.heap.objs.size f cd::outer):=I2.ok.frames;have above:s.heap.objs.size<=(envOfC qual scope s.heap.objs.size f cd).locals:=I2.ok.above;have nex:∀b:GM,b∉(fk (e9 P w) P w K mg base N qual scope f cd A outer s H E).ex:=fun b z=>absurd (show b∈([]:List GM)from z) (by simp);have sub:∀b∈bS (envOfC qual scope s.heap.objs.size f cd::outer),b=(envOfC qual scope s.heap.objs.size f cd).locals\/b∈bS outer:=fun b hb=>GT.mp (I2.stkSub b hb);have out:∀b∈bS outer,b∈bS (envOfC qual scope s.heap.objs.size f cd::outer):=fun b hb=>by
   unfold bS at hb|-;rw[UO];split;·exact hb
   ·exact SH _ hb
  have n1:s.heap.get? e=none:=n1;refine t8 (cls:=cls) (od:=od) fr I2.stack rfl he hc hd hv hod fun h2 T' tr' hT' k=>?_;have anyk:∀b o,b≠e->s1.heap.get? b=some o->∃sl,h2.get? b=some {o with slots:=sl}:=fun b o h1 z=>by
   by_cases hb:b∈bS (envOfC qual scope s.heap.objs.size f cd::outer);·exact k.slot b o hb z
   ·exact⟨o.slots,k.keep b o hb (by simp[h1]) z⟩
  have ne:∀b o,s.heap.get? b=some o->b≠e:=fun b o z y=>by rw[y,n1]at z;cases z
  refine⟨e,T',cls,od,H1,rfl,n1,(I2.ours rfl hT').1,f1,I2.hok.none hT',tr',I2.os,I2.bare,⟨fun b o z n hb hx=>?_,fun b o z n hb hx=>?_,fun b o z n hx=>I2.base.free b o z n (nex b),fun b o z hx=>?_,I2.base.tups,I2.base.frzs,I2.base.tbls⟩,?_,q⟩
  ·refine k.keep b o (fun y=>?_) (by simp[ne b o z]) (I2.base.keep b o z n hb (nex b))
   rcases sub b y with y|y;·exact absurd (SN (GE z) above) (by rw[y];exact Tz _)
   ·exact hb y
  ·obtain⟨sl,e1⟩:=I2.base.slot b o z n hb (nex b)
   obtain⟨sl',e2⟩:=k.slot b _ (out b hb) e1;exact⟨sl',e2⟩
  ·obtain⟨o',e1⟩:=I2.base.there b o z (nex b)
   obtain⟨sl,e2⟩:=anyk b o' (ne b o z) e1;exact⟨_,e2⟩
  ·refine I2.hok.part fun b o hb z=>k.keep b o (fun y=>hb (I2.stkFree b y)) (fun y=>?_) z
   exact hb (by rw[show b=e by simpa using y];exact f1)
 pass:=fun pins σ H1 s1 e s2 I hcx=>by obtain⟨ea,T,cls,od,H2,rfl,n1,n2,f1,f2,tr,os,bare,un,hok,q⟩:=hcx;have I2:=I.call' os un hok bare fun b z=>absurd z (by simp);exact xH I2 tr (I.ours rfl n1).1 (I.ours rfl n2).1 f1 f2 q
end
section
variable{P:SK}{w:Tc}{K:KB}{mg:Str->Option Do}{base:Ux}
theorem bz.up(F:bz P w K mg base lF k f fd ps sp):bz P w K mg base CX k f fd ps sp:= ⟨F.len,fun A outer s H args us vs Q E hr he hb hv hs=>U8 (F.run A outer s H args us vs Q E hr he hb hv hs) fun r s' q=>by cases r with
  |error e=>exact Up q
  |ok fl=>cases fl<;>exact q⟩
theorem aE.okE{x qual:Str}{st:T4}{f:GM}{fd:TK}{N ps:List Str}{k:Nat}{sp:Sp}(F:aE K x qual st f fd)(S:aq N ps (aj st))(len:∀vs H Q E,sp vs H Q E->vs.length=ps.length)(hbody:∀(cdv:Do)(A:Tf)(outer:List Env)(s:FB)(H:Hp)(vs:List V)(Q:VK)(E:XK),aU k (A.deeper (envOfC qual (aj st) s.heap.objs.size f cdv))->sp vs H Q E->∃t,dq (fk (e9 P w) P w K mg base N qual (aj st) f cdv A outer s H E) (bI st) t/\t {nx:=fun _ H'=>Q .non H',rt:=Q} (start N vs) H):bz P w K mg base (e9 P w) (k+1) f fd ps sp:=by obtain⟨oc,od,kV,doc,pm,an,cdv,ct,osl,rfl,lk,hcd⟩:=F.ex;exact CH lk hcd S len fun A outer s H vs Q E hr hsp=>hbody cdv A outer s H vs Q E hr hsp
end
noncomputable abbrev il:List Do:=[.type "ValueError",.type "Exception",.type "BaseException",.type "object"]
abbrev r6(K:KB)(C:GM):Prop:=W.excIn K C il "ValueError.__new__" =true
theorem HK{K:KB}{h:Ux}{C:GM}(X:K.In h)(q:r6 K C):∃bm N nm qn bs hd sn sub ab col dd k0 k1 k2 k3 k5 mN,h.get? C=some (excClassObj nm qn C N bs bm hd sn sub ab col dd k0 k1 k2 k3 k5 "ValueError.__new__")/\h.Ns N mN/\mN "__init__" =none/\OwnTail h il bm:=by
 unfold r6 W.excIn at q;split at q
 ·rename_i dd cd sl ho
  split at q
  ·rename_i C' bm k0 k1 k2 k3 n k5 hm hs
   obtain⟨q5,q6⟩:=Uu.mp q;obtain⟨q4,hok⟩:=Uu.mp q5;obtain⟨q3,ht⟩:=Uu.mp q4;obtain⟨q2,hdel⟩:=Uu.mp q3;obtain⟨e1,e2⟩:=Uu.mp q2;have e1:=beq_iff_eq.mp e1;have e2:=beq_iff_eq.mp e2;have hni:=beq_iff_eq.mp q6;subst e1 e2;obtain⟨nm,bs,mro,ns,qn,hd,sn,sub,ab,col,del⟩:=cd;have hsl:sl=#[k0,k1,k2,k3,some (.builtin "ValueError.__new__"),k5]:=by rw[<-hs]
   have hdel':del=false:=by simpa using hdel
   have hm':mro=.ref C'::bm:=hm;subst hm' hdel' hsl;exact⟨bm,ns,nm,qn,bs,hd,sn,sub,ab,col,dd,k0,k1,k2,k3,k5,_,X _ _ ho,.of_isNs (W.isNs_of_in X hok),W.nsMap_none_of_in X hok hni,W.tail_of_in X ht⟩
  ·cases q
 ·cases q
def LQ(E:XK)(C:GM)(t:TA):TS:=fun _ σ H=>t σ H fun vs H1=>vs.length<=sizeLine/\E (.ref C) none H1
theorem jP{X:Cx}{E:XK}{C:GM}{x:Str}{np cpos pos:Pos}{a:Uo}{ta:TA}(T:mM X E)(O:r6 X.K C)(hg:Gl X x)(hm:X.mg x=some (.ref C))(ha:PA X [a] ta)(hc:X.calm=true:=by rfl)(hs:starEach [a] X.env=[(false,eval a X.env)]:=by rfl)(hd:(x== ("__debug__" :Str))=false:=by decide):PS X (.Raise (some (.Call (.Name x np) [a] [] cpos)) none pos) (LQ E C ta):=by
 intro pins s σ H D I h;obtain⟨bm,N,nm,qn,bs,hd',sn,sub,ab,col,dd,k0,k1,k2,k3,k5,mN,hC,hN,hni,TL⟩:=HK I.ok.mod.kin O;refine wpAny_Raise_call_subT (C:=C) (nm:=nm) (q:=qn) (N:=N) (bs:=bs) (bm:=bm) (hdct:=hd') (sn:=sn) (sub:=sub) (ab:=ab) (col:=col) (dd:=dd) (k0:=k0) (k1:=k1) (k2:=k2) (k3:=k3) (k5:=k5) US (mN:=mN) (TL.hasType US.hasBase) (I.ok.hd hc) (by rw[hs];rfl) hni (cL I hg hm ⟨rfl,?_⟩ hd);have p:=ha cpos pins s σ H _ I h;rw[hs]at p|-;exact VE (aD p fun us s1⟨vs,H1,I1,r,q⟩=>⟨rfl,by rw[<-r.length];exact q.1,I1.bk _ _ hC,hN.keeps I1.bk,TL.keeps I1.bk,fun h' e m=>T.made I1 m q.2⟩)
noncomputable def Cx.inExc(X:Cx)(e:GM):Cx:={X with A:=X.A.mark (some (.ref e)),calm:=false,xe:=fun _ _=>False}
section
variable{X:Cx}{pins:List (GM×Obj)}{σ:St}{H:Hp}{s:FB}{e:GM}
theorem Inv.inExc(I:Inv X pins σ H s)(e:GM):Inv (X.inExc e) pins σ H s:= ⟨⟨I.ok.mod,I.ok.kind,I.ok.glob,I.ok.blt,I.ok.above,I.ok.inj,I.ok.has,I.ok.cab,fun z=>(by cases z),I.ok.frames,I.ok.stk,I.ok.exf,I.ok.bs,I.ok.bsz,I.ok.noex,I.ok.exfs,I.ok.funs,I.ok.frf⟩,I.os,I.bare,I.base,I.loc,I.cell,I.free,I.freeC,I.pin,I.hok,I.len⟩
theorem Inv.outExc(ok:X.Ok)(I:Inv (X.inExc e) pins σ H s):Inv X pins σ H s:=⟨ok,I.os,I.bare,I.base,I.loc,I.cell,I.free,I.freeC,I.pin,I.hok,I.len⟩
theorem Inv.unbind(I:Inv X pins σ H s)(hN:X.N.Nodup)(hi:X.N[i]?=some n)(hl:∀(i:Nat)(x:Str)(v:V),X.N[i]?=some x->σ[i]?=some (some v)->mG X.env.scope x->∃u,RelV v u/\Look X.env s.heap m x u)(hn':h'.Ns X.env.locals (fun x=>if x=n then v else m x))(hs:Vo X.env.locals s.heap h'):Inv X pins (σ.set i none) H {s with heap:=h',toks:=t'}:=by
 have lo:∀b o,X.s₀.heap.get? b=some o->b≠X.env.locals:=fun b o e z=>by exact absurd (SN (GE e) I.ok.above) (by rw[z];exact Tz _)
 have cne:=I.cne;refine⟨I.ok,I.os,I.bare,⟨fun b o e n hb hx=>(hs.2 b (lo b o e)).trans (I.base.keep b o e n hb hx),fun b o e n hb hx=>?_,I.base.free,fun b o e hx=>?_,I.base.tups,I.base.frzs,I.base.tbls⟩, ⟨_,hn',fun j y v' e1 e2 e3=>?_⟩,fun y c e=>?_,I.free,I.freeC,fun p hp=>?_,I.hok.part fun b o hb q=>(hs.2 b fun z=>hb (by rw[z];exact I.free)).trans q,by simpa using I.len⟩
 ·obtain⟨sl,e1⟩:=I.base.slot b o e n hb hx
  exact⟨sl,(hs.2 b (lo b o e)).trans e1⟩
 ·obtain⟨o',e1⟩:=I.base.there b o e hx
  exact⟨o',(hs.2 b (lo b o e)).trans e1⟩
 ·by_cases hj:j=i
  ·subst hj
   by_cases hlt:j<σ.length;·rw[V2 hlt]at e2;cases e2
   ·rw[UB (by simpa using hlt)]at e2;cases e2
  ·rw[VD (T6 hj)]at e2
   obtain⟨u,r,q⟩:=hl j y v' e1 e2 e3;have yn:y≠n:=fun e=>hj (jQ hN e1 (e▸hi));refine⟨u,r,?_⟩;rcases q with⟨k,e⟩| ⟨k,c,e,z⟩;·exact .inl ⟨k,by simp[yn,e]⟩
   ·exact .inr ⟨k,c,e,z.sameBut hs (cne y c e)⟩
 ·obtain⟨w',z⟩:=I.cell y c e
  exact⟨w',z.sameBut hs (cne y c e)⟩
 ·obtain⟨e,n,ne,nf,d⟩:=I.pin p hp
  exact⟨(hs.2 p.1 ne).trans e,n,ne,nf,d⟩
end
def Ht(X:Cx)(e:Uo)(t:XK->TE):Prop:=∀(E:XK)(σ:St)(pn':List (GM×Obj))(xe':Do->FB->Prop), (∀(pins:List (GM×Obj))(H:Hp)(s:FB)(v:Do)(s':FB),Inv {X with pn:=pn',xe:=xe'} pins σ H s->e9 X.prog X.w X.stack H s E v s'->xe' v s')-> ∀(pins:List (GM×Obj))(s:FB)(H:Hp)(Q:VK),Inv {X with pn:=pn',xe:=xe'} pins σ H s->t E σ H Q->wpAny (model X.prog X.w) X.A (eval e X.env) (EP {X with pn:=pn',xe:=xe'} pins σ Q) xe' s
theorem v9(F:bz X.prog X.w X.K X.mg X.base CX k f fd ps sp)(hr:aU k X.A)(hb:Binds X.K fd ps [])(hx:∀(pins:List (GM×Obj))(H:Hp)(s:FB)(v:Do)(s':FB),Inv X pins σ H s->CX X.stack H s E v s'->X.xe v s')(I:Inv X pins σ H s)(r:Vals vs us)(h:sp vs H Q E):wpAny (model X.prog X.w) X.A (call (.ref f) us) (EP X pins σ Q) X.xe s:=by
 have hl:us.length=ps.length:=by rw[<-r.length];exact F.len _ _ _ _ h
 have hb':=hb s us I.kIn (by rw[T7];exact hl);rw[T7]at hb';refine VO (U8 (F.run X.A X.stack s H ⟨us,[]⟩ us vs Q E hr I.env0 hb' r h) fun r s' hq=>?_);cases r with
 |error v=>exact hx pins H s v s' I hq
 |ok fl=>cases fl<;>first|exact I.after hq|exact Up hq
noncomputable def dC(e:GM)(cls:Do):HO:=.ext fun h=>∃o,h.get? e=some o/\o.cls=cls/\∃vs,o.data=.fields vs
def xb(K:KB)(Ck:GM)(i:Nat)(tb:XK->TE)(ts:TS):TS:=fun D σ H=>tb (fun cls _ H1=>W.exmOne K cls (.ref Ck)=some true/\∀e,H1 e=none->ts {nx:=fun σ' H'=>D.nx (σ'.set i none) H',rt:=D.rt,bk:=fun σ' H'=>D.bk (σ'.set i none) H',ct:=fun σ' H'=>D.ct (σ'.set i none) H'} (σ.set i (some (.ref e))) (upd H1 e (dC e cls))) σ H fun _ H1=>D.nx σ H1
theorem oV{X:Cx}{call:Uo}{tb:XK->TE}{c n:Str}{Ck:GM}{i:Nat}{b₀:T4}{suite:List T4}{ts:TS}{ep cp hp pos:Pos}(hx:X.ex=[])(hst:X.stack=X.env::X.outer)(hf:X.env.frame=some X.env.locals)(hN:X.N.Nodup)(hi:X.N[i]?=some n)(hl:X.env.scope.names.lookup n=some .local)(hg:Gl X c)(hm:X.mg c=some (.ref Ck))(hb:Ht X call tb)(hs:∀e,dq (X.inExc e) (b₀::suite) ts)(hsw:swapsWith call none ep.line X.env=pure false:=by rfl)(hd:(c== ("__debug__" :Str))=false:=by decide): PS X (.Try [.Expr call ep] [.ExceptHandler (some (.Name c cp)) (some n) (b₀::suite) hp] [] [] pos) (xb X.K Ck i tb ts):=by
 intro pins s σ H D I h;refine wpAny_Try_except ?_;unfold xb at h;generalize hE:(fun(cls:Do)(_:Option GM)(H1:Hp)=>W.exmOne X.K cls (.ref Ck)=some true/\∀e,H1 e=none->ts {nx:=fun σ' H'=>D.nx (σ'.set i none) H',rt:=D.rt,bk:=fun σ' H'=>D.bk (σ'.set i none) H',ct:=fun σ' H'=>D.ct (σ'.set i none) H'} (σ.set i (some (.ref e))) (upd H1 e (dC e cls)))=E at h;have ok':∀xe',({X with pn:=X.pn++pins,xe:=xe'}:Cx).Ok:=fun xe'=> ⟨I.ok.mod,I.ok.kind,I.ok.glob,I.ok.blt,I.ok.above,I.ok.inj,I.ok.has,I.ok.cab,I.ok.hd,I.ok.frames,I.ok.stk,I.ok.exf,I.ok.bs,I.ok.bsz,I.ok.noex,I.ok.exfs,I.ok.funs,I.ok.frf⟩;have toX:∀{xe' pins' σ' H' s'},Inv ({X with pn:=X.pn++pins,xe:=xe'}:Cx) pins' σ' H' s'->Inv X pins σ' H' s':=fun J=> ⟨I.ok,J.os,J.bare,J.base,J.loc,J.cell,J.free,J.freeC,fun p hp=>J.pin p (VC _ hp),J.hok,J.len⟩;have I':Inv ({X with pn:=X.pn++pins,xe:=fun v s'=>∃H1 s1,Inv X pins σ H1 s1/\e9 X.prog X.w X.stack H1 s1 E v s'}:Cx) [] σ H s:= ⟨ok' _,I.os,I.bare,I.base,I.loc,I.cell,I.free,I.freeC,fun p hp=>I.pin p (by simpa using hp),I.hok,I.len⟩;have body:=hb E σ (X.pn++pins) (fun v s'=>∃H1 s1,Inv X pins σ H1 s1/\e9 X.prog X.w X.stack H1 s1 E v s') (fun pins' H1 s1 v s' J q=>⟨H1,s1,toX J,q⟩) [] s H _ I' h;refine TZ (Wm (wpAny_Expr_any (aD body fun v s1 q=>?_) I.quiet hsw):wpAny (model X.prog X.w) X.A (execs [.Expr call ep] X.env) (fun f s1=>f=.next/\∃H1,Inv X pins σ H1 s1/\D.nx σ H1) _ s) (fun f s1 q=>?_) ?_
 ·obtain⟨x,H1,J,r,q⟩:=q
  exact Vp ⟨rfl,H1,toX J,q⟩
 ·obtain⟨rfl,H1,J,q⟩:=q
  exact Vp ⟨σ,H1,J,q⟩
 ·rintro v s' ⟨H1,s1,I1,ea,T,cls,od,H2,rfl,n1,n2,f1,f2,tr,os,bare,un,hok,hE'⟩
  rw[<-hE]at hE';obtain⟨hmt,hsu⟩:=hE';have I2:Inv X pins σ H2 s':=I1.call' os un hok bare fun b z=>absurd z (by simp);have o1:=I1.ours hx n1;have o2:=I1.ours hx n2;have u1:gr X pins H2 ea:=⟨o1.1,f1,o1.2.1,o1.2.2.1,o1.2.2.2⟩;have u2:gr X pins H2 T:=⟨o2.1,f2,o2.2.1,o2.2.2.1,o2.2.2.2⟩;have fr:X.A.frames=some (X.env::X.outer):=by rw[<-hst];exact I.ok.frames
  have fn:s'.heap.FunFrames X.base (X.env::X.outer):=by rw[<-hst];exact I2.stack
  refine Ec fr fn hf tr fun h3 T3 tr3 hT3 k3=>?_;have I3:Inv X pins σ H2 {s' with heap:=h3}:=I2.exc hx (ch:=[ea,T]) (fun b hb=>by
   rcases GT.mp hb with z|z;·rw[z];exact u1
   ·rw[show b=T by simpa using z];exact u2) (by rw[hst];exact k3)
  have u3:gr X pins H2 T3:=by
   rcases hT3 with z|z;·rw[z];exact u2
   ·have o3:=I2.ours hx z
    exact⟨o3.1,I2.hok.none z,o3.2.1,o3.2.2.1,o3.2.2.2⟩
  have LT:W.Looks (model X.prog X.w) h3 (typeOf (.ref ea)) cls:=by obtain⟨oe,vs,oT,ts,he,hc,_⟩:=tr3;subst hc;exact(W.Looks.ld he).andThen .now
  refine wpAny_handleBy_cons (codeAny_handlers_test (cL (I3.inExc ea) hg hm ?_ hd)) (by intro q;cases q);refine(W.exm_one (M:=model X.prog X.w) I3.kIn LT hmt) _ _ _ _ (fun _ _ q=>q) ?_;show codeAny _ _ (.handlers (.ref ea) [.ExceptHandler none (some n) (b₀::suite) hp] X.env) _ _;refine codeAny_handlers_suite_as (xN (base:=X.base) (l:=X.stack) I3.stack tr3 fun h5 T5 tr5 hT5 k5=>?_);have I5:Inv X pins σ H2 {s' with heap:=h5}:=Inv.exc (s:={s' with heap:=h3}) I3 hx (ch:=[ea,T3]) (fun b hb=>by
   rcases GT.mp hb with z|z;·rw[z];exact u1
   ·rw[show b=T3 by simpa using z];exact u3) k5
  refine iG (X:=X.inExc ea) (I5.inExc ea) hN hi (.inl hl) (v:=.ref ea) (u:=.ref ea) rfl (fun s6 J6⟨ad,sb,had⟩=>?_) (.inr hl);have hne:ea≠ad:=by
   rcases had with z|z;·rw[z];exact u1.loc
   ·exact fun y=>u1.cell n ad z y.symm
  have new:aW X.prog X.w (upd H2 ea (dC ea cls)) s6.heap ea (dC ea cls):=by obtain⟨oe,vs,oT,ts,he,hc,hd,_⟩:=tr5;have he6:s6.heap.get? ea=some oe:=(sb.2 ea hne).trans he;refine⟨⟨oe,he6,hc,vs,hd⟩,⟨oe,he6⟩,?_⟩;rintro h1 h2 ⟨o,q,r⟩ k;exact⟨o,k o q,r⟩
  have J7:Inv (X.inExc ea) pins (σ.set i (some (.ref ea))) (upd H2 ea (dC ea cls)) s6:=J6.track ⟨u1.new,u1.free,u1.loc,u1.cell,u1.pin⟩ new;refine TZ (hs ea pins s6 _ _ _ J7 (hsu ea f1)) (fun f s7 q=>?_) (fun _ _ z=>z.elim);have go:∀{σ':St}{H':Hp},Inv (X.inExc ea) pins σ' H' s7->∀(R:FB->Prop),(∀s8,Inv X pins (σ'.set i none) H' s8->R s8)->wpAny (model X.prog X.w) X.A (do bindName X.env n .none;unbindBehindTheSuite X.env n hp) (fun _ s8=>R s8) X.xe s7:=fun{σ' H'}J R hR=>by have J0:Inv X pins σ' H' s7:=J.outExc I.ok;obtain⟨m,hn,hlk⟩:=J0.loc;exact wpAny_nameGoes_keeps hl hn (by rw[I.ok.kind];rfl) fun h' v hn' hs'=>hR _ (J0.unbind hN hi hlk hn' hs')
  cases f with
  |next=> obtain⟨σ',H',J,q⟩:=q;exact go J _ fun s8 J8=>⟨_,H',J8,q⟩
  |brk=> obtain⟨σ',H',J,q⟩:=q;exact go J _ fun s8 J8=>⟨_,H',J8,q⟩
  |cont=> obtain⟨σ',H',J,q⟩:=q;exact go J _ fun s8 J8=>⟨_,H',J8,q⟩
  |ret u=> obtain⟨v,σ',H',J,r,q⟩:=q;exact go J _ fun s8 J8=>⟨v,_,H',J8,r,q⟩
structure Def(P:SK)(w:Tc)(K:KB)(mg:Str->Option Do)(base:Ux)(x:Str)(ps:List Str)(k:Nat)(sp:Sp)(f:GM)(fd:TK):Prop where
 ok:bz P w K mg base (e9 P w) k f fd ps sp
 b:Binds K fd ps []
 kp:W.keepIn K (.ref f)=true
 m:mg x=some (.ref f)
section
variable{X:Cx}{f:GM}{fd:TK}{ps:List Str}{sp:Sp}{x:Str}{p pos:Pos}{e:Uo}{es:List Uo}{t:TA}{j k:Nat}
theorem aM(D:Def X.prog X.w X.K X.mg X.base x ps j sp f fd)(hr:aU k X.A)(ha:PA X (e::es) t)(hjk:j<=k:=by decide)(hg:Gl X x:=by rfl)(hdb:(x== ("__debug__" :Str))=false:=by decide)(he:starEach (e::es) X.env=(false,eval e X.env)::starEach es X.env:=by rfl)(hpl:(backTo pos (starEach es X.env)).any (·.1)=false:=by rfl): PE X (.Call (.Name x p) (e::es) [] pos) (hW sp [] E0 t):=qH D.ok (hr.mono hjk) hg D.m D.kp D.b .nil gi ha hdb he hpl
theorem dJ(D:Def X.prog X.w X.K X.mg X.base x ps j sp f fd)(hr:aU k X.A)(hjk:j<=k:=by decide)(hg:Gl X x:=by rfl)(hdb:(x== ("__debug__" :Str))=false:=by decide):PE X (.Call (.Name x p) [] [] pos) (hW sp [] E0 fJ):=xy D.ok (hr.mono hjk) hg D.m D.kp D.b .nil gi hdb
theorem pF(T:mM X E)(D:Def X.prog X.w X.K X.mg X.base x ps j sp f fd)(hr:aU k X.A)(ha:PA X (e::es) t)(hjk:j<=k:=by decide)(hg:Gl X x:=by rfl)(hdb:(x== ("__debug__" :Str))=false:=by decide)(he:starEach (e::es) X.env=(false,eval e X.env)::starEach es X.env:=by rfl)(hpl:(backTo pos (starEach es X.env)).any (·.1)=false:=by rfl): PE X (.Call (.Name x p) (e::es) [] pos) (hW sp [] E t):=qH D.ok (hr.mono hjk) hg D.m D.kp D.b .nil T.pass ha hdb he hpl
theorem Fy(D:Def X.prog X.w X.K X.mg X.base x ps j sp f fd)(hr:aU k X.A)(ha:∀(pn':List (GM×Obj))(xe':Do->FB->Prop),PA {X with pn:=pn',xe:=xe'} (e::es) t)(hjk:j<=k:=by decide)(hg:Gl X x:=by rfl)(hdb:(x== ("__debug__" :Str))=false:=by decide)(he:starEach (e::es) X.env=(false,eval e X.env)::starEach es X.env:=by rfl)(hpl:(backTo pos (starEach es X.env)).any (·.1)=false:=by rfl): Ht X (.Call (.Name x p) (e::es) [] pos) (fun E=>hW sp [] E t):=by intro E σ pn' xe' hp pins s H Q I h;refine Tv (cL (X:={X with pn:=pn',xe:=xe'}) I hg D.m ?_ hdb);refine XB (h₀:=X.base) I.ok.mod.kin D.kp (aD (ha pn' xe' pos pins s σ H _ I h) fun us s1⟨vs,H1,I1,r,q⟩=>⟨I1.kIn,?_⟩) he hpl;have q:sp (vs++[]) H1 Q E:=q;rw[T7]at q;exact v9 (X:={X with pn:=pn',xe:=xe'}) D.ok (hr.mono hjk) D.b hp I1 r q
end
theorem aR:bootBuiltins "isinstance" =some (.builtin "isinstance"):=by decide+kernel
theorem vi:bootBuiltins "int" =some (.type "int"):=by decide+kernel
theorem Fh:bootBuiltins "bool" =some (.type "bool"):=by decide+kernel
theorem eO:bootBuiltins "list" =some (.type "list"):=by decide+kernel
theorem oF:bootBuiltins "min" =some (.builtin "min"):=by decide+kernel
theorem fF:bootBuiltins "max" =some (.builtin "max"):=by decide+kernel
theorem IE:bootBuiltins "sum" =some (.builtin "sum"):=by decide+kernel
theorem bb:bootBuiltins "len" =some (.builtin "len"):=by decide+kernel
theorem af.upd(h:af H H')(n:H p=none)(o:HO):af H (L2.upd H' p o):=fun b u q=>by rw[aw (aF q n)];exact h b u q
theorem af.new(h:af H H')(n:H' p=none)(o:HO):af H (L2.upd H' p o):=h.trans fun b u q=>by rw[aw (aF q n)];exact q
theorem sz(h:n<=1000000):n<=sizeLine:=Tt h (by decide)
theorem oh(h:n<=1000000):n<sizeLine:=Vm h (by decide)
theorem qa{K:KB}:UR K (.type "int") (.type "int")=some true:=by rfl
theorem iy{K:KB}:UR K (.type "list") (.type "list")=some true:=by rfl
theorem oJ{K:KB}:UR K (.type "int") (.type "bool")=some false:=by rfl
theorem fu{ns:List Int}{i:Int}(h0:0<=i)(h1:i< (ns.length:Int)):eS (ns.map V.int) i=some (.int (ns.getD i.toNat 0)):=by
 have hk:i.toNat<ns.length:=by lia
 have ek:i=((i.toNat:Nat):Int):=by lia
 have q:eS (ns.map V.int) ((i.toNat:Nat):Int)=some (.int (ns.getD i.toNat 0)):=gH (by rw[Td,FM,Da hk]<;>rfl);rw[<-ek]at q;exact q
theorem iT(h:F true H):BR σ H F:=h
theorem eM{X:Cx}{K:KB}(h:X.K=K):qx X (Np K):=h▸a9
theorem pm{j:Int}(h:0<j):0<j:=h
def eP(ns:List Int)(lo hi:Option Int):List Int:=(ns.drop (HT.sIx ns.length 0 lo)).take (HT.sIx ns.length ns.length hi-HT.sIx ns.length 0 lo)
theorem jN(ns:List Int)(lo hi:Option Int):dX (ns.map V.int) lo hi=(eP ns lo hi).map V.int:=by unfold dX eP;rw[FS,List.map_take,List.map_drop]
theorem dw{ns:List Int}{i:Nat}{x:V}(h:(ns.map V.int)[i]?=some x):∃c,x=.int c:=by rw[Td]at h;cases e:ns[i]? with
 |none=>rw[e]at h;cases h
 |some c=>rw[e]at h;cases h;exact⟨c,rfl⟩
def QK(t u:TS):TS:=fun D σ H=>∃P:St->Hp->Prop,t {D with nx:=P} σ H/\∀σ' H',P σ' H'->u D σ' H'
theorem lO{X:Cx}{st:T4}{rest:List T4}{t u:TS}(h1:PS X st t)(h2:dq X rest u):dq X (st::rest) (QK t u):=by intro pins s σ H D I h;obtain⟨P,ha,hb⟩:=h;refine Wm (aD (h1 pins s σ H {D with nx:=P} I ha) fun f s1 q=>?_);cases f with
 |next=> obtain⟨σ',H',I',q⟩:=q;exact h2 pins s1 σ' H' D I' (hb σ' H' q)
 |ret v=>exact q
 |brk=>exact q
 |cont=>exact q
theorem JF{b b':Bool}{A B:Prop}(e:b=b')(h:if b'=true then A else B):if b=true then A else B:=by rw[e];exact h
theorem cw{c A B:Prop}[Decidable c](hc:c)(h:A):if decide c=true then A else B:=by rw[decide_eq_true hc];exact bw h
theorem cf{c A B:Prop}[Decidable c](hc:¬c)(h:B):if decide c=true then A else B:=by rw[decide_eq_false hc];exact aP h
theorem qD{n:Nat}{i:Int}(h0:0<=i)(h1:i<n):ku n i=some i.toNat:=by unfold ku;rw[if_pos h0,if_pos h1]
noncomputable def sgn(c:Nat):V:=.str ⟨#[c]⟩
theorem Sh:(AC "(")=⟨#[40]⟩:=by decide+kernel
theorem Sk:(AC ")")=⟨#[41]⟩:=by decide+kernel
theorem NY:V.str (AC "(")=sgn 40:=by rw[Sh];rfl
theorem NA:V.str (AC ")")=sgn 41:=by rw[Sk];rfl
theorem qC(h:sgn c=sgn d):c=d:=by unfold sgn at h;injection h with h;injection h with h;have h2:=congrArg Array.toList h;simpa using h2
theorem NJ(c:Nat):decide (V.str ⟨#[c]⟩=V.str (AC "("))=decide (c=40):=by
 rw[NY];show decide (sgn c=sgn 40)=_;by_cases h:c=40;·subst h;rw[decide_eq_true rfl,decide_eq_true rfl]
 ·rw[decide_eq_false h,decide_eq_false fun z=>h (qC z)]
theorem Oa(c:Nat):decide (V.str ⟨#[c]⟩=V.str (AC ")"))=decide (c=41):=by
 rw[NA];show decide (sgn c=sgn 41)=_;by_cases h:c=41;·subst h;rw[decide_eq_true rfl,decide_eq_true rfl]
 ·rw[decide_eq_false h,decide_eq_false fun z=>h (qC z)]
theorem zc{x:Str}{i c:Nat}(h:x.cps[i]?=some c):x.cps.toList.drop i=c::x.cps.toList.drop (i+1):=by
 have h':x.cps.toList[i]?=some c:=by simpa using h
 obtain⟨hi,e⟩:=Pi.mp h';rw[TU hi,e]
theorem Aa(x:Str):x.cps.toList.drop x.cps.size=[]:=Vl (by simp)
theorem qb(ns:List Int)(lo hi:Option Int):(eP ns lo hi).length<=ns.length:=by unfold eP;rw[Tj,Xm];lia
end L2
namespace Ck
noncomputable def BZ:Nat->List Int
 |0=>[1]
 |k+1=>BZ k++[((SO (k+1)).map fun j=>(BZ k).getD j 0*(BZ k).getD (k-j) 0).sum]
def sh(k:Nat):Int:=(BZ k).getD k 0
noncomputable def r:Nat->Nat->Int
 |0,_=>1
 |_+1,0=>0
 |u+1,d+1=>if d<u then 0 else r u (d+1)+r (u+1) d
def row(n u:Nat):List Int:=(SO (n+1-u)).map fun i=>r u (u+i)
noncomputable def pw(a:Int):Nat->Int
 |0=>1
 |k+1=>pw a k*a
noncomputable def dF:Nat->List Nat->Bool
 |k,[]=>k==0
 |k,c::t=>if c=40 then dF (k+1) t else if c=41 then(match k with|0=>false|k+1=>dF k t)else false
theorem Jy(k:Nat)(t:List Nat):dF k (40::t)=dF (k+1) t:=by
 conv=>lhs;unfold dF
 rw[if_pos rfl]
theorem y6(k:Nat)(t:List Nat):dF (k+1) (41::t)=dF k t:=by
 conv=>lhs;unfold dF
 rw[if_neg (by decide),if_pos rfl]
theorem wJ(t:List Nat):dF 0 (41::t)=false:=by unfold dF;rw[if_neg (by decide),if_pos rfl]
theorem vX{k c:Nat}{t:List Nat}(h1:¬c=40)(h2:¬c=41):dF k (c::t)=false:=by unfold dF;rw[if_neg h1,if_neg h2]
theorem DR(k:Nat):dF k []=(k==0):=by unfold dF;rfl
inductive Good:Nat->Nat->List Nat->Prop|nil:Good 0 0 [] |up {u d:Nat}{t:List Nat} (h:Good u d t) (le:u+1<=d):Good (u+1) d (40::t)
 |down {u d:Nat}{t:List Nat} (h:Good u d t) (le:u<=d):Good u (d+1) (41::t)
noncomputable def lt:List Nat->List Nat->Bool
 |c::s,e::t=>if c=e then lt s t else c==40
 |_,_=>false
end Ck
namespace Ck
open PySem
theorem Fx(x:Str):x.cps.toList.length=x.length:=by simp[Str.length]
noncomputable def ix(n d:Nat):Option Int->Nat
 |none=>d
 |some v=>if v<0 then(v+(n:Int)).toNat else min v.toNat n
end Ck
namespace Ck
open PySem L2
end Ck
namespace L2
open PySem
theorem wX(ns:List Int):eP ns (some 1) none=ns.drop 1:=by unfold eP;have e1:HT.sIx ns.length 0 (some 1)=min 1 ns.length:=HT.sIx_nat _ _ 1;rw[e1,HT.sIx_none];cases ns with
 |nil=>rfl
 |cons a r=>
  have e2:min 1 (a::r).length=1:=by simp
  rw[e2];exact Tg (by simp)
end L2
namespace Ck
open PySem L2
structure Tab(H:Hp)(p:GM)(n m:Nat)(T:List GM):Prop where
 at_:H p=some (.lst (T.map V.ref))
 len:T.length=m
 rows:∀(u:Nat)(t:GM),T[u]?=some t->H t=some (.lst ((row n u).map V.int))
end Ck
namespace L2
open PySem PySem.Spec PyProof.Rows
def Hg:V->List V->Hp->VK->Prop:=fun x vs H Q=>∃z y,x=.str z/\vs=[.str y]/\Q (.int (Txt.count z y)) H
theorem yP:jC X "str.count" Hg:=by intro pins s σ H x xs v us Q I rx rs h;obtain⟨z,y,rfl,rfl,q⟩:=h;obtain⟨t,rfl⟩:=rx;obtain⟨u,rfl,t',rfl⟩:=vals1 rs;exact SC.count ⟨.int (Txt.count z y),H,I.tok _,⟨_,rfl⟩,q⟩
theorem ET{x:Str}{i:Int}{c:Nat}(h0:0<=i)(h:x.cps.toList[i.toNat]?=some c):eS x.cps.toList i=some c:=by have q:=gH (xs:=x.cps.toList) (j:=i.toNat) h;rw[show((i.toNat:Nat):Int)=i by lia]at q;exact q
theorem Ed{x y:Str}(h:x.cps.toList=y.cps.toList):x=y:=by
 obtain⟨a⟩:=x;obtain⟨b⟩:=y;have:a=b:=by have h':a.toList=b.toList:=h;rw[<-XN (xs:=a),h',XN]
 rw[this]
end L2
namespace Ck
open PySem L2
end Ck
namespace L2
open PySem PySem.Spec PyProof.Rows
noncomputable def qJ(lo:Int)(n:Nat):It:=⟨fun i _=>i<n,fun i H x H'=>H'=H/\x=.int (lo-i),fun i _=>n<=i⟩
theorem wD{P:SK}{w:Tc}{K:KB}{tg:Uo}(it:GM)(lo:Int)(n:Nat):Turn P w K tg (qJ lo n) [it] it (fun i h=>XT h it (lo+(i:Nat)*(-1)) ((n:Int)- (i:Nat)) (-1))where
 mem:=by simp
 obj:=fun i h st b hb=>by
  have e:b=it:=by simpa using hb
  subst e;exact⟨_,st,fun v z=>by have z':XU _=Xy v:=z;cases z'⟩
 keep:=fun i h h' st k=>k it (by simp) _ st;item:=by intro X hP hw hK hc i pins s σ H E I hf st hg;subst hP hw hK;obtain⟨f0,f1,f2,f3,f4,f5⟩:=hf it (by simp);refine(Walks.range (prog:=X.prog) (w:=X.w) (I.ok.hd hc) it lo (-1) n).item i s _ _ hg st fun v h' tk hv st' kk=>?_;obtain⟨t,rfl⟩:=hv;have I1:Inv X pins σ H {s with heap:=h',toks:=tk}:=I.turned (fun b o hb e=>kk b o (by simpa using hb) e) f0 f1 f3 f4 f5;refine⟨_,rfl,nK (s:={s with heap:=h',toks:=tk}) (n:="range_iterator") st' rfl rfl (by decide) ⟨.int (lo-i),H,I1,⟨t,?_⟩,⟨rfl,rfl⟩,st',fun b hb=>(hf b hb).1⟩⟩;rw[show lo+(i:Int)*(-1)=lo- (i:Int)by lia]
 done:=by intro X hP hw hK hc i pins s σ H E I hf st hg;subst hP hw hK;obtain⟨f0,f1,f2,f3,f4,f5⟩:=hf it (by simp);exact wpAny_pyNext_range_end (I.ok.hd hc) st (by have:n<=i:=hg;lia) fun h' eb=>⟨rfl,I.turned (t':=s.toks) (fun b o hb e=>eb b o hb e) f0 f1 f3 f4 f5⟩
 self:=fun _ _ _ _ _ st h=>wpAny_pyIter_rangeiter st h
section
variable{X:Cx}{tg:Uo}
theorem Ex{pins:List (GM×Obj)}{σ:St}{H:Hp}{s:FB}{R:It->Hp->Prop}{E:Do->FB->Prop}{lo hi:Int}{t u v:Tok}{tk:Nat}(I:Inv X pins σ H s)(h1:-(2^62)<=lo)(h2:lo<2^62)(h3:-(2^62)<=hi)(h4:hi<2^62)(q:R (qJ lo (lo-hi).toNat) H):wpAny (model X.prog X.w) X.A (pyIter (.ref s.heap.objs.size)) (BX X pins σ tg R) E {s with heap:=s.heap.push {cls:=.type "range",data:=.fields #[.int lo t,.int hi u,.int (-1) v]},toks:=tk}:=by
 refine wpAny_pyIter_range (Yj ..) (W.small_down h1 h2 h3 h4) ?_;have I1:Inv X pins σ H {s with heap:=s.heap.push {cls:=.type "range",data:=.fields #[.int lo t,.int hi u,.int (-1) v]},toks:=tk}:=I.kept fun b o e=>Fk _ e;refine⟨(s.heap.push {cls:=.type "range",data:=.fields #[.int lo t,.int hi u,.int (-1) v]}).objs.size,[(s.heap.push {cls:=.type "range",data:=.fields #[.int lo t,.int hi u,.int (-1) v]}).objs.size],_,_,H,rfl,I1.kept (t':=tk) fun b o e=>Fk _ e,wD _ lo (lo-hi).toNat,?_,fun b hb=>?_,q⟩
 ·have e1:lo+((0:Nat):Int)*(-1)=lo:=by simp
  have e2:(((lo-hi).toNat:Nat):Int)- ((0:Nat):Int)=Builtin.Range.rangeSize lo hi (-1):=by rw[W.rangeSize_downNat];simp
  show XT _ _ (lo+((0:Nat):Int)*(-1)) ((((lo-hi).toNat:Nat):Int)- ((0:Nat):Int)) (-1);rw[e1,e2];exact SB _ rfl
 ·have e:b=(s.heap.push {cls:=.type "range",data:=.fields #[.int lo t,.int hi u,.int (-1) v]}).objs.size:=by simpa using hb
  subst e;exact I1.fpOk (M2 _) (I1.hok.fresh (M2 _))
def N0(ta:TA):TI:=fun σ H R=>ta σ H fun vs H1=>∃i j:Int,vs=[.int i,.int j,.int (-1)]/\(-(2^62)<=i/\i<2^62/\-(2^62)<=j/\j<2^62)/\R (qJ i (i-j).toNat) H1
theorem DS(hg:Gl X "range")(hm:X.mg "range" =none)(ha:PA X [a,b,c] ta)(hs:starEach [a,b,c] X.env=[(false,eval a X.env),(false,eval b X.env),(false,eval c X.env)]:=by rfl)(hs2:starEach [b,c] X.env=[(false,eval b X.env),(false,eval c X.env)]:=by rfl):PI X tg (.Call (.Name "range" p) [a,b,c] [] pos) (N0 ta):=by
 intro pins s σ H R I h;refine Call_ (bO I hg hm XJ (SU (aD (ha pos pins s σ H _ I h) fun us s1⟨vs,H1,I1,r1,q1⟩=>?_) (by rw[hs,hs2]) (by rw[hs2];rfl)));obtain⟨i,j,e,⟨q1,q2,q3,q4⟩,q⟩:=q1;subst e;obtain⟨u1,u2,u3,rfl,⟨t,rfl⟩,⟨t',rfl⟩,t'',rfl⟩:∃u1 u2 u3,us=[u1,u2,u3]/\RelV (.int i) u1/\RelV (.int j) u2/\RelV (.int (-1)) u3:=by cases r1 with |cons r rr=>cases rr with|cons r' rr=>cases rr with|cons r'' rr=>cases rr;exact⟨_,_,_,rfl,r,r',r''⟩
 exact call_range_3 (by decide) (Ex I1 q1 q2 q3 q4 q) (.inl (PyProof.noPylong_small (by decide)))
theorem zf{lo:Int}{n:Nat}{g:TG}{tb:TS}{D:Ends}{σ:St}{H:Hp}(Pv:Nat->St->Hp->Prop)(h0:Pv 0 σ H)(hs:∀i σ H,i<n->Pv i σ H->g (.int (lo-i)) σ H fun σ2 H2=>tb {D with nx:=Pv (i+1),ct:=Pv (i+1),bk:=D.nx} σ2 H2)(hd:∀σ H,Pv n σ H->D.nx σ H): ∃W:Nat->Nat->St->Hp->Prop,(∃m,W 0 m σ H)/\∀i m σ H,W i m σ H-> ((qJ lo n).stop i H/\D.nx σ H)\/((qJ lo n).go i H/\∃N:St->Hp->Prop,(∀σ' H',N σ' H'->∃m',m'<m/\W (i+1) m' σ' H')/\∀x H',(qJ lo n).yld i H x H'->g x σ H' fun σ2 H2=>tb {D with nx:=N,ct:=N,bk:=D.nx} σ2 H2):=by
 refine⟨fun i m σ H=>m=n-i/\i<=n/\Pv i σ H,⟨n,by simp,KM _,h0⟩,?_⟩;rintro i m σ H ⟨rfl,hi,p⟩;by_cases hlt:i<n
 ·refine .inr ⟨hlt,Pv (i+1),fun σ' H' p'=>⟨n- (i+1),by lia,rfl,hlt,p'⟩,fun x H' y=>?_⟩
  obtain⟨rfl,rfl⟩:=y;exact hs i σ _ hlt p
 ·have e:i=n:=by lia
  subst e;exact .inl ⟨M2 _,hd σ H p⟩
end
noncomputable def eZ:List V->List V->Bool
 | [],[]=>true
 |x::xs,y::ys=>dB x y&&eZ xs ys
 |_,_=>false
theorem lM:∀{xs ys:List V},xs.length≠ys.length->eZ xs ys=false
 | [],[],h=>absurd rfl h
 | [],_::_,_=>rfl
 |_::_,[],_=>rfl
 |x::xs,y::ys,h=>by rw[eZ,lM (xs:=xs) (ys:=ys) (by simpa using h),WT]
theorem me:∀{xs ys:List V},xs.length=ys.length->(SO xs.length).all (fun j=>dB (xs.getD j .non) (ys.getD j .non))=eZ xs ys
 | [],[],_=>rfl
 |x::xs,y::ys,h=>by rw[eZ,<-me (xs:=xs) (ys:=ys) (by simpa using h),Tu,Xu,Vx,VR];rfl
def rS(K:KB)(neg:Bool):R2:=fun x y H Q=>∃a b xs ys,x=.ref a/\y=.ref b/\ao K H a xs/\ao K H b ys/\xs.all cC=true/\ys.all cC=true/\Q (.bl (if neg then !eZ xs ys else eZ xs ys)) H
section
variable{X:Cx}
theorem items_eqAt(r:Vals xs us)(r':Vals ys vs)(fx:xs.all cC=true)(fy:ys.all cC=true):∀j(h1:j<us.toArray.size)(h2:j<vs.toArray.size),X7 A s us.toArray[j] vs.toArray[j] (dB (xs.getD j .non) (ys.getD j .non)):=fun j h1 h2=>by
 have l1:=r.length;have l2:=r'.length;have h1':j<us.length:=by simpa using h1
 have h2':j<vs.length:=by simpa using h2
 obtain⟨u,eu,ru⟩:=r.get (Da (show j<xs.length by lia));obtain⟨v,ev,rv⟩:=r'.get (Da (show j<ys.length by lia));have e1:us.toArray[j]=u:=by rw[Da h1']at eu;simpa using eu
 have e2:vs.toArray[j]=v:=by rw[Da h2']at ev;simpa using ev
 rw[e1,e2];have g1:xs.getD j .non=xs[j]'(by lia):=by rw[FM,Da (show j<xs.length by lia)];rfl
 have g2:ys.getD j .non=ys[j]'(by lia):=by rw[FM,Da (show j<ys.length by lia)];rfl
 rw[g1,g2];exact ou ru rv (SS.mp fx _ (Vi _)) (SS.mp fy _ (Vi _))
theorem hG(hu:X.A.units<cLine):bX X (compareOp .Eq) (rS X.K false):=by
 intro pins s σ H x y v u Q I rx ry h;obtain⟨a,b,xs,ys,rfl,rfl,ha,hb,fx,fy,q⟩:=h;cases rx;cases ry
 obtain⟨us,r,pl,hz⟩:=I.list ha;obtain⟨vs,r',pl',hz'⟩:=I.list hb;have l1:=r.length;have l2:=r'.length;by_cases hl:xs.length=ys.length
 ·refine SeqAt.eq_listAt (e:=fun j=>dB (xs.getD j .non) (ys.getD j .non)) pl.isList pl'.isList (by simp;lia) hu (items_eqAt r r' fx fy) ⟨.bl _,H,I,rfl,?_⟩
  rw[show us.toArray.size=xs.length by simp;lia,me hl];exact q
 ·refine Xh pl.isList pl'.isList (by simp;lia) hu ⟨.bl false,H,I,rfl,?_⟩
  rw[<-lM hl];exact q
theorem dy(hu:X.A.units<cLine):bX X (compareOp .NotEq) (rS X.K true):=by
 intro pins s σ H x y v u Q I rx ry h;obtain⟨a,b,xs,ys,rfl,rfl,ha,hb,fx,fy,q⟩:=h;cases rx;cases ry
 obtain⟨us,r,pl,hz⟩:=I.list ha;obtain⟨vs,r',pl',hz'⟩:=I.list hb;have l1:=r.length;have l2:=r'.length;by_cases hl:xs.length=ys.length
 ·refine X3 (e:=fun j=>dB (xs.getD j .non) (ys.getD j .non)) pl.isList pl'.isList (by simp;lia) hu (items_eqAt r r' fx fy) _ _ _ _ ⟨.bl _,H,I,rfl,?_⟩
  rw[show us.toArray.size=xs.length by simp;lia,me hl];exact q
 ·refine WJ pl.isList pl'.isList (by simp;lia) hu _ _ _ _ ⟨.bl true,H,I,rfl,?_⟩
  have z:=lM hl;rw[z]at q;exact q
end
end L2
namespace L2
open PySem PySem.Spec PyProof.Rows PySem.W Builtin Builtin.ObjectAttr Builtin.Getset_descriptor
noncomputable def uh(K:VB)(C:GM):Bool:=findIn K (.ref C) "__getattribute__" ==some (some (.builtin "BaseException.__getattribute__"))&&findIn K (.ref C) "__getattr__" ==some none&& findIn K (.ref C) "__class__" ==some (some (.builtin "object.__class__"))&&specialIn K (.builtin "object.__class__") "__get__" ==some (some (.builtin "getset_descriptor.__get__"))&&
 takesIn K (.builtin "object.__class__")==some true&&mroIn K C (.type "object")==some true&&mroIn K C (.type "BaseException")==some true&&(clsIn K C).isSome
structure fc(K:VB)(C:GM):Prop where
 ga:findIn K (.ref C) "__getattribute__" =some (some (.builtin "BaseException.__getattribute__"))
 gh:findIn K (.ref C) "__getattr__" =some none
 cl:findIn K (.ref C) "__class__" =some (some (.builtin "object.__class__"))
 gt:specialIn K (.builtin "object.__class__") "__get__" =some (some (.builtin "getset_descriptor.__get__"))
 tk:takesIn K (.builtin "object.__class__")=some true
 mo:mroIn K C (.type "object")=some true
 mb:mroIn K C (.type "BaseException")=some true
 is:(clsIn K C).isSome=true
theorem D3{K:VB}{C:GM}(h:uh K C=true):fc K C:=by unfold uh at h;simp only[On,beq_iff_eq]at h;obtain⟨⟨⟨⟨⟨⟨⟨a,b⟩,c⟩,d⟩,e⟩,f⟩,g⟩,i⟩:=h;exact⟨a,b,c,d,e,f,g,i⟩
section
variable{K:VB}{e C:GM}{M:Model}{h:Ux}{prog:SK}{w:Tc}{A:Tf}{E:Do->FB->Prop}{s:FB}
def rh(e C:GM)(h:Ux):Prop:=∃o,h.get? e=some o/\o.cls=.ref C/\∃vs,o.data=.fields vs
theorem rh.ty(x:rh e C h):Looks M h (typeOf (.ref e)) (.ref C):=by obtain⟨o,ho,hc,_⟩:=x;rw[<-hc];exact(Looks.ld ho).andThen .now
theorem fc.find(F:fc K C)(X:K.In h)(x:Do):Looks M h (Builtin.ObjectAttr.find x (.ref C) "__class__") (.bind (.builtin "getset_descriptor.__get__") (.builtin "object.__class__")):=by unfold Builtin.ObjectAttr.find;refine(looks_findIn X F.cl).andThen ?_;refine Looks.andThen (a:=some (.builtin "getset_descriptor.__get__")) (looks_specialIn X F.gt) ?_;refine Looks.andThen (a:=some (.builtin "getset_descriptor.__get__",.builtin "object.__class__")) ?_ (Looks.tag .now);exact(looks_takesIn X F.tk).andThen .now
end
section
variable{K:VB}{e C:GM}{M:Model}{h:Ux}{prog:SK}{w:Tc}{A:Tf}{E:Do->FB->Prop}{s:FB}
theorem fc.got(F:fc K C)(X:K.In s.heap)(I:rh e C s.heap)(q:R (.ok (.ret (.ref C))) s):codeAny (model prog w) A (.call (.builtin "getset_descriptor.__get__") ⟨[.builtin "object.__class__",.ref e,tp],[]⟩) R s:=by
 obtain⟨hh,g,dr,t,os⟩:=s;have L0:=I.ty (M:=model prog w);have L1:=looks_mroIn (M:=model prog w) X F.mo;refine UH KF.slot_gs.plain KF.entry_gs (KF.slot_gs.check _ _ _ _ _ _ _ _ KF.type_class (KF.args_gs _ _ _) ?_);unfold Builtin.«getset_descriptor.__get__» descrGet;rw[dga_obj];refine tz (Gc ?_);unfold descrGetter descrCheckInstance descrNameAndClass isInstance;simp only[KF.owner_class];repeat lk
 refine⟨VU _ (by decide+kernel),T9 KF.entry_class ?_⟩;unfold Builtin.«object.__class__» shownTypeOf;repeat lk
 exact q
theorem fc.checked(F:fc K C)(X:K.In s.heap)(I:rh e C s.heap)(q:Q () s):wpAny M A (checkBuiltinCall "BaseException.__getattribute__" ⟨[.ref e,nv],[]⟩) Q E s:=by
 obtain⟨hh,g,dr,t,os⟩:=s;have LI:Looks M hh (isInstance (.ref e) (.type "BaseException")) true:=I.ty.andThen (looks_mroIn X F.mb);have e1:builtinKind "BaseException.__getattribute__" =some .slot:=(by decide+kernel);have e2:splitId "BaseException.__getattribute__" =some (("BaseException","__getattribute__"):String×String):=by decide+kernel
 have e3:=XO (.ref e) nv;simp only[checkBuiltinCall,e1,e2];refine tz (LI.at ?_);repeat(first|assumption|wp_step)
theorem fc.attr(F:fc K C){tk:Tok}{Q:Do->FB->Prop}(X:K.In s.heap)(I:rh e C s.heap)(q:Q (.ref C) s):wpAny (model prog w) A (getAttrBy (.ref e) (.str "__class__" tk) false false) Q E s:=by
 obtain⟨hh,g,dr,t,os⟩:=s;have L0:=I.ty (M:=model prog w);have L1:=looks_findIn (M:=model prog w) X F.ga;have L2:=looks_findIn (M:=model prog w) X F.gh;have L3:=F.find (M:=model prog w) X (.ref e);have b:=Xi.ga.bind (.ref e);unfold getAttrBy;refine Ti (tz (L0.at (tz (L1.at ?_))));show wpAny _ _ (getAttrByItsOwn _ _ _ _ _ _) _ _ _;unfold getAttrByItsOwn hookBefore;refine tz (L2.at ?_);refine tz (Vy (Ti ?_));show wpAny _ _ (boundAndCalled _ _ _) _ _ _;unfold boundAndCalled;rw[b];refine tz (Gc (VO (UH Xi.ga.plain XC (F.checked X I ?_))));show wpAny _ _ (Builtin.«object.__getattribute__» ⟨[.ref e,.str "__class__" tk],[]⟩) _ _ _;unfold Builtin.«object.__getattribute__»;repeat lk
 show wpAny _ _ (run (.call (.builtin "getset_descriptor.__get__") ⟨[.builtin "object.__class__",.ref e,.ref C],[]⟩) none) _ _ _;refine wpAny_run (h:=none) (F.got X I ?_);show wpAny _ _ (pure (PP C)) _ _ _;refine Gc ?_;show wpAny _ _ (ret (.ref C)) _ _ _;refine Gc ?_;exact handed_on rfl q
theorem Au(F:fc K C):KitX K (.ref e) (.ref C) (rh e C)where
 ty:=fun _ _ _ I=>I.ty;it:=fun _ _ X _=>by
  have hc:=F.is;unfold clsIn at hc;split at hc
  ·rename_i ho
   intro A' Q' E' s' k q;unfold isType loadHead;exact tz (wpAny_loadPart (k _ _ (X _ _ ho)) (Gc q))
  ·cases hc
 ne:=fun h tp dd its n sl X htp=>by
  have hc:=F.is;refine W4.mpr fun q=>?_;have z:C=tp:=Value.ref.inj (beq_iff_eq.mp q);subst z;unfold clsIn at hc;split at hc
  ·rename_i ho
   have z:=(X _ _ ho).symm.trans htp;cases z
  ·cases hc
 ca:=fun{prog w A E Q s}X I q=>by obtain⟨hh,g,d,t,os⟩:=s;unfold getAttr? getAttrBy?;refine tz (wpAny_mkText (tz (Vy (F.attr (s:=⟨hh,g,d,t+1,os⟩) X I ?_))));exact Gc q
end
section
variable{X:Cx}
theorem bC:ck X (.builtin "isinstance") (fun xs H Q=>∃e c cv C b,xs=[.ref e,c]/\(∀u,RelV c u->u=cv)/\H e=some (dC e (.ref C))/\fc X.K C/\kitOne X.K (.ref C) cv=some b/\Q (.bl b) H):=by
 intro pins s σ H xs us Q I r h;obtain⟨e,c,cv,C,b,rfl,hcv,he,F,k,q⟩:=h;obtain⟨u,v,rfl,r1,r2⟩:=vals2 r;rw[hcv v r2];cases(show u=PP e from r1);obtain⟨ix,_⟩:=(show aW X.prog X.w H s.heap e (dC e (.ref C))from I.hok e _ he);exact kia_one (Au F) I.kIn ix k (fun z=>nomatch z) fun tk=>⟨.bl b,H,I.tok _,rfl,q⟩
theorem bc:∀u,RelV (.ref a) u->u=PP a:=fun _ h=>h
theorem lA(hr:aU k A):A.units<cLine:=Nat.lt_of_succ_lt (NL hr)
end
theorem nC:bootBuiltins "ValueError" =some (.type "ValueError"):=by decide+kernel
theorem qB(t:Str):eZ [.str t] [.str t]=true:=by simp[eZ,dB]
theorem Et{K:VB}{t:Str}{p:GM}{H1:Hp}{σ:St}{Q':VK}(hp:H1 p=some (.lst [.str t]))(q:∀H2,af H1 H2->Q' (.bl true) H2):zy (nF (tC (.str t)) fJ) σ H1 (fun y H2=>rS K false (.ref p) y H2 Q'):= ⟨sz (n:=1) (by decide),fun l hl=>⟨p,l,_,_,rfl,rfl,ao.of ((aw (aF hp hl)).trans hp),ao.of ag,rfl,rfl,by show Q' (.bl (eZ [.str t] [.str t])) _;rw[qB];exact q _ (af.new (af.refl _) hl _)⟩⟩
theorem lY{K:VB}{t:Str}{p:GM}{H1:Hp}{σ:St}{Q':VK}(hp:H1 p=some (.lst [.str t]))(q:∀H2,af H1 H2->Q' (.bl false) H2):zy (nF (tC (.str t)) fJ) σ H1 (fun y H2=>rS K true (.ref p) y H2 Q'):= ⟨sz (n:=1) (by decide),fun l hl=>⟨p,l,_,_,rfl,rfl,ao.of ((aw (aF hp hl)).trans hp),ao.of ag,rfl,rfl,by show Q' (.bl (!eZ [.str t] [.str t])) _;rw[qB];exact q _ (af.new (af.refl _) hl _)⟩⟩
end L2
namespace Ck
open PySem L2
end Ck
namespace L2
open PySem PySem.Spec PyProof.Rows
structure du(P:SK)(w:Tc)(K:KB)(mg:Str->Option Do)(base:Ux)(ps:List Str)(k:Nat)(sp:Sp)(f:GM)(fd:TK):Prop where
 ok:bz P w K mg base (e9 P w) k f fd ps sp
 b:Binds K fd ps []
section
variable{X:Cx}{C f:GM}{fd:TK}{ps:List Str}{sp:Sp}{m:Str}{apos pos:Pos}{o e:Uo}{es:List Uo}{ta:TE}{t:TA}{j k:Nat}
theorem BU(ho:PE X o ta)(c:Cls X.K C)(hm:Meth X.K C m f)(D:du X.prog X.w X.K X.mg X.base ps j sp f fd)(hr:aU k X.A)(ha:PA X (e::es) t)(hjk:j<=k:=by decide)(hst:starEach (e::es) X.env=(false,eval e X.env)::starEach es X.env:=by rfl)(hpl:(backTo pos (starEach es X.env)).any (·.1)=false:=by rfl)(ht:eval (.Call (.Attribute o m apos) (e::es) [] pos) X.env=(do
   let ov<-eval o X.env
   standAt apos.atName let(f,first)<-holding [ov] (getMethod ov m pl)callWith pos f first (backTo pos (starEach (e::es) X.env)) (backToKw pos (keywordEach [] X.env))):=by rfl):
  PE X (.Call (.Attribute o m apos) (e::es) [] pos) (jh C m sp [] E0 ta t):=qU ho c hm D.ok (hr.mono hjk) D.b .nil gi ha hst hpl ht
theorem LU(ho:PE X o ta)(c:Cls X.K C)(hm:Meth X.K C m f)(D:du X.prog X.w X.K X.mg X.base ps j sp f fd)(hr:aU k X.A)(hjk:j<=k:=by decide)(ht:eval (.Call (.Attribute o m apos) [] [] pos) X.env=(do
   let ov<-eval o X.env
   standAt apos.atName let(f,first)<-holding [ov] (getMethod ov m pl)callWith pos f first (backTo pos (starEach [] X.env)) (backToKw pos (keywordEach [] X.env))):=by rfl):
  PE X (.Call (.Attribute o m apos) [] [] pos) (jh C m sp [] E0 ta fJ):=Ae ho c hm D.ok (hr.mono hjk) D.b .nil gi ht
theorem Lc(T:mM X E)(ho:PE X o ta)(c:Cls X.K C)(hm:Meth X.K C m f)(D:du X.prog X.w X.K X.mg X.base ps j sp f fd)(hr:aU k X.A)(ha:PA X (e::es) t)(hjk:j<=k:=by decide)(hst:starEach (e::es) X.env=(false,eval e X.env)::starEach es X.env:=by rfl)(hpl:(backTo pos (starEach es X.env)).any (·.1)=false:=by rfl)(ht:eval (.Call (.Attribute o m apos) (e::es) [] pos) X.env=(do
   let ov<-eval o X.env
   standAt apos.atName let(f,first)<-holding [ov] (getMethod ov m pl)callWith pos f first (backTo pos (starEach (e::es) X.env)) (backToKw pos (keywordEach [] X.env))):=by rfl):
  PE X (.Call (.Attribute o m apos) (e::es) [] pos) (jh C m sp [] E ta t):=qU ho c hm D.ok (hr.mono hjk) D.b .nil T.pass ha hst hpl ht
end
structure ClsM(K:KB)(C:GM)(m:Str)(f:GM):Prop where
 hg:W.specialIn K (.ref C) "__getattribute__" =some (some (.builtin "type.__getattribute__"))
 rd:W.readsIn K C (.type "type")=true
 at_:W.findCls K (.ref C) (.type "type") m=some (.val (.ref f))
 kp:W.keepIn K (.ref f)=true
section
variable{X:Cx}{C f:GM}{fd:TK}{ps:List Str}{sp:Sp}{x m:Str}{p apos pos:Pos}{e:Uo}{es:List Uo}{t:TA}{j k:Nat}
theorem fg(hm:X.mg x=some (.ref C))(M:ClsM X.K C m f)(D:du X.prog X.w X.K X.mg X.base ps j sp f fd)(hr:aU k X.A)(ha:PA X (e::es) t)(hjk:j<=k:=by decide)(hg:Gl X x:=by rfl)(hdb:(x== ("__debug__" :Str))=false:=by decide)(hst:starEach (e::es) X.env=(false,eval e X.env)::starEach es X.env:=by rfl)(hpl:(backTo pos (starEach es X.env)).any (·.1)=false:=by rfl)(ht:eval (.Call (.Attribute (.Name x p) m apos) (e::es) [] pos) X.env=(do
   let ov<-eval (.Name x p) X.env
   standAt apos.atName let(f,first)<-holding [ov] (getMethod ov m pl)callWith pos f first (backTo pos (starEach (e::es) X.env)) (backToKw pos (keywordEach [] X.env))):=by rfl):
  PE X (.Call (.Attribute (.Name x p) m apos) (e::es) [] pos) (hW sp [] E0 t):=by intro pins s σ H Q I h;refine W.methodCall_KW (pl:=pl) (cL I hg hm ?_ hdb) ht;refine W.method_cls I.kIn M.hg (W.cls_value I.kIn M.rd M.at_ rfl ?_);have I1:Inv X pins σ H {s with toks:=s.toks+1}:=I.tok _;refine XB (first:=[]) (h₀:=X.base) I.ok.mod.kin M.kp (aD (ha pos pins _ σ H _ I1 h) fun us s2⟨vs,H2,I2,r,q2⟩=>⟨I2.kIn,?_⟩) hst hpl;exact gG D.ok (hr.mono hjk) D.b .nil gi I2 r q2
end
section
variable{X:Cx}{C f:GM}{fd:TK}{ps:List Str}{sp:Sp}{x:Str}{p pos:Pos}{j k:Nat}
theorem dM(M:Mk X.K C f)(hm:X.mg x=some (.ref C))(D:du X.prog X.w X.K X.mg X.base ps j sp f fd)(hr:aU k X.A)(hjk:j+1<=k:=by decide)(hg:Gl X x:=by rfl)(hdb:(x== ("__debug__" :Str))=false:=by decide):PE X (.Call (.Name x p) [] [] pos) (nL C sp [] E0 fJ):=Bd M D.ok (hr.mono hjk) hg hm D.b .nil gi hdb
end
end L2
namespace L2
open PySem
def below(N:Nat)(sp:Nat->Sp):Sp:=fun vs H Q E=>∃m,m<N/\sp m vs H Q E
end L2
namespace L2
open PySem PySem.Spec PyProof.Rows
inductive bo(K:KB)(H:Hp):Nat->V->V->Bool->Prop|flat {n:Nat}{x y:V} (fx:cC x=true) (fy:cC y=true):bo K H n x y (dB x y) |same {n:Nat}{a:GM}:bo K H n (.ref a) (.ref a) true
 |lst {n:Nat}{a b:GM}{xs ys:List V}{e:Nat->Bool} (ne:a≠b) (ha:ao K H a xs) (hb:ao K H b ys) (hl:xs.length=ys.length) (hi:∀j x y,xs[j]?=some x->ys[j]?=some y->bo K H n x y (e j)):bo K H (n+1) (.ref a) (.ref b) ((SO xs.length).all e)
 |lstN {n:Nat}{a b:GM}{xs ys:List V} (ne:a≠b) (ha:ao K H a xs) (hb:ao K H b ys) (hl:xs.length≠ys.length):bo K H (n+1) (.ref a) (.ref b) false
 |tup {n:Nat}{a b:GM}{xs ys:List V}{e:Nat->Bool} (ne:a≠b) (ha:bN K H a xs) (hb:bN K H b ys) (hi:∀j x y,xs[j]?=some x->ys[j]?=some y->bo K H n x y (e j)):bo K H (n+1) (.ref a) (.ref b) ((SO (min xs.length ys.length)).all e&&xs.length==ys.length)
theorem bo.lstT{K:KB}{H:Hp}{n:Nat}{a b:GM}{xs ys:List V}(ne:a≠b)(ha:ao K H a xs)(hb:ao K H b ys)(hl:xs.length=ys.length)(hi:∀(j:Nat)(x y:V),xs[j]?=some x->ys[j]?=some y->bo K H n x y true):bo K H (n+1) (.ref a) (.ref b) true:=by have h:=bo.lst (e:=fun _=>true) ne ha hb hl hi;have e (k:Nat):(SO k).all (fun _=>true)=true:=SS.mpr fun _ _=>rfl;rw[e]at h;exact h
section
variable{X:Cx}{pins:List (GM×Obj)}{σ:St}{H:Hp}{s:FB}
theorem c8(r:Vals xs us)(h:j<us.toArray.size):∃x,xs[j]?=some x/\RelV x us.toArray[j]:=by
 have h':j<us.length:=by simpa using h
 have hx:j<xs.length:=by rw[r.length];exact h'
 obtain⟨u,eu,ru⟩:=r.get (Da hx);rw[Da h']at eu;exact⟨_,Da hx,by
  have:us.toArray[j]=u:=by simpa using eu
  rw[this];exact ru⟩
theorem bo.at_(d:bo X.K H n x y b):∀{A:Tf}{u v:Do},A.units+n<cLine->Inv X pins σ H s->RelV x u->RelV y v->X7 A s u v b:=by induction d with
 |flat fx fy=>intro A u v _ I ru rv;exact ou ru rv fx fy
 |same=>
  intro A u v _ I ru rv;cases(show u=PP _ from ru);cases(show v=PP _ from rv)
  exact Yk _
 |@lst n a b xs ys e ne ha hb hl hi ih=>
  intro A u v hu I ru rv;cases(show u=PP _ from ru);cases(show v=PP _ from rv)
  obtain⟨us,r,pl,_⟩:=I.list ha;obtain⟨vs,r',pl',_⟩:=I.list hb;have l1:=r.length;have l2:=r'.length;have z:=SeqAt.RcAt.lists (A:=A) (e:=e) pl.isList pl'.isList (by simp;lia) (by lia) fun j h1 h2=>by obtain⟨x,ex,rx⟩:=c8 r h1;obtain⟨y,ey,ry⟩:=c8 r' h2;exact ih j x y ex ey (A:=A.in1) (by show A.units+1+n<cLine;lia) I rx ry
  rw[show us.toArray.size=xs.length by simp;lia]at z;exact .of_refs ne z
 |@lstN n a b xs ys ne ha hb hl=>
  intro A u v hu I ru rv;cases(show u=PP _ from ru);cases(show v=PP _ from rv)
  obtain⟨us,r,pl,_⟩:=I.list ha;obtain⟨vs,r',pl',_⟩:=I.list hb;have l1:=r.length;have l2:=r'.length;exact .of_refs ne (SeqAt.RcAt.lists_lengths pl.isList pl'.isList (by simp;lia) (by lia))
 |@tup n a b xs ys e ne ha hb hi ih=>
  intro A u v hu I ru rv;cases(show u=PP _ from ru);cases(show v=PP _ from rv)
  obtain⟨us,r,pl,_⟩:=I.tuple ha;obtain⟨vs,r',pl',_⟩:=I.tuple hb;have l1:=r.length;have l2:=r'.length;have z:=SeqAt.RcAt.tuples (A:=A) (e:=e) pl pl' (by lia) fun j h1 h2=>by obtain⟨x,ex,rx⟩:=c8 r h1;obtain⟨y,ey,ry⟩:=c8 r' h2;exact ih j x y ex ey (A:=A.in1) (by show A.units+1+n<cLine;lia) I rx ry
  rw[show us.toArray.size=xs.length by simp;lia,show vs.toArray.size=ys.length by simp;lia]at z;exact .of_refs ne z
def Ay(K:KB)(neg:Bool):R2:=fun x y H Q=>∃n b,n<=100/\bo K H n x y b/\(∃a c,x=.ref a/\y=.ref c/\a≠c)/\Q (.bl (if neg then !b else b)) H
theorem kq(hu:X.A.units+100<cLine):bX X (compareOp .Eq) (Ay X.K false):=by
 intro pins s σ H x y u v Q I ru rv h;obtain⟨n,b,hn,d,⟨a,c,rfl,rfl,hne⟩,q⟩:=h;cases(show u=PP _ from ru);cases(show v=PP _ from rv)
 cases d with
 |flat fx _=>cases fx
 |same=>exact absurd rfl hne
 |@lst n _ _ xs ys e ne ha hb hl hi=>
  obtain⟨us,r,pl,_⟩:=I.list ha;obtain⟨vs,r',pl',_⟩:=I.list hb;have l1:=r.length;have l2:=r'.length;refine SeqAt.eq_listAt (e:=e) pl.isList pl'.isList (by simp;lia) (by lia) (fun j h1 h2=>?_) ⟨.bl _,H,I,rfl,?_⟩
  ·obtain⟨x,ex,rx⟩:=c8 r h1
   obtain⟨y,ey,ry⟩:=c8 r' h2;exact(hi j x y ex ey).at_ (A:=X.A.in1) (by show X.A.units+1+n<cLine;lia) I rx ry
  ·rw[show us.toArray.size=xs.length by simp;lia];exact q
 |@lstN n _ _ xs ys ne ha hb hl=> obtain⟨us,r,pl,_⟩:=I.list ha;obtain⟨vs,r',pl',_⟩:=I.list hb;have l1:=r.length;have l2:=r'.length;exact Xh pl.isList pl'.isList (by simp;lia) (by lia) ⟨.bl false,H,I,rfl,q⟩
 |@tup n _ _ xs ys e ne ha hb hi=>
  obtain⟨us,r,pl,_⟩:=I.tuple ha;obtain⟨vs,r',pl',_⟩:=I.tuple hb;have l1:=r.length;have l2:=r'.length;refine SeqAt.eq_tupleAt (e:=e) pl pl' (by lia) (fun j h1 h2=>?_) ⟨.bl _,H,I,rfl,?_⟩
  ·obtain⟨x,ex,rx⟩:=c8 r h1
   obtain⟨y,ey,ry⟩:=c8 r' h2;exact(hi j x y ex ey).at_ (A:=X.A.in1) (by show X.A.units+1+n<cLine;lia) I rx ry
  ·rw[show us.toArray.size=xs.length by simp;lia,show vs.toArray.size=ys.length by simp;lia];exact q
theorem gN(hu:X.A.units+100<cLine):bX X (compareOp .NotEq) (Ay X.K true):=by
 intro pins s σ H x y u v Q I ru rv h;obtain⟨n,b,hn,d,⟨a,c,rfl,rfl,hne⟩,q⟩:=h;cases(show u=PP _ from ru);cases(show v=PP _ from rv)
 cases d with
 |flat fx _=>cases fx
 |same=>exact absurd rfl hne
 |@lst n _ _ xs ys e ne ha hb hl hi=>
  obtain⟨us,r,pl,_⟩:=I.list ha;obtain⟨vs,r',pl',_⟩:=I.list hb;have l1:=r.length;have l2:=r'.length;refine X3 (e:=e) pl.isList pl'.isList (by simp;lia) (by lia) (fun j h1 h2=>?_) _ _ _ _ ⟨.bl _,H,I,rfl,?_⟩
  ·obtain⟨x,ex,rx⟩:=c8 r h1
   obtain⟨y,ey,ry⟩:=c8 r' h2;exact(hi j x y ex ey).at_ (A:=X.A.in1) (by show X.A.units+1+n<cLine;lia) I rx ry
  ·rw[show us.toArray.size=xs.length by simp;lia];exact q
 |@lstN n _ _ xs ys ne ha hb hl=> obtain⟨us,r,pl,_⟩:=I.list ha;obtain⟨vs,r',pl',_⟩:=I.list hb;have l1:=r.length;have l2:=r'.length;exact WJ pl.isList pl'.isList (by simp;lia) (by lia) _ _ _ _ ⟨.bl true,H,I,rfl,q⟩
 |@tup n _ _ xs ys e ne ha hb hi=>
  obtain⟨us,r,pl,_⟩:=I.tuple ha;obtain⟨vs,r',pl',_⟩:=I.tuple hb;have l1:=r.length;have l2:=r'.length;refine SeqAt.RcNeAt.tuples (e:=e) pl pl' (by lia) (fun j h1 h2=>?_) _ _ _ _ ⟨.bl _,H,I,rfl,?_⟩
  ·obtain⟨x,ex,rx⟩:=c8 r h1
   obtain⟨y,ey,ry⟩:=c8 r' h2;exact(hi j x y ex ey).at_ (A:=X.A.in1) (by show X.A.units+1+n<cLine;lia) I rx ry
  ·rw[show us.toArray.size=xs.length by simp;lia,show vs.toArray.size=ys.length by simp;lia];exact q
theorem dh(hr:aU k A):A.units+100<cLine:=Vm (by lia) hr.un
end
section
variable{X:Cx}
theorem iD(hc:X.calm=true):ck X (.builtin "min") (fun xs H Q=>∃p ns,xs=[.ref p]/\ao X.K H p (ns.map V.int)/\ns≠[]/\∀M,M∈ns->(∀a∈ns,M<=a)->Q (.int M) H):=by
 intro pins s σ H xs us Q I r h;obtain⟨p,ns,rfl,hl,hne,q⟩:=h;obtain⟨u,rfl,ru⟩:=vals1 r;cases ru;obtain⟨its,r',pl,hz⟩:=I.list hl;have hi:UZ its ns:=intsAre_of r';obtain⟨ys,e⟩:=hi.allInts.items;have hns:ns=ys.toList.map (·.1):=by rw[<-hi.numsOf,<-nums_intItems,<-e]
 have hsz:0<ys.size:=by have:=List.length_pos_iff.mpr hne;rw[hns,FS,S6]at this;exact this
 have hl':s.heap.IsList p (intItems ys):=by rw[<-e];exact pl.isList
 refine min_intList (I.ok.hd hc) hl' hsz fun v h' tk hv hk=>?_;obtain⟨t,rfl⟩:=intItems_at hv;obtain⟨a1,a2⟩:=argBest_lt (numAt ys) (ys.size-1);refine⟨.int _,H,I.kept hk,⟨t,rfl⟩,q _ ?_ fun a ha=>?_⟩;·rw[hns,numAt_eq];exact getD_mem (by rw[FS,S6];lia)
 ·rw[hns]at ha
  obtain⟨j,hj,rfl⟩:=mem_getD ha;rw[FS,S6]at hj;rw[<-numAt_eq];exact a2 j (by lia)
end
section
variable{X:Cx}{pins:List (GM×Obj)}{σ:St}{H:Hp}{s:FB}{h':Ux}
theorem Inv.trackO(I:Inv X pins σ H s)(o:gr X pins H e)(new:aW X.prog X.w (upd H e o') s.heap e o'):Inv X pins σ (upd H e o') s:=by
 have ne:∀b u,H b=some u->b≠e:=fun b u q z=>by rw[z,o.free]at q;cases q
 refine⟨I.ok,I.os,I.bare,⟨I.base.keep,I.base.slot,fun b ob q n hx=>?_,I.base.there,fun b xs q=>?_,fun b ob u q=>?_,fun b ps q=>?_⟩,I.loc,I.cell,?_,fun x c q=>?_,fun p hp=>?_,fun b u q=>?_,I.len⟩;·rw[aw (fun z=>by rw[z,o.new]at q;cases q)];exact I.base.free b ob q n hx
 ·have:=I.base.tups b xs q
  rw[aw (ne _ _ this)];exact this
 ·have:=I.base.frzs b ob u q
  rw[aw (ne _ _ this)];exact this
 ·obtain⟨m,z⟩:=I.base.tbls b ps q
  exact⟨m,by rw[aw (ne _ _ z)];exact z⟩
 ·rw[aw (T6 o.loc)];exact I.free
 ·rw[aw (o.cell x c q)];exact I.freeC x c q
 ·obtain⟨z,n,r⟩:=I.pin p hp
  exact⟨z,by rw[aw (o.pin p hp)];exact n,r⟩
 ·by_cases z:b=e
  ·subst z;rw[ag]at q;cases q;exact new
  ·rw[aw z]at q
   exact(I.hok b u q).stay (fun _ _ _ x=>x) (fun c x=>by rw[aw (ne _ _ x)];exact x) fun c xs x=>by rw[aw (ne _ _ x)];exact x
theorem Inv.turned2(I:Inv X pins σ H s)(k:∀b o,b≠e->b≠it->s.heap.get? b=some o->h'.get? b=some o)(he:∃o,h'.get? e=some o)(hi:∃o,h'.get? it=some o)(f1:fj X pins H e)(f2:fj X pins H it):Inv X pins σ H {s with heap:=h',toks:=t'}:=by
 have nit:∀b u,H b=some u->b≠e/\b≠it:=fun b u q=>⟨fun z=>(by rw[z,f1.1]at q;cases q),fun z=>(by rw[z,f2.1]at q;cases q)⟩;have sp:∀b,b∉[e,it]->b≠e/\b≠it:=fun b hb=>⟨fun z=>hb (by simp[z]),fun z=>hb (by simp[z])⟩;refine I.step (g':=s.gens) (d':=s.drawn) (ch:=[e,it]) (fun b hb=>?_) (fun b o _ _ hc q _=>k b o (sp b hc).1 (sp b hc).2 q) (fun b o _ _ hc q _=>⟨o.slots,k b o (sp b hc).1 (sp b hc).2 q⟩) (fun _ _ _ _ n=>n) (fun b o hc q=>⟨o,k b o (sp b hc).1 (sp b hc).2 q⟩) (fun _ _ q=>q) (fun _ _ _ q=>q) (fun b ps q=>⟨#[],by rw[q];simp⟩) (fun m hm=>?_) (fun b u q=>?_) I.bare
 ·rcases GT.mp hb with z|z
  ·rw[z];exact⟨f1.2.2.2.1,f1.2.1,f1.2.2.2.2.1,f1.2.2.2.2.2⟩
  ·rw[show b=it by simpa using z];exact⟨f2.2.2.2.1,f2.2.1,f2.2.2.2.2.1,f2.2.2.2.2.2⟩
 ·obtain⟨o,es,ep,ho,r⟩:=hm
  exact⟨o,es,ep,k _ o (T6 f1.2.1) (T6 f2.2.1) ho,r⟩
 ·refine(I.hok b u q).stay (fun c v hc q'=>?_) (fun _ q=>q) fun _ _ q=>q
  have:c≠e/\c≠it:=by
   rcases hc with z|z;·rw[z];exact nit b u q
   ·exact nit c _ z
  exact k c v this.1 this.2 q'
end
noncomputable def nQ(K:KB)(l:GM):It:= ⟨fun i H=>∃xs x,ao K H l xs/\xs[i]?=some x,fun i H v H'=>∃T x,H T=none/\(∀xs,ao K H l xs->xs[i]?=some x)/\v=.ref T/\H'=upd H T (.tup [.int i,x]),fun i H=>∃xs,ao K H l xs/\xs.length<=i⟩
theorem wU{P:SK}{w:Tc}{K:KB}{elts:List Uo}{k0:Nat}{tp:Pos}(e it l:GM)(hei:e≠it):Turn P w K (.Tuple elts k0 tp) (nQ K l) [e,it] e (fun i h=>(∃old,IsEnum h e it i old)/\h.IsListIter it l i)where
 mem:=by simp
 obj:=fun i h st b hb=>by
  obtain⟨⟨old,he⟩,o,ho,c,d⟩:=st;rcases GT.mp hb with z|z
  ·rw[z]
   exact⟨_,he,fun v z=>by have z':XU _=Xy v:=z;cases z'⟩
  ·rw[show b=it by simpa using z]
   exact⟨o,ho,fun v z=>by rw[d]at z;cases z⟩
 keep:=fun i h h' st k=>⟨let⟨old,he⟩:=st.1; ⟨old,k e (by simp) _ he⟩,st.2.at fun o q=>k it (by simp) o q⟩;item:=by
  intro X hP hw hK hc i pins s σ H E I hf st hg;subst hP hw hK;obtain⟨xs,x,hq,hx⟩:=hg;obtain⟨its,rv,p,hz⟩:=I.list hq;obtain⟨u,hu,ru⟩:=rv.get hx;obtain⟨⟨old,he⟩,hit⟩:=st;have fe:=hf e (by simp);have fi:=hf it (by simp);refine wpAny_pyNext_enum_item he hit p.isList (x:=u) (by simpa using hu) hei fun h1 ho hit1 hT hsz hk=>?_;refine⟨_,rfl,wpAny_letOwnedTupleGo_enum ho fun h2 he2 sb=>?_⟩;have nT:s.heap.get? s.heap.objs.size=none:=Ug (M2 _);have elt:e<s.heap.objs.size:=GE he;have ilt:it<s.heap.objs.size:=by obtain⟨_,q,_⟩:=hit;exact GE q
  have hit2:h2.IsListIter it l (i+1):=hit1.at fun o q=>(sb.2 it (T6 hei)).trans q;have k2:∀b o,b≠e->b≠it->s.heap.get? b=some o->h2.get? b=some o:=fun b o b1 b2 q=>(sb.2 b b1).trans (hk b o b1 b2 q);have I2:Inv X pins σ H {s with heap:=h2,toks:=s.toks+1}:=I.turned2 k2 ⟨_,he2⟩ (by obtain⟨o,q,_⟩:=hit2;exact⟨o,q⟩) fe fi;have oT:gr X pins H s.heap.objs.size:=by have fT:fj X pins H s.heap.objs.size:=I.fpOk (M2 _) (I.hok.fresh (M2 _));exact⟨Ug I.sz,fT.1,fT.2.1,fT.2.2.2.2.1,fT.2.2.2.2.2⟩
  have hT2:h2.get? s.heap.objs.size=some {cls:=.type "tuple",data:=.seq #[.int i s.toks,u]}:=(sb.2 _ (UU elt)).trans hT;have I3:=I2.trackO (o':=.tup [.int i,x]) oT ⟨sz (n:=2) (by decide),[.int i s.toks,u],.cons ⟨_,rfl⟩ (.cons ru .nil),_,hT2,rfl,_,rfl⟩;refine⟨.ref s.heap.objs.size,_,I3,rfl,⟨_,x,oT.free,fun ys hy=>by rw[I.list_inj hy hq];exact hx,rfl,rfl⟩,⟨⟨_,by simpa using he2⟩,hit2⟩,fun b hb=>?_⟩;rcases GT.mp hb with z|z;·rw[z,aw (SM elt)];exact fe.1
  ·rw[show b=it by simpa using z,aw (SM ilt)];exact fi.1
 done:=by intro X hP hw hK hc i pins s σ H E I hf st hg;subst hP hw hK;obtain⟨xs,hq,hx⟩:=hg;obtain⟨its,rv,p,hz⟩:=I.list hq;obtain⟨⟨old,he⟩,hit⟩:=st;have hl:=rv.length;obtain⟨f0,f1,f2,f3,f4,f5⟩:=hf it (by simp);refine wpAny_pyNext_enum_end (I.ok.hd hc) he hit p.isList (TX (by simp;lia)) fun h2 eb=>⟨rfl,?_⟩;exact I.turned (t':=s.toks) (fun b o hb q=>eb b o hb q) f0 f1 f3 f4 f5
 self:=fun _ _ _ _ _ st h=>by obtain⟨⟨old,he⟩,_⟩:=st;exact wpAny_pyIter_enum he h
def NZ(K:KB)(ta:TA):TI:=fun σ H R=>ta σ H fun vs H1=>∃l,vs=[.ref l]/\(∃xs,ao K H1 l xs)/\R (nQ K l) H1
section
variable{X:Cx}
theorem eN{elts:List Uo}{k0:Nat}{tp:Pos}{a:Uo}{ta:TA}{p pos:Pos}(hg:Gl X "enumerate")(hm:X.mg "enumerate" =none)(ha:PA X [a] ta)(hs:starEach [a] X.env=[(false,eval a X.env)]:=by rfl):PI X (.Tuple elts k0 tp) (.Call (.Name "enumerate" p) [a] [] pos) (NZ X.K ta):=by
 intro pins s σ H R I h;refine Call_ (bO I hg hm boot_enumerate (SU (aD (ha pos pins s σ H _ I h) fun us s1⟨vs,H1,I1,r1,q1⟩=>?_) hs rfl));obtain⟨l,rfl,⟨xs,hq⟩,q⟩:=q1;obtain⟨u,rfl,ru⟩:=vals1 r1;cases ru;obtain⟨its,rv,pl,hz⟩:=I1.list hq;refine call_enumerate_list pl.isList fun h2 he hit hsz hk=>?_;have I2:Inv X pins σ H1 {s1 with heap:=h2}:=I1.kept (t':=s1.toks) hk;refine wpAny_pyIter_enum he ⟨_,[s1.heap.objs.size+1,s1.heap.objs.size],_,_,H1,rfl,I2,wU _ s1.heap.objs.size l (Nat.succ_ne_self _),⟨⟨_,he⟩,hit⟩,fun b hb=>?_,q⟩;rcases GT.mp hb with z|z;·rw[z];exact I1.fpOk (UP _) (I1.hok.fresh (UP _))
 ·rw[show b=s1.heap.objs.size by simpa using z];exact I1.fpOk (M2 _) (I1.hok.fresh (M2 _))
theorem jX{K:KB}{l:GM}{xs:List V}{g:TG}{tb:TS}{D:Ends}{σ:St}{H:Hp}(Pv:Nat->St->Hp->Prop)(h0:Pv 0 σ H)(hl:∀i σ H,i<=xs.length->Pv i σ H->ao K H l xs)(hs:∀i x σ H T,xs[i]?=some x->Pv i σ H->H T=none->g (.ref T) σ (upd H T (.tup [.int i,x])) fun σ2 H2=>tb {D with nx:=Pv (i+1),ct:=Pv (i+1),bk:=D.nx} σ2 H2)(hd:∀σ H,Pv xs.length σ H->D.nx σ H): ∃W:Nat->Nat->St->Hp->Prop,(∃m,W 0 m σ H)/\∀i m σ H,W i m σ H-> ((nQ K l).stop i H/\D.nx σ H)\/((nQ K l).go i H/\∃N:St->Hp->Prop,(∀σ' H',N σ' H'->∃m',m'<m/\W (i+1) m' σ' H')/\∀x H',(nQ K l).yld i H x H'->g x σ H' fun σ2 H2=>tb {D with nx:=N,ct:=N,bk:=D.nx} σ2 H2):=by
 refine⟨fun i m σ H=>m=xs.length-i/\i<=xs.length/\Pv i σ H,⟨xs.length,by simp,KM _,h0⟩,?_⟩;rintro i m σ H ⟨rfl,hi,p⟩;have q:=hl i σ H hi p;by_cases hlt:i<xs.length
 ·refine .inr ⟨⟨xs,_,q,Da hlt⟩,Pv (i+1),fun σ' H' p'=>⟨xs.length- (i+1),by lia,rfl,hlt,p'⟩,fun v H' y=>?_⟩
  obtain⟨T,x,nT,hx,rfl,rfl⟩:=y;exact hs i x σ H T (hx xs q) p nT
 ·have e:i=xs.length:=by lia
  subst e;exact .inl ⟨⟨xs,q,M2 _⟩,hd σ H p⟩
end
end L2
namespace Ck
open PySem L2
inductive Tree where|int(i:Int)|lst(l:List Tree)|tup(l:List Tree)
mutual
def Rep (H:Hp):Tree->V->Prop
 |.int i,v=>v=.int i
 |.lst ts,v=>∃a xs,v=.ref a/\H a=some (.lst xs)/\ts.length<=1000000/\fQ H ts xs
 |.tup ts,v=>∃a xs,v=.ref a/\H a=some (.tup xs)/\ts.length<=1000000/\fQ H ts xs
def fQ (H:Hp):List Tree->List V->Prop
 | [],xs=>xs=[]
 |t::ts,xs=>∃v vs,xs=v::vs/\Rep H t v/\fQ H ts vs
end
mutual
noncomputable def dep:Tree->Nat
 |.int _=>0
 |.lst ts=>xG ts+1
 |.tup ts=>xG ts+1
noncomputable def xG:List Tree->Nat
 | []=>0
 |t::ts=>max (dep t) (xG ts)
end
mutual
theorem Rep.same (s:af H H'):∀(t:Tree){v:V},Rep H t v->Rep H' t v
 |.int i,v,h=>by unfold Rep at h|-;exact h
 |.lst ts,v,h=>by unfold Rep at h|-;obtain⟨a,xs,e,ha,hl,r⟩:=h;exact⟨a,xs,e,s _ _ ha,hl,fQ.same s ts r⟩
 |.tup ts,v,h=>by unfold Rep at h|-;obtain⟨a,xs,e,ha,hl,r⟩:=h;exact⟨a,xs,e,s _ _ ha,hl,fQ.same s ts r⟩
theorem fQ.same (s:af H H'):∀(ts:List Tree){xs:List V},fQ H ts xs->fQ H' ts xs
 | [],xs,h=>by unfold fQ at h|-;exact h
 |t::ts,xs,h=>by unfold fQ at h|-;obtain⟨v,vs,e,r,rs⟩:=h;exact⟨v,vs,e,Rep.same s t r,fQ.same s ts rs⟩
end
noncomputable abbrev Pair:=Int×Int
def cB(H:Hp)(xs:List V)(ps:List Pair):Prop:=TY (fun(v:V)(p:Pair)=>∃t,v=.ref t/\H t=some (.tup [.int p.1,.int p.2])) xs ps
theorem cB.same(h:cB H xs ps)(s:af H H'):cB H' xs ps:=Paired.mapP h fun v p⟨t,e,q⟩=>⟨t,e,s _ _ q⟩
theorem cB.length(h:cB H xs ps):xs.length=ps.length:=UI h
theorem cB.get:∀{xs:List V}{ps:List Pair},cB H xs ps->∀{i:Nat}{x:V},xs[i]?=some x->∃p t,ps[i]?=some p/\x=.ref t/\H t=some (.tup [.int p.1,.int p.2])
 |_,_,.nil,i,x,e=>by cases e
 |_,_,.cons r t,0,x,e=>by
  obtain⟨a,e1,e2⟩:=r;rw[Vd]at e;cases e;exact⟨_,a,rfl,e1,e2⟩
 |_,_,.cons r t,i+1,x,e=>by obtain⟨p,a,h1,h2,h3⟩:=cB.get t (i:=i) (by simpa using e);exact⟨p,a,by simpa using h1,h2,h3⟩
theorem cB.updL(h:cB H xs ps)(ha:H a=some (.lst l))(o:HO):cB (upd H a o) xs ps:=Paired.mapP h fun v p⟨t,e,q⟩=>⟨t,e,(aw (ky q ha (by intro z;cases z))).trans q⟩
theorem cB.updN(h:cB H xs ps)(ha:H a=none)(o:HO):cB (upd H a o) xs ps:=Paired.mapP h fun v p⟨t,e,q⟩=>⟨t,e,(aw (aF q ha)).trans q⟩
def eE(H:Hp)(a:GM)(ps:List Pair):Prop:=∃xs,H a=some (.lst xs)/\cB H xs ps
theorem eE.same(h:eE H a ps)(s:af H H'):eE H' a ps:=let⟨xs,e,r⟩:=h; ⟨xs,s _ _ e,r.same s⟩
theorem eE.len(h:eE H a ps):∃xs,H a=some (.lst xs)/\xs.length=ps.length/\cB H xs ps:=let⟨xs,e,r⟩:=h; ⟨xs,e,r.length,r⟩
end Ck
namespace L2
open PySem
end L2
namespace Ck
open PySem L2
theorem fX{c A B:Prop}[Decidable c](hc:¬c)(h:A):if(!decide c)=true then A else B:=by rw[decide_eq_false hc];exact bw h
end Ck
namespace L2
open PySem PySem.Spec PyProof.Rows PySem.SeqAt
section
variable{X:Cx}
theorem cQ{K:KB}{es:List Uo}{k:Nat}{t:mV}{n:Nat}{pos:Pos}(hK:X.K=K)(hc:X.calm=true)(h:vb X es t)(hn:(assignEach es X.env).length=n:=by rfl)(hst:(assignEach es X.env).findIdx? (·.1)=none:=by rfl):PG X (.Tuple es k pos) (FT K n t):=by subst hK;exact gQ hc h hn hst
theorem cX{K:KB}{a:GM}{xs:List V}{g:TG}{tt:TT}{te:TE}{σ0:St}{H:Hp}{D:GM}{Q:VK}(Pv:Nat->List V->Hp->Prop)(hz:xs.length<=sizeLine)(h0:Pv 0 [] (upd H D (.lst [])))(hl:∀i ys H',i<=xs.length->Pv i ys H'->ao K H' a xs/\ys.length<=i)(hs:∀(i:Nat)(x:V)(ys:List V)(H':Hp)(R:VK)(R0:Hp->Prop),xs[i]?=some x->Pv i ys H'->(∀v H3,H3 D=some (.lst ys)->Pv (i+1) (ys++[v]) (upd H3 D (.lst (ys++[v])))->R v H3)->(∀H3,Pv (i+1) ys H3->R0 H3)->g x σ0 H' fun σ2 H2=>Ext σ0 σ2/\tt σ2 H2 fun b H3=>if b=true then te σ2 H3 R else R0 H3)(hq:∀ys H',Pv xs.length ys H'->Q (.ref D) H'): eQ (my K a) g tt te σ0 D Q H:=by
 refine⟨fun i m ys H'=>m=xs.length-i/\i<=xs.length/\Pv i ys H',⟨xs.length,by simp,KM _,h0⟩,?_⟩;rintro i m ys H' ⟨rfl,hi,p⟩;obtain⟨sq,ly⟩:=hl i ys H' hi p;by_cases hlt:i<xs.length
 ·refine .inr ⟨⟨xs,xs[i],sq,by simp[hlt]⟩,fun x H'' y=>?_⟩
  obtain⟨e,y⟩:=y;subst e;have ex:=y xs sq;refine hs i x ys _ _ _ ex p (fun v H3 hD p'=>⟨hD,by lia,xs.length- (i+1),by lia,rfl,hlt,p'⟩) fun H3 p'=>⟨xs.length- (i+1),by lia,rfl,hlt,p'⟩
 ·have e:i=xs.length:=by lia
  subst e;exact .inl ⟨⟨xs,sq,M2 _⟩,hq ys H' p⟩
end
end L2
namespace Ck
open PySem L2
structure b8(fs:List (Str×V))(w:Str)(l:Int):Prop where
 word:fs.lookup ("word" :Str)=some (.str w)
 least:fs.lookup ("least" :Str)=some (.int l)
 no:∀m:Str,m≠("word" :Str)->m≠("least" :Str)->fs.lookup m=none
theorem DM(w:Str)(l:Int):b8 (dg ("least" :Str) (.int l) (dg ("word" :Str) (.str w) [])) w l:= ⟨by rw[cH,if_neg (by decide),cH,if_pos rfl],by rw[cH,if_pos rfl],fun m a b=>by rw[cH,if_neg b,cH,if_neg a];rfl⟩
noncomputable def up(d:Int)(p:Pair):Pair:=(p.1+d,p.2+d)
theorem cB.app:∀{xs ys:List V}{ps qs:List Pair},cB H xs ps->cB H ys qs->cB H (xs++ys) (ps++qs)
 |_,_,_,_,.nil,h=>h
 |_,_,_,_,.cons r t,h=>.cons r (cB.app t h)
theorem iO(ns:List Int):(ns.map V.int).all cC=true:=by rw[SS];intro x hx;obtain⟨n,_,rfl⟩:=Uw.mp hx;rfl
noncomputable def iI:Nat->Int->List Int->Bool
 |_,_,[]=>true
 |k,a,n::ns=>if n<a\/(k:Int)<n then false else iI (k+1) n ns
theorem Ek(k:Nat)(a:Int):iI k a []=true:=rfl
theorem qZ{k:Nat}{a n:Int}{ns:List Int}(h:n<a\/(k:Int)<n):iI k a (n::ns)=false:=by unfold iI;rw[if_pos h]
theorem I0{k:Nat}{a n:Int}{ns:List Int}(h:¬ (n<a\/(k:Int)<n)):iI k a (n::ns)=iI (k+1) n ns:=by conv=>lhs;unfold iI;rw[if_neg h]
inductive St:List Int->Int->Prop|nil:St [] 0 |snoc {rs:List Int}{a n:Int}:St rs a->a<=n->n<=(rs.length:Int)->St (rs++[n]) n
theorem zZ{ns:List Int}{i:Nat}(h:i<ns.length):ns.drop i=ns.getD i 0::ns.drop (i+1):=by rw[TU h,FM,Da h];rfl
end Ck
namespace L2
open PySem PySem.Spec PyProof.Rows
theorem dO:bootBuiltins "sorted" =some (.builtin "sorted"):=by decide+kernel
theorem gK:bootBuiltins "all" =some (.builtin "all"):=by decide+kernel
theorem kN:∀{us:List Do}{ns:List Int},UZ us ns->Vals (ns.map V.int) us
 |_,_,.nil=>.nil
 |_,_,.cons n t h=>.cons ⟨t,rfl⟩ (kN h)
section
variable{X:Cx}
theorem gj:ck X (.builtin "sorted") (fun xs H Q=>∃(p:GM)(ns:List Int),xs=[.ref p]/\ao X.K H p (ns.map V.int)/\ns.length<64/\∀(q:GM)(ms:List Int),H q=none->ms.Perm ns->ms.Pairwise (·<=·)->Q (.ref q) (upd H q (.lst (ms.map V.int)))):=by
 intro pins s σ H xs us Q I r h;obtain⟨p,ns,rfl,hl,h64,q⟩:=h;obtain⟨u,rfl,ru⟩:=vals1 r;cases ru;obtain⟨its,r',pl,hz⟩:=I.list hl;have hi:UZ its ns:=intsAre_of r';refine sorted_ints pl.isList hi (by rw[hi.length];exact h64) fun out ms ho hp hs=>?_;obtain⟨e,he⟩:=sortedAll_at s.heap its out;have lm:(ms.map V.int).length<=sizeLine:=by rw[FS,hp.length_eq];exact sz (by lia)
 exact⟨.ref _,_,I.laid (t':=s.toks) (o:=.lst (ms.map V.int)) (fun b u e=>sortedAll_old e) (UP _) ⟨lm,out.toList,e,kN ho,by simpa[seqObj]using he⟩,rfl,q _ ms (I.hok.fresh (UP _)) hp hs⟩
theorem any_eq(k:Int):∀ns:List Int,ns.any (·==k)=decide (k∈ns)
 | []=>by simp
 |n::ns=>by
  rw[UA,any_eq k ns];by_cases h:n=k;·subst h;simp
  ·have h':¬k=n:=fun z=>h z.symm
   simp[h,h']
theorem AD:bX X (compareOp .NotIn) (fun x y H Q=>∃(k:Int)(p:GM)(ns:List Int),x=.int k/\y=.ref p/\ao X.K H p (ns.map V.int)/\Q (.bl (!decide (k∈ns))) H):=by
 intro pins s σ H x y u v Q I ru rv h;obtain⟨k,p,ns,rfl,rfl,hl,q⟩:=h;obtain⟨t,rfl⟩:=(show∃t,u=Wx k t from ru);cases rv;obtain⟨its,r',pl,hz⟩:=I.list hl;refine notin_list_ints pl.isList (intsAre_of r') ⟨.bl _,H,I,rfl,?_⟩;rw[any_eq];exact q
theorem rD{bs:List Bool}:∀{us:List Do},Vals (bs.map V.bl) us->us=bs.map WY:=by induction bs with
 |nil=>intro us r;rw[VP]at r;cases r;rfl
 |cons b bs ih=> intro us r;rw[SQ]at r;cases r with
  |cons h t=>rw[ih t,SQ];cases(show _=WY b from h);rfl
theorem all_range(bs:List Bool):(SO bs.length).all (fun i=>bs.getD i false)=bs.all id:=by induction bs with
 |nil=>rfl
 |cons b bs ih=>
  rw[Tu,Xu,Vx,VR,Vx];have:((fun i=>(b::bs).getD i false)∘Nat.succ)=fun i=>bs.getD i false:=by funext i;rfl
  rw[this,ih];rfl
theorem eK(hc:X.calm=true):ck X (.builtin "all") (fun xs H Q=>∃(p:GM)(bs:List Bool),xs=[.ref p]/\ao X.K H p (bs.map V.bl)/\Q (.bl (bs.all id)) H):=by
 intro pins s σ H xs us Q I r h;obtain⟨p,bs,rfl,hl,q⟩:=h;obtain⟨u,rfl,ru⟩:=vals1 r;cases ru;obtain⟨its,r',pl,hz⟩:=I.list hl;have ei:=rD r';have hlt:p<s.heap.objs.size:=by obtain⟨_,e,_⟩:=pl.isList;exact GE e
 refine call_all_walk (W0 pl.isList ⟨_,_,_,_,_,_,fun i=>bs.getD i false,rfl,Walks.list (A:=X.A.in1) (I.ok.hd hc) _ p (SM hlt) its.toArray,⟨⟨_,SB _ rfl,rfl,rfl⟩,pl.isList.push _⟩,?_,fun h' tk hk=>⟨.bl _,H,I.kept (old_kept hk),rfl,?_⟩⟩)
 ·intro i v s' Q' E' hP hQ
  have hb:bs[i]?=some (bs.getD i false)/\v=.bool (bs.getD i false):=by
   have hP':its[i]?=some v:=by simpa using hP
   rw[ei,Td]at hP';cases hb:bs[i]? with
   |none=>rw[hb]at hP';cases hP'
   |some b=>
    rw[hb]at hP';have e1:bs.getD i false=b:=by rw[FM,hb];rfl
    rw[e1];exact⟨rfl,(To hP').symm⟩
  rw[hb.2];exact TQ hQ
 ·have e1:its.toArray.size=bs.length:=by rw[ei];simp
  rw[e1,all_range];exact q
theorem mK{K:KB}{a:GM}{xs:List V}{g:TG}{tt:TT}{te:TE}{σ0:St}{H:Hp}{D:GM}{Q:VK}(Pv:Nat->List V->Hp->Prop)(hz:xs.length<=sizeLine)(h0:Pv 0 [] (upd H D (.lst [])))(hl:∀i ys H',i<=xs.length->Pv i ys H'->ao K H' a xs/\ys.length<=i)(hs:∀(i:Nat)(x:V)(ys:List V)(H':Hp)(T:GM)(R:VK)(R0:Hp->Prop),xs[i]?=some x->Pv i ys H'->H' T=none->(∀v H3,H3 D=some (.lst ys)->Pv (i+1) (ys++[v]) (upd H3 D (.lst (ys++[v])))->R v H3)->(∀H3,Pv (i+1) ys H3->R0 H3)->g (.ref T) σ0 (upd H' T (.tup [.int i,x])) fun σ2 H2=>Ext σ0 σ2/\tt σ2 H2 fun b H3=>if b=true then te σ2 H3 R else R0 H3)(hq:∀ys H',Pv xs.length ys H'->Q (.ref D) H'): eQ (nQ K a) g tt te σ0 D Q H:=by
 refine⟨fun i m ys H'=>m=xs.length-i/\i<=xs.length/\Pv i ys H',⟨xs.length,by simp,KM _,h0⟩,?_⟩;rintro i m ys H' ⟨rfl,hi,p⟩;obtain⟨sq,ly⟩:=hl i ys H' hi p;by_cases hlt:i<xs.length
 ·refine .inr ⟨⟨xs,_,sq,Da hlt⟩,fun x H'' y=>?_⟩
  obtain⟨T,w,nT,hw,rfl,rfl⟩:=y;refine hs i w ys _ T _ _ (hw xs sq) p nT (fun v H3 hD p'=>⟨hD,by lia,xs.length- (i+1),by lia,rfl,hlt,p'⟩) fun H3 p'=>⟨xs.length- (i+1),by lia,rfl,hlt,p'⟩
 ·have e:i=xs.length:=by lia
  subst e;exact .inl ⟨⟨xs,sq,M2 _⟩,hq ys H' p⟩
end
end L2
namespace Ck
open PySem L2
structure qq(ns:List Int):Prop where
 pos:∀x∈ns,0<=x
 few:∀j:Nat,j<ns.length->j+1<=ns.countP (fun x=>decide (x<=(j:Int)))
theorem qq.perm{ns ms:List Int}(h:qq ns)(p:ms.Perm ns):qq ms:= ⟨fun x hx=>h.pos x (p.mem_iff.mp hx),fun j hj=>by rw[p.countP_eq];exact h.few j (by rw[<-p.length_eq];exact hj)⟩
theorem qq.sorted{ms:List Int}(h:qq ms)(s:ms.Pairwise (·<=·)){i:Nat}{x:Int}(e:ms[i]?=some x):x<=(i:Int):=by
 obtain⟨hi,hx⟩:=Pi.mp e;by_cases hle:x<=(i:Int);·exact hle
 ·have h1:=h.few i hi
  have h2:ms.countP (fun x=>decide (x<=(i:Int)))<=i:=by
   have e1:ms.countP (fun x=>decide (x<=(i:Int)))=(ms.take i).countP (fun x=>decide (x<=(i:Int)))+(ms.drop i).countP (fun x=>decide (x<=(i:Int))):=by rw[<-List.countP_append,UY]
   have e2:(ms.drop i).countP (fun x=>decide (x<=(i:Int)))=0:=by
    rw[List.countP_eq_zero];intro y hy;rw[TU hi]at hy;have s2:(ms.drop i).Pairwise (·<=·):=s.sublist (List.drop_sublist _ _);rw[TU hi,List.pairwise_cons]at s2;rcases GT.mp hy with z|z;·simp;lia
    ·have:=s2.1 y z
     simp;lia
   have e3:=List.countP_le_length (p:=fun x=>decide (x<=(i:Int))) (l:=ms.take i);rw[Tj]at e3;lia
  lia
noncomputable def g5(ns:List Int):Bool:=decide (ns≠[])&&(ns.all (fun x=>decide (0<=x))&&(SO ns.length).all (fun j=>decide (j+1<=ns.countP (fun x=>decide (x<=(j:Int))))))
theorem mX(ns:List Int):g5 ns=true↔ns≠[]/\qq ns:=by
 unfold g5;rw[On,On,decide_eq_true_iff,SS,SS];constructor
 ·rintro⟨h1,h2,h3⟩
  exact⟨h1,fun x hx=>of_decide_eq_true (h2 x hx),fun j hj=>of_decide_eq_true (h3 j (SX.mpr hj))⟩
 ·rintro⟨h1,h2⟩
  exact⟨h1,fun x hx=>decide_eq_true (h2.pos x hx),fun j hj=>decide_eq_true (h2.few j (SX.mp hj))⟩
theorem wc(h:m∈ns)(h0:m<0):g5 ns=false:=by cases e:g5 ns with
 |false=>rfl
 |true=>have:=((mX ns).mp e).2.pos m h;lia
theorem oP{ns ms:List Int}(hne:ns≠[])(hpos:∀x∈ns,0<=x)(hp:ms.Perm ns)(hs:ms.Pairwise (·<=·)):((SO ms.length).map fun(k:Nat)=>decide (ms.getD k 0<=(k:Int))).all id=g5 ns:=by
 rw[TH,mX,SS];constructor
 ·intro h
  have hk:∀k:Nat,k<ms.length->ms.getD k 0<=(k:Int):=fun k hk=>of_decide_eq_true (h _ (Uw.mpr ⟨k,SX.mpr hk,rfl⟩));refine⟨hne,hpos,fun j hj=>?_⟩;rw[<-hp.length_eq]at hj;rw[<-hp.countP_eq];have h1:(ms.take (j+1)).countP (fun x=>decide (x<=(j:Int)))=(ms.take (j+1)).length:=by rw[List.countP_eq_length];intro x hx;obtain⟨k,Gd,rfl⟩:=VL hx;rw[Tj]at Gd;have:=hk k (by lia);rw[FM,Da (show k<ms.length by lia)]at this;rw[List.getElem_take];have this':ms[k]<=(k:Int):=this;exact decide_eq_true (by lia)
  have h2:=(W2 (j+1) ms).countP_le (p:=fun x=>decide (x<=(j:Int)));rw[h1,Tj]at h2;lia
 ·rintro⟨_,h⟩ b hb
  obtain⟨k,hk,rfl⟩:=Uw.mp hb;have hk':=SX.mp hk;refine decide_eq_true ?_;rw[FM,Da hk'];exact(h.perm hp).sorted hs (Da hk')
noncomputable def steps(ws:List Int):List Int:=(SO (ws.length-1)).map fun(i:Nat)=>(ws.getD (i+1) 0-ws.getD i 0)% ((ws.length:Int)+1)
end Ck
namespace L2
open PySem PySem.W
end L2
namespace Ck
open PySem L2
theorem ne_int{a b:Int}(h:a≠b):¬V.int a=V.int b:=fun z=>h (by injection z)
theorem map_erase{α β:Type}(f:α->β):∀(l:List α)(k:Nat),(l.map f).eraseIdx k=(l.eraseIdx k).map f
 | [],_=>rfl
 |_::_,0=>rfl
 |a::l,k+1=>by show f a::(l.map f).eraseIdx k=f a::(l.eraseIdx k).map f;rw[map_erase f l k]
end Ck
namespace Ck
end Ck
namespace Ck
open PySem L2
noncomputable def eU(es:List Int)(r:Int):Int:=if 0<r then es.getD (r-1).toNat 0 else r
noncomputable def iU(es:List Int):Nat->Int->Int
 |0,r=>r
 |m+1,r=>iU es m (eU es r)
theorem o9(es:List Int):∀(m:Nat)(r:Int),iU es (m+1) r=eU es (iU es m r)
 |0,_=>rfl
 |m+1,r=>by show iU es (m+1) (eU es r)=eU es (iU es m (eU es r));exact o9 es m (eU es r)
noncomputable def inR(es:List Int):Bool:=es.all fun e=>decide (0<=e)&&decide (e<=(es.length:Int))
theorem Ez(es:List Int):inR es=true↔∀e∈es,0<=e/\e<=(es.length:Int):=by
 unfold inR;rw[SS];constructor
 ·intro h e he
  have:=h e he;rw[On]at this;exact⟨of_decide_eq_true this.1,of_decide_eq_true this.2⟩
 ·intro h e he
  rw[On];exact⟨decide_eq_true (h e he).1,decide_eq_true (h e he).2⟩
theorem wm{es:List Int}(h:inR es=true){r:Int}(h0:0<=r)(h1:r<=(es.length:Int)):0<=eU es r/\eU es r<=(es.length:Int):=by
 unfold eU;split
 ·rename_i hr
  have hk:(r-1).toNat<es.length:=by lia
  rw[FM,Da hk];exact(Ez es).mp h _ (Vi hk)
 ·exact⟨h0,h1⟩
theorem v5(h:inR es=true):∀(m:Nat){r:Int},0<=r->r<=(es.length:Int)->0<=iU es m r/\iU es m r<=(es.length:Int)
 |0,r,h0,h1=>⟨h0,h1⟩
 |m+1,r,h0,h1=>v5 h m (wm h h0 h1).1 (wm h h0 h1).2
noncomputable def mR(es:List Int)(k:Nat):Bool:=decide (iU es es.length ((k:Int)+1)=0)
def kz(es:List Int):Bool:=decide (es≠[])&&(inR es&&(SO es.length).all (mR es))
theorem pV(h:es≠[]):kz es=(inR es&&(SO es.length).all (mR es)):=by unfold kz;rw[decide_eq_true h,TN]
theorem jn(a b:Int):decide (V.int a=V.int b)=decide (a=b):=by
 by_cases h:a=b;·rw[decide_eq_true h,decide_eq_true (by rw[h])]
 ·rw[decide_eq_false h,decide_eq_false (ne_int h)]
end Ck
namespace Ck
theorem mE{row:List Int}(nd:row.Nodup){i j:Nat}{x:Int}(hi:row[i]?=some x)(hj:row[j]?=some x):i=j:= (W5 (Pi.mp hi).1 nd).mp (hi.trans hj.symm)
end Ck
namespace Ck
open PySem L2
noncomputable def OT(cs:List Int):Bool:=cs.all fun c=>decide (0<=c)&&decide (c<=(cs.length:Int)+1)
end Ck
namespace L2
open PySem PySem.Spec PyProof.Rows
theorem pC:∀{xs:List V}{us:List Do},us.length=xs.length->(∀(j:Nat)v,us[j]?=some v->∃x,xs[j]?=some x/\RelV x v)->Vals xs us
 | [],us,hl,_=>by have:us=[]:=UE hl;subst this;exact .nil
 |x::xs,[],hl,_=>by simp at hl
 |x::xs,u::us,hl,k=>by
  obtain⟨y,e1,r⟩:=k 0 u rfl;have:x=y:=by simpa using e1
  subst this;exact .cons r (pC (by simpa using hl) fun j w e=>by obtain⟨y,f1,f2⟩:=k (j+1) w (by simpa using e);exact⟨y,by simpa using f1,f2⟩)
noncomputable def dE(i:Int)(n:Nat):List V:=((SO n).map fun(k:Nat)=>i+(k:Int)).map V.int
section
variable{X:Cx}
theorem list_range{pins:List (GM×Obj)}{σ:St}{H:Hp}{s:FB}{Q:VK}{lo hi:Int}{t u v:Tok}{tk:Nat}(hc:X.calm=true)(I:Inv X pins σ H s)(h1:-(2^62)<=lo)(h2:lo<2^62)(h3:-(2^62)<=hi)(h4:hi<2^62)(hz:(hi-lo).toNat<=1000000)(q:∀l,H l=none->Q (.ref l) (upd H l (.lst (dE lo (hi-lo).toNat)))):wpAny (model X.prog X.w) X.A (call (.type "list") [.ref s.heap.objs.size]) (EP X pins σ Q) X.xe {s with heap:=s.heap.push {cls:=.type "range",data:=.fields #[.int lo t,.int hi u,.int 1 v]},toks:=tk}:=by
 have I1:Inv X pins σ H {s with heap:=s.heap.push {cls:=.type "range",data:=.fields #[.int lo t,.int hi u,.int 1 v]},toks:=tk}:=I.kept fun b o e=>Fk _ e;refine call_list_range (n:=(hi-lo).toNat) (I.ok.hd hc) (Yj ..) (small_one h1 h2 h3 h4) (by rw[rangeSize_one];split<;>lia) (by lia) fun h' tk' acc' c' hk he hacc=>?_;have hl:acc'.toList.length=(dE lo (hi-lo).toNat).length:=by unfold dE;simpa using hacc.1
 refine⟨.ref _,_,I1.laid (t':=tk') (o:=.lst (dE lo (hi-lo).toNat)) hk (M2 _) ⟨?_,acc'.toList,c',pC hl fun j w e=>?_,he⟩,rfl,q _ (I1.hok.fresh (M2 _))⟩
 ·unfold dE
  rw[FS,FS,UM];exact sz (by lia)
 ·obtain⟨t',e2⟩:=hacc.2 j w (by simpa using e)
  have hj:j< (hi-lo).toNat:=by have:=(Pi.mp e).1;rw[hl]at this;unfold dE at this;simpa using this
  refine⟨.int (lo+(j:Int)),?_,t',by rw[e2,Int.mul_one]⟩;unfold dE;rw[Td,Td,List.getElem?_range hj];rfl
def Pf(ta:TA):TE:=fun σ H Q=>ta σ H fun vs H1=>∃j:Int,vs=[.int j]/\-(2^62)<=j/\j<2^62/\j.toNat<=1000000/\∀l,H1 l=none->Q (.ref l) (upd H1 l (.lst (dE 0 j.toNat)))
def O1(ta:TA):TE:=fun σ H Q=>ta σ H fun vs H1=>∃i j:Int,vs=[.int i,.int j]/\(-(2^62)<=i/\i<2^62/\-(2^62)<=j/\j<2^62)/\(j-i).toNat<=1000000/\∀l,H1 l=none->Q (.ref l) (upd H1 l (.lst (dE i (j-i).toNat)))
theorem v8{a:Uo}{ta:TA}{p p2 pos pos2:Pos}(hc:X.calm=true)(hgl:Gl X "list")(hml:X.mg "list" =none)(hg:Gl X "range")(hm:X.mg "range" =none)(ha:PA X [a] ta)(hs:starEach [a] X.env=[(false,eval a X.env)]:=by rfl)(he:starEach [.Call (.Name "range" p) [a] [] pos] X.env=[(false,eval (.Call (.Name "range" p) [a] [] pos) X.env)]:=by rfl): PE X (.Call (.Name "list" p2) [.Call (.Name "range" p) [a] [] pos] [] pos2) (Pf ta):=by intro pins s σ H Q I h;refine Tv (bO I hgl hml eO ?_ (by decide) (by decide));refine SU ?_ he rfl;rw[he];show wpAny _ _ (spliced ((false,eval (.Call (.Name "range" p) [a] [] pos) X.env)::backTo pos2 [])) _ _ s;refine UV (Call_ (bO I hg hm XJ (SU (aD (ha pos pins s σ H _ I h) fun us s1⟨vs,H1,I1,r1,q1⟩=>?_) hs rfl)));obtain⟨j,e,b1,b2,b3,q⟩:=q1;subst e;cases r1 with
 |cons r rr=>
  cases rr
  obtain⟨t,rfl⟩:=r;exact call_range_1 (U1 (list_range hc I1 (by lia) (by lia) b1 b2 (by simpa using b3) (by simpa using q)))
theorem oO(hc:X.calm=true)(hgl:Gl X "list")(hml:X.mg "list" =none)(hg:Gl X "range")(hm:X.mg "range" =none)(ha:PA X [a,b] ta)(hs:starEach [a,b] X.env=[(false,eval a X.env),(false,eval b X.env)]:=by rfl)(hs2:starEach [b] X.env=[(false,eval b X.env)]:=by rfl)(he:starEach [.Call (.Name "range" p) [a,b] [] pos] X.env=[(false,eval (.Call (.Name "range" p) [a,b] [] pos) X.env)]:=by rfl): PE X (.Call (.Name "list" p2) [.Call (.Name "range" p) [a,b] [] pos] [] pos2) (O1 ta):=by intro pins s σ H Q I h;refine Tv (bO I hgl hml eO ?_ (by decide) (by decide));refine SU ?_ he rfl;rw[he];show wpAny _ _ (spliced ((false,eval (.Call (.Name "range" p) [a,b] [] pos) X.env)::backTo pos2 [])) _ _ s;refine UV (Call_ (bO I hg hm XJ (SU (aD (ha pos pins s σ H _ I h) fun us s1⟨vs,H1,I1,r1,q1⟩=>?_) (by rw[hs,hs2]) (by rw[hs2];rfl))));obtain⟨i,j,e,⟨b1,b2,b3,b4⟩,b5,q⟩:=q1;subst e;cases r1 with
 |cons r rr=>cases rr with |cons r' rr=>
   cases rr
   obtain⟨t,rfl⟩:=r;obtain⟨t',rfl⟩:=r';exact call_range_2 (U1 (list_range hc I1 b1 b2 b3 b4 b5 q))
end
theorem nE{X:Cx}{K:KB}(hK:X.K=K):ck X (.builtin "len") (fun xs H Q=>∃a ys,xs=[.ref a]/\(ao K H a ys\/bN K H a ys)/\Q (.int ys.length) H):=by subst hK;exact aH
end L2
namespace Ck
open PySem L2
noncomputable def e7(n:Nat):List Int:=(SO n).map fun(k:Nat)=>(k:Int)
theorem zm(n:Nat):e7 (n+1)=e7 n++[(n:Int)]:=by unfold e7;rw[Vq,SV];rfl
theorem ER(n:Nat):(e7 n).length=n:=by unfold e7;simp
theorem ju:m∈e7 n↔0<=m/\m< (n:Int):=by
 unfold e7;rw[Uw];constructor
 ·rintro⟨k,hk,rfl⟩
  have:=SX.mp hk;lia
 ·intro h
  exact⟨m.toNat,SX.mpr (by lia),by lia⟩
theorem lD(n:Nat):(e7 n).Pairwise (·<·):=by unfold e7;rw[U4];exact List.pairwise_lt_range.imp fun h=>by lia
def cc(ns:List Int):Bool:=ns.isPerm (e7 ns.length)
theorem gf(ns:List Int):cc ns=true↔ns.Perm (e7 ns.length):=List.isPerm_iff
theorem ph(hp:ms.Perm ns)(hs:ms.Pairwise (·<=·)):cc ns=decide (ms=e7 ns.length):=by
 rw[TH,gf,decide_eq_true_iff];constructor
 ·intro h
  exact UD (le:=(·<=·)) (fun a b _ _ h1 h2=>Int.le_antisymm h1 h2) hs ((lD _).imp Int.le_of_lt) (hp.trans h)
 ·intro h
  rw[<-h];exact hp.symm
noncomputable def iS(row:List Int)(k:Nat):Bool:=(SO k).any fun i=>(SO row.length).any fun j=>decide (k<j)&&(decide (row.getD k 0<row.getD j 0)&&decide (row.getD j 0<row.getD i 0))
theorem nY(row:List Int)(k:Nat):iS row k=true↔∃i j:Nat,i<k/\k<j/\j<row.length/\row.getD k 0<row.getD j 0/\row.getD j 0<row.getD i 0:=by
 unfold iS;rw[UF];constructor
 ·rintro⟨i,hi,h⟩
  rw[UF]at h;obtain⟨j,hj,h⟩:=h;rw[On,On]at h;exact⟨i,j,SX.mp hi,of_decide_eq_true h.1,SX.mp hj,of_decide_eq_true h.2.1,of_decide_eq_true h.2.2⟩
 ·rintro⟨i,j,h1,h2,h3,h4,h5⟩
  refine⟨i,SX.mpr h1,?_⟩;rw[UF];refine⟨j,SX.mpr h3,?_⟩;rw[On,On];exact⟨decide_eq_true h2,decide_eq_true h4,decide_eq_true h5⟩
noncomputable def j6(row:List Int):Bool:=(SO row.length).all fun k=>!iS row k
def oR(row:List Int):Bool:=cc row&&j6 row
theorem rZ{row:List Int}{k:Nat}(hk:k<row.length)(h:iS row k=true):j6 row=false:=by cases e:j6 row with
 |false=>rfl
 |true=> have:=SS.mp e k (SX.mpr hk);rw[h]at this;cases this
theorem vp{row:List Int}(h:∀k,k<row.length->iS row k=false):j6 row=true:=by unfold j6;rw[SS];intro k hk;rw[h k (SX.mp hk)];rfl
def stk(row:List Int)(k p:Nat):List Int:=(e7 p).filter fun m=>!decide (m∈row.take k)
theorem l7{row:List Int}{k p:Nat}{m:Int}:m∈stk row k p↔(0<=m/\m< (p:Int))/\m∉row.take k:=by unfold stk;rw[Xx,ju];simp
theorem GA(row:List Int)(k p:Nat):(stk row k p).Pairwise (·<·):=(lD p).filter _
theorem xU{row:List Int}{k p:Nat}(h:(p:Int)∉row.take k):stk row k (p+1)=stk row k p++[(p:Int)]:=by unfold stk;rw[zm,WM];simp[h]
theorem zd{row:List Int}{k p:Nat}{x:Int}(hx:row[k]?=some x):stk row (k+1) p=(stk row k p).filter fun m=>!decide (m=x):=by unfold stk;rw[List.filter_filter];refine List.filter_congr fun m _=>?_;rw[Th,hx];by_cases h1:m=x<;>by_cases h2:m∈row.take k<;>simp[h1,h2]
theorem pW{l0:List Int}{x:Int}(h:(l0++[x]).Pairwise (·<·)):(l0++[x]).filter (fun m=>!decide (m=x))=l0:=by
 rw[WM];have e1:l0.filter (fun m=>!decide (m=x))=l0:=by rw[List.filter_eq_self];intro m hm;have:=(VF.mp h).2.2 m hm x (by simp);simp;lia
 rw[e1];simp
structure Off(row:List Int)(k p:Nat):Prop where
 below:∀x∈row.take k,x< (p:Int)
 from_:p=0\/∃x∈row.take k,(p:Int)=x+1
 fine:∀j,j<k->iS row j=false
theorem Off.start(row:List Int):Off row 0 0:=⟨fun x hx=>by simp at hx,.inl rfl,fun j hj=>absurd hj (UC _)⟩
theorem fE{row:List Int}{k:Nat}{y:Int}(h:y∈row.take k):∃i,i<k/\row[i]?=some y:=by obtain⟨i,hi,e⟩:=VL h;rw[Tj]at hi;refine⟨i,by lia,?_⟩;rw[List.getElem_take]at e;rw[Da (show i<row.length by lia),e]
theorem gB{row:List Int}{k:Nat}{y:Int}(h:row[k]?=some y):row.getD k 0=y:=by rw[FM,h];rfl
theorem Off.step{row:List Int}{k p p':Nat}{x:Int}(o:Off row k p)(hp:row.Perm (e7 row.length))(hx:row[k]?=some x)(hp':(p':Int)=if(p:Int)<=x then x+1 else(p:Int)):∃l0 t,stk row k p'=l0++[t]/\(t=x->l0=stk row (k+1) p'/\Off row (k+1) p')/\(t≠x->iS row k=true):=by
 have nd:row.Nodup:=hp.nodup_iff.mpr ((lD _).imp fun h=>Int.ne_of_lt h);have rng:∀y∈row,0<=y/\y< (row.length:Int):=fun y hy=>ju.mp (hp.mem_iff.mp hy);have hk:k<row.length:=(Pi.mp hx).1;have xr:=rng x (S5 hx);have xn:x∉row.take k:=fun h=>by obtain⟨i,hi,e⟩:=fE h;have:=mE nd e hx;lia
 have xp:x< (p':Int):=by rw[hp'];split<;>lia
 have pp:(p:Int)<=p':=by rw[hp'];split<;>lia
 have xs:x∈stk row k p':=l7.mpr ⟨⟨xr.1,xp⟩,xn⟩;have hne:stk row k p'≠[]:=fun z=>by rw[z]at xs;cases xs
 have el:stk row k p'=(stk row k p').dropLast++[(stk row k p').getLast hne]:=(List.dropLast_concat_getLast hne).symm;have pw:=GA row k p';generalize (stk row k p').dropLast=l0 at el;generalize (stk row k p').getLast hne=t at el;refine⟨l0,t,el,fun e=>?_,fun e=>?_⟩
 ·subst e
  have top:∀m∈stk row k p',m<=t:=fun m hm=>by
   rw[el]at hm pw;rcases Uj.mp hm with z|z
   ·have:=(VF.mp pw).2.2 m z t (by simp)
    lia
   ·have:m=t:=by simpa using z
    lia
  refine⟨?_,fun y hy=>?_,?_,fun j hj=>?_⟩;·rw[zd hx,el,pW (by rw[<-el];exact pw)]
  ·rw[Th,hx]at hy
   rcases Uj.mp hy with z|z
   ·have:=o.below y z
    lia
   ·have:y=t:=by simpa using z
    lia
  ·have hm:t∈row.take (k+1):=by rw[Th,hx];simp
   by_cases c:(p:Int)<=t
   ·rw[if_pos c]at hp'
    exact .inr ⟨t,hm,hp'⟩
   ·rw[if_neg c]at hp'
    rcases o.from_ with z| ⟨y,hy,z⟩;·lia
    ·exact .inr ⟨y,by rw[Th];exact VC _ hy,by lia⟩
  ·by_cases c:j=k
   ·subst c
    cases hb:iS row j with
    |false=>rfl
    |true=>
     obtain⟨i,m,h1,h2,h3,h4,h5⟩:=(nY row j).mp hb;rw[gB hx]at h4;have em:row[m]?=some (row.getD m 0):=by rw[FM,Da h3];rfl
     have ei:row[i]?=some (row.getD i 0):=by rw[FM,Da (show i<row.length by lia)];rfl
     have mi:row.getD i 0∈row.take j:=S5 (i:=i) (by rw[U2 h1];exact ei);have b1:=o.below _ mi;have b2:=rng _ (S5 em);have nm:row.getD m 0∉row.take j:=fun h=>by obtain⟨i',hi',e'⟩:=fE h;have:=mE nd e' em;lia
     have:=top _ (l7.mpr ⟨⟨b2.1,by lia⟩,nm⟩);lia
   ·exact o.fine j (by lia)
 ·have ht:t∈stk row k p':=by rw[el];simp
  obtain⟨⟨t0,t1⟩,tn⟩:=l7.mp ht;have xt:x<t:=by
   rw[el]at xs pw;rcases Uj.mp xs with z|z;·exact(VF.mp pw).2.2 x z t (by simp)
   ·have:x=t:=by simpa using z
    exact absurd this.symm e
  have c:¬ (p:Int)<=x:=fun c=>by rw[if_pos c]at hp';lia
  rw[if_neg c]at hp';rcases o.from_ with z| ⟨y,hy,z⟩;·lia
  ·obtain⟨i,hi,ei⟩:=fE hy
   have yr:=rng y (S5 ei);have ty:t≠y:=fun w=>tn (by rw[w];exact hy);have tr:t∈row:=hp.mem_iff.mpr (ju.mpr ⟨t0,by lia⟩);obtain⟨j,hj,ej⟩:=VL tr;have ej':row[j]?=some t:=by rw[Da hj,ej]
   have jk:k<j:=by
    by_cases h:j<k;·exact absurd (S5 (i:=j) (by rw[U2 h];exact ej')) tn
    ·by_cases h2:j=k
     ·subst h2
      rw[hx]at ej';exact absurd (To ej').symm e
     ·lia
   exact(nY row k).mpr ⟨i,j,hi,jk,hj,by rw[gB hx,gB ej'];exact xt,by rw[gB ej',gB ei];lia⟩
theorem n9:∀as bs:List Int,eZ (as.map V.int) (bs.map V.int)=decide (as=bs)
 | [],[]=>rfl
 | [],b::bs=>rfl
 |a::as,[]=>rfl
 |a::as,b::bs=>by
  rw[SQ,SQ];show(dB (.int a) (.int b)&&eZ (as.map V.int) (bs.map V.int))=_;rw[n9 as bs];have e:dB (.int a) (.int b)=decide (a=b):=by
   show(a==b)=_;by_cases h:a=b;·subst h;simp
   ·simp[h]
  rw[e];by_cases h1:a=b<;>by_cases h2:as=bs<;>simp[h1,h2]
theorem nr(n:Nat):dE 0 n=(e7 n).map V.int:=by unfold dE e7;refine congrArg (Wc V.int) (VM fun k _=>?_);show(0:Int)+(k:Int)=(k:Int);lia
noncomputable def frees(w T:List Int):List Int:=T.filter fun k=>!decide (k∈w)
noncomputable def SA(n:Nat):List Int:=(SO n).map fun(k:Nat)=>1+(k:Int)
end Ck
namespace Ck
end Ck
namespace L2
open PySem PySem.Spec PyProof.Rows PySem.SeqAt
theorem mI(k:Int):∀ns:List Int,k∈ns->ns.eraseIdx (ns.idxOf k)=ns.erase k
 | [],h=>by cases h
 |n::ns,h=>by
  by_cases e:n=k
  ·subst e
   rw[List.idxOf_cons_self,List.erase_cons_head];rfl
  ·have hm:k∈ns:=by
    rcases GT.mp h with z|z;·exact absurd z.symm e
    ·exact z
   have e2:(n::ns).idxOf k=ns.idxOf k+1:=by
    have:(n==k)=false:=by simpa using e
    simp[List.idxOf_cons,this]
   rw[e2,List.erase_cons_tail (by simpa using e)];show n::ns.eraseIdx (ns.idxOf k)=_;rw[mI k ns hm]
section
variable{X:Cx}
def Fu:V->List V->Hp->VK->Prop:=fun x vs H Q=>∃(l:GM)(ns:List Int)(k:Int),x=.ref l/\vs=[.int k]/\H l=some (.lst (ns.map V.int))/\k∈ns/\Q .non (upd H l (.lst ((ns.erase k).map V.int)))
theorem vJ:jC X "list.remove" Fu:=by
 intro pins s σ H x vs v us Q I rx rv h;obtain⟨l,ns,k,rfl,rfl,hH,hk,q⟩:=h;cases rx;obtain⟨u,rfl,t,rfl⟩:=rv.one;obtain⟨z,its,n,r,hl,e⟩:=I.lstM hH;have hi:UZ its ns:=intsAre_of r;have hlen:=hi.length;have hj:ns.idxOf k<ns.length:=List.idxOf_lt_length_iff.mpr hk;refine VQ F.slot_list_remove ⟨_,e,rfl⟩ F.entry_list_remove (F.args_list_remove_2 _ _) (MeetsSeq.list_remove l its.toArray n (.int k t) (isInt k) (fun y hy=>eq_isInt k t hi y (by simpa using hy)) (ns.idxOf k) (by simpa[hlen]using hj) ?_ ?_ (by rw[Re];lia)) ⟨e,?_⟩
 ·show isInt k its[ns.idxOf k]=true
  rw[isInt_at k hi _ (by lia) hj];simpa using List.getElem_idxOf hj
 ·intro j hjs hlt
  show isInt k its[j]=false;rw[isInt_at k hi j (by simpa using hjs) (by lia)];exact ne_of_lt_idxOf hlt _
 ·rw[<-mI k ns hk]at q
  refine⟨.non,_,I.lset (its':=its.eraseIdx (ns.idxOf k)) (ys:=(ns.eraseIdx (ns.idxOf k)).map V.int) hH e ?_ (by rw[<-Ck.map_erase];exact r.eraseIdx _) ?_,rfl,q⟩
  ·show its.toArray.eraseIdxIfInBounds (ns.idxOf k)=(its.eraseIdx (ns.idxOf k)).toArray
   rw[V9]
  ·rw[FS]
   have:=List.length_eraseIdx_le ns (ns.idxOf k);rw[FS]at hl z;lia
theorem mq{K:KB}(hK:X.K=K):bX X (compareOp .NotIn) (fun x y H Q=>∃(k:Int)(p:GM)(ns:List Int),x=.int k/\y=.ref p/\ao K H p (ns.map V.int)/\Q (.bl (!decide (k∈ns))) H):=by subst hK;exact AD
theorem jT{K:KB}(hK:X.K=K):CM X (MA K):=by subst hK;exact ml
end
end L2
namespace Ck
open PySem L2
end Ck
namespace L2
open PySem
theorem Bq(hr:aU k A):A.units+1<cLine:=Vm (by lia) hr.un
end L2
namespace Ck
open PySem L2
theorem kP{w T:List Int}{j:Nat}{k:Int}(h:T[j]?=some k):frees w (T.take (j+1))=frees w (T.take j)++(if k∈w then[]else[k]):=by unfold frees;rw[Th,h,WM];refine congrArg _ ?_;by_cases hk:k∈w<;>simp[hk]
end Ck
namespace L2
open PySem PySem.Spec PyProof.Rows
section
variable{X:Cx}
end
structure InsT(K:KB)(C:GM):Prop where
 cl:Cls K C
 ha:Xj K (.ref C) "__class__" =some (some (.builtin "object.__class__"))
 hn:W.specialIn K (.builtin "object.__class__") "__get__" =some (some (.builtin "getset_descriptor.__get__"))
 htk:W.takesIn K (.builtin "object.__class__")=some true
 hm:W.mroIn K C (.type "object")=some true
theorem InsT.ty{K:KB}{C a dx:GM}{fs:List (Str×V)}{H:Hp}(h:InsT K C)(e:H a=some (.ins C dx fs)):eh K H (.ref a) (.ref C):=.ins e h.cl h.ha h.hn h.htk h.hm
end L2
namespace Ck
open PySem L2
end Ck
namespace L2
open PySem PySem.Spec PyProof.Rows PyProof
end L2
namespace L2
open PySem PySem.Spec PyProof.Rows
section
variable{X:Cx}{f:GM}{fd:TK}{ps:List Str}{sp:Sp}{x:Str}{p pos:Pos}{a b e:Uo}{es:List Uo}{tc:TE}{t:TA}{j k:Nat}
end
end L2
namespace Ck
open PySem L2
end Ck
namespace L2
open PySem PySem.Spec PyProof.Rows PySem.W
def pw{α:Type}(n:Nat)(lt:Nat->Nat->Bool):KasT α->(α->Prop)->Prop
 |.ret a,Q=>Q a
 |.ask i j k,Q=>i<n/\j<n/\pw n lt (k (lt i j)) Q
theorem fA{α β:Type}{n:Nat}{lt:Nat->Nat->Bool}{f:α->KasT β}{Q:β->Prop}:∀{t:KasT α},pw n lt t (fun a=>pw n lt (f a) Q)->pw n lt (t.bind f) Q
 |.ret _,h=>h
 |.ask _ _ _,h=>⟨h.1,h.2.1,fA h.2.2⟩
theorem eI{α:Type}{n:Nat}{lt:Nat->Nat->Bool}{Q Q':α->Prop}(m:∀a,Q a->Q' a):∀{t:KasT α},pw n lt t Q->pw n lt t Q'
 |.ret a,h=>m a h
 |.ask _ _ _,h=>⟨h.1,h.2.1,eI m h.2.2⟩
theorem B9{α:Type}{n:Nat}{lt:Nat->Nat->Bool}{Q:α->Prop}{s:FB}{cmp:Nat->Nat->(Bool->FB->Prop)->FB->Prop}(hc:∀(i j:Nat)(C:Bool->FB->Prop),i<n->j<n->C (lt i j) s->cmp i j C s):∀{t:KasT α},pw n lt t Q->t.kasWp cmp (fun a s'=>s'=s/\Q a) s
 |.ret _,h=>⟨rfl,h⟩
 |.ask i j k,h=>hc i j (fun b s'=>(k b).kasWp cmp (fun a s'=>s'=s/\Q a) s') h.1 h.2.1 (B9 hc h.2.2)
structure ig(lt:Nat->Nat->Bool):Prop where
 asym:∀a b,lt a b=true->lt b a=false
 ntr:∀a b c,lt b a=false->lt c b=false->lt c a=false
noncomputable abbrev gA(p:Array Nat)(k:Nat):Nat:=p.getD k 0
def cY(n:Nat)(p:Array Nat):Prop:=p.toList.Perm (SO n)
theorem cY.size(h:cY n p):p.size=n:=by have:=h.length_eq;rw[UM]at this;simpa using this
theorem cY.lt(h:cY n p)(hn:0<n)(k:Nat):gA p k<n:=by
 unfold gA;by_cases hk:k<p.size
 ·have e:p.getD k 0=p[k]:=by simp[hk]
  rw[e];exact SX.mp (h.mem_iff.mp (Array.getElem_mem_toList hk))
 ·have e:p.getD k 0=0:=by simp[hk]
  rw[e];exact hn
theorem iE(hj:j<=p.size)(k:Nat):gA (XX p i j) k=if i<=k/\k<j then gA p (i+j-1-k)else gA p k:=by
 unfold gA XX;rw[Ua,getElem?_mirror_all hj k];split;·rw[<-Ua]
 ·rw[<-Ua]
theorem LZ(hs:src<p.size)(hd:d<=src)(k:Nat):gA (bubble p src d) k=if k=src-d then gA p src else if src-d<k/\k<=src then gA p (k-1)else gA p k:=by
 unfold gA;rw[Ua,getElem?_bubble hs d hd k];split;·simp[hs]
 ·split
  ·rw[<-Ua]
  ·rw[<-Ua]
theorem cY.rev(h:cY n p)(i j:Nat):cY n (XX p i j):=(WK.mp (mirror_perm p i j _)).trans h
theorem cY.bub(h:cY n p)(i j:Nat):cY n (bubble p i j):=(WK.mp (bubble_perm p i j)).trans h
section
variable{n:Nat}{lt:Nat->Nat->Bool}(O:ig lt)
def cI(lt:Nat->Nat->Bool)(p:Array Nat)(k:Nat):Prop:=∀i j,i<=j->j<k->lt (gA p j) (gA p i)=false
def gR(lt:Nat->Nat->Bool)(p:Array Nat)(k:Nat):Prop:=∀i j,i<=j->j<k->lt (gA p i) (gA p j)=false
def k6(lt:Nat->Nat->Bool)(a b:Nat):Prop:=lt a b=false/\lt b a=false
include O
theorem ig.irr(a:Nat):lt a a=false:=by cases h:lt a a with
 |false=>rfl
 |true=>exact h.symm.trans (O.asym a a h)
theorem ig.alk(a:Nat):k6 lt a a:=⟨O.irr a,O.irr a⟩
theorem ig.alkT(x:k6 lt a b)(y:k6 lt b c):k6 lt a c:=⟨O.ntr c b a y.1 x.1,O.ntr a b c x.2 y.2⟩
theorem ig.up(x:lt a b=true)(y:lt c b=false):lt a c=true:=by cases h:lt a c with
 |true=>rfl
 |false=>exact(x.symm.trans (O.ntr b c a y h)).symm▸rfl
theorem cI.one(p:Array Nat):cI lt p 1:=fun i j h1 h2=>by
 have e:i=j:=by lia
 subst e;exact O.irr _
theorem gR.one(p:Array Nat):gR lt p 1:=fun i j h1 h2=>by
 have e:i=j:=by lia
 subst e;exact O.irr _
theorem cI.snoc(h1:1<=m)(h:cI lt p m)(c:lt (gA p m) (gA p (m-1))=false):cI lt p (m+1):=fun i j ij jm=>by
 by_cases hj:j<m;·exact h i j ij hj
 ·have e:j=m:=by lia
  subst e;by_cases hi:i=j;·subst hi;exact O.irr _
  ·exact O.ntr _ _ _ (h i (j-1) (by lia) (by lia)) c
theorem gR.snoc(h1:1<=m)(h:gR lt p m)(c:lt (gA p (m-1)) (gA p m)=false):gR lt p (m+1):=fun i j ij jm=>by
 by_cases hj:j<m;·exact h i j ij hj
 ·have e:j=m:=by lia
  subst e;by_cases hi:i=j;·subst hi;exact O.irr _
  ·exact O.ntr _ _ _ c (h i (j-1) (by lia) (by lia))
theorem gR.alk(h:gR lt p m)(e:∀k,k<m->k6 lt (gA p' k) (gA p k)):gR lt p' m:=fun i j ij jm=>O.ntr _ _ _ (e j jm).2 (O.ntr _ _ _ (h i j ij jm) (e i (by lia)).1)
theorem pE{p:Array Nat}(hp:cY n p){N:Nat}(hN:N<=n):∀(f m:Nat),1<=m->m+f=N->cI lt p m->pw n lt (kas_asc p f m) (fun r=>m<=r/\r<=N/\cI lt p r/\(r<N->lt (gA p r) (gA p (r-1))=true))
 |0,m,h1,h2,h=>⟨M2 _,by lia,h,fun z=>absurd z (by lia)⟩
 |f+1,m,h1,h2,h=>by refine⟨hp.lt (by lia) _,hp.lt (by lia) _,?_⟩;show pw n lt (if lt (gA p m) (gA p (m-1))=true then _ else _) _;cases c:lt (gA p m) (gA p (m-1))with
  |true=> rw[if_pos rfl];exact⟨M2 _,by lia,h,fun _=>c⟩
  |false=> rw[if_neg (by decide)];exact eI (fun r hr=>⟨by lia,hr.2⟩) (pE hp hN f (m+1) (by lia) (by lia) (h.snoc O h1 c))
theorem jq(hN:N<=n):∀(f:Nat)(p:Array Nat)(m q:Nat),cY n p->q+1<=m->m+f=N->gR lt p m->(∀i,m-1-q<=i->i<m->k6 lt (gA p i) (gA p (m-1)))->pw n lt (kas_desc f p m q) (fun r=>cY n r.1/\r.2.2+1<=r.2.1/\r.2.1<=N/\gR lt r.1 r.2.1/\∀i,r.2.1-1-r.2.2<=i->i<r.2.1->k6 lt (gA r.1 i) (gA r.1 (r.2.1-1)))
 |0,p,m,q,hp,hq,h2,h,al=>⟨hp,hq,by show m<=N;lia,h,al⟩
 |f+1,p,m,q,hp,hq,h2,h,al=>by have hs:=hp.size;refine⟨hp.lt (by lia) _,hp.lt (by lia) _,?_⟩;show pw n lt (if lt (gA p m) (gA p (m-1))=true then _ else _) _;cases c:lt (gA p m) (gA p (m-1))with
  |true=>
   rw[if_pos rfl];by_cases q0:q>0
   ·rw[if_pos q0]
    have e:∀k,gA (XX p (m- (q+1)) m) k=if m- (q+1)<=k/\k<m then gA p (m- (q+1)+m-1-k)else gA p k:=fun k=>iE (by lia) k;have ek:∀k,k<m->k6 lt (gA (XX p (m- (q+1)) m) k) (gA p k):=fun k hk=>by
     rw[e k];split
     ·have z1:=al (m- (q+1)+m-1-k) (by lia) (by lia)
      have z2:=al k (by lia) hk;exact O.alkT z1 ⟨z2.2,z2.1⟩
     ·exact O.alk _
    have em:gA (XX p (m- (q+1)) m) m=gA p m:=by rw[e m,if_neg (by lia)]
    refine jq hN f _ (m+1) 0 (hp.rev _ _) (by lia) (by lia) ((h.alk O ek).snoc O (by lia) ?_) (fun i i1 i2=>?_)
    ·rw[em]
     have:=(ek (m-1) (by lia)).1;exact O.ntr _ _ _ (O.asym _ _ c) this
    ·have:i=m:=by lia
     subst this;exact O.alk _
   ·rw[if_neg q0]
    refine jq hN f p (m+1) 0 hp (by lia) (by lia) (h.snoc O (by lia) (O.asym _ _ c)) (fun i i1 i2=>?_);have:i=m:=by lia
    subst this;exact O.alk _
  |false=> rw[if_neg (by decide)];refine⟨hp.lt (by lia) _,hp.lt (by lia) _,?_⟩;show pw n lt (if lt (gA p (m-1)) (gA p m)=true then _ else _) _;cases d:lt (gA p (m-1)) (gA p m)with
   |true=> rw[if_pos rfl];exact⟨hp,hq,by show m<=N;lia,h,al⟩
   |false=>
    rw[if_neg (by decide)];refine jq hN f p (m+1) (q+1) hp (by lia) (by lia) (h.snoc O (by lia) d) (fun i i1 i2=>?_);by_cases hi:i<m;·exact O.alkT (al i (by lia) hi) ⟨d,c⟩
    ·have:i=m:=by lia
     subst this;exact O.alk _
def Ld(n:Nat)(lt:Nat->Nat->Bool)(N:Nat)(r:Nat×Array Nat):Prop:=cY n r.2/\cI lt r.2 r.1/\1<=r.1/\r.1<=N
theorem oB{N:Nat}(hN:N<=n){p:Array Nat}{m:Nat}(hp:cY n p)(h1:1<=m)(hm:m<=N)(h:gR lt p m):pw n lt (kas_tail3 m N p) (Ld n lt N):=by
 have hs:=hp.size;have e:∀k,k<m->gA (XX p 0 m) k=gA p (m-1-k):=fun k hk=>by rw[iE (by lia),if_pos (by lia),Nat.zero_add]
 refine fA (eI (fun r hr=>?_) (pE O (hp.rev 0 m) hN (N-m) m h1 (by lia) (fun i j ij jm=>?_)));·exact⟨hp.rev 0 m,hr.2.2.1,by show 1<=r;lia,hr.2.1⟩
 ·rw[e i (by lia),e j jm]
  exact h _ _ (by lia) (by lia)
theorem jA{N:Nat}(hN:N<=n){p:Array Nat}{m:Nat}(hp:cY n p)(h1:1<=m)(hm:m+1<=N)(h:gR lt p m)(c:lt (gA p m) (gA p (m-1))=true):pw n lt (kas_descPart m N p) (Ld n lt N):=by
 refine fA (eI (fun r hr=>?_) (jq O hN (N- (m+1)) p (m+1) 0 hp (by lia) (by lia) (h.snoc O h1 (O.asym _ _ c)) (fun i i1 i2=>?_)))
 ·obtain⟨p',m',q'⟩:=r
  obtain⟨ok,hq,hl,fa,al⟩:=hr;have hs:=ok.size;dsimp only at hs hq hl fa al|-;by_cases q0:q'>0
  ·rw[if_pos q0]
   refine oB O hN (ok.rev _ _) (by lia) hl (fa.alk O fun k hk=>?_);rw[iE (by lia)];split
   ·have z1:=al (m'- (q'+1)+m'-1-k) (by lia) (by lia)
    have z2:=al k (by lia) hk;exact O.alkT z1 ⟨z2.2,z2.1⟩
   ·exact O.alk _
  ·rw[if_neg q0]
   exact oB O hN ok (by lia) hl fa
 ·have:i=m:=by lia
  subst this;exact O.alk _
theorem zB{N:Nat}(hN:N<=n)(hN1:1<=N){p:Array Nat}(hp:cY n p):pw n lt (kas_count N p) (Ld n lt N):=by
 have hs:=hp.size;refine fA (eI (fun m hm=>?_) (pE O hp hN (N-1) 1 (M2 _) (by lia) (cI.one O p)));obtain⟨m1,mN,ri,st⟩:=hm;by_cases e:m=N
 ·subst e
  rw[if_pos (by simp)];exact⟨hp,ri,m1,M2 _⟩
 ·rw[if_neg (by simpa using e)]
  have c:=st (by lia);by_cases m2:m>1
  ·rw[if_pos m2]
   refine⟨hp.lt (by lia) _,hp.lt (by lia) _,?_⟩;show pw n lt (if lt (gA p 0) (gA p (m-1))=true then _ else _) _;cases d:lt (gA p 0) (gA p (m-1))with
   |true=> rw[if_pos rfl];exact⟨hp,ri,m1,mN⟩
   |false=>
    rw[if_neg (by decide)];have al:∀i,i<m->k6 lt (gA p i) (gA p 0):=fun i hi=>⟨ri 0 i (by lia) hi,O.ntr _ _ _ (ri i (m-1) (by lia) (by lia)) d⟩;have e:∀k,k<m->gA (XX p 0 m) k=gA p (m-1-k):=fun k hk=>by rw[iE (by lia),if_pos (by lia),Nat.zero_add]
    refine jA O hN (hp.rev _ _) m1 (by lia) (fun i j ij jm=>?_) ?_
    ·rw[e i (by lia),e j jm]
     have z1:=al (m-1-i) (by lia);have z2:=al (m-1-j) (by lia);exact(O.alkT z1 ⟨z2.2,z2.1⟩).1
    ·rw[iE (by lia),if_neg (by lia),e (m-1) (by lia),show m-1- (m-1)=0 by lia]
     exact O.up c d
  ·rw[if_neg m2]
   have em:m=1:=by lia
   subst em;exact jA O hN hp (M2 _) (by lia) (gR.one O p) c
theorem jS(hp:cY n p)(hk:k<n)(h:cI lt p k):∀(f l r:Nat),l<=r->r<=k->r-l<=f->(∀i,i<l->lt (gA p k) (gA p i)=false)->(∀i,r<=i->i<k->lt (gA p k) (gA p i)=true)->pw n lt (kas_place p k f l r) (fun l'=>l'<=k/\(∀i,i<l'->lt (gA p k) (gA p i)=false)/\∀i,l'<=i->i<k->lt (gA p k) (gA p i)=true)
 |0,l,r,h1,h2,h3,a,b=>⟨by lia,a,fun i i1 i2=>b i (by lia) i2⟩
 |f+1,l,r,h1,h2,h3,a,b=>by
  show pw n lt (if l≥r then _ else _) _;by_cases e:l≥r
  ·rw[if_pos e]
   exact⟨by lia,a,fun i i1 i2=>b i (by lia) i2⟩
  ·rw[if_neg e]
   refine⟨hp.lt (by lia) _,hp.lt (by lia) _,?_⟩;show pw n lt (if lt (gA p k) (gA p ((l+r)/2))=true then _ else _) _;cases c:lt (gA p k) (gA p ((l+r)/2))with
   |true=> rw[if_pos rfl];exact jS hp hk h f l ((l+r)/2) (by lia) (by lia) (by lia) a fun i i1 i2=>O.up c (h _ i i1 i2)
   |false=> rw[if_neg (by decide)];exact jS hp hk h f ((l+r)/2+1) r (by lia) h2 (by lia) (fun i hi=>O.ntr _ _ _ (h i ((l+r)/2) (by lia) (by lia)) c) b
theorem wG:∀(f:Nat)(p:Array Nat)(k:Nat),cY n p->k+f=n->cI lt p k->pw n lt (kas_bin f p k) (fun p'=>cY n p'/\cI lt p' n)
 |0,p,k,hp,hk,h=>by
  have:k=n:=by lia
  subst this;exact⟨hp,h⟩
 |f+1,p,k,hp,hk,h=>by
  have hs:=hp.size;refine fA (eI (fun l hl=>?_) (jS O hp (by lia) h k 0 k (by lia) (M2 _) (by lia) (fun i hi=>absurd hi (by lia)) (fun i i1 i2=>absurd i1 (by lia))));obtain⟨lk,lo,hi⟩:=hl;refine wG f _ (k+1) (hp.bub _ _) (by lia) (fun i j ij jk=>?_);have e:=fun x=>LZ (p:=p) (src:=k) (d:=k-l) (by lia) (by lia) x;rw[e i,e j,show k- (k-l)=l by lia];by_cases j1:j=l
  ·subst j1
   rw[if_pos rfl];by_cases i1:i=j;·rw[if_pos i1];exact O.irr _
   ·rw[if_neg i1,if_neg (by lia)]
    exact lo i (by lia)
  ·rw[if_neg j1]
   by_cases j2:l<j/\j<=k
   ·rw[if_pos j2]
    by_cases i1:i=l
    ·rw[if_pos i1]
     exact O.asym _ _ (hi (j-1) (by lia) (by lia))
    ·rw[if_neg i1]
     by_cases i2:l<i/\i<=k
     ·rw[if_pos i2]
      exact h _ _ (by lia) (by lia)
     ·rw[if_neg i2]
      exact h _ _ (by lia) (by lia)
   ·rw[if_neg j2,if_neg (by lia),if_neg (by lia)]
    exact h _ _ ij (by lia)
theorem EC(h2:1<=n):pw n lt (kas_sort n) (fun p=>cY n p/\cI lt p n):=by
 refine fA (eI (fun r hr=>?_) (zB O (M2 n) h2 (p:=Vr (SO n)) (by unfold cY;simp)));obtain⟨m,p⟩:=r;obtain⟨ok,ri,m1,mn⟩:=hr;dsimp only at ok ri m1 mn|-;by_cases e:m<n
 ·rw[if_pos e,Nat.max_eq_left m1]
  exact wG O (n-m) p m ok (by lia) ri
 ·rw[if_neg e]
  have:m=n:=by lia
  subst this;exact⟨ok,ri⟩
end
end L2
namespace L2
open PySem PySem.Spec PyProof.Rows PySem.W Ck
section
variable{prog:SK}{w:Tc}{A:Tf}{E:Do->FB->Prop}{s:FB}
def sH(prog:SK)(w:Tc)(A:Tf)(vs:List Do)(lt:Nat->Nat->Bool)(s1:FB):Prop:=∀(Q:SortKind->FB->Prop),(∀κ,(∀(i j:Nat)(C:Bool->FB->Prop),i<vs.length->j<vs.length->C (lt i j) s1->kas_ask prog w A κ vs i j C s1)->Q κ s1)->wpAny (model prog w) A (keyKind' vs.toArray) Q (fun _ _=>False) s1
noncomputable def dA(vs:List Do)(p:Array Nat):List Do:=p.toList.map fun i=>vs.getD i TB
theorem vw(vs:List Do):dA vs (Vr (SO vs.length))=vs:=by unfold dA;refine VI (by simp) fun i h1 h2=>?_;simp[h2]
theorem ES(vs:List Do):(vs.toArray.zip vs.toArray).map (·.2)=vs.toArray:=by refine Array.ext (by simp) fun i h1 h2=>?_;simp
theorem nU{a:GM}{vs:List Do}{n:Nat}{P:PySem.Fin->FB->Prop}{lt:Nat->Nat->Bool}(O:ig lt)(ho:s.heap.get? a=some (seqObj "list" vs.toArray n))(h64:vs.length<64)(hk:∀h6:Ux,(∀b o,b≠a->s.heap.get? b=some o->h6.get? b=some o)->2<=vs.length->sH prog w A vs lt {s with heap:=h6})(fin:∀p:Array Nat,cY vs.length p->cI lt p vs.length->P (.done (.ret .none)) {s with heap:=sortedHeap s.heap a vs (dA vs p).toArray}):wpAny (model prog w) A (Builtin.«list.sort» ⟨[.ref a],[]⟩) P E s:=by
 have ha:a<s.heap.objs.size:=GE ho;have hz:vs.length<=sizeLine:=by rw[TM];lia
 obtain⟨e1,ho1⟩:∃e,(s.heap.update a (Te fun _=>(#[]:Array Do))).get? a=some (seqObj "list" #[] e):=⟨_,get?_update_seq ho _⟩;have keep:∀b o,(s.heap.update a (Te fun _=>(#[]:Array Do))).get? b=some o->(((s.heap.update a (Te fun _=>(#[]:Array Do))).push (seqObj "tuple" vs.toArray 0)).push (seqObj "list" #[] 0)).get? b=some o:=fun b o e=>Fk _ (Fk _ e);have old:∀b o,b≠a->s.heap.get? b=some o->(((s.heap.update a (Te fun _=>(#[]:Array Do))).push (seqObj "tuple" vs.toArray 0)).push (seqObj "list" #[] 0)).get? b=some o:=fun b o hb e=>keep b o (by rw[Heap.get?_update_ne _ _ _ _ hb];exact e);have ho6:=keep _ _ ho1;rw[list_sort_plain];refine tz (listItems_at ho rfl (tz (listUpdate_at ho rfl (tz (seqEpoch_at ho1 rfl (tz (wpAny_newTuple (tz (wpAny_newList (Ti ?_) (KM _))) hz)))) (by rw[Re];exact hz) (KM _))));show wpAny (model prog w) A _ P E {s with heap:=((s.heap.update a (Te fun _=>(#[]:Array Do))).push (seqObj "tuple" vs.toArray 0)).push (seqObj "list" #[] 0)};dsimp only;by_cases h2:vs.toArray.size<2
 ·rw[if_pos h2,if_pos h2]
  refine tz (Gc ?_);rw[StateT.run_pure];refine tz (Gc ?_);dsimp only;have ez:(arrOf (SortSt.mk' general' (vs.toArray.zip vs.toArray) #[] 7 none)).map (·.2)=vs.toArray:=ES vs;rw[ez];refine tz (seqEpoch_at ho6 rfl (tz (listUpdate_at ho6 rfl ?_ (KM _) (by rw[Re];lia))));simp only[bne_self_eq_false,Ta,if_false];have f:=fin (Vr (SO vs.length)) (by unfold cY;simp) (fun i j ij jl=>by
   rw[Re]at h2;have e:i=j:=by lia
   subst e;exact O.irr _)
  rw[vw]at f;exact Gc f
 ·rw[if_neg h2,if_neg h2]
  rw[Re]at h2;refine tz (TZ (hk _ old (by lia) _ fun κ ask=>?_) (fun _ _ q=>q) fun _ _ x=>x.elim);refine tz (TZ (kat_run (ks:=vs) (Q:=fun st' s'=>∃p:Array Nat,p.size=vs.length/\arrOf st'=p.map (kas_item (vs.toArray.zip vs.toArray))/\failedOf st'=none/\s'=_/\cY vs.length p/\cI lt p vs.length) rfl (by lia) h64 (fun p' st' s' a1 a2 a3 a4=>⟨p',a1,a2,a3,a4⟩) (B9 ask (EC O (by lia)))) ?_ fun _ _ e=>e);rintro⟨⟨⟩,st'⟩ s' ⟨p,hp,har,hf,rfl,ok,ri⟩;dsimp only;rw[kat_snds rfl har];refine tz (seqEpoch_at ho6 rfl (tz (listUpdate_at ho6 rfl ?_ (KM _) (by rw[Re,FS,S6,hp];lia))));rw[hf];simp only[bne_self_eq_false,Ta,if_false];exact Gc (fin p ok ri)
theorem kc{l:GM}{vs:List Do}{Q:Do->FB->Prop}{lt:Nat->Nat->Bool}(O:ig lt)(hl:s.heap.IsList l vs.toArray)(h64:vs.length<64)(hk:∀h6:Ux,(∀b o,s.heap.get? b=some o->h6.get? b=some o)->2<=vs.length->sH prog w A.in1.in1 vs lt {s with heap:=h6})(fin:∀p:Array Nat,cY vs.length p->cI lt p vs.length->Q (.ref (s.heap.objs.size+1)) {s with heap:=sortedAll s.heap vs (dA vs p).toArray}):wpAny (model prog w) A (call (.builtin "sorted") [.ref l]) Q E s:=by
 have hz:vs.length<=sizeLine:=by rw[TM];lia
 have hsz:((s.heap.push (seqObj "list" #[] 0)).update s.heap.objs.size (Te (·++vs.toArray))).objs.size=s.heap.objs.size+1:=by rw[VJ,size_push']
 have hoL:(((s.heap.push (seqObj "list" #[] 0)).update s.heap.objs.size (Te (·++vs.toArray))).push (seqObj "list" vs.toArray 0)).get? (s.heap.objs.size+1)=some (seqObj "list" vs.toArray 0):=by rw[<-hsz];exact SB _ rfl
 have keep:∀b o,s.heap.get? b=some o->(((s.heap.push (seqObj "list" #[] 0)).update s.heap.objs.size (Te (·++vs.toArray))).push (seqObj "list" vs.toArray 0)).get? b=some o:=fun b o q=>by have hlt:b<s.heap.objs.size:=GE q;refine Fk _ ?_;rw[Heap.get?_update_ne _ _ _ _ (SM hlt)];exact Fk _ q
 refine WU kind_sorted plain_sorted entry_sorted (args_sorted1 _) ?_;unfold Builtin.«sorted»;refine tz (m:=checkCount "sorted" 1 1 _) (Gc (tz (collect_list hl (tz (wpAny_newList ?_ hz)) hz)));show wpAny _ _ _ _ _ {s with heap:=((s.heap.push (seqObj "list" #[] 0)).update s.heap.objs.size (Te (·++vs.toArray))).push (seqObj "list" vs.toArray 0)};rw[hsz];refine tz (Ti (UG slot_list_sort ⟨_,hoL,rfl⟩ entry_list_sort (nU (s:={s with heap:=((s.heap.push (seqObj "list" #[] 0)).update s.heap.objs.size (Te (·++vs.toArray))).push (seqObj "list" vs.toArray 0)}) O hoL h64 (fun h6 old=>hk h6 fun b o q=>old b o (SM (U5 (GE q))) (keep b o q)) fun p ok ri=>⟨_,rfl,?_⟩) (args_list_sort _)));exact Gc ⟨_,rfl,fin p ok ri⟩
noncomputable def dY(p q:Pair):Bool:=decide (p.1<q.1)|| (decide (p.1=q.1)&&decide (p.2<q.2))
def cT(p q:Pair):Prop:=p.1<q.1\/(p.1=q.1/\p.2<=q.2)
theorem iP:dY q p=false↔cT p q:=by unfold dY cT;simp only[VG,XD,decide_eq_false_iff_not];lia
theorem D9:dY p q=true↔¬cT q p:=by rw[<-iP];simp
theorem LW(ps:List Pair):ig fun i j=>dY (ps.getD i (0,0)) (ps.getD j (0,0))where
 asym a b h:=by rw[D9]at h;rw[iP];unfold cT at h|-;lia
 ntr a b c h1 h2:=by rw[iP]at h1 h2|-;unfold cT at h1 h2|-;lia
def gL(h:Ux)(vs:List Do)(ps:List Pair):Prop:=TY (fun(v:Do)(p:Pair)=>∃a t u,v=.ref a/\IsTup h a #[.int p.1 t,.int p.2 u]) vs ps
theorem gL.get:∀{vs:List Do}{ps:List Pair},gL h vs ps->∀{i:Nat},i<vs.length->∃a t u,vs.getD i TB=.ref a/\IsTup h a #[.int (ps.getD i (0,0)).1 t,.int (ps.getD i (0,0)).2 u]
 |_,_,.nil,i,e=>absurd e (by simp)
 |_,_,.cons r t,0,e=>r
 |_,_,.cons r t,i+1,e=>by have:=gL.get t (i:=i) (by simpa using e);simpa using this
theorem gL.tups:∀{vs:List Do}{ps:List Pair},gL h vs ps->∃fs:List Do,KatTups h vs fs/\fs.length=vs.length/\∀v∈fs,∃i t,v=.int i t
 |_,_,.nil=>⟨[],.nil,rfl,fun v hv=>by cases hv⟩
 |_,_,.cons (b:=p) r t=>by
  obtain⟨fs,k,l,al⟩:=gL.tups t;obtain⟨a,t',u,rfl,o,ho,hc,n,hd⟩:=r;refine⟨.int p.1 t'::fs,.cons ho hc hd rfl k,by simp[l],fun v hv=>?_⟩;rcases GT.mp hv with rfl|hv;·exact⟨_,_,rfl⟩
  ·exact al v hv
theorem DD(r:gL s1.heap vs ps)(h2:2<=vs.length):sH prog w A vs (fun i j=>dY (ps.getD i (0,0)) (ps.getD j (0,0))) s1:=by
 intro Q q;obtain⟨fs,k,l,al⟩:=r.tups;refine kat_kind (T:=.type "int") k (by lia) (fun v hv=>?_) (by decide) (q _ fun i j C hi hj hc=>?_)
 ·obtain⟨i,t,rfl⟩:=al v hv
  exact Looks.of_pure rfl
 ·obtain⟨a,t,u,e1,o1,g1,c1,n1,d1⟩:=r.get hi
  obtain⟨b,t',u',e2,o2,g2,c2,n2,d2⟩:=r.get hj;unfold kas_ask;rw[e1,e2];have hc:C (dY (ps.getD i (0,0)) (ps.getD j (0,0))) s1:=hc;generalize ps.getD i (0,0)=p at hc d1;generalize ps.getD j (0,0)=q' at hc d2;obtain⟨x1,y1⟩:=p;obtain⟨x2,y2⟩:=q';unfold dY at hc;dsimp only at hc d1 d2;refine kat_lt g1 d1 g2 d2 (kat_cons (Wl ?_));by_cases ex:x1=x2
  ·subst ex
   rw[show(x1==x1)=true from by simp];refine kat_yes (kat_cons (Wl ?_));by_cases ey:y1=y2
   ·subst ey
    rw[show(y1==y1)=true from by simp];refine kat_yes (kat_nil ?_);have e:(decide (x1<x1)||decide (x1=x1)&&decide (y1<y1))=false:=by simp
    rw[e]at hc;exact hc
   ·rw[show(y1==y2)=false from by simpa using ey]
    refine kat_no (kat_one _ _ (wpAny_lt_int ?_));have e:(decide (x1<x1)||decide (x1=x1)&&decide (y1<y2))=decide (y1<y2):=by simp
    rw[e]at hc;exact hc
  ·rw[show(x1==x2)=false from by simpa using ex]
   refine kat_no (oneLt_int ?_);have e:(decide (x1<x2)||decide (x1=x2)&&decide (y1<y2))=decide (x1<x2):=by simp[ex]
   rw[e]at hc;exact hc
end
section
variable{X:Cx}
theorem vc(I:Inv X pins σ H s):∀{us:List V}{ps:List Pair}{vs:List Do},cB H us ps->Vals us vs->gL s.heap vs ps
 |_,_,_,.nil,.nil=>.nil
 |_,_,_,.cons r t,.cons rv tv=>by
  obtain⟨a,rfl,ha⟩:=r;cases rv;obtain⟨its,r',tu,_⟩:=I.tuple (bN.of ha);refine .cons ⟨a,?_⟩ (vc I t tv);cases r' with
  |cons x1 r2=>cases r2 with |cons x2 r3=>
    cases r3
    obtain⟨t1,rfl⟩:=x1;obtain⟨t2,rfl⟩:=x2;exact⟨t1,t2,rfl,tu⟩
theorem gL.mono(k:∀b o,h.get? b=some o->h'.get? b=some o):∀{vs:List Do}{ps:List Pair},gL h vs ps->gL h' vs ps
 |_,_,.nil=>.nil
 |_,_,.cons r t=>by obtain⟨a,t1,t2,e,o,ho,hc,n,hd⟩:=r;exact .cons ⟨a,t1,t2,e,o,k _ _ ho,hc,n,hd⟩ (gL.mono k t)
theorem c5{α β:Type}{R:α->β->Prop}{as:List α}{bs:List β}(h:TY R as bs)(da:α)(db:β):∀is:List Nat,(∀i∈is,i<as.length)->TY R (is.map fun i=>as.getD i da) (is.map fun i=>bs.getD i db)
 | [],_=>.nil
 |i::is,hi=>by
  refine .cons ?_ (c5 h da db is fun j hj=>hi j (SH _ hj));have hl:=hi i (SY ..);have go:∀{as:List α}{bs:List β},TY R as bs->∀i,i<as.length->R (as.getD i da) (bs.getD i db):=by intro as bs h;induction h with
   |nil=>intro i hi;simp at hi
   |cons r t ih=> intro i hi;cases i with
    |zero=>simpa using r
    |succ i=>simpa using ih i (by simpa using hi)
  exact go h i hl
theorem fY{α:Type}(d:α)(l:List α){is:List Nat}(h:is.Perm (SO l.length)):(is.map fun i=>l.getD i d).Perm l:=by
 refine(h.map _).trans ?_;have e:(SO l.length).map (fun i=>l.getD i d)=l:=VI (by simp) fun i h1 h2=>by simp[h2]
 rw[e]
theorem pG:ck X (.builtin "sorted") (fun xs H Q=>∃(p:GM)(ps:List Pair),xs=[.ref p]/\eE H p ps/\ps.length<64/\∀(q:GM)(qs:List Pair)(H':Hp),af H H'->H q=none->eE H' q qs->qs.Perm ps->qs.Pairwise cT->Q (.ref q) H'):=by
 intro pins s σ H xs us Q I r h;obtain⟨p,ps,rfl,⟨ws,hl,pr⟩,h64,q⟩:=h;obtain⟨u,rfl,ru⟩:=vals1 r;cases ru;obtain⟨its,r',pl,hz⟩:=I.list (ao.of hl);have lw:=pr.length;have li:ws.length=its.length:=r'.length;have pv:=vc I pr r';refine kc (LW ps) pl.isList (by lia) (fun h6 old h2=>DD (s1:={s with heap:=h6}) (pv.mono old) h2) fun g ok ri=>?_;obtain⟨e,he⟩:=sortedAll_at s.heap its (dA its g).toArray;have hb:∀i∈g.toList,i<its.length:=fun i hi=>SX.mp (ok.mem_iff.mp hi);have lg:g.toList.length=its.length:=by rw[ok.length_eq,UM]
 have hz2:(g.toList.map fun i=>ws.getD i V.non).length<=sizeLine:=by rw[FS,lg];exact sz (by lia)
 have vs2:Vals (g.toList.map fun i=>ws.getD i V.non) (dA its g):=c5 r' V.non TB g.toList (fun i hi=>by rw[li];exact hb i hi);have pr2:cB H (g.toList.map fun i=>ws.getD i V.non) (g.toList.map fun i=>ps.getD i (0,0)):=c5 pr V.non (0,0) g.toList (fun i hi=>by rw[li];exact hb i hi);have fr:H (s.heap.objs.size+1)=none:=I.hok.fresh (UP _);refine⟨.ref _,_,I.laid (t':=s.toks) (o:=.lst (g.toList.map fun i=>ws.getD i V.non)) (fun b u e=>sortedAll_old e) (UP _) ⟨hz2,dA its g,e,vs2,by simpa[seqObj]using he⟩,rfl,?_⟩;refine q _ _ _ (af.new (af.refl H) fr _) fr ⟨_,ag,pr2.updN fr _⟩ (fY (0,0) ps (by rw[<-lw,li];exact ok)) ?_;rw[U4];have gs:g.size=its.length:=by rw[<-lg];simp
 refine Tb.mpr fun i j hi hj hij=>?_;have:=ri i j (by lia) (by rw[<-gs];simpa using hj);rw[iP]at this;unfold gA at this;simpa[show i<g.size by simpa using hi,show j<g.size by simpa using hj]using this
end
end L2
namespace L2
open PySem PySem.Spec PyProof.Rows PySem.W
section
variable{prog:SK}{w:Tc}{A:Tf}{E:Do->FB->Prop}{s:FB}{R:Yd->FB->Prop}{d:Do}{it:GM}{fp wr:List GM}{n:Nat}{P:Nat->Do->Prop}{St:Nat->Ux->Prop}
noncomputable abbrev BQ(d:Do):List (Str×Do):=[(AC "default",d)]
theorem D1:(toString "max"++toString ".loop" :String)= "max.loop":=by decide
theorem vK(a d:Do):argsOk "max" ⟨[a],BQ d⟩:=by unfold argsOk;kernel_rfl
end
section
variable{X:Cx}{e:Uo}{es:List Uo}{kws:List Keyword}{p pos:Pos}{t tk:TA}{x:Str}{id:String}{ks:List Str}{r:List V->List V->Hp->VK->Prop}
def wZ(X:Cx)(f:Do)(ks:List Str)(r:List V->List V->Hp->VK->Prop):Prop:=∀(pins:List (GM×Obj))(s:FB)(σ:St)(H:Hp)(xs zs:List V)(us ws:List Do)(Q:VK),Inv X pins σ H s->Vals xs us->Vals zs ws->r xs zs H Q->wpAny (model X.prog X.w) X.A (call f us (ks.zip ws)) (EP X pins σ Q) X.xe s
def OX(r:List V->List V->Hp->VK->Prop)(t tk:TA):TE:=fun σ H Q=>t σ H fun vs H1=>tk σ H1 fun zs H2=>r vs zs H2 Q
theorem eV(hc:wZ X (.builtin id) ks r)(hg:Gl X x)(hm:X.mg x=none)(hv:bootBuiltins x=some (.builtin id))(ha:PA X (e::es) t)(hkw:PK X kws tk)(hn:x≠"__name__":=by decide)(hdb:(x== ("__debug__" :Str))=false:=by decide)(hs:backTo pos (starEach (e::es) X.env)=(false,eval e X.env)::backTo pos (starEach es X.env):=by rfl)(hpl:(backTo pos (starEach (e::es) X.env)).any (·.1)=false:=by rfl)(hal:(backToKw pos (keywordEach kws X.env)).all (·.1.isSome)=true:=by rfl)(hkn:(backToKw pos (keywordEach kws X.env)).any (·.1.isNone)=false:=by rfl)(hks:(backToKw pos (keywordEach kws X.env)).filterMap (·.1)=ks:=by rfl):PE X (.Call (.Name x p) (e::es) kws pos) (OX r t tk):=by intro pins s σ H Q I h;refine Tv (bO I hg hm hv (callWith_kw (env:=X.env) (aD (ha pos pins s σ H _ I h) fun us s1⟨vs,H1,I1,r1,q⟩=>aD (hkw pos pins s1 σ H1 _ I1 q) fun ws s2⟨zs,H2,I2,r2,q2⟩=>?_) hs hpl hal hkn) hn hdb);rw[hks];exact hc pins s2 σ H2 vs zs us ws Q I2 r1 r2 q2
end
end L2
namespace L2
open PySem PySem.Spec PyProof.Rows
section
variable{X:Cx}
end
theorem bo.two{K:KB}{H:Hp}{n:Nat}{a b:GM}{x1 y1 x2 y2:Int}(ne:a≠b)(ha:H a=some (.tup [.int x1,.int y1]))(hb:H b=some (.tup [.int x2,.int y2])):bo K H (n+1) (.ref a) (.ref b) (decide (x1=x2)&&decide (y1=y2)):=by
 have h:=bo.tup (n:=n) (e:=fun j=>if j=0 then decide (x1=x2)else decide (y1=y2)) ne (bN.of (K:=K) ha) (bN.of (K:=K) hb) (fun j x y ex ey=>by match j,ex,ey with
  |0,ex,ey=>
   have e1:V.int x1=x:=by simpa using ex
   have e2:V.int x2=y:=by simpa using ey
   rw[<-e1,<-e2,if_pos rfl];have z:=bo.flat (K:=K) (H:=H) (n:=n) (x:=V.int x1) (y:=V.int x2) rfl rfl;exact z
  |1,ex,ey=>
   have e1:V.int y1=x:=by simpa using ex
   have e2:V.int y2=y:=by simpa using ey
   rw[<-e1,<-e2,if_neg (by decide)];have z:=bo.flat (K:=K) (H:=H) (n:=n) (x:=V.int y1) (y:=V.int y2) rfl rfl;exact z
  |j+2,ex,ey=>simp at ex)
 have e:((SO (min [V.int x1,V.int y1].length [V.int x2,V.int y2].length)).all (fun j=>if j=0 then decide (x1=x2)else decide (y1=y2))&&decide ([V.int x1,V.int y1].length=[V.int x2,V.int y2].length))=(decide (x1=x2)&&decide (y1=y2)):=by simp[Vq]
 first
  | (rw[e]at h;exact h)
  | (simp[Vq]at h;exact h)
end L2
namespace Ck
open PySem L2
def Cut(n:Nat)(p:Pair):Prop:=0<=p.1/\p.1+1<p.2/\p.2<=(n:Int)+1/\¬ (p.1=0/\p.2=(n:Int)+1)
structure OO(n:Nat)(ps:List Pair):Prop where
 cut:∀p∈ps,Cut n p
 ris:ps.Pairwise cT
 len:ps.length<=n
theorem A0(h:cT p q)(h':cT q p):p=q:=by unfold cT at h h';exact XM (by lia) (by lia)
theorem Ar{ps qs:List Pair}(hp:ps.Pairwise cT)(hq:qs.Pairwise cT)(h:ps.Perm qs):ps=qs:=UD (le:=cT) (fun _ _ _ _ h1 h2=>A0 h1 h2) hp hq h
noncomputable def OH(i j:Nat):List Pair:=(if i=0 then[]else[(0,(i:Int)+1)])++(if j=0 then[]else[((i:Int)+1,(i:Int)+(j:Int)+2)])
noncomputable def N4(i j:Nat)(ps qs:List Pair):List Pair:=ps++OH i j++qs.map (up ((i:Int)+1))
section
variable{i j:Nat}{ps qs:List Pair}(hp:OO i ps)(hq:OO j qs)
include hp hq
variable{cs:List Pair}(hc:cs.Perm (N4 i j ps qs))(hs:cs.Pairwise cT)
include hc hs
end
end Ck
namespace L2
open PySem PySem.Spec PyProof.Rows PySem.W PySem.SeqAt Ck
noncomputable def cM:List Int->List Int->Bool
 | [],[]=>false
 | [],_::_=>true
 |_::_,[]=>false
 |a::as,b::bs=>if a=b then cM as bs else decide (a<b)
theorem pS:∀as:List Int,cM as []=false
 | []=>rfl
 |_::_=>rfl
theorem oX:∀as bs:List Int,cM as bs=true->cM bs as=false
 | [],[],h=>rfl
 | [],_::_,_=>rfl
 |_::_,[],h=>by cases h
 |a::as,b::bs,h=>by
  unfold cM at h|-;by_cases e:a=b
  ·rw[if_pos e]at h
   rw[if_pos e.symm];exact oX as bs h
  ·rw[if_neg e]at h
   rw[if_neg (fun z=>e z.symm)];have:=of_decide_eq_true h;exact decide_eq_false (by lia)
theorem qN:∀as bs cs:List Int,cM bs as=false->cM cs bs=false->cM cs as=false
 | [],_,cs,_,_=>pS cs
 |_::_,[],_,h,_=>by cases h
 |_::_,_::_,[],_,h=>by cases h
 |a::as,b::bs,c::cs,h1,h2=>by
  unfold cM at h1 h2|-;by_cases e1:b=a
  ·rw[if_pos e1]at h1
   by_cases e2:c=b
   ·rw[if_pos e2]at h2
    rw[if_pos (e2.trans e1)];exact qN as bs cs h1 h2
   ·rw[if_neg e2]at h2
    have:=of_decide_eq_false h2;rw[if_neg (fun z=>e2 (z.trans e1.symm))];exact decide_eq_false (by lia)
  ·rw[if_neg e1]at h1
   have d1:=of_decide_eq_false h1;by_cases e2:c=b
   ·rw[if_pos e2]at h2
    rw[if_neg (fun z=>e1 (e2.symm.trans z))];exact decide_eq_false (by lia)
   ·rw[if_neg e2]at h2
    have:=of_decide_eq_false h2;rw[if_neg (by lia)];exact decide_eq_false (by lia)
theorem PY(rs:List (List Int)):ig fun i j=>cM (rs.getD i []) (rs.getD j [])where asym a b h:=oX _ _ h;ntr a b c h1 h2:=qN _ _ _ h1 h2
theorem jg(h:UZ vs ns):∀{i:Nat}{n:Int},ns[i]?=some n->∃t,vs[i]?=some (.int n t):=by induction h with
 |nil=>intro i n e;cases e
 |cons m t h ih=> intro i n e;cases i with
  |zero=>simp at e;exact⟨t,by rw[<-e];rfl⟩
  |succ i=>exact ih (by simpa using e)
theorem DQ(l b:GM)(items items2:Array Do)(ns ms:List Int)(hi:UZ items.toList ns)(hm:UZ items2.toList ms)(n n2:Nat)(dd dd2:Option GM)(sl sl2:Array (Option Do)):∀(k i:Nat),ns.length-i=k->i<=ns.length->i<=ms.length->Meets (Builtin.«list.__eq__.loop» ⟨[.ref l,.ref b,rawInt i,rawInt 0],[]⟩) (fun A R s=>s.heap.get? l=some {cls:=.type "list",dict:=dd,data:=.seq items n,slots:=sl}/\s.heap.get? b=some {cls:=.type "list",dict:=dd2,data:=.seq items2 n2,slots:=sl2}/\R (.ok (.ret (.bool (cM (ns.drop i) (ms.drop i))))) s):=by
 have l1:items.size=ns.length:=by have:=hi.length;simpa using this
 have l2:items2.size=ms.length:=by have:=hm.length;simpa using this
 --one of them is at its end
 have fin:∀i:Nat,i<=ns.length->i<=ms.length->(i=ns.length\/i=ms.length)->cM (ns.drop i) (ms.drop i)=decide (items.size<items2.size):=fun i h1 h2 h=>by
  rw[l1,l2];by_cases e:i=ns.length
  ·rw[Vl (as:=ns) (by lia)]
   by_cases e2:i=ms.length
   ·rw[Vl (by lia)]
    exact(decide_eq_false (by lia)).symm
   ·rw[TU (show i<ms.length by lia)]
    exact(decide_eq_true (by lia)).symm
  ·rw[Vl (as:=ms) (by lia),pS]
   exact(decide_eq_false (by lia)).symm
 intro k;induction k with
 |zero=>
  intro i hk hn2 hm2 prog w A R s h;obtain⟨hp,g,d,tk,os⟩:=s;obtain⟨hl,hb,h⟩:=h;wp_walk using Ub hl,Ub hb;have n1:items[((i:Nat):Int).toNat]?=none:=by simp;lia
  rw[n1];rw[fin i hn2 hm2 (by lia)]at h;wp_walk using Ub hl,Ub hb;exact h
 |succ k ih=>
  intro i hk hn2 hm2 prog w A R s h;obtain⟨hp,g,d,tk,os⟩:=s;obtain⟨hl,hb,h⟩:=h;have li:i<ns.length:=by lia
  obtain⟨t1,g1⟩:=jg hi (Da li);have i1:items[((i:Nat):Int).toNat]?=some (.int ns[i] t1):=by simpa using g1
  wp_walk using Ub hl,Ub hb;rw[i1];by_cases lm:i<ms.length
  ·obtain⟨t2,g2⟩:=jg hm (Da lm)
   have i2:items2[((i:Nat):Int).toNat]?=some (.int ms[i] t2):=by simpa using g2
   rw[i2];rw[TU li,TU lm]at h;unfold cM at h;refine tz (Wl ?_);by_cases e:ns[i]=ms[i]
   ·rw[if_pos e]at h
    rw[show(ns[i]==ms[i])=true by simpa using e];wp_walk;have hc:((i:Int)+1)=((i+1:Nat):Int):=by lia
    rw[hc];exact⟨Ur Vf _,T9 Xk (by rw[TF Vf _];exact ih (i+1) (by lia) (by lia) (by lia) prog w A R _ ⟨hl,hb,h⟩)⟩
   ·rw[if_neg e]at h
    rw[show(ns[i]==ms[i])=false by simpa using e];wp_walk using Ub hl,Ub hb;rw[i1,i2];refine tz (wpAny_lt_int ?_);exact Gc h
  ·have n2':items2[((i:Nat):Int).toNat]?=none:=by simp;lia
   rw[n2'];rw[fin i hn2 hm2 (by lia)]at h;wp_walk using Ub hl,Ub hb;exact h
theorem Fm(l b:GM)(items items2:Array Do)(ns ms:List Int)(hi:UZ items.toList ns)(hm:UZ items2.toList ms)(n n2:Nat)(dd dd2:Option GM)(sl sl2:Array (Option Do)):Meets (Builtin.«list.__lt__» ⟨[.ref l,.ref b],[]⟩) (fun A R s=>s.heap.get? l=some {cls:=.type "list",dict:=dd,data:=.seq items n,slots:=sl}/\s.heap.get? b=some {cls:=.type "list",dict:=dd2,data:=.seq items2 n2,slots:=sl2}/\R (.ok (.ret (.bool (cM ns ms)))) s):=by intro prog w A R s h;obtain⟨hp,g,d,tk,os⟩:=s;obtain⟨hl,hb,h⟩:=h;have f3:=Xv;wp_walk using Ub hl,Ub hb;exact⟨Ur Vf _,T9 Xk (by rw[TF Vf _];exact DQ l b items items2 ns ms hi hm n n2 dd dd2 sl sl2 _ 0 rfl (KM _) (KM _) prog w A R _ ⟨hl,hb,by simpa using h⟩)⟩
section
variable{prog:SK}{w:Tc}{A:Tf}{E:Do->FB->Prop}{s:FB}
theorem uZ(hu:A.units<cLine)(hi:UZ its ns)(hm:UZ jts ms)(hl:s.heap.get? l=some {cls:=.type "list",data:=.seq its.toArray n})(hb:s.heap.get? b=some {cls:=.type "list",data:=.seq jts.toArray n2})(h:Q (cM ns ms) s):wpAny (model prog w) A (oneLt' true (.ref l) (.ref b)) Q E s:=by rw[oneLt'_eq];simp only[if_true];refine tz (wpAny_cRoomFor hu (tz (wpAny_callSpecialIfBound?_slot (T:="list") ⟨_,hl,rfl⟩ F.slot_list_lt (VQ F.slot_list_lt ⟨_,hl,rfl⟩ F.entry_list_lt (F.args_list_lt_2 _ _) (Fm l b its.toArray jts.toArray ns ms hi hm n n2 none none #[] #[]) ⟨hl,hb,?_⟩))));exact TQ h
def iq(h:Ux)(vs:List Do)(rs:List (List Int)):Prop:=TY (fun(v:Do)(r:List Int)=>∃a its n,v=.ref a/\UZ its r/\h.get? a=some {cls:=.type "list",data:=.seq its.toArray n}) vs rs
theorem iq.get:∀{vs:List Do}{rs:List (List Int)},iq h vs rs->∀{i:Nat},i<vs.length->∃a its n,vs.getD i TB=.ref a/\UZ its (rs.getD i [])/\h.get? a=some {cls:=.type "list",data:=.seq its.toArray n}
 |_,_,.nil,i,e=>absurd e (by simp)
 |_,_,.cons r t,0,e=>r
 |_,_,.cons r t,i+1,e=>by have:=iq.get t (i:=i) (by simpa using e);simpa using this
theorem iq.mem:∀{vs:List Do}{rs:List (List Int)},iq h vs rs->∀v∈vs,∃a its n,v=.ref a/\h.get? a=some {cls:=.type "list",data:=.seq (Vr its) n}
 |_,_,.cons r t,v,hv=>by
  rcases GT.mp hv with rfl|hv
  ·obtain⟨a,its,n,e,_,g⟩:=r
   exact⟨a,its,n,e,g⟩
  ·exact iq.mem t v hv
theorem iq.mono(k:∀b o,h.get? b=some o->h'.get? b=some o):∀{vs:List Do}{rs:List (List Int)},iq h vs rs->iq h' vs rs
 |_,_,.nil=>.nil
 |_,_,.cons r t=>by obtain⟨a,its,n,e,hi,g⟩:=r;exact .cons ⟨a,its,n,e,hi,k _ _ g⟩ (iq.mono k t)
theorem N2(hu:A.units<cLine)(r:iq s1.heap vs rs)(h2:2<=vs.length):sH prog w A vs (fun i j=>cM (rs.getD i []) (rs.getD j [])) s1:=by
 intro Q q;refine kas_kind (T:=.type "list") h2 (fun v hv=>?_) (by decide) (by decide) (q _ fun i j C hi hj hc=>?_)
 ·obtain⟨a,its,n,rfl,g⟩:=r.mem v hv
  exact(Looks.ld g).andThen .now
 ·obtain⟨a,its,n,e1,i1,g1⟩:=r.get hi
  obtain⟨b,jts,n2,e2,i2,g2⟩:=r.get hj;unfold kas_ask;rw[e1,e2,keyLt'_oneType];exact uZ hu i1 i2 g1 g2 hc
end
end L2
namespace Ck
open PySem L2
abbrev aX(H0 H:Hp)(a:GM):List GM->List (List Int)->Prop:=TY (fun(b:GM)(ns:List Int)=>H b=some (.lst (ns.map V.int))/\H0 b=none/\b≠a)
def cP(H0 H:Hp)(a:GM)(rs:List (List Int)):Prop:=∃bs:List GM,H a=some (.lst (bs.map V.ref))/\aX H0 H a bs rs/\bs.Nodup
theorem cP.nil(h:H a=some (.lst [])):cP H0 H a []:=⟨[],h,.nil,Wd⟩
theorem cP.same(h:cP H0 H a rs)(s:af H H'):cP H0 H' a rs:=let⟨bs,e,r,n⟩:=h;⟨bs,s _ _ e,Paired.mapP r fun _ _⟨p,q⟩=>⟨s _ _ p,q⟩,n⟩
theorem cP.len(h:cP H0 H a rs):∃xs,H a=some (.lst xs)/\xs.length=rs.length:=let⟨bs,e,r,_⟩:=h;⟨_,e,by rw[FS];exact UI r⟩
theorem aX.get:∀{bs:List GM}{rs:List (List Int)},aX H0 H a bs rs->∀{j:Nat}{ns:List Int},rs[j]?=some ns->∃b,bs[j]?=some b/\H b=some (.lst (ns.map V.int))/\H0 b=none/\b≠a
 |_,_,.nil,j,ns,e=>by cases e
 |_,_,.cons r t,0,ns,e=>by
  rw[Vd]at e;cases e;exact⟨_,rfl,r⟩
 |_,_,.cons r t,j+1,ns,e=>aX.get t (j:=j) (by simpa using e)
theorem cP.get{H0 H:Hp}{a:GM}{rs:List (List Int)}(h:cP H0 H a rs){xs:List V}(hx:H a=some (.lst xs)){j:Nat}{ns:List Int}(e:rs[j]?=some ns):∃b,xs[j]?=some (.ref b)/\H b=some (.lst (ns.map V.int))/\H0 b=none/\b≠a:=by
 obtain⟨bs,e1,r,_⟩:=h;rw[hx]at e1;cases e1;obtain⟨b,h1,h2⟩:=r.get e;exact⟨b,by rw[Td,h1];rfl,h2⟩
theorem aX.updC:∀{bs:List GM}{rs:List (List Int)},aX H0 H a bs rs->(∀b∈bs,b≠c)->aX H0 (upd H c o) a bs rs
 |_,_,.nil,_=>.nil
 |_,_,.cons ⟨p,q⟩ t,n=>.cons ⟨(aw (n _ (by simp))).trans p,q⟩ (aX.updC t fun b hb=>n b (by simp[hb]))
theorem aX.all:∀{bs:List GM}{rs:List (List Int)},aX H0 H a bs rs->∀b∈bs,(∃ns:List Int,H b=some (.lst (ns.map V.int)))/\H0 b=none/\b≠a
 |_,_,.nil,b,hb=>by cases hb
 |_,_,.cons ⟨p,q⟩ t,b,hb=>by
  rcases GT.mp hb with rfl|z;·exact⟨⟨_,p⟩,q⟩
  ·exact aX.all t b z
theorem aX.snoc(hb:H b=some (.lst (ns.map V.int)))(h0:H0 b=none)(ne:b≠a):∀{bs:List GM}{rs:List (List Int)},aX H0 H a bs rs->aX H0 H a (bs++[b]) (rs++[ns])
 |_,_,.nil=>.cons ⟨hb,h0,ne⟩ .nil
 |_,_,.cons r t=>.cons r (aX.snoc hb h0 ne t)
end Ck
namespace Ck
open PySem PySem.Spec PyProof.Rows L2
theorem lh(I:Inv X pins σ H s):∀{bs:List GM}{rs:List (List Int)}{vs:List Do},aX H0 H a bs rs->Vals (bs.map V.ref) vs->iq s.heap vs rs
 |_,_,_,.nil,.nil=>.nil
 |_,_,_,.cons r t,.cons rv tv=>by
  cases rv
  obtain⟨z,its,n,r',hl,e⟩:=I.lstM r.1;exact .cons ⟨_,its,n,rfl,intsAre_of r',e⟩ (lh I t tv)
theorem kI:∀{bs:List GM}{rs:List (List Int)},aX H0 H a bs rs->(∀b∈bs,H' b=H b/\b≠a')->aX H0 H' a' bs rs
 |_,_,.nil,_=>.nil
 |_,_,.cons ⟨p,q,_⟩ t,k=>.cons ⟨(k _ (by simp)).1.trans p,q,(k _ (by simp)).2⟩ (kI t fun b hb=>k b (by simp[hb]))
end Ck
namespace L2
open PySem PySem.Spec PyProof.Rows PySem.W Ck
section
variable{X:Cx}
theorem pk(hu:X.A.units+100<cLine):ck X (.builtin "sorted") (fun xs H Q=>∃(p:GM)(H0:Hp)(rs:List (List Int)),xs=[.ref p]/\cP H0 H p rs/\rs.length<64/\∀(q:GM)(ss:List (List Int))(H':Hp),af H H'->H q=none->cP H0 H' q ss->ss.Perm rs->ss.Pairwise (fun a b=>cM b a=false)->(∀(ws zs:List V),H p=some (.lst ws)->H' q=some (.lst zs)->∀v∈zs,v∈ws)->Q (.ref q) H'):=by
 intro pins s σ H xs us Q I r h;obtain⟨p,H0,rs,rfl,⟨bs,hl,ro,nd⟩,h64,q⟩:=h;obtain⟨u,rfl,ru⟩:=vals1 r;cases ru;obtain⟨its,r',pl,hz⟩:=I.list (ao.of hl);have lw:bs.length=rs.length:=UI ro;have li:(bs.map V.ref).length=its.length:=r'.length;rw[FS]at li;have lv:=lh I ro r';refine kc (PY rs) pl.isList (by lia) (fun h6 old h2=>N2 (s1:={s with heap:=h6}) (show X.A.units+1+1<cLine by lia) (lv.mono old) h2) fun g ok ri=>?_;obtain⟨e,he⟩:=sortedAll_at s.heap its (dA its g).toArray;have hb:∀i∈g.toList,i<its.length:=fun i hi=>SX.mp (ok.mem_iff.mp hi);have lg:g.toList.length=its.length:=by rw[ok.length_eq,UM]
 have em:(g.toList.map fun i=>(bs.map V.ref).getD i V.non)=(g.toList.map fun i=>bs.getD i 0).map V.ref:=by
  rw[Uc];refine VM fun i hi=>?_;have:=hb i hi;have l1:i<bs.length:=by lia
  simp[l1]
 have hz2:((g.toList.map fun i=>bs.getD i 0).map V.ref).length<=sizeLine:=by rw[FS,FS,lg];exact sz (by lia)
 have vs2:Vals ((g.toList.map fun i=>bs.getD i 0).map V.ref) (dA its g):=by rw[<-em];exact c5 r' V.non TB g.toList (fun i hi=>by rw[FS,li];exact hb i hi)
 have ro2:aX H0 H p (g.toList.map fun i=>bs.getD i 0) (g.toList.map fun i=>rs.getD i []):=c5 ro 0 [] g.toList (fun i hi=>by rw[li];exact hb i hi);have pm:(g.toList.map fun i=>bs.getD i 0).Perm bs:=fY 0 bs (by rw[li];exact ok);have fr:H (s.heap.objs.size+1)=none:=I.hok.fresh (UP _);refine⟨.ref _,_,I.laid (t':=s.toks) (o:=.lst ((g.toList.map fun i=>bs.getD i 0).map V.ref)) (fun b u e=>sortedAll_old e) (UP _) ⟨hz2,dA its g,e,vs2,by simpa[seqObj]using he⟩,rfl,?_⟩;refine q _ _ _ (af.new (af.refl H) fr _) fr ⟨_,ag,kI ro2 (fun b hb'=>?_),pm.nodup_iff.mpr nd⟩ (fY [] rs (by rw[<-lw,li];exact ok)) ?_ (fun ws zs ew ez v hv=>?_)
 ·obtain⟨⟨ns,hn⟩,_⟩:=ro2.all b hb'
  have:b≠s.heap.objs.size+1:=aF hn fr;exact⟨aw this,this⟩
 ·rw[U4]
  have gs:g.size=its.length:=by rw[<-lg];simp
  refine Tb.mpr fun i j hi hj hij=>?_;have:=ri i j (by lia) (by rw[<-gs];simpa using hj);unfold gA at this;simpa[show i<g.size by simpa using hi,show j<g.size by simpa using hj]using this
 ·rw[hl]at ew
  cases ew
  rw[ag]at ez;cases ez;exact(pm.map V.ref).mem_iff.mp hv
end
theorem nM:∀as bs:List Int,cM as bs=false->cM bs as=false->as=bs
 | [],[],_,_=>rfl
 | [],_::_,h,_=>by cases h
 |_::_,[],_,h=>by cases h
 |a::as,b::bs,h1,h2=>by
  unfold cM at h1 h2;by_cases e:a=b
  ·rw[if_pos e]at h1
   rw[if_pos e.symm]at h2;rw[e,nM as bs h1 h2]
  ·rw[if_neg e]at h1
   rw[if_neg (fun z=>e z.symm)]at h2;have:=of_decide_eq_false h1;have:=of_decide_eq_false h2;lia
end L2
namespace Ck
open PySem L2
noncomputable abbrev hd(r:List Int):Int:=r.getD 0 0
noncomputable def iota(k:Nat):List Int:=(SO k).map fun(i:Nat)=>(i:Int)
structure OV(k:Nat)(rs:List (List Int)):Prop where
 ne:∀r∈rs,r≠[]
 inc:∀r∈rs,r.Pairwise (·<·)
 heads:(rs.map hd).Pairwise (·<·)
 flat:rs.flatten.Perm (iota k)
theorem xj{r:List Int}(h:r≠[]):hd r∈r:=by cases r with
 |nil=>exact absurd rfl h
 |cons a r=>exact SY ..
section
variable{i:Nat}{ls:List (List Int)}(h:OV i ls)
include h
variable{j:Nat}{rs:List (List Int)}(h':OV j rs)
include h'
end
end Ck
namespace L2
open PySem PySem.Spec PyProof.Rows
end L2
namespace Ck
open PySem L2
theorem cP.at{H0 H:Hp}{a:GM}{rs:List (List Int)}{xs:List V}(h:cP H0 H a rs)(hx:H a=some (.lst xs)){j:Nat}{v:V}(e:xs[j]?=some v):∃b ns,v=.ref b/\rs[j]?=some ns/\H b=some (.lst (ns.map V.int))/\H0 b=none/\b≠a:=by
 obtain⟨ys,ey,ly⟩:=h.len;rw[hx]at ey;cases ey;have hj:j<rs.length:=by rw[<-ly];exact(Pi.mp e).1
 obtain⟨b,h1,h2,h3,h4⟩:=h.get hx (Da hj);rw[e]at h1;cases h1;exact⟨b,rs[j],rfl,Da hj,h2,h3,h4⟩
theorem cP.push(h:cP H0 H a rs)(hx:H a=some (.lst xs))(s:af H H')(fb:H b=none)(hb:H' b=some (.lst (ns.map V.int)))(h0:H0 b=none):cP H0 (upd H' a (.lst (xs++[.ref b]))) a (rs++[ns]):=by
 obtain⟨bs,e,r,n⟩:=h;rw[hx]at e;cases e;have ne:b≠a:=fun z=>by rw[z,hx]at fb;cases fb
 have nb:∀c∈bs,c≠b:=fun c hc z=>by obtain⟨⟨ms,e⟩,_⟩:=r.all c hc;rw[z,fb]at e;cases e
 have r1:aX H0 H' a bs rs:=Paired.mapP r fun _ _⟨p,q⟩=>⟨s _ _ p,q⟩;have r2:aX H0 (upd H' a (.lst (bs.map V.ref++[.ref b]))) a bs rs:=r1.updC fun c hc=>(r.all c hc).2.2;refine⟨bs++[b],by rw[ag,SV];rfl,aX.snoc ((aw ne).trans hb) h0 ne r2,?_⟩;refine Vz.mpr ⟨n,by simp,?_⟩;intro c hc d hd;have:d=b:=by simpa using hd
 rw[this];exact nb c hc
def As(H:Hp)(a c:GM):Prop:=c≠a/\∀xs,H a=some (.lst xs)->V.ref c∉xs
def Apart(H:Hp)(p q:GM):Prop:=As H p q/\∀ys c,H q=some (.lst ys)->V.ref c∈ys->As H p c
def u9(a:GM)(H H':Hp):Prop:=∀c,As H a c->∀o,H c=some o->H' c=some o
theorem len_one:∀(ls:List (List Int))(r:List Int),r∈ls->r.length<=ls.flatten.length
 | [],r,h=>by cases h
 |s::ls,r,h=>by
  rw[U3,SW];rcases GT.mp h with rfl|h;·lia
  ·have:=len_one ls r h
   lia
inductive Bt where|leaf|node(l r:Bt)
noncomputable def Bt.size:Bt->Nat
 |.leaf=>0
 |.node l r=>l.size+r.size+1
noncomputable def brk:Bt->List Nat
 |.leaf=>[]
 |.node l r=>40::(brk l++41::brk r)
def pre(n j:Nat):Int:=((SO j).map fun i=>sh i*sh (n-1-i)).sum
def Tw(H:Hp):V->Bt->Prop
 |v,.leaf=>∃p,v=.ref p/\H p=some (.tup [])
 |v,.node l r=>∃p a b,v=.ref p/\H p=some (.tup [a,b])/\Tw H a l/\Tw H b r
end Ck
namespace L2
open PySem PySem.Spec PyProof.Rows
theorem ux(l b:GM)(us vs:Array Do)(n m:Nat)(d:Option GM)(sl:Array (Option Do))(h0:¬(!us.isEmpty&&Builtin.List.listTooLong (us.size+vs.size))=true)(h1:us.size<=sizeLine)(h2:us.size+vs.size<=sizeLine+1):Meets (Builtin.«list.extend» ⟨[.ref l,.ref b],[]⟩) (fun _ R s=>s.heap.get? l=some {cls:=.type "list",dict:=none,data:=.seq us n,slots:=#[]}/\s.heap.get? b=some {cls:=.type "tuple",dict:=d,data:=.seq vs m,slots:=sl}/\ R (.ok (.ret TB)) {s with heap:=s.heap.update l (Te fun x=>x++vs),toks:=s.toks}):=
 .of_wp fun prog w A R s h=>by
  obtain⟨hp,g,dr,tk,os⟩:=s;obtain⟨hl,hb,h⟩:=h;have f2:=AutoSeq1.sub_tuple_tuple;have f3:=Xv;have f4:=AutoSeq1.sub_tuple_list;have f5:=AutoSeq1.sub_list_tuple;have h2':(us++vs).size<=sizeLine+1:=by rw[W6];exact h2
  wp_walk using(Us hl rfl (hz:=h1) (_hz':=h2')),W7 hl,W7 hb;exact⟨_,rfl,h⟩
section
variable{X:Cx}
def De(K:KB):V->List V->Hp->VK->Prop:=fun x vs H Q=>∃l b xs zs,x=.ref l/\vs=[.ref b]/\H l=some (.lst xs)/\bN K H b zs/\xs.length+zs.length<=sizeLine/\Q .non (upd H l (.lst (xs++zs)))
theorem qp:jC X "list.extend" (De X.K):=by
 intro pins s σ H x vs v us Q I rx rv h;obtain⟨l,b,xs,zs,rfl,rfl,hH,hB,hz,q⟩:=h;cases rx;obtain⟨u,rfl,ru⟩:=rv.one;cases ru;obtain⟨z,its,n,r,hl,e⟩:=I.lstM hH;obtain⟨its2,r2,⟨⟨oc,od,dt,os⟩,e2,c2,m2,d2⟩,z2⟩:=I.tuple hB;dsimp only at c2 d2;subst c2 d2;have l1:=r.length;have l2:=r2.length;have hsz:its.toArray.size+its2.toArray.size<=sizeLine:=by rw[Re,Re];lia
 have hlong:¬ (!its.toArray.isEmpty&&Builtin.List.listTooLong (its.toArray.size+its2.toArray.size))=true:=by rw[jR hsz,WT];exact SJ
 refine VQ F.slot_list_extend ⟨_,e,rfl⟩ F.entry_list_extend (F.args_list_extend_2 _ _) (ux l b its.toArray its2.toArray n m2 od os hlong (by rw[Re];lia) (by lia)) ⟨e,e2,?_⟩;refine⟨.non,_,I.lset (its':=its++its2) hH e (by simp) (r.append r2) ?_,rfl,q⟩;rw[SW];lia
variable{X:Cx}{o e:Uo}{es:List Uo}{to:TE}{t:TA}{name:Str}{apos cpos:Pos}{T id:String}{r:V->List V->Hp->VK->Prop}
end
section
variable{X:Cx}
end
theorem qg{lo:Int}{n:Nat}{g:TG}{tt:TT}{te:TE}{σ0:St}{H:Hp}{D:GM}{Q:VK}(Pv:Nat->List V->Hp->Prop)(hz:n<=sizeLine)(h0:Pv 0 [] (upd H D (.lst [])))(hl:∀i ys H',i<=n->Pv i ys H'->ys.length<=i)(hs:∀(i:Nat)(ys:List V)(H':Hp)(R:VK)(R0:Hp->Prop),i<n->Pv i ys H'->(∀v H3,H3 D=some (.lst ys)->Pv (i+1) (ys++[v]) (upd H3 D (.lst (ys++[v])))->R v H3)->(∀H3,Pv (i+1) ys H3->R0 H3)->g (.int (lo+i)) σ0 H' fun σ2 H2=>Ext σ0 σ2/\tt σ2 H2 fun b H3=>if b=true then te σ2 H3 R else R0 H3)(hq:∀ys H',Pv n ys H'->Q (.ref D) H'): eQ (lH lo n) g tt te σ0 D Q H:=by
 refine⟨fun i m ys H'=>m=n-i/\i<=n/\Pv i ys H',⟨n,by simp,KM _,h0⟩,?_⟩;rintro i m ys H' ⟨rfl,hi,p⟩;have ly:=hl i ys H' hi p;by_cases hlt:i<n
 ·refine .inr ⟨hlt,fun x H'' y=>?_⟩
  obtain⟨e,y⟩:=y;subst e y;refine hs i ys _ _ _ hlt p (fun v H3 hD p'=>⟨hD,by lia,n- (i+1),by lia,rfl,hlt,p'⟩) fun H3 p'=>⟨n- (i+1),by lia,rfl,hlt,p'⟩
 ·have e:i=n:=by lia
  subst e;exact .inl ⟨M2 _,hq ys H' p⟩
end L2
namespace Ck
open PySem L2
theorem Sy{b:Bool}{A B:Prop}(h:b=false)(x:A):if(if true=true then !b else b)=true then A else B:=by subst h;exact x
theorem Ni{b:Bool}{A B:Prop}(h:b=true)(x:B):if(if true=true then !b else b)=true then A else B:=by subst h;exact x
theorem eqT{b:Bool}{A B:Prop}(h:b=true)(x:A):if(if false=true then !b else b)=true then A else B:=by subst h;exact x
theorem bo.unit(ne:a≠b)(ha:bN K H a xs)(hb:bN K H b []):bo K H (n+1) (.ref a) (.ref b) (decide (xs=[])):=by
 have h:=bo.tup (n:=n) (e:=fun _=>true) ne ha hb (fun j x y _ hy=>by cases hy);have e:((SO (min xs.length ([]:List V).length)).all (fun _=>true)&&xs.length== ([]:List V).length)=decide (xs=[]):=by cases xs with
  |nil=>rfl
  |cons x xs=>simp
 rw[e]at h;exact h
theorem bo.void(ne:a≠b)(ha:ao K H a xs)(hb:ao K H b []):bo K H (n+1) (.ref a) (.ref b) (decide (xs=[])):=by cases xs with
 |nil=>exact bo.lstT ne ha hb rfl (fun j x y hx _=>by cases hx)
 |cons x xs=>exact bo.lstN ne ha hb (by simp)
noncomputable def SD(ts:List Bt):Nat:=(ts.map Bt.size).sum
end Ck
namespace Lg
open PySem PyProof.Rows
section
variable{prog:SK}{w:Tc}{A:Tf}{E:Do->FB->Prop}{s:FB}
end
noncomputable abbrev key(p:Keyed):Int:=numOf p.1
variable{a b out:Array Keyed}{ia ib:Nat}
section
variable{prog:SK}{w:Tc}{A:Tf}{E:Do->FB->Prop}{s:FB}
end
variable{na nb:Nat}
section
variable{prog:SK}{w:Tc}{A:Tf}{E:Do->FB->Prop}{s:FB}
end
section
variable{prog:SK}{w:Tc}{A:Tf}{E:Do->FB->Prop}{s:FB}
end
def SF(xs:Array Keyed)(lo k:Nat):Prop:=∀i j,lo<=i->i<=j->j<lo+k->K xs i<=K xs j
section
variable{prog:SK}{w:Tc}{A:Tf}{E:Do->FB->Prop}{s:FB}{a₀:Array Keyed}{P:Array (Nat×Nat×Nat)}
end
section
variable{prog:SK}{w:Tc}{A:Tf}{E:Do->FB->Prop}{s:FB}{a₀:Array Keyed}{P:Array (Nat×Nat×Nat)}
end
section
variable{prog:SK}{w:Tc}{A:Tf}{E:Do->FB->Prop}{s:FB}{a₀:Array Keyed}
end
section
variable{prog:SK}{w:Tc}{A:Tf}{E:Do->FB->Prop}{s:FB}
end
end Lg
namespace L2
open PySem PySem.Spec PyProof.Rows
section
variable{X:Cx}{tg:Uo}
end
section
variable{X:Cx}{a b c d:Uo}{ta tb tc td:TE}{pos:Pos}
def Pk(r1 r2 r3:R2)(ta tb tc td:TE):TE:=fun σ H Q=>ta σ H fun x H1=>tb σ H1 fun y H2=>r1 x y H2 fun z H3=>∃k,z=.bl k/\ (if k=true then tc σ H3 fun w' H4=>r2 y w' H4 fun z' H5=>∃k',z'=.bl k'/\(if k'=true then td σ H5 fun v' H6=>r3 w' v' H6 Q else Q (.bl false) H5)else Q (.bl false) H3)
theorem Ko(h1:bX X (compareOp o1) r1)(h2:bX X (compareOp o2) r2)(h3:bX X (compareOp o3) r3)(ha:PE X a ta)(hb:PE X b tb)(hc:PE X c tc)(hd:PE X d td)(hm:lastMarks [o1,o2,o3] [b,c,d]=false:=by with_unfolding_all rfl):PT X (.Compare a [o1,o2,o3] [b,c,d] pos) (DG (Pk r1 r2 r3 ta tb tc td)):=by
 intro pins s σ H Q I h;refine isTrue_chain (aD (ha pins s σ H _ I h) fun v s1⟨x,H1,I1,x1,q1⟩=>test_link (aD (hb pins s1 σ H1 _ I1 q1) fun u s2⟨y,H2,I2,x2,q2⟩=>aD (h1 pins s2 σ H2 x y v u _ I2 x1 x2 q2) fun e s3⟨z,H3,I3,x3,k,ek,q3⟩=>?_)) hm;subst ek;cases x3;refine TQ ?_;cases k with
 |false=>
  obtain⟨k',e',q'⟩:=q3;cases e';exact ite_ff ⟨H3,I3,q'⟩
 |true=>
  refine ite_tt (test_link (aD (hc pins s3 σ H3 _ I3 q3) fun w' s4⟨z',H4,I4,x4,q4⟩=>aD (h2 pins s4 σ H4 y z' u w' _ I4 x2 x4 q4) fun d' s5⟨z2,H5,I5,x5,k2,e2,q5⟩=>?_));subst e2;cases x5;refine TQ ?_;cases k2 with
  |false=>
   obtain⟨k',e',q'⟩:=q5;cases e';exact ite_ff ⟨H5,I5,q'⟩
  |true=>
   refine ite_tt (test_last (aD (hd pins s5 σ H5 _ I5 q5) fun w2 s6⟨z3,H6,I6,x6,q6⟩=>aD (h3 pins s6 σ H6 z' z3 w' w2 _ I6 x4 x6 q6) fun d2 s7⟨z4,H7,I7,x7,k3,e3,q7⟩=>?_));subst e3;cases x7;exact TQ ⟨H7,I7,q7⟩
end
end L2
namespace Ck
open PySem L2
theorem bo.prs(ne:a≠b)(ha:eE H a ps)(hb:eE H b qs):bo K H 2 (.ref a) (.ref b) (decide (ps=qs)):=by
 obtain⟨xs,ea,lx,px⟩:=ha.len;obtain⟨ys,eb,ly,py⟩:=hb.len;by_cases hl:ps.length=qs.length
 ·have h:=bo.lst (K:=K) (n:=1) (e:=fun j=>decide (ps.getD j (0,0)=qs.getD j (0,0))) ne (ao.of ea) (ao.of eb) (by lia) (fun j x y hx hy=>by
   obtain⟨p,t,hp,rfl,ht⟩:=px.get hx;obtain⟨r,u,hr,rfl,hu⟩:=py.get hy;rw[FM,FM,hp,hr];show bo K H 1 _ _ (decide (p=r));by_cases e:t=u
   ·subst e
    have:p=r:=by rw[ht]at hu;injection hu with hu;injection hu with hu;injection hu with h1 h2;injection h2 with h2 _;injection h1 with h1;injection h2 with h2;exact XM h1 h2
    rw[decide_eq_true this];exact bo.same
   ·have:=bo.two (K:=K) (n:=0) e ht hu
    have e2:decide (p=r)=(decide (p.1=r.1)&&decide (p.2=r.2)):=by rw[TH,On,decide_eq_true_iff,decide_eq_true_iff,decide_eq_true_iff];exact⟨fun z=>by rw[z];exact⟨rfl,rfl⟩,fun z=>XM z.1 z.2⟩
    rw[e2];exact this)
  have e:(SO xs.length).all (fun j=>decide (ps.getD j (0,0)=qs.getD j (0,0)))=decide (ps=qs):=by
   rw[TH,SS,decide_eq_true_iff];constructor
   ·intro h
    refine VI hl fun k h1 h2=>?_;have:=of_decide_eq_true (h k (SX.mpr (by lia)));rw[FM,FM,Da h1,Da h2]at this;exact this
   ·intro h k _
    rw[h];exact decide_eq_true rfl
  rw[e]at h;exact h
 ·have:decide (ps=qs)=false:=decide_eq_false fun z=>hl (by rw[z])
  rw[this];exact bo.lstN ne (ao.of ea) (ao.of eb) (by lia)
noncomputable def bU:List Pair->List Int
 | []=>[]
 |p::ps=>p.1::p.2::bU ps
theorem iC:∀ps:List Pair,(bU ps).length=2*ps.length
 | []=>rfl
 |p::ps=>by show(bU ps).length+1+1=2*(ps.length+1);have:=iC ps;lia
theorem mU:∀ps qs:List Pair,bU (ps++qs)=bU ps++bU qs
 | [],qs=>rfl
 |p::ps,qs=>by show p.1::p.2::bU (ps++qs)=_;rw[mU ps qs];rfl
theorem m3:∀{ps:List Pair},x∈bU ps↔∃p∈ps,x=p.1\/x=p.2
 | []=>by simp[bU]
 |p::ps=>by
  show x∈p.1::p.2::bU ps↔_;rw[GT,GT,m3 (ps:=ps)];constructor
  ·rintro(h|h| ⟨r,hr,h⟩)
   ·exact⟨p,SY ..,.inl h⟩
   ·exact⟨p,SY ..,.inr h⟩
   ·exact⟨r,SH _ hr,h⟩
  ·rintro⟨r,hr,h⟩
   rcases GT.mp hr with rfl|hr
   ·rcases h with h|h
    ·exact .inl h
    ·exact .inr (.inl h)
   ·exact .inr (.inr ⟨r,hr,h⟩)
noncomputable abbrev fO(ps:List Pair)(k:Nat):Int:=(ps.getD k (0,0)).1
noncomputable abbrev Ib(ps:List Pair)(k:Nat):Int:=(ps.getD k (0,0)).2
noncomputable def vg(ps:List Pair)(k:Nat):Bool:=decide (fO ps k<Ib ps k)&&(decide (k=0)||decide (fO ps (k-1)<fO ps k))
noncomputable def gp(p r:Pair):Bool:=decide (p.1<r.1)&&(decide (r.1<p.2)&&decide (p.2<r.2))
noncomputable def cW(ps:List Pair):Bool:=ps.any fun p=>ps.any (gp p)
def dU(ps:List Pair):Bool:=(SO ps.length).all (vg ps)&&(cc (bU ps)&&!cW ps)
theorem qo:(SO ps.length).all (vg ps)=true↔∀k,k<ps.length->fO ps k<Ib ps k/\(k=0\/fO ps (k-1)<fO ps k):=by
 rw[SS];constructor
 ·intro h k hk
  have:=h k (SX.mpr hk);unfold vg at this;simpa using this
 ·intro h k hk
  have:=h k (SX.mp hk);unfold vg;simpa using this
theorem xq(h:∀k,k<ps.length->k=0\/fO ps (k-1)<fO ps k):∀(j i:Nat),i<j->j<ps.length->fO ps i<fO ps j
 |0,i,hi,_=>absurd hi (UC _)
 |j+1,i,hi,hj=>by
  have h1:=(h (j+1) hj).resolve_left (by lia);rw[VW]at h1;by_cases e:i=j;·subst e;exact h1
  ·exact Int.lt_trans (xq h j i (by lia) (by lia)) h1
theorem wa{ps:List Pair}{k:Nat}(h:k<ps.length):ps.getD k (0,0)∈ps:=by rw[FM,Da h];exact Vi h
theorem xi{ps:List Pair}{p:Pair}(h:p∈ps):∃k,k<ps.length/\ps.getD k (0,0)=p:=by obtain⟨k,hk,e⟩:=VL h;exact⟨k,hk,by rw[FM,Da hk];exact e⟩
theorem vN(h:(bU ps).Nodup):ps.Pairwise fun p q=>p.1≠q.1:=by induction ps with
 |nil=>exact .nil
 |cons p ps ih=> have h':(p.1::p.2::bU ps).Nodup:=h;rw[T8,T8]at h';refine .cons (fun q hq e=>h'.1 ?_) (ih h'.2.2);rw[e];exact SH _ (m3.mpr ⟨q,hq,.inl rfl⟩)
theorem vS(n:Nat):(e7 n).Nodup:=(lD n).imp fun h=>Int.ne_of_lt h
theorem iu(hp:qs.Perm ps)(hs:qs.Pairwise cT)(hE:cc (bU ps)=true):decide (ps=qs)=true↔∀k,k<ps.length->k=0\/fO ps (k-1)<fO ps k:=by
 have nd:(bU ps).Nodup:=((gf _).mp hE).nodup_iff.mpr (vS _);have ne:=vN nd;rw[decide_eq_true_iff];constructor
 ·intro e k hk
  rw[<-e]at hs;by_cases h0:k=0;·exact .inl h0
  refine .inr ?_;have h1:=Tb.mp hs (k-1) k (by lia) hk (by lia);have h2:=Tb.mp ne (k-1) k (by lia) hk (by lia);have e1:ps.getD (k-1) (0,0)=ps[k-1]:=by rw[FM,Da (by lia)];rfl
  have e2:ps.getD k (0,0)=ps[k]:=by rw[FM,Da hk];rfl
  unfold fO;rw[e1,e2];unfold cT at h1;lia
 ·intro h
  refine UD (le:=cT) (fun a b _ _ h1 h2=>?_) ?_ hs hp.symm
  ·unfold cT at h1 h2
   exact XM (by lia) (by lia)
  ·refine Tb.mpr fun i j hi hj hij=>?_
   have:=xq h j i hij hj;unfold fO at this;rw[FM,FM,Da hi,Da hj]at this;exact .inl this
theorem JC{ps:List Pair}:(ps.all fun p=>decide (p.1<p.2))=true↔∀k,k<ps.length->fO ps k<Ib ps k:=by
 rw[SS];constructor
 ·intro h k hk
  exact of_decide_eq_true (h _ (wa hk))
 ·intro h p hp
  obtain⟨k,hk,rfl⟩:=xi hp;exact decide_eq_true (h k hk)
theorem wu(h:cc (bU ps)=false):dU ps=false:=by unfold dU;rw[h];simp
theorem u0(hp:qs.Perm ps)(hs:qs.Pairwise cT)(hE:cc (bU ps)=true)(h:ps≠qs):dU ps=false:=by cases e:dU ps with
 |false=>rfl
 |true=> unfold dU at e;rw[On]at e;exact absurd (of_decide_eq_true ((iu hp hs hE).mpr fun k hk=>(qo.mp e.1 k hk).2)) h
theorem qk(hp:qs.Perm ps)(hs:qs.Pairwise cT)(hE:cc (bU ps)=true)(h:ps=qs):dU ps=((ps.all fun p=>decide (p.1<p.2))&&!cW ps):=by
 have a:=(iu hp hs hE).mp (decide_eq_true h);have b:(SO ps.length).all (vg ps)=ps.all fun p=>decide (p.1<p.2):=by rw[TH,qo,JC];exact⟨fun h k hk=>(h k hk).1,fun h k hk=>⟨h k hk,a k hk⟩⟩
 unfold dU;rw[b,hE,TN]
theorem uS:cW ps=true↔∃p∈ps,∃r∈ps,p.1<r.1/\r.1<p.2/\p.2<r.2:=by
 unfold cW;rw[UF];constructor
 ·rintro⟨p,hp,h⟩
  obtain⟨r,hr,h⟩:=UF.mp h;unfold gp at h;exact⟨p,hp,r,hr,by simpa using h⟩
 ·rintro⟨p,hp,r,hr,h⟩
  exact⟨p,hp,UF.mpr ⟨r,hr,by unfold gp;simpa using h⟩⟩
end Ck
namespace L2
open PySem PySem.Spec PyProof.Rows
section
variable{κ:Type}[DecidableEq κ]
noncomputable def cO(kvs:List (κ×V))(k:κ):Option V:=(kvs.find? fun kv=>decide (kv.1=k)).map (·.2)
noncomputable def putK(kvs:List (κ×V))(k:κ)(v:V):List (κ×V):=if(kvs.any fun kv=>decide (kv.1=k))=true then kvs.map (fun kv=>if kv.1=k then(kv.1,v)else kv)else kvs++[(k,v)]
theorem fI{p:κ×V}{r:List (κ×V)}{k:κ}(e:p.1=k):cO (p::r) k=some p.2:=by simp[cO,U6,e]
theorem fG{p:κ×V}{r:List (κ×V)}{k:κ}(e:¬p.1=k):cO (p::r) k=cO r k:=by simp[cO,U6,e]
theorem gW(k:κ):∀kvs:List (κ×V),(kvs.any fun kv=>decide (kv.1=k))=(cO kvs k).isSome
 | []=>rfl
 |p::r=>by
  rw[UA];by_cases e:p.1=k;·simp only[fI e,decide_eq_true e,Bool.true_or,Option.isSome_some]
  ·rw[fG e,decide_eq_false e,Bool.false_or];exact gW k r
theorem gz(kvs:List (κ×V))(k:κ)(v:V):(putK kvs k v).length<=kvs.length+1:=by
 unfold putK;split;·rw[FS];lia
 ·rw[SW,Tu,Vs];lia
theorem A1{kvs:List (κ×V)}{k:κ}(v:V)(h:cO kvs k=none):putK kvs k v=kvs++[(k,v)]:=by unfold putK;rw[gW,h];exact if_neg (by decide)
theorem df.isSome_eq(r:df o u):o.isSome=u.isSome:=by cases o with
 |none=>cases u with
  |none=>rfl
  |some _=>exact(show False from r).elim
 |some _=>cases u with
  |none=>exact(show False from r).elim
  |some _=>rfl
theorem KV.val{kvs:List (κ×V)}{vs:List (κ×Do)}(r:KV kvs vs)(k:κ):df (cO kvs k) (valueAt vs k):=by unfold KV at r;induction r with
 |nil=>exact UT
 |@cons p q ps qs h t ih=>
  obtain⟨h1,h2⟩:=h;by_cases e:p.1=k
  ·have e':q.1=k:=h1.symm.trans e
   have b:valueAt (q::qs) k=some q.2:=by simp[valueAt,U6,e']
   rw[fI e,b];exact h2
  ·have e':¬q.1=k:=fun z=>e (h1.trans z)
   have b:valueAt (q::qs) k=valueAt qs k:=by simp[valueAt,U6,e']
   rw[fG e,b];exact ih
theorem KV.any(r:KV kvs vs)(k:κ):(kvs.any fun kv=>decide (kv.1=k))=vs.any fun kv=>decide (kv.1=k):=by unfold KV at r;induction r with
 |nil=>rfl
 |cons h t ih=>rw[UA,UA,ih,h.1]
theorem KV.repl(r:KV kvs vs)(k:κ)(ry:RelV y u):KV (kvs.map fun kv=>if kv.1=k then(kv.1,y)else kv) (vs.map fun kv=>if kv.1=k then(kv.1,u)else kv):=by unfold KV at r|-;induction r with
 |nil=>exact .nil
 |@cons p q ps qs h t ih=>
  rw[SQ,SQ];refine .cons ?_ ih;obtain⟨h1,h2⟩:=h;by_cases e:p.1=k;·rw[if_pos e,if_pos (h1.symm.trans e)];exact⟨h1,ry⟩
  ·rw[if_neg e,if_neg (fun z=>e (h1.trans z))];exact⟨h1,h2⟩
theorem KV.put(r:KV kvs vs)(k:κ)(ry:RelV y u):KV (putK kvs k y) (stored vs k u):=by
 unfold putK stored;rw[r.any k];by_cases e:(vs.any fun kv=>decide (kv.1=k))=true;·rw[if_pos e,if_pos e];exact r.repl k ry
 ·rw[if_neg e,if_neg e];exact Paired.snoc r ⟨rfl,ry⟩
theorem KV.length(r:KV kvs vs):kvs.length=vs.length:=UI r
end
theorem nI(r:RelV (kV k) u):(bJ P w).is k u=true:=by cases k with
 |inl i=>obtain⟨t,e⟩:=(show∃t,u=Wx i t from r);subst e;exact qi P w i t
 |inr x=>obtain⟨t,e⟩:=(show∃t,u=Xw x t from r);subst e;exact pT P w x t
theorem mP:∀{ks:List Key}{us:List Do},Vals (ks.map kV) us->ItemsAre (bJ P w) ks us
 | [],_,r=>by rw[VP]at r;cases r;exact .nil
 |k::ks,_,r=>by rw[SQ]at r;cases r with
  |cons h t=>exact .cons (nI h) (mP t)
abbrev KT(H:Hp):List (List Key×V)->List (List Key×GM×Do)->Prop:=TY fun p q=>p.1=q.1/\H q.2.1=some (.tup (p.1.map kV))/\RelV p.2 q.2.2
theorem KT.val{H:Hp}{kvs:List (List Key×V)}{xs:List (List Key×GM×Do)}(r:KT H kvs xs)(k:List Key):df (cO kvs k) ((atKey xs k).map (·.2)):=by induction r with
 |nil=>exact UT
 |@cons p q ps qs h t ih=>
  obtain⟨h1,_,h2⟩:=h;by_cases e:p.1=k
  ·have e':q.1=k:=h1.symm.trans e
   have b:atKey (q::qs) k=some q.2:=by simp[atKey,U6,e']
   rw[fI e,b];exact h2
  ·have e':¬q.1=k:=fun z=>e (h1.trans z)
   have b:atKey (q::qs) k=atKey qs k:=by simp[atKey,U6,e']
   rw[fG e,b];exact ih
theorem KT.repl(r:KT H kvs xs)(k:List Key)(ry:RelV y u):KT H (kvs.map fun kv=>if kv.1=k then(kv.1,y)else kv) (xs.map (putAt k u)):=by induction r with
 |nil=>exact .nil
 |@cons p q ps qs h t ih=>
  rw[SQ,SQ];refine .cons ?_ ih;obtain⟨h1,h2,h3⟩:=h;unfold putAt;by_cases e:p.1=k;·rw[if_pos e,if_pos (h1.symm.trans e)];exact⟨h1,h2,ry⟩
  ·rw[if_neg e,if_neg (fun z=>e (h1.trans z))];exact⟨h1,h2,h3⟩
theorem KT.put(r:KT H kvs xs)(k:List Key)(hb:H b=some (.tup (k.map kV)))(ry:RelV y u):KT H (putK kvs k y) (storedH xs k b u):=by
 have e:(kvs.any fun kv=>decide (kv.1=k))=(atKey xs k).isSome:=by rw[gW,(r.val k).isSome_eq,Option.isSome_map]
 unfold putK storedH;rw[e];by_cases q:(atKey xs k).isSome=true;·rw[if_pos q,if_pos q];exact r.repl k ry
 ·rw[if_neg q,if_neg q];exact Paired.snoc r ⟨rfl,hb,ry⟩
theorem KT.keeps(r:KT H kvs xs)(ht:∀b ys,H b=some (.tup ys)->H' b=some (.tup ys)):KT H' kvs xs:=Paired.mapP r fun _ _ z=>⟨z.1,ht _ _ z.2.1,z.2.2⟩
section
variable{P:SK}{w:Tc}{H:Hp}{h:Ux}{a:GM}
theorem BB(ok:bW P w H h)(e:Rd H a u):aW P w H h a u:=e.ok ok
theorem sA(ok:bW P w H h)(e:Rd H a (.dK kvs)):kvs.length<=sizeLine/\(a==sysModules)=false/\∃vs,KV kvs vs/\h.DictOf (bJ P w) a vs:=show aW P w H h a (.dK kvs)from BB ok e
theorem sS(ok:bW P w H h)(e:H a=some (.dK kvs)):kvs.length<=sizeLine/\(a==sysModules)=false/\∃vs,KV kvs vs/\h.DictOf (bJ P w) a vs:=sA ok (.inl e)
theorem nP(ok:bW P w H h)(e:H a=some (.tup (ks.map kV))):(tupleKind (bJ P w)).is h ks a:=by obtain⟨_,its,r,o,h1,h2,n,h3⟩:=(show aW P w H h a (.tup (ks.map kV))from ok a _ e);exact⟨o,its.toArray,n,h1,h2,h3,by simpa using mP r⟩
theorem ur(ok:bW P w H h)(e:Rd H a (.dT kvs)):kvs.length<=sizeLine/\(a==sysModules)=false/\∃xs,KT H kvs xs/\h.DictOfH (tupleKind (bJ P w)) a xs:=by
 obtain⟨z,y,xs,r,o,es,ep,h1,h2,h3,h4,h5⟩:=(show aW P w H h a (.dT kvs)from BB ok e);refine⟨z,y,xs,r,o,es,ep,h1,h2,h3,h4,fun x hx=>?_,h5⟩;have all:∀{l:List (List Key×V)}{m:List (List Key×GM×Do)},KT H l m->∀x∈m,(tupleKind (bJ P w)).is h x.1 x.2.1:=by intro l m q;induction q with
  |nil=>intro x hx;exact nomatch hx
  |@cons p q ps qs hq t ih=>
   intro x hx;rcases GT.mp hx with e|hx
   ·subst e
    exact nP ok (by rw[<-hq.1];exact hq.2.1)
   ·exact ih x hx
 exact all r x hx
theorem OG(ok:bW P w H h)(e:H a=some (.dT kvs)):kvs.length<=sizeLine/\(a==sysModules)=false/\∃xs,KT H kvs xs/\h.DictOfH (tupleKind (bJ P w)) a xs:=ur ok (.inl e)
end
def fL(H:Hp)(a:GM)(y:V)(r:Option V):Prop:= (∃kvs k,Rd H a (.dK kvs)/\y=kV k/\r=cO kvs k)\/∃kvs k b,Rd H a (.dT kvs)/\y=.ref b/\H b=some (.tup (k.map kV))/\r=cO kvs k
def lP(H:Hp)(a:GM)(y v:V)(H':Hp):Prop:= (∃kvs k,H a=some (.dK kvs)/\y=kV k/\kvs.length<sizeLine/\H'=upd H a (.dK (putK kvs k v)))\/ ∃kvs k b,H a=some (.dT kvs)/\y=.ref b/\H b=some (.tup (k.map kV))/\kvs.length<sizeLine/\H'=upd H a (.dT (putK kvs k v))
theorem fL.k{H:Hp}{a:GM}{kvs:List (Key×V)}{k:Key}(e:H a=some (.dK kvs)):fL H a (kV k) (cO kvs k):=.inl ⟨kvs,k,.inl e,rfl,rfl⟩
theorem lP.k{H:Hp}{a:GM}{kvs:List (Key×V)}{k:Key}{v:V}(e:H a=some (.dK kvs))(hl:kvs.length<sizeLine):lP H a (kV k) v (upd H a (.dK (putK kvs k v))):=.inl ⟨kvs,k,e,rfl,hl,rfl⟩
section
variable{X:Cx}{pins:List (GM×Obj)}{σ:St}{H:Hp}{s:FB}{a:GM}{y v:V}{u r:Do}{o:Option V}{A:Tf}{E:Do->FB->Prop}
theorem Inv.big(I:Inv X pins σ H s):sysModules<s.heap.objs.size:=by have h:mainGlobals<s.heap.objs.size:=(I.mod.glob.keeps I.bk).lt;exact Nat.lt_trans (by decide) h
theorem wW(hu:A.units+1<cLine)(I:Inv X pins σ H s)(g:fL H a y (some v))(ry:RelV y u)(h:∀w' s',Inv X pins σ H s'->RelV v w'->Q w' s'):wpAny (model X.prog X.w) A (getItem (.ref a) u) Q E s:=by
 rcases g with⟨kvs,k,e,ey,l⟩| ⟨kvs,k,b,e,ey,eb,l⟩
 ·subst ey
  obtain⟨z,hd,vs,rel,dd⟩:=sA I.hok e;obtain⟨w',hw,rw'⟩:=df.some_of (v:=v) (o:=valueAt vs k) (by rw[l];exact rel.val k);exact wpAny_getItem_of (nI ry) dd.mapOf hw (h w' _ (I.tok _) rw')
 ·subst ey
  cases(show u=PP b from ry)
  obtain⟨z,hd,xs,rel,dd⟩:=ur I.hok e;obtain⟨w',hw,rw'⟩:=df.some_of (v:=v) (o:=(atKey xs k).map (·.2)) (by rw[l];exact rel.val k);obtain⟨p,hp,hp2⟩:=V4.mp hw;refine wpAny_getItem_heap (tupleKind_room_in1 hu) (nP I.hok eb) dd hp ?_;rw[hp2];exact h w' _ (I.tok _) rw'
theorem lS(I:Inv X pins σ H s)(mu:vF (H a))(hs:Vo a s.heap h')(he:∃q,h'.get? a=some q)(new:aW X.prog X.w (upd H a ob) h' a ob):Inv X pins σ (upd H a ob) {s with heap:=h',toks:=t'}:= I.write (x:=a) (e:=a) mu (.inl rfl) (fun b q hb z=>(hs.2 b hb).trans z) he new
theorem vV(z:kvs.length<=sizeLine)(hd:(a==sysModules)=false)(rel:KV kvs vs)(dd:h'.DictOf (bJ P w) a vs):aW P w H' h' a (.dK kvs):=⟨z,hd,vs,rel,dd⟩
theorem vh(hu:A.units+1<cLine)(I:Inv X pins σ H s)(g:lP H a y v H')(ry:RelV y u)(rv:RelV v r)(h:∀s',Inv X pins σ H' s'->Q () s'):wpAny (model X.prog X.w) A (setItem (.ref a) u r) Q E s:=by
 rcases g with⟨kvs,k,e,ey,l,eH⟩| ⟨kvs,k,b,e,ey,eb,l,eH⟩
 ·subst ey eH
  obtain⟨z,hd,vs,rel,dd⟩:=sS I.hok e;have hz:vs.length<=sizeLine:=by rw[<-rel.length];exact z
  have hl:(putK kvs k v).length<=sizeLine:=by have:=gz kvs k v;lia
  refine wpAny_setItem_pairs (hsz:=hz) (nI ry) dd fun h' dd' hs=>h _ ?_;have he:∃q,h'.get? a=some q:=let⟨q,_,_,hq,_⟩:=dd'; ⟨q,hq⟩;exact lS I (by rw[e];exact UT) hs he (vV hl hd (rel.put k rv) dd')
 ·subst ey eH
  cases(show u=PP b from ry)
  obtain⟨z,hd,xs,rel,dd⟩:=OG I.hok e;have hz:xs.length<=sizeLine:=by rw[<-UI rel];exact z
  have hl:(putK kvs k v).length<=sizeLine:=by have:=gz kvs k v;lia
  refine wpAny_setItem_heap (hsz:=hz) (tupleKind_room_in1 hu) (nP I.hok eb) dd fun h' dd' hs=>h _ ?_;obtain⟨q,es,ep,hq,h2,h3,h4,_,h5⟩:=dd';refine lS I (by rw[e];exact UT) hs ⟨q,hq⟩ ⟨hl,hd,_,(rel.put k eb rv).keeps fun c ys ec=>?_,q,es,ep,hq,h2,h3,h4,h5⟩;rw[aw (ky ec e (fun z=>nomatch z))];exact ec
end
section
variable{X:Cx}{pins:List (GM×Obj)}{σ:St}{H:Hp}{s:FB}{a:GM}{kvs:List (Key×V)}{k:Key}{u:Do}{A:Tf}{E:Do->FB->Prop}
end
def G6(i:Uo):Prop:=∀ov iv,subscripted i false ov iv=operate [ov,iv] (getItem ov iv)
theorem Ff{prog:SK}{w:Tc}{A:Tf}{E:Do->FB->Prop}{s:FB}{env:Env}{value slice:Uo}{pos:Pos}{T id:String}{Q:Do->FB->Prop}(hl:typeLookup (.type T) "__getitem__" =pure (some (.builtin id)))(hs:G6 slice)(h:wpAny (model prog w) A (eval value env) (fun o s₁=>wpAny (model prog w) A (eval slice env) (fun i s₂=>s₂.TypeIs o T/\wpAny (model prog w) A (getItem o i) Q E s₂) E s₁) E s): wpAny (model prog w) A (eval (.Subscript value slice pos) env) Q E s:=by
 refine Subscript_ (TZ h (fun o s₁ h₁=>TZ h₁ (fun i s₂ h₂=>?_) fun _ _ x=>x) fun _ _ x=>x);obtain⟨hT,h₂⟩:=h₂;unfold subscriptTail;refine tz ?_;rw[getitemInPython_of_ne hT.not_modules];refine tz (Vt hT hl ?_);have fin:wpAny (model prog w) A (subscripted slice false o i) (fun r s₃=>wpAny (model prog w) A (letTemporaryGo value o r>>=fun _=>pure r) Q E s₃) E s₂:=by rw[hs o i];exact wpAny_operating (TZ h₂ (fun r s₃ h₃=>tz (wpAny_letTemporaryGo (Gc h₃))) fun _ _ x=>x)
 first
  |exact Gc (tz fin)
  |exact tz (Gc (tz fin))
  |exact tz fin
theorem qj(I:Inv X pins σ H s)(g:fL H a y o):s.TypeIs (.ref a) "dict":=by
 rcases g with⟨kvs,k,e,_,_⟩| ⟨kvs,k,b,e,_,_,_⟩
 ·obtain⟨_,_,vs,_,dd⟩:=sA I.hok e
  exact dd.typeIs
 ·obtain⟨_,_,xs,_,dd⟩:=ur I.hok e
  exact dd.typeIs
def NS(td ty:TE):TE:=fun σ H Q=>td σ H fun x H1=>ty σ H1 fun y H2=>∃a v,x=.ref a/\fL H2 a y (some v)/\Q v H2
def Bn(td ty tv:TE):TS:=fun D σ H=>tv σ H fun v H1=>td σ H1 fun x H2=>ty σ H2 fun y H3=>∃a H4,x=.ref a/\lP H3 a y v H4/\D.nx σ H4
section
variable{X:Cx}{o i e value:Uo}{pos pos' tpos:Pos}{td ty tv:TE}
theorem jx(hu:X.A.units+1<cLine)(ho:PE X o td)(hi:PE X i ty)(hs:G6 i):PE X (.Subscript o i pos) (NS td ty):=by intro pins s σ H Q I h;refine Ff PySem.F.slot_dict_getitem.lookup hs (aD (ho pins s σ H _ I h) fun u s1⟨x,H1,I1,rx,q1⟩=>aD (hi pins s1 σ H1 _ I1 q1) fun iv s2 hZ=>?_);obtain⟨y,H2,I2,ry,a,v,ex,g,q2⟩:=hZ;subst ex;obtain rfl:u=PP a:=rx;exact⟨qj I2 g,wW hu I2 g ry fun w' s3 I3 rw'=>⟨v,H2,I3,rw',q2⟩⟩
theorem Ft(hu:X.A.units+1<cLine)(ho:PE X o td)(hi:PE X i ty)(hv:PE X value tv)(hs:swapsWith value (some (.Subscript o i pos')) pos.line X.env=pure false):PS X (.Assign [.Subscript o i pos'] value pos) (Bn td ty tv):=by intro pins s σ H D I h;refine wpAny_Assign_Subscript (aD (hv pins s σ H _ I h) fun r s1⟨v,H1,I1,rv,q1⟩=>aD (ho pins s1 σ H1 _ I1 q1) fun u s2⟨x,H2,I2,rx,q2⟩=>aD (hi pins s2 σ H2 _ I2 q2) fun iv s3 hZ=>?_) hs;obtain⟨y,H3,I3,ry,a,H4,ex,g,q3⟩:=hZ;subst ex;obtain rfl:u=PP a:=rx;exact vh hu I3 g ry rv fun s4 I4=>⟨σ,H4,I4,q3⟩
end
theorem yo(h:Ux)(hb:sysModules<h.objs.size):aW P w H (h.push {cls:=.type "dict",data:=.dict #[]}) h.objs.size (.dK []):= ⟨KM _,beq_eq_false_iff_ne.mpr (T6 (SM hb)),[],.nil,Heap.DictOf.new h⟩
section
variable{X:Cx}{pos:Pos}
end
def iA:List (TE×TE)->St->Hp->(List (V×V)->Hp->Prop)->Prop
 | [],_,H,Q=>Q [] H
 | (tk,tv)::r,σ,H,Q=>tk σ H fun x H1=>tv σ H1 fun y H2=>iA r σ H2 fun ps H3=>Q ((x,y)::ps) H3
abbrev VV:List (V×V)->List (Do×Do)->Prop:=TY fun p q=>RelV p.1 q.1/\RelV p.2 q.2
def qA(X:Cx)(pos:Pos)(keys:List (Option Uo))(values:List Uo)(trs:List (TE×TE)):Prop:=∀(pins:List (GM×Obj))(s:FB)(σ:St)(H:Hp)(Q:List (V×V)->Hp->Prop),Inv X pins σ H s->iA trs σ H Q->wpAny (model X.prog X.w) X.A (evalPairs (pairTrees keys values X.env pos)) (fun vs s'=>∃ps H',Inv X pins σ H' s'/\VV ps vs/\Q ps H') X.xe s
theorem lX:qA X pos [] [] []:=fun pins s σ H Q I h=>pairTrees_nil_walk ⟨[],H,I,.nil,h⟩
theorem jK(hk:PE X k tk)(hv:PE X v tv)(hr:qA X pos ks vs trs):qA X pos (some k::ks) (v::vs) ((tk,tv)::trs):=fun pins s σ H Q I h=> pairTrees_cons_walk (aD (hk pins s σ H _ I h) fun u s1⟨x,H1,I1,rx,q1⟩=>aD (hv pins s1 σ H1 _ I1 q1) fun w2 s2⟨y,H2,I2,ry,q2⟩=>aD (hr pins s2 σ H2 _ I2 q2) fun ws s3⟨ps,H3,I3,rel,q3⟩=>⟨(x,y)::ps,H3,I3,.cons ⟨rx,ry⟩ rel,q3⟩)
def fP(kvs more:List (Key×V)):List (Key×V):=more.foldl (fun acc kv=>putK acc kv.1 kv.2) kvs
theorem KV.merge:∀{more:List (Key×V)}{rs:List (Key×Do)}{kvs:List (Key×V)}{vs:List (Key×Do)},KV more rs->KV kvs vs->KV (fP kvs more) (merged vs rs):=by intro more rs kvs vs r;unfold KV at r;induction r generalizing kvs vs with
 |nil=>intro q;exact q
 |@cons p q ps qs h t ih=>
  intro r0;have e:KV (putK kvs p.1 p.2) (stored vs q.1 q.2):=by have:=r0.put p.1 h.2;rw[<-h.1];exact this
  exact ih e
theorem ip:∀(more kvs:List (Key×V)),(fP kvs more).length<=kvs.length+more.length
 | [],kvs=>by show kvs.length<=kvs.length+0;lia
 |p::r,kvs=>by have h1:=ip r (putK kvs p.1 p.2);have h2:=gz kvs p.1 p.2;show(fP (putK kvs p.1 p.2) r).length<=_;rw[Tu];lia
theorem lC:∀{kvs:List (Key×V)}{ws:List (Do×Do)},VV (kvs.map fun kv=>(kV kv.1,kv.2)) ws->∃rs,Carries (bJ P w) ws rs/\KV kvs rs
 | [],_,r=>by rw[VP]at r;cases r;exact⟨[],UT,.nil⟩
 |p::kvs,_,r=>by rw[SQ]at r;cases r with
  |@cons a b as bs h t=> obtain⟨rs,c,q⟩:=lC (P:=P) (w:=w) t;obtain⟨b1,b2⟩:=b;exact⟨(p.1,b2)::rs,⟨nI h.1,rfl,c⟩,.cons ⟨rfl,h.2⟩ q⟩
def kj(trs:List (TE×TE)):TE:=fun σ H Q=>∀p,H p=none->iA trs σ (upd H p (.dK [])) fun ps H2=>H2 p=some (.dK [])/\∃kvs:List (Key×V),ps=kvs.map (fun kv=>(kV kv.1,kv.2))/\kvs.length<=15/\Q (.ref p) (upd H2 p (.dK (fP [] kvs)))
theorem l9(h:qA X pos keys values trs)(hall:keys.all (·.isSome)=true)(hl:keys.length=values.length)(h0:keys≠[])(h15:keys.length<=15):PE X (.Dict keys values pos) (kj trs):=by
 intro pins s σ H Q I q;have hn:=I.hok.fresh (M2 s.heap.objs.size);have I1:=I.laid (a:=s.heap.objs.size) (o:=.dK []) (h':=s.heap.push {cls:=.type "dict",data:=.dict #[]}) (t':=s.toks) (fun _ _ q=>Fk _ q) (M2 _) (yo s.heap I.big);refine wpAny_Dict_walk (knd:=bJ X.prog X.w) hall hl h0 h15 (aD (h pins _ σ _ _ I1 (q _ hn)) fun ws s2 hZ=>?_);obtain⟨ps,H2,I2,rel,e,kvs,ep,lk,q2⟩:=hZ;subst ep;obtain⟨rs,c,rk⟩:=lC (P:=X.prog) (w:=X.w) rel;obtain⟨z,hd,vs0,r0,dd⟩:=sS I2.hok e;cases r0;refine⟨rs,c,dd,fun h' dd' hs=>⟨.ref s.heap.objs.size,_,?_,rfl,q2⟩⟩;have hz:(fP [] kvs).length<=sizeLine:=by have h1:=ip kvs [];rw[Vs]at h1;rw[TM];lia
 have he:∃q,h'.get? s.heap.objs.size=some q:=let⟨q,_,_,hq,_⟩:=dd'; ⟨q,hq⟩;exact lS I2 (by rw[e];exact UT) hs he (vV hz hd (rk.merge .nil) dd')
section
variable{X:Cx}{pins:List (GM×Obj)}{σ:St}{H:Hp}{s:FB}{a:GM}{y d:V}{u r:Do}{o:Option V}{A:Tf}{E:Do->FB->Prop}
end
section
variable{X:Cx}{o e f:Uo}{apos cpos:Pos}{td ty tx:TE}
end
section
variable{X:Cx}{pins:List (GM×Obj)}{σ:St}{H:Hp}{s:FB}{a:GM}{kvs:List (Key×V)}{A:Tf}{E:Do->FB->Prop}
end
section
variable{X:Cx}{pins:List (GM×Obj)}{σ:St}{H:Hp}{s:FB}{a:GM}{y:V}{u:Do}{A:Tf}{E:Do->FB->Prop}
end
section
variable{κ:Type}[DecidableEq κ]
theorem Ew{kvs:List (κ×V)}{k:κ}{v:V}(h:cO kvs k=some v):k∈kvs.map (·.1):=by
 have q:(kvs.any fun kv=>decide (kv.1=k))=true:=by rw[gW,h];all_goals rfl
 obtain⟨p,hp,e⟩:=UF.mp q;exact Uw.mpr ⟨p,hp,of_decide_eq_true e⟩
end
end L2
namespace Zp
open PySem PyProof.Rows
abbrev gn(h:Ux)(z TI TO T:GM)(b:Bool):Prop:=h.get? z=some {cls:=.type "zip",dict:=none,data:=.fields #[rawInt T,.bool b,.bool false,.ref TI,.ref TO],slots:=#[]}
section
variable{prog:SK}{w:Tc}{A:Tf}{E:Do->FB->Prop}{s:FB}
theorem qm(h:Q (s.heap.get? a) s):wpAny M A (loadIfAlive a) Q E s:=fun _ _ _=>h
theorem m8(hz:gn s.heap z TI TO T b)(hT:s.heap.get? T=some oT)(q:∀h',gn h' z TI TO T true->(∀c o,c≠z->s.heap.get? c=some o->h'.get? c=some o)->h'.objs.size=s.heap.objs.size->Q false {s with heap:=h'}):wpAny (model prog w) A (Builtin.SmallTypes.ownedTupleIsFree (.ref z)) Q E s:=by unfold Builtin.SmallTypes.ownedTupleIsFree;refine tz (Ve hz rfl (x:=rawInt T) rfl ?_);unfold rawInt;refine tz (qm ?_);rw[show((T:Nat):Int).toNat=T by lia,hT];rw[if_neg (by simp)];refine tz (Ve hz rfl (x:=.bool b) rfl ?_);cases b with
 |true=> rw[if_neg (by decide)];exact tz (Gc (Gc (q s.heap hz (fun c o _ e=>e) rfl)))
 |false=> rw[if_pos (by decide)];exact tz (VX hz (by simp) fun h1 hz1 hs1=>Gc (q h1 hz1 (fun c o n e=>hs1.extBut _ _ n e) hs1.1))
theorem wF{z TI TO T i1 i2 l1 l2:GM}{k1 k2:Nat}{xs ys:Array Do}{x y:Do}{b:Bool}{oT:Obj}{Q:Do->FB->Prop}(D:Wv z TI TO i1 i2 l1 l2)(hz:gn s.heap z TI TO T b)(hT:s.heap.get? T=some oT)(hTI:Wj s.heap TI (.ref i1) (.ref i2))(h1:s.heap.IsListIter i1 l1 k1)(h2:s.heap.IsListIter i2 l2 k2)(cy:s.heap.IsList l1 xs)(eB:s.heap.IsList l2 ys)(hx:xs[k1]?=some x)(hy:ys[k2]?=some y)(hQ:∀h',gn h' z TI TO T true->h'.IsListIter i1 l1 (k1+1)->h'.IsListIter i2 l2 (k2+1)->Wj h' s.heap.objs.size x y->h'.objs.size=s.heap.objs.size+1->(∀c o,c≠z->c≠i1->c≠i2->s.heap.get? c=some o->h'.get? c=some o)->Q (.ref s.heap.objs.size) {s with heap:=h'}): wpAny (model prog w) A (Builtin.«zip.__next__» ⟨[.ref z],[]⟩) (fun fin s'=>∃v,fin=.done (.ret v)/\Q v s') E s:=by
 show wpAny _ _ (field (.ref z) 2>>=_) _ _ _;refine tz (Ve hz rfl (x:=.bool false) rfl ?_);show wpAny _ _ (field (.ref z) 3>>=_) _ _ _;refine tz (Ve hz rfl (x:=.ref TI) rfl (tz (We hTI rfl ?_)));show wpAny _ _ (Builtin.SmallTypes.ownedTupleIsFree (.ref z)>>=_) _ _ _;refine tz (m8 hz hT fun ha hza ka sza=>?_);rw[if_neg (by decide)];simp only[WB,XR,Vn,<-Vn];refine tz (tz (tz (Ti ?_)));show wpAny _ _ (Builtin.SmallTypes.nextOf (.ref i1)>>=_) _ _ _;refine tz (V5 (h1.at fun o e=>ka _ o D.i1z e) (cy.at fun o e=>ka _ o D.l1z e) hx fun hb h1b hsb=>Gc (Gc ?_));refine tz (tz (Ti ?_));show wpAny _ _ (Builtin.SmallTypes.nextOf (.ref i2)>>=_) _ _ _;refine tz (V5 ((h2.at fun o e=>ka _ o D.i2z e).extBut hsb.extBut D.i12.symm) ((eB.at fun o e=>ka _ o D.l2z e).extBut hsb.extBut D.l2i1) hy fun hc h2c hsc=>Gc (Gc (Gc ?_)));refine tz (wpAny_newTuple (Gc ⟨_,rfl,?_⟩) (by show 2<=sizeLine;rw[TM];lia));have szc:hc.objs.size=s.heap.objs.size:=by rw[hsc.1,hsb.1,sza]
 have up:∀c o,hc.get? c=some o->(hc.push {cls:=.type "tuple",data:=.seq #[x,y]}).get? c=some o:=fun c o e=>Fk _ e;have hzc:gn hc z TI TO T true:=hsc.extBut _ _ D.i2z.symm (hsb.extBut _ _ D.i1z.symm hza);have hT8:Wj (hc.push {cls:=.type "tuple",data:=.seq #[x,y]}) hc.objs.size x y:=SB _ rfl;show Q (.ref hc.objs.size) {s with heap:=hc.push {cls:=.type "tuple",data:=.seq #[x,y]}};rw[szc]at hT8|-;exact hQ _ (up _ _ hzc) ((h1b.extBut hsc.extBut D.i12).at fun o e=>up _ o e) (h2c.at fun o e=>up _ o e) hT8 (by rw[Uk,szc]) fun c o c1 c2 c3 e=>up _ _ (hsc.extBut _ _ c3 (hsb.extBut _ _ c2 (ka _ _ c1 e)))
theorem Bc(hh:A.handled=none)(D:Wv z TI TO i1 i2 l1 l2)(hz:gn s.heap z TI TO T b)(hT:s.heap.get? T=some oT)(hTI:Wj s.heap TI (.ref i1) (.ref i2))(h1:s.heap.IsListIter i1 l1 k1)(h2:s.heap.IsListIter i2 l2 k2)(cy:s.heap.IsList l1 xs)(eB:s.heap.IsList l2 ys)(hend:xs[k1]?=none\/ys[k2]?=none)(hE:∀h' e,(∀c o,c≠z->c≠i1->c≠i2->s.heap.get? c=some o->h'.get? c=some o)->(∃o,h'.get? e=some o/\o.cls=.type "StopIteration")->E (.ref e) {s with heap:=h'}): wpAny (model prog w) A (Builtin.«zip.__next__» ⟨[.ref z],[]⟩) Q E s:=by show wpAny _ _ (field (.ref z) 2>>=_) _ _ _;refine tz (Ve hz rfl (x:=.bool false) rfl ?_);show wpAny _ _ (field (.ref z) 3>>=_) _ _ _;refine tz (Ve hz rfl (x:=.ref TI) rfl (tz (We hTI rfl ?_)));show wpAny _ _ (Builtin.SmallTypes.ownedTupleIsFree (.ref z)>>=_) _ _ _;refine tz (m8 hz hT fun ha hza ka sza=>?_);rw[if_neg (by decide)];simp only[WB,XR,Vn,<-Vn];refine tz (tz (tz (Ti ?_)));show wpAny _ _ (Builtin.SmallTypes.nextOf (.ref i1)>>=_) _ _ _;cases hx:xs[k1]? with
 |none=>exact tz (wpAny_nextOf_list_end hh (h1.at fun o e=>ka _ o D.i1z e) (cy.at fun o e=>ka _ o D.l1z e) hx fun hb e hsb he=>hE hb e (fun c o c1 c2 _ x=>hsb _ _ c2 (ka _ _ c1 x)) he)
 |some x=>
  have hy:ys[k2]?=none:=by rcases hend with h|h;rw[hx]at h;cases h;exact h
  refine tz (V5 (h1.at fun o e=>ka _ o D.i1z e) (cy.at fun o e=>ka _ o D.l1z e) hx fun hb h1b hsb=>Gc (Gc ?_));refine tz (tz (Ti ?_));show wpAny _ _ (Builtin.SmallTypes.nextOf (.ref i2)>>=_) _ _ _;exact tz (wpAny_nextOf_list_end hh ((h2.at fun o e=>ka _ o D.i2z e).extBut hsb.extBut D.i12.symm) ((eB.at fun o e=>ka _ o D.l2z e).extBut hsb.extBut D.l2i1) hy fun hc e hsc he=>hE hc e (fun c o c1 c2 c3 x=>hsc _ _ c3 (hsb.extBut _ _ c2 (ka _ _ c1 x))) he)
theorem vt(D:Wv z TI TO i1 i2 l1 l2)(hz:gn s.heap z TI TO T b)(hT:s.heap.get? T=some oT)(hTI:Wj s.heap TI (.ref i1) (.ref i2))(h1:s.heap.IsListIter i1 l1 k1)(h2:s.heap.IsListIter i2 l2 k2)(cy:s.heap.IsList l1 xs)(eB:s.heap.IsList l2 ys)(hx:xs[k1]?=some x)(hy:ys[k2]?=some y)(hQ:∀h',gn h' z TI TO T true->h'.IsListIter i1 l1 (k1+1)->h'.IsListIter i2 l2 (k2+1)->Wj h' s.heap.objs.size x y->h'.objs.size=s.heap.objs.size+1->(∀c o,c≠z->c≠i1->c≠i2->s.heap.get? c=some o->h'.get? c=some o)->Q (some (.ref s.heap.objs.size)) {s with heap:=h'}): wpAny (model prog w) A (pyNext (.ref z)) Q E s:=by have hTy:s.TypeIs (.ref z) "zip":=⟨_,hz,rfl⟩;unfold pyNext;exact tz (Vy (Vg (name:=AC "__next__") hTy WD (UG WD hTy F.entry_zip_next (wF D hz hT hTI h1 h2 cy eB hx hy fun h' a1 a2 a3 a4 a5 a6=>Gc (hQ h' a1 a2 a3 a4 a5 a6)) (F.args_zip_next_1 _))))
theorem Bf(hh:A.handled=none)(D:Wv z TI TO i1 i2 l1 l2)(hz:gn s.heap z TI TO T b)(hT:s.heap.get? T=some oT)(hTI:Wj s.heap TI (.ref i1) (.ref i2))(h1:s.heap.IsListIter i1 l1 k1)(h2:s.heap.IsListIter i2 l2 k2)(cy:s.heap.IsList l1 xs)(eB:s.heap.IsList l2 ys)(hend:xs[k1]?=none\/ys[k2]?=none)(hQ:∀h',(∀c o,c≠z->c≠i1->c≠i2->s.heap.get? c=some o->h'.get? c=some o)->Q none {s with heap:=h'}):wpAny (model prog w) A (pyNext (.ref z)) Q E s:=by have hTy:s.TypeIs (.ref z) "zip":=⟨_,hz,rfl⟩;unfold pyNext;refine tz (Vy (Vg (name:=AC "__next__") hTy WD (UG WD hTy F.entry_zip_next (Bc hh D hz hT hTI h1 h2 cy eB hend fun h' e hk he=>?_) (F.args_zip_next_1 _))));obtain⟨o,ho,hc⟩:=he;exact tz (Wp (T:="StopIteration") (b:=true) ⟨o,ho,hc⟩ isSubtype_stop (Gc (hQ _ hk)))
end
def Zs(h:Ux)(z TI TO:GM)(ts:List GM):Prop:=(ts=[]/\IsZip h z TI TO .none/\∃a b,Wj h TO a b)\/∃T b,T∈ts/\gn h z TI TO T b
structure ZSt(h:Ux)(z TI TO i1 i2 l1 l2:GM)(xs ys:Array Do)(ts:List GM):Prop where
 zs:Zs h z TI TO ts
 ti:Wj h TI (.ref i1) (.ref i2)
 it1:h.IsListIter i1 l1 ts.length
 it2:h.IsListIter i2 l2 ts.length
 li1:h.IsList l1 xs
 li2:h.IsList l2 ys
 tup:∀(j:Nat)(T:GM),ts[j]?=some T->∃x y,xs[j]?=some x/\ys[j]?=some y/\Wj h T x y/\T≠z/\T≠TO/\T≠i1/\T≠i2
 nd:ts.Nodup
 tto:∃o,h.get? TO=some o
theorem ZSt.keep(Z:ZSt h z TI TO i1 i2 l1 l2 xs ys ts)(k:∀b o,h.get? b=some o->(b=z\/b=TI\/b=TO\/b=i1\/b=i2\/b=l1\/b=l2\/b∈ts)->h'.get? b=some o):ZSt h' z TI TO i1 i2 l1 l2 xs ys ts:=by
 refine⟨?_,k _ _ Z.ti (by simp),Z.it1.at fun o e=>k _ o e (by simp),Z.it2.at fun o e=>k _ o e (by simp),Z.li1.at fun o e=>k _ o e (by simp),Z.li2.at fun o e=>k _ o e (by simp),fun j T hj=>?_,Z.nd,let⟨o,e⟩:=Z.tto; ⟨o,k _ _ e (by simp)⟩⟩
 ·rcases Z.zs with⟨e,hz,a,b,ho⟩| ⟨T,b,hT,hz⟩
  ·exact .inl ⟨e,k _ _ hz (by simp),a,b,k _ _ ho (by simp)⟩
  ·exact .inr ⟨T,b,hT,k _ _ hz (by simp)⟩
 ·obtain⟨x,y,h1,h2,h3,h4⟩:=Z.tup j T hj
  exact⟨x,y,h1,h2,k _ _ h3 (by simp[S5 hj]),h4⟩
section
variable{prog:SK}{w:Tc}{A:Tf}{E:Do->FB->Prop}{s:FB}
theorem EK(D:Wv z TI TO i1 i2 l1 l2)(Z:ZSt s.heap z TI TO i1 i2 l1 l2 xs ys ts)(lt:ts.length<min xs.size ys.size)(q:∀h',ZSt h' z TI TO i1 i2 l1 l2 xs ys (ts++[s.heap.objs.size])->(∀c o,c≠z->c≠TO->c≠i1->c≠i2->s.heap.get? c=some o->h'.get? c=some o)->Q (some (.ref s.heap.objs.size)) {s with heap:=h'}):wpAny (model prog w) A (pyNext (.ref z)) Q E s:=by
 have lx:ts.length<xs.size:=by lia
 have ly:ts.length<ys.size:=by lia
 have sx:=S7 lx;have sy:=S7 ly;have far:∀{c o},s.heap.get? c=some o->s.heap.objs.size≠c:=fun e=>UU (GE e);have hzl:∃o,s.heap.get? z=some o:=by
  rcases Z.zs with⟨_,hz,_⟩| ⟨T,b,_,hz⟩;·exact⟨_,hz⟩
  ·exact⟨_,hz⟩
 have fin:∀h':Ux,Zs h' z TI TO (ts++[s.heap.objs.size])->h'.IsListIter i1 l1 (ts.length+1)->h'.IsListIter i2 l2 (ts.length+1)->Wj h' s.heap.objs.size xs[ts.length] ys[ts.length]->(∀c o,c≠z->c≠TO->c≠i1->c≠i2->s.heap.get? c=some o->h'.get? c=some o)->(∃o,h'.get? TO=some o)->Q (some (.ref s.heap.objs.size)) {s with heap:=h'}:=fun h' a1 a2 a3 a4 a5 aTO=>by
  have nTO:s.heap.objs.size≠TO:=let⟨_,e⟩:=Z.tto;far e;refine q h' ⟨a1,a5 _ _ D.TIz D.TITO D.TIi1 D.TIi2 Z.ti,by rw[SW];exact a2,by rw[SW];exact a3,Z.li1.at fun o e=>a5 _ o D.l1z D.l1TO D.l1i1 D.l1i2 e,Z.li2.at fun o e=>a5 _ o D.l2z D.l2TO D.l2i1 D.l2i2 e,fun j T hj=>?_,?_,aTO⟩ a5
  ·by_cases e:j<ts.length
   ·rw[WS e]at hj
    obtain⟨x,y,h1,h2,h3,n1,n2,n3,n4⟩:=Z.tup j T hj;exact⟨x,y,h1,h2,a5 _ _ n1 n2 n3 n4 h3,n1,n2,n3,n4⟩
   ·rw[VA (by lia)]at hj
    have ej:j=ts.length:=by have:=(Pi.mp hj).1;simp at this;lia
    subst ej;have eT:s.heap.objs.size=T:=by simpa using hj
    subst eT;obtain⟨o,ho⟩:=hzl;exact⟨_,_,sx,sy,a4,far ho,nTO,(by obtain⟨_,e,_⟩:=Z.it1;exact far e),(by obtain⟨_,e,_⟩:=Z.it2;exact far e)⟩
  ·refine Vz.mpr ⟨Z.nd,by simp,fun c hc d hd=>?_⟩
   have ed:d=s.heap.objs.size:=by simpa using hd
   obtain⟨j,hj⟩:=TV hc;obtain⟨x,y,_,_,h3,_⟩:=Z.tup j c hj;rw[ed];exact(far h3).symm
 rcases Z.zs with⟨e,hz,a,b,ho⟩| ⟨T,b,hT,hz⟩;·exact wpAny_pyNext_zip_item D hz Z.ti ho Z.it1 Z.it2 Z.li1 Z.li2 sx sy fun h' a1 a2 a3 a4 a5 a6 a7=>fin h' (.inr ⟨_,false,by simp,a1⟩) a3 a4 a5 a7 ⟨_,a2⟩
 ·obtain⟨j,hj⟩:=TV hT
  obtain⟨x,y,_,_,h3,_⟩:=Z.tup j T hj;obtain⟨o,eo⟩:=Z.tto;exact vt D hz h3 Z.ti Z.it1 Z.it2 Z.li1 Z.li2 sx sy fun h' a1 a2 a3 a4 a5 a6=>fin h' (.inr ⟨T,true,by simp[hT],a1⟩) a2 a3 a4 (fun c o c1 _ c3 c4 e=>a6 c o c1 c3 c4 e) ⟨o,a6 _ _ D.TOz D.TOi1 D.TOi2 eo⟩
theorem IB(hh:A.handled=none)(D:Wv z TI TO i1 i2 l1 l2)(Z:ZSt s.heap z TI TO i1 i2 l1 l2 xs ys ts)(le:min xs.size ys.size<=ts.length)(q:∀h',(∀c o,c≠z->c≠TO->c≠i1->c≠i2->s.heap.get? c=some o->h'.get? c=some o)->Q none {s with heap:=h'}):wpAny (model prog w) A (pyNext (.ref z)) Q E s:=by
 have hend:xs[ts.length]?=none\/ys[ts.length]?=none:=by
  by_cases h:xs.size<=ts.length;·exact .inl (TX h)
  ·exact .inr (TX (by lia))
 rcases Z.zs with⟨e,hz,a,b,ho⟩| ⟨T,b,hT,hz⟩;·exact wpAny_pyNext_zip_end hh D hz Z.ti ho Z.it1 Z.it2 Z.li1 Z.li2 hend q
 ·obtain⟨j,hj⟩:=TV hT
  obtain⟨x,y,_,_,h3,_⟩:=Z.tup j T hj;exact Bf hh D hz h3 Z.ti Z.it1 Z.it2 Z.li1 Z.li2 hend fun h' k=>q h' fun c o c1 _ c3 c4 e=>k c o c1 c3 c4 e
end
section
variable{prog:SK}{w:Tc}{A:Tf}{R:Yd->FB->Prop}
theorem E6(hh:A.handled=none)(D:Wv z TI TO i1 i2 l1 l2)(hS:S≠z/\S≠TI/\S≠TO/\S≠i1/\S≠i2/\S≠l1/\S≠l2)(hn:min xs.size ys.size<=1000000):∀(k:Nat)(s:FB)(ts:List GM)(acc:Array Do)(c:Nat),min xs.size ys.size-ts.length=k->ts.length<=min xs.size ys.size->ZSt s.heap z TI TO i1 i2 l1 l2 xs ys ts->S∉ts->s.heap.get? S=some {cls:=.type "list",dict:=none,data:=.seq acc c,slots:=#[]}->acc.toList=ts.map PP-> (∀(h':Ux)(ts':List GM)(acc':Array Do)(c':Nat),(∀b o,b≠S->b≠z->b≠TO->b≠i1->b≠i2->s.heap.get? b=some o->h'.get? b=some o)->h'.get? S=some {cls:=.type "list",dict:=none,data:=.seq acc' c',slots:=#[]}->acc'.toList=ts'.map PP->ts'.length=min xs.size ys.size->ts'.Nodup->S∉ts'-> (∀(j:Nat)(T:GM),ts'[j]?=some T->(∃x y,xs[j]?=some x/\ys[j]?=some y/\Wj h' T x y)/\(T∈ts\/s.heap.objs.size<=T))->R (.ok (.ret res)) {s with heap:=h'})->
  codeAny (model prog w) A (.builtin "list.extend.loop" ⟨[.ref S,.ref z,res],[]⟩) R s:=by intro k;induction k with
 |zero=> intro s ts acc c hk hi Z nS hl ea q;refine T9 F.entry_extend_loop ?_;rw[TF Um _];show wpAny _ A.in1 (pyNext (.ref z)>>=_) _ _ s;refine tz (IB (A:=A.in1) hh D Z (by lia) fun h' kk=>Gc (q h' ts acc c (fun b o _ b1 b2 b3 b4 e=>kk b o b1 b2 b3 b4 e) (kk _ _ hS.1 hS.2.2.1 hS.2.2.2.1 hS.2.2.2.2.1 hl) ea (by lia) Z.nd nS fun j T hj=>?_));obtain⟨x,y,h1,h2,h3,n1,n2,n3,n4⟩:=Z.tup j T hj;exact⟨⟨x,y,h1,h2,kk _ _ n1 n2 n3 n4 h3⟩,.inl (S5 hj)⟩
 |succ k ih=>
  intro s ts acc c hk hi Z nS hl ea q;have la:acc.size=ts.length:=by rw[<-S6,ea,FS]
  refine T9 F.entry_extend_loop ?_;rw[TF Um _];show wpAny _ A.in1 (pyNext (.ref z)>>=_) _ _ s;refine tz (EK (A:=A.in1) D Z (by lia) fun h' Z' kk=>?_);have hl':=kk _ _ hS.1 hS.2.2.1 hS.2.2.2.1 hS.2.2.2.2.1 hl;have nS':S≠s.heap.objs.size:=SM (GE hl);have nST:S∉ts++[s.heap.objs.size]:=by simp[nS,nS']
  show wpAny _ A.in1 (updateSeq S (·.push (.ref s.heap.objs.size))>>=_) _ _ _;have oth:∀b o,b≠S->h'.get? b=some o->(h'.update S (Te (·.push (.ref s.heap.objs.size)))).get? b=some o:=fun b o n e=>(Os _ _ (T6 n)).trans e;have Z2:ZSt (h'.update S (Te (·.push (.ref s.heap.objs.size)))) z TI TO i1 i2 l1 l2 xs ys (ts++[s.heap.objs.size]):=Z'.keep fun b o e hb=>oth b o (fun z=>by
   subst z;rcases hb with h|h|h|h|h|h|h|h;·exact hS.1 h
   ·exact hS.2.1 h
   ·exact hS.2.2.1 h
   ·exact hS.2.2.2.1 h
   ·exact hS.2.2.2.2.1 h
   ·exact hS.2.2.2.2.2.1 h
   ·exact hS.2.2.2.2.2.2 h
   ·exact nST h) e
  refine tz (Us hl' rfl (Gc ⟨Ur Um _,ih {s with heap:=h'.update S (Te (·.push (.ref s.heap.objs.size)))} (ts++[s.heap.objs.size]) (acc.push (.ref s.heap.objs.size)) _ (by rw[SW];show _- (ts.length+1)=k;lia) (by rw[SW];show ts.length+1<=_;lia) Z2 nST (S3 _ hl' rfl) (by rw[W8,ea,SV];rfl) fun h2 ts' acc' c' kk2 eB ea2 lt2 nd2 nS2 tu=>?_⟩) (by rw[la,TM];lia) (by show(acc.push (.ref s.heap.objs.size)).size<=sizeLine+1;rw[Array.size_push,la,TM];lia));refine q h2 ts' acc' c' (fun b o b0 b1 b2 b3 b4 e=>kk2 b o b0 b1 b2 b3 b4 (oth b o b0 (kk b o b1 b2 b3 b4 e))) eB ea2 lt2 nd2 nS2 fun j T hj=>?_;obtain⟨g1,g2⟩:=tu j T hj;refine⟨g1,?_⟩;rcases g2 with g|g
  ·rcases Uj.mp g with g|g
   ·exact .inl g
   ·exact .inr (by rw[show T=s.heap.objs.size by simpa using g];exact M2 _)
  ·have hsz:s.heap.objs.size<=(h'.update S (Te (·.push (.ref s.heap.objs.size)))).objs.size:=by rw[VJ];obtain⟨x,y,_,_,h3,_⟩:=Z'.tup ts.length s.heap.objs.size (by simp);exact Wf (GE h3)
   exact .inr (Tt hsz g)
end
theorem En:typeLookup (.type "zip") "__len__" =pure none:=by rw[WE,Vu];kernel_rfl
theorem zo:typeLookup (.type "zip") "__length_hint__" =pure none:=by rw[WE,Vu];kernel_rfl
section
variable{prog:SK}{w:Tc}{A:Tf}{E:Do->FB->Prop}{s:FB}
theorem zR(hT:s.TypeIs (.ref z) "zip")(q:Q true s):wpAny (model prog w) A (Builtin.List.listLengthHint (.ref z)) Q E s:=by unfold Builtin.List.listLengthHint;refine tz (Vt hT En ?_);dsimp only;exact tz (Vt hT zo (Gc q))
theorem ZSt.zip(Z:ZSt h z TI TO i1 i2 l1 l2 xs ys []):IsZip h z TI TO .none:=by
 rcases Z.zs with⟨_,hz,_⟩| ⟨T,b,hT,_⟩;·exact hz
 ·cases hT
theorem rQ(hh:A.handled=none)(D:Wv z TI TO i1 i2 l1 l2)(hS:S≠z/\S≠TI/\S≠TO/\S≠i1/\S≠i2/\S≠l1/\S≠l2)(hn:min xs.size ys.size<=1000000)(Z:ZSt s.heap z TI TO i1 i2 l1 l2 xs ys [])(hl:s.heap.get? S=some {cls:=.type "list",dict:=none,data:=.seq #[] c,slots:=#[]})(q:∀(h':Ux)(ts:List GM)(acc:Array Do)(c':Nat),(∀b o,b≠S->b≠z->b≠TO->b≠i1->b≠i2->s.heap.get? b=some o->h'.get? b=some o)->h'.get? S=some {cls:=.type "list",dict:=none,data:=.seq acc c',slots:=#[]}->acc.toList=ts.map PP->ts.length=min xs.size ys.size->ts.Nodup->S∉ts->(∀(j:Nat)(T:GM),ts[j]?=some T->(∃x y,xs[j]?=some x/\ys[j]?=some y/\Wj h' T x y)/\s.heap.objs.size<=T)->R (.ok (.ret res)) {s with heap:=h'}): wpAny (model prog w) A.in1 (Builtin.List.listExtendWith (.ref S) (.ref z) res) (fun fin s'=>match fin with|.done f=>R (.ok f) s'|.again c'=>c'.quiet=true/\codeAny (model prog w) A c' R s') (fun e s'=>R (.error e) s') s:=by
 have hz:=Z.zip;have n1:Builtin.List.listSameRef (.ref S) (.ref z)=false:=by simp[Builtin.List.listSameRef,hS.1]
 have n2:(Ut "zip" ==Ut "list")=false:=by decide
 have n3:(Ut "zip" ==Ut "tuple")=false:=by decide
 unfold Builtin.List.listExtendWith;refine tz (Wk (T:="zip") ⟨_,hz,rfl⟩ ?_);simp only[n1,n2,n3,Xe,Ta,if_false];refine tz (Xo hz (tz (Ti (zR ⟨_,hz,rfl⟩ ?_))));simp only[Bool.true_or,if_true];refine tz (wpAny_rule (tz ?_));show wpAny _ _ (updateSeq S (·.push .none)>>=fun _=>updateSeq S (·.pop)) _ _ _;have eB:=S3 (Te (·.push TB)) hl rfl;have gF:=S3 (Te (·.pop)) eB rfl;have oth:∀b o,b≠S->s.heap.get? b=some o->((s.heap.update S (Te (·.push TB))).update S (Te (·.pop))).get? b=some o:=fun b o n e=>(Os _ _ (T6 n)).trans ((Os _ _ (T6 n)).trans e);refine tz (Us hl rfl (Us eB rfl (Gc ⟨Ur Um _,?_⟩) (by show 1<=sizeLine;rw[TM];lia) (by show 0<=_;exact KM _)) (KM _) (by show 1<=_;rw[TM];lia));refine E6 (xs:=xs) (ys:=ys) hh D hS hn _ _ [] #[] _ rfl (KM _) (Z.keep fun b o e hb=>oth b o (fun x=>by
   subst x;rcases hb with h|h|h|h|h|h|h|h;·exact hS.1 h
   ·exact hS.2.1 h
   ·exact hS.2.2.1 h
   ·exact hS.2.2.2.1 h
   ·exact hS.2.2.2.2.1 h
   ·exact hS.2.2.2.2.2.1 h
   ·exact hS.2.2.2.2.2.2 h
   ·cases h) e) (by simp) gF rfl fun h' ts acc c' k e1 e2 e3 e4 e5 e6=>q h' ts acc c' (fun b o b0 b1 b2 b3 b4 e=>k b o b0 b1 b2 b3 b4 (oth b o b0 e)) e1 e2 e3 e4 e5 fun j T hj=>?_
 obtain⟨g1,g2⟩:=e6 j T hj;refine⟨g1,?_⟩;rcases g2 with g|g;·cases g
 ·rw[VJ,VJ]at g
  exact g
theorem list_zip(hh:A.handled=none)(D:Wv z TI TO i1 i2 l1 l2)(hn:min xs.size ys.size<=1000000)(Z:ZSt s.heap z TI TO i1 i2 l1 l2 xs ys [])(q:∀(h':Ux)(ts:List GM)(acc:Array Do)(c':Nat),(∀b o,b≠z->b≠TO->b≠i1->b≠i2->s.heap.get? b=some o->h'.get? b=some o)->h'.get? s.heap.objs.size=some {cls:=.type "list",dict:=none,data:=.seq acc c',slots:=#[]}->acc.toList=ts.map PP->ts.length=min xs.size ys.size->ts.Nodup->(∀(j:Nat)(T:GM),ts[j]?=some T->(∃x y,xs[j]?=some x/\ys[j]?=some y/\Wj h' T x y)/\s.heap.objs.size<T)->Q (.ref s.heap.objs.size) {s with heap:=h'}): wpAny (model prog w) A (call (.type "list") [.ref z]) Q E s:=by
 have hz:=Z.zip;have far:∀{c o},s.heap.get? c=some o->s.heap.objs.size≠c:=fun e=>UU (GE e);have hS:s.heap.objs.size≠z/\s.heap.objs.size≠TI/\s.heap.objs.size≠TO/\s.heap.objs.size≠i1/\s.heap.objs.size≠i2/\s.heap.objs.size≠l1/\s.heap.objs.size≠l2:= ⟨far hz,far Z.ti,(let⟨_,e⟩:=Z.tto;far e),(let⟨_,e,_⟩:=Z.it1;far e),(let⟨_,e,_⟩:=Z.it2;far e),(let⟨_,e,_⟩:=Z.li1;far e),(let⟨_,e,_⟩:=Z.li2;far e)⟩;refine callType_codes (Q₁:=fun T s1=>T=.ref s.heap.objs.size/\s1={s with heap:=s.heap.push {cls:=.type "list",data:=.seq #[]}}) F.called_list (F.typeCall_list_1 _) F.entry_list_init (code_list_new _ ⟨rfl,rfl⟩) fun T s1 e1=>?_;obtain⟨rfl,rfl⟩:=e1;have g0:(s.heap.push {cls:=.type "list",data:=.seq #[]}).get? s.heap.objs.size=some {cls:=.type "list",data:=.seq #[]}:=SB _ rfl;have g1:=S3 (Te (fun _=>(#[]:Array Do))) g0 rfl;have oth:∀b o,s.heap.get? b=some o->((s.heap.push {cls:=.type "list",data:=.seq #[]}).update s.heap.objs.size (Te (fun _=>(#[]:Array Do)))).get? b=some o:=fun b o e=>(Os _ _ (far e)).trans (Fk _ e);refine⟨⟨_,g0,rfl⟩,F.args_list_init_2 _ _,?_⟩;show wpAny _ _ (do let was<-Builtin.List.listItems (.ref s.heap.objs.size);Builtin.List.listUpdate (.ref s.heap.objs.size) (fun _=>#[]);letGo was.toList.reverse;Builtin.List.listExtendWith (.ref s.heap.objs.size) (.ref z) .none) _ _ _;refine tz ?_;unfold Builtin.List.listItems;refine tz (We g0 rfl (Gc ?_));show wpAny _ _ (updateSeq s.heap.objs.size (fun _=>#[])>>=fun _=>letGo (#[]:Array Do).toList.reverse>>=fun _=>Builtin.List.listExtendWith (.ref s.heap.objs.size) (.ref z) .none) _ _ _;refine tz (Us g0 rfl (tz (wpAny_letGo ?_)) (KM _) (KM _));refine rQ (s:={s with heap:=(s.heap.push {cls:=.type "list",data:=.seq #[]}).update s.heap.objs.size (Te (fun _=>(#[]:Array Do)))}) (A:=A.in1) hh D hS hn (Z.keep fun b o e _=>oth b o e) g1 fun h' ts acc c' k e1 e2 e3 e4 e5 e6=>⟨rfl,q h' ts acc c' (fun b o b1 b2 b3 b4 e=>k b o (T6 (far e)) b1 b2 b3 b4 (oth b o e)) e1 e2 e3 e4 fun j T hj=>?_⟩;obtain⟨x1,x2⟩:=e6 j T hj;rw[VJ,Uk]at x2;exact⟨x1,x2⟩
end
end Zp
namespace Ck
open PySem L2
theorem nc{α β:Type}{R:α->β->Prop}:∀{as:List α}{bs:List β},as.length=bs.length->(∀(j:Nat)a b,as[j]?=some a->bs[j]?=some b->R a b)->TY R as bs
 | [],[],_,_=>.nil
 |a::as,b::bs,hl,h=>.cons (h 0 a b rfl rfl) (nc (by simpa using hl) fun j x y e1 e2=>h (j+1) x y (by simpa using e1) (by simpa using e2))
end Ck
namespace L2
open PySem PySem.Spec PyProof.Rows Ck
section
variable{X:Cx}
theorem qc(r:TY (fun(T:GM)(p:Pair)=>∃t u,Wj s.heap T (.int p.1 t) (.int p.2 u)) ts ps):∀(H:Hp),Inv X pins σ H s->(∀T∈ts,gr X pins H T)->ts.Nodup->∃H',Inv X pins σ H' s/\af H H'/\cB H' (ts.map V.ref) ps/\∀b,b∉ts->H' b=H b:=by induction r with
 |nil=>exact fun H I _ _=>⟨H,I,af.refl H,.nil,fun _ _=>rfl⟩
 |@cons T p ts ps h r ih=>
  intro H I o nd;obtain⟨t,u,h⟩:=h;have oT:=o T (SY ..);rw[T8]at nd;have ok:aW X.prog X.w (upd H T (.tup [.int p.1,.int p.2])) s.heap T (.tup [.int p.1,.int p.2]):=⟨sz (n:=2) (by decide),[.int p.1 t,.int p.2 u],.cons ⟨_,rfl⟩ (.cons ⟨_,rfl⟩ .nil),_,h,rfl,_,rfl⟩;have I1:=I.trackO oT ok;obtain⟨H',I',s',pr,k⟩:=ih _ I1 (fun U hU=>by have ne:U≠T:=fun z=>nd.1 (z▸hU);have oU:=o U (SH _ hU);exact⟨oU.new,(aw ne).trans oU.free,oU.loc,oU.cell,oU.pin⟩) nd.2
  refine⟨H',I',(af.new (af.refl H) oT.free _).trans s',.cons ⟨T,rfl,s' _ _ ag⟩ pr,fun b hb=>?_⟩;rw[k b (fun z=>hb (SH _ z))];exact aw fun z=>hb (by rw[z];exact SY ..)
def RK(K:KB)(ta:TA):TE:=fun σ H Q=>ta σ H fun vs H1=>∃(p q:GM)(ns ms:List Int),vs=[.ref p,.ref q]/\ao K H1 p (ns.map V.int)/\ao K H1 q (ms.map V.int)/\ns.length<=1000000/\∀(l:GM)(H2:Hp),af H1 H2->H1 l=none->eE H2 l (ns.zip ms)->Q (.ref l) H2
theorem Eg{K:KB}{a b:Uo}{ta:TA}{p p2 pos pos2:Pos}(hK:X.K=K)(hc:X.calm=true)(hgl:Gl X "list")(hml:X.mg "list" =none)(hg:Gl X "zip")(hm:X.mg "zip" =none)(ha:PA X [a,b] ta)(hs:starEach [a,b] X.env=[(false,eval a X.env),(false,eval b X.env)]:=by rfl)(hs2:starEach [b] X.env=[(false,eval b X.env)]:=by rfl)(he:starEach [.Call (.Name "zip" p) [a,b] [] pos] X.env=[(false,eval (.Call (.Name "zip" p) [a,b] [] pos) X.env)]:=by rfl): PE X (.Call (.Name "list" p2) [.Call (.Name "zip" p) [a,b] [] pos] [] pos2) (RK K ta):=by
 subst hK;intro pins s σ H Q I h;refine Tv (bO I hgl hml eO ?_ (by decide) (by decide));refine SU ?_ he rfl;rw[he];show wpAny _ _ (spliced ((false,eval (.Call (.Name "zip" p) [a,b] [] pos) X.env)::backTo pos2 [])) _ _ s;refine UV (Call_ (bO I hg hm boot_zip (SU (aD (ha pos pins s σ H _ I h) fun us s1⟨vs,H1,I1,r1,q1⟩=>?_) (by rw[hs,hs2]) (by rw[hs2];rfl))));obtain⟨p1,p2,ns,ms,e,l1,l2,z1,q⟩:=q1;subst e;obtain⟨u1,u2,rfl,ru1,ru2⟩:=vals2 r1;cases ru1;cases ru2
 obtain⟨its,rv,pl,hz⟩:=I1.list l1;obtain⟨jts,rw_,pm,hz2⟩:=I1.list l2;have hi:=intsAre_of rv;have hj:=intsAre_of rw_;have li:=hi.length;have lj:=hj.length;have lt1:p1<s1.heap.objs.size:=by obtain⟨_,e,_⟩:=pl.isList;exact GE e
 have lt2:p2<s1.heap.objs.size:=by obtain⟨_,e,_⟩:=pm.isList;exact GE e
 refine call_zip_2 pl.isList pm.isList fun h2 hzz hTI hTO hi1 hi2 hsz hk=>U1 ?_;have D:=zipApart_new lt1 lt2;have I2:Inv X pins σ H1 {s1 with heap:=h2}:=I1.kept (t':=s1.toks) hk;have Z:Zp.ZSt h2 (s1.heap.objs.size+4) (s1.heap.objs.size+2) (s1.heap.objs.size+3) s1.heap.objs.size (s1.heap.objs.size+1) p1 p2 its.toArray jts.toArray []:= ⟨.inl ⟨rfl,hzz,_,_,hTO⟩,hTI,hi1,hi2,pl.isList.at fun o e=>hk _ o e,pm.isList.at fun o e=>hk _ o e,fun j T hj=>by simp at hj,Wd,⟨_,hTO⟩⟩;refine Zp.list_zip (s:={s1 with heap:=h2}) (I.ok.hd hc) D (by simp;lia) Z fun h3 ts acc c kk hl ea lts nd tu=>?_;have k3:∀b o,s1.heap.get? b=some o->h3.get? b=some o:=fun b o e=>by have lt:=GE e;exact kk b o (SM (SN lt (Vj _ _))) (SM (SN lt (Vj _ _))) (SM lt) (SM (SN lt (Vj _ _))) (hk b o e)
 have I3:Inv X pins σ H1 {s1 with heap:=h3}:=I1.kept (t':=s1.toks) k3;have our:∀T,s1.heap.objs.size<=T->gr X pins H1 T:=fun T hT=>by have f:=I1.fpOk hT (I1.hok.fresh hT);exact⟨Ug (Tt I1.sz hT),f.1,f.2.1,f.2.2.2.2.1,f.2.2.2.2.2⟩
 have hgt:∀T∈ts,h2.objs.size<T:=fun T hT=>by obtain⟨j,hj⟩:=TV hT;exact(tu j T hj).2
 have lz:(ns.zip ms).length=ts.length:=by rw[lts,List.length_zip];simp;lia
 have prd:TY (fun(T:GM)(p:Pair)=>∃t u,Wj h3 T (.int p.1 t) (.int p.2 u)) ts (ns.zip ms):=by
  refine nc lz.symm fun j T pr e1 e2=>?_;obtain⟨⟨x,y,hx,hy,hp⟩,_⟩:=tu j T e1;have hx':its[j]?=some x:=by simpa using hx
  have hy':jts[j]?=some y:=by simpa using hy
  rw[List.getElem?_zip_eq_some]at e2;obtain⟨t,et⟩:=jg hi e2.1;obtain⟨u,eu⟩:=jg hj e2.2;rw[et]at hx';rw[eu]at hy';cases hx';cases hy'
  exact⟨t,u,hp⟩
 obtain⟨H',I',s',prs,kf⟩:=qc prd H1 I3 (fun T hT=>our T (by have:=hgt T hT;lia)) nd;have nS:h2.objs.size∉ts:=fun z=>Tz _ (hgt _ z);have oS:=our h2.objs.size (by lia);have fS:H' h2.objs.size=none:=by rw[kf _ nS];exact oS.free
 have vs:Vals (ts.map V.ref) acc.toList:=by
  rw[ea];have go:∀ts:List GM,Vals (ts.map V.ref) (ts.map PP):=fun ts=>by induction ts with
   |nil=>exact .nil
   |cons T ts ih=>exact .cons rfl ih
  exact go ts
 have I4:=I'.trackO (o':=.lst (ts.map V.ref)) ⟨oS.new,fS,oS.loc,oS.cell,oS.pin⟩ ⟨by rw[FS,lts];simp;exact sz (by lia),acc.toList,c,vs,hl⟩;exact⟨.ref h2.objs.size,_,I4,rfl,q _ _ (s'.trans (af.new (af.refl H') fS _)) oS.free ⟨_,ag,prs.updN fS _⟩⟩
end
end L2
namespace Ck
open PySem L2
theorem jE:∀{r s:List Int},r.map V.int=s.map V.int->r=s
 | [],[],_=>rfl
 |a::r,b::s,h=>by rw[SQ,SQ]at h;injection h with h1 h2;injection h1 with h1;rw[h1,jE h2]
noncomputable def nJ(o:Option HO):Bool:=match o with|some (.lst [])=>true|_=>false
theorem mH(r:List Int):nJ (some (.lst (r.map V.int)))=decide (r=[]):=by cases r with
 |nil=>rfl
 |cons a r=>rw[decide_eq_false (by simp)];rfl
end Ck
namespace L2
open PySem PySem.Spec PyProof.Rows Ck
theorem pI{X:Cx}{K:KB}(hK:X.K=K):ck X (.builtin "sorted") (fun xs H Q=>∃(p:GM)(ns:List Int),xs=[.ref p]/\ao K H p (ns.map V.int)/\ns.length<64/\∀(q:GM)(ms:List Int),H q=none->ms.Perm ns->ms.Pairwise (·<=·)->Q (.ref q) (upd H q (.lst (ms.map V.int)))):=by subst hK;exact gj
def QP:R2:=fun x y H Q=>∃(a l:GM)(H0:Hp)(rs:List (List Int)),x=.ref a/\y=.ref l/\H a=some (.lst [])/\cP H0 H l rs/\Q (.bl (rs.any fun r=>decide (r=[]))) H
theorem JH(hu:X.A.units+100<cLine):bX X (compareOp .In) QP:=by
 intro pins s σ H x y u v Q I ru rv h;obtain⟨a,l,H0,rs,rfl,rfl,ha,⟨bs,hl,ro,nd⟩,q⟩:=h;cases(show u=PP _ from ru);cases(show v=PP _ from rv)
 obtain⟨its,r',pl,hz⟩:=I.list (ao.of hl);have ei:its=bs.map PP:=by
  have go:∀(bs:List GM)(us:List Do),Vals (bs.map V.ref) us->us=bs.map PP:=fun bs=>by induction bs with
   |nil=>intro us h;rw[VP]at h;cases h;rfl
   |cons b bs ih=> intro us h;rw[SQ]at h;cases h with
    |cons h t=>rw[ih _ t,SQ];cases(show _=PP b from h);rfl
  exact go bs its r'
 have one:∀(b:GM)(r:List Int),H b=some (.lst (r.map V.int))->bo X.K H 1 (.ref b) (.ref a) (decide (r=[])):=fun b r hb=>by
  by_cases e:b=a
  ·subst e
   rw[ha]at hb;have:r=[]:=by injection hb with hb;injection hb with hb;exact List.map_eq_nil_iff.mp hb.symm
   rw[decide_eq_true this];exact bo.same
  ·have:=bo.void (K:=X.K) (n:=0) e (ao.of hb) (ao.of ha)
   have e2:decide (r.map V.int=[])=decide (r=[]):=by cases r<;>simp
   rw[e2]at this;exact this
 have ex:∀(bs:List GM)(rs:List (List Int)),aX H0 H l bs rs->∃e:Do->Bool,(∀y∈bs.map PP,∃(b:GM)(r:List Int),y=.ref b/\H b=some (.lst (r.map V.int))/\e y=decide (r=[]))/\(bs.map PP).any e=rs.any fun r=>decide (r=[]):=fun bs rs ro=>by
  refine⟨fun y=>match y with|.ref b=>nJ (H b)|_=>false,?_,?_⟩
  ·intro y hy
   obtain⟨b,hb,rfl⟩:=Uw.mp hy;obtain⟨⟨ns,e⟩,_⟩:=ro.all b hb;refine⟨b,ns,rfl,e,?_⟩;show nJ (H b)=_;rw[e,mH]
  ·induction ro with
   |nil=>rfl
   |cons h _ ih=> rw[SQ,UA,UA,ih];congr 1;show nJ (H _)=_;rw[h.1,mH]
 obtain⟨e,e1,e2⟩:=ex bs rs ro;refine SeqAt.in_listAt (items:=its.toArray) e pl.isList (fun y hy=>?_) ⟨.bl _,H,I,rfl,?_⟩
 ·have hy':y∈bs.map PP:=by rw[ei]at hy;simpa using hy
  obtain⟨b,r,rfl,hb,e3⟩:=e1 y hy';rw[e3];exact(one b r hb).at_ (A:=X.A.in1) (by show X.A.units+1+1<cLine;lia) I rfl rfl
 ·rw[ei,List.any_toArray,e2]
  exact q
end L2
namespace Ck
open PySem L2
theorem bo.ints{K:KB}{H:Hp}{n:Nat}{a b:GM}{r s:List Int}(ha:H a=some (.lst (r.map V.int)))(hb:H b=some (.lst (s.map V.int))):bo K H (n+1) (.ref a) (.ref b) (decide (r=s)):=by
 by_cases e:a=b
 ·subst e
  rw[ha]at hb;have:r=s:=by injection hb with hb;injection hb with hb;exact jE hb
  rw[decide_eq_true this];exact bo.same
 by_cases hl:r.length=s.length
 ·have h:=bo.lst (K:=K) (n:=n) (e:=fun j=>decide (r.getD j 0=s.getD j 0)) e (ao.of ha) (ao.of hb) (by simp[hl]) (fun j x y hx hy=>by
   obtain⟨c,rfl⟩:=dw hx;obtain⟨d,rfl⟩:=dw hy;rw[Td]at hx hy;have ec:r.getD j 0=c:=by rw[FM];cases h:r[j]? with
    |none=>rw[h]at hx;cases hx
    |some z=>rw[h]at hx;injection hx with hx;injection hx
   have ed:s.getD j 0=d:=by rw[FM];cases h:s[j]? with
    |none=>rw[h]at hy;cases hy
    |some z=>rw[h]at hy;injection hy with hy;injection hy
   have z:=bo.flat (K:=K) (H:=H) (n:=n) (x:=V.int c) (y:=V.int d) rfl rfl;rw[ec,ed];have e3:dB (V.int c) (V.int d)=decide (c=d):=rfl;rw[e3]at z;exact z)
  have e2:(SO (r.map V.int).length).all (fun j=>decide (r.getD j 0=s.getD j 0))=decide (r=s):=by
   rw[TH,SS,decide_eq_true_iff];constructor
   ·intro h
    refine VI hl fun k h1 h2=>?_;have:=of_decide_eq_true (h k (SX.mpr (by simpa using h1)));rw[FM,FM,Da h1,Da h2]at this;exact this
   ·intro h k _
    rw[h];exact decide_eq_true rfl
  rw[e2]at h;exact h
 ·rw[decide_eq_false fun z=>hl (by rw[z])]
  exact bo.lstN e (ao.of ha) (ao.of hb) (by simpa using hl)
theorem bo.rooms(h:cP H0 H a rs)(k:cP H1 H b ss)(ne:a≠b):bo K H 2 (.ref a) (.ref b) (decide (rs=ss)):=by
 obtain⟨xs,ex,lx⟩:=h.len;obtain⟨ys,ey,ly⟩:=k.len;by_cases hl:rs.length=ss.length
 ·have d:=bo.lst (K:=K) (n:=1) (e:=fun j=>decide (rs.getD j []=ss.getD j [])) ne (ao.of ex) (ao.of ey) (by lia) (fun j x y e1 e2=>by
   have hj:j<rs.length:=by rw[<-lx];exact(Pi.mp e1).1
   obtain⟨c,f1,g1,_⟩:=h.get ex (Da hj);obtain⟨d,f2,g2,_⟩:=k.get ey (Da (show j<ss.length by lia));rw[f1]at e1;rw[f2]at e2;cases e1;cases e2
   rw[FM,FM,Da hj,Da (show j<ss.length by lia)];exact bo.ints g1 g2)
  have e:(SO xs.length).all (fun j=>decide (rs.getD j []=ss.getD j []))=decide (rs=ss):=by
   rw[TH,SS,decide_eq_true_iff];constructor
   ·intro h
    refine VI hl fun k h1 h2=>?_;have:=of_decide_eq_true (h k (SX.mpr (by lia)));rw[FM,FM,Da h1,Da h2]at this;exact this
   ·intro h k _
    rw[h];exact decide_eq_true rfl
  rw[e]at d;exact d
 ·rw[decide_eq_false fun z=>hl (by rw[z])]
  exact bo.lstN ne (ao.of ex) (ao.of ey) (by lia)
noncomputable def jz(rs:List (List Int)):List Pair:=(rs.map fun r=>r.zip (r.drop 1)).flatten
noncomputable def oA(rs:List (List Int)):Bool:=decide ((∀r∈rs,r.Pairwise (·<·))/\(rs.map hd).Pairwise (·<·))
def dR(rs:List (List Int)):Bool:=rs.all (fun r=>decide (r≠[]))&&(cc rs.flatten&&(oA rs&&!cW (jz rs)))
theorem AG(h:∃r∈rs,r=[]):dR rs=false:=by obtain⟨r,hr,e⟩:=h;unfold dR;have:rs.all (fun r=>decide (r≠[]))=false:=List.all_eq_false.mpr ⟨r,hr,by simp[e]⟩;rw[this,Ud]
theorem AY(h:cc rs.flatten=false):dR rs=false:=by unfold dR;rw[h];simp
theorem yL(hne:∀r∈rs,r≠[])(hE:cc rs.flatten=true):dR rs=(oA rs&&!cW (jz rs)):=by unfold dR;have:rs.all (fun r=>decide (r≠[]))=true:=SS.mpr fun r hr=>decide_eq_true (hne r hr);rw[this,hE,TN,TN]
theorem sG{rs:List (List Int)}(hE:cc rs.flatten=true):rs.flatten.Nodup:=((gf _).mp hE).nodup_iff.mpr (vS _)
theorem lK:∀{rs:List (List Int)},rs.flatten.Nodup->(∀r∈rs,r.Nodup)/\rs.Pairwise fun a b=>∀x∈a,x∉b
 | [],_=>⟨fun r hr=>absurd hr (by simp),W3⟩
 |r::rs,h=>by
  rw[U3,Vz]at h;obtain⟨h1,h2,h3⟩:=h;obtain⟨i1,i2⟩:=lK h2;refine⟨fun q hq=>?_,.cons (fun q hq x hx hx'=>h3 x hx x (List.mem_flatten.mpr ⟨q,hq,hx'⟩) rfl) i2⟩;rcases GT.mp hq with z|z;·rw[z];exact h1
  ·exact i1 q z
theorem tK{rs:List (List Int)}(h:rs.flatten.Nodup){r:List Int}(hr:r∈rs):r.Nodup:=by exact(lK h).1 r hr
theorem vf(ha:a≠[])(hb:b≠[])(h:cM b a=false)(ne:hd a≠hd b):hd a<hd b:=by cases a with
 |nil=>exact absurd rfl ha
 |cons x a=>cases b with
  |nil=>exact absurd rfl hb
  |cons y b=> have ne':x≠y:=ne;show x<y;have h':(if y=x then cM b a else decide (y<x))=false:=h;rw[if_neg (fun z=>ne' z.symm)]at h';have:=of_decide_eq_false h';lia
theorem pK(ha:a≠[])(hb:b≠[])(h:hd a<hd b):cM b a=false:=by cases a with
 |nil=>exact absurd rfl ha
 |cons x a=>cases b with
  |nil=>exact absurd rfl hb
  |cons y b=> have h':x<y:=h;show(if y=x then cM b a else decide (y<x))=false;rw[if_neg (by lia)];exact decide_eq_false (by lia)
theorem yk{rs:List (List Int)}(hne:∀r∈rs,r≠[])(h:rs.flatten.Nodup):rs.Pairwise fun a b=>hd a≠hd b:=by exact(lK h).2.imp_of_mem fun ha hb hd' e=>by have h1:=xj (hne _ ha);have h2:=xj (hne _ hb);rw[<-e]at h2;exact hd' _ h1 h2
theorem v7{r:List Int}(h:r.Pairwise (·<=·))(nd:r.Nodup):r.Pairwise (·<·):=by have:=List.Pairwise.and h nd;exact this.imp fun⟨h1,h2⟩=>by lia
theorem A6{rs ts ss:List (List Int)}(hts:TY (fun(r q:List Int)=>q.Perm r/\q.Pairwise (·<=·)) rs ts)(hp:ss.Perm ts)(hs:ss.Pairwise fun a b=>cM b a=false)(hne:∀r∈rs,r≠[])(hE:cc rs.flatten=true):decide (rs=ss)=oA rs:=by
 have nd:=sG hE;unfold oA;rw[TH,decide_eq_true_iff,decide_eq_true_iff];constructor
 ·intro e
  constructor
  ·intro r hr
   have h1:r∈ts:=hp.mem_iff.mp (e▸hr);have go:∀{rs ts:List (List Int)},TY (fun(r q:List Int)=>q.Perm r/\q.Pairwise (·<=·)) rs ts->∀q∈ts,q.Pairwise (·<=·):=by intro rs ts h;induction h with
    |nil=>intro q hq;cases hq
    |cons x _ ih=>
     intro q hq;rcases GT.mp hq with z|z;·rw[z];exact x.2
     ·exact ih q z
   exact v7 (go hts r h1) (tK nd hr)
  ·rw[U4]
   rw[<-e]at hs;exact(hs.and (yk hne nd)).imp_of_mem fun ha hb⟨h1,h2⟩=>vf (hne _ ha) (hne _ hb) h1 h2
 ·rintro⟨h1,h2⟩
  have et:ts=rs:=by
   have go:∀{rs ts:List (List Int)},TY (fun(r q:List Int)=>q.Perm r/\q.Pairwise (·<=·)) rs ts->(∀r∈rs,r.Pairwise (·<·))->ts=rs:=by intro rs ts h;induction h with
    |nil=>intro _;rfl
    |cons x _ ih=> intro hr;rw[ih fun r hr'=>hr r (SH _ hr')];congr 1;exact UD (le:=(·<=·)) (fun a b _ _ h1 h2=>Int.le_antisymm h1 h2) x.2 ((hr _ (SY ..)).imp Int.le_of_lt) x.1
   exact go hts h1
  rw[et]at hp;rw[U4]at h2;have h2':rs.Pairwise fun a b=>cM b a=false:=h2.imp_of_mem fun ha hb h=>pK (hne _ ha) (hne _ hb) h;exact(UD (le:=fun a b=>cM b a=false) (fun a b _ _ h1 h2=>nM a b h2 h1) hs h2' hp).symm
noncomputable abbrev lst(r:List Int):Int:=r.getD (r.length-1) 0
end Ck
namespace L2
open PySem PySem.Spec PyProof.Rows Ck
end L2
namespace Ck
open PySem L2
theorem hJ{α β:Type}{R:α->β->Prop}:∀{as cs:List α}{bs ds:List β},TY R as bs->TY R cs ds->TY R (as++cs) (bs++ds)
 |_,_,_,_,.nil,h=>h
 |_,_,_,_,.cons r t,h=>.cons r (hJ t h)
def cJ(H:Hp)(bs:List GM)(xss:List (List V)):Prop:=TY (fun(b:GM)(xs:List V)=>H b=some (.lst xs)) bs xss
theorem cJ.same(h:cJ H bs xss)(s:af H H'):cJ H' bs xss:=Paired.mapP h fun _ _ e=>s _ _ e
theorem cJ.get:∀{bs:List GM}{xss:List (List V)},cJ H bs xss->∀{j:Nat}{v:V},(bs.map V.ref)[j]?=some v->∃b xs,v=.ref b/\xss[j]?=some xs/\H b=some (.lst xs)
 |_,_,.nil,j,v,e=>by simp at e
 |_,_,.cons r t,0,v,e=>⟨_,_,(by simpa using e.symm),rfl,r⟩
 |_,_,.cons r t,j+1,v,e=>by obtain⟨b,xs,h1,h2,h3⟩:=cJ.get t (j:=j) (by simpa using e);exact⟨b,xs,h1,by simpa using h2,h3⟩
theorem cP.rws(h:cP H0 H a rs):∃bs:List GM,H a=some (.lst (bs.map V.ref))/\cJ H bs (rs.map fun r=>r.map V.int):=by
 obtain⟨bs,e,r,_⟩:=h;refine⟨bs,e,?_⟩;have go:∀{bs:List GM}{rs:List (List Int)},aX H0 H a bs rs->cJ H bs (rs.map fun r=>r.map V.int):=by intro bs rs r;induction r with
  |nil=>exact .nil
  |cons x _ ih=>exact .cons x.1 ih
 exact go r
theorem cJ.len(h:cJ H bs xss):bs.length=xss.length:=UI h
theorem oM(rs:List (List Int)):(rs.map fun r=>r.map V.int).flatten=rs.flatten.map V.int:=by rw[List.map_flatten]
end Ck
namespace Sx
open PySem PySem.SetTable
theorem sub_len:∀{l1 l2:List Nat},l1.Nodup->(∀x∈l1,x∈l2)->l1.length<=l2.length
 | [],l2,_,_=>KM _
 |a::l1,l2,nd,h=>by rw[T8]at nd;have ha:=h a (SY ..);have:=sub_len (l1:=l1) (l2:=l2.erase a) nd.2 fun x hx=>(List.mem_erase_of_ne (fun e=>nd.1 (by rw[<-e];exact hx))).mpr (h x (SH _ hx));rw[List.length_erase_of_mem ha]at this;have hp:=List.length_pos_of_mem ha;simp only[Tu];lia
theorem AF{l:List Nat}{m:Nat}(h:l.length<=m):∃t,t<=m/\t∉l:=by
 apply WV;intro hn;have:=sub_len (l1:=SO (m+1)) (l2:=l) List.nodup_range fun x hx=>by apply WV;intro hx';exact hn ⟨x,VY.mp (SX.mp hx),hx'⟩
 rw[UM]at this;lia
def cI(xs:List Nat):Prop:=xs.Pairwise (·<·)
theorem jO(xs:Array Nat)(j:Nat)(hr:cI xs.toList):∀(fuel lo hi:Nat),hi-lo<=fuel->lo<=hi->hi<=xs.size->(∀i x,i<lo->xs[i]?=some x->x<j)->(∀i x,hi<=i->xs[i]?=some x->j<=x)->below.go xs j fuel lo hi<=xs.size/\(∀i x,i<below.go xs j fuel lo hi->xs[i]?=some x->x<j)/\∀i x,below.go xs j fuel lo hi<=i->xs[i]?=some x->j<=x
 |0,lo,hi,hf,hl,hh,h1,h2=>by
  have e:lo=hi:=by lia
  subst e;exact⟨hh,h1,h2⟩
 |fuel+1,lo,hi,hf,hl,hh,h1,h2=>by
  unfold below.go;by_cases h:lo<hi
  ·rw[if_pos h]
   have hm:(lo+hi)/2<xs.size:=by lia
   have gm:xs[(lo+hi)/2]?=some xs[(lo+hi)/2]:=S7 hm;have gd:xs.getD ((lo+hi)/2) j=xs[(lo+hi)/2]:=by simp[hm]
   simp only[gd];have mono:∀a b x y,a<b->xs[a]?=some x->xs[b]?=some y->x<y:=fun a b x y hab ha hb=>by obtain⟨la,ea⟩:=S4.mp ha;obtain⟨lb,eb⟩:=S4.mp hb;have:=Tb.mp hr a b (by simpa using la) (by simpa using lb) hab;simp only[Ws]at this;omega
   by_cases c:xs[(lo+hi)/2]<j
   ·rw[if_pos c]
    refine jO xs j hr fuel _ _ (by lia) (by lia) hh (fun i x hlt hx=>?_) h2;by_cases e:i=(lo+hi)/2;·subst e;rw[gm]at hx;cases hx;exact c
    ·have:=mono i ((lo+hi)/2) x _ (by lia) hx gm;lia
   ·rw[if_neg c]
    refine jO xs j hr fuel _ _ (by lia) (by lia) (by lia) h1 (fun i x hlt hx=>?_);by_cases e:i=(lo+hi)/2;·subst e;rw[gm]at hx;cases hx;lia
    ·have:=mono ((lo+hi)/2) i _ x (by lia) gm hx;lia
  ·rw[if_neg h]
   have e:lo=hi:=by lia
   subst e;exact⟨hh,h1,h2⟩
theorem below_at(xs:Array Nat)(j:Nat)(hr:cI xs.toList):below xs j<=xs.size/\(∀i x,i<below xs j->xs[i]?=some x->x<j)/\∀i x,below xs j<=i->xs[i]?=some x->j<=x:=by unfold below;refine jO xs j hr xs.size 0 xs.size (by lia) (KM _) (M2 _) (fun i x hi _=>absurd hi (UC _)) fun i x hi hx=>?_;rw[TX hi]at hx;cases hx
theorem sk(hr:cI xs.toList)(h:j∉xs.toList):(xs[below xs j]?==some j)=false:=by rw[beq_eq_false_iff_ne];intro e;exact h (by rw[Wr];exact Array.mem_of_getElem? e)
theorem wV{t:VZ}{j:Nat}(hr:cI t.place.toList)(hd:t.dummies=#[])(h:j∉t.place.toList):t.slot j=.empty:=by
 unfold X4;simp only[sk hr h,Ta,if_false];have:has t.dummies j=false:=by rw[hd];rfl
 rw[this];rfl
theorem mf{t:VZ}{j:Nat}(hd:t.dummies=#[]):t.slot j=.empty\/∃i,t.slot j=.live i:=by
 unfold X4;have:has t.dummies j=false:=by rw[hd];rfl
 simp only[this];split;·exact .inr ⟨_,rfl⟩
 ·exact .inl rfl
theorem uG{t:VZ}{j:Nat}(hr:cI t.place.toList)(h:t.slot j=.empty):j∉t.place.toList:=by
 intro hj;unfold X4 at h;obtain⟨h0,h1,h2⟩:=below_at t.place j hr;obtain⟨i,hi⟩:=TV hj;have hi':t.place[i]?=some j:=by simpa using hi
 have e:below t.place j=i:=by
  rcases Nat.lt_trichotomy i (below t.place j)with z|z|z;·have:=h1 i j z hi';lia
  ·exact z.symm
  ·have lt:below t.place j<t.place.size:=Nat.lt_trans z (S4.mp hi').1
   have g:=S7 lt;have:=h2 _ _ (M2 _) g;obtain⟨li,ei⟩:=S4.mp hi';have m:=Tb.mp hr _ _ (by simpa using lt) (by simpa using li) z;simp only[Ws]at m;lia
 simp only[e,hi',beq_self_eq_true,if_true]at h;cases h
noncomputable def iter(m:Nat):Nat->Nat×Nat->Nat×Nat
 |0,p=>p
 |k+1,p=>iter m k (leap m p.1 p.2)
theorem fN(m:Nat):∀(a b:Nat)(p:Nat×Nat),iter m (a+b) p=iter m b (iter m a p)
 |0,b,p=>by rw[Nat.zero_add];rfl
 |a+1,b,p=>by rw[show a+1+b=(a+b)+1 by lia];exact fN m a b _
theorem jM(m:Nat):∀(k:Nat)(p:Nat×Nat),(iter m k p).2=p.2/32^k
 |0,p=>by show p.2=_;simp
 |k+1,p=>by show(iter m k (leap m p.1 p.2)).2=_;rw[jM m k];show p.2/32/32^k=_;rw[Nat.div_div_eq_div_mul,Nat.pow_succ,Nat.mul_comm]
theorem pP(m:Nat):∀(k:Nat)(p:Nat×Nat),p.1<=m->(iter m k p).1<=m
 |0,p,h=>h
 |k+1,p,h=>pP m k _ (by show(p.1*5+1+p.2/32)% (m+1)<=m;exact VY.mp (X9 _ (WN _)))
noncomputable def uE(m:Nat):Nat->Nat->List Nat
 |0,_=>[]
 |k+1,i=>i::uE m k ((i*5+1)% (m+1))
theorem kA(m:Nat):∀(k i t:Nat),t∈uE m k i->∃n,n<k/\(iter m n (i,0)).1=t
 |k+1,i,t,h=>by
  rcases GT.mp h with rfl|h;·exact⟨0,WN _,rfl⟩
  ·obtain⟨n,hn,e⟩:=kA m k _ t h
   exact⟨n+1,by lia,by show(iter m n (leap m i 0)).1=t;have:leap m i 0=((i*5+1)% (m+1),0):=rfl;rw[this];exact e⟩
def qW(m:Nat):Prop:=m=7\/m=31\/m=127
def whole(m:Nat):Bool:=(let o:=uE m (m+1) 0; (SO (m+1)).all fun t=>o.contains t)&&decide (iter m (m+1) (0,0)=(0,0))
theorem Fb:whole 7=true:=by decide+kernel
theorem yW:whole 31=true:=by decide+kernel
theorem xc:whole 127=true:=by decide+kernel
theorem qW.whole(h:qW m):whole m=true:=by
 rcases h with rfl|rfl|rfl;·exact Fb
 ·exact yW
 ·exact xc
theorem xh(m:Nat)(k i:Nat):iter m k (i,0)=((iter m k (i,0)).1,0):=by
 have:(iter m k (i,0)).2=0:=by rw[jM];exact Nat.zero_div _
 exact XM rfl this
theorem around(hm:qW m)(hi:i<=m)(ht:t<=m):∃n,n<=m/\(iter m n (i,0)).1=t:=by
 have hw:=hm.whole;unfold Sx.whole at hw;rw[On,decide_eq_true_iff]at hw;have at_:∀s,s<=m->∃n,n<m+1/\(iter m n (0,0)).1=s:=fun s hs=>by have:=SS.mp hw.1 s (SX.mpr (VY.mpr hs));exact kA m (m+1) 0 s (by simpa using this)
 obtain⟨a,ha,ea⟩:=at_ i hi;obtain⟨b,hb,eb⟩:=at_ t ht;have ei:iter m a (0,0)=(i,0):=by rw[xh,ea]
 by_cases c:a<=b
 ·refine⟨b-a,by lia,?_⟩
  rw[<-ei,<-fN,show a+(b-a)=b by lia,eb]
 ·refine⟨b+(m+1)-a,by lia,?_⟩
  rw[<-ei,<-fN,show a+(b+(m+1)-a)=m+1+b by lia,fN,hw.2,eb]
theorem reach(hm:qW m)(hi:i<=m)(hx:x<2^64)(ht:t<=m):∃k,k<=13+m/\(iter m k (i,x)).1=t:=by
 have h13:(iter m 13 (i,x)).2=0:=by rw[jM];exact Nat.div_eq_of_lt (SN hx (by decide))
 have hf:=pP m 13 (i,x) hi;obtain⟨n,hn,e⟩:=around hm hf ht;refine⟨13+n,by lia,?_⟩;rw[fN,<-e];have ep:iter m 13 (i,x)=((iter m 13 (i,x)).1,0):=by rw[<-h13]
 rw[ep]
theorem DP(h:Int):bits h<2^64:=by
 unfold bits;have h0:=TJ h (show(2^64:Int)≠0 by decide);have h1:=Tx h (show(0:Int)<2^64 by decide);have e:(2:Int)^64=18446744073709551616:=by decide
 have e2:(2:Nat)^64=18446744073709551616:=by decide
 rw[e]at h0 h1|-;rw[e2];lia
noncomputable def begin_(m i x:Nat):Probe:={j:=i,more:=runEnd m i-i,i:=i,perturb:=x,dummy:=none}
theorem vY{t:VZ}{hashAt:Nat->Int}{h:Int}(hd:t.dummies=#[])(nh:∀i,i<t.place.size->hashAt i≠h)(nl:∀j i,t.slot j=.live i->i<t.place.size):∀(r fuel:Nat)(p:Probe),p.more=r->p.dummy=none->p.j+r<=t.mask->r+1<=fuel->(∃j,probe.go t hashAt h fuel p=some (.empty j none)/\t.slot j=.empty/\j<=t.mask)\/probe.go t hashAt h fuel p=probe.go t hashAt h (fuel- (r+1)) (begin_ t.mask (leap t.mask p.i p.perturb).1 (leap t.mask p.i p.perturb).2)
 |r,0,p,hr,hdm,hb,hf=>by lia
 |r,fuel+1,p,hr,hdm,hb,hf=>by
  rcases mf (t:=t) (j:=p.j) hd with e| ⟨i,e⟩
  ·refine .inl ⟨p.j,?_,e,by lia⟩
   unfold probe.go;rw[e,hdm]
  ·have ne:(hashAt i==h)=false:=beq_eq_false_iff_ne.mpr (nh i (nl _ _ e))
   have st:probe.go t hashAt h (fuel+1) p=probe.go t hashAt h fuel (t.advance p):=by
    conv=>lhs;unfold probe.go
    rw[e];simp only[ne,Ta,if_false]
   rw[st];cases r with
   |zero=>
    refine .inr ?_;have ea:t.advance p=begin_ t.mask (leap t.mask p.i p.perturb).1 (leap t.mask p.i p.perturb).2:=by unfold advance;rw[hr,if_neg (Tz _)];unfold begin_;rw[hdm]
    rw[ea];rfl
   |succ r=>
    have ea:t.advance p={p with j:=p.j+1,more:=r}:=by unfold advance;rw[hr,if_pos (WN _),VW]
    rw[ea];rcases vY hd nh nl r fuel {p with j:=p.j+1,more:=r} rfl hdm (by show p.j+1+r<=t.mask;lia) (by lia)with z|z;·exact .inl z
    ·refine .inr (z.trans ?_)
     rw[show fuel+1- (r+1+1)=fuel- (r+1)by lia]
theorem wg(m i:Nat):runEnd m i-i<=9:=by unfold runEnd;split<;>lia
theorem sL(h:i<=m):i+(runEnd m i-i)<=m:=by unfold runEnd;split<;>lia
theorem pJ(hd:t.dummies=#[])(nh:∀i,i<t.place.size->hashAt i≠h)(nl:∀j i,t.slot j=.live i->i<t.place.size):∀(k fuel i x:Nat),i<=t.mask->t.slot (iter t.mask k (i,x)).1=.empty->10*(k+1)<=fuel->∃j,probe.go t hashAt h fuel (begin_ t.mask i x)=some (.empty j none)/\t.slot j=.empty/\j<=t.mask
 |0,fuel,i,x,hi,he,hf=>by obtain⟨f,rfl⟩:∃f,fuel=f+1:=⟨fuel-1,by lia⟩;refine⟨i,?_,he,hi⟩;have he':t.slot (begin_ t.mask i x).j=.empty:=he;unfold probe.go;rw[he'];rfl
 |k+1,fuel,i,x,hi,he,hf=>by
  have rl:=wg t.mask i;rcases vY hd nh nl (runEnd t.mask i-i) fuel (begin_ t.mask i x) rfl rfl (sL hi) (by lia)with z|z;·exact z
  ·rw[z]
   exact pJ hd nh nl k _ _ _ (by show(i*5+1+x/32)% (t.mask+1)<=t.mask;exact VY.mp (X9 _ (WN _))) he (by lia)
theorem pb{t:VZ}{j i:Nat}(h:t.slot j=.live i):i<t.place.size:=by
 have e:t.slot j=if(t.place[below t.place j]?==some j)=true then .live (below t.place j)else if has t.dummies j=true then .dummy else .empty:=rfl;rw[e]at h;by_cases c:(t.place[below t.place j]?==some j)=true
 ·rw[if_pos c]at h
  cases h
  exact(S4.mp (by simpa using c)).1
 ·rw[if_neg c]at h
  by_cases d:has t.dummies j=true;·rw[if_pos d]at h;cases h
  ·rw[if_neg d]at h;cases h
theorem uw{t:VZ}{hashAt:Nat->Int}{h:Int}(hm:qW t.mask)(hr:cI t.place.toList)(hd:t.dummies=#[])(hs:t.place.size<=t.mask)(nh:∀i,i<t.place.size->hashAt i≠h):∃j,t.probe hashAt h (t.probeStart h)=some (.empty j none)/\j∉t.place.toList/\j<=t.mask:=by obtain⟨g,hg,ng⟩:=AF (l:=t.place.toList) (m:=t.mask) (by simpa using hs);have hi:bits h% (t.mask+1)<=t.mask:=VY.mp (X9 _ (WN _));obtain⟨k,hk,ek⟩:=reach hm hi (DP h) hg;obtain⟨j,hj,he,jm⟩:=pJ (hashAt:=hashAt) (h:=h) hd nh (fun j i e=>pb e) k (10*turns t.mask) (bits h% (t.mask+1)) (bits h) hi (by rw[ek];exact wV hr hd ng) (by unfold turns;lia);exact⟨j,hj,uG hr he,jm⟩
theorem ff{α:Type}(xs:Array α)(p:Nat)(x:α)(hp:p<=xs.size):(insertAt xs p x).toList=xs.toList.take p++x::xs.toList.drop p:=by unfold insertAt;rw[Array.toList_append,W8,XQ,XQ];simp[List.extract_eq_drop_take];exact Tg (by simp)
theorem jF{α:Type}(xs:List α)(p:Nat)(x:α):(xs.take p++x::xs.drop p).Perm (x::xs):=by have:=List.perm_middle (a:=x) (l₁:=xs.take p) (l₂:=xs.drop p);rwa[UY]at this
theorem uT(hr:cI xs.toList)(h:j∉xs.toList):cI (insertAt xs (below xs j) j).toList:=by
 obtain⟨h0,h1,h2⟩:=below_at xs j hr;rw[ff _ _ _ h0];have lt:∀x∈xs.toList.take (below xs j),x<j:=fun x hx=>by
  obtain⟨i,hi⟩:=TV hx;rw[List.getElem?_take]at hi;split at hi;·rename_i hlt;exact h1 i x hlt (by simpa using hi)
  ·cases hi
 have gt:∀x∈xs.toList.drop (below xs j),j<x:=fun x hx=>by obtain⟨i,hi⟩:=TV hx;rw[List.getElem?_drop]at hi;have:=h2 (below xs j+i) x (Vj _ _) (by simpa using hi);have ne:x≠j:=fun e=>h (by rw[<-e];exact S5 hi);lia
 refine VF.mpr ⟨hr.sublist (W2 _ _),List.pairwise_cons.mpr ⟨gt,hr.sublist (List.drop_sublist _ _)⟩,fun a ha b hb=>?_⟩;rcases GT.mp hb with rfl|hb;·exact lt a ha
 ·exact Nat.lt_trans (lt a ha) (gt b hb)
structure Tab(t:VZ)(n:Nat):Prop where
 msk:qW t.mask
 ris:cI t.place.toList
 top:∀j∈t.place.toList,j<=t.mask
 dum:t.dummies=#[]
 len:t.place.size=n
 few:t.place.size<=t.mask
theorem Tab.fresh(f mv:Nat)(led:Bool):Tab (.fresh f mv led) 0:=⟨.inl rfl,W3,(fun j h=>nomatch h),rfl,rfl,KM _⟩
theorem Tab.put(T:Tab t n)(hj:j∉t.place.toList)(hjm:j<=t.mask)(room:n+1<=t.mask):Tab (t.put j).1 (n+1)/\(t.put j).2=below t.place j/\(t.put j).1.plain=t.plain/\(t.put j).1.led=t.led/\(t.put j).1.mask=t.mask:=by
 have h0:=(below_at t.place j T.ris).1;have hd:has t.dummies j=false:=by rw[T.dum];rfl
 have el:=ff t.place (below t.place j) j h0;have ls:(insertAt t.place (below t.place j) j).size=n+1:=by rw[<-S6,el,SW,Tj,Tu,Xm,S6,T.len];have:=T.len;lia
 refine⟨⟨T.msk,uT T.ris hj,fun i hi=>?_,?_,ls,by show(insertAt t.place (below t.place j) j).size<=t.mask;lia⟩,rfl,rfl,rfl,rfl⟩
 ·have hi':i∈(insertAt t.place (below t.place j) j).toList:=hi
  rw[el]at hi';rcases GT.mp ((jF t.place.toList (below t.place j) j).mem_iff.mp hi')with rfl|hi';·exact hjm
  ·exact T.top i hi'
 ·show(if has t.dummies j=true then _ else t.dummies)=#[]
  rw[hd];exact T.dum
structure Own(m:Nat)(owner:Array (Option Nat))(js:List Nat):Prop where
 size:owner.size=m+1
 nd:js.Nodup
 top:∀j∈js,j<=m
 own:∀j k:Nat,owner.getD j none=some k↔js[k]?=some j
structure Good(t:VZ)(n:Nat):Prop where
 tab:Tab t n
 lax:t.tooFull=false
theorem Good.fresh(f mv:Nat)(led:Bool):Good (.fresh f mv led) 0:=⟨Tab.fresh f mv led,by unfold tooFull fill SetTable.fresh;simp⟩
theorem Tab.fits(T:Tab t n):(t.place.size !=n||decide (t.fill>t.mask))=false:=by have:=T.few;unfold fill;rw[T.dum,T.len]at*;simp;lia
end Sx
namespace Sx
open PySem PyProof.Rows
noncomputable def di(p:Int×Int):Int:=reduceHash (Builtin.Tuple.tupleHashOf [hashInt p.1,hashInt p.2])
noncomputable def Nh:List (Int×Int):=(SO 44).flatMap fun(b:Nat)=>(SO b).map fun(a:Nat)=>((a:Int),(b:Int))
noncomputable def qI(m:Int):List (Int×Int)->Nat->Bool
 | [],_=>true
 |p::l,B=>!Nat.testBit B (di p%m).toNat&&qI m l (B|||1<<< (di p%m).toNat)
theorem EY:qI 8247 Nh 0=true:=by decide+kernel
theorem qw:∀{l:List (Int×Int)}{B:Nat},qI m l B=true->∀p∈l,Nat.testBit B (di p%m).toNat=false
 |q::l,B,h,p,hp=>by
  unfold qI at h;rw[On,Wa]at h;rcases GT.mp hp with rfl|hp;·exact h.1
  ·have:=qw h.2 p hp
   rw[Nat.testBit_or,VG]at this;exact this.1
theorem EW:∀{B:Nat},qI m l B=true->∀p∈l,∀q∈l,di p=di q->p=q:=by induction l with
 |nil=>intro B _ p hp;cases hp
 |cons r l ih=>
  intro B h p hp q hq e;have h':(!Nat.testBit B (di r%m).toNat&&qI m l (B|||1<<< (di r%m).toNat))=true:=h;rw[On]at h';have bit:∀s∈l,di s≠di r:=fun s hs z=>by have:=qw h'.2 s hs;rw[Nat.testBit_or,VG,z]at this;have t1:=this.2;rw[Nat.one_shiftLeft,Nat.testBit_two_pow_self]at t1;cases t1
  rcases GT.mp hp with e1|hp'
  ·rcases GT.mp hq with e2|hq'
   ·rw[e1,e2]
   ·rw[e1]at e;exact absurd e.symm (bit q hq')
  ·rcases GT.mp hq with e2|hq'
   ·rw[e2]at e;exact absurd e (bit p hp')
   ·exact ih h'.2 p hp' q hq' e
def Lo(p:Int×Int):Prop:=0<=p.1/\p.1<p.2/\p.2<44
theorem Lo.mem(h:Lo p):p∈Nh:=by
 obtain⟨h1,h2,h3⟩:=h;unfold Nh;rw[List.mem_flatMap];refine⟨p.2.toNat,SX.mpr (by lia),Uw.mpr ⟨p.1.toNat,SX.mpr (by lia),?_⟩⟩;refine XM ?_ ?_;·show((p.1.toNat:Nat):Int)=p.1;lia
 ·show((p.2.toNat:Nat):Int)=p.2;lia
theorem Iq(hp:Lo p)(hq:Lo q)(e:di p=di q):p=q:=EW EY p hp.mem q hq.mem e
section
variable{prog:SK}{w:Tc}{A:Tf}{E:Do->FB->Prop}{s:FB}
noncomputable abbrev fC(prog:SK)(w:Tc)(h:Ux)(T:GM)(p:Int×Int):Prop:=IsTupleKey (intKind prog w) h [p.1,p.2] T
theorem Fj(ho:h.get? T=some o)(hc:o.cls=.type "tuple")(hd:o.data=.seq #[.int p.1 t,.int p.2 u] n):fC prog w h T p:= ⟨o,_,n,ho,hc,hd,.cons (intKind_is _ _ _ _) (.cons (intKind_is _ _ _ _) .nil)⟩
theorem mz{p:Int×Int}{items:List Do}(h:ItemsAre (intKind prog w) [p.1,p.2] items):∃t u,items=[.int p.1 t,.int p.2 u]:=by cases h with |cons h1 h=>cases h with |cons h2 h=>
   cases h
   obtain⟨t,rfl⟩:=WX h1;obtain⟨u,rfl⟩:=WX h2;exact⟨t,u,rfl⟩
theorem qd{T:GM}{p:Int×Int}{Q:Bool->FB->Prop}(hk:fC prog w s.heap T p)(q:Q true s):wpAny (model prog w) A (hashByValue 8 (.ref T)) Q E s:=by
 have hT:=hk.typeIs;obtain⟨o,items,n,ho,hc,hd,hi⟩:=hk;obtain⟨t,u,ei⟩:=mz hi;have ea:items=#[.int p.1 t,.int p.2 u]:=by
  cases items
  simp only at ei;rw[ei]
 subst ea;unfold hashByValue;refine tz (Vt hT F.slot_tuple_hash.lookup ?_);simp only;refine tz ?_;unfold seqItems?;refine tz (wpAny_load ho ?_);rw[hd];refine Gc ?_;simp only[Wo,<-Vn,WB,XR,hashByValue,pure_bind];simp only[Ww,Ta,if_false,pure_bind];exact Gc q
structure eL(h:Ux)(a:GM)(led:Bool)(es:Array (Int×Do)):Prop where at_:∃o ep t,h.get? a=some o/\o.ExactSet/\o.data=.set es ep t/\Good t es.size/\t.led=led/\t.plain=true
theorem fits_of(T:Tab t n):t.fits n=true:=by have h:=T.fits;unfold SetTable.fits;rw[VG]at h;rw[On];refine⟨by simpa using h.1,?_⟩;have:=h.2;simp at this;simp;lia
theorem qh(ho:s.heap.get? a=some o)(hd:o.data=.set es ep t)(G:Good t es.size)(nh:∀e∈es.toList,e.1≠h)(q:∀j,j∉t.place.toList->j<=t.mask->Q (.free j false) s):wpAny (model prog w) A (setSearch a x h true) Q E s:=by
 have T:=G.tab;obtain⟨j,hj,nj,jm⟩:=uw (t:=t) (hashAt:=fun i=>(es[i]?.map (·.1)).getD 0) (h:=h) T.msk T.ris T.dum T.few fun i hi=>by rw[T.len]at hi;rw[S7 hi];exact nh _ (by rw[Wr];exact Array.getElem_mem hi)
 unfold setSearch setSearchFrom;refine tz (U7 ho hd (fits_of T) ?_);have gw:t.gaveWay=false:=by unfold SetTable.gaveWay;rcases T.msk with e|e|e<;>rw[e]<;>rfl
 simp only[gw,Ta,if_false,Xn];erw [hj];exact Gc (q j nj jm)
theorem uI{h:Ux}{a:GM}{o:Obj}{es es':Array (Int×Do)}{ep:Nat}{t t':VZ}(ho:h.get? a=some o)(hd:o.data=.set es ep t):(h.update a (Obj.putSet es' t')).get? a=some {o with data:=.set es' (ep+1) t'}:=by have:=S3 (Obj.putSet es' t') ho (by rw[putSet_of es' t' hd];rfl);rw[putSet_of es' t' hd]at this;exact this
end
theorem slot_next:Slot "set_iterator" "__next__" "set_iterator.__next__" :=.of (owner:="set_iterator") (n:="__next__") (by rw[WE,Vu];kernel_rfl) (by decide+kernel) (by decide+kernel) (by decide+kernel) (by first|exact .inl (by decide+kernel)|exact .inr (by decide+kernel)) (by rw[WW];kernel_rfl)
theorem entry_next:entryFor table "set_iterator.__next__" =some Builtin.«set_iterator.__next__»:=entryFor_of_tree (by kernel_rfl)
theorem u6:entryFor table "set.__iter__" =some Builtin.«frozenset.__iter__»:=entryFor_alias (id':="frozenset.__iter__") (by kernel_rfl) rfl (by decide+kernel) (by kernel_rfl)
theorem pH:Manifest.owners.lookup (String.ofList ['r','o','t','a','r','e','t','i','_','t','e','s'].reverse)=some Manifest.sig_set_iterator:=by kernel_rfl
theorem args_next(a:Do):argsOk "set_iterator.__next__" ⟨[a],[]⟩:=by unfold argsOk;rw[signature?_of (id:="set_iterator.__next__") (n:=['_','_','t','x','e','n','_','_']) (o:=['r','o','t','a','r','e','t','i','_','t','e','s']) (by kernel_rfl) pH];kernel_rfl
theorem qV{α:Type}(next:Nat->Nat):∀(fuel k:Nat)(left:List α)(out:Array α),left.length=fuel->(Yi next fuel k left out).toList.Perm (out.toList++left)
 |0,k,left,out,h=>by have:left=[]:=UE h;subst this;unfold Yi;rw[T7]
 |fuel+1,k,left,out,h=>by have lt:next k%left.length<left.length:=X9 _ (by lia);unfold Yi;rw[Da lt];simp only;refine(qV next fuel (k+1) _ _ (by rw[List.length_eraseIdx_of_lt lt];lia)).trans ?_;rw[W8,Uy];refine List.Perm.append_left _ ?_;rw[List.eraseIdx_eq_take_drop_succ];have e:=List.perm_middle (a:=left[next k%left.length]) (l₁:=left.take (next k%left.length)) (l₂:=left.drop (next k%left.length+1));rw[List.getElem_cons_drop,UY]at e;exact e.symm
theorem vj{α:Type}(next:Nat->Nat)(xs:Array α):(pickOrder next xs).toList.Perm xs.toList:=by have:=qV next xs.size 0 xs.toList #[] (by simp);exact this
noncomputable def bD(w:Tc):Bool:=w.params.followText "set-order"
def wk(w:Tc)(a:GM)(ep:Nat)(es:Array (Int×Do)):Array (Int×Do):=if bD w=true then pickOrder (w.params.setOrder a ep) es else es
theorem qz(w:Tc)(a:GM)(ep:Nat)(es:Array (Int×Do)):(wk w a ep es).toList.Perm es.toList:=by
 unfold wk;split;·exact vj _ _
 ·exact .refl _
theorem gP(w:Tc)(a:GM)(ep:Nat)(es:Array (Int×Do)):(wk w a ep es).size=es.size:=by rw[<-S6,(qz w a ep es).length_eq,S6]
noncomputable abbrev E3(h:Ux)(I a:GM)(slot i n ep:Nat):Prop:=h.get? I=some {cls:=.type "set_iterator",dict:=none,data:=.fields #[rawInt slot,rawInt i,.ref a,rawInt n,rawInt ep],slots:=#[]}
theorem lI(xs:Array Nat)(hr:cI xs.toList):Vk xs 0=0:=by
 obtain⟨h0,h1,h2⟩:=below_at xs 0 hr;rcases Nat.eq_zero_or_pos (Vk xs 0)with z|z;·exact z
 ·have:=h1 0 xs[0] z (S7 (by lia))
  lia
theorem rB(hr:cI xs.toList)(h:xs[i]?=some j):Vk xs (j+1)=i+1:=by
 obtain⟨h0,h1,h2⟩:=below_at xs (j+1) hr;obtain⟨li,ei⟩:=S4.mp h;have mono:∀a b x y,a<b->xs[a]?=some x->xs[b]?=some y->x<y:=fun a b x y hab ha hb=>by obtain⟨la,ea⟩:=S4.mp ha;obtain⟨lb,eb⟩:=S4.mp hb;have:=Tb.mp hr a b (by simpa using la) (by simpa using lb) hab;simp only[Ws]at this;omega
 rcases Nat.lt_trichotomy (Vk xs (j+1)) (i+1)with z|z|z;·have:=h2 i j (by lia) h;lia
 ·exact z
 ·have l:i+1<xs.size:=by lia
  have g:=S7 l;have a1:=h1 (i+1) _ z g;have a2:=mono i (i+1) j _ (by lia) h g;lia
section
variable{prog:SK}{w:Tc}{A:Tf}{E:Do->FB->Prop}{s:FB}
theorem ie(q:Q (bD w) s):wpAny (model prog w) A setsByText Q E s:=by unfold setsByText;exact tz (Xp (Gc q))
theorem zr(ho:s.heap.get? a=some o)(hex:o.ExactSet)(hd:o.data=.set es ep t)(T:Tab t es.size)(pl:t.plain=true)(q:Q (.ref s.heap.objs.size) {s with heap:=s.heap.push {cls:=.type "set_iterator",dict:=none,data:=.fields #[rawInt 0,rawInt 0,.ref a,rawInt es.size,rawInt ep],slots:=#[]}}):wpAny (model prog w) A (pyIter (.ref a)) Q E s:=by
 have hT:s.TypeIs (.ref a) "set":=⟨o,ho,hex.1⟩;refine wpAny_pyIter_slot hT F.slot_set_iter (UG F.slot_set_iter hT u6 ?_ (F.args_set_iter_1 _));unfold Builtin.«frozenset.__iter__» Builtin.Frozenset.slot0 slotArgs;simp only[Xq,Ww,Ta,↓reduceIte,bind_assoc,Vs,bne_self_eq_false];unfold Builtin.Frozenset.addrOf Builtin.Frozenset.sizeOf;refine tz (Gc ?_);try dsimp only
 refine tz (Gc ?_);refine tz (tz (WG ho hd (fits_of T) (Gc ?_)));refine tz ?_;unfold setDrawn;refine tz (U7 ho hd (fits_of T) ?_);refine tz (ie (Gc ?_));have nd:¬ ((!bD w&&(!t.plain&&decide (es.size>1)))=true):=by rw[pl];simp
 refine UQ (fun h=>absurd h nd) (fun _=>?_);refine tz (Gc ?_);refine tz (wpAny_setEpoch_of ho hd (fits_of T) ?_);unfold newFields;refine tz (UL ?_);refine Gc ⟨_,rfl,"set_iterator",_,⟨_,SB _ rfl,rfl⟩,slot_next.lookup,q⟩
structure jj(w:Tc)(h:Ux)(I a:GM)(es:Array (Int×Do))(ep:Nat)(t:VZ)(i:Nat):Prop where
 it:∃slot,E3 h I a slot i es.size ep/\(bD w=false->Vk t.place slot=i)
 st:∃o,h.get? a=some o/\o.data=.set es ep t
theorem qQ(ho:s.heap.get? a=some o)(hd:o.data=.set es ep t)(T:Tab t es.size)(pl:t.plain=true)(ld:t.led=!bD w)(hs:bD w=false->Vk t.place slot=i)(q0:es.size<=i->Q none s)(q1:∀e nx,(wk w a ep es)[i]?=some e->(bD w=false->Vk t.place nx=i+1)->Q (some (e.2,nx)) s):wpAny (model prog w) A (setNext a slot i ep) Q E s:=by unfold setNext;refine tz (U7 ho hd (fits_of T) ?_);refine tz (ie ?_);cases hb:bD w with
 |true=>
  simp only[if_true,bne_self_eq_false,Ta,if_false];refine tz ?_;unfold setWalk;refine tz (U7 ho hd (fits_of T) ?_);refine tz (ie ?_);simp only[hb,if_true];refine tz (Xp (Gc (Gc ?_)));have ew:wk w a ep es=pickOrder (w.params.setOrder a ep) es:=by unfold wk;rw[if_pos hb]
  show Q (((pickOrder (w.params.setOrder a ep) es)[i]?).map fun e=>(e.2,slot)) s;rw[<-ew];by_cases hi:i<es.size
  ·rw[S7 (show i< (wk w a ep es).size by rw[gP];exact hi)]
   exact q1 _ slot (S7 (show i< (wk w a ep es).size by rw[gP];exact hi)) fun z=>by rw[hb]at z;cases z
  ·rw[TX (by rw[gP];lia)]
   exact q0 (by lia)
 |false=>
  simp only[Ta,if_false];have nd:¬ ((!t.plain&&decide (es.size>1))=true):=by rw[pl];simp
  refine UQ (fun h=>absurd h nd) (fun _=>?_);refine tz ?_;show wpAny (model prog w) A (if(!t.led&&!es.isEmpty)=true then _ else _) _ E s;rw[if_neg (by rw[ld,hb];simp)];refine Gc (Gc ?_);rw[hs hb];have ew:wk w a ep es=es:=by unfold wk;rw[hb,if_neg (by decide)]
  by_cases hi:i<es.size
  ·have g1:=S7 hi
   have g2:=S7 (show i<t.place.size by rw[T.len];exact hi);rw[g1,g2];exact q1 _ _ (by rw[ew];exact g1) fun _=>rB T.ris g2
  ·rw[TX (show es.size<=i by lia)]
   exact q0 (by lia)
theorem wY{I a:GM}{es:Array (Int×Do)}{ep i:Nat}{t:VZ}{Q:Do->FB->Prop}(hne:a≠I)(S:jj w s.heap I a es ep t i)(T:Tab t es.size)(pl:t.plain=true)(ld:t.led=!bD w)(hi:i<es.size)(q:∀e h',(wk w a ep es)[i]?=some e->jj w h' I a es ep t (i+1)->Vo I s.heap h'->Q e.2 {s with heap:=h'}): wpAny (model prog w) A (Builtin.«set_iterator.__next__» ⟨[.ref I],[]⟩) (fun fin s'=>∃v,fin=.done (.ret v)/\Q v s') E s:=by obtain⟨⟨slot,hit,hs⟩,o,ho,hd⟩:=S;unfold Builtin.«set_iterator.__next__» slotArgs;simp only[Xq,Ww,Ta,↓reduceIte,Vs,bne_self_eq_false,pure_bind];refine tz (wpAny_fieldsOf hit rfl ?_);show wpAny (model prog w) A (setEntries a>>=_) _ E s;refine tz (WG ho hd (fits_of T) ?_);rw[if_neg (by simp)];show wpAny (model prog w) A (setNext a ((slot:Int)).toNat ((i:Int)).toNat ((ep:Int)).toNat>>=_) _ E s;rw[UK,UK,UK];refine tz (qQ ho hd T pl ld hs (fun z=>absurd z (by lia)) fun e nx he hn=>?_);show wpAny (model prog w) A (setField (.ref I) 0 (rawInt nx)>>=_) _ E s;refine tz (VX hit (by simp) fun h1 hit1 sb1=>?_);show wpAny (model prog w) A (setField (.ref I) 1 (rawInt ((i:Int)+1))>>=_) _ E _;refine tz (VX hit1 (by simp) fun h2 hit2 sb2=>?_);have sb:=sb1.trans sb2;refine Gc ⟨_,rfl,q e h2 he ⟨⟨nx,?_,hn⟩,o,(sb.2 a hne).trans ho,hd⟩ sb⟩;show h2.get? I=_;rw[hit2];rfl
theorem ym(hh:A.handled=none)(S:jj w s.heap I a es ep t i)(T:Tab t es.size)(pl:t.plain=true)(ld:t.led=!bD w)(hi:es.size<=i)(hE:∀h' e,Heap.ExtBut I s.heap h'->(∃o,h'.get? e=some o/\o.cls=.type "StopIteration")->E (.ref e) {s with heap:=h'}): wpAny (model prog w) A (Builtin.«set_iterator.__next__» ⟨[.ref I],[]⟩) Q E s:=by
 obtain⟨⟨slot,hit,hs⟩,o,ho,hd⟩:=S;unfold Builtin.«set_iterator.__next__» slotArgs;simp only[Xq,Ww,Ta,↓reduceIte,Vs,bne_self_eq_false,pure_bind];refine tz (wpAny_fieldsOf hit rfl ?_);show wpAny (model prog w) A (setEntries a>>=_) _ E s;refine tz (WG ho hd (fits_of T) ?_);rw[if_neg (by simp)];show wpAny (model prog w) A (setNext a ((slot:Int)).toNat ((i:Int)).toNat ((ep:Int)).toNat>>=_) _ E s;rw[UK,UK,UK];refine tz (qQ ho hd T pl ld hs (fun _=>?_) fun e nx he hn=>?_)
 ·show wpAny (model prog w) A (setField (.ref I) 2 .none>>=_) _ E s
  refine tz (VX hit (by simp) fun h1 hit1 sb1=>?_);show wpAny _ _ (newExc (.type "StopIteration") []>>=_) _ _ _;refine tz ?_;simp only[newExc,newTuple];refine tz (UL ?_ (by size_fits));refine tz (m:=firstArgMember _ _) (wpAny_of_eq (a:=TB) (by first|rfl| (simp only[firstArgMember];rfl)) ?_);refine UL ?_ (by size_fits);simp only[raiseNew];refine tz (wpAny_handled ?_);rw[hh];refine tz (Gc (wpAny_throw ?_));exact hE _ _ (fun b o hb e=>Fk _ (Fk _ (sb1.extBut b o hb e))) ⟨_,SB _ rfl,rfl⟩
 ·have:=(S4.mp he).1
  rw[gP]at this;lia
theorem slot_self:Slot "set_iterator" "__iter__" "set_iterator.__iter__" :=.of (owner:="set_iterator") (n:="__iter__") (by rw[WE,Vu];kernel_rfl) (by decide+kernel) (by decide+kernel) (by decide+kernel) (by first|exact .inl (by decide+kernel)|exact .inr (by decide+kernel)) (by rw[WW];kernel_rfl)
theorem entry_self:entryFor table "set_iterator.__iter__" =some Builtin.«dict_keyiterator.__iter__»:=entryFor_alias (id':="dict_keyiterator.__iter__") (by kernel_rfl) rfl (by decide+kernel) (by kernel_rfl)
theorem args_self(a:Do):argsOk "set_iterator.__iter__" ⟨[a],[]⟩:=by unfold argsOk;rw[signature?_of (id:="set_iterator.__iter__") (n:=['_','_','r','e','t','i','_','_']) (o:=['r','o','t','a','r','e','t','i','_','t','e','s']) (by kernel_rfl) pH];kernel_rfl
theorem wb(hh:A.handled=none)(I a:GM)(hne:a≠I)(es:Array (Int×Do))(ep:Nat)(t:VZ)(T:Tab t es.size)(pl:t.plain=true)(ld:t.led=!bD w):Walks prog w A I [I,a] [I] es.size (fun i v=>∃e,(wk w a ep es)[i]?=some e/\v=e.2) (fun i h=>jj w h I a es ep t i)where
 sub:=fun b hb=>by simp at hb;simp[hb]
 frame:=fun i h h' st hk=>by obtain⟨⟨slot,hit,hs⟩,o,ho,hd⟩:=st;exact⟨⟨slot,hk I (by simp) _ hit,hs⟩,o,hk a (by simp) _ ho,hd⟩
 item:=fun i s Q E hi st hQ=>by
  obtain⟨slot,hit,_⟩:=st.it;have hT:s.TypeIs (.ref I) "set_iterator":=⟨_,hit,rfl⟩;unfold pyNext;refine tz (Vy (Vg (name:=AC "__next__") hT slot_next (UG slot_next hT entry_next (wY hne st T pl ld hi fun e h' he S' sb=>Gc ?_) (args_next _))));exact hQ e.2 h' s.toks ⟨e,he,rfl⟩ S' fun b o hb x=>sb.extBut b o (fun z=>hb (by simp[z])) x
 done:=fun s Q E st hQ=>by
  obtain⟨slot,hit,_⟩:=st.it;have hT:s.TypeIs (.ref I) "set_iterator":=⟨_,hit,rfl⟩;unfold pyNext;refine tz (Vy (Vg (name:=AC "__next__") hT slot_next (UG slot_next hT entry_next (ym (A:=A.in1) hh st T pl ld (M2 _) fun h' e k he=>?_) (args_next _))));obtain⟨o,ho,hc⟩:=he;exact tz (Wp (T:="StopIteration") (b:=true) ⟨o,ho,hc⟩ isSubtype_stop (Gc (hQ _ s.toks fun b o hb x=>k b o (fun z=>hb (by simp[z])) x)))
 self:=fun i s Q E st hQ=>by obtain⟨slot,hit,_⟩:=st.it;have hT:s.TypeIs (.ref I) "set_iterator":=⟨_,hit,rfl⟩;refine wpAny_pyIter_slot hT slot_self (UG slot_self hT entry_self ?_ (args_self _));show wpAny _ _ (ret (.ref I)) _ _ s;exact Gc ⟨_,rfl,"set_iterator",_,hT,slot_next.lookup,hQ⟩
end
end Sx
namespace Sx
open PySem PySem.SetTable PyProof.Rows
def Sj(m:Nat)(p:Probe):Probe:=if p.more>0 then{p with j:=p.j+1,more:=p.more-1}else begin_ m (leap m p.i p.perturb).1 (leap m p.i p.perturb).2
def eU(m:Nat):Nat->Probe->Probe
 |0,p=>p
 |k+1,p=>eU m k (Sj m p)
abbrev ON(m:Nat)(h:Int):Probe:=begin_ m (bits h% (m+1)) (bits h)
def Way(m:Nat)(oc:List Nat)(h:Int)(j:Nat):Prop:=∃k,(eU m k (ON m h)).j=j/\∀n<k,(eU m n (ON m h)).j∈oc
section
variable{prog:SK}{w:Tc}{A:Tf}{E:Do->FB->Prop}{s:FB}
end
end Sx
namespace Sx
open PySem PyProof.Rows
def el(e:GM× (Int×Int)):Int×Do:=(di e.2,.ref e.1)
theorem lJ(k:fC prog w h T p)(e:∀o,h.get? T=some o->h'.get? T=some o):fC prog w h' T p:=by obtain⟨o,items,n,ho,r⟩:=k;exact⟨o,items,n,e o ho,r⟩
section
variable{prog:SK}{w:Tc}{A:Tf}{R:Yd->FB->Prop}{I:GM}{fp wr:List GM}{G:Array VS->Array VS->Prop}{n:Nat}{P:Nat->Do->Prop}{St:Nat->FB->Prop}
theorem eL.at'(S:eL h a led es)(e:∀o,h.get? a=some o->h'.get? a=some o):eL h' a led es:=by obtain⟨o,ep,t,ho,r⟩:=S.at_;exact⟨o,ep,t,e o ho,r⟩
end
section
variable{prog:SK}{w:Tc}{A:Tf}{E:Do->FB->Prop}{s:FB}
theorem EJ(a:Do)(h:Q₁ (.ref s.heap.objs.size) {s with heap:=s.heap.push {cls:=.type "set",dict:=none,data:=.set #[] 0 (.fresh 0 0 (!bD w))}}):codeAny (model prog w) A (.call (.builtin "set.__new__") ⟨[.type "set",a],[]⟩) (wants Q₁ E) s:=by refine XE ?_;show wpAny _ A.in1 (do checkBuiltinCall "set.__new__" ⟨[.type "set",a],[]⟩;again (.builtin "set.__new__" ⟨[.type "set",a],[]⟩)) _ _ s;refine tz (wpAny_of_eq (F.newCall_set_1 a) (Gc ⟨Ur F.plain_set_new _,T9 F.entry_set_new ?_⟩));rw[TF F.plain_set_new _];unfold Builtin.«set.__new__» Builtin.Frozenset.newClass;have hsub:=sub_set_self;obtain⟨hp,g,d,tk,os⟩:=s;dsimp only;wp_walk;refine Xp (Gc ?_);dsimp only;simp only[newObj];refine tz (wpAny_alloc (Gc ?_));exact Gc h
end
section
variable{prog:SK}{w:Tc}{A:Tf}{E:Do->FB->Prop}{s:FB}
theorem zQ(ho:s.heap.get? a=some o)(hc:o.cls=.type "set")(q:Q false s):wpAny (model prog w) A (Builtin.List.listLengthHint (.ref a)) Q E s:=by have hT:s.TypeIs (.ref a) "set":=⟨o,ho,hc⟩;unfold Builtin.List.listLengthHint;refine tz (Vt hT F.slot_set_len.lookup ?_);generalize hid:("set.__len__" :String)=id0;wp_delta;rw[show splitId id0=some ("set","__len__")from by subst hid;decide+kernel];subst hid;refine tz (Wp (T:="set") (b:=true) hT (by rw[WW];kernel_rfl) ?_);refine UQ (fun hab=>absurd hab (by decide)) (fun _=>?_);refine UQ (fun _=>?_) (fun hab=>absurd (by decide+kernel) hab);refine tz (Wk hT (Gc ?_));exact q
theorem pX(hh:A.handled=none)(ho:s.heap.get? a=some o)(hex:o.ExactSet)(hd:o.data=.set es ep t)(T:Tab t es.size)(pl:t.plain=true)(ld:t.led=!bD w)(h64:es.size<=64)(q:∀h' tk,(∀b o,s.heap.get? b=some o->h'.get? b=some o)->Q ((wk w a ep es).toList.map (·.2)) {s with heap:=h',toks:=tk}):wpAny (model prog w) A (collect (.ref a)) Q E s:=by
 have lta:a<s.heap.objs.size:=GE ho;have hz:es.size<=sizeLine:=by rw[TM];lia
 unfold collect;refine tz (wpAny_runValue (T9 F.entry_proto_collect ?_));rw[TF F.plain_proto_collect _];show wpAny _ A.in1 (newList []>>=fun l=>again (.builtin "list.__iadd__" ⟨[l,.ref a],[]⟩)) _ _ s;refine tz (UL ?_);refine Gc ⟨Ur F.plain_list_iadd _,T9 F.entry_list_iadd ?_⟩;rw[TF F.plain_list_iadd _];have ho1:(s.heap.push {cls:=.type "list",data:=.seq ([]:List Do).toArray}).get? a=some o:=Fk _ ho;have hS1:(s.heap.push {cls:=.type "list",data:=.seq ([]:List Do).toArray}).get? s.heap.objs.size=some {cls:=.type "list",data:=.seq ([]:List Do).toArray}:=SB _ rfl;have sz1:(s.heap.push {cls:=.type "list",data:=.seq ([]:List Do).toArray}).objs.size=s.heap.objs.size+1:=Uk ..;have keep1:∀b o,s.heap.get? b=some o->(s.heap.push {cls:=.type "list",data:=.seq ([]:List Do).toArray}).get? b=some o:=fun b o e=>Fk _ e;show wpAny _ A.in1 (Builtin.List.listExtendWith (.ref s.heap.objs.size) (.ref a) (.ref s.heap.objs.size)) _ _ _;generalize s.heap.push {cls:=.type "list",data:=.seq ([]:List Do).toArray}=h1 at ho1 hS1 sz1 keep1|-;unfold Builtin.List.listExtendWith;refine tz (Wk (T:="set") ⟨o,ho1,hex.1⟩ ?_);have e1:Builtin.List.listSameRef (.ref s.heap.objs.size) (.ref a)=false:=by simp[Builtin.List.listSameRef];exact UU lta
 have e2:(Ut "set" ==Ut "list")=false:=by decide
 have e3:(Ut "set" ==Ut "tuple")=false:=by decide
 simp only[e1,e2,e3,Xe,Ta,if_false];refine tz (zr (s:={s with heap:=h1}) ho1 hex hd T pl ?_);have hI:(h1.push {cls:=.type "set_iterator",dict:=none,data:=.fields #[rawInt 0,rawInt 0,.ref a,rawInt es.size,rawInt ep],slots:=#[]}).get? h1.objs.size=some _:=SB _ rfl;have up:∀b o,h1.get? b=some o->(h1.push {cls:=.type "set_iterator",dict:=none,data:=.fields #[rawInt 0,rawInt 0,.ref a,rawInt es.size,rawInt ep],slots:=#[]}).get? b=some o:=fun b o e=>Fk _ e;have sz2:(h1.push {cls:=.type "set_iterator",dict:=none,data:=.fields #[rawInt 0,rawInt 0,.ref a,rawInt es.size,rawInt ep],slots:=#[]}).objs.size=h1.objs.size+1:=Uk ..;have ho2:=up _ _ ho1;have hS2:=up _ _ hS1;show wpAny _ A.in1 (holding [.ref h1.objs.size] (Builtin.List.listLengthHint (.ref a))>>=_) _ _ {s with heap:=h1.push {cls:=.type "set_iterator",dict:=none,data:=.fields #[rawInt 0,rawInt 0,.ref a,rawInt es.size,rawInt ep],slots:=#[]}};generalize h1.push {cls:=.type "set_iterator",dict:=none,data:=.fields #[rawInt 0,rawInt 0,.ref a,rawInt es.size,rawInt ep],slots:=#[]}=h2 at hI up sz2 ho2 hS2|-;refine tz (Ti (zQ (s:={s with heap:=h2}) ho2 hex.1 ?_));have nSI:s.heap.objs.size≠h1.objs.size:=by rw[sz1];exact SM (VH _)
 have naI:a≠h1.objs.size:=by rw[sz1];exact SM (U5 lta)
 have naS:a≠s.heap.objs.size:=SM lta;have W:=(wb (prog:=prog) (w:=w) (A:=A.in1) hh h1.objs.size a naI es ep t T pl ld).toS;have key:∀(h:Ux)(c:Nat)(tk:Nat),jj w h h1.objs.size a es ep t 0->(∀b o,b≠s.heap.objs.size->h2.get? b=some o->h.get? b=some o)->h.get? s.heap.objs.size=some {cls:=.type "list",data:=.seq #[] c}->codeAny (model prog w) A (.builtin "list.extend.loop" ⟨[.ref s.heap.objs.size,.ref h1.objs.size,.ref s.heap.objs.size],[]⟩) (fun r s'=>match r with|.ok (.ret v)=>wpAny (model prog w) A (match v with|.ref a=>(load a>>=fun o=>match o.data with|.seq xs _=>pure xs.toList|_=>unsupported "internal:collect")|_=>unsupported "internal:collect") Q E s'|.ok _=>False|.error e=>E e s') {s with heap:=h,toks:=tk}:=by
  intro h c tk on kp hS;refine codeAny_extend_loopS W hz s.heap.objs.size (by simp only[GT,Ue,or_false,not_or];exact⟨nSI,T6 naS⟩) _ es.size 0 _ #[] c rfl (KM _) on hS (ItemsOf.nil _) fun s' acc' c' hm hS' hacc=>?_;rw[Moved.eq_with hm];show wpAny _ A (load s.heap.objs.size>>=_) _ _ _;refine tz (wpAny_load hS' (Gc ?_));have ea:acc'.toList=(wk w a ep es).toList.map (·.2):=by
   refine List.ext_getElem? fun j=>?_;by_cases hj:j<es.size
   ·have lj:j<acc'.size:=by rw[hacc.1];exact hj
    have g:=hacc.2 j acc'[j] (S7 lj);obtain⟨e,he,ev⟩:=g;rw[UW,S7 lj,Td,UW,he,ev];rfl
   ·rw[UB (by rw[S6,hacc.1];lia),UB (by rw[FS,S6,gP];lia)]
  rw[ea];refine q _ _ fun b o e=>?_;have lb:=GE e;exact hm.heap b o (by simp only[GT,Ue,or_false,not_or];exact⟨SM lb,by rw[sz1];exact SM (U5 lb)⟩) (kp b o (SM lb) (up b o (keep1 b o e)))
 have on2:jj w h2 h1.objs.size a es ep t 0:=⟨⟨0,hI,fun _=>lI _ T.ris⟩,o,ho2,hd⟩;refine UQ (fun _=>?_) (fun _=>Gc ⟨Ur Um _,key h2 0 _ on2 (fun b o _ e=>e) hS2⟩);refine tz (wpAny_rule ?_);refine tz ?_;show wpAny _ _ (updateSeq s.heap.objs.size (·.push .none)>>=fun _=>updateSeq s.heap.objs.size (·.pop)) _ _ _;have hS3:=S3 (Te (·.push TB)) hS2 rfl;have hS4:=S3 (Te (·.pop)) hS3 rfl;have oth:∀b o,b≠s.heap.objs.size->h2.get? b=some o->((h2.update s.heap.objs.size (Te (·.push TB))).update s.heap.objs.size (Te (·.pop))).get? b=some o:=fun b o hb e=>(Os _ _ (T6 hb)).trans ((Os _ _ (T6 hb)).trans e);refine tz (Us (s:={s with heap:=h2}) hS2 rfl (Us hS3 rfl (Gc ⟨Ur Um _,key _ _ _ ⟨⟨0,oth _ _ (T6 nSI) hI,fun _=>lI _ T.ris⟩,o,oth _ _ naS ho2,hd⟩ oth hS4⟩) (by show 1<=sizeLine;rw[TM];lia) (by show 0<=_;exact KM _)) (KM _) (by show 1<=_;rw[TM];lia))
end
end Sx
namespace Ck
open PySem L2 Sx
theorem nW{α β:Type}{f:α->β}{L M:List β}(h:L.Perm M):∀T:List α,M=T.map f->∃T':List α,T'.Perm T/\L=T'.map f:=by induction h with
 |nil=>intro T e;exact⟨T,.refl _,e⟩
 |@cons x l1 l2 _ ih=> intro T e;cases T with
  |nil=>cases e
  |cons a T=> rw[SQ,List.cons.injEq]at e;obtain⟨T',p,e'⟩:=ih T e.2;exact⟨a::T',.cons a p,by rw[SQ,<-e',<-e.1]⟩
 |@swap x y l=> intro T e;match T,e with
  |a::b::T,e=> simp only[SQ,List.cons.injEq]at e;exact⟨b::a::T,.swap a b T,by simp only[SQ,<-e.1,<-e.2.1,<-e.2.2]⟩
 |trans _ _ ih1 ih2=> intro T e;obtain⟨T1,p1,e1⟩:=ih2 T e;obtain⟨T2,p2,e2⟩:=ih1 T1 e1;exact⟨T2,p2.trans p1,e2⟩
end Ck
namespace L2
open PySem PySem.Spec PyProof.Rows Ck Sx
section
variable{X:Cx}
theorem mr(I:Inv X pins σ H s):∀{us:List V}{ps:List Pair}{vs:List Do},cB H us ps->Vals us vs->∃Tp:List (GM×Pair),us=Tp.map (fun e=>V.ref e.1)/\vs=Tp.map (fun e=>PP e.1)/\Tp.map (·.2)=ps/\∀e∈Tp,H e.1=some (.tup [.int e.2.1,.int e.2.2])/\fC X.prog X.w s.heap e.1 e.2
 |_,_,_,.nil,.nil=>⟨[],rfl,rfl,rfl,fun e h=>by cases h⟩
 |_,_,_,.cons (b:=p) r t,.cons rv tv=>by
  obtain⟨a,rfl,ha⟩:=r;cases rv;obtain⟨Tp,e1,e2,e3,e4⟩:=mr I t tv;obtain⟨its,r',tu,_⟩:=I.tuple (bN.of ha);refine⟨(a,p)::Tp,by rw[e1];rfl,by rw[e2];rfl,by rw[<-e3];rfl,fun e he=>?_⟩;rcases GT.mp he with rfl|he
  ·refine⟨ha,?_⟩
   cases r' with
   |cons x1 r2=>cases r2 with |cons x2 r3=>
     cases r3
     obtain⟨t1,rfl⟩:=x1;obtain⟨t2,rfl⟩:=x2;obtain⟨o,ho,hc,n,hd⟩:=tu;exact Fj ho hc hd
  ·exact e4 e he
theorem Fo:bootBuiltins "set" =some (.type "set"):=by decide+kernel
theorem lB:∀{Tp:List (GM×Pair)},(∀e∈Tp,fC prog w h e.1 e.2)->gL h (Tp.map fun e=>PP e.1) (Tp.map (·.2))
 | [],_=>.nil
 |e::Tp,hP=>by
  refine .cons ?_ (lB fun f hf=>hP f (SH _ hf));obtain⟨o,items,n,ho,hc,hd,hi⟩:=hP e (SY ..);obtain⟨t,u,ei⟩:=mz hi;have ea:items=#[.int e.2.1 t,.int e.2.2 u]:=by
   cases items
   simp only at ei;rw[ei]
  subst ea;exact⟨e.1,t,u,rfl,o,ho,hc,n,hd⟩
end
end L2
namespace Sx
open PySem PyProof.Rows
section
variable{prog:SK}{w:Tc}{A:Tf}{E:Do->FB->Prop}{s:FB}
end
section
variable{prog:SK}{w:Tc}{A:Tf}{R:Yd->FB->Prop}{I:GM}{fp wr:List GM}{G:Array VS->Array VS->Prop}{n:Nat}{P:Nat->Do->Prop}{St:Nat->FB->Prop}
end
section
variable{prog:SK}{w:Tc}{A:Tf}{E:Do->FB->Prop}{s:FB}
end
end Sx
namespace L2
open PySem PySem.Spec PyProof.Rows Ck Sx
section
variable{X:Cx}
end
end L2
namespace Ck
open PySem L2
def Ct(c:Int)(p:Pair):Prop:=0<=p.1/\p.1+1<p.2/\p.2<c/\¬ (p.1=0/\p.2=c-1)
noncomputable def nm(x y:Int):Pair:=if x<y then(x,y)else(y,x)
noncomputable def gx(c:Int)(p:Pair):Bool:=decide (0<=p.1)&&(decide (p.1<p.2-1)&&(decide (p.2<c)&&!(decide (p.1=0)&&decide (p.2=c-1))))
noncomputable def stC(c:Int)(ps:List Pair)(k:Nat):Bool:=gx c (ps.getD k (0,0))&&(decide (k=0)||dY (ps.getD (k-1) (0,0)) (ps.getD k (0,0)))
noncomputable def iH(c:Int)(n:Nat):Bool:=decide (2<=c)&&decide ((n:Int)=if c-3>0 then c-3 else 0)
def j9(c:Int)(ps:List Pair):Bool:=iH c ps.length&&((SO ps.length).all (stC c ps)&&!cW ps)
theorem O4:gx c p=true↔Ct c p:=by unfold gx Ct;simp only[On,decide_eq_true_iff,Wa,XD,decide_eq_false_iff_not];lia
theorem G5(h:iH c ps.length=false):j9 c ps=false:=by unfold j9;rw[h,Ud]
theorem vO{p q r:Pair}(h1:dY p q=true)(h2:dY q r=true):dY p r=true:=by unfold dY at*;simp only[Vv,On,decide_eq_true_iff]at*;lia
theorem vC(h:dY p q=true):cT p q/\p≠q:=by unfold dY at h;unfold cT;simp only[Vv,On,decide_eq_true_iff]at h;refine⟨by lia,fun e=>?_⟩;subst e;lia
theorem Kl(h:cT p q)(n:p≠q):dY p q=true:=by
 unfold dY;unfold cT at h;simp only[Vv,On,decide_eq_true_iff];by_cases e:p.1=q.1
 ·by_cases e2:p.2=q.2
  ·exact absurd (XM e e2) n
  ·lia
 ·lia
theorem Eu(h:(SO ps.length).all (stC c ps)=true):ps.Pairwise fun p q=>dY p q=true:=by
 have st:∀k,0<k->k<ps.length->dY (ps.getD (k-1) (0,0)) (ps.getD k (0,0))=true:=fun k h0 hk=>by
  have:=SS.mp h k (SX.mpr hk);unfold stC at this;rw[On,Vv,decide_eq_true_iff]at this;rcases this.2 with z|z;·lia
  ·exact z
 have all:∀j i,i<j->j<ps.length->dY (ps.getD i (0,0)) (ps.getD j (0,0))=true:=by intro j;induction j with
  |zero=>intro i hi;lia
  |succ j ih=>
   intro i hi hj;have s:=st (j+1) (by lia) hj;rw[VW]at s;by_cases e:i=j;·rw[e];exact s
   ·exact vO (ih i (by lia) (by lia)) s
 refine Tb.mpr fun i j hi hj hij=>?_;have:=all j i hij hj;rw[FM,FM,Da hi,Da hj]at this;exact this
theorem Fl(nd:qs.Nodup)(mm:∀x,x∈qs↔x∈ps)(rs:qs.Pairwise cT)(ne:ps≠qs):j9 c ps=false:=by cases h:j9 c ps with
 |false=>rfl
 |true=> unfold j9 at h;rw[On,On]at h;have r:=Eu h.2.1;have n2:ps.Nodup:=r.imp fun z=>(vC z).2;have pm:ps.Perm qs:=(List.perm_ext_iff_of_nodup n2 nd).mpr fun x=>(mm x).symm;exact absurd (Ar (r.imp fun z=>(vC z).1) rs pm) ne
theorem yI(nd:ps.Nodup)(rs:ps.Pairwise cT)(l:iH c ps.length=true):j9 c ps=(!cW ps&&ps.all (gx c)):=by
 have e:(SO ps.length).all (stC c ps)=ps.all (gx c):=by
  rw[TH,SS,SS];constructor
  ·intro h p hp
   obtain⟨k,hk⟩:=TV hp;have:=h k (SX.mpr (Pi.mp hk).1);unfold stC at this;rw[On,FM,hk]at this;exact this.1
  ·intro h k hk
   have hk:=SX.mp hk;unfold stC;rw[On,Vv,decide_eq_true_iff];refine⟨?_,?_⟩
   ·rw[FM,Da hk]
    exact h _ (Vi hk)
   ·by_cases z:k=0
    ·exact .inl z
    ·refine .inr ?_
     have k1:k-1<ps.length:=by lia
     rw[FM,FM,Da hk,Da k1];exact Kl (Tb.mp rs _ _ k1 hk (by lia)) (Tb.mp nd _ _ k1 hk (by lia))
 unfold j9;rw[l,e,TN,Bool.and_comm]
noncomputable def one(n k:Nat):Nat:=if 0<k/\0<n then 1 else 0
end Ck
namespace Dk
open PySem PyProof.Rows
section
variable{prog:SK}{w:Tc}{K:Type}[DecidableEq K]{knd:KeyKind prog w K}{A:Tf}{E:Do->FB->Prop}{s:FB}
theorem vm(hd:(d==sysModules)=false)(hm:s.heap.DictOf knd d kvs)(h:Q false s):wpAny (model prog w) A (Builtin.List.listLengthHint (.ref d)) Q E s:=by unfold Builtin.List.listLengthHint;refine tz (Vt hm.typeIs F.slot_dict_len.lookup ?_);generalize hid:("dict.__len__" :String)=id0;wp_delta;rw[show splitId id0=some ("dict","__len__")from by subst hid;decide+kernel];subst hid;refine tz (Wp (T:="dict") (b:=true) hm.typeIs (by rw[WW];kernel_rfl) ?_);refine UQ (fun hab=>absurd hab (by decide)) (fun _=>?_);refine UQ (fun _=>?_) (fun hab=>absurd (by decide+kernel) hab);refine tz (Wk hm.typeIs (Gc ?_));exact h
theorem pZ(hh:A.handled=none)(hd:(d==sysModules)=false)(hm:s.heap.DictOf knd d kvs)(hlen:kvs.length<=2^24)(S:GM)(res:Do)(c₀:Nat)(hS:s.heap.get? S=some {cls:=.type "list",data:=.seq #[] c₀})(hR:∀h' tk acc' c',(∀b o,b≠S->s.heap.get? b=some o->h'.get? b=some o)->h'.get? S=some {cls:=.type "list",dict:=none,data:=.seq acc' c',slots:=#[]}->ItemsOf (fun i v=>∃k x,kvs[i]?=some (k,x)/\knd.is k v=true) acc' kvs.length->R (.ok (.ret res)) {s with heap:=h',toks:=tk}): wpAny (model prog w) A.in1 (Builtin.List.listExtendWith (.ref S) (.ref d) res) (fun fin s'=>match fin with|.done f=>R (.ok f) s'|.again c'=>c'.quiet=true/\codeAny (model prog w) A c' R s') (fun e s'=>R (.error e) s') s:=by
 obtain⟨ep,hat⟩:=hm.dictAt;have hT:=hm.typeIs;have hSd:S≠d:=fun e=>by
  obtain⟨o,es,ho,hc,hdt,_⟩:=hat;rw[<-e,hS]at ho;cases ho;cases hdt
 have hdlt:d<s.heap.objs.size:=hat.lt_size;have hSlt:S<s.heap.objs.size:=GE hS;have hSI:S≠s.heap.objs.size:=SM hSlt;have hdI:d≠s.heap.objs.size:=SM hdlt;have hSf:S∉[s.heap.objs.size,d]:=fun hm=>by
  rcases GT.mp hm with h|h;·exact hSI h
  ·exact hSd (Uh.mp h)
 have W:=(Walks.dictKeys (knd:=knd) (prog:=prog) (w:=w) (A:=A.in1) hh s.heap.objs.size d hdI kvs ep).toS;have key:∀(h:Ux)(c₁ tk:Nat),h.IsKeyIter s.heap.objs.size d 0 kvs.length ep->h.DictAt knd d kvs ep->(∀b o,b≠S->s.heap.get? b=some o->h.get? b=some o)->h.get? S=some {cls:=.type "list",data:=.seq #[] c₁}->codeAny (model prog w) A (.builtin "list.extend.loop" ⟨[.ref S,.ref s.heap.objs.size,res],[]⟩) R {s with heap:=h,toks:=tk}:=by
  intro h c₁ tk hit hda hk hS₁;refine codeAny_extend_loopS W (by rw[TM];lia) S hSf res kvs.length 0 _ #[] c₁ rfl (KM _) ⟨hit,hda⟩ hS₁ (ItemsOf.nil _) fun s' acc' c' hm hS' hacc=>?_;rw[Moved.eq_with hm];refine hR s'.heap s'.toks acc' c' (fun b o hb e=>hm.heap b o (fun hmem=>?_) (hk b o hb e)) hS' hacc;rcases GT.mp hmem with e'|hmem;·exact hb e'
  ·exact absurd (GE e) (by rw[Uh.mp hmem];exact Tz _)
 unfold Builtin.List.listExtendWith;refine tz (Wk hT ?_);have h1:Builtin.List.listSameRef (.ref S) (.ref d)=false:=by simp[Builtin.List.listSameRef,hSd]
 have h2:(Ut "dict" ==Ut "list")=false:=by decide
 have h3:(Ut "dict" ==Ut "tuple")=false:=by decide
 simp only[h1,h2,h3,Xe,Ta,if_false];refine tz (wpAny_pyIter_dict hd hat ?_);have up:∀b o,s.heap.get? b=some o->(s.heap.push {cls:=.type "dict_keyiterator",data:=.fields #[.ref d,.int 0 0,.int kvs.length 0,.int ep 0]}).get? b=some o:=fun b o e=>Fk _ e;refine tz (Ti (vm (knd:=knd) (kvs:=kvs) hd (hat.keep up).dictOf ?_));have hit₁:(s.heap.push {cls:=.type "dict_keyiterator",data:=.fields #[.ref d,.int 0 0,.int kvs.length 0,.int ep 0]}).IsKeyIter s.heap.objs.size d 0 kvs.length ep:=⟨_,SB _ rfl,rfl,rfl⟩;have hS₁:=up _ _ hS;refine UQ (fun _=>?_) (fun _=>Gc ⟨Ur Um _,key _ c₀ _ hit₁ (hat.keep up) (fun b o _ e=>up _ _ e) hS₁⟩);refine tz (wpAny_rule ?_);refine tz ?_;show wpAny _ _ (updateSeq S (·.push .none)>>=fun _=>updateSeq S (·.pop)) _ _ _;have hS₂:=S3 (Te (·.push TB)) hS₁ rfl;have hS₃:=S3 (Te (·.pop)) hS₂ rfl;refine tz (Us hS₁ rfl (Us hS₂ rfl (Gc ⟨Ur Um _,key _ _ _ ?_ ?_ (fun b o hb e=>?_) hS₃⟩) (by show 1<=sizeLine;rw[TM];lia) (by show 0<=_;exact KM _)) (KM _) (by show 1<=_;rw[TM];lia));·exact hit₁.at fun o e=>(Os _ _ hSI).trans ((Os _ _ hSI).trans e)
 ·exact(hat.keep up).at' fun o e=>(Os _ _ hSd).trans ((Os _ _ hSd).trans e)
 ·exact(Os _ _ (T6 hb)).trans ((Os _ _ (T6 hb)).trans (up _ _ e))
theorem list_dict(hh:A.handled=none)(hd:(d==sysModules)=false)(hm:s.heap.DictOf knd d kvs)(hlen:kvs.length<=2^24)(q:∀h' tk acc' c',(∀b o,s.heap.get? b=some o->h'.get? b=some o)->h'.get? s.heap.objs.size=some {cls:=.type "list",dict:=none,data:=.seq acc' c',slots:=#[]}->ItemsOf (fun i v=>∃k x,kvs[i]?=some (k,x)/\knd.is k v=true) acc' kvs.length->Q (.ref s.heap.objs.size) {s with heap:=h',toks:=tk}): wpAny (model prog w) A (call (.type "list") [.ref d]) Q E s:=by have far:∀{c o},s.heap.get? c=some o->s.heap.objs.size≠c:=fun e=>UU (GE e);refine callType_codes (Q₁:=fun T s1=>T=.ref s.heap.objs.size/\s1={s with heap:=s.heap.push {cls:=.type "list",data:=.seq #[]}}) F.called_list (F.typeCall_list_1 _) F.entry_list_init (code_list_new _ ⟨rfl,rfl⟩) fun T s1 e1=>?_;obtain⟨rfl,rfl⟩:=e1;have g0:(s.heap.push {cls:=.type "list",data:=.seq #[]}).get? s.heap.objs.size=some {cls:=.type "list",data:=.seq #[]}:=SB _ rfl;have g1:=S3 (Te (fun _=>(#[]:Array Do))) g0 rfl;have oth:∀b o,s.heap.get? b=some o->((s.heap.push {cls:=.type "list",data:=.seq #[]}).update s.heap.objs.size (Te (fun _=>(#[]:Array Do)))).get? b=some o:=fun b o e=>(Os _ _ (far e)).trans (Fk _ e);refine⟨⟨_,g0,rfl⟩,F.args_list_init_2 _ _,?_⟩;show wpAny _ _ (do let was<-Builtin.List.listItems (.ref s.heap.objs.size);Builtin.List.listUpdate (.ref s.heap.objs.size) (fun _=>#[]);letGo was.toList.reverse;Builtin.List.listExtendWith (.ref s.heap.objs.size) (.ref d) .none) _ _ _;refine tz ?_;unfold Builtin.List.listItems;refine tz (We g0 rfl (Gc ?_));show wpAny _ _ (updateSeq s.heap.objs.size (fun _=>#[])>>=fun _=>letGo (#[]:Array Do).toList.reverse>>=fun _=>Builtin.List.listExtendWith (.ref s.heap.objs.size) (.ref d) .none) _ _ _;refine tz (Us g0 rfl (tz (wpAny_letGo ?_)) (KM _) (KM _));obtain⟨ep,hat⟩:=hm.dictAt;exact pZ (s:={s with heap:=(s.heap.push {cls:=.type "list",data:=.seq #[]}).update s.heap.objs.size (Te (fun _=>(#[]:Array Do)))}) (A:=A.in1) hh hd (hat.keep oth).dictOf hlen _ _ _ g1 fun h' tk acc' c' k e1 e2=>⟨rfl,q h' tk acc' c' (fun b o e=>k b o (T6 (far e)) (oth b o e)) e1 e2⟩
end
end Dk
namespace L2
open PySem PySem.Spec PyProof.Rows
theorem Oy(r:(bJ P w).is k u=true):RelV (kV k) u:=by
 rcases bM r with⟨i,t,rfl,rfl⟩| ⟨x,t,rfl,rfl⟩;·exact⟨t,rfl⟩
 ·exact⟨t,rfl⟩
theorem mO:∀{kvs:List (Key×V)}{vs:List (Key×Do)}{us:List Do},KV kvs vs->us.length=vs.length->(∀(j:Nat)v,us[j]?=some v->∃k x,vs[j]?=some (k,x)/\(bJ P w).is k v=true)->Vals (kvs.map fun kv=>kV kv.1) us
 | [],_,us,.nil,hl,_=>by cases us with|nil=>exact .nil|cons _ _=>cases hl
 |p::kvs,q::vs,us,.cons h r,hl,hk=>by cases us with
  |nil=>cases hl
  |cons u us=>
   refine .cons ?_ (mO r (by simpa using hl) fun j v e=>hk (j+1) v (by simpa using e));obtain⟨k,x,e1,e2⟩:=hk 0 u rfl;have:q=(k,x):=by simpa using e1
   subst this;show RelV (kV p.1) u;rw[h.1];exact Oy e2
theorem ud(hc:X.calm=true):ck X (.type "list") (fun xs H Q=>∃a kvs,xs=[V.ref a]/\H a=some (.dK kvs)/\∀l,H l=none->Q (.ref l) (upd H l (.lst (kvs.map fun kv=>kV kv.1)))):=by
 intro pins s σ H xs us Q I r h;obtain⟨a,kvs,rfl,e,q⟩:=h;obtain⟨u,rfl,rx⟩:=vals1 r;cases rx;obtain⟨z,hd,vs,rel,dd⟩:=sS I.hok e;refine Dk.list_dict (I.ok.hd hc) hd dd (by rw[<-rel.length];rw[TM]at z;lia) fun h' tk acc' c' kp he hacc=>?_;refine⟨.ref s.heap.objs.size,_,I.laid (t':=tk) (o:=.lst (kvs.map fun kv=>kV kv.1)) kp (M2 _) ⟨?_,acc'.toList,c',mO (P:=X.prog) (w:=X.w) rel (by simpa using hacc.1) fun j v e=>hacc.2 j v (by simpa using e),he⟩,rfl,q _ (I.hok.fresh (M2 _))⟩;rw[FS];exact z
theorem qO(k:Str):∀ns:List Str,ns.any (·==k)=decide (k∈ns)
 | []=>by simp
 |n::ns=>by
  rw[UA,qO k ns];by_cases h:n=k;·subst h;simp
  ·have h':¬k=n:=fun z=>h z.symm
   simp[h,h']
theorem jb:bX X (compareOp .NotIn) (fun x y H Q=>∃(k:Str)(p:GM)(ys:List Str),x=.str k/\y=.ref p/\ao X.K H p (ys.map V.str)/\Q (.bl (!decide (k∈ys))) H):=by
 intro pins s σ H x y u v Q I ru rv h;obtain⟨k,p,ys,rfl,rfl,hl,q⟩:=h;obtain⟨t,rfl⟩:=(show∃t,u=Xw k t from ru);cases rv;obtain⟨its,r',pl,hz⟩:=I.list hl;refine notin_list_strs pl.isList (kM r') ⟨.bl _,H,I,rfl,?_⟩;rw[qO];exact q
end L2
namespace Ck
open PySem L2
theorem gq:∀(more kvs:List (Key×V)),((kvs++more).map (·.1)).Nodup->fP kvs more=kvs++more
 | [],kvs,_=>by rw[T7];rfl
 |p::more,kvs,h=>by
  have hn:cO kvs p.1=none:=by cases e:cO kvs p.1 with
   |none=>rfl
   |some v=> exfalso;have hm:=Ew e;rw[SV,SQ]at h;exact(Vz.mp h).2.2 _ hm _ (SY ..) rfl
  show fP (putK kvs p.1 p.2) more=_;rw[A1 _ hn,gq more _ (by rw[Uy];exact h),Uy];rfl
noncomputable def dZ(items:List (Str×GM)):List (Key×V):=items.map fun it=>(.inr it.1,.ref it.2)
noncomputable def lW(r:Str×List (Str×GM)):TE×TE:=(tC (.str r.1),kj (r.2.map fun it=>(tC (.str it.1),tC (.ref it.2))))
theorem lp(σ:L2.St):∀(items:List (Str×GM))(H:Hp)(Q:List (V×V)->Hp->Prop),Q ((dZ items).map fun kv=>(kV kv.1,kv.2)) H->iA (items.map fun it=>(tC (.str it.1),tC (.ref it.2))) σ H Q
 | [],_,_,h=>h
 |it::items,H,Q,h=>lp σ items H _ h
theorem ve(items:List (Str×GM)):(dZ items).map (·.1)=(items.map (·.1)).map Xc:=by rw[dZ,Uc,Uc];rfl
theorem mC{ys:List Str}(h:ys.Nodup):(ys.map (Xc:Str->Key)).Nodup:=by induction ys with
 |nil=>exact .nil
 |cons y ys ih=> rw[T8]at h;rw[SQ,T8];exact⟨fun z=>by obtain⟨a,b,c⟩:=Uw.mp z;cases c;exact h.1 b,ih h.2⟩
def nG(p:GM)(H:Hp)(r:Str×List (Str×GM))(kv:Key×V):Prop:=kv.1=.inr r.1/\∃d,d≠p/\kv.2=.ref d/\H d=some (.dK (dZ r.2))
theorem mT(σ:L2.St)(p:GM):∀(rows:List (Str×List (Str×GM)))(H:Hp)(Q:List (V×V)->Hp->Prop),(∀r∈rows,(r.2.map (·.1)).Nodup/\r.2.length<=15)->H p=some (.dK [])-> (∀(kvs:List (Key×V))(H':Hp),af H H'->H' p=some (.dK [])->TY (nG p H') rows kvs->Q (kvs.map fun kv=>(kV kv.1,kv.2)) H')->iA (rows.map lW) σ H Q
 | [],H,Q,_,hp,h=>h [] H (af.refl H) hp .nil
 |r::rows,H,Q,hk,hp,h=>by intro d hd;obtain⟨nd,l15⟩:=hk r (SY ..);refine lp σ r.2 _ _ ⟨ag,dZ r.2,rfl,by rw[dZ,FS];exact l15,?_⟩;rw[gq _ _ (by rw[VT,ve];exact mC nd),VT,jt];have s1:=af.new (af.refl H) hd (.dK (dZ r.2));refine mT σ p rows _ _ (fun r hr=>hk r (SH _ hr)) (s1 _ _ hp) fun kvs H' s2 hp' pr=>?_;exact h ((.inr r.1,.ref d)::kvs) H' (s1.trans s2) hp' (.cons ⟨rfl,d,(aF hp hd).symm,rfl,s2 _ _ ag⟩ pr)
def rJ(H:Hp)(p:GM)(rows:List (Str×List (Str×GM))):Prop:=∃kvs,H p=some (.dK kvs)/\TY (nG p H) rows kvs
theorem Jq(h:TY (nG p H) rows kvs)(hf:rows.lookup w=some items):∃d,cO kvs (.inr w)=some (.ref d)/\H d=some (.dK (dZ items)):=by induction h with
 |nil=>cases hf
 |@cons r kv rows kvs h _ ih=>
  obtain⟨h1,d,_,h2,h3⟩:=h;obtain⟨rw,ri⟩:=r;by_cases e:w=rw
  ·subst e
   rw[Uv,beq_self_eq_true]at hf;cases hf;exact⟨d,by rw[fI h1,h2],h3⟩
  ·rw[Uv,beq_eq_false_iff_ne.mpr e]at hf
   obtain⟨d',e1,e2⟩:=ih hf;exact⟨d',by rw[fG (by rw[h1];intro z;cases z;exact e rfl)];exact e1,e2⟩
theorem qL:∀{items:List (Str×GM)}{n:Str}{f:GM},items.lookup n=some f->cO (dZ items) (.inr n)=some (.ref f)
 | (m,g)::items,n,f,h=>by
  by_cases e:n=m
  ·subst e
   rw[Uv,beq_self_eq_true]at h;cases h;exact fI rfl
  ·rw[Uv,beq_eq_false_iff_ne.mpr e]at h
   show cO ((.inr m,.ref g)::dZ items) _=_;rw[fG (by intro z;cases z;exact e rfl)];exact qL h
theorem tY(items:List (Str×GM)):((dZ items).map fun kv=>kV kv.1)=(items.map (·.1)).map V.str:=by rw[dZ,Uc,Uc];rfl
theorem vI{σ:L2.St}{H:Hp}{Q:VK}{rows:List (Str×List (Str×GM))}(hk:∀r∈rows,(r.2.map (·.1)).Nodup/\r.2.length<=15)(ho:(rows.map (·.1)).Nodup)(hl:rows.length<=15)(h:∀p H',af H H'->H p=none->rJ H' p rows->Q (.ref p) H'):kj (rows.map lW) σ H Q:=by
 intro p hp;refine mT σ p rows _ _ hk ag fun kvs H' s1 hp' pr=>⟨hp',kvs,rfl,by rw[<-pr.length];exact hl,?_⟩;have ek:kvs.map (·.1)=(rows.map (·.1)).map Xc:=by clear hk ho hl h s1 hp' hp;induction pr with
  |nil=>rfl
  |cons h _ ih=>rw[SQ,SQ,SQ,h.1,ih]
 rw[gq _ _ (by rw[VT,ek];exact mC ho),VT];have s0:af H H':=fun b o e=>s1 b o (by rw[aw (fun z=>by rw[z,hp]at e;cases e)];exact e);refine h p _ (s0.upd hp _) hp ⟨kvs,ag,?_⟩;have keep:∀o:HO,TY (nG p (upd H' p o)) rows kvs:=fun o=>by clear hk ho hl h s1 hp' hp ek s0;induction pr with
  |nil=>exact .nil
  |cons h _ ih=> obtain⟨h1,d,h2,h3,h4⟩:=h;exact .cons ⟨h1,d,h2,h3,by rw[aw h2];exact h4⟩ ih
 exact keep _
theorem rJ.get(h:rJ H p rows)(hf:rows.lookup w=some items):∃d,fL H p (.str w) (some (.ref d))/\H d=some (.dK (dZ items)):=by obtain⟨kvs,hp,pr⟩:=h;obtain⟨d,e1,e2⟩:=Jq pr hf;exact⟨d,e1▸fL.k (k:=.inr w) hp,e2⟩
theorem A5(h:H d=some (.dK (dZ items)))(hf:items.lookup n=some f):fL H d (.str n) (some (.ref f)):=qL hf▸fL.k (k:=.inr n) h
def c6(H:Hp)(x:V)(f:Str×GM×Int):Prop:=∃a dx fs,x=.ref a/\H a=some (.ins f.2.1 dx fs)/\b8 fs f.1 f.2.2
theorem c6.same(h:c6 H x f)(s:af H H'):c6 H' x f:=by obtain⟨a,dx,fs,h1,h2,h3⟩:=h;exact⟨a,dx,fs,h1,s _ _ h2,h3⟩
theorem bA(h:TY (c6 H) xs fm)(s:af H H'):TY (c6 H') xs fm:=by induction h with
 |nil=>exact .nil
 |cons h _ ih=>exact .cons (h.same s) ih
theorem cF(h:TY (c6 H) xs fm)(g:TY (c6 H) ys gm):TY (c6 H) (xs++ys) (fm++gm):=by induction h with
 |nil=>exact g
 |cons h _ ih=>exact .cons h ih
theorem qt{H:Hp}{xs:List V}{fm:List (Str×GM×Int)}(h:TY (c6 H) xs fm){i:Nat}{x:V}(hx:xs[i]?=some x):∃f,fm[i]?=some f/\c6 H x f:=by induction h generalizing i with
 |nil=>cases hx
 |@cons y f ys fs h _ ih=>cases i with
  |zero=>simp only[Vd,X8]at hx;subst hx;exact⟨f,rfl,h⟩
  |succ i=>rw[Xl]at hx;obtain⟨g,g1,g2⟩:=ih hx;exact⟨g,by rw[Xl];exact g1,g2⟩
end Ck
namespace L2
open PySem PySem.Spec PyProof.Rows Ck
section
variable{X:Cx}
theorem countP_isInt(k:Int)(h:UZ its ns):its.countP (isInt k)=ns.count k:=by induction h with
 |nil=>rfl
 |cons n t h ih=> rw[List.countP_cons,List.count_cons,ih];rfl
def EU(K:KB):V->List V->Hp->VK->Prop:=fun x vs H Q=>∃(l:GM)(ns:List Int)(k:Int),x=.ref l/\vs=[.int k]/\ao K H l (ns.map V.int)/\Q (.int (ns.count k:Nat)) H
theorem gb:jC X "list.count" (EU X.K):=by
 intro pins s σ H x vs v us Q I rx rv h;obtain⟨l,ns,k,rfl,rfl,hl,q⟩:=h;cases rx;obtain⟨u,rfl,t,rfl⟩:=rv.one;obtain⟨its,r,pl,hz⟩:=I.list hl;have hi:UZ its ns:=intsAre_of r;obtain⟨⟨cls,dd,data,sl⟩,ho,hc,n,hd⟩:=id pl.isList;simp only at hc hd;subst hc hd;refine VQ UJ ⟨_,ho,rfl⟩ PySem.F.entry_list_count (PySem.F.args_list_count_2 _ _) (SeqAt.list_countAt l its.toArray n dd sl (.int k t) (isInt k)) ⟨ho,fun y hy=>(eq_isInt k t hi y (by simpa using hy)).at _ _,?_⟩;rw[show its.toArray.toList=its from rfl,countP_isInt k hi];exact⟨.int _,H,I.tok _,⟨_,rfl⟩,q⟩
end
end L2
namespace Ck
open PySem L2
noncomputable def m6(lo:Int)(n:Nat):List Int:=(SO n).map fun(k:Nat)=>lo+(k:Int)
theorem pD(lo:Int)(n:Nat):dE lo n=(m6 lo n).map V.int:=by unfold dE m6;rw[Uc];try rfl
theorem lV(lo:Int)(n:Nat):(m6 lo n).length=n:=by unfold m6;rw[FS,UM]
def ft(lo:Int)(n:Nat)(ns:List Int):Int:=((frees ns (m6 lo n)).length:Nat)
end Ck
namespace L2
open PySem PySem.Spec PyProof.Rows Ck
noncomputable def keyOf:Option Uo->Option Str
 |some (.Constant (.str x) _ _)=>some x
 |_=>none
noncomputable def nameOf:Uo->Option Str
 |.Name x _=>some x
 |_=>none
noncomputable def gS:Uo->Option (List (Option Uo)×List Uo)
 |.Dict ks vs _=>some (ks,vs)
 |_=>none
theorem g7(h:keyOf k=some x):∃j p,k=some (.Constant (.str x) j p):=by
 unfold keyOf at h;split at h;·cases h;exact⟨_,_,rfl⟩
 ·cases h
theorem qe(h:nameOf e=some x):∃p,e=.Name x p:=by
 unfold nameOf at h;split at h;·cases h;exact⟨_,rfl⟩
 ·cases h
theorem jG(h:gS e=some d):∃p,e=.Dict d.1 d.2 p:=by
 unfold gS at h;split at h;·cases h;exact⟨_,rfl⟩
 ·cases h
noncomputable def jo:List (Option Uo)->List Uo->List (Str×Str)->Bool
 | [],[],[]=>true
 |k::ks,v::vs,n::ns=>decide (keyOf k=some n.1)&&decide (nameOf v=some n.2)&&!(n.2== ("__debug__" :Str))&&jo ks vs ns
 |_,_,_=>false
noncomputable def i5:List (Option Uo)->List Uo->List (Str×List (Str×Str))->Bool
 | [],[],[]=>true
 |k::ks,v::vs,n::ns=>decide (keyOf k=some n.1)&&(match gS v with|some d=>jo d.1 d.2 n.2&&decide (n.2≠[])&&decide (n.2.length<=15)|none=>false)&&i5 ks vs ns
 |_,_,_=>false
def wx(X:Cx)(n:Str×Str)(it:Str×GM):Prop:=n.1=it.1/\Gl X n.2/\X.mg n.2=some (.ref it.2)
theorem ni:∀{ks:List (Option Uo)}{vs:List Uo}{ns:List (Str×Str)},jo ks vs ns=true->ks.all (·.isSome)=true/\ks.length=vs.length/\ks.length=ns.length
 | [],[],[],_=>⟨rfl,rfl,rfl⟩
 |k::ks,v::vs,n::ns,h=>by unfold jo at h;simp only[On,decide_eq_true_iff]at h;obtain⟨⟨⟨h1,_⟩,_⟩,h4⟩:=h;obtain⟨j,p,rfl⟩:=g7 h1;obtain⟨a,b,c⟩:=ni h4;exact⟨by rw[Vx,a];rfl,by simp[b],by simp[c]⟩
 | [],_::_,_,h=>by cases h
 |_::_,[],_,h=>by cases h
 | [],[],_::_,h=>by cases h
 |_::_,_::_,[],h=>by cases h
theorem ra:∀{ks:List (Option Uo)}{vs:List Uo}{ns:List (Str×Str)}{items:List (Str×GM)},jo ks vs ns=true->TY (wx X) ns items->qA X pos ks vs (items.map fun it=>(tC (.str it.1),tC (.ref it.2)))
 | [],[],[],_,_,.nil=>lX
 |k::ks,v::vs,n::ns,_,h,.cons (b:=it) hn hr=>by unfold jo at h;simp only[On,decide_eq_true_iff,Wa]at h;obtain⟨⟨⟨h1,h2⟩,h3⟩,h4⟩:=h;obtain⟨j,p,rfl⟩:=g7 h1;obtain⟨p',rfl⟩:=qe h2;obtain⟨e,g,m⟩:=hn;rw[SQ,<-e];exact jK az (bV g m rfl h3) (ra h4 hr)
 | [],_::_,_,_,h,_=>by cases h
 |_::_,[],_,_,h,_=>by cases h
 | [],[],_::_,_,h,_=>by cases h
 |_::_,_::_,[],_,h,_=>by cases h
def j0(X:Cx)(n:Str×List (Str×Str))(r:Str×List (Str×GM)):Prop:=n.1=r.1/\TY (wx X) n.2 r.2
theorem nX:∀{ks:List (Option Uo)}{vs:List Uo}{ns:List (Str×List (Str×Str))}{rows:List (Str×List (Str×GM))},i5 ks vs ns=true->TY (j0 X) ns rows->qA X pos ks vs (rows.map lW)/\ks.all (·.isSome)=true/\ks.length=vs.length/\ks.length=ns.length
 | [],[],[],_,_,.nil=>⟨lX,rfl,rfl,rfl⟩
 |k::ks,v::vs,n::ns,_,h,.cons (b:=r) hn hr=>by unfold i5 at h;simp only[On,decide_eq_true_iff]at h;obtain⟨⟨h1,h2⟩,h4⟩:=h;obtain⟨j,p,rfl⟩:=g7 h1;cases hd:gS v with
  |none=>rw[hd]at h2;cases h2
  |some d=> rw[hd]at h2;simp only[On,decide_eq_true_iff]at h2;obtain⟨⟨k1,k2⟩,k3⟩:=h2;obtain⟨p',rfl⟩:=jG hd;obtain⟨e,pn⟩:=hn;obtain⟨a1,a2,a3⟩:=ni k1;obtain⟨b1,b2,b3,b4⟩:=nX (pos:=pos) h4 hr;refine⟨?_,by rw[Vx,b2];rfl,by simp[b3],by simp[b4]⟩;rw[SQ];unfold lW;rw[<-e];exact jK az (l9 (ra k1 pn) a1 a2 (fun z=>k2 (UE (by rw[<-a3,z];rfl))) (by lia)) b1
 | [],_::_,_,_,h,_=>by cases h
 |_::_,[],_,_,h,_=>by cases h
 | [],[],_::_,_,h,_=>by cases h
 |_::_,_::_,[],_,h,_=>by cases h
theorem DY(ns:List (Str×List (Str×Str)))(rows:List (Str×List (Str×GM)))(h:i5 ks vs ns=true)(h0:ns≠[])(h15:ns.length<=15)(pr:TY (j0 X) ns rows):PE X (.Dict ks vs pos) (kj (rows.map lW)):=by obtain⟨b1,b2,b3,b4⟩:=nX (pos:=pos) h pr;exact l9 b1 b2 b3 (fun z=>h0 (UE (by rw[<-b4,z];rfl))) (by lia)
noncomputable def nH:List T4->Option Uo
 | [.Return (some e) _]=>some e
 |_=>none
theorem rO(h:nH b=some e):∃p,b=[.Return (some e) p]:=by
 unfold nH at h;split at h;·cases h;exact⟨_,rfl⟩
 ·cases h
def oi(b:List T4)(ns:List (Str×List (Str×Str))):Bool:=match nH b with
 |some e=>(match gS e with|some d=>i5 d.1 d.2 ns|none=>false)
 |none=>false
theorem vn(h:oi b ns=true)(h0:ns≠[])(h15:ns.length<=15)(pr:TY (j0 X) ns rows):dq X b (Nc (kj (rows.map lW))):=by unfold oi at h;cases hr:nH b with
 |none=>rw[hr]at h;cases h
 |some e=> rw[hr]at h;obtain⟨p,rfl⟩:=rO hr;cases hd:gS e with
  |none=>simp only[hd]at h;cases h
  |some d=> simp only[hd]at h;obtain⟨p',rfl⟩:=jG hd;exact ah (ar (DY ns rows h h0 h15 pr))
end L2
namespace Ck
open PySem L2
end Ck
namespace Dt
open PySem PyProof.Rows
section
variable{prog:SK}{w:Tc}{A:Tf}{E:Do->FB->Prop}{s:FB}
def At(h:Ux)(d:GM)(es:Array Ts)(ep:Nat):Prop:=∃o,h.get? d=some o/\o.ExactDict/\o.data=.dict es ep
end
end Dt
namespace L2
open PySem PySem.Spec PyProof.Rows
end L2
namespace L2
open PySem
theorem Fd{X:Cx}{K:KB}(h:X.K=K):qx X (HH K):=h▸fR
end L2
namespace Ck
open PySem L2
noncomputable def kk(p:Pair):List Key:=[.inl p.1,.inl p.2]
end Ck
namespace L2
open PySem PySem.Spec PyProof.Rows
section
variable{X:Cx}
end
section
variable{X:Cx}
end
end L2
namespace Ck
open PySem L2
end Ck
namespace L2
open PySem PySem.Spec PyProof.Rows
section
variable{X:Cx}
end
end L2
namespace Ck
open PySem L2
inductive ir(H:Hp):List V->List (Option Bt)->Prop|nil:ir H [] [] |tree {v:V}{t:Bt}{xs:List V}{ts:List (Option Bt)} (h:Tw H v t) (r:ir H xs ts):ir H (v::xs) (some t::ts)
 |sign {xs:List V}{ts:List (Option Bt)} (r:ir H xs ts):ir H (.str (AC ")")::xs) (none::ts)
end Ck
namespace L2
open PySem PySem.Spec
variable{X:Cx}
def N3(K:KB):V->List V->Hp->VK->Prop:=fun x vs H Q=>qu x vs H Q\/De K x vs H Q
theorem E9:jC X "list.extend" (N3 X.K):=fun pins s σ H x vs v us Q I rx rv h=>h.elim (wQ pins s σ H x vs v us Q I rx rv) (qp pins s σ H x vs v us Q I rx rv)
end L2
namespace Ck
open PySem L2
end Ck
namespace L2
open PySem PySem.Spec PyProof.Rows
noncomputable def pick{α:Type}(d:α):List α->Nat->α
 | [],_=>d
 |a::_,0=>a
 |_::r,n+1=>pick d r n
theorem four{p:Nat->Prop}(a:p 0)(b:p 1)(c:p 2)(d:p 3):∀i,i<=3->p i
 |0,_=>a
 |1,_=>b
 |2,_=>c
 |3,_=>d
 |n+4,h=>absurd h (by lia)
section
variable{X:Cx}{C f:Nat->GM}{fd:Nat->TK}{ps:List Str}{sp:Nat->Sp}{m:Str}{apos pos:Pos}{o e:Uo}{es:List Uo}{ta:TE}{t:TA}{j k:Nat}
end
theorem aI(h1:sc.kind=.function:=by rfl)(h2:sc.isCoroutine=false:=by rfl)(h3:sc.isGenerator=false:=by rfl)(h4:N.Nodup:=by decide+kernel)(h5:N.take P.length=P:=by rfl)(h6:∀x∈P,sc.names.lookup x=some .local\/sc.names.lookup x=some .cell:=by decide+kernel)(h7:∀y∈sc.names,y.2≠.free:=by decide+kernel):aq N P sc:=⟨h1,h2,h3,h4,h5,h6,h7⟩
structure Nf(K:KB)(mg:Str->Option Do)(x:Str)(st:T4)(f:GM)(fd:TK):Prop where
 F:aE K x x st f fd
 m:mg x=some (.ref f)
section
variable{P:SK}{w:Tc}{K:KB}{mg:Str->Option Do}{base:Ux}{x q:Str}{st:T4}{f:GM}{fd:TK}{N ps:List Str}{k:Nat}{sp:Sp}
theorem bE(F:aE K x q st f fd)(b:∀(kV doc pm:Do)(an:Option GM)(cdv ct:Do)(us:List Do),us.length=ps.length->bindArgs (Yh x q (cR st) (bI st) (aj st) .none kV doc pm an cdv ct) ⟨us,[]⟩=pure (ps.zip us))(ok:bz P w K mg base lF k f fd ps sp):du P w K mg base ps k sp f fd:=⟨ok.up,F.binds b⟩
theorem PJ(F:aE K x q st f fd)(b:∀(kV doc pm:Do)(an:Option GM)(cdv ct:Do)(us:List Do),us.length=ps.length->bindArgs (Yh x q (cR st) (bI st) (aj st) .none kV doc pm an cdv ct) ⟨us,[]⟩=pure (ps.zip us))(ok:bz P w K mg base (e9 P w) k f fd ps sp):du P w K mg base ps k sp f fd:=⟨ok,F.binds b⟩
theorem bg(F:Nf K mg x st f fd)(b:∀(kV doc pm:Do)(an:Option GM)(cdv ct:Do)(us:List Do),us.length=ps.length->bindArgs (Yh x x (cR st) (bI st) (aj st) .none kV doc pm an cdv ct) ⟨us,[]⟩=pure (ps.zip us))(ok:bz P w K mg base lF k f fd ps sp):Def P w K mg base x ps k sp f fd:=⟨ok.up,F.F.binds b,F.F.kp,F.m⟩
theorem AW(F:Nf K mg x st f fd)(b:∀(kV doc pm:Do)(an:Option GM)(cdv ct:Do)(us:List Do),us.length=ps.length->bindArgs (Yh x x (cR st) (bI st) (aj st) .none kV doc pm an cdv ct) ⟨us,[]⟩=pure (ps.zip us))(ok:bz P w K mg base (e9 P w) k f fd ps sp):Def P w K mg base x ps k sp f fd:=⟨ok,F.F.binds b,F.F.kp,F.m⟩
end
theorem qX{P:List Do->Prop}(h:P []):∀us:List Do,us.length=0->P us
 | [],_=>h
 |_::_,e=>nomatch e
theorem Bx{n:Nat}{P:List Do->Prop}(h:∀(a:Do)(us:List Do),us.length=n->P (a::us)):∀us:List Do,us.length=n+1->P us
 |a::us,e=>h a us (Nat.succ.inj e)
 | [],e=>nomatch e
theorem aZ{P:List Do->Prop}(h:∀a:Do,P [a]):∀us:List Do,us.length=1->P us:=Bx fun a=>qX (h a)
theorem cE{P:List Do->Prop}(h:∀a b:Do,P [a,b]):∀us:List Do,us.length=2->P us:=Bx fun a=>aZ (h a)
theorem iw{P:List Do->Prop}(h:∀a b c:Do,P [a,b,c]):∀us:List Do,us.length=3->P us:=Bx fun a=>cE (h a)
theorem Sw{P:List Do->Prop}(h:∀a b c d:Do,P [a,b,c,d]):∀us:List Do,us.length=4->P us:=Bx fun a=>iw (h a)
end L2
namespace L2
open PySem
theorem eD(d:du P w K mg base ps j sp f fd)(h:j<=k:=by decide):du P w K mg base ps k sp f fd:=⟨d.ok.mono h,d.b⟩
end L2
namespace Ck
open PySem L2
end Ck
namespace L2
open PySem PySem.Spec PyProof.Rows
end L2
namespace Ck
open PySem L2
theorem Im:∀y∈([")(","(","(x","())(","( )","()()((("]:List Str),dF 0 y.cps.toList=false:=by decide+kernel
theorem Kz:∀rs∈([[1],[0,1,0],[0,2],[-1],[0,0,3],[0,1,2,1]]:List (List Int)),iI 0 0 rs=false:=by decide
theorem JM:∀ps∈([[(0,2),(1,3)],[(1,2),(0,3)],[(0,0)],[(1,2)],[(0,3),(2,1)],[(0,1),(1,2)]]:List (List Pair)),dU ps=false:=by decide
theorem IA:∀rs∈([[[0,2],[1,3]],[[]],[[1],[0]],[[1,0]],[[0],[2]],[[0,1],[1]]]:List (List (List Int))),dR rs=false:=by decide
theorem HP:∀p∈([(5,[(0,2),(1,3)]),(5,[(1,4),(1,3)]),(4,[]),(4,[(0,1)]),(4,[(0,3)]),(1,[])]:List (Int×List Pair)),j9 p.1 p.2=false:=by decide
theorem Fz:∀ns∈([[2,0,1],[0,0],[1],[0,2],[3,0,1,2],[-1]]:List (List Int)),oR ns=false:=by decide
theorem GP:∀ns∈([[3],[-1],[0,4],[4,0],[0,-1],[10^59]]:List (List Int)),OT ns=false:=by decide+kernel
theorem GG:∀ns∈([[],[1],[2,1],[0,3],[0,-1],[2,3,2,0]]:List (List Int)),kz ns=false:=by decide
theorem JE:∀ns∈([[],[1],[1,1],[0,2],[-1,0],[2,0,2]]:List (List Int)),g5 ns=false:=by decide
end Ck
namespace L2
open PySem PySem.Spec PyProof.Rows
noncomputable def aT(p:Nat->Prop):Nat->Prop
 |0=>True
 |n+1=>aT p n/\p n
theorem aT.get:∀{n:Nat},aT p n->∀i,i<n->p i
 |0,_,i,h=>absurd h (UC i)
 |n+1,⟨a,b⟩,i,h=>if e:i=n then e▸b else a.get i (by lia)
def n8(M:Nat)(C:Nat->GM)(m:Str)(sp:Nat->Sp)(E:XK)(ta:TE)(t:TA):TE:=fun σ H Q=>∃i,i<M/\jh (C i) m (sp i) [] E ta t σ H Q
section
variable{X:Cx}{M:Nat}{C f:Nat->GM}{fd:Nat->TK}{ps:List Str}{sp:Nat->Sp}{m:Str}{apos pos:Pos}{o e:Uo}{es:List Uo}{ta:TE}{t:TA}{j k:Nat}
theorem mY(ho:PE X o ta)(c:∀i,i<M->Cls X.K (C i))(hm:∀i,i<M->Meth X.K (C i) m (f i))(D:∀i,i<M->du X.prog X.w X.K X.mg X.base ps j (sp i) (f i) (fd i))(hr:aU k X.A)(ha:PA X (e::es) t)(hjk:j<=k:=by decide)(hst:starEach (e::es) X.env=(false,eval e X.env)::starEach es X.env:=by rfl)(hpl:(backTo pos (starEach es X.env)).any (·.1)=false:=by rfl)(ht:eval (.Call (.Attribute o m apos) (e::es) [] pos) X.env=(do
   let ov<-eval o X.env
   standAt apos.atName let(f,first)<-holding [ov] (getMethod ov m pl)callWith pos f first (backTo pos (starEach (e::es) X.env)) (backToKw pos (keywordEach [] X.env))):=by rfl):
  PE X (.Call (.Attribute o m apos) (e::es) [] pos) (n8 M C m sp E0 ta t):=fun pins s σ H Q I⟨i,hi,h⟩=>BU ho (c i hi) (hm i hi) (D i hi) hr ha hjk hst hpl ht pins s σ H Q I h
theorem P9(ho:PE X o ta)(c:∀i,i<M->Cls X.K (C i))(hm:∀i,i<M->Meth X.K (C i) m (f i))(D:∀i,i<M->du X.prog X.w X.K X.mg X.base ps j (sp i) (f i) (fd i))(hr:aU k X.A)(hjk:j<=k:=by decide)(ht:eval (.Call (.Attribute o m apos) [] [] pos) X.env=(do
   let ov<-eval o X.env
   standAt apos.atName let(f,first)<-holding [ov] (getMethod ov m pl)callWith pos f first (backTo pos (starEach [] X.env)) (backToKw pos (keywordEach [] X.env))):=by rfl):
  PE X (.Call (.Attribute o m apos) [] [] pos) (n8 M C m sp E0 ta fJ):=fun pins s σ H Q I⟨i,hi,h⟩=>LU ho (c i hi) (hm i hi) (D i hi) hr hjk ht pins s σ H Q I h
theorem Rw(T:mM X E)(ho:PE X o ta)(c:∀i,i<M->Cls X.K (C i))(hm:∀i,i<M->Meth X.K (C i) m (f i))(D:∀i,i<M->du X.prog X.w X.K X.mg X.base ps j (sp i) (f i) (fd i))(hr:aU k X.A)(ha:PA X (e::es) t)(hjk:j<=k:=by decide)(hst:starEach (e::es) X.env=(false,eval e X.env)::starEach es X.env:=by rfl)(hpl:(backTo pos (starEach es X.env)).any (·.1)=false:=by rfl)(ht:eval (.Call (.Attribute o m apos) (e::es) [] pos) X.env=(do
   let ov<-eval o X.env
   standAt apos.atName let(f,first)<-holding [ov] (getMethod ov m pl)callWith pos f first (backTo pos (starEach (e::es) X.env)) (backToKw pos (keywordEach [] X.env))):=by rfl):
  PE X (.Call (.Attribute o m apos) (e::es) [] pos) (n8 M C m sp E ta t):=fun pins s σ H Q I⟨i,hi,h⟩=>Lc T ho (c i hi) (hm i hi) (D i hi) hr ha hjk hst hpl ht pins s σ H Q I h
end
end L2
namespace Ck
open PySem L2
inductive Lt where|int(i:Int)|str(s:Str)|lst(l:List Lt)|tup(l:List Lt)
mutual
def Rp (H0 H:Hp):Lt->V->Prop
 |.int i,v=>v=.int i
 |.str s,v=>v=.str s
 |.lst ts,v=>∃a xs,v=.ref a/\H0 a=none/\H a=some (.lst xs)/\bj H0 H ts xs
 |.tup ts,v=>∃a xs,v=.ref a/\H0 a=none/\H a=some (.tup xs)/\bj H0 H ts xs
def bj (H0 H:Hp):List Lt->List V->Prop
 | [],xs=>xs=[]
 |t::ts,xs=>∃v vs,xs=v::vs/\Rp H0 H t v/\bj H0 H ts vs
end
mutual
theorem Rp.mono (f:∀a,H0 a=none->H1 a=none) (s:∀a xs,H a=some (.lst xs)->H' a=some (.lst xs)) (s':∀a xs,H a=some (.tup xs)->H' a=some (.tup xs)):∀(t:Lt){v:V},Rp H0 H t v->Rp H1 H' t v
 |.int i,v,h=>by unfold Rp at h|-;exact h
 |.str i,v,h=>by unfold Rp at h|-;exact h
 |.lst ts,v,h=>by unfold Rp at h|-;obtain⟨a,xs,e,h0,ha,r⟩:=h;exact⟨a,xs,e,f _ h0,s _ _ ha,bj.mono f s s' ts r⟩
 |.tup ts,v,h=>by unfold Rp at h|-;obtain⟨a,xs,e,h0,ha,r⟩:=h;exact⟨a,xs,e,f _ h0,s' _ _ ha,bj.mono f s s' ts r⟩
theorem bj.mono (f:∀a,H0 a=none->H1 a=none) (s:∀a xs,H a=some (.lst xs)->H' a=some (.lst xs)) (s':∀a xs,H a=some (.tup xs)->H' a=some (.tup xs)):∀(ts:List Lt){xs:List V},bj H0 H ts xs->bj H1 H' ts xs
 | [],xs,h=>by unfold bj at h|-;exact h
 |t::ts,xs,h=>by unfold bj at h|-;obtain⟨v,vs,e,r,rs⟩:=h;exact⟨v,vs,e,Rp.mono f s s' t r,bj.mono f s s' ts rs⟩
end
theorem Rp.same(h:Rp H0 H t v)(s:af H H'):Rp H0 H' t v:=Rp.mono (fun _ z=>z) (fun _ _=>s _ _) (fun _ _=>s _ _) t h
theorem bj.same(h:bj H0 H t v)(s:af H H'):bj H0 H' t v:=bj.mono (fun _ z=>z) (fun _ _=>s _ _) (fun _ _=>s _ _) t h
theorem Rp.since(h:Rp H0 H t v)(s:af H1 H0):Rp H1 H t v:=Rp.mono (fun _ z=>s.free z) (fun _ _ z=>z) (fun _ _ z=>z) t h
theorem bj.since(h:bj H0 H t v)(s:af H1 H0):bj H1 H t v:=bj.mono (fun _ z=>s.free z) (fun _ _ z=>z) (fun _ _ z=>z) t h
abbrev R0(H:Hp)(t:Lt)(v:V):Prop:=Rp (fun _=>none) H t v
theorem Rp.any(h:Rp H0 H t v):R0 H t v:=Rp.mono (fun _ _=>rfl) (fun _ _ z=>z) (fun _ _ z=>z) t h
theorem Rp.updD(h:Rp H0 H t v)(hp:H p=some (.dK kvs)):Rp H0 (upd H p o) t v:=Rp.mono (fun _ z=>z) (fun _ _ z=>(aw (ky z hp (fun y=>by cases y))).trans z) (fun _ _ z=>(aw (ky z hp (fun y=>by cases y))).trans z) t h
theorem bj.length:∀{ts:List Lt}{xs:List V},bj H0 H ts xs->xs.length=ts.length
 | [],xs,h=>by unfold bj at h;rw[h];rfl
 |t::ts,xs,h=>by unfold bj at h;obtain⟨v,vs,rfl,_,rs⟩:=h;rw[Tu,Tu,bj.length rs]
theorem bj.get:∀{ts:List Lt}{xs:List V},bj H0 H ts xs->∀{j:Nat}{t:Lt},ts[j]?=some t->∃x,xs[j]?=some x/\Rp H0 H t x
 | [],xs,h,j,x,e=>by cases e
 |t::ts,xs,h,j,x,e=>by unfold bj at h;obtain⟨v,vs,rfl,r,rs⟩:=h;cases j with
  |zero=>
   have:t=x:=by simpa using e
   subst this;exact⟨v,rfl,r⟩
  |succ j=>exact bj.get rs (by simpa using e)
noncomputable def gJ(f:Uo->Option Lt):List Uo->Option (List Lt)
 | []=>some []
 |e::es=>match f e,gJ f es with
  |some t,some ts=>some (t::ts)
  |_,_=>none
noncomputable def litOf:Nat->Uo->Option Lt
 |0,_=>none
 |n+1,e=>match e with
  |.Constant (.int i) _ _=>some (.int i)
  |.Constant (.str x) _ _=>some (.str x)
  |.BinOp (.Constant (.int i) _ _) .Sub (.Constant (.int j) _ _) _=>some (.int (i-j))
  |.BinOp (.Constant (.int i) _ _) .Pow (.Constant (.int j) _ _) _=>if 0<=j/\j<=1000/\i.natAbs<1000 then some (.int (i^j.toNat))else none
  |.List es _=>match gJ (litOf n) es with
   |some ts=>if ts.length<=1000 then some (.lst ts)else none
   |none=>none
  |.Tuple es _ _=>match gJ (litOf n) es with
   |some ts=>if ts.length<=1000 then some (.tup ts)else none
   |none=>none
  |_=>none
def AM(t:Lt):TE:=fun _ H Q=>∀(v:V)(H':Hp),af H H'->Rp H H' t v->Q v H'
def NT(ts:List Lt):TA:=fun _ H Q=>∀(xs:List V)(H':Hp),af H H'->bj H H' ts xs->Q xs H'
theorem fq(h:PE X e t)(k:∀σ H Q,u σ H Q->t σ H Q):PE X e u:=fun pins s σ H Q I z=>h pins s σ H Q I (k σ H Q z)
theorem qK(h:PA X e t)(k:∀σ H Q,u σ H Q->t σ H Q):PA X e u:=fun pos pins s σ H Q I z=>h pos pins s σ H Q I (k σ H Q z)
theorem zP(h:litOf n e=some t):starEach (e::es) env=(false,eval e env)::starEach es env:=by cases n with
 |zero=>cases h
 |succ n=>cases e with
  |Starred _ _=>cases h
  |_=>rfl
theorem l4(ih:∀e t,litOf n e=some t->PE X e (AM t)):∀(es:List Uo)(ts:List Lt),gJ (litOf n) es=some ts->PA X es (NT ts)
 | [],ts,h=>by
  cases h
  exact qK ae fun σ H Q z=>z [] H (af.refl H) rfl
 |e::es,ts,h=>by unfold gJ at h;cases h1:litOf n e with
  |none=>rw[h1]at h;cases h
  |some t=>cases h2:gJ (litOf n) es with
   |none=>rw[h1,h2]at h;cases h
   |some us=>
    rw[h1,h2]at h;cases h;refine qK (aa (ih e t h1) (l4 ih es us h2) (zP h1)) fun σ H Q z v H1 s1 r1 xs H2 s2 r2=>z (v::xs) H2 (s1.trans s2) ?_;unfold bj;exact⟨v,xs,rfl,r1.same s2,r2.since s1⟩
theorem kn:∀(n:Nat)(e:Uo)(t:Lt),litOf n e=some t->PE X e (AM t)
 |0,e,t,h=>by cases h
 |n+1,e,t,h=>by
  unfold litOf at h;split at h
  ·cases h
   exact fq ak fun σ H Q z=>z _ H (af.refl H) (by unfold Rp;rfl)
  ·cases h
   exact fq az fun σ H Q z=>z _ H (af.refl H) (by unfold Rp;rfl)
  ·cases h
   exact fq (au cz ak ak) fun σ H Q z=>⟨_,_,rfl,rfl,z _ H (af.refl H) (by unfold Rp;rfl)⟩
  ·split at h
   ·rename_i i a b j c d f g
    cases h
    exact fq (au Nt ak ak) fun σ H Q z=>⟨_,_,rfl,rfl,⟨g.1,by have:=g.2.1;lia,by have:=g.2.2;lia⟩,z _ H (af.refl H) (by unfold Rp;rfl)⟩
   ·cases h
  ·split at h
   ·rename_i ts hts
    split at h
    ·rename_i hl
     cases h
     refine fq (aK (l4 (fun e t=>kn n e t) _ _ hts)) fun σ H Q z xs H1 s1 r1=>?_;refine⟨by rw[r1.length];exact sz (by lia),fun p hp=>z _ _ (af.new s1 hp _) ?_⟩;unfold Rp;exact⟨p,xs,rfl,s1.free hp,ag,r1.same (af.new (af.refl _) hp _)⟩
    ·cases h
   ·cases h
  ·split at h
   ·rename_i ts hts
    split at h
    ·rename_i hl
     cases h
     refine fq (cD (l4 (fun e t=>kn n e t) _ _ hts)) fun σ H Q z xs H1 s1 r1=>?_;refine⟨by rw[r1.length];exact sz (by lia),fun p hp=>z _ _ (af.new s1 hp _) ?_⟩;unfold Rp;exact⟨p,xs,rfl,s1.free hp,ag,r1.same (af.new (af.refl _) hp _)⟩
    ·cases h
   ·cases h
  ·cases h
theorem wI(h:litOf n e=some t):swapsWith e tg l env=pure false:=by cases n with
 |zero=>cases h
 |succ n=>cases e with
  |ListComp _ _ _ _=>cases h
  |SetComp _ _ _ _=>cases h
  |DictComp _ _ _ _ _=>cases h
  |_=>rfl
theorem DK(n:Nat)(t:Lt)(hu:X.A.units+1<cLine)(ho:PE X o td)(hi:PE X i ty)(hv:litOf n value=some t):PS X (.Assign [.Subscript o i pos'] value pos) (Bn td ty (AM t)):=Ft hu ho hi (kn n value t hv) (wI hv)
mutual
def Sl:Lt->Nat
 |.int _=>0
 |.str _=>0
 |.lst ts=>zO ts+1
 |.tup ts=>zO ts+1
def zO:List Lt->Nat
 | []=>0
 |t::ts=>max (Sl t) (zO ts)
end
theorem DN(i:Str):dB (.str i) (.str i)=true:=by show(i==i)=true;exact beq_self_eq_true i
noncomputable def bY(ns:List Int):Lt:=.lst (ns.map .int)
noncomputable def FO(p:Pair):Lt:=.tup [.int p.1,.int p.2]
noncomputable def l3(ps:List Pair):Lt:=.lst (ps.map FO)
noncomputable def oo(rs:List (List Int)):Lt:=.lst (rs.map bY)
theorem md:∀{ns:List Int}{xs:List V},bj H0 H (ns.map .int) xs->xs=ns.map V.int
 | [],xs,h=>by unfold Wc bj at h;rw[h];rfl
 |n::ns,xs,h=>by unfold Wc bj at h;obtain⟨v,vs,rfl,r,rs⟩:=h;unfold Rp at r;rw[r,md rs];rfl
theorem b9(h:Rp H0 H (bY ns) v):∃p,v=.ref p/\H0 p=none/\H p=some (.lst (ns.map V.int)):=by unfold bY Rp at h;obtain⟨a,xs,rfl,h0,ha,r⟩:=h;rw[md r]at ha;exact⟨a,rfl,h0,ha⟩
theorem lN(h0:H0 p=none)(h:H p=some (.lst (ns.map V.int))):Rp H0 H (bY ns) (.ref p):=by unfold bY Rp;refine⟨p,_,rfl,h0,h,?_⟩;clear h;induction ns with
 |nil=>unfold Wc bj;rfl
 |cons n ns ih=>unfold Wc bj;exact⟨_,_,rfl,by unfold Rp;rfl,ih⟩
theorem vP:∀{ps:List Pair}{xs:List V},bj H0 H (ps.map FO) xs->cB H xs ps
 | [],xs,h=>by unfold Wc bj at h;rw[h];exact .nil
 |p::ps,xs,h=>by unfold Wc bj at h;obtain⟨v,vs,rfl,r,rs⟩:=h;unfold FO Rp at r;obtain⟨a,ys,rfl,_,ha,l⟩:=r;have e:ys=[p.1,p.2].map V.int:=md (H0:=H0) (H:=H) l;rw[e]at ha;exact .cons ⟨a,rfl,ha⟩ (vP rs)
theorem oW(h:Rp H0 H (l3 ps) v):∃p,v=.ref p/\eE H p ps:=by unfold l3 Rp at h;obtain⟨a,xs,rfl,h0,ha,r⟩:=h;exact⟨a,rfl,xs,ha,vP r⟩
theorem wO(ha:H a=some (.lst zs))(hz:∀ns:List Int,zs≠ns.map V.int):∀{rs:List (List Int)}{xs:List V},bj H0 H (rs.map bY) xs->∃bs:List GM,xs=bs.map V.ref/\aX (fun _=>none) H a bs rs
 | [],xs,h=>by unfold Wc bj at h;rw[h];exact⟨[],rfl,.nil⟩
 |r::rs,xs,h=>by unfold Wc bj at h;obtain⟨v,vs,rfl,p,k⟩:=h;obtain⟨bs,rfl,ro⟩:=wO ha hz k;obtain⟨b,rfl,_,hb⟩:=b9 p;exact⟨b::bs,rfl,.cons ⟨hb,rfl,ky hb ha fun z=>hz r (by injection z with z;exact z.symm)⟩ ro⟩
theorem jy:∀{bs:List GM}{rs:List (List Int)},aX (fun _=>none) H a bs rs->rs.Nodup->bs.Nodup
 |_,_,.nil,_=>Wd
 |_,_,.cons (a:=b) (l₁:=bs) r ro,h=>by rw[T8]at h;refine T8.mpr ⟨fun z=>h.1 ?_,jy ro h.2⟩;clear h;induction ro with
  |nil=>cases z
  |cons q _ ih=>
   rcases GT.mp z with e|e
   ·subst e
    have e2:=r.1.symm.trans q.1;injection e2 with e2;injection e2 with e2;rw[List.map_inj_right (fun x y e=>by injection e)]at e2;rw[e2];exact SY ..
   ·exact SH _ (ih e)
theorem vG(h:Rp H0 H (oo rs) v)(nd:rs.Nodup):∃p,v=.ref p/\cP (fun _=>none) H p rs:=by unfold oo Rp at h;obtain⟨a,xs,rfl,h0,ha,r⟩:=h;cases rs with
 |nil=> unfold Wc bj at r;rw[r]at ha;exact⟨a,rfl,cP.nil ha⟩
 |cons q qs=>
  have hz:∀ns:List Int,xs≠ns.map V.int:=fun ns z=>by unfold Wc bj at r;obtain⟨v,vs,rfl,p,k⟩:=r;obtain⟨b,rfl,_,hb⟩:=b9 p;cases ns with
   |nil=>cases z
   |cons n ns=>injection z with z _;cases z
  obtain⟨bs,rfl,ro⟩:=wO ha hz r;exact⟨a,rfl,bs,ha,ro,jy ro nd⟩
noncomputable def eY:List Str:=["brackets","stairs","twins","bows","rooms","floor","turns","codes","trees","cars"]
def wd(i:Nat):Str:=pick "" eY i
noncomputable def bq(i:Nat):Int:=if i<7 then 0 else 1
noncomputable def Lh:List Str:=[")(","(","(x","())(","( )","()()((("]
noncomputable def Md:List (List Int):=[[1],[0,1,0],[0,2],[-1],[0,0,3],[0,1,2,1]]
noncomputable def Be:List (List Pair):=[[(0,2),(1,3)],[(1,2),(0,3)],[(0,0)],[(1,2)],[(0,3),(2,1)],[(0,1),(1,2)]]
noncomputable def sY:List (List (List Int)):=[[[0,2],[1,3]],[[]],[[1],[0]],[[1,0]],[[0],[2]],[[0,1],[1]]]
noncomputable def oy:List (Int×List Pair):=[(5,[(0,2),(1,3)]),(5,[(1,4),(1,3)]),(4,[]),(4,[(0,1)]),(4,[(0,3)]),(1,[])]
noncomputable def zA:List (List Int):=[[2,0,1],[0,0],[1],[0,2],[3,0,1,2],[-1]]
noncomputable def A7:List (List Int):=[[3],[-1],[0,4],[4,0],[0,-1],[10^59]]
noncomputable def xV:List (List Int):=[[],[1],[2,1],[0,3],[0,-1],[2,3,2,0]]
noncomputable def zu:List (List Int):=[[],[1],[1,1],[0,2],[-1,0],[2,0,2]]
noncomputable def vM(p:Int×List Pair):Lt:=.tup [.int p.1,l3 p.2]
def eC(i:Nat):List Lt:=pick [] [Lh.map .str,Md.map bY,[],Be.map l3,sY.map oo,oy.map vM,zA.map bY,A7.map bY,xV.map bY,zu.map bY] i
noncomputable def eF(i:Nat):Lt:=pick (.int 0) [.str "",bY [],.tup [],l3 [],oo [],vM (2,[]),bY [],bY [],bY [0],bY [0]] i
noncomputable def IsT(i:Nat)(H:Hp)(v:V)(b:Bool):Prop:=match i with
 |0=>∃y:Str,v=.str y/\dF 0 y.cps.toList=b
 |1=>∃(p:GM)(rs:List Int),v=.ref p/\H p=some (.lst (rs.map V.int))/\iI 0 0 rs=b
 |2=>true=b
 |3=>∃(l:GM)(ps:List Pair),v=.ref l/\eE H l ps/\ps.length<=20/\dU ps=b
 |4=>∃(l:GM)(H0:Hp)(rs:List (List Int)),v=.ref l/\cP H0 H l rs/\rs.length<=20/\rs.flatten.length<64/\(∀r∈rs,r.length<64)/\dR rs=b
 |5=>∃(t l:GM)(c:Int)(ps:List Pair),v=.ref t/\H t=some (.tup [.int c,.ref l])/\eE H l ps/\ps.length<=4/\ps.Nodup/\(∀p∈ps,Sx.Lo p)/\j9 c ps=b
 |6=>∃(l:GM)(ns:List Int),v=.ref l/\H l=some (.lst (ns.map V.int))/\ns.length<64/\oR ns=b
 |7=>∃(l:GM)(ns:List Int),v=.ref l/\H l=some (.lst (ns.map V.int))/\ns.length<64/\OT ns=b
 |8=>∃(l:GM)(ns:List Int),v=.ref l/\H l=some (.lst (ns.map V.int))/\ns.length<64/\kz ns=b
 |_=>∃(l:GM)(ns:List Int),v=.ref l/\H l=some (.lst (ns.map V.int))/\ns.length<64/\g5 ns=b
theorem u5(h:Rp H0 H (vM (c,ps)) v):∃t l,v=.ref t/\H t=some (.tup [.int c,.ref l])/\eE H l ps:=by unfold vM Rp at h;obtain⟨t,xs,rfl,_,ht,r⟩:=h;unfold bj at r;obtain⟨v1,vs1,rfl,r1,r⟩:=r;unfold bj at r;obtain⟨v2,vs2,rfl,r2,r⟩:=r;unfold bj at r;subst r;unfold Rp at r1;subst r1;obtain⟨l,rfl,hl⟩:=oW r2;exact⟨t,l,rfl,ht,hl⟩
theorem get_map{α:Type}{f:α->Lt}{l:List α}{j:Nat}{t:Lt}(h:(l.map f)[j]?=some t):∃a∈l,t=f a:=by obtain⟨a,ha,rfl⟩:=Uw.mp (S5 h);exact⟨a,ha,rfl⟩
theorem Fe{H0 H:Hp}{i j:Nat}{t:Lt}{v:V}(ht:(eC i)[j]?=some t)(h:Rp H0 H t v):IsT i H v false:=by match i,ht with
 |0,ht=> obtain⟨y,hy,rfl⟩:=get_map (f:=Lt.str) (l:=Lh) ht;unfold Rp at h;exact⟨y,h,Im y hy⟩
 |1,ht=> obtain⟨y,hy,rfl⟩:=get_map (f:=bY) (l:=Md) ht;obtain⟨p,e,_,hp⟩:=b9 h;exact⟨p,y,e,hp,Kz y hy⟩
 |2,ht=>cases ht
 |3,ht=> obtain⟨y,hy,rfl⟩:=get_map (f:=l3) (l:=Be) ht;obtain⟨p,e,hp⟩:=oW h;exact⟨p,y,e,hp,(by decide:∀y∈Be,y.length<=20) y hy,JM y hy⟩
 |4,ht=> obtain⟨y,hy,rfl⟩:=get_map (f:=oo) (l:=sY) ht;obtain⟨p,e,hp⟩:=vG h ((by decide:∀y∈sY,y.Nodup) y hy);have b:=(by decide:∀y∈sY,y.length<=20/\y.flatten.length<64/\∀r∈y,r.length<64) y hy;exact⟨p,_,y,e,hp,b.1,b.2.1,b.2.2,IA y hy⟩
 |5,ht=> obtain⟨y,hy,rfl⟩:=get_map (f:=vM) (l:=oy) ht;obtain⟨p,l,e,hp,hl⟩:=u5 h;exact⟨p,l,y.1,y.2,e,hp,hl,(by decide:∀y∈oy,y.2.length<=4) y hy,(by decide:∀y∈oy,y.2.Nodup) y hy,fun x hx=>(by unfold Sx.Lo;decide:∀y∈oy,∀p∈y.2,Sx.Lo p) y hy x hx,HP y hy⟩
 |6,ht=> obtain⟨y,hy,rfl⟩:=get_map (f:=bY) (l:=zA) ht;obtain⟨p,e,_,hp⟩:=b9 h;exact⟨p,y,e,hp,(by decide:∀y∈zA,y.length<64) y hy,Fz y hy⟩
 |7,ht=> obtain⟨y,hy,rfl⟩:=get_map (f:=bY) (l:=A7) ht;obtain⟨p,e,_,hp⟩:=b9 h;exact⟨p,y,e,hp,(by decide:∀y∈A7,y.length<64) y hy,GP y hy⟩
 |8,ht=> obtain⟨y,hy,rfl⟩:=get_map (f:=bY) (l:=xV) ht;obtain⟨p,e,_,hp⟩:=b9 h;exact⟨p,y,e,hp,(by decide:∀y∈xV,y.length<64) y hy,GG y hy⟩
 |9,ht=> obtain⟨y,hy,rfl⟩:=get_map (f:=bY) (l:=zu) ht;obtain⟨p,e,_,hp⟩:=b9 h;exact⟨p,y,e,hp,(by decide:∀y∈zu,y.length<64) y hy,JE y hy⟩
 |n+10,ht=>cases ht
theorem AH(hi:i<10)(h:Rp H0 H (eF i) v):IsT i H v true:=by match i,hi,h with
 |0,_,h=>
  have h:v=.str "":=by unfold eF at h;simpa[pick,Rp]using h
  exact⟨_,h,rfl⟩
 |1,_,h=>obtain⟨p,e,_,hp⟩:=b9 (ns:=[]) h;exact⟨p,[],e,hp,rfl⟩
 |2,_,h=>exact rfl
 |3,_,h=>obtain⟨p,e,hp⟩:=oW (ps:=[]) h;exact⟨p,[],e,hp,by decide,by decide⟩
 |4,_,h=>obtain⟨p,e,hp⟩:=vG (rs:=[]) h Wd;exact⟨p,_,[],e,hp,by decide,by decide,by decide,by decide⟩
 |5,_,h=>obtain⟨p,l,e,hp,hl⟩:=u5 h;exact⟨p,l,2,[],e,hp,hl,by decide,Wd,(fun x hx=>by cases hx),by decide⟩
 |6,_,h=>obtain⟨p,e,_,hp⟩:=b9 (ns:=[]) h;exact⟨p,[],e,hp,by decide,by decide⟩
 |7,_,h=>obtain⟨p,e,_,hp⟩:=b9 (ns:=[]) h;exact⟨p,[],e,hp,by decide,by decide⟩
 |8,_,h=>obtain⟨p,e,_,hp⟩:=b9 (ns:=[0]) h;exact⟨p,[0],e,hp,by decide,by decide⟩
 |9,_,h=>obtain⟨p,e,_,hp⟩:=b9 (ns:=[0]) h;exact⟨p,[0],e,hp,by decide,by decide⟩
def kQ(H0 H:Hp)(p:GM)(ws:List (Str×List Lt)):Prop:=∃kvs,H p=some (.dK kvs)/\TY (fun(kv:Key×V)(w:Str×List Lt)=>kv.1=.inr w.1/\Rp H0 H (.lst w.2) kv.2) kvs ws
theorem kQ.keys{H0 H:Hp}{p:GM}:∀{kvs:List (Key×V)}{ws:List (Str×List Lt)},TY (fun(kv:Key×V)(w:Str×List Lt)=>kv.1=.inr w.1/\Rp H0 H (.lst w.2) kv.2) kvs ws->∀{k:Str},k∉ws.map (·.1)->(kvs.any fun kv=>decide (kv.1=.inr k))=false
 |_,_,.nil,k,h=>rfl
 |_,_,.cons r t,k,h=>by rw[SQ,GT,not_or]at h;rw[UA,kQ.keys (p:=p) t h.2,r.1,decide_eq_false (fun z=>h.1 (by injection z with z;exact z.symm))];rfl
theorem kQ.put{H0 H H1:Hp}{p:GM}{ws:List (Str×List Lt)}(h:kQ H0 H p ws)(s:af H H1)(s0:af H0 H){k:Str}(nk:k∉ws.map (·.1))(hl:ws.length<=100){t:List Lt}{v:V}(r:Rp H H1 (.lst t) v)(h0:H0 p=none):∃H2,lP H1 p (.str k) v H2/\af H0 H2/\kQ H0 H2 p (ws++[(k,t)]):=by
 obtain⟨kvs,hp,pr⟩:=h;have hp1:=s _ _ hp;have e:putK kvs (.inr k) v=kvs++[(.inr k,v)]:=by unfold putK;rw[kQ.keys (p:=p) pr nk,if_neg (by decide)]
 refine⟨_,lP.k (k:=.inr k) hp1 (by rw[UI pr];exact oh (by lia)),((s0.trans s).upd h0 _),?_⟩;rw[e];refine⟨_,ag,hJ (Paired.mapP pr fun kv w z=>⟨z.1,(z.2.same s).updD hp1⟩) (.cons ⟨rfl,((r.since s0).updD hp1)⟩ .nil)⟩
theorem kQ.at(h:kQ H0 H p ws)(hk:ws.lookup k=some t):∃v,fL H p (.str k) (some v)/\Rp H0 H (.lst t) v:=by
 obtain⟨kvs,hp,pr⟩:=h;have:∃v,cO kvs (.inr k:Key)=some v/\Rp H0 H (.lst t) v:=by clear hp;induction pr with
  |nil=>cases hk
  |@cons kv w _ _ r _ ih=> obtain⟨w1,w2⟩:=w;rw[Uv]at hk;unfold cO;rw[U6];cases e:(k==w1)with
   |true=>
    rw[e]at hk;cases hk;have e':k=w1:=by simpa using e
    subst e';rw[r.1];refine⟨kv.2,?_,r.2⟩;rw[decide_eq_true rfl];rfl
   |false=>
    rw[e]at hk;have e':¬kv.1=.inr k:=by rw[r.1];intro z;injection z with z;have z:w1=k:=z;rw[z]at e;simp at e
    rw[decide_eq_false e'];exact ih hk
 obtain⟨v,hv,r⟩:=this;exact⟨v,hv▸fL.k (k:=.inr k) hp,r⟩
end Ck
namespace L2
open PySem PySem.Spec PyProof.Rows
theorem Lj{H:Hp}{a:GM}{o:HO}(h:H a=some o):upd H a o=H:=by
 funext b;unfold upd;split;·next e=>rw[e,h]
 ·rfl
end L2
namespace L2
open PySem PySem.Spec PyProof.Rows PySem.Builtin PySem.Builtin.Str
def rL:List TE->Str->TE
 | [],out=>fun _ H Q=>Q (.str out) H
 |t::ts,out=>fun σ H Q=>t σ H fun u H'=>∃y,u=.str y/\(out++y).length<=sizeLine/\rL ts (out++y) σ H' Q
theorem ot:∀{es:List Uo}{ts:List TE},TY (PE X) es ts->∀{out:Str}{s:FB}{H:Hp},Inv X pins σ H s->out.length<=sizeLine->rL ts out σ H Q->wpAny (model X.prog X.w) X.A (joinParts out (evalEach es X.env)) (EP X pins σ Q) X.xe s
 |_,_,.nil,out,s,H,I,ho,hq=>joinParts_nil ⟨.str out,H,I.tok _,⟨_,rfl⟩,hq⟩ ho
 |_,_,.cons h hs,out,s,H,I,ho,hq=>by refine joinParts_cons (aD (h pins s σ H _ I hq) fun v s1 hZ=>?_);obtain⟨x,H1,I1,r,y,e,hy,q⟩:=hZ;subst e;obtain⟨t,rfl⟩:=r;exact⟨hy,ot hs I1 hy q⟩
theorem DX(h1:PE X e1 t1)(h2:PE X e2 t2)(hs:TY (PE X) es ts):PE X (.JoinedStr (e1::e2::es) pos) (rL (t1::t2::ts) Str.empty):=by intro pins s σ H Q I hq;exact JoinedStr_many (ot (.cons h1 (.cons h2 hs)) I (by decide) hq)
end L2
namespace L2
open PySem PySem.Spec PyProof.Rows
def Gn:V->List V->Hp->VK->Prop:=fun x vs H Q=>∃z,x=.str z/\vs=[]/\z.length<=5592405/\Q (.str (Txt.upper z)) H
theorem Aj{X:Cx}:jC X "str.upper" Gn:=by
 intro pins s σ H x xs v us Q I rx rs h;obtain⟨z,rfl,rfl,hz,q⟩:=h;obtain⟨t,rfl⟩:=rx;cases rs;exact SCL.upper hz fun _=>⟨.str (Txt.upper z),H,I.tok _,⟨_,rfl⟩,q⟩
end L2
namespace L2
open PySem PySem.Spec PyProof.Rows PySem.W
noncomputable def OU:List Str:=["KinError","NoSize","NoNumber","NoThing","NoFamily","NoWay","Apart","NoMark","NoText","Broken"]
def yN(K:VB)(is:List Nat)(er:Nat->GM):Bool:=is.all fun i=>excIn K (er i) il "ValueError.__new__"&&(uh K (er i)&&(exmOne K (.ref (er i)) (.ref (er 0))==some true&&(kitOne K (.ref (er i)) (.type "ValueError")==some true&& [1,2,3,4,5,6,7,8,9].all fun j=>kitOne K (.ref (er i)) (.ref (er j))==some (decide (i=j)))))
structure JP(K:VB)(mg:Str->Option Do)(is:List Nat)(er:Nat->GM):Prop where
 m:∀i,i<10->mg (pick "" OU i)=some (.ref (er i))
 x:∀i∈is,r6 K (er i)
 k:∀i∈is,fc K (er i)
 c:∀i∈is,exmOne K (.ref (er i)) (.ref (er 0))=some true
 v:∀i∈is,kitOne K (.ref (er i)) (.type "ValueError")=some true
 d:∀i∈is,∀j∈[1,2,3,4,5,6,7,8,9],i≠j->kitOne K (.ref (er i)) (.ref (er j))=some false
 e:∀i∈is,i∈[1,2,3,4,5,6,7,8,9]->kitOne K (.ref (er i)) (.ref (er i))=some true
theorem Fv{K:VB}{mg:Str->Option Do}{is:List Nat}{er:Nat->GM}(h:yN K is er=true)(m:∀i,i<10->mg (pick "" OU i)=some (.ref (er i))):JP K mg is er:=by
 unfold yN at h;rw[SS]at h;have g:∀i∈is,excIn K (er i) il "ValueError.__new__" =true/\uh K (er i)=true/\exmOne K (.ref (er i)) (.ref (er 0))=some true/\kitOne K (.ref (er i)) (.type "ValueError")=some true/\∀j∈[1,2,3,4,5,6,7,8,9],kitOne K (.ref (er i)) (.ref (er j))=some (decide (i=j)):=fun i hi=>by have q:=h i hi;rw[On,On,On,On,beq_iff_eq,beq_iff_eq,SS]at q;exact⟨q.1,q.2.1,q.2.2.1,q.2.2.2.1,fun j hj=>beq_iff_eq.mp (q.2.2.2.2 j hj)⟩
 exact⟨m,fun i hi=>(g i hi).1,fun i hi=>D3 (g i hi).2.1,fun i hi=>(g i hi).2.2.1,fun i hi=>(g i hi).2.2.2.1,fun i hi j hj ne=>by rw[(g i hi).2.2.2.2 j hj,decide_eq_false ne],fun i hi hi'=>by rw[(g i hi).2.2.2.2 i hi',decide_eq_true rfl]⟩
structure tZ(P:SK)(w:Tc)(K:KB)(mg:Str->Option Do)(base:Ux)(ps:List Str)(k:Nat)(sp:Sp)(f:GM)(fd:TK):Prop where
 ok:bz P w K mg base (e9 P w) k f fd ps sp
 b:Binds K fd ps []
 kp:W.keepIn K (.ref f)=true
theorem Def.v{P:SK}{w:Tc}{K:KB}{mg:Str->Option Do}{base:Ux}{x:Str}{ps:List Str}{j k:Nat}{sp sp':Sp}{f:GM}{fd:TK}(d:Def P w K mg base x ps j sp f fd)(h:∀vs H Q E,sp' vs H Q E->sp vs H Q E)(hj:j<=k:=by decide):tZ P w K mg base ps k sp' f fd:=⟨(d.ok.imp h).mono hj,d.b,d.kp⟩
theorem gu{P:SK}{w:Tc}{K:KB}{mg:Str->Option Do}{base:Ux}{ps:List Str}{j k:Nat}{sp sp':Sp}{f:GM}{fd:TK}(d:du P w K mg base ps j sp f fd)(h:∀vs H Q E,sp' vs H Q E->sp vs H Q E)(hj:j<=k:=by decide):du P w K mg base ps k sp' f fd:=⟨(d.ok.imp h).mono hj,d.b⟩
section
variable{X:Cx}{M:Nat}{f:Nat->GM}{fd:Nat->TK}{ps:List Str}{sp:Nat->Sp}{p pos:Pos}{a b e:Uo}{es:List Uo}{tc:TE}{t:TA}{j k:Nat}
def vB(M:Nat)(f:Nat->GM)(sp:Nat->Sp)(E:XK)(tc:TE)(t:TA):TE:=fun σ H Q=>tc σ H fun v H1=>∃i,i<M/\v=.ref (f i)/\t σ H1 fun vs H2=>sp i vs H2 Q E
theorem MG(T:mM X E)(hc:PE X (.Subscript a b p) tc)(D:∀i,i<M->tZ X.prog X.w X.K X.mg X.base ps j (sp i) (f i) (fd i))(hr:aU k X.A)(ha:PA X (e::es) t)(hjk:j<=k:=by decide)(he:starEach (e::es) X.env=(false,eval e X.env)::starEach es X.env:=by rfl)(hpl:(backTo pos (starEach es X.env)).any (·.1)=false:=by rfl): PE X (.Call (.Subscript a b p) (e::es) [] pos) (vB M f sp E tc t):=by
 intro pins s σ H Q I h;show wpAny (model X.prog X.w) X.A (eval (.Subscript a b p) X.env>>=fun fv=>callWith pos fv [] (backTo pos (starEach (e::es) X.env)) (backToKw pos (keywordEach [] X.env))) _ _ _;refine tz (aD (hc pins s σ H _ I h) fun u s1 hZ=>?_);obtain⟨v,H1,I1,rv,i,hi,ev,q⟩:=hZ;subst ev;obtain rfl:u=PP (f i):=rv;refine XB (first:=[]) (h₀:=X.base) I1.ok.mod.kin (D i hi).kp (aD (ha pos pins s1 σ H1 _ I1 q) fun us s2⟨vs,H2,I2,r,q2⟩=>⟨I2.kIn,?_⟩) he hpl;have q3:sp i (vs++[]) H2 Q E:=by rw[T7];exact q2
 exact gG (D i hi).ok (hr.mono hjk) (D i hi).b .nil T.pass I2 r q3
end
end L2
namespace Ck
open PySem L2
theorem IsT.same(h:IsT i H v b)(s:af H H'):IsT i H' v b:=by
 unfold IsT at h|-;split at h;·exact h
 ·obtain⟨p,rs,e,hp,r⟩:=h;exact⟨p,rs,e,s _ _ hp,r⟩
 ·exact h
 ·obtain⟨p,rs,e,hp,r⟩:=h;exact⟨p,rs,e,hp.same s,r⟩
 ·obtain⟨p,H0,rs,e,hp,r⟩:=h;exact⟨p,H0,rs,e,hp.same s,r⟩
 ·obtain⟨t,l,c,ps,e,ht,hp,r⟩:=h;exact⟨t,l,c,ps,e,s _ _ ht,hp.same s,r⟩
 ·obtain⟨p,rs,e,hp,r⟩:=h;exact⟨p,rs,e,s _ _ hp,r⟩
 ·obtain⟨p,rs,e,hp,r⟩:=h;exact⟨p,rs,e,s _ _ hp,r⟩
 ·obtain⟨p,rs,e,hp,r⟩:=h;exact⟨p,rs,e,s _ _ hp,r⟩
 ·obtain⟨p,rs,e,hp,r⟩:=h;exact⟨p,rs,e,s _ _ hp,r⟩
theorem de(nx:H x=none)(ndx:H dx=none)(e:H1=upd (upd (upd H dx (.own x)) x (.ins C dx [])) x (.ins C dx fs))(f:b8 fs w l):af H H1/\TY (c6 H1) [.ref x] [(w,C,l)]:= ⟨by rw[e];exact((af.new (af.refl H) ndx _).upd nx _).upd nx _,.cons ⟨x,dx,fs,rfl,by rw[e];exact ag,f⟩ .nil⟩
theorem le_app{x y:Str}{a b:Nat}(hx:x.length<=a)(hy:y.length<=b):(x++y).length<=a+b:=by
 have:(x++y).length=x.length+y.length:=by show(x.cps++y.cps).size=x.cps.size+y.cps.size;exact W6
 rw[this];exact Nat.add_le_add hx hy
theorem eX(hx:x<=a)(hy:y<=b)(h:a+b<=1000):x+y<=sizeLine:=Tt (Nat.add_le_add hx hy) (Tt h (by decide))
noncomputable def jc(v:Uo):Option (List Lt):=match litOf 8 v with
 |some (.lst t)=>some t
 |_=>none
noncomputable def jw:T4->Option (Str×List Lt)
 |.Assign [.Name x _] (.Dict [some (.Constant (.str k) _ _)] [v] _) _=>if x= "_law_some"then(jc v).map fun t=>(k,t)else none
 |_=>none
noncomputable def rM:T4->Option (Str×List Lt)
 |.Assign [.Subscript (.Name x _) (.Constant (.str k) _ _) _] v _=>if x= "_law_some"then(jc v).map fun t=>(k,t)else none
 |_=>none
noncomputable def CP:T4->Bool
 |.Return (some (.Subscript (.Subscript (.Name x _) (.Name y _) _) (.BinOp (.Name z _) .Mod (.Constant (.int n) _ _) _) _)) _=>decide (x= "_law_some")&&(decide (y= "_law_word")&&(decide (z= "_law_draw")&&decide (n=6)))
 |_=>false
noncomputable def fK:List T4->Option (List (Str×List Lt))
 | []=>none
 |s::r=>if CP s=true/\r=[]then some []else match rM s,fK r with
  |some w,some ws=>some (w::ws)
  |_,_=>none
def IL:List T4->Option (List (Str×List Lt))
 | []=>none
 |s::r=>match jw s,fK r with
  |some w,some ws=>some (w::ws)
  |_,_=>none
structure OL(X:Cx):Prop where
 nd:X.N.Nodup
 n0:X.N[(0:Nat)]?=some ("_law_word" :Str)
 n1:X.N[(1:Nat)]?=some ("_law_draw" :Str)
 n2:X.N[(2:Nat)]?=some ("_law_some" :Str)
 v0:mG X.env.scope "_law_word"
 v1:mG X.env.scope "_law_draw"
 v2:mG X.env.scope "_law_some"
 lc:Loc X.env.scope "_law_some"
 lf:X.fn "_law_some" =true\/X.env.scope.names.lookup ("_law_some" :Str)=some .local
 hu:X.A.units+1<cLine
theorem jV(h:dq X b t)(k:∀D σ H,u D σ H->t D σ H):dq X b u:=fun pins s σ H D I z=>h pins s σ H D I (k D σ H z)
def NQ(ws:List (Str×List Lt)):TS:=fun D σ H=>∃(H0:Hp)(p:GM)(ws0:List (Str×List Lt))(w:Str)(d:Int)(ts:List Lt)(t0:Lt),σ[0]?=some (some (.str w))/\σ[1]?=some (some (.int d))/\σ[2]?=some (some (.ref p))/\af H0 H/\H0 p=none/\kQ H0 H p ws0/\((ws0++ws).map (·.1)).Nodup/\(ws0++ws).length<=100/\ (ws0++ws).lookup w=some ts/\ts[(d%6).toNat]?=some t0/\∀(v:V)(H':Hp),af H0 H'->Rp H0 H' t0 v->D.rt v H'
theorem NN(h:Rp H0 H (.lst ts) v)(k0:0<=k)(ht:ts[k.toNat]?=some t):∃w,(∃b xs,v=.ref b/\H b=some (.lst xs)/\eS xs k=some w)/\Rp H0 H t w:=by unfold Rp at h;obtain⟨b,xs,rfl,_,hb,r⟩:=h;obtain⟨w,hw,rw'⟩:=r.get ht;refine⟨w,⟨b,xs,rfl,hb,?_⟩,rw'⟩;obtain⟨j,rfl⟩:∃j:Nat,k=(j:Int):=⟨_,(WH k0).symm⟩;exact gH hw
theorem kJ(h:jc v=some t):litOf 8 v=some (.lst t):=by
 unfold jc at h;split at h
 ·rename_i e
  cases h
  exact e
 ·cases h
theorem qG(A:OL X):∀(b:List T4)(ws:List (Str×List Lt)),fK b=some ws->dq X b (NQ ws)
 | [],ws,h=>by cases h
 |s::r,ws,h=>by
  unfold fK at h;split at h
  ·rename_i c
   cases h
   obtain⟨c,rfl⟩:=c;unfold CP at c;split at c
   ·rename_i x p1 y p2 p3 z p4 n k p5 p6 p7 p8
    simp only[On,decide_eq_true_iff]at c;obtain⟨rfl,rfl,rfl,rfl⟩:=c;refine jV (ah (ar (aV a9 (jx A.hu (iY A.n2 A.v2) (iY A.n0 A.v0) (fun _ _=>rfl)) (au bu (iY A.n1 A.v1) ak) (fun _ _=>rfl)))) fun D σ H z=>?_;obtain⟨H0,p,ws0,w,d,ts,t0,e0,e1,e2,s0,hp,dl,nd,ln,lk,ht,q⟩:=z;rw[T7]at lk;obtain⟨v,gv,rv⟩:=dl.at lk;obtain⟨u,⟨b,xs,rfl,hb,ex⟩,ru⟩:=NN rv (k:=d%6) (TJ d (by decide)) ht;exact⟨_,e2,_,e0,p,_,rfl,gv,_,e1,_,_,rfl,rfl,pm (by decide),b,_,_,_,rfl,rfl,ao.of hb,ex,q _ _ s0 ru⟩
   ·cases c
  ·cases h1:rM s with
   |none=>rw[h1]at h;cases h
   |some w1=>cases h2:fK r with
    |none=>rw[h1,h2]at h;cases h
    |some ws1=>
     rw[h1,h2]at h;cases h;have ih:=qG A r ws1 h2;unfold rM at h1;split at h1
     ·rename_i x p1 k k1 p2 p3 v p4 hz9
      split at h1
      ·rename_i e
       subst e;cases hv:jc v with
       |none=>rw[hv]at h1;cases h1
       |some t=>
        rw[hv]at h1;cases h1;refine jV (ai (DK 8 (.lst t) A.hu (iY A.n2 A.v2) az (kJ hv)) ih) fun D σ H z=>?_;obtain⟨H0,p,ws0,w,d,ts,t0,e0,e1,e2,s0,hp,dl,nd,ln,lk,ht,q⟩:=z;refine fun u H1 s1 r1=>⟨_,e2,?_⟩;have nk:k∉ws0.map (·.1):=fun z=>by rw[SV,SQ]at nd;exact(Vz.mp nd).2.2 k z k (SY ..) rfl
        have l0:ws0.length<=100:=by rw[SW]at ln;lia
        obtain⟨H2,pu,k2,d2⟩:=dl.put s1 s0 nk l0 r1 hp;exact⟨p,H2,rfl,pu,H0,p,_,w,d,ts,t0,e0,e1,e2,k2,hp,d2,by rw[Uy];exact nd,by rw[Uy];exact ln,by rw[Uy];exact lk,ht,q⟩
      ·cases h1
     ·cases h1
def Sr(ws:List (Str×List Lt)):TS:=fun D σ H=>∃(w:Str)(d:Int)(ts:List Lt)(t0:Lt),σ=[some (.str w),some (.int d),none]/\(ws.map (·.1)).Nodup/\ws.length<=100/\ws.lookup w=some ts/\ts[(d%6).toNat]?=some t0/\∀(v:V)(H':Hp),af H H'->Rp H H' t0 v->D.rt v H'
theorem Fc(A:OL X)(h:IL b=some ws):dq X b (Sr ws):=by cases b with
 |nil=>cases h
 |cons s r=> have h:(match jw s,fK r with|some w,some ws=>some (w::ws)|_,_=>none)=some ws:=h;cases h1:jw s with
  |none=>rw[h1]at h;cases h
  |some w1=>cases h2:fK r with
   |none=>rw[h1,h2]at h;cases h
   |some ws1=>
    rw[h1,h2]at h;cases h;have ih:=qG A r ws1 h2;unfold jw at h1;split at h1
    ·rename_i x p1 k k1 p2 v p3 p4
     split at h1
     ·rename_i e
      subst e;cases hv:jc v with
      |none=>rw[hv]at h1;cases h1
      |some t=>
       rw[hv]at h1;cases h1;refine jV (ai (aA A.nd A.n2 A.lc (l9 (jK az (kn 8 v (.lst t) (kJ hv)) lX) rfl rfl (List.cons_ne_nil _ _) (by show 1<=15;decide)) rfl A.lf) ih) fun D σ H z=>?_;obtain⟨w,d,ts,t0,rfl,nd,ln,lk,ht,q⟩:=z;refine fun p hp u H1 s1 r1=>⟨s1 _ _ ag,[(.inr k,u)],rfl,(by show 1<=15;decide),?_⟩;have s0:=(af.new (af.refl H) hp (.dK [])).trans s1;exact⟨H,p,[(k,t)],w,d,ts,t0,rfl,rfl,rfl,s0.upd hp _,hp,⟨_,ag,.cons ⟨rfl,(r1.since (af.new (af.refl H) hp (.dK []))).updD (s1 _ _ ag)⟩ .nil⟩,nd,ln,lk,ht,q⟩
     ·cases h1
    ·cases h1
end Ck
namespace Sx
open PySem PySem.SetTable
theorem Good.put4(G:Good t n)(h4:n<4)(hj:j∉t.place.toList)(hjm:j<=t.mask):Tab (t.put j).1 (n+1)/\(t.put j).2=below t.place j/\(t.put j).1.plain=t.plain/\(t.put j).1.led=t.led/\(t.put j).1.tooFull=false:=by have hm:=G.tab.msk;obtain⟨T,e2,e3,e4,e5⟩:=G.tab.put hj hjm (by rcases hm with e|e|e<;>lia);refine⟨T,e2,e3,e4,?_⟩;unfold tooFull fill;rw[T.dum,T.len,e5];simp;rcases hm with e|e|e<;>rw[e]<;>lia
end Sx
namespace Sx
open PySem PyProof.Rows
section
variable{prog:SK}{w:Tc}{A:Tf}{E:Do->FB->Prop}{s:FB}
theorem vq(hu:A.units<cLine)(hS:eL s.heap a led es)(hk:fC prog w s.heap x p)(nh:∀e∈es.toList,e.1≠di p)(h4:es.size<4)(q:∀h' es',Vo a s.heap h'->eL h' a led es'->es'.toList.Perm ((di p,.ref x)::es.toList)->Q true {s with heap:=h',toks:=s.toks+3}):wpAny (model prog w) A (setAdd a (.ref x)) Q E s:=by
 obtain⟨o,ep,t,ho,hex,hd,G,el,ep1⟩:=hS.at_;unfold setAdd;refine Ti (tz (wpAny_pyHash_tuple hu hk ?_));show wpAny (model prog w) A (setAddHashed a (.ref x) (di p)) Q E {s with toks:=s.toks+3};unfold setAddHashed setAddHashedIn;refine Ti (tz (U7 (s:={s with toks:=s.toks+3}) ho hd (fits_of G.tab) ?_));have bs:byScan (.ref x) es=false:=rfl;simp only[bs,Ta,if_false];refine tz (qh (s:={s with toks:=s.toks+3}) ho hd G nh fun j nj jm=>?_);simp only;refine tz (U7 (s:={s with toks:=s.toks+3}) ho hd (fits_of G.tab) ?_);obtain⟨T1,e2,e3,e4,hf⟩:=G.put4 h4 nj jm;obtain⟨t1,p1,e1⟩:∃t1 p1,t.put j=(t1,p1):=⟨_,_,rfl⟩;rw[e1]at T1 e2 e3 e4 hf;simp only at T1 e2 e3 e4 hf;simp only[e1];have pl:t1.plain=true:=by rw[e3,ep1]
 have h0:=(below_at t.place j G.tab.ris).1;have hp1:p1<=es.size:=by rw[e2,<-G.tab.len];exact h0
 have el1:=ff es p1 (di p,PP x) hp1;have pm1:(Wb es p1 (di p,.ref x)).toList.Perm ((di p,.ref x)::es.toList):=by rw[el1];exact jF _ _ _
 have sz1:(Wb es p1 (di p,.ref x)).size=es.size+1:=by rw[<-S6,pm1.length_eq,Tu,S6]
 simp only[pl,if_true];refine tz (qd (s:={s with toks:=s.toks+3}) hk ?_);simp only[if_true];refine tz (wpAny_storeSet_of (s:={s with toks:=s.toks+3}) ho hd ?_ (by rw[sz1,TM];lia));have g1:=uI (es':=Wb es p1 (di p,.ref x)) (t':=t1) ho hd;have sb1:=Heap.SameBut.update s.heap a (Obj.putSet (Wb es p1 (di p,.ref x)) t1);rw[hf];simp only[Bool.not_false,TN,Ta,if_false];exact Gc (q _ _ sb1 ⟨_,ep+1,t1,g1,hex,rfl,⟨by rw[sz1];exact T1,hf⟩,by rw[e4,el],pl⟩ pm1)
end
section
variable{prog:SK}{w:Tc}{A:Tf}{R:Yd->FB->Prop}{I:GM}{fp wr:List GM}{G:Array VS->Array VS->Prop}{n:Nat}{P:Nat->Do->Prop}{St:Nat->FB->Prop}
theorem nt(W:WalksS prog w A.in1 I fp wr G n P St)(S:GM)(hSf:S∉fp)(hu:A.in1.units<cLine)(led:Bool)(Tp:List (GM× (Int×Int)))(hn:Tp.length=n)(hval:∀i v,P i v->∃e,Tp[i]?=some e/\v=.ref e.1)(hT:∀e∈Tp,e.1≠S/\e.1∉wr)(lo:∀e∈Tp,Lo e.2)(nd:(Tp.map (·.2)).Nodup)(n64:n<=4): ∀(k i:Nat)(s:FB)(es:Array (Int×Do)),n-i=k->i<=n->St i s->(∀e∈Tp,fC prog w s.heap e.1 e.2)->eL s.heap S led es->es.toList.Perm ((Tp.take i).map el)-> (∀s' es',Moved (S::wr) G s s'->eL s'.heap S led es'->es'.toList.Perm (Tp.map el)->R (.ok (.ret .none)) s')-> codeAny (model prog w) A (.builtin "set.update.loop" ⟨[.ref S,.ref I],[]⟩) R s:=by have hSw:S∉wr:=fun h=>hSf (W.sub _ h);have hsub:∀b∈wr,b∈S::wr:=fun b hb=>SH _ hb;intro k;induction k with
 |zero=>
  intro i s es hk hi hst hP hS hp hR;have hin:i=n:=by lia
  subst hin;refine T9 F.entry_set_update_loop ?_;rw[TF V0 _];show wpAny _ A.in1 (pyNext (.ref I)>>=_) _ _ s;refine tz (W.done s _ _ hst fun s' hm=>?_);show wpAny _ A.in1 (ret TB) _ _ s';rw[Tg (by lia)]at hp;exact Gc (hR s' es (hm.mono hsub) (hS.at' fun o e=>hm.heap S _ hSw e) hp)
 |succ k ih=>
  intro i s es hk hi hst hP hS hp hR;have hlt:i<n:=by lia
  refine T9 F.entry_set_update_loop ?_;rw[TF V0 _];show wpAny _ A.in1 (pyNext (.ref I)>>=_) _ _ s;refine tz (W.item i s _ _ hlt hst fun v s' hv hst' hm=>?_);obtain⟨e,he,rfl⟩:=hval i v hv;have em:=S5 he;have hS':eL s'.heap S led es:=hS.at' fun o x=>hm.heap S _ hSw x;have hP':∀f∈Tp,fC prog w s'.heap f.1 f.2:=fun f hf=>lJ (hP f hf) fun o x=>hm.heap _ _ (hT f hf).2 x;have les:es.size=i:=by rw[<-S6,hp.length_eq,FS,Tj];lia
  have nh:∀x∈es.toList,x.1≠di e.2:=fun x hx z=>by
   obtain⟨f,hf,rfl⟩:=Uw.mp (hp.mem_iff.mp hx);have z':di f.2=di e.2:=z;have fm:=List.mem_of_mem_take hf;have ef:=Iq (lo f fm) (lo e em) z';obtain⟨j,hj⟩:=TV hf;have hji:j<i:=by have:=(Pi.mp hj).1;rw[Tj]at this;lia
   rw[U2 hji]at hj;have g1:(Tp.map (·.2))[j]?=some f.2:=by rw[Td,hj];rfl
   have g2:(Tp.map (·.2))[i]?=some e.2:=by rw[Td,he];rfl
   rw[ef]at g1;have:=(W5 (by rw[FS];lia) nd).mp (g1.trans g2.symm);lia
  show wpAny _ A.in1 (holding [PP e.1] (setAdd S (.ref e.1))>>=_) _ _ s';refine tz (Ti (vq hu hS' (hP' e em) nh (by lia) fun h' es' sb S2 p2=>?_));refine Gc ⟨Ur V0 _,ih (i+1) _ es' (by lia) hlt (W.frame _ s' _ _ hst' (Vj _ _) fun b hb o x=>?_) (fun f hf=>lJ (hP' f hf) fun o x=>(sb.2 _ (hT f hf).1).trans x) S2 ?_ fun s'' es'' hm'' S'' p''=>?_⟩;·rw[sb.2 b (fun h:b=S=>hSf (by rw[<-h];exact hb))];exact x
  ·rw[Th,he,SV]
   exact(p2.trans (List.Perm.cons _ hp)).trans (List.perm_append_singleton (el e) _).symm
  ·refine hR s'' es'' (Moved.trans W.gtrans ((hm.mono hsub).then_heap (Vj _ _) fun b o hb x=>?_) hm'') S'' p''
   rw[sb.2 b (fun h:b=S=>hb (by rw[h];exact SY))];exact x
end
section
variable{prog:SK}{w:Tc}{A:Tf}{E:Do->FB->Prop}{s:FB}
theorem lG{l:GM}{items:Array Do}{Tp:List (GM× (Int×Int))}{Q:Do->FB->Prop}(hh:A.handled=none)(hu:A.units+10<cLine)(hl:s.heap.IsList l items)(hi:items.toList=Tp.map fun e=>.ref e.1)(hP:∀e∈Tp,fC prog w s.heap e.1 e.2)(lo:∀e∈Tp,Lo e.2)(nd:(Tp.map (·.2)).Nodup)(n64:Tp.length<=4)(h:∀(h':Ux)(tk:Nat)(es:Array (Int×Do)),eL h' s.heap.objs.size (!bD w) es->es.toList.Perm (Tp.map el)->(∀b o,b<s.heap.objs.size->s.heap.get? b=some o->h'.get? b=some o)->Q (.ref s.heap.objs.size) {s with heap:=h',toks:=tk}): wpAny (model prog w) A (call (.type "set") [.ref l]) Q E s:=by
 obtain⟨c,tl,hmro⟩:=Vw.mro;have hmade:=Vw.made;have hsub:=Vw.sub;refine VO (XE ?_);show wpAny _ _ (callAny (.type "set") _) _ _ _;refine Gc ⟨VU _ (by decide+kernel),T9 F.entry_type_call ?_⟩;rw[Around.under_plain (weight_type_call_type "set" [.ref l] []) rfl];have h1:=Vw.notType;have h2:=Vw.canCreate;have hct:=F.typeCall_set_1 (.ref l);repeat(any_goals(first|assumption|wp_step))
 refine U8 (EJ (.ref l) (E:=E) (Q₁:=fun obj s₁=>obj=.ref s.heap.objs.size/\s₁={s with heap:=s.heap.push {cls:=.type "set",dict:=none,data:=.set #[] 0 (.fresh 0 0 (!bD w))}}) ⟨rfl,rfl⟩) fun r s₁ hr=>?_;cases r with
 |error e=>exact hr
 |ok fl=>cases fl with
  |ret obj=>
   obtain⟨rfl,rfl⟩:=hr;have hS:(s.heap.push {cls:=.type "set",dict:=none,data:=.set #[] 0 (.fresh 0 0 (!bD w))}).get? s.heap.objs.size=some {cls:=.type "set",dict:=none,data:=.set #[] 0 (.fresh 0 0 (!bD w))}:=SB _ rfl;have hT:Shared.TypeIs {s with heap:=s.heap.push {cls:=.type "set",dict:=none,data:=.set #[] 0 (.fresh 0 0 (!bD w))}} (.ref s.heap.objs.size) "set":=⟨_,hS,rfl⟩;have hli:=Vw.init.lookup;have hbi:=Vw.init.bind (.ref s.heap.objs.size);repeat(any_goals(first|assumption|wp_step))
   refine U8 (UH (R:=wants (fun r s₂=>r=.none/\∃h' tk es,s₂={s with heap:=h',toks:=tk}/\eL h' s.heap.objs.size (!bD w) es/\es.toList.Perm (Tp.map el)/\ (∀b o,b<s.heap.objs.size->s.heap.get? b=some o->h'.get? b=some o)) E) Vw.init.plain F.entry_set_init (check_set_init_1 hT ?_)) fun r₂ s₂ hr₂=>?_
   ·obtain⟨ol,hol,hcl,nl,hdl⟩:=hl
    obtain⟨ocls,odict,odata,oslots⟩:=ol;simp only at hcl hdl;subst hcl;subst hdl;have hol':(s.heap.push {cls:=.type "set",dict:=none,data:=.set #[] 0 (.fresh 0 0 (!bD w))}).get? l=some {cls:=.type "list",dict:=odict,data:=.seq items nl,slots:=oslots}:=Fk _ hol;have hsls:=F.sub_list_set;have hslf:=F.sub_list_frozenset;have hne:(Ut "list" ==Ut "dict")=false:=by decide
    have cy:(s.heap.push {cls:=.type "set",dict:=none,data:=.set #[] 0 (.fresh 0 0 (!bD w))}).IsList l items:=⟨_,hol',rfl,nl,rfl⟩;unfold Builtin.«set.__init__» noKeywords Builtin.Frozenset.updateFrom;generalize hPI:pyIter=PI;wp_walk;subst hPI;refine W0 cy ?_;refine tz (wpAny_runValue ?_);have hlS:l<s.heap.objs.size:=GE hol;have hh3:A.in1.in1.in1.handled=none:=by simp[hh]
    have hneI:l≠(s.heap.push {cls:=.type "set",dict:=none,data:=.set #[] 0 (.fresh 0 0 (!bD w))}).objs.size:=by rw[Uk];exact SM (U5 hlS)
    have hSf:s.heap.objs.size∉[(s.heap.push {cls:=.type "set",dict:=none,data:=.set #[] 0 (.fresh 0 0 (!bD w))}).objs.size,l]:=by rw[Uk];simp only[GT,Uh,Ue,or_false,not_or];exact⟨SM (VH _),UU hlS⟩
    have hlt:∀e∈Tp,e.1<s.heap.objs.size:=fun e he=>by obtain⟨o,_,_,ho,_⟩:=hP e he;exact GE ho
    have hsz:items.size=Tp.length:=by rw[<-S6,hi,FS]
    refine nt (R:=_) ((Walks.list hh3 _ l hneI items).toS) s.heap.objs.size hSf ?hu (!bD w) Tp hsz.symm (fun i v hv=>?hval) (fun e he=>⟨SM (hlt e he),?hw⟩) lo nd (by lia) (items.size-0) 0 _ #[] (by lia) (KM _) ⟨⟨_,SB _ rfl,rfl,rfl⟩,(cy.push _)⟩ (fun e he=>lJ (hP e he) fun o x=>Fk _ (Fk _ x)) ?hS0 (List.Perm.refl _) ?hR;case hu=>simp only[Around.in1_units];lia
    case hval=>
     have e1:items.toList[i]?=some v:=by rw[UW];exact hv
     rw[hi,Td]at e1;cases g:Tp[i]? with
     |none=>rw[g]at e1;cases e1
     |some e=>rw[g]at e1;exact⟨e,rfl,(To e1).symm⟩
    case hw=> rw[Uk];simp only[Uh];exact SM (U5 (hlt e he))
    case hS0=>exact⟨_,0,_,Fk _ hS,⟨rfl,rfl,rfl⟩,rfl,Good.fresh 0 0 _,rfl,rfl⟩
    case hR=>
     intro s' es' hm hS' hp';obtain⟨h',g',d',tk',os'⟩:=s';have eg:g'=s.gens:=hm.gens;have ed:d'=s.drawn:=hm.drawn;have eo:os'=s.os:=hm.os;subst eg;subst ed;subst eo;show wpAny _ _ _ _ _ _;refine Gc ?_;show wpAny _ _ (ret TB) _ _ _;refine Gc ⟨rfl,h',tk',es',rfl,hS',hp',fun b o hb e=>?_⟩;have hb1:b≠s.heap.objs.size:=SM hb;have hb2:b≠(s.heap.push {cls:=.type "set",dict:=none,data:=.set #[] 0 (.fresh 0 0 (!bD w))}).objs.size:=by rw[Uk];exact SM (U5 hb)
     exact hm.heap b o (by simp only[GT,Uh,Ue,or_false,not_or];exact⟨hb1,hb2⟩) (Fk _ (Fk _ e))
   ·cases r₂ with
    |error e=>exact hr₂
    |ok fl₂=>cases fl₂ with
     |ret r=>
      obtain⟨rfl,h',tk,es,rfl,hS',hp',hk'⟩:=hr₂;repeat(any_goals(first|assumption|wp_step))
      exact h _ _ _ hS' hp' hk'
     |_=>exact hr₂.elim
  |_=>exact hr.elim
end
end Sx
namespace L2
open PySem PySem.Spec PyProof.Rows Ck Sx
section
variable{X:Cx}
def Qg(ta:TA):TE:=fun σ H Q=>ta σ H fun vs H1=>∃(l:GM)(ps:List Pair),vs=[.ref l]/\eE H1 l ps/\ps.Nodup/\(∀p∈ps,Lo p)/\ps.length<=4/\∀(q:GM)(qs:List Pair)(H':Hp),af H1 H'->H1 q=none->eE H' q qs->qs.Perm ps->qs.Pairwise cT->Q (.ref q) H'
theorem qf{a:Uo}{ta:TA}{p p2 pos pos2:Pos}(hc:X.calm=true)(hu:X.A.units+100<cLine)(hgl:Gl X "sorted")(hml:X.mg "sorted" =none)(hg:Gl X "set")(hm:X.mg "set" =none)(ha:PA X [a] ta)(hs:starEach [a] X.env=[(false,eval a X.env)]:=by rfl)(he:starEach [.Call (.Name "set" p) [a] [] pos] X.env=[(false,eval (.Call (.Name "set" p) [a] [] pos) X.env)]:=by rfl): PE X (.Call (.Name "sorted" p2) [.Call (.Name "set" p) [a] [] pos] [] pos2) (Qg ta):=by
 intro pins s σ H Q I h;refine Tv (bO I hgl hml dO ?_ (by decide) (by decide));refine U9 ?_ he rfl;rw[he];show wpAny _ _ (spliced ((false,eval (.Call (.Name "set" p) [a] [] pos) X.env)::backTo pos2 [])) _ _ s;refine UV (Call_ (bO I hg hm Fo (SU (aD (ha pos pins s σ H _ I h) fun us s1⟨vs,H1,I1,r1,q1⟩=>?_) hs rfl)));obtain⟨l,ps,e,⟨ws,hl,pr⟩,nd,lo,h64,q⟩:=q1;subst e;obtain⟨u,rfl,ru⟩:=vals1 r1;cases ru;obtain⟨its,r',pl,hz⟩:=I1.list (ao.of hl);obtain⟨Tp,e1,e2,e3,e4⟩:=mr I1 pr r';have lT:Tp.length=ps.length:=by rw[<-e3,FS]
 refine lG (I.ok.hd hc) (show X.A.units+10<cLine by lia) pl.isList (Tp:=Tp) (by simpa using e2) (fun e he=>(e4 e he).2) (fun e he=>lo e.2 (by rw[<-e3];exact Uw.mpr ⟨e,he,rfl⟩)) (by rw[e3];exact nd) (by lia) fun h' tk es S pm kp=>U1 ?_;obtain⟨o,ep,t,ho,hex,hd,G,ld,plain⟩:=S.at_;have les:es.size=Tp.length:=by rw[<-S6,pm.length_eq,FS]
 refine WU kind_sorted plain_sorted entry_sorted (args_sorted1 _) ?_;unfold Builtin.«sorted»;refine tz (m:=checkCount "sorted" 1 1 _) (Gc (tz (pX (s:={s1 with heap:=h',toks:=tk}) (A:=X.A.in1) (I.ok.hd hc) ho hex hd G.tab plain ld (by lia) fun h2 tk2 kp2=>?_)));obtain⟨Tq,pq,eq⟩:=nW ((qz X.w s1.heap.objs.size ep es).trans pm) Tp rfl;have ev:(wk X.w s1.heap.objs.size ep es).toList.map (·.2)=Tq.map fun e=>PP e.1:=by rw[eq,Uc];rfl
 rw[ev];have lq:Tq.length=Tp.length:=pq.length_eq;have lv:(Tq.map fun e=>PP e.1).length=Tq.length:=FS _;have keep:∀b o,s1.heap.get? b=some o->h2.get? b=some o:=fun b o e=>kp2 b o (kp b o (GE e) e);refine tz (wpAny_newList ?_ (by rw[lv,TM];lia));have hoL:(h2.push (seqObj "list" (Tq.map fun e=>PP e.1).toArray 0)).get? h2.objs.size=some (seqObj "list" (Tq.map fun e=>PP e.1).toArray 0):=SB _ rfl;have up:∀b o,h2.get? b=some o->(h2.push (seqObj "list" (Tq.map fun e=>PP e.1).toArray 0)).get? b=some o:=fun b o e=>Fk _ e;show wpAny _ _ _ _ _ {s1 with heap:=h2.push (seqObj "list" (Tq.map fun e=>PP e.1).toArray 0),toks:=tk2};have hPq:∀e∈Tq,fC X.prog X.w s1.heap e.1 e.2:=fun e he=>(e4 e (pq.mem_iff.mp he)).2;have pv:=lB hPq;have hz2:s1.heap.objs.size<=h2.objs.size:=Wf (GE (kp2 _ _ ho));refine tz (Ti (UG slot_list_sort ⟨_,hoL,rfl⟩ entry_list_sort (nU (s:={s1 with heap:=h2.push (seqObj "list" (Tq.map fun e=>PP e.1).toArray 0),toks:=tk2}) (LW (Tq.map (·.2))) hoL (by rw[lv];lia) (fun h6 old h2'=>DD (s1:={s1 with heap:=h6,toks:=tk2}) (pv.mono fun b o e=>old b o (fun z=>by have lt:=GE (keep b o e);rw[z]at lt;exact Tz _ lt) (up b o (keep b o e))) h2') fun g ok ri=>⟨_,rfl,?_⟩) (args_list_sort _)))
 refine Gc ⟨_,rfl,?_⟩;obtain⟨e,hat⟩:=sortedHeap_at (out:=(dA (Tq.map fun e=>PP e.1) g).toArray) hoL;have hb:∀i∈g.toList,i<Tq.length:=fun i hi=>by have:=SX.mp (ok.mem_iff.mp hi);rwa[lv]at this
 have lg:g.toList.length=Tq.length:=by rw[ok.length_eq,UM,lv]
 have rq:Vals (Tq.map fun e=>V.ref e.1) (Tq.map fun e=>PP e.1):=by clear hoL up hPq pv eq ev pq lq lv ok ri hat hb lg;induction Tq with
  |nil=>exact .nil
  |cons a T ih=>exact .cons rfl ih
 have prq:cB H1 (Tq.map fun e=>V.ref e.1) (Tq.map (·.2)):=by have all:∀e∈Tq,H1 e.1=some (.tup [.int e.2.1,.int e.2.2]):=fun e he=>(e4 e (pq.mem_iff.mp he)).1;clear hoL up hPq pv eq ev pq lq lv ok ri hat hb lg rq;induction Tq with
  |nil=>exact .nil
  |cons a T ih=>exact .cons ⟨a.1,rfl,all a (SY ..)⟩ (ih fun e he=>all e (SH _ he))
 have vs2:Vals (g.toList.map fun i=>(Tq.map fun e=>V.ref e.1).getD i V.non) (dA (Tq.map fun e=>PP e.1) g):=c5 rq V.non TB g.toList (fun i hi=>by rw[FS];exact hb i hi);have pr2:cB H1 (g.toList.map fun i=>(Tq.map fun e=>V.ref e.1).getD i V.non) (g.toList.map fun i=>(Tq.map (·.2)).getD i (0,0)):=c5 prq V.non (0,0) g.toList (fun i hi=>by rw[FS];exact hb i hi);have fr:H1 h2.objs.size=none:=I1.hok.fresh hz2;have sz2:(g.toList.map fun i=>(Tq.map fun e=>V.ref e.1).getD i V.non).length<=sizeLine:=by rw[FS,lg];exact sz (by lia)
 refine⟨.ref h2.objs.size,_,I1.laid (t':=tk2) (o:=.lst (g.toList.map fun i=>(Tq.map fun e=>V.ref e.1).getD i V.non)) (fun b u x=>?_) hz2 ⟨sz2,dA (Tq.map fun e=>PP e.1) g,e,vs2,by simpa[seqObj]using hat⟩,rfl,?_⟩
 ·have lt:=GE (keep b u x)
  rw[sortedHeap_old (SM lt) (GE (up b u (keep b u x)))];exact up b u (keep b u x)
 have pmq:(Tq.map (·.2)).Perm ps:=by rw[<-e3];exact pq.map _
 refine q _ _ _ (af.new (af.refl H1) fr _) fr ⟨_,ag,pr2.updN fr _⟩ ((fY (0,0) (Tq.map (·.2)) (by rw[FS,<-lv];exact ok)).trans pmq) ?_;rw[U4];have gs:g.size=Tq.length:=by rw[<-lg];simp
 refine Tb.mpr fun i j hi hj hij=>?_;have:=ri i j (by lia) (by rw[lv,<-gs];simpa using hj);rw[iP]at this;unfold gA at this;simpa[show i<g.size by simpa using hi,show j<g.size by simpa using hj]using this
end
end L2
namespace L2
open PySem PySem.Spec PyProof.Rows
theorem Om{K:KB}{h:Ux}{N:GM}{m:Str->Option Do}{n:Str}{v:Do}(X:K.In h)(G:h.Ns N m)(e:V1 K N n=some (some v)):m n=some v:=by
 obtain⟨o,es,ep,ho,hd,_,hf⟩:=G;unfold V1 at e;split at e
 ·rename_i q
  have z:=X _ _ q;rw[ho]at z;cases z;cases hd
  split at e
  ·rename_i he
   rw[<-hf];unfold nsFind findBy;rw[<-Array.find?_toList,he];exact To e
  ·split at e<;>cases e
 ·cases e
noncomputable def oq(K:KB)(C f:GM):Bool:=match K.lookup C with
 |some ⟨.type "type",_,.cls cd,sl⟩=>(match cd.mro,sl.toList with
  |.ref D::bm,[_,_,_,_,some (.builtin n),_]=>D==C&&(n== "ValueError.__new__"&&(!cd.hasDel&&(W.tailIn K il bm&&(W.nsOkIn K cd.ns&&V1 K cd.ns "__init__" ==some (some (.ref f))))))
  |_,_=>false)
 |_=>false
theorem qY{K:KB}{h:Ux}{C f:GM}(X:K.In h)(q:oq K C f=true):∃bm N nm qn bs hd sn sub ab col dd k0 k1 k2 k3 k5 mN,h.get? C=some (excClassObj nm qn C N bs bm hd sn sub ab col dd k0 k1 k2 k3 k5 "ValueError.__new__")/\h.Ns N mN/\mN "__init__" =some (.ref f)/\OwnTail h il bm:=by
 unfold oq at q;split at q
 ·rename_i dd cd sl ho
  split at q
  ·rename_i C' bm k0 k1 k2 k3 n k5 hm hs
   simp only[On,beq_iff_eq,Wa]at q;obtain⟨rfl,rfl,hdel,ht,hok,hi⟩:=q;obtain⟨nm,bs,mro,ns,qn,hd,sn,sub,ab,col,del⟩:=cd;have hsl:sl=#[k0,k1,k2,k3,some (.builtin "ValueError.__new__"),k5]:=by rw[<-hs]
   have hdel':del=false:=hdel;have hm':mro=.ref C'::bm:=hm;subst hm' hdel' hsl;have hns:=Heap.Ns.of_isNs (W.isNs_of_in X hok);exact⟨bm,ns,nm,qn,bs,hd,sn,sub,ab,col,dd,k0,k1,k2,k3,k5,_,X _ _ ho,hns,Om X hns hi,W.tail_of_in X ht⟩
  ·cases q
 ·cases q
section
variable{prog:SK}{w:Tc}{A:Tf}{E:Do->FB->Prop}{h:Ux}{g:Array VS}{d:Drawn}{t:Nat}{os:Wq}
variable{nm q:Str}{C N f:GM}{bs bm:List Do}{hdct:Bool}{sn:List Str}{sub:List Do}{ab:Bool}{col:Option Bool}{dd:Option GM}{k0 k1 k2 k3 k5:Option Do}
theorem vU{mN:Str->Option Do}{rest:List Do}{oI:Obj}{Q:Do->FB->Prop}(hC:h.get? C=some (excClassObj nm q C N bs bm hdct sn sub ab col dd k0 k1 k2 k3 k5 "ValueError.__new__"))(hn:h.Ns N mN)(hi:mN "__init__" =some (.ref f))(T:OwnTail h il bm)(hf:h.get? f=some oI)(hfc:oI.cls=.type "function")(hl:rest.length<=sizeLine)(hq:∀h' e a0,(∀b o,h.get? b=some o->h'.get? b=some o)->h.objs.size<=e->h'.get? e=some {cls:=.ref C,data:=.fields #[.ref a0,.none,.none,.none,.bool false,.none]}->wpAny (model prog w) (A.under (.builtin "type.__call__" ⟨.ref C::rest,[]⟩)) (call (.ref f) (.ref e::rest)) (fun r s'=>r=.none/\Q (.ref e) s') E ⟨h',g,d,t,os⟩): wpAny (model prog w) A (call (.ref C) rest) Q E ⟨h,g,d,t,os⟩:=by
 have F:=US;have f1:=tc_lookup;have f2:=tc_bind (.ref C);have hT:(⟨h,g,d,t,os⟩:FB).TypeIs (.ref C) "type":=⟨_,hC,rfl⟩;refine VO (XE ?_);show wpAny _ _ (callAny (.ref C) _) _ _ _;repeat(any_goals(first|assumption|with_reducible refine W9 hC ?_|wp_step))
 refine⟨rfl,codeAny_call_builtin_at (VU _ (by decide+kernel)) entry_typeCall (wpAny_check_type_call_sub hC ?_)⟩;repeat(first|with_reducible refine W9 hC ?_|with_reducible refine wpAny_madeBy_exc hC ?_|wp_step)
 refine codeAny_call_builtin_code (VU _ F.quiet) (wpAny_check_new_subT F T hC (codeAny_exc_new_subT F T hC ?_ hl));show wpAny _ _ _ _ _ (⟨(h.push {cls:=.type "tuple",data:=.seq rest.toArray}).push {cls:=.ref C,data:=.fields #[.ref h.objs.size,.none,.none,.none,.bool false,.none]},g,d,t,os⟩:FB);generalize hh1:(h.push {cls:=.type "tuple",data:=.seq rest.toArray}).push {cls:=.ref C,data:=.fields #[.ref h.objs.size,.none,.none,.none,.bool false,.none]}=h1;have kp:∀b o,h.get? b=some o->h1.get? b=some o:=fun b o e=>by rw[<-hh1];exact Fk _ (Fk _ e)
 have hget:h1.get? (h.objs.size+1)=some {cls:=.ref C,data:=.fields #[.ref h.objs.size,.none,.none,.none,.bool false,.none]}:=by rw[<-hh1];heap_get
 have hC1:=kp _ _ hC;have hf1:=kp _ _ hf;have hn1:=hn.keeps kp;have hcC:(PP C::bm).contains (.ref C)=true:=by simp
 unfold isInstance;repeat(first|with_reducible refine W9 hget ?_| (with_reducible refine wpAny_isSubtype_exc hC1 ?_;rw[hcC])|wp_step)
 show wpAny _ _ (typeLookup (.ref C) _) _ _ _;refine wpAny_typeLookup_tail hC1 hn1 (T.keeps kp) F.mroIs F.init.lookup ?_;rw[hi];refine Ti (tz ?_);unfold bindSpecial;refine tz (Wk (T:="function") ⟨_,hf1,hfc⟩ ?_);rw[if_pos (by decide)];refine Gc (tz (TZ (hq h1 (h.objs.size+1) _ kp (UP _) hget) (fun r s' hr=>?_) fun _ _ x=>x));obtain⟨rfl,hQ⟩:=hr;wp_walk;exact hQ
end
section
variable{prog:SK}{w:Tc}{A:Tf}{E:Do->FB->Prop}{s:FB}{env:Env}
variable{nm q:Str}{C N f:GM}{bs bm:List Do}{hdct:Bool}{sn:List Str}{sub:List Do}{ab:Bool}{col:Option Bool}{dd:Option GM}{k0 k1 k2 k3 k5:Option Do}
end
section
variable{prog:SK}{w:Tc}{A:Tf}{E:Do->FB->Prop}{h:Ux}{g:Array VS}{d:Drawn}{t:Nat}{os:Wq}
variable{nm q:Str}{C N e:GM}{bs bm:List Do}{hdct:Bool}{sn:List Str}{sub:List Do}{ab:Bool}{col:Option Bool}{dd:Option GM}{k0 k1 k2 k3 k5:Option Do}
theorem init_exc(hC:h.get? C=some (excClassObj nm q C N bs bm hdct sn sub ab col dd k0 k1 k2 k3 k5 "ValueError.__new__"))(T:OwnTail h il bm)(he:h.get? e=some {cls:=.ref C,data:=.fields #[.ref a0,.none,.none,.none,.bool false,.none]})(hq:∀h' a1,(∀b o,b≠e->h.get? b=some o->h'.get? b=some o)->h'.get? e=some {cls:=.ref C,data:=.fields #[.ref a1,.none,.none,.none,.bool false,.none]}->Q .none ⟨h',g,d,t,os⟩): wpAny (model prog w) A (call (.builtin "ValueError.__init__") [.ref e,v]) Q E ⟨h,g,d,t,os⟩:=by have F:=US;refine VO (UH F.init.plain F.initEntry (wpAny_check_init_subT F T hC he rfl ?_));wp_walk;refine hq _ h.objs.size (fun b o n z=>(Os _ _ (T6 n)).trans (Fk _ z)) ?_;rw[S3 _ (Fk _ he) rfl];rfl
end
noncomputable def gZ:List Do->Bool
 |.ref _::r=>gZ r
 |l=>l==il
def kK(K:KB)(C:GM):Bool:=(W.clsIn K C).any fun cd=>gZ cd.mro
theorem gT(h:gZ l=true):l=il\/∃a r,l=.ref a::r/\gZ r=true:=by
 unfold gZ at h;split at h
 ·rename_i a r
  exact .inr ⟨a,r,rfl,h⟩
 ·exact .inl (beq_iff_eq.mp h)
theorem mJ(self:Do):∀{l:List Do},gZ l=true->refuseLoop self "__setattr__" l=pure ()
 |l,e=>by
  rcases gT e with rfl| ⟨a,r,rfl,z⟩;·exact PySem.F.store_ValueError.passes self
  ·rw[refuseLoop_ref]
   exact mJ self z
 termination_by l=>l.length
theorem pA(hT:il.contains (.type T)=true):∀{l:List Do},gZ l=true->l.contains (.type T)=true
 |l,e=>by
  rcases gT e with rfl| ⟨a,r,rfl,z⟩;·exact hT
  ·rw[List.contains_cons,pA hT z,Bool.or_true]
 termination_by l=>l.length
section
variable{prog:SK}{w:Tc}{A:Tf}{E:Do->FB->Prop}{s:FB}{K:KB}{e C:GM}{a0:GM}{name:Str}{v:Do}
theorem Eh(X:K.In s.heap)(he:s.heap.get? e=some {cls:=.ref C,data:=.fields #[.ref a0,.none,.none,.none,.bool false,.none]})(hs:Xj K (.ref C) "__setattr__" =some (some (.builtin "object.__setattr__")))(hp:kK K C=true)(ht:W.takerIn K C name=some none)(hh:W.hasDictIn K C=true)(h:∀h' dx t',h'.Ns1 dx (fun y=>if y=name then some v else none)->s.heap.get? dx=none->s.heap.objs.size<=dx->dx≠e->h'.get? e=some {cls:=.ref C,dict:=some dx,data:=.fields #[.ref a0,.none,.none,.none,.bool false,.none]}->(∀b o,b≠e->s.heap.get? b=some o->h'.get? b=some o)->Q () {s with heap:=h',toks:=t'}): wpAny (model prog w) A (setAttr (.ref e) name v) Q E s:=by
 have J:W.InstAt s.heap e {cls:=.ref C,data:=.fields #[.ref a0,.none,.none,.none,.bool false,.none]} C none:=⟨he,rfl,rfl,trivial⟩;have SF:=PySem.F.store_object;refine W.set_plain X J hs ?_;obtain⟨cd,hc,ho⟩:=W.any_some hp;have ne:cd.mro.isEmpty=false:=by rcases gT ho with z| ⟨a,r,z,_⟩<;>rw[z]<;>rfl
 have sub:W.Looks (model prog w) s.heap (isInstance (.ref e) (.type "object")) true:=J.type.andThen (W.looks_mroIn X (by unfold W.mroIn;rw[hc,Xr,if_neg (by rw[ne];decide),pA (by decide+kernel) ho]));refine UH SF.slot.plain SF.entry (@W.check_slot (model prog w) _ _ {s with toks:=s.toks+1} "object.__setattr__" "object" "__setattr__" (.ref e) [.str name s.toks,v] [] _ SF.kind SF.split sub (SF.args (.ref e) (.str name s.toks) v) ?_);obtain⟨attr,ha,hr⟩:=Option.bind_eq_some_iff.mp ht;have hm:W.Looks (model prog w) s.heap (mroOf (.ref C)) cd.mro:=(W.looks_clsIn X hc).andThen .now;have L3:W.Looks (model prog w) s.heap (Builtin.ObjectAttr.storeTaker? attr) none:=by cases attr with
  |none=>exact .now
  |some a=>
   obtain⟨b,hb,hz⟩:=V4.mp hr;refine(W.looks_takesIn X hb).andThen ?_;cases b;·exact .now
   ·cases hz
 rw[W.osa_eq,refuse_eq];refine tz (tz (J.type.here (s:={s with toks:=s.toks+1}) (tz (hm.here (s:={s with toks:=s.toks+1}) ?_))));rw[mJ _ ho];refine Gc (tz (J.type.here (s:={s with toks:=s.toks+1}) (tz ((XS X ha).here (s:={s with toks:=s.toks+1}) (tz (L3.here (s:={s with toks:=s.toks+1}) ?_))))));obtain⟨cd',hc',hd'⟩:=W.any_some hh;refine tz (Gc (tz (tz (wpAny_loadPart he (tz (W.Looks.here (s:={s with toks:=s.toks+1}) (W.looks_clsIn X hc') ?_))))));rw[hd'];obtain⟨hp0,g,dr,tk,os⟩:=s;have hx1:(hp0.push {cls:=.type "dict",data:=.dict #[]}).get? e=some {cls:=.ref C,data:=.fields #[.ref a0,.none,.none,.none,.bool false,.none]}:=Fk _ he;have hxs:e≠hp0.objs.size:=SM (GE he);refine tz (wpAny_alloc' (tz (wpAny_update' hx1 ?_)));refine Gc (a:=some hp0.objs.size) ?_;show wpAny _ _ (Builtin.ObjectAttr.storeInDict hp0.objs.size (.str name tk) name v) _ _ _;generalize hh2:(hp0.push {cls:=.type "dict",data:=.dict #[]}).update e _=h2;have kp:∀b o,b≠e->hp0.get? b=some o->h2.get? b=some o:=fun b o n z=>by rw[<-hh2];exact(Os _ _ (T6 n)).trans (Fk _ z)
 have ed:h2.get? hp0.objs.size=some {cls:=.type "dict",data:=.dict #[]}:=by rw[<-hh2];exact(Os _ _ hxs).trans (Heap.get?_push_at rfl rfl)
 have ee:h2.get? e=some {cls:=.ref C,dict:=some hp0.objs.size,data:=.fields #[.ref a0,.none,.none,.none,.bool false,.none]}:=by rw[<-hh2,S3 _ hx1 rfl]
 have hnd:h2.Ns hp0.objs.size (fun _=>none):=⟨_,#[],_,ed,rfl,fun z hz=>absurd hz (by simp),fun _=>rfl⟩;unfold Builtin.ObjectAttr.storeInDict Builtin.ObjectAttr.newKeyGuard;refine tz (Gc (tz (wpAny_nsSet1 (X6 hnd) fun h3 hn3 hs3=>?_)));obtain⟨oD,esD,epD,hoD,hdD,hcD⟩:=hn3.count (Within.cons name v Within.nil);refine tz (wpAny_lookBehind hoD (by rw[hdD];exact pastItsLine_dict (Tt hcD (by rw[Tu,Vs,TM];omega))) ?_);refine Gc (h h3 hp0.objs.size _ hn3 (Ug (M2 _)) (M2 _) (T6 hxs) ((hs3.2 e hxs).trans ee) fun b o n z=>(hs3.2 b (SM (GE z))).trans (kp b o n z))
theorem Ep(X:K.In s.heap)(I:W.InstAt s.heap e ox C od)(hga:Xj K (.ref C) "__getattribute__" =some (some (.builtin "BaseException.__getattribute__")))(hk:Xj K (.ref C) "__getattr__" =some none)(hp:kK K C=true)(hf:W.findObj K C od name=some (.value v))(hv:W.handedIn v=true)(h:∀t',Q v {s with toks:=t'}):wpAny (model prog w) A (getAttr (.ref e) name expr) Q E s:=by
 obtain⟨hh',g,d,t,os⟩:=s;have L0:=I.type (M:=model prog w);have L1:=XS (M:=model prog w) X hga;have L2:=XS (M:=model prog w) X hk;have L3:=W.looks_find (M:=model prog w) X I hf;obtain⟨cd,hc,ho⟩:=W.any_some hp;have ne:cd.mro.isEmpty=false:=by rcases gT ho with z| ⟨a,r,z,_⟩<;>rw[z]<;>rfl
 have sub:W.Looks (model prog w) hh' (isInstance (.ref e) (.type "BaseException")) true:=I.type.andThen (W.looks_mroIn X (by unfold W.mroIn;rw[hc,Xr,if_neg (by rw[ne];decide),pA (by decide+kernel) ho]));unfold getAttr getAttrBy;refine tz (wpAny_mkText (Ti (tz (L0.at (tz (L1.at ?_))))));show wpAny _ _ (getAttrByItsOwn _ _ _ _ _ _) _ _ _;unfold getAttrByItsOwn hookBefore;refine tz ?_;rw[if_pos (show onTheHeap (PP C)=true from rfl)];refine L2.at (tz ?_);have FX:=PySem.F.excAttr_ValueError;have hx0:(expr&&onTheHeap (Value.builtin "BaseException.__getattribute__"))=false:=by cases expr<;>rfl
 refine Vy (Ti ?_);unfold callGetattribute;rw[hx0,if_neg SJ];unfold boundAndCalled;rw[FX.ga.bind];refine tz (Gc (VO (UH FX.ga.plain XC (@W.check_slot (model prog w) _ _ _ "BaseException.__getattribute__" "BaseException" "__getattribute__" (.ref e) [.str name t] [] _ (by decide+kernel) (by decide+kernel) sub (XO _ _) ?_))));refine tz (Gc (tz (Gc (tz (L0.at (tz (L3.at ?_)))))));refine Gc ?_;show wpAny _ _ (handedOut v) _ _ _;rw[W.handedOut_of hv];exact Gc (h _)
end
noncomputable def dD(e:GM)(cls:Do)(od:Option GM):HO:=.ext fun h=>∃a0:GM,h.get? e=some {cls:=cls,dict:=od,data:=.fields #[.ref a0,.none,.none,.none,.bool false,.none]}
theorem mj(he:h.get? e=some {cls:=cls,dict:=od,data:=.fields #[.ref a0,.none,.none,.none,.bool false,.none]}):aW P w H h e (dD e cls od):= ⟨⟨a0,he⟩,⟨_,he⟩,fun _ _⟨a,q⟩k=>⟨a,k _ q⟩⟩
structure Cd(K:KB)(C f:GM):Prop where
 j:oq K C f=true
 ga:Xj K (.ref C) "__getattribute__" =some (some (.builtin "BaseException.__getattribute__"))
 gk:Xj K (.ref C) "__getattr__" =some none
 vo:kK K C=true
 hd:W.hasDictIn K C=true
 sa:Xj K (.ref C) "__setattr__" =some (some (.builtin "object.__setattr__"))
 fn:W.isFn K (.ref f)=true
structure Me(K:KB)(C:GM):Prop where
 hg:W.specialIn K (.ref C) "__getattribute__" =some (some (.builtin "type.__getattribute__"))
 rd:W.readsIn K C (.type "type")=true
 at_:W.findCls K (.ref C) (.type "type") "__init__" =some (.val (.builtin "ValueError.__init__"))
section
variable{X:Cx}{pins:List (GM×Obj)}{σ:St}{H:Hp}{s:FB}
end
def MK(K:KB)(t:TA):TE:=fun σ H Q=>t σ H fun vs H1=>∃e C f v,vs=[.ref e,v]/\H1 e=some (dD e (.ref C) none)/\oq K C f=true/\Q .non H1
def NV(K:KB)(ta tv:TE)(f:Str):TS:=fun D σ H=>tv σ H fun y H1=>ta σ H1 fun x H2=>∃e C g,x=.ref e/\H2 e=some (dD e (.ref C) none)/\Cd K C g/\NoAttr K C f/\∀d,H2 d=none->D.nx σ (upd (upd H2 d (.xd [(f,y)])) e (dD e (.ref C) (some d)))
section
variable{X:Cx}{o value:Uo}{f:Str}{pos pos':Pos}{ta tv:TE}
theorem ze(hm:X.mg x=some (.ref B))(M:Me X.K B)(ha:PA X (e::es) t)(hg:Gl X x:=by rfl)(hdb:(x== ("__debug__" :Str))=false:=by decide)(hst:starEach (e::es) X.env=(false,eval e X.env)::starEach es X.env:=by rfl)(hpl:(backTo pos (starEach es X.env)).any (·.1)=false:=by rfl)(ht:eval (.Call (.Attribute (.Name x p) "__init__" apos) (e::es) [] pos) X.env=(do
   let ov<-eval (.Name x p) X.env
   standAt apos.atName let(f,first)<-holding [ov] (getMethod ov "__init__" pl)callWith pos f first (backTo pos (starEach (e::es) X.env)) (backToKw pos (keywordEach [] X.env))):=by rfl):
  PE X (.Call (.Attribute (.Name x p) "__init__" apos) (e::es) [] pos) (MK X.K t):=by
 intro pins s σ H Q I h;refine W.methodCall_KW (pl:=pl) (cL I hg hm ?_ hdb) ht;refine W.method_cls I.kIn M.hg (W.cls_value I.kIn M.rd M.at_ rfl ?_);have I1:Inv X pins σ H {s with toks:=s.toks+1}:=I.tok _;have hA:=ha pos pins _ σ H _ I1 h;rw[hst]at hA|-;refine V3 (by show(false|| (backTo pos (starEach es X.env)).any (·.1))=false;rw[hpl]<;>rfl) (VE (aD hA fun us s2 hZ=>?_));obtain⟨vs,H2,I2,r2,ea,C,g,v,ev,he,hj,q⟩:=hZ;subst ev;obtain⟨u,w2,rfl,r1,r3⟩:=vals2 r2;cases(show u=PP ea from r1);obtain⟨⟨t0,e1⟩,_,_⟩:=(show aW X.prog X.w H2 s2.heap ea (dD ea (.ref C) none)from I2.hok ea _ he);obtain⟨bm,N,nm,qn,bs,hd',sn,sub,ab,col,dd,k0,k1,k2,k3,k5,mN,hC,hN,hi,TL⟩:=qY I2.kIn hj;obtain⟨hh,gg,d,tk,os⟩:=s2;refine init_exc hC TL e1 fun h' a1 kp e2=>⟨.non,H2,?_,rfl,q⟩;have J:=I2.write (x:=ea) (e:=ea) (o:=dD ea (.ref C) none) (h':=h') (t':=tk) (by rw[he];exact trivial) (.inl rfl) (fun b u n z=>kp b u n z) ⟨_,e2⟩ (mj e2);rw[Lj he]at J;exact J
theorem Es(ha:PE X o ta)(hv:PE X value tv)(hs:swapsWith value (some (.Attribute o f pos')) pos.line X.env=pure false):PS X (.Assign [.Attribute o f pos'] value pos) (NV X.K ta tv f):=by
 intro pins s σ H D I h;refine V8 (aD (hv pins s σ H _ I h) fun u s1⟨y,H1,I1,ry,q⟩=>aD (ha pins s1 σ H1 _ I1 q) fun ov s2 hZ=>?_) hs;obtain⟨x,H2,I2,rx,e,C,g,ex,ea,c,n,q2⟩:=hZ;subst ex;obtain rfl:ov=PP e:=rx;obtain⟨⟨t0,e1⟩,_,_⟩:=(show aW X.prog X.w H2 s2.heap e (dD e (.ref C) none)from I2.hok e _ ea);refine Eh I2.kIn e1 c.sa c.vo n.taker c.hd fun h' dx t' n1 dn dl dne e2 kp=>⟨σ,_,?_,q2 dx (I2.hok.none dn)⟩;have z1:(h'.update e fun _=>{cls:=.ref C,data:=.fields #[.ref t0,.none,.none,.none,.bool false,.none]}).get? e=some {cls:=.ref C,data:=.fields #[.ref t0,.none,.none,.none,.bool false,.none]}:=S3 _ e2 rfl;have z2:∀b,b≠e->(h'.update e fun _=>{cls:=.ref C,data:=.fields #[.ref t0,.none,.none,.none,.bool false,.none]}).get? b=h'.get? b:=fun b n=>Os _ _ (T6 n);have J:=I2.laid (a:=dx) (o:=.xd [(f,y)]) (h':=h'.update e fun _=>{cls:=.ref C,data:=.fields #[.ref t0,.none,.none,.none,.bool false,.none]}) (t':=t') (fun b o z=>?_) dl ⟨_,n1.at fun o z=>(z2 dx dne).trans z,fun g=>?_⟩
 ·have ne2:e≠dx:=T6 dne
  exact J.write (x:=e) (e:=e) (o:=dD e (.ref C) (some dx)) (t':=t') (by rw[aw ne2,ea];exact trivial) (.inl rfl) (fun b u n z=>(z2 b n).symm.trans z) ⟨_,e2⟩ (mj e2)
 ·by_cases n:b=e
  ·subst n
   rw[e1]at z;cases z;exact z1
  ·exact(z2 b n).trans (kp b o n z)
 ·show df (Va g [(f,y)]) (if g=f then some u else none)
  by_cases z:g=f
  ·have hb:(g==f)=true:=beq_iff_eq.mpr z
   simp only[Va,hb,if_pos z];exact ry
  ·have hb:(g==f)=false:=beq_eq_false_iff_ne.mpr z
   simp only[Va,hb,if_neg z];exact trivial
end
section
variable{X:Cx}
end
end L2
namespace Dk
open PySem PyProof.Rows
section
variable{prog:SK}{w:Tc}{K:Type}[DecidableEq K]{knd:KeyKind prog w K}{A:Tf}{E:Do->FB->Prop}{s:FB}
end
end Dk
namespace L2
open PySem PySem.Spec PyProof.Rows Ck
section
variable{X:Cx}{pins:List (GM×Obj)}{σ:St}{H:Hp}{s:FB}
end
end L2
namespace L2
open PySem PySem.Spec PyProof.Rows
section
variable{prog:SK}{w:Tc}{A:Tf}{E:Do->FB->Prop}{s:FB}
end
section
variable{X:Cx}
end
end L2
namespace L2
open PySem PySem.Spec PyProof.Rows PySem.W
theorem dk:∀ys:List Str,(ys.map V.str).all cC=true
 | []=>rfl
 |_::ys=>dk ys
end L2
namespace Ck
open PySem L2
end Ck
namespace L2
open PySem PySem.Spec PyProof.Rows PySem.W
def OC(t:TE):TE:=fun σ H Q=>t σ H fun u H'=>∃n:Int,u=.int n/\0<=n/\n<10^10/\∀y:Str,y.length<=10->Q (.str y) H'
theorem ED(h:PE X e t):PE X (.FormattedValue e (-1) none pos) (OC t):=by
 intro pins s σ H Q I hq;refine wpAny_FormattedValue_plain (aD (h pins s σ H _ I hq) fun v s1 hZ=>?_);obtain⟨x,H1,I1,r,n,e,h0,h1,q⟩:=hZ;subst e;obtain⟨t,rfl⟩:=r;refine wpAny_formatField_int ?_ ⟨.str (AC (toString n)),H1,I1.tok _,⟨_,rfl⟩,q _ (toString_length_le h0 (by decide) h1)⟩;have z:n.natAbs<2^34:=by
  have:(10:Int)^10=10000000000:=by decide
  have:(2:Nat)^34=17179869184:=by decide
  omega
 by_cases c:n.natAbs=0;·rw[c];decide
 ·exact SN ((Nat.log2_lt c).mpr z) (by decide)
end L2
namespace L2
open PySem PySem.Spec PyProof.Rows Ck
section
variable{X:Cx}{pins:List (GM×Obj)}{σ:St}{H:Hp}{s:FB}{h':Ux}
theorem Inv.turnedN{t':Nat}{ch:List GM}(I:Inv X pins σ H s)(k:∀b o,b∉ch->s.heap.get? b=some o->h'.get? b=some o)(f:∀b∈ch,fj X pins H b):Inv X pins σ H {s with heap:=h',toks:=t'}:=by
 have nit:∀b u,H b=some u->b∉ch:=fun b u q z=>by rw[(f b z).1]at q;cases q
 refine I.step (g':=s.gens) (d':=s.drawn) (ch:=ch) (fun b hb=>?_) (fun b o _ _ hc q _=>k b o hc q) (fun b o _ _ hc q _=>⟨o.slots,k b o hc q⟩) (fun _ _ _ _ n=>n) (fun b o hc q=>⟨o,k b o hc q⟩) (fun _ _ q=>q) (fun _ _ _ q=>q) (fun b ps q=>⟨#[],by rw[q];simp⟩) (fun m hm=>?_) (fun b u q=>?_) I.bare
 ·have g:=f b hb
  exact⟨g.2.2.2.1,g.2.1,g.2.2.2.2.1,g.2.2.2.2.2⟩
 ·obtain⟨o,es,ep,ho,r⟩:=hm
  exact⟨o,es,ep,k _ o (fun z=>(f _ z).2.1 rfl) ho,r⟩
 ·refine(I.hok b u q).stay (fun c v hc q'=>?_) (fun _ q=>q) fun _ _ q=>q
  have:c∉ch:=by
   rcases hc with z|z;·rw[z];exact nit b u q
   ·exact nit c _ z
  exact k c v this q'
end
noncomputable def CT(K:KB)(l1 l2:GM):It:= ⟨fun i H=>∃xs ys x y,ao K H l1 xs/\ao K H l2 ys/\xs[i]?=some x/\ys[i]?=some y,fun i H v H'=>∃T x y,H T=none/\(∀xs,ao K H l1 xs->xs[i]?=some x)/\(∀ys,ao K H l2 ys->ys[i]?=some y)/\v=.ref T/\H'=upd H T (.tup [x,y]),fun i H=>∃xs ys,ao K H l1 xs/\ao K H l2 ys/\min xs.length ys.length<=i⟩
theorem yU{P:SK}{w:Tc}{K:KB}{elts:List Uo}{k0:Nat}{tp:Pos}(z TI TO i1 i2 l1 l2:GM)(D:Wv z TI TO i1 i2 l1 l2):Turn P w K (.Tuple elts k0 tp) (CT K l1 l2) [z,TI,TO,i1,i2] z (fun i h=>IsZip h z TI TO .none/\Wj h TI (.ref i1) (.ref i2)/\(∃a b,Wj h TO a b)/\h.IsListIter i1 l1 i/\h.IsListIter i2 l2 i)where
 mem:=by simp
 obj:=fun i h st b hb=>by
  obtain⟨hz,hTI,⟨a,c,hTO⟩,⟨o1,e1,c1,d1⟩,o2,e2,c2,d2⟩:=st;simp only[GT,Ue,or_false]at hb;rcases hb with rfl|rfl|rfl|rfl|rfl;·exact⟨_,hz,fun v z=>by have z':XU _=Xy v:=z;cases z'⟩
  ·exact⟨_,hTI,fun v z=>by have z':Data.seq _=Xy v:=z;cases z'⟩
  ·exact⟨_,hTO,fun v z=>by have z':Data.seq _=Xy v:=z;cases z'⟩
  ·exact⟨o1,e1,fun v z=>by rw[d1]at z;cases z⟩
  ·exact⟨o2,e2,fun v z=>by rw[d2]at z;cases z⟩
 keep:=fun i h h' st k=>by obtain⟨hz,hTI,⟨a,c,hTO⟩,h1,h2⟩:=st;exact⟨k z (by simp) _ hz,k TI (by simp) _ hTI,⟨a,c,k TO (by simp) _ hTO⟩,h1.at fun o q=>k i1 (by simp) o q,h2.at fun o q=>k i2 (by simp) o q⟩
 item:=by
  intro X hP hw hK hc i pins s σ H E I hf st hg;subst hP hw hK;obtain⟨xs,ys,x,y,mZ,m9,hx,hy⟩:=hg;obtain⟨its,rv,p,hz1⟩:=I.list mZ;obtain⟨jts,rv2,p2,hz2⟩:=I.list m9;obtain⟨u,hu,ru⟩:=rv.get hx;obtain⟨v,hv,rv'⟩:=rv2.get hy;obtain⟨hz,hTI,⟨a,c,hTO⟩,h1,h2⟩:=st;refine wpAny_pyNext_zip_item D hz hTI hTO h1 h2 p.isList p2.isList (x:=u) (y:=v) (by simpa using hu) (by simpa using hv) fun hA a1 a2 a3 a4 a5 a6 a7=>?_;refine⟨_,rfl,wpAny_letOwnedTupleGo_zip a1 fun hB b1 sb=>?_⟩;have lt:∀{c o},s.heap.get? c=some o->c<s.heap.objs.size:=fun e=>GE e;have k2:∀b o,b∉[z,TO,i1,i2]->s.heap.get? b=some o->hB.get? b=some o:=fun b o nb q=>by simp only[GT,Ue,or_false,not_or]at nb;exact(sb.2 b nb.1).trans (a7 b o nb.1 nb.2.1 nb.2.2.1 nb.2.2.2 q)
  have I2:Inv X pins σ H {s with heap:=hB,toks:=s.toks}:=I.turnedN k2 fun b hb=>hf b (by simp only[GT,Ue,or_false]at hb|-;rcases hb with rfl|rfl|rfl|rfl<;>simp)
  have oT:gr X pins H s.heap.objs.size:=by have fT:fj X pins H s.heap.objs.size:=I.fpOk (M2 _) (I.hok.fresh (M2 _));exact⟨Ug I.sz,fT.1,fT.2.1,fT.2.2.2.2.1,fT.2.2.2.2.2⟩
  have hT2:hB.get? s.heap.objs.size=some {cls:=.type "tuple",data:=.seq #[u,v]}:=(sb.2 _ (UU (lt hz))).trans a5;have I3:=I2.trackO (o':=.tup [x,y]) oT ⟨sz (n:=2) (by decide),[u,v],.cons ru (.cons rv' .nil),_,hT2,rfl,_,rfl⟩;refine⟨.ref s.heap.objs.size,_,I3,rfl,⟨_,x,y,oT.free,fun zs hy=>by rw[I.list_inj hy mZ];exact hx,fun zs h=>by rw[I.list_inj h m9];exact hy,rfl,rfl⟩, ⟨b1,sb.extBut _ _ D.TIz (a7 _ _ D.TIz D.TITO D.TIi1 D.TIi2 hTI),⟨_,_,sb.extBut _ _ D.TOz a2⟩,a3.at fun o q=>sb.extBut _ _ D.i1z q,a4.at fun o q=>sb.extBut _ _ D.i2z q⟩,fun b hb=>?_⟩;have lb:b<s.heap.objs.size:=by
   simp only[GT,Ue,or_false]at hb;rcases hb with rfl|rfl|rfl|rfl|rfl;·exact lt hz
   ·exact lt hTI
   ·exact lt hTO
   ·obtain⟨_,q,_⟩:=h1;exact lt q
   ·obtain⟨_,q,_⟩:=h2;exact lt q
  rw[aw (SM lb)];exact(hf b hb).1
 done:=by
  intro X hP hw hK hc i pins s σ H E I hf st hg;subst hP hw hK;obtain⟨xs,ys,mZ,m9,hle⟩:=hg;obtain⟨its,rv,p,hz1⟩:=I.list mZ;obtain⟨jts,rv2,p2,hz2⟩:=I.list m9;have l1:=rv.length;have l2:=rv2.length;obtain⟨hz,hTI,⟨a,c,hTO⟩,h1,h2⟩:=st;have hend:its.toArray[i]?=none\/jts.toArray[i]?=none:=by
   by_cases h:its.length<=i;·exact .inl (TX (by simpa using h))
   ·exact .inr (TX (by simp;lia))
  refine wpAny_pyNext_zip_end (I.ok.hd hc) D hz hTI hTO h1 h2 p.isList p2.isList hend fun hB k=>⟨rfl,?_⟩;exact I.turnedN (t':=s.toks) (ch:=[z,TO,i1,i2]) (fun b o nb q=>by simp only[GT,Ue,or_false,not_or]at nb;exact k b o nb.1 nb.2.1 nb.2.2.1 nb.2.2.2 q) fun b hb=>hf b (by simp only[GT,Ue,or_false]at hb|-;rcases hb with rfl|rfl|rfl|rfl<;>simp)
 self:=fun _ _ _ _ _ st h=>Xo st.1 h
def P7(K:KB)(ta:TA):TI:=fun σ H R=>ta σ H fun vs H1=>∃l1 l2,vs=[.ref l1,.ref l2]/\(∃xs,ao K H1 l1 xs)/\(∃ys,ao K H1 l2 ys)/\R (CT K l1 l2) H1
section
variable{X:Cx}
theorem Hj{elts:List Uo}{k0:Nat}{tp:Pos}{a b:Uo}{ta:TA}{p pos:Pos}(hg:Gl X "zip")(hm:X.mg "zip" =none)(ha:PA X [a,b] ta)(hs:starEach [a,b] X.env=[(false,eval a X.env),(false,eval b X.env)]:=by rfl)(hs2:starEach [b] X.env=[(false,eval b X.env)]:=by rfl):PI X (.Tuple elts k0 tp) (.Call (.Name "zip" p) [a,b] [] pos) (P7 X.K ta):=by
 intro pins s σ H R I h;refine Call_ (bO I hg hm boot_zip (SU (aD (ha pos pins s σ H _ I h) fun us s1⟨vs,H1,I1,r1,q1⟩=>?_) (by rw[hs,hs2]) (by rw[hs2];rfl)));obtain⟨p1,p2,e,⟨xs,mZ⟩,⟨ys,m9⟩,q⟩:=q1;subst e;obtain⟨u1,u2,rfl,ru1,ru2⟩:=vals2 r1;cases ru1;cases ru2
 obtain⟨its,rv,pl,hz⟩:=I1.list mZ;obtain⟨jts,rw_,pm,hz2⟩:=I1.list m9;have lt1:p1<s1.heap.objs.size:=by obtain⟨_,e,_⟩:=pl.isList;exact GE e
 have lt2:p2<s1.heap.objs.size:=by obtain⟨_,e,_⟩:=pm.isList;exact GE e
 refine call_zip_2 pl.isList pm.isList fun h2 hzz hTI hTO hi1 hi2 hsz hk=>?_;have I2:Inv X pins σ H1 {s1 with heap:=h2}:=I1.kept (t':=s1.toks) hk;refine Xo hzz ⟨_,[s1.heap.objs.size+4,s1.heap.objs.size+2,s1.heap.objs.size+3,s1.heap.objs.size,s1.heap.objs.size+1],_,_,H1,rfl,I2,yU _ _ _ _ _ p1 p2 (zipApart_new lt1 lt2),⟨hzz,hTI,⟨_,_,hTO⟩,hi1,hi2⟩,fun b hb=>?_,q⟩;have lb:s1.heap.objs.size<=b:=by simp only[GT,Ue,or_false]at hb;rcases hb with rfl|rfl|rfl|rfl|rfl<;>lia
 exact I1.fpOk lb (I1.hok.fresh lb)
theorem yj{K:KB}{a b:GM}{xs ys:List V}{g:TG}{tt:TT}{te:TE}{σ0:St}{H:Hp}{D:GM}{Q:VK}(Pv:Nat->List V->Hp->Prop)(hz:xs.length<=sizeLine)(h0:Pv 0 [] (upd H D (.lst [])))(hl:∀i zs H',Pv i zs H'->ao K H' a xs/\ao K H' b ys/\zs.length<=i)(hs:∀(i:Nat)(x y:V)(zs:List V)(H':Hp)(T:GM)(R:VK)(R0:Hp->Prop),xs[i]?=some x->ys[i]?=some y->Pv i zs H'->H' T=none->(∀v H3,H3 D=some (.lst zs)->Pv (i+1) (zs++[v]) (upd H3 D (.lst (zs++[v])))->R v H3)->(∀H3,Pv (i+1) zs H3->R0 H3)->g (.ref T) σ0 (upd H' T (.tup [x,y])) fun σ2 H2=>Ext σ0 σ2/\tt σ2 H2 fun b H3=>if b=true then te σ2 H3 R else R0 H3)(hq:∀zs H',Pv (min xs.length ys.length) zs H'->Q (.ref D) H'): eQ (CT K a b) g tt te σ0 D Q H:=by
 refine⟨fun i m zs H'=>m=min xs.length ys.length-i/\i<=min xs.length ys.length/\Pv i zs H',⟨min xs.length ys.length,by simp,KM _,h0⟩,?_⟩;rintro i m zs H' ⟨rfl,hi,p⟩;obtain⟨sq1,sq2,ly⟩:=hl i zs H' p;by_cases hlt:i<min xs.length ys.length
 ·have l1:i<xs.length:=by lia
  have l2:i<ys.length:=by lia
  refine .inr ⟨⟨xs,ys,_,_,sq1,sq2,Da l1,Da l2⟩,fun x H'' y=>?_⟩;obtain⟨T,u,w,nT,hu,hw,rfl,rfl⟩:=y;refine hs i u w zs _ T _ _ (hu xs sq1) (hw ys sq2) p nT (fun v H3 hD p'=>⟨hD,by lia,min xs.length ys.length- (i+1),by lia,rfl,hlt,p'⟩) fun H3 p'=>⟨min xs.length ys.length- (i+1),by lia,rfl,hlt,p'⟩
 ·have e:i=min xs.length ys.length:=by lia
  subst e;exact .inl ⟨⟨xs,ys,sq1,sq2,M2 _⟩,hq zs H' p⟩
end
theorem sR{X:Cx}{K:KB}(hK:X.K=K)(hc:X.calm=true):ck X (.builtin "min") (fun xs H Q=>∃p ns,xs=[.ref p]/\ao K H p (ns.map V.int)/\ns≠[]/\∀M,M∈ns->(∀a∈ns,M<=a)->Q (.int M) H):=by subst hK;exact iD hc
end L2
namespace L2
open PySem PySem.Spec PyProof.Rows
section
variable{prog:SK}{w:Tc}{A:Tf}{E:Do->FB->Prop}{s:FB}{env:Env}
variable{nm q:Str}{C N f:GM}{bs bm:List Do}{hdct:Bool}{sn:List Str}{sub:List Do}{ab:Bool}{col:Option Bool}{dd:Option GM}{k0 k1 k2 k3 k5:Option Do}
theorem sv(hpl:(backTo cpos (starEach args env)).any (·.1)=false)(hi:mN "__init__" =some (.ref f))(h:wpAny (model prog w) A (eval (.Name x np) env) (fun v s1=>v=.ref C/\wpAny (model prog w) A (evalArgs (.ref C) true (backTo cpos (starEach args env)) [])
   (fun a s2=>a.kw=[]/\a.pos.length<=sizeLine/\s2.heap.get? C=some (excClassObj nm q C N bs bm hdct sn sub ab col dd k0 k1 k2 k3 k5 "ValueError.__new__")/\s2.heap.Ns N mN/\OwnTail s2.heap il bm/\(∃oI,s2.heap.get? f=some oI/\oI.cls=.type "function")/\∀h' e a0,(∀b o,s2.heap.get? b=some o->h'.get? b=some o)->s2.heap.objs.size<=e->h'.get? e=some {cls:=.ref C,data:=.fields #[.ref a0,.none,.none,.none,.bool false,.none]}->wpAny (model prog w) (A.under (.builtin "type.__call__" ⟨.ref C::a.pos,[]⟩)) (call (.ref f) (.ref e::a.pos)) (fun r s3=>r=.none/\Q (.ref e) s3) E {s2 with heap:=h'}) E s1) E s):
  wpAny (model prog w) A (eval (.Call (.Name x np) args [] cpos) env) Q E s:=by refine wpAny_Call_ofName (TZ h (fun v s1 h1=>?_) fun _ _ x=>x);obtain⟨rfl,h1⟩:=h1;unfold callWith;refine tz (Ti (TZ h1 (fun a s2 h2=>tz (Wt ?_)) fun _ _ x=>x));obtain⟨apos,akw⟩:=a;obtain⟨hkw,hlen,hC,hn,T,⟨oI,hf,hfc⟩,h2⟩:=h2;obtain rfl:akw=[]:=hkw;obtain⟨hp,g,d,tk,os⟩:=s2;simp only[hpl];refine tz (wpAny_keeperOf_exc hC ?_);refine tz (vU hC hn hi T hf hfc hlen fun h' e a0 z1 z2 z3=>?_);exact TZ (h2 h' e a0 z1 z2 z3) (fun r s3⟨hr,hE⟩=>⟨hr,tz (Ti (wpAny_point (Gc hE)))⟩) fun _ _ z=>z
end
def Nd(C:GM)(sp:Sp)(t:TA):TE:=fun σ H Q=>t σ H fun vs H1=>vs.length<=sizeLine/\∀e,H1 e=none->sp (.ref e::vs) (upd H1 e (dD e (.ref C) none)) (fun r H2=>r=.non/\Q (.ref e) H2) E0
theorem AR(O:Cd X.K C f)(D:du X.prog X.w X.K X.mg X.base ps j sp f fd)(hr:aU k X.A)(hm:X.mg x=some (.ref C))(ha:PA X [a] ta)(hjk:j+1<=k:=by decide)(hg:Gl X x:=by rfl)(hs:starEach [a] X.env=[(false,eval a X.env)]:=by rfl)(hd:(x== ("__debug__" :Str))=false:=by decide):PE X (.Call (.Name x np) [a] [] cpos) (Nd C sp ta):=by
 intro pins s σ H Q I h;obtain⟨bm,N,nm,qn,bs,hd',sn,sub,ab,col,dd,k0,k1,k2,k3,k5,mN,hC,hN,hi,TL⟩:=qY I.ok.mod.kin O.j;obtain⟨oI,hf,hfc⟩:∃oI,X.base.get? f=some oI/\oI.cls=.type "function":=by obtain⟨o,ho,hc⟩:=V4.mp (show(X.K.lookup f).map (·.cls)=some (.type "function")from beq_iff_eq.mp O.fn);exact⟨o,I.ok.mod.kin f o ho,hc⟩
 refine sv (C:=C) (nm:=nm) (q:=qn) (N:=N) (bs:=bs) (bm:=bm) (hdct:=hd') (sn:=sn) (sub:=sub) (ab:=ab) (col:=col) (dd:=dd) (k0:=k0) (k1:=k1) (k2:=k2) (k3:=k3) (k5:=k5) (mN:=mN) (f:=f) (by rw[hs];rfl) hi (cL I hg hm ⟨rfl,?_⟩ hd);have p:=ha cpos pins s σ H _ I h;rw[hs]at p|-;refine VE (aD p fun us s1⟨vs,H1,I1,r,ql,q⟩=>⟨rfl,by rw[<-r.length];exact ql,I1.bk _ _ hC,hN.keeps I1.bk,TL.keeps I1.bk,⟨oI,I1.bk _ _ hf,hfc⟩,fun h' e a0 kp el ee=>?_⟩);have en:s1.heap.get? e=none:=Ug el;have q':=q e (I1.hok.none en);have I2:Inv X pins σ (upd H1 e (dD e (.ref C) none)) {s1 with heap:=h'}:=I1.laid (t':=s1.toks) kp el (mj ee);have r2:Vals (V.ref e::vs) (PP e::us):=.cons rfl r;have hl:(PP e::us).length=ps.length:=by rw[<-r2.length];exact D.ok.len _ _ _ _ q'
 have hb:=D.b {s1 with heap:=h'} (PP e::us) I2.kIn (by rw[T7];exact hl);rw[T7]at hb;refine VO (U8 (D.ok.run _ X.stack _ _ ⟨PP e::us,[]⟩ (PP e::us) _ _ E0 ((hr.mono hjk).make C us []) (I2.env0.make C us []) hb r2 q') fun r s' hq'=>?_);cases r with
 |error v=>exact gi pins σ _ _ v s' I2 hq'
 |ok fl=>cases fl with
  |ret u=> obtain⟨v,H',I3,rv,ev,qE⟩:=I2.after hq';subst ev;exact⟨rv,.ref e,H',I3,rfl,qE⟩
  |next=>exact Up hq'
  |brk=>exact Up hq'
  |cont=>exact Up hq'
def OD(K:KB)(ta:TE)(f:Str):TE:=fun σ H Q=>ta σ H fun x H1=>∃a C g d fs v,x=.ref a/\H1 a=some (dD a (.ref C) (some d))/\H1 d=some (.xd fs)/\Cd K C g/\NoAttr K C f/\fs.lookup f=some v/\Q v H1
theorem EN(he:PE X e ta)(hb:attributeBase e f X.env (eval e X.env)=eval e X.env):PE X (.Attribute e f pos) (OD X.K ta f):=by intro pins s σ H Q I h;refine qM hb (aD (he pins s σ H _ I h) fun u s1 hZ=>?_);obtain⟨x,H1,I1,rx,a,C,g,d,fs,v,ex,ea,ed,c,n,l,q⟩:=hZ;subst ex;obtain rfl:u=PP a:=rx;obtain⟨⟨a0,o1⟩,_,_⟩:=(show aW X.prog X.w H1 s1.heap a (dD a (.ref C) (some d))from I1.hok a _ ea);obtain⟨mA,n1,rel⟩:=(show aW X.prog X.w H1 s1.heap d (.xd fs)from I1.hok d _ ed);obtain⟨w2,hu,ru⟩:=df.some_of (v:=v) (o:=mA f) (by rw[<-l];exact rel f);obtain⟨od,ho,hl⟩:=mS n1;have J:W.InstAt s1.heap a _ C (some od):=⟨o1,rfl,rfl,ho⟩;exact Ep I1.kIn J c.ga c.gk c.vo (W.findObj_own c.hd n rfl (by rw[hl,hu])) (m7 ru) fun t'=>⟨v,H1,I1.tok _,ru,q⟩
theorem uM(M:Mk X.K C f)(hm:X.mg x=some (.ref C))(D:du X.prog X.w X.K X.mg X.base ps j sp f fd)(hr:aU k X.A)(ha:PA X (e::es) t)(hjk:j+1<=k:=by decide)(hg:Gl X x:=by rfl)(hdb:(x== ("__debug__" :Str))=false:=by decide)(he:starEach (e::es) X.env=(false,eval e X.env)::starEach es X.env:=by rfl)(hpl:(backTo pos (starEach es X.env)).any (·.1)=false:=by rfl): PE X (.Call (.Name x p) (e::es) [] pos) (nL C sp [] E0 t):=EG M D.ok (hr.mono hjk) hg hm D.b .nil gi ha hdb he hpl
theorem Ey{X:Cx}{K:KB}{f:Str}{pos:Pos}{ta:TE}{e:Uo}(hK:X.K=K)(he:PE X e ta)(hb:attributeBase e f X.env (eval e X.env)=eval e X.env):PE X (.Attribute e f pos) (HX K ta f):=by subst hK;exact eA he hb
end L2
namespace Ck
open PySem L2
section
variable{K:KB}{a b:GM}{g:TG}{tt:TT}{te:TE}{σ0:L2.St}{H:Hp}{D:GM}{Q:VK}
theorem fU(ha:H a=some (.lst []))(hD:H D=none)(q:∀H',af H H'->H' D=some (.lst [])->Q (.ref D) H'):eQ (my K a) g tt te σ0 D Q H:=cX (xs:=[]) (fun i ys H'=>af H H'/\H' D=some (.lst ys)/\ys=[]) (KM _) ⟨af.new (af.refl H) hD _,ag,rfl⟩ (fun i ys H' hi h=>⟨ao.of (h.1 _ _ ha),by rw[h.2.2];exact KM _⟩) (fun i x ys H' R R0 hx h r r0=>by cases hx) (fun ys H' h=>q H' h.1 (h.2.2▸h.2.1))
theorem oQ(ha:H a=some (.lst []))(hD:H D=none)(q:∀H',af H H'->H' D=some (.lst [])->Q (.ref D) H'):eQ (nQ K a) g tt te σ0 D Q H:=mK (xs:=[]) (fun i ys H'=>af H H'/\H' D=some (.lst ys)/\ys=[]) (KM _) ⟨af.new (af.refl H) hD _,ag,rfl⟩ (fun i ys H' hi h=>⟨ao.of (h.1 _ _ ha),by rw[h.2.2];exact KM _⟩) (fun i x ys H' T R R0 hx h hT r r0=>by cases hx) (fun ys H' h=>q H' h.1 (h.2.2▸h.2.1))
theorem ML(ha:H a=some (.lst []))(hb:H b=some (.lst []))(hD:H D=none)(q:∀H',af H H'->H' D=some (.lst [])->Q (.ref D) H'):eQ (CT K a b) g tt te σ0 D Q H:=yj (xs:=[]) (ys:=[]) (fun i zs H'=>af H H'/\H' D=some (.lst zs)/\zs=[]) (KM _) ⟨af.new (af.refl H) hD _,ag,rfl⟩ (fun i ys H' h=>⟨ao.of (h.1 _ _ ha),ao.of (h.1 _ _ hb),by rw[h.2.2];exact KM _⟩) (fun i x y ys H' T R R0 hx hy h hT r r0=>by cases hx) (fun ys H' h=>q H' h.1 (h.2.2▸h.2.1))
end
def OJ(f:Nat)(H:Hp)(v:V):Prop:=match f with
 |0=>v=.str ""
 |2=>∃p,v=.ref p/\H p=some (.tup [])
 |5=>∃t p,v=.ref t/\H t=some (.tup [.int 2,.ref p])/\H p=some (.lst [])
 |8=>∃p,v=.ref p/\H p=some (.lst ([0].map V.int))
 |9=>∃p,v=.ref p/\H p=some (.lst ([0].map V.int))
 |_=>∃p,v=.ref p/\H p=some (.lst [])
theorem i6(h:Rp H0 H (.lst []) v):∃p,v=.ref p/\H p=some (.lst []):=by unfold Rp bj at h;obtain⟨p,xs,e,_,hp,rfl⟩:=h;exact⟨p,e,hp⟩
theorem El(hi:i<10)(h:R0 H (eF i) v):OJ i H v:=by match i,hi,h with
 |0,_,h=> have h:Rp (fun _=>none) H (.str "") v:=h;unfold Rp at h;exact h
 |1,_,h=>exact i6 h
 |2,_,h=> have h:Rp (fun _=>none) H (.tup []) v:=h;unfold Rp bj at h;obtain⟨p,xs,e,_,hp,rfl⟩:=h;exact⟨p,e,hp⟩
 |3,_,h=>exact i6 h
 |4,_,h=>exact i6 h
 |5,_,h=>
  obtain⟨t,l,e,ht,⟨xs,hl,pr⟩⟩:=u5 (ps:=[]) h;cases pr;exact⟨t,l,e,ht,hl⟩
 |6,_,h=>exact i6 h
 |7,_,h=>exact i6 h
 |8,_,h=>obtain⟨p,e,_,hp⟩:=b9 (ns:=[0]) h;exact⟨p,e,hp⟩
 |9,_,h=>obtain⟨p,e,_,hp⟩:=b9 (ns:=[0]) h;exact⟨p,e,hp⟩
end Ck
namespace L2
open PySem PySem.Spec PyProof.Rows PySem.W
section
variable{X:Cx}{M:Nat}{f:Nat->GM}{fd:Nat->TK}{ps:List Str}{sp:Nat->Sp}{p pos:Pos}{a b e:Uo}{es:List Uo}{tc:TE}{t:TA}{j k:Nat}
theorem ye(hc:∀(pn':List (GM×Obj))(xe':Do->FB->Prop),PE {X with pn:=pn',xe:=xe'} (.Subscript a b p) tc)(D:∀i,i<M->tZ X.prog X.w X.K X.mg X.base ps j (sp i) (f i) (fd i))(hr:aU k X.A)(ha:∀(pn':List (GM×Obj))(xe':Do->FB->Prop),PA {X with pn:=pn',xe:=xe'} (e::es) t)(hjk:j<=k:=by decide)(he:starEach (e::es) X.env=(false,eval e X.env)::starEach es X.env:=by rfl)(hpl:(backTo pos (starEach es X.env)).any (·.1)=false:=by rfl): Ht X (.Call (.Subscript a b p) (e::es) [] pos) (fun E=>vB M f sp E tc t):=by intro E σ pn' xe' hp pins s H Q I h;show wpAny (model X.prog X.w) X.A (eval (.Subscript a b p) X.env>>=fun fv=>callWith pos fv [] (backTo pos (starEach (e::es) X.env)) (backToKw pos (keywordEach [] X.env))) _ _ _;refine tz (aD (hc pn' xe' pins s σ H _ I h) fun u s1 hZ=>?_);obtain⟨v,H1,I1,rv,i,hi,ev,q⟩:=hZ;subst ev;obtain rfl:u=PP (f i):=rv;refine XB (first:=[]) (h₀:=X.base) I1.ok.mod.kin (D i hi).kp (aD (ha pn' xe' pos pins s1 σ H1 _ I1 q) fun us s2⟨vs,H2,I2,r,q2⟩=>⟨I2.kIn,?_⟩) he hpl;exact v9 (X:={X with pn:=pn',xe:=xe'}) (D i hi).ok (hr.mono hjk) (D i hi).b hp I2 r q2
end
def z5(K:VB)(c0 c9 f:GM):Bool:=oq K c9 f&&(findIn K (.ref c9) "__getattribute__" ==some (some (.builtin "BaseException.__getattribute__"))&&(findIn K (.ref c9) "__getattr__" ==some none&&(kK K c9&&(hasDictIn K c9&&(findIn K (.ref c9) "__setattr__" ==some (some (.builtin "object.__setattr__"))&&(isFn K (.ref f)&& (findIn K (.ref c9) "place" ==some none&&(specialIn K (.ref c0) "__getattribute__" ==some (some (.builtin "type.__getattribute__"))&&readsIn K c0 (.type "type")))))))))
structure GF(K:VB)(er:Nat->GM)(f:GM):Prop where
 ex:Cd K (er 9) f
 na:NoAttr K (er 9) "place"
 cb:Me K (er 0)
theorem EX{K:VB}{er:Nat->GM}{f:GM}(h:z5 K (er 0) (er 9) f=true)(hf:findCls K (.ref (er 0)) (.type "type") "__init__" =some (.val (.builtin "ValueError.__init__"))):GF K er f:=by unfold z5 at h;simp only[On,beq_iff_eq]at h;obtain⟨q0,q1,q2,q3,q4,q5,q6,q7,q8,q9⟩:=h;exact⟨⟨q0,q1,q2,q3,q4,q5,q6⟩,q7,⟨q8,q9,hf⟩⟩
section
variable{prog:SK}{w:Tc}{A:Tf}{E:Do->FB->Prop}{s:FB}{R:Yd->FB->Prop}{d:Do}{it:GM}{fp wr:List GM}{n:Nat}{P:Nat->Do->Prop}{St:Nat->Ux->Prop}
theorem yq(hh:A.handled=none)(hl:s.heap.IsList l (intItems xs))(z:xs.size=0)(h0:∀h' tk,(∀b o,s.heap.get? b=some o->h'.get? b=some o)->Q d {s with heap:=h',toks:=tk}): wpAny (model prog w) A (call (.builtin "max") [.ref l] (BQ d)) Q E s:=by
 refine kmb_tree F.kind_max F.plain_max F.entry_max (vK _ _) ?_;show wpAny _ A.in1 (Builtin.Builtins.bindParams "max" ["key","default"] 0 ⟨[],BQ d⟩>>=_) _ _ s;refine tz (wpAny_of_eq (show Builtin.Builtins.bindParams "max" ["key","default"] 0 ⟨[],BQ d⟩=pure [none,some d]from rfl) (tz (Gc (tz (iter_intList hl fun s2 e st hfp hlI=>?_)))));subst e;have W:=Walks.list (prog:=prog) (w:=w) (A:=A.in1) hh s.heap.objs.size l hlI (intItems xs);have nf:(s.heap.push {cls:=.type "list_iterator",data:=.fields #[.ref l,.int 0 0]}).objs.size∉[s.heap.objs.size,l]:=fun z=>Tz _ (hfp _ z);refine tz (UL ?_);rw[D1];refine Gc ⟨Ur F.plain_max_loop _,?_⟩;have st2:=W.frame _ _ _ st fun b _ o e=>Fk {cls:=.type "list",data:=.seq #[]} e;have hB:((s.heap.push {cls:=.type "list_iterator",data:=.fields #[.ref l,.int 0 0]}).push {cls:=.type "list",data:=.seq #[]}).get? (s.heap.push {cls:=.type "list_iterator",data:=.fields #[.ref l,.int 0 0]}).objs.size=some {cls:=.type "list",dict:=none,data:=.seq #[] 0,slots:=#[]}:=SB _ rfl;have back:∀h':Ux,(∀b o,b∉[s.heap.objs.size]->b≠(s.heap.push {cls:=.type "list_iterator",data:=.fields #[.ref l,.int 0 0]}).objs.size->((s.heap.push {cls:=.type "list_iterator",data:=.fields #[.ref l,.int 0 0]}).push {cls:=.type "list",data:=.seq #[]}).get? b=some o->h'.get? b=some o)->∀b o,s.heap.get? b=some o->h'.get? b=some o:=fun h' kp b o e=>by have lb:=GE e;refine kp b o (fun z=>Tz _ ((Uh.mp z)▸lb)) (fun z=>?_) (Fk _ (Fk _ e));have sp:(s.heap.push {cls:=.type "list_iterator",data:=.fields #[.ref l,.int 0 0]}).objs.size=s.heap.objs.size+1:=Uk ..;exact Tz _ (SN (Vm (Nat.le_of_eq z.symm) lb) (Wf (Nat.lt_of_lt_of_eq (VH _) sp.symm)))
 refine T9 F.entry_max_loop ?_;rw[TF F.plain_max_loop _];show wpAny _ A.in1 (seqItems? (.ref _)>>=_) _ _ _;refine tz (We hB rfl ?_);show wpAny _ A.in1 (tryCatch (pyNext (.ref s.heap.objs.size)) _>>=_) _ _ _;have e0:(intItems xs).size=0:=by simpa[intItems]using z
 refine tz (wpAny_tryCatch (W.done _ _ _ (e0▸st2) fun h' tk kp=>?_));show wpAny _ A.in1 (rule _>>=_) _ _ _;refine tz (wpAny_rule (Gc ?_));exact h0 h' tk (back h' fun b o b1 _ e=>kp b o b1 e)
end
theorem e8(hc:X.calm=true):wZ X (.builtin "max") [AC "default"] (fun xs zs H Q=>∃(a:GM)(u:V),xs=[.ref a]/\zs=[u]/\ao X.K H a []/\Q u H):=by
 intro pins s σ H xs zs us ws Q I r rz h;obtain⟨a,u,rfl,rfl,hl,q⟩:=h;obtain⟨u1,rfl,ru⟩:=vals1 r;obtain⟨u2,rfl,ru2⟩:=vals1 rz;cases ru;obtain⟨its,r',pl,hz⟩:=I.list hl;cases r';have ei:intItems #[]=#[]:=by unfold intItems;simp
 exact yq (d:=u2) (xs:=#[]) (I.ok.hd hc) (by rw[ei];exact pl.isList) rfl fun h' tk hk=>⟨u,H,I.kept hk,ru2,q⟩
end L2
namespace Ck
open PySem L2
noncomputable def oE(f:Nat->Bool):Nat->Nat
 |0=>0
 |i+1=>oE f i+(if f i=true then 1 else 0)
noncomputable def l6(ns:List Int)(k:Nat):Bool:=!decide (ns.getD k 0∈ns.take k)
theorem take_range(ns:List Int):∀i,i<=ns.length->ns.take i=(SO i).map fun j=>ns.getD j 0
 |0,_=>rfl
 |i+1,h=>by rw[Th,Vq,SV,take_range ns i (by lia),Da (show i<ns.length by lia)];simp[FM,Da (show i<ns.length by lia)]
theorem qT(k:Int):∀ns:List Int,ns.any (·==k)=decide (k∈ns)
 | []=>by simp
 |n::ns=>by
  rw[UA,qT k ns];by_cases h:n=k;·subst h;simp
  ·have h':¬k=n:=fun z=>h z.symm
   simp[h,h']
theorem i9(ns:List Int):∀i,i<=ns.length->(PyProof.Rows.firstMet (fun i=>ns.getD i 0) i).length=oE (l6 ns) i
 |0,_=>rfl
 |i+1,h=>by rw[PyProof.Rows.firstMet_succ,PyProof.Rows.step_length,PyProof.Rows.firstMet_any,<-take_range ns i (by lia),i9 ns i (by lia),qT];show _=oE (l6 ns) i+(if l6 ns i=true then 1 else 0);have em:l6 ns i=!decide (ns.getD i 0∈ns.take i):=rfl;rw[em];generalize decide (ns.getD i 0∈ns.take i)=b;cases b<;>rfl
end Ck
namespace L2
open PySem PySem.Spec PyProof.Rows Ck
theorem J9:bootBuiltins "set" =some (.type "set"):=by decide+kernel
def Of(K:KB)(ta:TA):TE:=fun σ H Q=>ta σ H fun vs H1=>∃(l:GM)(ns:List Int),vs=[.ref l]/\ao K H1 l (ns.map V.int)/\ns.length<=1000/\Q (.int (oE (l6 ns) ns.length:Nat)) H1
section
variable{X:Cx}
theorem vx(hc:X.calm=true)(hgl:Gl X "len")(hml:X.mg "len" =none)(hg:Gl X "set")(hm:X.mg "set" =none)(ha:PA X [a] ta)(hs:starEach [a] X.env=[(false,eval a X.env)]:=by rfl)(he:starEach [.Call (.Name "set" p) [a] [] pos] X.env=[(false,eval (.Call (.Name "set" p) [a] [] pos) X.env)]:=by rfl): PE X (.Call (.Name "len" p2) [.Call (.Name "set" p) [a] [] pos] [] pos2) (Of X.K ta):=by
 intro pins s σ H Q I h;refine Tv (bO I hgl hml bb ?_ (by decide) (by decide));refine U9 ?_ he rfl;rw[he];show wpAny _ _ (spliced ((false,eval (.Call (.Name "set" p) [a] [] pos) X.env)::backTo pos2 [])) _ _ s;refine UV (Call_ (bO I hg hm J9 (SU (aD (ha pos pins s σ H _ I h) fun us s1⟨vs,H1,I1,r1,q1⟩=>?_) hs rfl)));obtain⟨l,ns,e,hl,hz,q⟩:=q1;subst e;obtain⟨u,rfl,ru⟩:=vals1 r1;cases ru;obtain⟨its,rv,pl,hz2⟩:=I1.list hl;have hi:=intsAre_of rv;have li:=hi.length;refine call_set_list (I.ok.hd hc) pl.isList (ns:=ns) (by simpa using hi) (by unfold scanBound;simp;lia) fun h' tk hS hk=>U1 ?_;obtain⟨o,es,ep,t,ho,hex,hd,_,_,hb,hf,hn⟩:=hS;have hb:es.size<4096:=hb;refine call_len_set ho hex hd hf (by lia) ?_;have en:es.size=oE (l6 ns) ns.length:=by rw[hn,show its.toArray.size=ns.length by simp;lia];exact i9 ns ns.length (M2 _)
 rw[en];exact⟨.int _,H1,I1.kept (t':=tk+1+1) fun b o e=>hk b o (GE e) e,⟨_,rfl⟩,q⟩
end
end L2
namespace Ck
open PySem L2
end Ck
namespace L2
open PySem PySem.Spec
theorem qv{X:Cx}{K:KB}(hK:X.K=K)(hu:X.A.units+100<cLine):bX X (compareOp .Eq) (Ay K false):=hK▸kq hu
end L2
namespace Ck
open PySem L2
end Ck
namespace Ck
open PySem PySem.W PySem.Calls PyProof.Rows
noncomputable def qR{α:Type}(p q:SK)(loose:List Str)(Xt:FB->Bool)(Yf:FB->α)(h0:Ux)(s:FB):= ((staticsOk (importedModules p.main.body) h0 s.heap&&namesBound p s.heap&&gensDone s&&laidKept h0 s.heap),openSeen q loose (importedModules p.main.body) Xt true s,Yf s)
theorem tV{p q:SK}{loose:List Str}{Xt:FB->Bool}{α:Type}{Yf:FB->α}{Ya:Tc->α}{N M m:Nat}{H:IR->Ux}{gs:Array VS}{dr:Drawn}{tk:Nat}{an:Option Do}(o:∀w:Tc,(fencedOpening treeTable p w N).map (fun s=>(s.heap,s.gens,s.drawn,s.toks))=some (H w.params,gs,dr,tk))(z:∀w:Tc,((H w.params).isNs mainGlobals&&gs.size==0,(H w.params).objs.size,(H w.params).nsMap mainGlobals "__annotations__")=(true,m,an))(r:∀(w:Tc)(os:Wq),∃e,topRun treeTable p w m an M ⟨H w.params,gs,dr,tk,os⟩ (topStub p)=some e/\qR p q loose Xt Yf (H w.params) e=(true,openGood q loose,Ya w))(le:M<=N):LeftO p q loose Xt Yf Ya N:=by intro w;have ow:=o w;cases hf:fencedOpening treeTable p w N with
 |none=>rw[hf]at ow;cases ow
 |some s=>
  rw[hf]at ow;have os:=To ow;have e1:s.heap=H w.params:=congrArg X2 os;have e2:s.gens=gs:=congrArg (fun x=>x.2.1) os;have e3:s.drawn=dr:=congrArg (fun x=>x.2.2.1) os;have e4:s.toks=tk:=congrArg (fun x=>x.2.2.2) os;obtain⟨e,run,look⟩:=r w s.os;have hs:s=⟨H w.params,gs,dr,tk,s.os⟩:=by rw[<-e1,<-e2,<-e3,<-e4]
  have run':=topRun_mono (N-M) _ _ _ _ run;rw[Nat.add_sub_cancel' le]at run';have zw:=z w;have z1:=congrArg X2 zw;have z2:=congrArg (fun x=>x.2.1) zw;have z3:=congrArg (fun x=>x.2.2) zw;dsimp only at z1 z2 z3;have l1:=congrArg X2 look;have l2:=congrArg Prod.snd look;have tf:topFrom treeTable p w N s=some e:=by rw[hs];unfold topFrom;dsimp only;rw[z1,z2,z3,run'];unfold qR at l1;dsimp only at l1;dsimp only[Option.bind];rw[l1]
  unfold openEnds;rw[hf,Xr,tf];exact congrArg some l2
noncomputable def alive(o:Obj):Option Obj:=match o with
 | ⟨_,_,.freed,_⟩=>none
 |o=>some o
def eR:List Obj->List Bool->List (Option Obj)
 |_,[]=>[]
 | [],true::m=>none::eR [] m
 | [],false::m=>eR [] m
 |o::os,true::m=>alive o::eR os m
 |_::os,false::m=>eR os m
noncomputable def i8:List Bool->Nat->List Nat
 | [],_=>[]
 |true::m,i=>i::i8 m (i+1)
 |false::m,i=>i8 m (i+1)
theorem l8:∀(m:List Bool)(os:List Obj)(pre:List Obj),eR os m=(i8 m pre.length).map fun a=>(pre++os)[a]?.bind alive
 | [],os,pre=>by cases os<;>rfl
 |b::m,[],pre=>by
  have k:=l8 m [] (pre++[default]);rw[SW,Wh]at k;have e:∀i,pre.length<i->((pre++[(default:Obj)])++[])[i]?.bind alive=(pre++[])[i]?.bind alive:=fun i hi=>by rw[UB (by simp;lia),UB (by simp;lia)]
  have lt:∀(m:List Bool)(n i:Nat),i∈i8 m n->n<=i:=by intro m;induction m with
   |nil=>intro n i h;cases h
   |cons b m ih=>intro n i h;cases b with
    |true=>
     rcases GT.1 h with h|h;·lia
     ·have:=ih _ _ h;lia
    |false=>have:=ih _ _ h;lia
  have k':eR [] m=(i8 m (pre.length+1)).map fun a=>(pre++[])[a]?.bind alive:=by rw[k];exact VM fun i hi=>e i (lt _ _ _ hi)
  cases b with
  |true=>show none::eR [] m=_::_;rw[k'];congr 1;simp
  |false=>exact k'
 |b::m,o::os,pre=>by have k:=l8 m os (pre++[o]);rw[SW,Wh,Uy,List.singleton_append]at k;cases b with
  |true=>show alive o::eR os m=_::_;rw[k];congr 1;simp
  |false=>exact k
theorem vR(h:Ux)(a:GM):h.get? a=h.objs.toList[a]?.bind alive:=by unfold Heap.get?;rw[UW];cases h.objs[a]? with
 |none=>rfl
 |some o=>obtain⟨c,d,x,s⟩:=o;cases x<;>rfl
theorem Fp(e:as=i8 m 0)(h:Ux):as.map h.get?=eR h.objs.toList m:=by rw[l8 m h.objs.toList [],e];exact VM fun a _=>vR h a
section
variable{tb:String->Option Builtin}{p:SK}{w:Tc}{m:Nat}{an:Option Do}{env:Env}{q:Pos}
noncomputable def lR{β:Type}(tb:String->Option Builtin)(p:SK)(w:Tc)(m:Nat)(an:Option Do)(q:Pos)(c:Code)(n4:Nat)(L:FB->β)(r:Flow×SharedT×Code×Pos):Flow×Code×Option β:= (r.1,r.2.2.1,(topRun tb p w m an n4 r.2.1.abs ⟨doneF .next,c,r.2.2.2,[topFrame q]⟩).map L)
theorem EH(hc:c=.body b env)(h1:topGo tb p w m an n1 S0 (topStub p)=some (Sa,⟨denote tb c,c,pos0,[topFrame q]⟩))(h2:segRun tb p w m an 1 n2 Sa (blockOf b env c pos0 [topFrame q])=some (.next,Sb.abs,c,pos1))(h3:segRunT tb p w m an 1 n3 Sb (piecesOf (b.take k) env c pos1 [topFrame q])=some (.next,Sc,c,pos2))(h4:(segRunT tb p w m an 1 n5 Sc (piecesOf (b.drop k) env c pos2 [topFrame q])).map (lR tb p w m an q c n4 L)=some (.next,c,some z)): ∃e,topRun tb p w m an (n1+(n2+(n3+(n5+n4)))) S0 (topStub p)=some e/\L e=z:=by cases hr:segRunT tb p w m an 1 n5 Sc (piecesOf (b.drop k) env c pos2 [topFrame q])with
 |none=>rw[hr]at h4;cases h4
 |some x=> obtain⟨f,s,d,ps⟩:=x;rw[hr]at h4;have h4:=To h4;unfold lR at h4;have a1:f=.next:=congrArg X2 h4;have a2:d=c:=congrArg (fun x=>x.2.1) h4;have a3:=congrArg (fun x=>x.2.2) h4;dsimp only at a3;subst a1 a2 hc;cases ht:topRun tb p w m an n4 s.abs ⟨doneF .next,.body b env,ps,[topFrame q]⟩with
  |none=>rw[ht]at a3;cases a3
  |some e=> rw[ht]at a3;have k2:=piece_app (rest:=[]) (segRun_of hr) (piece_nil ht);rw[T7]at k2;have k1:=piece_app (segRun_of h3) k2;rw[UY]at k1;exact⟨e,go_top h1 (piece_block h2 k1),To a3⟩
end
end Ck
namespace Ck
open PySem L2
noncomputable def top(i:Nat):T4:=PySem.Challenge.pw_countkin_k46_words_and_marks.main.body.getD i (.Pass ⟨0,0,0,0⟩)
set_option genInjectivity false in
structure aC where
 C:Nat->GM
 f:Nat->GM
 fd:Nat->TK
 F:Nat->GM
 u_GREATEST_SIZE:Do
structure HR(K:KB)(mg:Str->Option Do)(ca:aC):Prop where
 uf:mg "Brackets" =some (.ref (ca.C 0))
 zp:mg "Stairs" =some (.ref (ca.C 1))
 D4:mg "Twins" =some (.ref (ca.C 2))
 JT:mg "Bows" =some (.ref (ca.C 3))
 E8:mg "Rooms" =some (.ref (ca.C 4))
 zj:mg "Floors" =some (.ref (ca.C 5))
 EE:mg "Turns" =some (.ref (ca.C 6))
 EL:mg "Codes" =some (.ref (ca.C 7))
 D8:mg "Trees" =some (.ref (ca.C 8))
 M8:mg "Cars" =some (.ref (ca.C 9))
 fB:mg "Family" =some (.ref (ca.C 10))
 bR:mg "SplitFamily" =some (.ref (ca.C 11))
 dW:mg "RingFamily" =some (.ref (ca.C 12))
 in4:∀i,i<10->InsT K (ca.C i)
 c4:∀i,i<10->Cls K (ca.C i)
 mtW_thing_of:∀i,i<10->Meth K (ca.C i) "thing_of" (ca.f 110)
 mtW_refuse_other:∀i,i<10->Meth K (ca.C i) "refuse_other" (ca.f 76)
 mtW_is_one:∀i,i<10->Meth K (ca.C i) "is_one" (ca.f (pick 0 [58,59,60,64,66,68,70,71,73,74] i))
 mtW_many:∀i,i<10->Meth K (ca.C i) "many" (ca.f 91)
 mtW_unchecked_thing:∀i,i<10->Meth K (ca.C i) "unchecked_thing" (ca.f (pick 0 [102,102,102,102,102,102,102,108,108,108] i))
 mtW_unchecked_many:∀i,i<10->Meth K (ca.C i) "unchecked_many" (ca.f (pick 0 [87,87,87,87,87,87,87,89,89,89] i))
 mtV_thing_by_parts:∀i,i<7->Meth K (ca.C i) "thing_by_parts" (ca.f 100)
 mtV_bare:∀i,i<7->Meth K (ca.C i) "bare" (ca.f (pick 0 [92,93,94,95,96,97,98] i))
 mtR_of_code:∀i,i<3->Meth K (ca.C (i+7)) "of_code" (ca.f (pick 0 [103,104,105] i))
 na4_word:∀i,i<10->NoAttr K (ca.C i) "word"
 na4_least:∀i,i<10->NoAttr K (ca.C i) "least"
 kit4_Family:∀i,i<10->UR K (.ref (ca.C i)) (.ref (ca.C 10))=some true
 e4:∀i,i<3->InsT K (ca.C (pick 0 [10,11,12] i))
 ea_word:∀i,i<3->NoAttr K (ca.C (pick 0 [10,11,12] i)) "word"
 ea_least:∀i,i<3->NoAttr K (ca.C (pick 0 [10,11,12] i)) "least"
 ek:∀i,i<3->UR K (.ref (ca.C (pick 0 [10,11,12] i))) (.ref (ca.C 10))=some true
 mk_Turns:Mk K (ca.C 6) (ca.f 7)
 mk_Floors:Mk K (ca.C 5) (ca.f 8)
 mk_Rooms:Mk K (ca.C 4) (ca.f 9)
 mk_Bows:Mk K (ca.C 3) (ca.f 10)
 mk_Twins:Mk K (ca.C 2) (ca.f 11)
 mk_Stairs:Mk K (ca.C 1) (ca.f 12)
 mk_Brackets:Mk K (ca.C 0) (ca.f 13)
 mk_Cars:Mk K (ca.C 9) (ca.f 16)
 mk_Trees:Mk K (ca.C 8) (ca.f 17)
 mk_Codes:Mk K (ca.C 7) (ca.f 18)
 mk_Family:Mk K (ca.C 10) (ca.f 5)
 mk_SplitFamily:Mk K (ca.C 11) (ca.f 6)
 mk_RingFamily:Mk K (ca.C 12) (ca.f 15)
 cm_SplitFamily___init___W:ClsM K (ca.C 11) "__init__" (ca.f 6)
 cm_Family___init___W:ClsM K (ca.C 10) "__init__" (ca.f 5)
 cm_RingFamily___init___W:ClsM K (ca.C 12) "__init__" (ca.f 15)
 bt:mg "len" =none
 bG:mg "range" =none
 g6:mg "max" =none
 dH:mg "list" =none
 cG:mg "enumerate" =none
 sD:mg "min" =none
 Dp:mg "zip" =none
 CC:mg "set" =none
 aS:mg "isinstance" =none
 pL:mg "ValueError" =none
 eJ:mg "sorted" =none
 jd:mg "all" =none
 Cr:mg "int" =none
 Lp:mg "bool" =none
 Oq:mg "sum" =none
 fW:mg "GREATEST_SIZE" =some ca.u_GREATEST_SIZE/\RelV (.int 40) ca.u_GREATEST_SIZE
abbrev uu:T4:=top 98
theorem KN:aq [] [] (aj uu):=aI
abbrev ue:T4:=top 96
theorem Gs:aq ["_law_script","_law_k"] ["_law_script","_law_k"] (aj ue):=aI
abbrev tw:T4:=top 97
theorem dI:aq ["_law_script","_law_turn","_law_many","_law_cells","_law_found","_law_left","_law_k","_law_at","_law_place","_law_number"] ["_law_script","_law_turn","_law_many"] (aj tw):=aI
abbrev rX:T4:=top 100
theorem oY:aq ["_law_draw","_law_some"] ["_law_draw"] (aj rX):=aI
abbrev tS:T4:=top 101
theorem kh:aq ["_law_script","_law_turn","_law_text_here","_law_draws_here","_law_at","_law_sign_here"] ["_law_script","_law_turn","_law_text_here"] (aj tS):=aI
abbrev AO:T4:=inClass (top 24) 0
theorem Oi:aq ["self","word","least"] ["self","word","least"] (aj AO):=aI
abbrev yE:T4:=inClass (top 25) 0
theorem NB:aq ["self","word"] ["self","word"] (aj yE):=aI
abbrev uy:T4:=inClass (top 44) 0
theorem Ks:aq ["self"] ["self"] (aj uy):=aI
abbrev sP:T4:=inClass (top 40) 0
theorem IU:aq ["self"] ["self"] (aj sP):=aI
abbrev uK:T4:=inClass (top 28) 0
theorem IP:aq ["self"] ["self"] (aj uK):=aI
abbrev sW:T4:=inClass (top 27) 0
theorem Il:aq ["self"] ["self"] (aj sW):=aI
abbrev sC:T4:=inClass (top 52) 0
theorem HW:aq ["self"] ["self"] (aj sC):=aI
abbrev sO:T4:=inClass (top 50) 0
theorem MU:aq ["self"] ["self"] (aj sO):=aI
abbrev xI:T4:=inClass (top 49) 0
theorem NM:aq ["self"] ["self"] (aj xI):=aI
abbrev uU:T4:=top 54
theorem FG:aq [] [] (aj uU):=aI
abbrev yl:T4:=inClass (top 31) 0
theorem Oz:aq ["self","word"] ["self","word"] (aj yl):=aI
abbrev uP:T4:=inClass (top 35) 0
theorem HB:aq ["self"] ["self"] (aj uP):=aI
abbrev uo:T4:=inClass (top 37) 0
theorem Iz:aq ["self"] ["self"] (aj uo):=aI
abbrev tE:T4:=inClass (top 33) 0
theorem IG:aq ["self"] ["self"] (aj tE):=aI
abbrev rE:T4:=top 55
theorem JX:aq [] [] (aj rE):=aI
abbrev sg:T4:=top 57
theorem wt:aq ["word","family"] ["word"] (aj sg):=aI
abbrev uN:T4:=top 65
theorem Gu:aq ["thing"] ["thing"] (aj uN):=aI
abbrev rm:T4:=top 59
theorem Mi:aq ["numbers","among"] ["numbers","among"] (aj rm):=aI
abbrev u7:T4:=top 64
theorem KL:aq ["thing"] ["thing"] (aj u7):=aI
abbrev rT:T4:=top 61
theorem Jn:aq ["thing"] ["thing"] (aj rT):=aI
abbrev rP:T4:=top 60
theorem Lf:aq ["thing"] ["thing"] (aj rP):=aI
abbrev tI:T4:=top 63
theorem Ig:aq ["thing"] ["thing"] (aj tI):=aI
abbrev t7:T4:=top 62
theorem Nm:aq ["thing"] ["thing"] (aj t7):=aI
abbrev uz:T4:=top 90
theorem iW:aq ["thing","longest","place","number","ahead"] ["thing"] (aj uz):=aI
abbrev rN:T4:=top 84
theorem Hu:aq ["thing"] ["thing"] (aj rN):=aI
abbrev uJ:T4:=top 83
theorem Lq:aq ["thing"] ["thing"] (aj uJ):=aI
abbrev ua:T4:=top 42
theorem Jm:aq ["cuts","begin","end"] ["cuts","begin","end"] (aj ua):=aI
abbrev sQ:T4:=top 80
theorem kx:aq ["thing","last","cuts","lines"] ["thing"] (aj sQ):=aI
abbrev uB:T4:=top 82
theorem Lx:aq ["thing"] ["thing"] (aj uB):=aI
abbrev sd:T4:=top 81
theorem FW:aq ["thing"] ["thing"] (aj sd):=aI
abbrev se:T4:=top 78
theorem Jv:aq ["thing","room"] ["thing","room"] (aj se):=aI
abbrev uF:T4:=top 79
theorem Io:aq ["thing"] ["thing"] (aj uF):=aI
abbrev tJ:T4:=top 77
theorem GL:aq ["thing"] ["thing"] (aj tJ):=aI
abbrev sf:T4:=top 75
theorem MF:aq ["thing","bow"] ["thing","bow"] (aj sf):=aI
abbrev sM:T4:=top 89
theorem FD:aq ["thing"] ["thing"] (aj sM):=aI
abbrev sX:T4:=top 76
theorem Mh:aq ["thing"] ["thing"] (aj sX):=aI
abbrev uv:T4:=top 74
theorem HS:aq ["thing"] ["thing"] (aj uv):=aI
abbrev tj:T4:=top 88
theorem Mw:aq ["thing"] ["thing"] (aj tj):=aI
abbrev uD:T4:=top 73
theorem iF:aq ["thing","returns","twin"] ["thing"] (aj uD):=aI
abbrev si:T4:=top 72
theorem iR:aq ["thing","peaks","waiting","twin"] ["thing"] (aj si):=aI
abbrev rp:T4:=top 87
theorem HZ:aq ["thing"] ["thing"] (aj rp):=aI
abbrev tT:T4:=top 71
theorem IS:aq ["thing"] ["thing"] (aj tT):=aI
abbrev uR:T4:=top 70
theorem IW:aq ["thing"] ["thing"] (aj uR):=aI
abbrev nO:T4:=top 68
theorem fz:aq ["text","found","depth","sign"] ["text"] (aj nO):=aI
abbrev sI:T4:=top 86
theorem Hh:aq ["thing"] ["thing"] (aj sI):=aI
abbrev sJ:T4:=top 69
theorem IX:aq ["thing"] ["thing"] (aj sJ):=aI
abbrev rK:T4:=top 67
theorem K3:aq ["thing"] ["thing"] (aj rK):=aI
abbrev kZ:T4:=top 92
theorem Jg:aq [] [] (aj kZ):=aI
abbrev um:T4:=top 93
theorem vD:aq ["word","family"] ["word"] (aj um):=aI
abbrev tN:T4:=top 103
theorem vZ:aq ["_law_error","_law_found"] ["_law_error"] (aj tN):=aI
abbrev uX:T4:=top 105
theorem lr:aq ["_law_word","_law_some","_law_caught","e"] ["_law_word","_law_some"] (aj uX):=aI
abbrev su:T4:=top 47
theorem i7:aq ["text","depth","sign"] ["text"] (aj su):=aI
abbrev uq:T4:=inClass (top 49) 2
theorem FL:aq ["self","thing"] ["self","thing"] (aj uq):=aI
abbrev sr:T4:=inClass (top 50) 2
theorem iN:aq ["self","thing","ahead","place","number"] ["self","thing"] (aj sr):=aI
abbrev rY:T4:=inClass (top 52) 2
theorem Ie:aq ["self","thing"] ["self","thing"] (aj rY):=aI
abbrev uO:T4:=top 16
theorem Hw:aq ["numbers"] ["numbers"] (aj uO):=aI
abbrev om:T4:=top 15
theorem lL:aq ["rows","found","row"] ["rows"] (aj om):=aI
abbrev tU:T4:=top 17
theorem i0:aq ["pairs","a","b","c","d"] ["pairs"] (aj tU):=aI
abbrev r8:T4:=inClass (top 27) 2
theorem J3:aq ["self","thing"] ["self","thing"] (aj r8):=aI
abbrev ub:T4:=top 29
theorem K6:aq ["rooms"] ["rooms"] (aj ub):=aI
abbrev sU:T4:=inClass (top 28) 2
theorem JW:aq ["self","thing"] ["self","thing"] (aj sU):=aI
abbrev sE:T4:=top 41
theorem Gq:aq ["corners","a","b"] ["corners","a","b"] (aj sE):=aI
abbrev rF:T4:=inClass (top 40) 2
theorem nV:aq ["self","thing","corners","cuts"] ["self","thing"] (aj rF):=aI
abbrev uQ:T4:=top 45
theorem iK:aq ["numbers","stack","put","number"] ["numbers"] (aj uQ):=aI
abbrev uc:T4:=inClass (top 44) 2
theorem L9:aq ["self","thing"] ["self","thing"] (aj uc):=aI
abbrev uH:T4:=inClass (top 33) 2
theorem xf:aq ["self","thing","size"] ["self","thing"] (aj uH):=aI
abbrev rC:T4:=top 38
theorem kS:aq ["elders","knot","reached","step"] ["elders","knot"] (aj rC):=aI
abbrev uC:T4:=inClass (top 37) 2
theorem wz:aq ["self","thing","size"] ["self","thing"] (aj uC):=aI
abbrev rA:T4:=inClass (top 35) 2
theorem GU:aq ["self","thing"] ["self","thing"] (aj rA):=aI
abbrev zV:T4:=inClass (top 24) 7
theorem NO:aq ["self","thing"] ["self","thing"] (aj zV):=aI
abbrev nR:T4:=top 94
theorem rf:aq ["word","name","thing","family"] ["word","name","thing"] (aj nR):=aI
abbrev sT:T4:=top 104
theorem ki:aq ["_law_word","_law_name","_law_thing","_law_caught","e"] ["_law_word","_law_name","_law_thing"] (aj sT):=aI
abbrev uL:T4:=inClass (top 11) 0
theorem Ge:aq ["self","place"] ["self","place"] (aj uL):=aI
abbrev rV:T4:=top 107
theorem iZ:aq ["_law_word","_law_number","_law_found","_law_due","_law_k","_law_least"] ["_law_word","_law_number"] (aj rV):=aI
abbrev rR:T4:=top 56
theorem GD:aq [] [] (aj rR):=aI
abbrev tM:T4:=top 99
theorem Lz:aq ["_law_word"] ["_law_word"] (aj tM):=aI
abbrev tW:T4:=top 106
theorem ke:aq ["_law_word","_law_k","_law_words_here","_law_names"] ["_law_word"] (aj tW):=aI
abbrev lE:T4:=top 102
theorem vE:aq ["_law_word","_law_draw","_law_some"] ["_law_word","_law_draw"] (aj lE):=aI
abbrev tD:T4:=top 21
theorem kl:aq ["size","share","k"] ["size"] (aj tD):=aI
abbrev xW:T4:=inClass (top 25) 4
theorem Oc:aq ["self","size"] ["self","size"] (aj xW):=aI
abbrev tP:T4:=top 22
theorem j8:aq ["size","product","factor"] ["size"] (aj tP):=aI
abbrev yS:T4:=inClass (top 31) 3
theorem Ny:aq ["self","size"] ["self","size"] (aj yS):=aI
abbrev sV:T4:=inClass (top 24) 6
theorem IQ:aq ["self","size"] ["self","size"] (aj sV):=aI
abbrev tQ:T4:=inClass (top 49) 3
theorem Mv:aq ["self"] ["self"] (aj tQ):=aI
abbrev tq:T4:=inClass (top 50) 3
theorem Hk:aq ["self"] ["self"] (aj tq):=aI
abbrev tm:T4:=inClass (top 52) 3
theorem Mx:aq ["self"] ["self"] (aj tm):=aI
abbrev uW:T4:=inClass (top 27) 3
theorem JZ:aq ["self"] ["self"] (aj uW):=aI
abbrev t9:T4:=inClass (top 28) 3
theorem MC:aq ["self"] ["self"] (aj t9):=aI
abbrev tF:T4:=inClass (top 40) 3
theorem Hx:aq ["self"] ["self"] (aj tF):=aI
abbrev uA:T4:=inClass (top 44) 3
theorem Lw:aq ["self"] ["self"] (aj uA):=aI
abbrev xT:T4:=inClass (top 25) 8
theorem Ow:aq ["self","counts","size","number","left_size","rest","right_size","left","right"] ["self","counts","size","number"] (aj xT):=aI
abbrev oN:T4:=top 20
theorem lQ:aq ["most","found","k"] ["most"] (aj oN):=aI
abbrev yX:T4:=inClass (top 25) 6
theorem NF:aq ["self","size","number"] ["self","size","number"] (aj yX):=aI
abbrev rn:T4:=inClass (top 33) 4
theorem MP:aq ["self","code"] ["self","code"] (aj rn):=aI
abbrev sN:T4:=inClass (top 37) 4
theorem fV:aq ["self","code","written","there","elders","place","elder","taken"] ["self","code"] (aj sN):=aI
abbrev uV:T4:=inClass (top 35) 4
theorem iV:aq ["self","code","ring","wishes","step"] ["self","code"] (aj uV):=aI
abbrev uY:T4:=top 32
theorem iL:aq ["number","base","length","figures","rest","place"] ["number","base","length"] (aj uY):=aI
abbrev zg:T4:=inClass (top 31) 5
theorem OI:aq ["self","size","number"] ["self","size","number"] (aj zg):=aI
abbrev tO:T4:=inClass (top 24) 9
theorem wM:aq ["self","size","number","most"] ["self","size","number"] (aj tO):=aI
abbrev gM:T4:=top 108
theorem dQ:aq ["_law_script","_law_good","_law_word","_law_name","_law_kin","_law_due","_law_bad"] ["_law_script"] (aj gM):=aI
def tR(K:KB)(ca:aC)(er:Nat->GM)(i:Nat):Sp:=fun vs H Q E=>∃(w:Str),vs=[.str w]/\w∉eY/\∀H',af H H'->E (.ref (er 4)) none H'
def bx(K:KB)(ca:aC)(i:Nat):Sp:=fun vs H Q _=>∃(x:GM)(v:V)(b:Bool),vs=[.ref x,v]/\IsT i H v b/\∀H',af H H'->Q (.bl b) H'
noncomputable def pj(k:Nat):Nat:=pick 0 [0,0,0,1,1,1,2,2,2,3,3,3,4,4,5,5,6,6,6,7,7,8,8,9,9] k
noncomputable def Qs:List (List Str):=[["peaks","returns","height"],["peaks","returns","height"],["peaks","returns","height"],["peaks","returns","height"],["peaks","returns"],["peaks","returns"],["peaks","returns","height"],["leaves","rootage"],["leaves","rootage"],["leaves","rootage"]]
def cq(i:Nat):List Str:=pick [] Qs i
noncomputable def Ry:List (List (Str×Nat)):=[[("peaks",0),("returns",1),("height",2)],[("peaks",3),("returns",4),("height",5)],[("peaks",6),("returns",7),("height",8)],[("peaks",9),("returns",10),("height",11)],[("peaks",12),("returns",13)],[("peaks",14),("returns",15)],[("peaks",16),("returns",17),("height",18)],[("leaves",19),("rootage",20)],[("leaves",21),("rootage",22)],[("leaves",23),("rootage",24)]]
def KP(i:Nat):List (Str×Nat):=pick [] Ry i
noncomputable def cK(ca:aC)(k:Nat):GM:=ca.f (pick 0 [51,50,49,47,46,45,44,43,42,41,40,39,37,36,34,33,30,29,28,27,26,25,24,23,21] k)
def aN(K:KB)(ca:aC)(i:Nat):Sp:=fun vs H Q _=>∃(v:V),vs=[v]/\OJ (pj i) H v/\∀H',af H H'->Q (.int (bq (pj i))) H'
def c7(K:KB)(ca:aC)(i:Nat):Sp:=fun vs H Q _=>∃(x:GM),vs=[.ref x,.int (bq i)]/\∀H',af H H'->Q (.int 1) H'
def cA(K:KB)(ca:aC)(i:Nat):Sp:=fun vs H Q _=>∃x:GM,vs=[.ref x]/\∀(v:V)(H':Hp),af H H'->Rp H H' (eF i) v->Q v H'
def dN(K:KB)(ca:aC)(i:Nat):Sp:=fun vs H Q _=>∃(x dx:GM)(fs:List (Str×V))(w:Str)(l:GM),vs=[.ref x,.ref l]/\H x=some (.ins (ca.C (i+7)) dx fs)/\b8 fs w 1/\H l=some (.lst [])/\∀(v:V)(H':Hp),af H H'->Rp H H' (eF (i+7)) v->Q v H'
def gC(K:KB)(ca:aC)(i:Nat):Sp:=fun vs H Q _=>∃(x dx:GM)(fs:List (Str×V))(w:Str),vs=[.ref x,.int (bq i),.int 0]/\H x=some (.ins (ca.C i) dx fs)/\b8 fs w (bq i)/\∀(v:V)(H':Hp),af H H'->Rp H H' (eF i) v->Q v H'
def Jx(K:KB)(ca:aC):Sp:=fun vs H Q _=>vs=[]/\∀(p:GM)(H':Hp),af H H'->H p=none->H' p=some (.lst (eY.map V.str))->Q (.ref p) H'
def LG(K:KB)(_:aC):Sp:=fun vs H Q _=>∃(a:GM)(ns:List Int)(k:Int),vs=[.ref a,.int k]/\ao K H a (ns.map V.int)/\0<=k/\Q (.int (ns.getD k.toNat 0)) H
def JY(K:KB)(_:aC):Sp:=fun vs H Q _=>∃(a:GM)(ns:List Int)(t m:Int),vs=[.ref a,.int t,.int m]/\ao K H a (ns.map V.int)/\ns.length<=63/\0<=t/\t<=1000/\0<=m/\m<=1000/\∀(p:GM)(xs:List Int)(H':Hp),af H H'->H p=none->H' p=some (.lst (xs.map V.int))->xs.length=m.toNat->(∀x∈xs,0<=x/\x<2147483587)->Q (.ref p) H'
theorem N8:((AC " !\"#$&'()*+,-./0123456789:;<=>?@ABCDEFGHIJKLMNOPQRSTUVWXYZ[\\]^_`")++(AC "abcdefghijklmnopqrstuvwxyz{|}~")).length=94:=by decide+kernel
def Ik(K:KB)(_:aC):Sp:=fun vs H Q _=>∃(n:Int),vs=[.int n]/\∀x:Str,x.length<=1->Q (.str x) H
theorem E1(a b c d:Str)(i:Int):∃y:Str,eS [V.str a,V.str b,V.str c,V.str d] (i%4)=some (.str y):=by
 have a0:=TJ i (show(4:Int)≠0 by decide);have a1:=Tx i (show(0:Int)<4 by decide);rcases(by lia:i%4=0\/i%4=1\/i%4=2\/i%4=3)with e|e|e|e<;>rw[e];·exact⟨a,rfl⟩
 ·exact⟨b,rfl⟩
 ·exact⟨c,rfl⟩
 ·exact⟨d,rfl⟩
def K0(K:KB)(_:aC):Sp:=fun vs H Q _=>∃(a:GM)(ns:List Int)(t:Int)(x:Str),vs=[.ref a,.int t,.str x]/\ao K H a (ns.map V.int)/\ns.length<=63/\0<=t/\t<=1000/\x.length<=100/\∀(y:Str)(H':Hp),af H H'->Q (.str y) H'
def N6(K:KB)(ca:aC):Sp:=fun vs H Q _=>∃(x dx c:GM)(w:Str)(l:Int),vs=[.ref x,.str w,.int l]/\H x=some (.ins c dx [])/\Cls K c/\NoAttr K c "word"/\NoAttr K c "least"/\∀(fs:List (Str×V))(H':Hp),H'=upd H x (.ins c dx fs)->b8 fs w l->Q .non H'
def Ox(K:KB)(ca:aC):Sp:=fun vs H Q _=>∃(x dx c:GM)(w:Str),vs=[.ref x,.str w]/\H x=some (.ins c dx [])/\Cls K c/\NoAttr K c "word"/\NoAttr K c "least"/\∀(fs:List (Str×V))(H':Hp),H'=upd H x (.ins c dx fs)->b8 fs w 0->Q .non H'
def Jz(_:KB)(ca:aC):Sp:=fun vs H Q _=>∃x dx,vs=[.ref x]/\H x=some (.ins (ca.C 6) dx [])/\∀(fs:List (Str×V))(H':Hp),H'=upd H x (.ins (ca.C 6) dx fs)->b8 fs (wd 6) (bq 6)->Q .non H'
def MI(_:KB)(ca:aC):Sp:=fun vs H Q _=>∃x dx,vs=[.ref x]/\H x=some (.ins (ca.C 5) dx [])/\∀(fs:List (Str×V))(H':Hp),H'=upd H x (.ins (ca.C 5) dx fs)->b8 fs (wd 5) (bq 5)->Q .non H'
def HE(_:KB)(ca:aC):Sp:=fun vs H Q _=>∃x dx,vs=[.ref x]/\H x=some (.ins (ca.C 4) dx [])/\∀(fs:List (Str×V))(H':Hp),H'=upd H x (.ins (ca.C 4) dx fs)->b8 fs (wd 4) (bq 4)->Q .non H'
def JA(_:KB)(ca:aC):Sp:=fun vs H Q _=>∃x dx,vs=[.ref x]/\H x=some (.ins (ca.C 3) dx [])/\∀(fs:List (Str×V))(H':Hp),H'=upd H x (.ins (ca.C 3) dx fs)->b8 fs (wd 3) (bq 3)->Q .non H'
def Hi(_:KB)(ca:aC):Sp:=fun vs H Q _=>∃x dx,vs=[.ref x]/\H x=some (.ins (ca.C 2) dx [])/\∀(fs:List (Str×V))(H':Hp),H'=upd H x (.ins (ca.C 2) dx fs)->b8 fs (wd 2) (bq 2)->Q .non H'
def JJ(_:KB)(ca:aC):Sp:=fun vs H Q _=>∃x dx,vs=[.ref x]/\H x=some (.ins (ca.C 1) dx [])/\∀(fs:List (Str×V))(H':Hp),H'=upd H x (.ins (ca.C 1) dx fs)->b8 fs (wd 1) (bq 1)->Q .non H'
def OA(_:KB)(ca:aC):Sp:=fun vs H Q _=>∃x dx,vs=[.ref x]/\H x=some (.ins (ca.C 0) dx [])/\∀(fs:List (Str×V))(H':Hp),H'=upd H x (.ins (ca.C 0) dx fs)->b8 fs (wd 0) (bq 0)->Q .non H'
def G3(ca:aC):List (Str×GM×Int):=[(wd 0,ca.C 0,bq 0),(wd 1,ca.C 1,bq 1),(wd 2,ca.C 2,bq 2),(wd 3,ca.C 3,bq 3),(wd 4,ca.C 4,bq 4),(wd 5,ca.C 5,bq 5),(wd 6,ca.C 6,bq 6)]
def Iw(K:KB)(ca:aC):Sp:=fun vs H Q _=>vs=[]/\∀(p:GM)(xs:List V)(H':Hp),af H H'->H p=none->H' p=some (.lst xs)->TY (c6 H') xs (G3 ca)->Q (.ref p) H'
def NR(K:KB)(ca:aC):Sp:=fun vs H Q _=>∃(x dx c:GM)(w:Str),vs=[.ref x,.str w]/\H x=some (.ins c dx [])/\Cls K c/\NoAttr K c "word"/\NoAttr K c "least"/\∀(fs:List (Str×V))(H':Hp),H'=upd H x (.ins c dx fs)->b8 fs w 1->Q .non H'
def L8(_:KB)(ca:aC):Sp:=fun vs H Q _=>∃x dx,vs=[.ref x]/\H x=some (.ins (ca.C 9) dx [])/\∀(fs:List (Str×V))(H':Hp),H'=upd H x (.ins (ca.C 9) dx fs)->b8 fs (wd 9) (bq 9)->Q .non H'
def Lr(_:KB)(ca:aC):Sp:=fun vs H Q _=>∃x dx,vs=[.ref x]/\H x=some (.ins (ca.C 8) dx [])/\∀(fs:List (Str×V))(H':Hp),H'=upd H x (.ins (ca.C 8) dx fs)->b8 fs (wd 8) (bq 8)->Q .non H'
def MO(_:KB)(ca:aC):Sp:=fun vs H Q _=>∃x dx,vs=[.ref x]/\H x=some (.ins (ca.C 7) dx [])/\∀(fs:List (Str×V))(H':Hp),H'=upd H x (.ins (ca.C 7) dx fs)->b8 fs (wd 7) (bq 7)->Q .non H'
def Ky(ca:aC):List (Str×GM×Int):=[(wd 7,ca.C 7,bq 7),(wd 8,ca.C 8,bq 8),(wd 9,ca.C 9,bq 9)]
def JN(K:KB)(ca:aC):Sp:=fun vs H Q _=>vs=[]/\∀(p:GM)(xs:List V)(H':Hp),af H H'->H p=none->H' p=some (.lst xs)->TY (c6 H') xs (Ky ca)->Q (.ref p) H'
def za(ca:aC):List (Str×GM×Int):=G3 ca++Ky ca
theorem rj(ca:aC):∀i,i<10->(za ca)[i]?=some (wd i,ca.C i,bq i):=aT.get (n:=10) ⟨⟨⟨⟨⟨⟨⟨⟨⟨⟨trivial,rfl⟩,rfl⟩,rfl⟩,rfl⟩,rfl⟩,rfl⟩,rfl⟩,rfl⟩,rfl⟩,rfl⟩
theorem ko:∀i,i<10->eY[i]?=some (wd i):=aT.get (n:=10) ⟨⟨⟨⟨⟨⟨⟨⟨⟨⟨trivial,rfl⟩,rfl⟩,rfl⟩,rfl⟩,rfl⟩,rfl⟩,rfl⟩,rfl⟩,rfl⟩,rfl⟩
theorem Ma:eY.Nodup:=by decide+kernel
theorem wB{i j:Nat}(hi:i<10)(hj:j<10)(e:wd i=wd j):i=j:=by have a:=ko i hi;have b:=ko j hj;rw[e,<-b]at a;exact(W5 (by exact hi) Ma).mp a
def GV(K:KB)(ca:aC)(er:Nat->GM):Sp:=fun vs H Q E=>∃(w:Str),vs=[.str w]/\((∃i,i<10/\w=wd i/\∀(x dx:GM)(fs:List (Str×V))(H':Hp),af H H'->H' x=some (.ins (ca.C i) dx fs)->b8 fs (wd i) (bq i)->Q (.ref x) H')\/(w∉eY/\∀H',af H H'->E (.ref (er 4)) none H'))
def Ih(K:KB)(ca:aC):Sp:=aN K ca 24
def IM(K:KB)(_:aC):Sp:=fun vs H Q _=>∃(l m:GM)(ns ms:List Int),vs=[.ref l,.ref m]/\H l=some (.lst (ns.map V.int))/\H m=some (.lst (ms.map V.int))/\ns.length<=1000/\∀H',af H H'->Q (.int ((frees ms ns).length:Nat)) H'
def K2(K:KB)(ca:aC):Sp:=aN K ca 23
def Mq(K:KB)(ca:aC):Sp:=aN K ca 22
def Gi(K:KB)(ca:aC):Sp:=aN K ca 21
def KJ(K:KB)(ca:aC):Sp:=aN K ca 20
def Kf(K:KB)(ca:aC):Sp:=aN K ca 19
def Gr(K:KB)(ca:aC):Sp:=aN K ca 18
def Mr(K:KB)(ca:aC):Sp:=aN K ca 17
def HM(K:KB)(ca:aC):Sp:=aN K ca 16
def Ij(K:KB)(ca:aC):Sp:=fun vs _ _ _=>∃a b c:V,vs=[a,b,c]/\False
def GH(K:KB)(ca:aC):Sp:=fun vs H Q _=>∃(t l:GM),vs=[.ref t]/\H t=some (.tup [.int 2,.ref l])/\∀(p:GM)(H':Hp),af H H'->H' p=some (.lst [])->Q (.ref p) H'
def JI(K:KB)(ca:aC):Sp:=aN K ca 15
def GO(K:KB)(ca:aC):Sp:=aN K ca 14
def He(K:KB)(ca:aC):Sp:=fun vs _ _ _=>∃a b:V,vs=[a,b]/\False
def Gw(K:KB)(ca:aC):Sp:=aN K ca 13
def MH(K:KB)(ca:aC):Sp:=aN K ca 12
def FU(K:KB)(ca:aC):Sp:=fun vs _ _ _=>∃a b:V,vs=[a,b]/\False
def GZ(K:KB)(ca:aC):Sp:=aN K ca 11
def IH(K:KB)(ca:aC):Sp:=aN K ca 10
def Jw(K:KB)(ca:aC):Sp:=aN K ca 9
def Gp(K:KB)(ca:aC):Sp:=aN K ca 8
def Kp(K:KB)(ca:aC):Sp:=aN K ca 7
def Nq(K:KB)(ca:aC):Sp:=aN K ca 6
def L5(K:KB)(ca:aC):Sp:=aN K ca 5
def MW(K:KB)(ca:aC):Sp:=aN K ca 4
def JR(K:KB)(ca:aC):Sp:=aN K ca 3
def DU(K:KB)(ca:aC):Sp:=fun vs H Q _=>vs=[.str ""]/\∀(p:GM)(H':Hp),af H H'->H' p=some (.lst (([]:List Int).map V.int))->Q (.ref p) H'
def Jr(K:KB)(ca:aC):Sp:=aN K ca 2
def MB(K:KB)(ca:aC):Sp:=aN K ca 1
def KG(K:KB)(ca:aC):Sp:=aN K ca 0
def gU(ca:aC):List (Str×List (Str×GM)):=[(wd 0,[("peaks",cK ca 0),("returns",cK ca 1),("height",cK ca 2)]),(wd 1,[("peaks",cK ca 3),("returns",cK ca 4),("height",cK ca 5)]),(wd 2,[("peaks",cK ca 6),("returns",cK ca 7),("height",cK ca 8)]),(wd 3,[("peaks",cK ca 9),("returns",cK ca 10),("height",cK ca 11)]),(wd 4,[("peaks",cK ca 12),("returns",cK ca 13)]),(wd 5,[("peaks",cK ca 14),("returns",cK ca 15)]),(wd 6,[("peaks",cK ca 16),("returns",cK ca 17),("height",cK ca 18)]),(wd 7,[("leaves",cK ca 19),("rootage",cK ca 20)]),(wd 8,[("leaves",cK ca 21),("rootage",cK ca 22)]),(wd 9,[("leaves",cK ca 23),("rootage",cK ca 24)])]
def u4:List (Str×List Str):=[(wd 0,cq 0),(wd 1,cq 1),(wd 2,cq 2),(wd 3,cq 3),(wd 4,cq 4),(wd 5,cq 5),(wd 6,cq 6),(wd 7,cq 7),(wd 8,cq 8),(wd 9,cq 9)]
def Dx:List (Str×List (Str×Str)):=[(wd 0,[("peaks","brackets_peaks"),("returns","brackets_returns"),("height","brackets_height")]),(wd 1,[("peaks","stairs_peaks"),("returns","stairs_returns"),("height","stairs_height")]),(wd 2,[("peaks","twins_peaks"),("returns","twins_returns"),("height","twins_height")]),(wd 3,[("peaks","bows_peaks"),("returns","bows_returns"),("height","bows_height")]),(wd 4,[("peaks","rooms_peaks"),("returns","rooms_returns")]),(wd 5,[("peaks","floor_peaks"),("returns","floor_returns")]),(wd 6,[("peaks","turns_peaks"),("returns","turns_returns"),("height","turns_height")]),(wd 7,[("leaves","codes_leaves"),("rootage","codes_rootage")]),(wd 8,[("leaves","trees_leaves"),("rootage","trees_rootage")]),(wd 9,[("leaves","cars_leaves"),("rootage","cars_rootage")])]
theorem jB(ca:aC):(gU ca).map (fun r=>(r.1,r.2.map (·.1)))=u4:=rfl
theorem pM:(∀r∈u4,r.2.Nodup/\r.2.length<=15)/\(u4.map (·.1)).Nodup:=by decide+kernel
theorem oG(ca:aC):(∀r∈gU ca,(r.2.map (·.1)).Nodup/\r.2.length<=15)/\((gU ca).map (·.1)).Nodup:=by
 refine⟨fun r hr=>?_,?_⟩
 ·have:=pM.1 (r.1,r.2.map (·.1)) (by rw[<-jB ca];exact Uw.mpr ⟨r,hr,rfl⟩)
  rw[FS]at this;exact this
 ·have:=pM.2
  rw[<-jB ca,Uc]at this;exact this
def MV(K:KB)(ca:aC):Sp:=fun vs H Q _=>vs=[]/\∀(p:GM)(H':Hp),af H H'->H p=none->rJ H' p (gU ca)->Q (.ref p) H'
def KW(ca:aC)(i:Nat):List (Str×GM):=(KP i).map fun x=>(x.1,cK ca x.2)
theorem qy(ca:aC):∀i,i<10->(gU ca).lookup (wd i)=some (KW ca i):=aT.get (n:=10) ⟨⟨⟨⟨⟨⟨⟨⟨⟨⟨trivial,rfl⟩,rfl⟩,rfl⟩,rfl⟩,rfl⟩,rfl⟩,rfl⟩,rfl⟩,rfl⟩,rfl⟩
theorem wK(ca:aC):∀i,i<10->(KW ca i).map (·.1)=cq i:=aT.get (n:=10) ⟨⟨⟨⟨⟨⟨⟨⟨⟨⟨trivial,rfl⟩,rfl⟩,rfl⟩,rfl⟩,rfl⟩,rfl⟩,rfl⟩,rfl⟩,rfl⟩,rfl⟩
def M0(K:KB)(ca:aC)(er:Nat->GM):Sp:=fun vs H Q E=>∃(w:Str),vs=[.str w]/\((∃i,i<10/\w=wd i/\∀(p:GM)(H':Hp),af H H'->H p=none->H' p=some (.lst ((cq i).map V.str))->Q (.ref p) H')\/(w∉eY/\∀H',af H H'->E (.ref (er 4)) none H'))
def Nk(_:KB)(_:aC)(er:Nat->GM):Sp:=fun vs H Q _=>∃(e:GM)(n:Nat)(t:Str),vs=[.ref e]/\H e=some (dC e (.ref (er n)))/\((n=4/\t=AC "family")\/(n=7/\t=AC "mark")\/(n=3/\t=AC "thing"))/\∀(p:GM)(H':Hp),af H H'->H p=none->H' p=some (.lst [.str t])->Q (.ref p) H'
def GR(K:KB)(ca:aC)(er:Nat->GM):Sp:=fun vs H Q _=>∃(w:Str)(k:Int),vs=[.str w,.int k]/\w∉eY/\(k=0\/k=1)/\∀(p:GM)(H':Hp),af H H'->H p=none->H' p=some (.lst [.str (AC "family")])->Q (.ref p) H'
def MT(_:KB)(_:aC):Sp:=fun vs H Q _=>∃x:Str,vs=[.str x]/\Q (.bl (dF 0 x.cps.toList)) H
def FN(K:KB)(ca:aC):Sp:=bx K ca 0
def Ln(K:KB)(ca:aC):Sp:=bx K ca 1
def K9(K:KB)(ca:aC):Sp:=bx K ca 2
def Iv(K:KB)(_:aC):Sp:=fun vs H Q _=>∃(l:GM)(ns:List Int),vs=[.ref l]/\H l=some (.lst (ns.map V.int))/\ns.length<64/\∀H',af H H'->Q (.bl (cc ns)) H'
def Er(K:KB)(_:aC):Sp:=fun vs H Q _=>∃(l:GM),vs=[.ref l]/\((∃(ps:List Pair),eE H l ps/\ps.length<=1000/\∀(p:GM)(H':Hp),af H H'->H p=none->H' p=some (.lst ((bU ps).map V.int))->Q (.ref p) H')\/(∃(bs:List GM)(xss:List (List V)),H l=some (.lst (bs.map V.ref))/\cJ H bs xss/\xss.flatten.length<=1000/\∀(p:GM)(H':Hp),af H H'->H p=none->H' p=some (.lst xss.flatten)->Q (.ref p) H'))
def Ii(K:KB)(_:aC):Sp:=fun vs H Q _=>∃(l:GM)(ps:List Pair),vs=[.ref l]/\eE H l ps/\Q (.bl (cW ps)) H
def Hd(K:KB)(ca:aC):Sp:=bx K ca 3
def Lv(K:KB)(_:aC):Sp:=fun vs H Q _=>∃(l:GM)(H0:Hp)(rs:List (List Int)),vs=[.ref l]/\cP H0 H l rs/\rs.length<=100/\rs.flatten.length<=1000/\∀(p:GM)(H':Hp),af H H'->H p=none->eE H' p (jz rs)->Q (.ref p) H'
def FA(K:KB)(ca:aC):Sp:=bx K ca 4
def IF(K:KB)(_:aC):Sp:=fun vs H Q _=>∃(c a b:Int),vs=[.int c,.int a,.int b]/\∀H',af H H'->Q (.bl (gx c (a,b))) H'
def Nr(K:KB)(ca:aC):Sp:=bx K ca 5
def Je(K:KB)(_:aC):Sp:=fun vs H Q _=>∃(l:GM)(ns:List Int),vs=[.ref l]/\H l=some (.lst (ns.map V.int))/\ns.length<64/\cc ns=true/\∀H',af H H'->Q (.bl (j6 ns)) H'
def Kj(K:KB)(ca:aC):Sp:=bx K ca 6
def GX(K:KB)(ca:aC):Sp:=bx K ca 7
def Ha(K:KB)(_:aC):Sp:=fun vs H Q _=>∃(l:GM)(es:List Int)(r:Int),vs=[.ref l,.int r]/\ao K H l (es.map V.int)/\es.length<=1000/\inR es=true/\0<=r/\r<=(es.length:Int)/\Q (.bl (decide (iU es es.length r=0))) H
def Nn(K:KB)(ca:aC):Sp:=bx K ca 8
def GW(K:KB)(ca:aC):Sp:=bx K ca 9
def N1(K:KB)(ca:aC)(er:Nat->GM):Sp:=fun vs H Q E=>∃(fw:Nat),fw<10/\∃(x dx:GM)(fs:List (Str×V))(w:Str)(l:Int)(v:V)(b:Bool),vs=[.ref x,v]/\H x=some (.ins (ca.C fw) dx fs)/\b8 fs w l/\IsT fw H v b/\(b=true->∀H',af H H'->Q .non H')/\(b=false->∀H',af H H'->E (.ref (er 3)) none H')
theorem HD:∀i,i<10->((cq i).all fun n=>match(KP i).lookup n with|some k=>decide (k<25)&&decide (pj k=i)|none=>false)=true:=aT.get (n:=10) (by simp only[aT];decide+kernel)
theorem kH{g:Nat->GM}{n:Str}{k:Nat}:∀{l:List (Str×Nat)},l.lookup n=some k->(l.map fun x=>(x.1,g x.2)).lookup n=some (g k)
 | [],h=>by cases h
 |x::l,h=>by rw[SQ,Uv];rw[Uv]at h;cases e:(n==x.1)with
  |true=>rw[e]at h;cases h;rfl
  |false=>rw[e]at h;exact kH h
theorem NG(ca:aC){i:Nat}(hi:i<10){n:Str}(hn:n∈cq i):∃k,k<25/\pj k=i/\(KW ca i).lookup n=some (cK ca k):=by have h:=SS.mp (HD i hi) n hn;cases e:(KP i).lookup n with
 |none=>rw[e]at h;cases h
 |some k=> rw[e]at h;have h:(decide (k<25)&&decide (pj k=i))=true:=h;rw[On,decide_eq_true_iff,decide_eq_true_iff]at h;exact⟨k,h.1,h.2,kH e⟩
def Ej(K:KB)(ca:aC)(er:Nat->GM):Sp:=fun vs H Q E=>∃(w n:Str)(v:V),vs=[.str w,.str n,v]/\((w∉eY/\∀H',af H H'->E (.ref (er 4)) none H')\/(∃i,i<10/\w=wd i/\((n∉cq i/\∀H',af H H'->E (.ref (er 7)) none H')\/(n∈cq i/\IsT i H v false/\∀H',af H H'->E (.ref (er 3)) none H')\/(n∈cq i/\R0 H (eF i) v/\∀H',af H H'->Q (.int (bq i)) H'))))
def Gg(K:KB)(ca:aC)(er:Nat->GM):Sp:=fun vs H Q _=>∃(w n:Str)(v:V)(t:Str),vs=[.str w,.str n,v]/\((w∉eY/\t=AC "family")\/(∃i,i<10/\w=wd i/\((n∉cq i/\t=AC "mark")\/(n∈cq i/\t=AC "thing"/\IsT i H v false))))/\∀(p:GM)(H':Hp),af H H'->H p=none->H' p=some (.lst [.str t])->Q (.ref p) H'
def LH(K:KB)(_:aC)(er:Nat->GM):Sp:=fun vs H Q _=>∃(e:GM)(k:Int),vs=[.ref e,.int k]/\0<=k/\k<=1000/\H e=some (dD e (.ref (er 9)) none)/\∀d,H d=none->Q .non (upd (upd H d (.xd [("place",.int k)])) e (dD e (.ref (er 9)) (some d)))
def FJ(K:KB)(ca:aC):Sp:=fun vs H Q _=>∃(w:Str)(k:Int),vs=[.str w,.int k]/\0<=k/\k<=1000/\∀H',af H H'->Q (.bl true) H'
def Na(K:KB)(ca:aC):Sp:=fun vs H Q _=>vs=[]/\∀(p:GM)(H':Hp),af H H'->H p=none->H' p=some (.lst (eY.map V.str))->Q (.ref p) H'
theorem OK:∀i,i<10->jD (.str (wd i)) [V.str (AC "codes"),V.str (AC "trees"),V.str (AC "cars")]=decide (7<=i):=aT.get (n:=10) (by simp only[aT];decide+kernel)
theorem RT:∀i,i<10->jD (.str (wd i)) [V.str (AC "rooms"),V.str (AC "floor")]=(decide (i=4)||decide (i=5)):=aT.get (n:=10) (by simp only[aT];decide+kernel)
theorem M5:∀i,i<10->cq i=if 7<=i then[AC "leaves",AC "rootage"]else if(decide (i=4)||decide (i=5))=true then[AC "peaks",AC "returns"]else[AC "peaks",AC "returns",AC "height"]:=aT.get (n:=10) (by simp only[aT];decide+kernel)
def Nj(K:KB)(ca:aC):Sp:=fun vs H Q _=>∃i,vs=[.str (wd i)]/\i<10/\∀(p:GM)(H':Hp),af H H'->H p=none->H' p=some (.lst ((cq i).map V.str))->Q (.ref p) H'
theorem jY(xs:List Str):eZ (xs.map V.str) (xs.map V.str)=true:=by induction xs with
 |nil=>rfl
 |cons x xs ih=> show(dB (.str x) (.str x)&&eZ (xs.map V.str) (xs.map V.str))=true;rw[ih,DN];rfl
theorem dk(xs:List Str):(xs.map V.str).all cC=true:=by induction xs with
 |nil=>rfl
 |cons x xs ih=>exact ih
def Nu(K:KB)(ca:aC):Sp:=fun vs H Q _=>∃i,vs=[.str (wd i)]/\i<10/\∀H',af H H'->Q (.bl true) H'
def OQ:List (Str×List Lt):=[(wd 0,eC 0),(wd 1,eC 1),(wd 3,eC 3),(wd 4,eC 4),(wd 5,eC 5),(wd 6,eC 6),(wd 7,eC 7),(wd 8,eC 8),(wd 9,eC 9)]
theorem D0:∀i,i<10->i≠2->OQ.lookup (wd i)=some (eC i):=aT.get (n:=10) ⟨⟨⟨⟨⟨⟨⟨⟨⟨⟨trivial,fun _=>rfl⟩,fun _=>rfl⟩,fun z=>absurd rfl z⟩,fun _=>rfl⟩,fun _=>rfl⟩,fun _=>rfl⟩,fun _=>rfl⟩,fun _=>rfl⟩,fun _=>rfl⟩,fun _=>rfl⟩
theorem xM:∀i,i<10->i≠2->(eC i).length=6:=aT.get (n:=10) ⟨⟨⟨⟨⟨⟨⟨⟨⟨⟨trivial,fun _=>rfl⟩,fun _=>rfl⟩,fun z=>absurd rfl z⟩,fun _=>rfl⟩,fun _=>rfl⟩,fun _=>rfl⟩,fun _=>rfl⟩,fun _=>rfl⟩,fun _=>rfl⟩,fun _=>rfl⟩
theorem Em:IL (bI lE)=some OQ:=by kernel_rfl
def FE(K:KB)(ca:aC):Sp:=fun vs H Q _=>∃(i:Nat)(d:Int),vs=[.str (wd i),.int d]/\i<10/\i≠2/\∀(t:Lt)(v:V)(H':Hp),(eC i)[(d%6).toNat]?=some t->af H H'->Rp H H' t v->Q v H'
def LK(K:KB)(_:aC):Sp:=fun vs H Q _=>vs=[.int 0]/\Q (.int 1) H
def NW(K:KB)(ca:aC):Sp:=c7 K ca 0
def Ls(K:KB)(_:aC):Sp:=fun vs H Q _=>vs=[.int 1]/\∀H',af H H'->Q (.int 1) H'
def Ol(K:KB)(ca:aC):Sp:=c7 K ca 7
theorem E7(i:Nat):0<=bq i/\bq i<=1:=by unfold bq;split<;>decide
def Iu(K:KB)(ca:aC):Sp:=fun vs H Q _=>∃(fw:Nat),fw<10/\∃(x dx:GM)(fs:List (Str×V))(w:Str),vs=[.ref x,.int (bq fw)]/\H x=some (.ins (ca.C fw) dx fs)/\b8 fs w (bq fw)/\∀H',af H H'->Q (.int 1) H'
def FK(K:KB)(ca:aC):Sp:=cA K ca 0
def JQ(K:KB)(ca:aC):Sp:=cA K ca 1
def Gx(K:KB)(ca:aC):Sp:=cA K ca 2
def G8(K:KB)(ca:aC):Sp:=cA K ca 3
def Ip(K:KB)(ca:aC):Sp:=cA K ca 4
def FC(K:KB)(ca:aC):Sp:=cA K ca 5
def ME(K:KB)(ca:aC):Sp:=cA K ca 6
def NK(K:KB)(ca:aC):Sp:=fun vs H Q _=>∃(fw:Nat),fw<7/\∃(x dx:GM)(fs:List (Str×V))(w:Str)(c:V),vs=[.ref x,c,.int 0,.int 0]/\H x=some (.ins (ca.C fw) dx fs)/\b8 fs w 0/\∀(v:V)(H':Hp),af H H'->Rp H H' (eF fw) v->Q v H'
def Fi(K:KB)(_:aC):Sp:=fun vs H Q _=>vs=[.int 0]/\∀(p:GM)(H':Hp),af H H'->Q (.ref p) H'
def N9(K:KB)(ca:aC):Sp:=fun vs H Q _=>∃(fw:Nat),fw<7/\∃(x dx:GM)(fs:List (Str×V))(w:Str),vs=[.ref x,.int 0,.int 0]/\H x=some (.ins (ca.C fw) dx fs)/\b8 fs w 0/\∀(v:V)(H':Hp),af H H'->Rp H H' (eF fw) v->Q v H'
def GS(K:KB)(ca:aC):Sp:=dN K ca 0
def LA(K:KB)(ca:aC):Sp:=dN K ca 1
def KO(K:KB)(ca:aC):Sp:=dN K ca 2
def Hn(K:KB)(_:aC):Sp:=fun vs H Q _=>vs=[.int 0,.int 2,.int 0]/\∀(p:GM)(H':Hp),af H H'->H' p=some (.lst [])->Q (.ref p) H'
def Nz(K:KB)(ca:aC):Sp:=fun vs H Q _=>∃(fw:Nat),fw<3/\∃(x dx:GM)(fs:List (Str×V))(w:Str),vs=[.ref x,.int 1,.int 0]/\H x=some (.ins (ca.C (fw+7)) dx fs)/\b8 fs w 1/\∀(v:V)(H':Hp),af H H'->Rp H H' (eF (fw+7)) v->Q v H'
def Le(K:KB)(ca:aC):Sp:=fun vs H Q _=>∃(fw:Nat),fw<10/\∃(x dx:GM)(fs:List (Str×V))(w:Str),vs=[.ref x,.int (bq fw),.int 0]/\H x=some (.ins (ca.C fw) dx fs)/\b8 fs w (bq fw)/\∀(v:V)(H':Hp),af H H'->Rp H H' (eF fw) v->Q v H'
theorem E5(c:Int):∃i:Nat,i<10/\eS (eY.map V.str) (c%10)=some (.str (wd i)):=by
 have a0:=TJ c (show(10:Int)≠0 by decide);have a1:=Tx c (show(0:Int)<10 by decide);generalize c%10=k at a0 a1|-;obtain⟨j,rfl⟩:∃j:Nat,k=(j:Int):=⟨_,(WH a0).symm⟩;have hj:j<10:=by lia
 refine⟨j,hj,gH ?_⟩;rw[Td,ko j hj];rfl
theorem JB:∀i,i<10->(wd i).length<=100:=aT.get (n:=10) (by simp only[aT];decide+kernel)
noncomputable def xl:List Str:=[AC "peaks",AC "returns",AC "height",AC "leaves",AC "rootage"]
theorem Fs(c:Int):∃y:Str,y.length<=100/\eS (xl.map V.str) (c%5)=some (.str y):=by
 have a0:=TJ c (show(5:Int)≠0 by decide);have a1:=Tx c (show(0:Int)<5 by decide);generalize c%5=k at a0 a1|-;obtain⟨j,rfl⟩:∃j:Nat,k=(j:Int):=⟨_,(WH a0).symm⟩;have hj:j<xl.length:=by show j<5;lia
 refine⟨xl[j],(by decide+kernel:∀y∈xl,y.length<=100) _ (Vi hj),gH ?_⟩;rw[Td,Da hj];rfl
theorem HG{i:Nat}(hi:i<10)(h:i≠2):¬V.str (wd i)=V.str (AC "twins"):=fun z=>h (wB hi (by decide) (by injection z))
theorem ya(n:Str)(xs:List Str):jD (.str n) (xs.map V.str)=decide (n∈xs):=by induction xs with
 |nil=>rfl
 |cons x xs ih=>
  show(dB (.str x) (.str n)||jD (.str n) (xs.map V.str))=_;rw[ih];have e:dB (.str x) (.str n)=decide (n=x):=by
   show(x==n)=_;by_cases c:n=x;·rw[c,decide_eq_true rfl];exact beq_self_eq_true x
   ·rw[decide_eq_false c];exact beq_eq_false_iff_ne.mpr fun z=>c z.symm
  rw[e,TH,Vv,decide_eq_true_iff,decide_eq_true_iff,decide_eq_true_iff,GT]
theorem AA(i:Nat):bq i=if decide (7<=i)=true then 1 else 0:=by
 unfold bq;by_cases c:7<=i;·rw[if_neg (by lia),decide_eq_true c];rfl
 ·rw[if_pos (by lia),decide_eq_false c];rfl
def EI(K:KB)(ca:aC):Sp:=fun vs H Q _=>∃(a:GM)(ns:List Int),vs=[.ref a]/\ao K H a (ns.map V.int)/\ns.length<=63/\∀H',Q (.bl true) H'
section
variable(P:SK)(w:Tc)(K:KB)(mg:Str->Option Do)(base:Ux)(ca:aC)(er:Nat->GM)
abbrev Dm(n:Nat)(ps:List Str)(k:Nat)(sp:Sp):Prop:=du P w K mg base ps k sp (ca.f n) (ca.fd n)
abbrev Df(n:Nat)(x:Str)(ps:List Str)(k:Nat)(sp:Sp):Prop:=Def P w K mg base x ps k sp (ca.f n) (ca.fd n)
abbrev Dv(n:Nat)(ps:List Str)(k:Nat)(sp:Sp):Prop:=tZ P w K mg base ps k sp (ca.f n) (ca.fd n)
noncomputable def DL:List Prop:=[Df P w K mg base ca 0 "_law_words" [] 1 (Jx K ca),Df P w K mg base ca 1 "_law_cell_at" ["_law_script","_law_k"] 1 (LG K ca),Df P w K mg base ca 2 "_law_draws" ["_law_script","_law_turn","_law_many"] 1 (JY K ca),Df P w K mg base ca 3 "_law_sign" ["_law_draw"] 1 (Ik K ca),Df P w K mg base ca 4 "_law_text" ["_law_script","_law_turn","_law_text_here"] 2 (K0 K ca),Dm P w K mg base ca 5 ["self","word","least"] 1 (N6 K ca),Dm P w K mg base ca 6 ["self","word"] 3 (Ox K ca),Dm P w K mg base ca 7 ["self"] 5 (Jz K ca),Dm P w K mg base ca 8 ["self"] 5 (MI K ca),Dm P w K mg base ca 9 ["self"] 5 (HE K ca),Dm P w K mg base ca 10 ["self"] 5 (JA K ca),Dm P w K mg base ca 11 ["self"] 5 (Hi K ca),Dm P w K mg base ca 12 ["self"] 5 (JJ K ca),Dm P w K mg base ca 13 ["self"] 5 (OA K ca),Df P w K mg base ca 14 "split_families" [] 7 (Iw K ca),Dm P w K mg base ca 15 ["self","word"] 3 (NR K ca),Dm P w K mg base ca 16 ["self"] 5 (L8 K ca),Dm P w K mg base ca 17 ["self"] 5 (Lr K ca),Dm P w K mg base ca 18 ["self"] 5 (MO K ca),Df P w K mg base ca 19 "ring_families" [] 7 (JN K ca),Df P w K mg base ca 20 "family_of" ["word"] 8 (GV K ca er),Df P w K mg base ca 21 "cars_rootage" ["thing"] 1 (Ih K ca),Df P w K mg base ca 22 "missing" ["numbers","among"] 1 (IM K ca),Df P w K mg base ca 23 "cars_leaves" ["thing"] 2 (K2 K ca),Df P w K mg base ca 24 "trees_rootage" ["thing"] 1 (Mq K ca),Df P w K mg base ca 25 "trees_leaves" ["thing"] 2 (Gi K ca),Df P w K mg base ca 26 "codes_rootage" ["thing"] 1 (KJ K ca),Df P w K mg base ca 27 "codes_leaves" ["thing"] 2 (Kf K ca),Df P w K mg base ca 28 "turns_height" ["thing"] 1 (Gr K ca),Df P w K mg base ca 29 "turns_returns" ["thing"] 1 (Mr K ca),Df P w K mg base ca 30 "turns_peaks" ["thing"] 1 (HM K ca),Df P w K mg base ca 31 "third_corner" ["cuts","begin","end"] 1 (Ij K ca),Df P w K mg base ca 32 "triangles" ["thing"] 2 (GH K ca),Df P w K mg base ca 33 "floor_returns" ["thing"] 3 (JI K ca),Df P w K mg base ca 34 "floor_peaks" ["thing"] 3 (GO K ca),Df P w K mg base ca 35 "rooms_around" ["thing","room"] 1 (He K ca),Df P w K mg base ca 36 "rooms_returns" ["thing"] 2 (Gw K ca),Df P w K mg base ca 37 "rooms_peaks" ["thing"] 1 (MH K ca),Df P w K mg base ca 38 "bows_over" ["thing","bow"] 1 (FU K ca),Df P w K mg base ca 39 "bows_height" ["thing"] 2 (GZ K ca),Df P w K mg base ca 40 "bows_returns" ["thing"] 2 (IH K ca),Df P w K mg base ca 41 "bows_peaks" ["thing"] 1 (Jw K ca),Df P w K mg base ca 42 "twins_height" ["thing"] 1 (Gp K ca),Df P w K mg base ca 43 "twins_returns" ["thing"] 1 (Kp K ca),Df P w K mg base ca 44 "twins_peaks" ["thing"] 1 (Nq K ca),Df P w K mg base ca 45 "stairs_height" ["thing"] 1 (L5 K ca),Df P w K mg base ca 46 "stairs_returns" ["thing"] 1 (MW K ca),Df P w K mg base ca 47 "stairs_peaks" ["thing"] 1 (JR K ca),Df P w K mg base ca 48 "depths" ["text"] 1 (DU K ca),Df P w K mg base ca 49 "brackets_height" ["thing"] 2 (Jr K ca),Df P w K mg base ca 50 "brackets_returns" ["thing"] 2 (MB K ca),Df P w K mg base ca 51 "brackets_peaks" ["thing"] 1 (KG K ca),Df P w K mg base ca 52 "all_measures" [] 4 (MV K ca),Df P w K mg base ca 53 "marks_of" ["word"] 9 (M0 K ca er),∀i,i<2->Dv P w K mg base ca (pick 0 [20,53] i) ["word"] 9 (tR K ca er i),Df P w K mg base ca 55 "_law_classes" ["_law_error"] 1 (Nk K ca er),Df P w K mg base ca 56 "_law_word_refused" ["_law_word","_law_some"] 10 (GR K ca er),Df P w K mg base ca 57 "closes" ["text"] 1 (MT K ca),Dm P w K mg base ca 58 ["self","thing"] 2 (FN K ca),Dm P w K mg base ca 59 ["self","thing"] 1 (Ln K ca),Dm P w K mg base ca 60 ["self","thing"] 1 (K9 K ca),Df P w K mg base ca 61 "each_once" ["numbers"] 1 (Iv K ca),Df P w K mg base ca 62 "flat" ["rows"] 1 (Er K ca),Df P w K mg base ca 63 "any_cross" ["pairs"] 1 (Ii K ca),Dm P w K mg base ca 64 ["self","thing"] 2 (Hd K ca),Df P w K mg base ca 65 "neighbours" ["rooms"] 2 (Lv K ca),Dm P w K mg base ca 66 ["self","thing"] 3 (FA K ca),Df P w K mg base ca 67 "may_be_cut" ["corners","a","b"] 1 (IF K ca),Dm P w K mg base ca 68 ["self","thing"] 2 (Nr K ca),Df P w K mg base ca 69 "comes_off_a_stack" ["numbers"] 1 (Je K ca),Dm P w K mg base ca 70 ["self","thing"] 2 (Kj K ca),Dm P w K mg base ca 71 ["self","thing"] 1 (GX K ca),Df P w K mg base ca 72 "comes_to_0" ["elders","knot"] 1 (Ha K ca),Dm P w K mg base ca 73 ["self","thing"] 2 (Nn K ca),Dm P w K mg base ca 74 ["self","thing"] 1 (GW K ca),∀i,i<10->Dm P w K mg base ca (pick 0 [58,59,60,64,66,68,70,71,73,74] i) ["self","thing"] 3 (bx K ca i),Dm P w K mg base ca 76 ["self","thing"] 4 (N1 K ca er),∀i,i<25->Dv P w K mg base ca (pick 0 [51,50,49,47,46,45,44,43,42,41,40,39,37,36,34,33,30,29,28,27,26,25,24,23,21] i) ["thing"] 3 (aN K ca i),Df P w K mg base ca 78 "mark" ["word","name","thing"] 10 (Ej K ca er),Df P w K mg base ca 79 "_law_mark_refused" ["_law_word","_law_name","_law_thing"] 11 (Gg K ca er),Dm P w K mg base ca 80 ["self","place"] 1 (LH K ca er),Df P w K mg base ca 81 "_law_made" ["_law_word","_law_number"] 5 (FJ K ca),Df P w K mg base ca 82 "families" [] 8 (Na K ca),Df P w K mg base ca 83 "_law_marks" ["_law_word"] 1 (Nj K ca),Df P w K mg base ca 84 "_law_lists" ["_law_word"] 10 (Nu K ca),Df P w K mg base ca 85 "_law_amiss" ["_law_word","_law_draw"] 1 (FE K ca),Df P w K mg base ca 86 "by_rule" ["size"] 1 (LK K ca),Dm P w K mg base ca 87 ["self","size"] 2 (NW K ca),Df P w K mg base ca 88 "ring_many" ["size"] 1 (Ls K ca),Dm P w K mg base ca 89 ["self","size"] 2 (Ol K ca),∀i,i<10->Dm P w K mg base ca (pick 0 [87,87,87,87,87,87,87,89,89,89] i) ["self","size"] 2 (c7 K ca i),Dm P w K mg base ca 91 ["self","size"] 3 (Iu K ca),Dm P w K mg base ca 92 ["self"] 1 (FK K ca),Dm P w K mg base ca 93 ["self"] 1 (JQ K ca),Dm P w K mg base ca 94 ["self"] 1 (Gx K ca),Dm P w K mg base ca 95 ["self"] 1 (G8 K ca),Dm P w K mg base ca 96 ["self"] 1 (Ip K ca),Dm P w K mg base ca 97 ["self"] 1 (FC K ca),Dm P w K mg base ca 98 ["self"] 1 (ME K ca),∀i,i<7->Dm P w K mg base ca (pick 0 [92,93,94,95,96,97,98] i) ["self"] 1 (cA K ca i),Dm P w K mg base ca 100 ["self","counts","size","number"] 2 (NK K ca),Df P w K mg base ca 101 "shares" ["most"] 1 (Fi K ca),Dm P w K mg base ca 102 ["self","size","number"] 3 (N9 K ca),Dm P w K mg base ca 103 ["self","code"] 1 (GS K ca),Dm P w K mg base ca 104 ["self","code"] 1 (LA K ca),Dm P w K mg base ca 105 ["self","code"] 2 (KO K ca),∀i,i<3->Dm P w K mg base ca (pick 0 [103,104,105] i) ["self","code"] 2 (dN K ca i),Df P w K mg base ca 107 "number_figures" ["number","base","length"] 1 (Hn K ca),Dm P w K mg base ca 108 ["self","size","number"] 3 (Nz K ca),∀i,i<10->Dm P w K mg base ca (pick 0 [102,102,102,102,102,102,102,108,108,108] i) ["self","size","number"] 3 (gC K ca i),Dm P w K mg base ca 110 ["self","size","number"] 4 (Le K ca)]
def D(n:Nat):Prop:=pick True (DL P w K mg base ca er) n
def Al(k:Nat):Prop:=∀j,j<k->D P w K mg base ca er j
end
section
variable{P:SK}{w:Tc}{K:KB}{mg:Str->Option Do}{base:Ux}{ca:aC}{er:Nat->GM}
theorem Al.g{k:Nat}(h:Al P w K mg base ca er k)(j:Nat)(hj:j<k:=by decide):D P w K mg base ca er j:=h j hj
theorem Al.s{k:Nat}(h:Al P w K mg base ca er k)(d:D P w K mg base ca er k):Al P w K mg base ca er (k+1):=fun j hj=>if e:j=k then e▸d else h j (by lia)
noncomputable abbrev bB(K:KB)(ca:aC)(n:Nat)(x q:Str)(s:T4):Prop:=aE K x q s (ca.f n) (ca.fd n)
noncomputable abbrev Fg(K:KB)(mg:Str->Option Do)(ca:aC)(n:Nat)(x:Str)(s:T4):Prop:=Nf K mg x s (ca.f n) (ca.fd n)
variable(CA:HR K mg ca)
include CA
theorem Ss:Al P w K mg base ca er 0:=fun _ h=>absurd h (UC _)
variable(EO:JP K mg [3,4,7] er)
include EO
variable(BO:GF K er (ca.f 80))
include BO
theorem Gk(aL:Al P w K mg base ca er 0)(F:Fg K mg ca 0 "_law_words" uu):D P w K mg base ca er 0:=by
 refine bg F (fun _ _ _ _ _ _=>qX rfl) (F.F.ok KN (fun vs H Q E h=>?_) (fun cZ AZ oZ sZ H vs Q E hr h=>?_))
 ·obtain⟨rfl,q⟩:=h
  rfl
 obtain⟨rfl,q⟩:=h;refine⟨_,ah (ar (aK (aa az (aa az (aa az (aa az (aa az (aa az (aa az (aa az (aa az (aa az ae)))))))))))),?_⟩;exact⟨(by show 10<=sizeLine;decide),fun p hp=>q p _ (af.new (af.refl H) hp _) hp ag⟩
theorem MY(aL:Al P w K mg base ca er 1)(F:Fg K mg ca 1 "_law_cell_at" ue):D P w K mg base ca er 1:=by
 refine bg F (fun _ _ _ _ _ _=>cE fun _ _=>rfl) (F.F.ok Gs (fun vs H Q E h=>?_) (fun cZ AZ oZ sZ H vs Q E hr h=>?_))
 ·obtain⟨a,ns,k,rfl,hS,h0,q⟩:=h
  rfl
 obtain⟨a,ns,k,rfl,hS,h0,q⟩:=h;refine⟨_,ai (aO (ay dz (pv 1) (av aH rfl CA.bt bb (aa (pv 0) ae)) (aB _)) (ah (ar (aV a9 (pv 0) (pv 1) (fun _ _=>rfl)))) aG) (ah (ar ak)),?_⟩;have hl:(ns.map V.int).length=ns.length:=FS _;refine⟨_,rfl,_,rfl,a,_,rfl,.inl hS,_,_,rfl,rfl,_,rfl,g9 (fun c=>?_) (fun c=>?_)⟩
 ·have c':k< (((ns.map V.int).length:Nat):Int):=of_decide_eq_true c
  rw[hl]at c';exact⟨_,rfl,_,rfl,a,_,_,_,rfl,rfl,hS,fu h0 c',q⟩
 ·have c':¬k< (((ns.map V.int).length:Nat):Int):=of_decide_eq_false (W4.mpr c)
  rw[hl]at c';have e:ns.getD k.toNat 0=0:=by rw[FM,UB (by lia)];rfl
  rw[e]at q;exact q
theorem FV(aL:Al P w K mg base ca er 2)(F:Fg K mg ca 2 "_law_draws" tw):D P w K mg base ca er 2:=by
 refine bg F (fun _ _ _ _ _ _=>iw fun _ _ _=>rfl) (F.F.ok dI (fun vs H Q E h=>?_) (fun cZ AZ oZ sZ H vs Q E hr h=>?_))
 ·obtain⟨a,ns,t,m,rfl,hS,h63,t0,t1,m0,m1,q⟩:=h
  rfl
 obtain⟨a,ns,t,m,rfl,hS,h63,t0,t1,m0,m1,q⟩:=h;refine⟨_,ai (aA (i:=3) dI.nd rfl (SI rfl) (au iQ (cu ml (pv 0) cU (cV ak)) (aK (aa (pv 1) ae)))) (ai (aA (i:=4) dI.nd rfl (SI rfl) (aK ae)) (ai (aO (ay b6 (au bu (au fM (aV a9 (pv 3) ak (fun _ _=>rfl)) ak) ak) ak (aB _)) (ai (gY (i:=5) dI.nd rfl (SI rfl) rfl rfl (a8 (pv 3)) rfl rfl rfl rfl (N:=["_law_cell"]) (.own .nil) (fun _ _ _ _ _ _=>(ax (i:=0) (by show S8 (["_law_cell"]:List Str);decide+kernel) rfl (SI rfl))) (fun _ _ _ _ _ _=>bQ) (fun _ _ _ _ _ _=>(au fM (pv 0) ak)))
  (ai (bH S9 rfl (cn rfl CA.bG (aa (au ba (pv 1) (pv 2)) ae)) (ax (i:=6) dI.nd rfl (SI rfl)) (ai (aA (i:=7) dI.nd rfl (SI rfl) (au bu (pv 6) (av aH rfl CA.bt bb (aa (pv 5) ae))))
  (ai (aO (ay CB (pv 6) (pv 1) (aB _)) (ah (aQ (bK P3 SZ S1 bp (pv 4) (aa (au bu (aV a9 (pv 5) (pv 7) (fun _ _=>rfl)) ak) ae)))) aG)
  (ah (oz (au fM (aV a9 (pv 5) (pv 7) (fun _ _=>rfl)) ak) (nN (pv 5) (pv 7) set_list))))))
  (ah (ar (pv 4))))) aG)
  (ai (bH S9 rfl (cn rfl CA.bG (aa (pv 2) ae)) (ax (i:=6) dI.nd rfl (SI rfl)) (ai (aA (i:=8) dI.nd rfl (SI rfl) (au ba (au dG (au dG (au ba (pv 6) (pv 1)) (au ba (pv 6) (pv 1))) ak) ak))
  (ai (aA (i:=9) dI.nd rfl (SI rfl) (au bu (au dG (au ba (au bu (aV a9 (pv 3) (au bu (pv 6) (av aH rfl CA.bt bb (aa (pv 3) ae))) (fun _ _=>rfl)) ak) (pv 8)) ak) ak))
  (ai (aA (i:=9) dI.nd rfl (SI rfl) (au bu (au ba (au dG (pv 9) (pv 9)) (au dG ak (pv 6))) ak))
  (ah (aQ (bK P3 SZ S1 bp (pv 4) (aa (au bu (au dG (pv 9) (pv 9)) ak) ae))))))))
  (ah (ar (pv 4)))))),?_⟩
 have M:∀x:Int,0<=x%2147483587/\x%2147483587<2147483587:=fun x=>⟨TJ x (by decide),Tx x (by decide)⟩;refine⟨_,rfl,_,rfl,a,_,rfl,hS,fun p1 hp1=>⟨_,rfl,(by show 1<=sizeLine;decide),fun p2 hp2=>?_⟩⟩;have n12:p1≠p2:=aF ag hp2;have s1:=af.new (af.refl H) hp1 (.lst (dX (ns.map V.int) none (some 63)));have s2:=af.new s1 hp2 (.lst [.int t]);have lc:(eP ns none (some 63)).length<=63:=Tt (qb _ _ _) h63;refine⟨p1,p2,_,_,rfl,rfl,(aw n12).trans ag,ag,?_,fun pc hpc=>?_⟩;·rw[jN,FS];exact sz (by simp;lia)
 have s3:=af.new s2 hpc (.lst (dX (ns.map V.int) none (some 63)++[.int t]));have ecs:dX (ns.map V.int) none (some 63)++[.int t]=(eP ns none (some 63)++[t]).map V.int:=by rw[jN,SV];rfl
 have lcs:1<=(eP ns none (some 63)++[t]).length/\(eP ns none (some 63)++[t]).length<=64:=by rw[SW];constructor<;>simp<;>lia
 rw[ecs]at s3|-;generalize hH3:upd (upd (upd H p1 (.lst (dX (ns.map V.int) none (some 63)))) p2 (.lst [.int t])) pc (.lst ((eP ns none (some 63)++[t]).map V.int))=H3 at s3|-;have hc3:H3 pc=some (.lst ((eP ns none (some 63)++[t]).map V.int)):=by rw[<-hH3];exact ag
 generalize eP ns none (some 63)++[t]=cs at hc3 lcs|-;refine⟨KM _,fun pf hpf=>?_⟩;have s4:=af.new s3 hpf (.lst []);have fpf:H pf=none:=s3.free hpf;have ncf:pc≠pf:=aF hc3 hpf;have hc4:upd H3 pf (.lst []) pc=some (.lst (cs.map V.int)):=(aw ncf).trans hc3;have hf4:upd H3 pf (.lst []) pf=some (.lst (([]:List Int).map V.int)):=ag;generalize upd H3 pf (.lst [])=H4 at s4 hc4 hf4|-;have at0:=fu (ns:=cs) (i:=0) (by decide) (by lia);have lm:(cs.map V.int).length=cs.length:=FS _;refine⟨_,rfl,pc,_,_,_,rfl,rfl,ao.of hc4,at0,_,_,rfl,rfl,⟨by decide,by decide+kernel⟩,_,_,rfl,rfl,pm (by decide),rfl,_,rfl,g9 (fun _=>?_) (fun _=>?_)⟩
 ·refine⟨_,rfl,pc,rfl,⟨_,ao.of hc4⟩,fun D hD=>i3 (fun v=>match v with|.int c=>.int (c/100000)|v=>v) (by rw[lm];exact sz (by lia)) (ao.of hc4) hD (fun i x H' R R0 hx hb hR=>?_) ?_⟩
  ·obtain⟨c,rfl⟩:=dw hx
   exact⟨Ext.set rfl,iT (bw ⟨_,rfl,_,_,rfl,rfl,⟨by decide,by decide+kernel⟩,hR⟩)⟩
  ·have fD:H D=none:=s4.free hD
   have nfD:pf≠D:=aF hf4 hD;have el:(cs.map V.int).map (fun v=>match v with|.int c=>V.int (c/100000)|v=>v)=(cs.map (·/100000)).map V.int:=by rw[Uc,Uc];rfl
   rw[el];refine⟨_,rfl,_,rfl,_,_,rfl,rfl,_,rfl,by lia,by lia,dj (lo:=0) (n:=(t+m).toNat) (fun i σ H'=>∃(o1 o2 o3 o4:Option V)(ls fs:List Int),σ=[some (.ref a),some (.int t),some (.int m),some (.ref pc),some (.ref pf),some (.ref D),o1,o2,o3,o4]/\af H H'/\H' D=some (.lst (ls.map V.int))/\ls.length=cs.length/\H' pf=some (.lst (fs.map V.int))/\fs.length=i-t.toNat/\∀x∈fs,0<=x/\x<2147483587) ⟨_,_,_,_,_,[],rfl,af.new s4 hD _,ag,by simp,(aw nfD).trans hf4,by simp,by simp⟩ ?_ ?_⟩
   ·rintro i σ H5 hi ⟨o1,o2,o3,o4,ls,fs,rfl,sm,hl,ll,hf,lf,bf⟩
    have lml:(ls.map V.int).length=ls.length:=FS _;have pos:(0:Int)< (((ls.map V.int).length:Nat):Int):=by rw[lml];lia
    have k0:=TJ ((0:Int)+(i:Int)) (show(((ls.map V.int).length:Nat):Int)≠0 by lia);have k1:=Tx ((0:Int)+(i:Int)) pos;refine⟨_,rfl,_,rfl,D,_,rfl,.inl (ao.of hl),_,_,rfl,rfl,pos,?_⟩;try dsimp only
    generalize ((0:Int)+(i:Int))% (((ls.map V.int).length:Nat):Int)=k at k0 k1|-;rw[lml]at k1;have atk:=fu (ns:=ls) (i:=k) k0 k1;refine⟨_,rfl,_,rfl,_,_,rfl,rfl,_,rfl,g9 (fun c=>?_) (fun c=>?_)⟩
    ·have c':t<=(0:Int)+(i:Int):=of_decide_eq_true c
     refine⟨_,rfl,.inl ⟨rfl,_,ao.of hf⟩,_,rfl,_,rfl,D,_,_,_,rfl,rfl,ao.of hl,atk,_,_,rfl,rfl,pm (by decide),pf,_,_,rfl,rfl,hf,by rw[FS];exact oh (by lia),?_⟩;have Dz:upd H5 pf (.lst (fs.map V.int++[.int (ls.getD k.toNat 0%2147483587)])) D=some (.lst (ls.map V.int)):=(aw (T6 nfD)).trans hl;refine⟨_,rfl,_,rfl,D,_,_,_,rfl,rfl,ao.of Dz,atk,_,_,rfl,rfl,⟨by decide,by decide+kernel⟩,_,rfl,_,rfl,D,_,_,_,rfl,rfl,Dz,qD k0 (by rw[lml];exact k1),?_⟩;refine⟨_,_,_,_,ls.set k.toNat (ls.getD k.toNat 0/2147483587),fs++[ls.getD k.toNat 0%2147483587],rfl,(sm.upd fpf _).upd fD _,?_,by simpa using ll,?_,by simp[lf];lia,?_⟩;·rw[ag,List.map_set]
     ·rw[aw nfD,ag,SV];rfl
     ·intro x hx
      rcases Uj.mp hx with z|z;·exact bf x z
      ·have:x=ls.getD k.toNat 0%2147483587:=by simpa using z
       rw[this];exact M _
    ·have c':¬t<=(0:Int)+(i:Int):=of_decide_eq_false (W4.mpr c)
     refine⟨_,rfl,_,rfl,D,_,_,_,rfl,rfl,ao.of hl,atk,_,_,rfl,rfl,⟨by decide,by decide+kernel⟩,_,rfl,_,rfl,D,_,_,_,rfl,rfl,hl,qD k0 (by rw[lml];exact k1),?_⟩;refine⟨_,_,_,_,ls.set k.toNat (ls.getD k.toNat 0/2147483587),fs,rfl,sm.upd fD _,?_,by simpa using ll,(aw nfD).trans hf,by lia,bf⟩;rw[ag,List.map_set]
   ·rintro σ H5 ⟨o1,o2,o3,o4,ls,fs,rfl,sm,hl,ll,hf,lf,bf⟩
    exact⟨_,rfl,q pf fs H5 sm fpf hf (by lia) bf⟩
 ·refine⟨_,rfl,_,rfl,by lia,by lia,dj (lo:=0) (n:=m.toNat) (fun i σ H'=>∃(o1 o2 o3 o4 o5:Option V)(fs:List Int),σ=[some (.ref a),some (.int t),some (.int m),some (.ref pc),some (.ref pf),o1,o2,o3,o4,o5]/\af H H'/\H' pc=some (.lst (cs.map V.int))/\H' pf=some (.lst (fs.map V.int))/\fs.length=i/\∀x∈fs,0<=x/\x<2147483587) ⟨_,_,_,_,_,[],rfl,s4,hc4,hf4,rfl,by simp⟩ ?_ ?_⟩
  ·rintro i σ H5 hi ⟨o1,o2,o3,o4,o5,fs,rfl,sm,hc,hf,lf,bf⟩
   have pos:(0:Int)< (((cs.map V.int).length:Nat):Int):=by rw[lm];lia
   have k0:=TJ ((0:Int)+(i:Int)) (show(((cs.map V.int).length:Nat):Int)≠0 by lia);have k1:=Tx ((0:Int)+(i:Int)) pos;have atk:=fu (ns:=cs) (i:=((0:Int)+(i:Int))% (((cs.map V.int).length:Nat):Int)) k0 (by rw[<-lm];exact k1);refine⟨_,rfl,_,rfl,_,_,rfl,rfl,_,rfl,_,rfl,_,_,rfl,rfl,_,_,rfl,rfl,.inl ⟨by lia,by lia⟩,_,_,rfl,rfl,.inr ⟨by decide,by decide⟩,_,_,rfl,rfl,?_⟩;refine⟨_,rfl,_,rfl,_,rfl,pc,_,rfl,.inl (ao.of hc),_,_,rfl,rfl,pos,pc,_,_,_,rfl,rfl,ao.of hc,atk,_,_,rfl,rfl,pm (by decide),_,rfl,_,_,rfl,rfl,_,_,rfl,rfl,.inr ⟨by decide,by decide⟩,_,_,rfl,rfl,pm (by decide),?_⟩;try dsimp only
   generalize hnu:(cs.getD (((0:Int)+(i:Int))% (((cs.map V.int).length:Nat):Int)).toNat 0%2147483647+(((0:Int)+(i:Int)+t)*((0:Int)+(i:Int)+t)*7919+104729))*48271%2147483647=nu;have b0:0<=nu:=by rw[<-hnu];exact TJ _ (by decide)
   have b1:nu<2147483647:=by rw[<-hnu];exact Tx _ (by decide)
   refine⟨_,rfl,_,rfl,_,_,rfl,rfl,.inl ⟨by lia,by lia⟩,_,rfl,_,_,rfl,rfl,.inl ⟨by decide,by decide⟩,_,_,rfl,rfl,_,_,rfl,rfl,pm (by decide),?_⟩;try dsimp only
   generalize hnv:(nu*nu+69621*((0:Int)+(i:Int)))%2147483629=nv;have d0:0<=nv:=by rw[<-hnv];exact TJ _ (by decide)
   have d1:nv<2147483629:=by rw[<-hnv];exact Tx _ (by decide)
   refine⟨_,rfl,.inl ⟨rfl,_,ao.of hf⟩,_,rfl,_,rfl,_,_,rfl,rfl,.inl ⟨by lia,by lia⟩,_,_,rfl,rfl,pm (by decide),pf,_,_,rfl,rfl,hf,by rw[FS];exact oh (by lia),?_⟩;refine⟨_,_,_,_,_,fs++[nv*nv%2147483587],rfl,sm.upd fpf _,(aw ncf).trans hc,?_,by simp[lf],?_⟩;·rw[ag,SV];rfl
   ·intro y hy
    rcases Uj.mp hy with z|z;·exact bf y z
    ·have:y=nv*nv%2147483587:=by simpa using z
     rw[this];exact M _
  ·rintro σ H5 ⟨o1,o2,o3,o4,o5,fs,rfl,sm,hc,hf,lf,bf⟩
   exact⟨_,rfl,q pf fs H5 sm fpf hf lf bf⟩
theorem L4(aL:Al P w K mg base ca er 3)(F:Fg K mg ca 3 "_law_sign" rX):D P w K mg base ca er 3:=by
 refine bg F (fun _ _ _ _ _ _=>aZ fun _=>rfl) (F.F.ok oY (fun vs H Q E h=>?_) (fun cZ AZ oZ sZ H vs Q E hr h=>?_))
 ·obtain⟨n,rfl,q⟩:=h
  rfl
 obtain⟨n,rfl,q⟩:=h;refine⟨_,ai (aA (i:=1) oY.nd rfl (SI rfl) az) (ai (aA (i:=1) oY.nd rfl (SI rfl) (au cm (pv 1) az)) (ah (ar (aV K1 (pv 1) (au bu (pv 0) (av iB rfl CA.bt bb (aa (pv 1) ae))) (fun _ _=>rfl))))),?_⟩
 have z:1000<=sizeLine:=by decide
 have e:=N8;refine⟨_,rfl,_,_,rfl,rfl,by decide+kernel,?_⟩;generalize (AC " !\"#$&'()*+,-./0123456789:;<=>?@ABCDEFGHIJKLMNOPQRSTUVWXYZ[\\]^_`")++(AC "abcdefghijklmnopqrstuvwxyz{|}~")=x0 at e|-;have b0:=TJ n (show((x0.length:Nat):Int)≠0 by lia);have b1:=Tx n (show(0:Int)< ((x0.length:Nat):Int)by lia);refine⟨_,rfl,_,rfl,_,rfl,x0,rfl,by lia,_,_,rfl,rfl,by lia,?_⟩;have lx:=Fx x0;have hc:x0.cps.toList[(n% ((x0.length:Nat):Int)).toNat]?=some (x0.cps.toList[(n% ((x0.length:Nat):Int)).toNat]'(by lia)):=Da _;exact⟨x0,_,_,rfl,rfl,by lia,ET b0 hc,q _ (by show 1<=1;decide)⟩
theorem Ka(aL:Al P w K mg base ca er 4)(F:Fg K mg ca 4 "_law_text" tS):D P w K mg base ca er 4:=by
 refine bg F (fun _ _ _ _ _ _=>iw fun _ _ _=>rfl) (F.F.ok kh (fun vs H Q E h=>?_) (fun cZ AZ oZ sZ H vs Q E hr h=>?_))
 ·obtain⟨a,ns,t,x,rfl,hS,h63,t0,t1,lx,q⟩:=h
  rfl
 obtain⟨a,ns,t,x,rfl,hS,h63,t0,t1,lx,q⟩:=h;refine⟨_,ai (aA (i:=3) kh.nd rfl (WA rfl) (aM (aL.g 2) hr (aa (pv 0) (aa (pv 1) (aa ak ae))))) (ai (aA (i:=4) kh.nd rfl (SI rfl) (au bu (aV a9 (pv 3) ak (fun _ _=>rfl)) (av (mL rfl) rfl CA.g6 fF (aa (av iB rfl CA.bt bb (aa (pv 2) ae)) (aa ak ae))))) (ai (aA (i:=5) kh.nd rfl (SI rfl) (aM (aL.g 3) hr (aa (aV a9 (pv 3) ak (fun _ _=>rfl)) ae)))
  (ai (aO (ay b6 (au bu (aV a9 (pv 3) ak (fun _ _=>rfl)) ak) ak (aB _)) (ah (ar (au cm (au cm (cu gO (pv 2) cU (cV (pv 4))) (pv 5)) (cu gO (pv 2) (cV (pv 4)) cU)))) aG)
  (ai (aO (ay b6 (au bu (aV a9 (pv 3) ak (fun _ _=>rfl)) ak) ak (aB _)) (ah (ar (au cm (cu gO (pv 2) cU (cV (pv 4))) (cu gO (pv 2) (cV (au ba (pv 4) ak)) cU)))) aG)
  (ai (aO (ay b6 (au bu (aV a9 (pv 3) ak (fun _ _=>rfl)) ak) ak (aB _)) (ah (ar (au cm (au cm (cu gO (pv 2) cU (cV (pv 4))) (pv 5)) (cu gO (pv 2) (cV (au ba (pv 4) ak)) cU)))) aG)
  (ai (aO (ay b6 (au bu (aV a9 (pv 3) ak (fun _ _=>rfl)) ak) ak (aB _)) (ah (ar (bK V6 PySem.F.slot_str_join PySem.F.type_str_join Ea az (aa (bh rfl (cn rfl CA.bG (aa (au bu (aV a9 (pv 3) ak (fun _ _=>rfl)) ak) ae)) rfl rfl rfl rfl (N:=["_law_k","_law_draws_here"]) (.own (.cap (j:=3) rfl rfl rfl .nil)) (fun _ _ _ _ _ _=>(ax (i:=0) (by show S8 (["_law_k","_law_draws_here"]:List Str);decide+kernel) rfl (SI rfl))) (fun _ _ _ _ _ _=>bQ) (fun _ _ _ _ _ _=>(aM (aL.g 3) hr (aa (aV (eM (K:=K) rfl) (pv 1) (au ba ak (pv 0)) (fun _ _=>rfl)) ae)))) ae)))) aG)
  (ai (aO (ay b6 (au bu (aV a9 (pv 3) ak (fun _ _=>rfl)) ak) ak (aB _)) (ah (ar (aV a9 (aK (aa (au cm (pv 2) az) (aa (au cm az (pv 2)) (aa (og V6 PySem.F.slot_str_upper PySem.F.type_str_upper Aj (pv 2)) (aa (au cm (pv 2) (pv 2)) ae))))) (au bu (aV a9 (pv 3) ak (fun _ _=>rfl)) ak) (fun _ _=>rfl)))) aG)
  (ah (ar (pv 2)))))))))),?_⟩
 have z:1000<=sizeLine:=by decide
 have lz:x.length<=sizeLine:=by lia
 have sl:∀lo hi,(Txt.slice x lo hi).length<=100:=fun lo hi=>Tt (Txt.slice_le x lo hi) lx;refine⟨_,rfl,_,rfl,a,ns,t,64,rfl,hS,h63,t0,t1,by decide,by decide,fun p xs H1 s1 f1 h1 l1 b1=>?_⟩;have l64:xs.length=64:=l1;have hp:=ao.of (K:=K) h1;have at_:∀i:Int,0<=i->i<64->eS (xs.map V.int) i=some (.int (xs.getD i.toNat 0)):=fun i h0 h9=>fu (ns:=xs) h0 (by lia);have mx:(0:Int)< (if(1:Int)> ((x.length:Nat):Int)then 1 else((x.length:Nat):Int)):=by split<;>lia
 refine⟨_,rfl,p,_,_,_,rfl,rfl,hp,at_ 0 (by decide) (by decide),_,rfl,x,rfl,lz,_,_,rfl,_,_,rfl,rfl,mx,?_⟩;try dsimp only
 generalize xs.getD (0:Int).toNat 0% (if(1:Int)> ((x.length:Nat):Int)then 1 else((x.length:Nat):Int))=k;refine⟨_,rfl,p,_,_,_,rfl,rfl,hp,at_ 1 (by decide) (by decide),_,rfl,fun y ly=>?_⟩;refine⟨_,rfl,p,_,_,_,rfl,rfl,hp,at_ 2 (by decide) (by decide),_,_,rfl,rfl,pm (by decide),rfl,_,rfl,g9 (fun _=>?_) (fun _=>?_)⟩
 ·have l1:=sl none (some k)
  have l2:=sl (some k) none;exact⟨_,rfl,_,rfl,_,rfl,x,rfl,lz,_,rfl,_,_,rfl,rfl,eX l1 ly (by decide),_,rfl,_,rfl,_,rfl,x,rfl,lz,_,_,rfl,rfl,eX (le_app l1 ly) l2 (by decide),q _ _ s1⟩
 refine⟨_,rfl,p,_,_,_,rfl,rfl,hp,at_ 2 (by decide) (by decide),_,_,rfl,rfl,pm (by decide),rfl,_,rfl,g9 (fun _=>?_) (fun _=>?_)⟩
 ·have l1:=sl none (some k)
  have l2:=sl (some (k+1)) none;exact⟨_,rfl,_,rfl,_,rfl,x,rfl,lz,_,rfl,_,rfl,_,_,rfl,rfl,_,rfl,x,rfl,lz,_,_,rfl,rfl,eX l1 l2 (by decide),q _ _ s1⟩
 refine⟨_,rfl,p,_,_,_,rfl,rfl,hp,at_ 2 (by decide) (by decide),_,_,rfl,rfl,pm (by decide),rfl,_,rfl,g9 (fun _=>?_) (fun _=>?_)⟩
 ·have l1:=sl none (some k)
  have l2:=sl (some (k+1)) none;exact⟨_,rfl,_,rfl,_,rfl,x,rfl,lz,_,rfl,_,_,rfl,rfl,eX l1 ly (by decide),_,rfl,_,rfl,_,_,rfl,rfl,_,rfl,x,rfl,lz,_,_,rfl,rfl,eX (le_app l1 ly) l2 (by decide),q _ _ s1⟩
 refine⟨_,rfl,p,_,_,_,rfl,rfl,hp,at_ 2 (by decide) (by decide),_,_,rfl,rfl,pm (by decide),rfl,_,rfl,g9 (fun _=>?_) (fun _=>?_)⟩
 ·have m0:=TJ (xs.getD (3:Int).toNat 0) (show(61:Int)≠0 by decide)
  have m1:=Tx (xs.getD (3:Int).toNat 0) (show(0:Int)<61 by decide);refine⟨rfl,_,rfl,p,_,_,_,rfl,rfl,hp,at_ 3 (by decide) (by decide),_,_,rfl,rfl,pm (by decide),_,rfl,by lia,by lia,?_⟩;try dsimp only
  generalize xs.getD (3:Int).toNat 0%61=m at m0 m1|-;intro D hD;refine qg (lo:=0) (n:=m.toNat) (fun i ys H'=>af H1 H'/\H' D=some (.lst ys)/\∃zs:List Str,ys=zs.map V.str/\(zs.map (·.length)).sum<=i/\zs.length=i) (sz (by lia)) ⟨af.new (af.refl H1) hD _,ag,[],rfl,M2 _,rfl⟩ (fun i ys H' _ h=>?_) ?_ ?_
  ·obtain⟨_,_,zs,rfl,_,lz⟩:=h
   rw[FS,lz];exact M2 _
  ·rintro i ys H2 R R0 hi ⟨s2,hD2,zs,rfl,lzs,ln⟩ hR hR0
   refine⟨Ext.set rfl,iT (bw ⟨_,rfl,_,rfl,_,_,rfl,rfl,p,_,_,_,rfl,rfl,ao.of (s2 _ _ h1),at_ _ (by lia) (by lia),_,rfl,fun y1 ly1=>?_⟩)⟩;refine hR _ _ hD2 ⟨s2.upd hD _,ag,zs++[y1],by rw[SV];rfl,?_,by rw[SW,ln];rfl⟩;rw[SV,List.sum_append];show _+(y1.length+0)<=_;lia
  ·rintro ys H2 ⟨s2,hD2,zs,rfl,lzs,ln⟩
   refine⟨_,D,zs,rfl,rfl,ao.of hD2,?_,q _ _ (s1.trans s2)⟩;rw[show(AC "").length=0 by decide+kernel];lia
 refine⟨_,rfl,p,_,_,_,rfl,rfl,hp,at_ 2 (by decide) (by decide),_,_,rfl,rfl,pm (by decide),rfl,_,rfl,g9 (fun _=>?_) (fun _=>⟨_,rfl,q _ _ s1⟩)⟩;have g:Str.length (AC " ")<=1:=by decide+kernel
 refine⟨_,rfl,_,_,rfl,rfl,eX lx g (by decide),_,rfl,_,_,rfl,rfl,eX g lx (by decide),_,rfl,rfl,x,rfl,rfl,by lia,_,rfl,_,rfl,_,_,rfl,rfl,eX lx lx (by decide),(by show 4<=sizeLine;decide),fun d hd=>?_⟩;obtain⟨y4,e4⟩:=E1 (x++AC " ") (AC " "++x) (Txt.upper x) (x++x) (xs.getD (3:Int).toNat 0);have k1:=af.new (af.refl H1) hd (.lst [.str (x++AC " "),.str (AC " "++x),.str (Txt.upper x),.str (x++x)]);exact⟨_,rfl,p,_,_,_,rfl,rfl,ao.of (k1 _ _ h1),at_ 3 (by decide) (by decide),_,_,rfl,rfl,pm (by decide),d,_,_,_,rfl,rfl,ao.of ag,e4,q _ _ (s1.trans k1)⟩
theorem NP(aL:Al P w K mg base ca er 5)(F:bB K ca 5 "__init__" "Family.__init__" AO):D P w K mg base ca er 5:=by
 refine bE F (fun _ _ _ _ _ _=>iw fun _ _ _=>rfl) (F.ok Oi (fun vs H Q E h=>?_) (fun cZ AZ oZ sZ H vs Q E hr h=>?_))
 ·obtain⟨x,dx,c,w,l,rfl,hx,k1,k2,k3,q⟩:=h
  rfl
 obtain⟨x,dx,c,w,l,rfl,hx,k1,k2,k3,q⟩:=h;refine⟨_,ai (xg (pv 0) (pv 1) rfl) (ah (xg (pv 0) (pv 2) rfl)),?_⟩;refine⟨_,rfl,_,rfl,x,c,dx,_,rfl,hx,k1,k2,(by show 0<1000;decide),?_⟩;refine⟨_,rfl,_,rfl,x,c,dx,_,rfl,ag,k1,k3,(by show 1<1000;decide),?_⟩;exact q _ _ jt (DM w l)
theorem Oe(aL:Al P w K mg base ca er 6)(F:bB K ca 6 "__init__" "SplitFamily.__init__" yE):D P w K mg base ca er 6:=by
 refine bE F (fun _ _ _ _ _ _=>cE fun _ _=>rfl) (F.ok NB (fun vs H Q E h=>?_) (fun cZ AZ oZ sZ H vs Q E hr h=>?_))
 ·obtain⟨x,dx,c,w,rfl,hx,k1,k2,k3,q⟩:=h
  rfl
 obtain⟨x,dx,c,w,rfl,hx,k1,k2,k3,q⟩:=h;refine⟨_,ah (aQ (fg CA.fB CA.cm_Family___init___W (aL.g 5) hr (aa (pv 0) (aa (pv 1) (aa ak ae))))),?_⟩;exact⟨_,rfl,_,rfl,x,dx,c,w,0,rfl,hx,k1,k2,k3,fun fs H' e f=>q fs H' e f⟩
theorem J1(aL:Al P w K mg base ca er 7)(F:bB K ca 7 "__init__" "Turns.__init__" uy):D P w K mg base ca er 7:=by
 refine bE F (fun _ _ _ _ _ _=>aZ fun _=>rfl) (F.ok Ks (fun vs H Q E h=>?_) (fun cZ AZ oZ sZ H vs Q E hr h=>?_))
 ·obtain⟨x,dx,rfl,hx,q⟩:=h
  rfl
 obtain⟨x,dx,rfl,hx,q⟩:=h;refine⟨_,ah (aQ (fg CA.bR CA.cm_SplitFamily___init___W (aL.g 6) hr (aa (pv 0) (aa az ae)))),?_⟩;exact⟨_,rfl,x,dx,_,_,rfl,hx,CA.c4 6 (by decide),CA.na4_word 6 (by decide),CA.na4_least 6 (by decide),fun fs H' e f=>q fs H' e f⟩
theorem Gm(aL:Al P w K mg base ca er 8)(F:bB K ca 8 "__init__" "Floors.__init__" sP):D P w K mg base ca er 8:=by
 refine bE F (fun _ _ _ _ _ _=>aZ fun _=>rfl) (F.ok IU (fun vs H Q E h=>?_) (fun cZ AZ oZ sZ H vs Q E hr h=>?_))
 ·obtain⟨x,dx,rfl,hx,q⟩:=h
  rfl
 obtain⟨x,dx,rfl,hx,q⟩:=h;refine⟨_,ah (aQ (fg CA.bR CA.cm_SplitFamily___init___W (aL.g 6) hr (aa (pv 0) (aa az ae)))),?_⟩;exact⟨_,rfl,x,dx,_,_,rfl,hx,CA.c4 5 (by decide),CA.na4_word 5 (by decide),CA.na4_least 5 (by decide),fun fs H' e f=>q fs H' e f⟩
theorem Mo(aL:Al P w K mg base ca er 9)(F:bB K ca 9 "__init__" "Rooms.__init__" uK):D P w K mg base ca er 9:=by
 refine bE F (fun _ _ _ _ _ _=>aZ fun _=>rfl) (F.ok IP (fun vs H Q E h=>?_) (fun cZ AZ oZ sZ H vs Q E hr h=>?_))
 ·obtain⟨x,dx,rfl,hx,q⟩:=h
  rfl
 obtain⟨x,dx,rfl,hx,q⟩:=h;refine⟨_,ah (aQ (fg CA.bR CA.cm_SplitFamily___init___W (aL.g 6) hr (aa (pv 0) (aa az ae)))),?_⟩;exact⟨_,rfl,x,dx,_,_,rfl,hx,CA.c4 4 (by decide),CA.na4_word 4 (by decide),CA.na4_least 4 (by decide),fun fs H' e f=>q fs H' e f⟩
theorem K5(aL:Al P w K mg base ca er 10)(F:bB K ca 10 "__init__" "Bows.__init__" sW):D P w K mg base ca er 10:=by
 refine bE F (fun _ _ _ _ _ _=>aZ fun _=>rfl) (F.ok Il (fun vs H Q E h=>?_) (fun cZ AZ oZ sZ H vs Q E hr h=>?_))
 ·obtain⟨x,dx,rfl,hx,q⟩:=h
  rfl
 obtain⟨x,dx,rfl,hx,q⟩:=h;refine⟨_,ah (aQ (fg CA.bR CA.cm_SplitFamily___init___W (aL.g 6) hr (aa (pv 0) (aa az ae)))),?_⟩;exact⟨_,rfl,x,dx,_,_,rfl,hx,CA.c4 3 (by decide),CA.na4_word 3 (by decide),CA.na4_least 3 (by decide),fun fs H' e f=>q fs H' e f⟩
theorem Ho(aL:Al P w K mg base ca er 11)(F:bB K ca 11 "__init__" "Twins.__init__" sC):D P w K mg base ca er 11:=by
 refine bE F (fun _ _ _ _ _ _=>aZ fun _=>rfl) (F.ok HW (fun vs H Q E h=>?_) (fun cZ AZ oZ sZ H vs Q E hr h=>?_))
 ·obtain⟨x,dx,rfl,hx,q⟩:=h
  rfl
 obtain⟨x,dx,rfl,hx,q⟩:=h;refine⟨_,ah (aQ (fg CA.bR CA.cm_SplitFamily___init___W (aL.g 6) hr (aa (pv 0) (aa az ae)))),?_⟩;exact⟨_,rfl,x,dx,_,_,rfl,hx,CA.c4 2 (by decide),CA.na4_word 2 (by decide),CA.na4_least 2 (by decide),fun fs H' e f=>q fs H' e f⟩
theorem LF(aL:Al P w K mg base ca er 12)(F:bB K ca 12 "__init__" "Stairs.__init__" sO):D P w K mg base ca er 12:=by
 refine bE F (fun _ _ _ _ _ _=>aZ fun _=>rfl) (F.ok MU (fun vs H Q E h=>?_) (fun cZ AZ oZ sZ H vs Q E hr h=>?_))
 ·obtain⟨x,dx,rfl,hx,q⟩:=h
  rfl
 obtain⟨x,dx,rfl,hx,q⟩:=h;refine⟨_,ah (aQ (fg CA.bR CA.cm_SplitFamily___init___W (aL.g 6) hr (aa (pv 0) (aa az ae)))),?_⟩;exact⟨_,rfl,x,dx,_,_,rfl,hx,CA.c4 1 (by decide),CA.na4_word 1 (by decide),CA.na4_least 1 (by decide),fun fs H' e f=>q fs H' e f⟩
theorem Oh(aL:Al P w K mg base ca er 13)(F:bB K ca 13 "__init__" "Brackets.__init__" xI):D P w K mg base ca er 13:=by
 refine bE F (fun _ _ _ _ _ _=>aZ fun _=>rfl) (F.ok NM (fun vs H Q E h=>?_) (fun cZ AZ oZ sZ H vs Q E hr h=>?_))
 ·obtain⟨x,dx,rfl,hx,q⟩:=h
  rfl
 obtain⟨x,dx,rfl,hx,q⟩:=h;refine⟨_,ah (aQ (fg CA.bR CA.cm_SplitFamily___init___W (aL.g 6) hr (aa (pv 0) (aa az ae)))),?_⟩;exact⟨_,rfl,x,dx,_,_,rfl,hx,CA.c4 0 (by decide),CA.na4_word 0 (by decide),CA.na4_least 0 (by decide),fun fs H' e f=>q fs H' e f⟩
theorem Ly(aL:Al P w K mg base ca er 14)(F:Fg K mg ca 14 "split_families" uU):D P w K mg base ca er 14:=by
 refine bg F (fun _ _ _ _ _ _=>qX rfl) (F.F.ok FG (fun vs H Q E h=>?_) (fun cZ AZ oZ sZ H vs Q E hr h=>?_))
 ·obtain⟨rfl,q⟩:=h
  rfl
 obtain⟨rfl,q⟩:=h;refine⟨_,ah (ar (aK (aa (dM CA.mk_Brackets CA.uf (aL.g 13) hr) (aa (dM CA.mk_Stairs CA.zp (aL.g 12) hr) (aa (dM CA.mk_Twins CA.D4 (aL.g 11) hr) (aa (dM CA.mk_Bows CA.JT (aL.g 10) hr) (aa (dM CA.mk_Rooms CA.E8 (aL.g 9) hr) (aa (dM CA.mk_Floors CA.zj (aL.g 8) hr) (aa (dM CA.mk_Turns CA.EE (aL.g 7) hr) ae))))))))),?_⟩;intro x0 dx0 nx0 ndx0 nex0;refine⟨x0,dx0,rfl,ag,fun fs0 H1 e0 fl0=>⟨rfl,?_⟩⟩;obtain⟨s0,pr0⟩:=de nx0 ndx0 e0 fl0;clear e0;have t0:=s0;have pp0:=pr0;intro x1 dx1 nx1 ndx1 nex1;refine⟨x1,dx1,rfl,ag,fun fs1 H2 e1 fl1=>⟨rfl,?_⟩⟩;obtain⟨s1,pr1⟩:=de nx1 ndx1 e1 fl1;clear e1;have t1:=t0.trans s1;have pp1:=cF (bA pp0 s1) pr1;clear pp0;intro x2 dx2 nx2 ndx2 nex2;refine⟨x2,dx2,rfl,ag,fun fs2 H3 e2 fl2=>⟨rfl,?_⟩⟩;obtain⟨s2,pr2⟩:=de nx2 ndx2 e2 fl2;clear e2;have t2:=t1.trans s2;have pp2:=cF (bA pp1 s2) pr2;clear pp1;intro x3 dx3 nx3 ndx3 nex3;refine⟨x3,dx3,rfl,ag,fun fs3 H4 e3 fl3=>⟨rfl,?_⟩⟩;obtain⟨s3,pr3⟩:=de nx3 ndx3 e3 fl3;clear e3;have t3:=t2.trans s3;have pp3:=cF (bA pp2 s3) pr3;clear pp2;intro x4 dx4 nx4 ndx4 nex4;refine⟨x4,dx4,rfl,ag,fun fs4 H5 e4 fl4=>⟨rfl,?_⟩⟩;obtain⟨s4,pr4⟩:=de nx4 ndx4 e4 fl4;clear e4;have t4:=t3.trans s4;have pp4:=cF (bA pp3 s4) pr4;clear pp3;intro x5 dx5 nx5 ndx5 nex5;refine⟨x5,dx5,rfl,ag,fun fs5 H6 e5 fl5=>⟨rfl,?_⟩⟩;obtain⟨s5,pr5⟩:=de nx5 ndx5 e5 fl5;clear e5;have t5:=t4.trans s5;have pp5:=cF (bA pp4 s5) pr5;clear pp4;intro x6 dx6 nx6 ndx6 nex6;refine⟨x6,dx6,rfl,ag,fun fs6 H7 e6 fl6=>⟨rfl,?_⟩⟩;obtain⟨s6,pr6⟩:=de nx6 ndx6 e6 fl6;clear e6;have t6:=t5.trans s6;have pp6:=cF (bA pp5 s6) pr6;clear pp5;refine⟨(by show 7<=sizeLine;decide),fun p hp=>?_⟩;exact q p _ _ (af.new t6 hp _) (t6.free hp) ag (bA pp6 (af.new (af.refl _) hp _))
theorem Og(aL:Al P w K mg base ca er 15)(F:bB K ca 15 "__init__" "RingFamily.__init__" yl):D P w K mg base ca er 15:=by
 refine bE F (fun _ _ _ _ _ _=>cE fun _ _=>rfl) (F.ok Oz (fun vs H Q E h=>?_) (fun cZ AZ oZ sZ H vs Q E hr h=>?_))
 ·obtain⟨x,dx,c,w,rfl,hx,k1,k2,k3,q⟩:=h
  rfl
 obtain⟨x,dx,c,w,rfl,hx,k1,k2,k3,q⟩:=h;refine⟨_,ah (aQ (fg CA.fB CA.cm_Family___init___W (aL.g 5) hr (aa (pv 0) (aa (pv 1) (aa ak ae))))),?_⟩;exact⟨_,rfl,_,rfl,x,dx,c,w,1,rfl,hx,k1,k2,k3,fun fs H' e f=>q fs H' e f⟩
theorem Lb(aL:Al P w K mg base ca er 16)(F:bB K ca 16 "__init__" "Cars.__init__" uP):D P w K mg base ca er 16:=by
 refine bE F (fun _ _ _ _ _ _=>aZ fun _=>rfl) (F.ok HB (fun vs H Q E h=>?_) (fun cZ AZ oZ sZ H vs Q E hr h=>?_))
 ·obtain⟨x,dx,rfl,hx,q⟩:=h
  rfl
 obtain⟨x,dx,rfl,hx,q⟩:=h;refine⟨_,ah (aQ (fg CA.dW CA.cm_RingFamily___init___W (aL.g 15) hr (aa (pv 0) (aa az ae)))),?_⟩;exact⟨_,rfl,x,dx,_,_,rfl,hx,CA.c4 9 (by decide),CA.na4_word 9 (by decide),CA.na4_least 9 (by decide),fun fs H' e f=>q fs H' e f⟩
theorem Ju(aL:Al P w K mg base ca er 17)(F:bB K ca 17 "__init__" "Trees.__init__" uo):D P w K mg base ca er 17:=by
 refine bE F (fun _ _ _ _ _ _=>aZ fun _=>rfl) (F.ok Iz (fun vs H Q E h=>?_) (fun cZ AZ oZ sZ H vs Q E hr h=>?_))
 ·obtain⟨x,dx,rfl,hx,q⟩:=h
  rfl
 obtain⟨x,dx,rfl,hx,q⟩:=h;refine⟨_,ah (aQ (fg CA.dW CA.cm_RingFamily___init___W (aL.g 15) hr (aa (pv 0) (aa az ae)))),?_⟩;exact⟨_,rfl,x,dx,_,_,rfl,hx,CA.c4 8 (by decide),CA.na4_word 8 (by decide),CA.na4_least 8 (by decide),fun fs H' e f=>q fs H' e f⟩
theorem KI(aL:Al P w K mg base ca er 18)(F:bB K ca 18 "__init__" "Codes.__init__" tE):D P w K mg base ca er 18:=by
 refine bE F (fun _ _ _ _ _ _=>aZ fun _=>rfl) (F.ok IG (fun vs H Q E h=>?_) (fun cZ AZ oZ sZ H vs Q E hr h=>?_))
 ·obtain⟨x,dx,rfl,hx,q⟩:=h
  rfl
 obtain⟨x,dx,rfl,hx,q⟩:=h;refine⟨_,ah (aQ (fg CA.dW CA.cm_RingFamily___init___W (aL.g 15) hr (aa (pv 0) (aa az ae)))),?_⟩;exact⟨_,rfl,x,dx,_,_,rfl,hx,CA.c4 7 (by decide),CA.na4_word 7 (by decide),CA.na4_least 7 (by decide),fun fs H' e f=>q fs H' e f⟩
theorem GJ(aL:Al P w K mg base ca er 19)(F:Fg K mg ca 19 "ring_families" rE):D P w K mg base ca er 19:=by
 refine bg F (fun _ _ _ _ _ _=>qX rfl) (F.F.ok JX (fun vs H Q E h=>?_) (fun cZ AZ oZ sZ H vs Q E hr h=>?_))
 ·obtain⟨rfl,q⟩:=h
  rfl
 obtain⟨rfl,q⟩:=h;refine⟨_,ah (ar (aK (aa (dM CA.mk_Codes CA.EL (aL.g 18) hr) (aa (dM CA.mk_Trees CA.D8 (aL.g 17) hr) (aa (dM CA.mk_Cars CA.M8 (aL.g 16) hr) ae))))),?_⟩;intro x0 dx0 nx0 ndx0 nex0;refine⟨x0,dx0,rfl,ag,fun fs0 H1 e0 fl0=>⟨rfl,?_⟩⟩;obtain⟨s0,pr0⟩:=de nx0 ndx0 e0 fl0;clear e0;have t0:=s0;have pp0:=pr0;intro x1 dx1 nx1 ndx1 nex1;refine⟨x1,dx1,rfl,ag,fun fs1 H2 e1 fl1=>⟨rfl,?_⟩⟩;obtain⟨s1,pr1⟩:=de nx1 ndx1 e1 fl1;clear e1;have t1:=t0.trans s1;have pp1:=cF (bA pp0 s1) pr1;clear pp0;intro x2 dx2 nx2 ndx2 nex2;refine⟨x2,dx2,rfl,ag,fun fs2 H3 e2 fl2=>⟨rfl,?_⟩⟩;obtain⟨s2,pr2⟩:=de nx2 ndx2 e2 fl2;clear e2;have t2:=t1.trans s2;have pp2:=cF (bA pp1 s2) pr2;clear pp1;refine⟨(by show 3<=sizeLine;decide),fun p hp=>?_⟩;exact q p _ _ (af.new t2 hp _) (t2.free hp) ag (bA pp2 (af.new (af.refl _) hp _))
theorem M9(aL:Al P w K mg base ca er 20)(F:Fg K mg ca 20 "family_of" sg):D P w K mg base ca er 20:=by
 refine AW F (fun _ _ _ _ _ _=>aZ fun _=>rfl) (F.F.okE wt (fun vs H Q E h=>?_) (fun cZ AZ oZ sZ H vs Q E hr h=>?_))
 ·obtain⟨w,rfl,q⟩:=h
  rfl
 obtain⟨w,rfl,q⟩:=h;refine⟨_,ai (bH PassesOwn.leaving rfl (a8 (au iQ (dJ (aL.g 14) hr) (dJ (aL.g 19) hr))) (ax (i:=1) wt.nd rfl (SI rfl)) (ah (aO (ay b6 (eA (pv 1) rfl) (pv 0) (aB _)) (ah (ar (pv 1))) aG))) (ah (jP dP (EO.x 4 (by decide)) rfl (EO.m 4 (by decide)) (aa az ae))),?_⟩;refine⟨rfl,fun p1 xs1 H1 s1 f1 h1 pr1=>⟨rfl,fun p2 xs2 H2 s2 f2 h2 pr2=>?_⟩⟩;have e2:=pr2.length;have e1:=pr1.length;refine⟨p1,p2,xs1,xs2,rfl,rfl,s2 _ _ h1,h2,(by rw[e1,e2];show 10<=sizeLine;decide),fun pc hpc=>?_⟩;have s3:=af.new (af.refl H2) hpc (.lst (xs1++xs2));have pr:TY (c6 (upd H2 pc (.lst (xs1++xs2)))) (xs1++xs2) (za ca):=cF (bA pr1 (s2.trans s3)) (bA pr2 s3);have hc:upd H2 pc (.lst (xs1++xs2)) pc=some (.lst (xs1++xs2)):=ag;have s4:=(s1.trans s2).trans s3;generalize upd H2 pc (.lst (xs1++xs2))=H3 at s4 pr hc|-;have l:=pr.length;have l10:(xs1++xs2).length=10:=l;refine⟨pc,rfl,⟨_,ao.of hc⟩,dv (xs:=xs1++xs2) (fun i σ H'=>∃(o1:Option V),σ=[some (.str w),o1]/\H3=H'/\∀j,j<i->j<10->wd j≠w) ⟨_,rfl,rfl,fun j hj=>absurd hj (UC _)⟩ (fun i σ H' _ h=>by obtain⟨_,_,e,_⟩:=h;rw[<-e];exact ao.of hc) ?_ ?_⟩
 ·rintro i v σ H' hv ⟨o1,rfl,rfl,hij⟩
  have hi:i<10:=by have:=(Pi.mp hv).1;lia
  obtain⟨g,hg,x,dx,fs,rfl,hx,fl⟩:=qt pr hv;rw[rj ca i hi]at hg;cases hg;refine⟨_,rfl,x,_,dx,fs,_,rfl,hx,CA.c4 i hi,CA.na4_word i hi,fl.word,_,rfl,rfl,_,rfl,?_⟩;by_cases e:wd i=w
  ·refine cw (congrArg V.str e) ⟨_,rfl,?_⟩
   rcases q with⟨j,hj,ej,q⟩| ⟨nw,_⟩
   ·have:i=j:=wB hi hj (e.trans ej)
    subst this;exact q x dx fs H3 s4 hx fl
   ·exact absurd (e▸S5 (ko i hi)) nw
  ·refine cf (fun z=>e (by injection z)) ⟨_,rfl,rfl,fun j hj h10=>?_⟩
   by_cases ej:j=i;·rw[ej];exact e
   ·exact hij j (by lia) h10
 ·rintro σ H' ⟨o1,rfl,rfl,hij⟩
  rcases q with⟨j,hj,ej,_⟩| ⟨_,q⟩;·exact absurd ej.symm (hij j (by lia) hj)
  ·exact⟨sz (n:=1) (by decide),q H3 s4⟩
theorem M3(aL:Al P w K mg base ca er 21)(F:Fg K mg ca 21 "cars_rootage" uN):D P w K mg base ca er 21:=by
 refine bg F (fun _ _ _ _ _ _=>aZ fun _=>rfl) (F.F.ok Gu (fun vs H Q E h=>?_) (fun cZ AZ oZ sZ H vs Q E hr h=>?_))
 ·obtain⟨v,rfl,th,q⟩:=h
  rfl
 obtain⟨v,rfl,th,q⟩:=h;refine⟨_,ah (ar (bK P3 UJ Vh gb (pv 0) (aa ak ae))),?_⟩;obtain⟨l,rfl,hl⟩:=th;obtain⟨ns,ens⟩:∃ns:List Int,ns=[0]:=⟨_,rfl⟩;have hl:H l=some (.lst (ns.map V.int)):=by rw[ens];exact hl
 have hz:ns.length<=100:=by rw[ens];decide
 have q:∀H',af H H'->Q (.int (((ns.count 0:Nat)))) H':=fun H' s=>by
  have e:(((ns.count 0:Nat)):Int)=1:=by rw[ens];decide
  rw[e];exact q H' s
 exact⟨_,rfl,.inl ⟨rfl,_,ao.of hl⟩,l,ns,0,rfl,rfl,ao.of hl,q H (af.refl H)⟩
theorem FR(aL:Al P w K mg base ca er 22)(F:Fg K mg ca 22 "missing" rm):D P w K mg base ca er 22:=by
 refine bg F (fun _ _ _ _ _ _=>cE fun _ _=>rfl) (F.F.ok Mi (fun vs H Q E h=>?_) (fun cZ AZ oZ sZ H vs Q E hr h=>?_))
 ·obtain⟨l,m,ns,ms,rfl,hl,hm,hz,q⟩:=h
  rfl
 obtain⟨l,m,ns,ms,rfl,hl,hm,hz,q⟩:=h;refine⟨_,ah (ar (av aH rfl CA.bt bb (aa (bh rfl (a8 (pv 0)) rfl rfl rfl rfl (N:=["number","among"]) (.own (.cap (j:=1) rfl rfl rfl .nil)) (fun _ _ _ _ _ _=>(ax (i:=0) (by show S8 (["number","among"]:List Str);decide+kernel) rfl (SI rfl))) (fun _ _ _ _ _ _=>(cN (ay (mq (K:=K) rfl) (pv 0) (pv 1) (by rfl)))) (fun _ _ _ _ _ _=>(pv 0))) ae))),?_⟩;have lm:(ns.map V.int).length=ns.length:=FS _;refine⟨_,rfl,l,rfl,⟨_,ao.of hl⟩,fun D hD=>cX (xs:=ns.map V.int) (fun j ys H'=>af H H'/\H' D=some (.lst ys)/\ys=(frees ms (ns.take j)).map V.int) (by rw[lm];exact sz (by lia)) ⟨af.new (af.refl H) hD _,ag,rfl⟩ (fun j ys H' hj h=>⟨ao.of (h.1 _ _ hl),?_⟩) (fun j u ys H' R R0 hu h r r0=>?_) (fun ys H' h=>?_)⟩
 ·rw[h.2.2,FS]
  unfold frees;exact Tt (XF _ _) (by rw[Tj];lia)
 ·obtain⟨sj,hy,ey⟩:=h
  obtain⟨k,rfl⟩:=dw hu;have hkj:ns[j]?=some k:=by rw[Td]at hu;cases h:ns[j]? with
   |none=>rw[h]at hu;cases hu
   |some d=>rw[h]at hu;injection hu with hu;injection hu with hu;rw[hu]
  refine⟨Ext.set rfl,_,rfl,_,rfl,k,m,ms,rfl,rfl,ao.of (sj _ _ hm),_,rfl,?_⟩;by_cases hin':k∈ms
  ·refine dS hin' (r0 _ ⟨sj,hy,?_⟩)
   rw[kP hkj,if_pos hin',T7];exact ey
  ·refine fX hin' ⟨_,rfl,r _ _ hy ⟨sj.upd hD _,ag,?_⟩⟩
   rw[kP hkj,if_neg hin',SV,<-ey];rfl
 ·obtain⟨s6,hy,ey⟩:=h
  rw[lm,List.take_length]at ey;refine⟨D,_,rfl,.inl (ao.of hy),?_⟩;rw[ey,FS];exact q _ s6
theorem Hv(aL:Al P w K mg base ca er 23)(F:Fg K mg ca 23 "cars_leaves" u7):D P w K mg base ca er 23:=by
 refine bg F (fun _ _ _ _ _ _=>aZ fun _=>rfl) (F.F.ok KL (fun vs H Q E h=>?_) (fun cZ AZ oZ sZ H vs Q E hr h=>?_))
 ·obtain⟨v,rfl,th,q⟩:=h
  rfl
 obtain⟨v,rfl,th,q⟩:=h;refine⟨_,ah (ar (aM (aL.g 22) hr (aa (v8 rfl rfl CA.dH rfl CA.bG (aa (au ba (av aH rfl CA.bt bb (aa (pv 0) ae)) ak) ae)) (aa (pv 0) ae)))),?_⟩;obtain⟨l,rfl,hl⟩:=th;obtain⟨ns,ens⟩:∃ns:List Int,ns=[0]:=⟨_,rfl⟩;have hl:H l=some (.lst (ns.map V.int)):=by rw[ens];exact hl
 have hz:ns.length<=100:=by rw[ens];decide
 have q:∀H',af H H'->Q (.int (ft 0 (ns.length+1) ns)) H':=fun H' s=>by
  have e:(ft 0 (ns.length+1) ns:Int)=1:=by rw[ens];decide
  rw[e];exact q H' s
 have lm:(ns.map V.int).length=ns.length:=FS _;refine⟨_,rfl,l,_,rfl,.inl (ao.of hl),_,_,rfl,rfl,_,rfl,by lia,by lia,by lia,fun D hD=>?_⟩;rw[show((((ns.map V.int).length:Nat):Int)+1).toNat=(ns.length+1)by lia,pD];exact⟨_,rfl,D,l,m6 0 (ns.length+1),ns,rfl,ag,(af.new (af.refl H) hD _) _ _ hl,by rw[lV];lia,fun H' s=>q H' ((af.new (af.refl H) hD _).trans s)⟩
theorem GY(aL:Al P w K mg base ca er 24)(F:Fg K mg ca 24 "trees_rootage" rT):D P w K mg base ca er 24:=by
 refine bg F (fun _ _ _ _ _ _=>aZ fun _=>rfl) (F.F.ok Jn (fun vs H Q E h=>?_) (fun cZ AZ oZ sZ H vs Q E hr h=>?_))
 ·obtain⟨v,rfl,th,q⟩:=h
  rfl
 obtain⟨v,rfl,th,q⟩:=h;refine⟨_,ah (ar (bK P3 UJ Vh gb (pv 0) (aa ak ae))),?_⟩;obtain⟨l,rfl,hl⟩:=th;obtain⟨ns,ens⟩:∃ns:List Int,ns=[0]:=⟨_,rfl⟩;have hl:H l=some (.lst (ns.map V.int)):=by rw[ens];exact hl
 have hz:ns.length<=100:=by rw[ens];decide
 have q:∀H',af H H'->Q (.int (((ns.count 0:Nat)))) H':=fun H' s=>by
  have e:(((ns.count 0:Nat)):Int)=1:=by rw[ens];decide
  rw[e];exact q H' s
 exact⟨_,rfl,.inl ⟨rfl,_,ao.of hl⟩,l,ns,0,rfl,rfl,ao.of hl,q H (af.refl H)⟩
theorem ID(aL:Al P w K mg base ca er 25)(F:Fg K mg ca 25 "trees_leaves" rP):D P w K mg base ca er 25:=by
 refine bg F (fun _ _ _ _ _ _=>aZ fun _=>rfl) (F.F.ok Lf (fun vs H Q E h=>?_) (fun cZ AZ oZ sZ H vs Q E hr h=>?_))
 ·obtain⟨v,rfl,th,q⟩:=h
  rfl
 obtain⟨v,rfl,th,q⟩:=h;refine⟨_,ah (ar (aM (aL.g 22) hr (aa (oO rfl rfl CA.dH rfl CA.bG (aa ak (aa (au ba (av aH rfl CA.bt bb (aa (pv 0) ae)) ak) ae))) (aa (pv 0) ae)))),?_⟩;obtain⟨l,rfl,hl⟩:=th;obtain⟨ns,ens⟩:∃ns:List Int,ns=[0]:=⟨_,rfl⟩;have hl:H l=some (.lst (ns.map V.int)):=by rw[ens];exact hl
 have hz:ns.length<=100:=by rw[ens];decide
 have q:∀H',af H H'->Q (.int (ft 1 ns.length ns)) H':=fun H' s=>by
  have e:(ft 1 ns.length ns:Int)=1:=by rw[ens];decide
  rw[e];exact q H' s
 have lm:(ns.map V.int).length=ns.length:=FS _;refine⟨_,rfl,l,_,rfl,.inl (ao.of hl),_,_,rfl,rfl,_,_,rfl,⟨by decide,by decide,by lia,by lia⟩,by lia,fun D hD=>?_⟩;rw[show((((ns.map V.int).length:Nat):Int)+1-1).toNat=ns.length by lia,pD];exact⟨_,rfl,D,l,m6 1 ns.length,ns,rfl,ag,(af.new (af.refl H) hD _) _ _ hl,by rw[lV];lia,fun H' s=>q H' ((af.new (af.refl H) hD _).trans s)⟩
theorem Jl(aL:Al P w K mg base ca er 26)(F:Fg K mg ca 26 "codes_rootage" tI):D P w K mg base ca er 26:=by
 refine bg F (fun _ _ _ _ _ _=>aZ fun _=>rfl) (F.F.ok Ig (fun vs H Q E h=>?_) (fun cZ AZ oZ sZ H vs Q E hr h=>?_))
 ·obtain⟨v,rfl,th,q⟩:=h
  rfl
 obtain⟨v,rfl,th,q⟩:=h;refine⟨_,ah (ar (au ba ak (bK P3 UJ Vh gb (pv 0) (aa ak ae)))),?_⟩;obtain⟨l,rfl,hl⟩:=th;obtain⟨ns,ens⟩:∃ns:List Int,ns=[]:=⟨_,rfl⟩;have hl:H l=some (.lst (ns.map V.int)):=by rw[ens];exact hl
 have hz:ns.length<=100:=by rw[ens];decide
 have q:∀H',af H H'->Q (.int (1+(ns.count 0:Nat))) H':=fun H' s=>by
  have e:(1+(ns.count 0:Nat):Int)=1:=by rw[ens];decide
  rw[e];exact q H' s
 exact⟨_,rfl,.inl ⟨rfl,_,ao.of hl⟩,l,ns,0,rfl,rfl,ao.of hl,_,_,rfl,rfl,q H (af.refl H)⟩
theorem Kb(aL:Al P w K mg base ca er 27)(F:Fg K mg ca 27 "codes_leaves" t7):D P w K mg base ca er 27:=by
 refine bg F (fun _ _ _ _ _ _=>aZ fun _=>rfl) (F.F.ok Nm (fun vs H Q E h=>?_) (fun cZ AZ oZ sZ H vs Q E hr h=>?_))
 ·obtain⟨v,rfl,th,q⟩:=h
  rfl
 obtain⟨v,rfl,th,q⟩:=h;refine⟨_,ah (ar (aM (aL.g 22) hr (aa (oO rfl rfl CA.dH rfl CA.bG (aa ak (aa (au ba (av aH rfl CA.bt bb (aa (pv 0) ae)) ak) ae))) (aa (pv 0) ae)))),?_⟩;obtain⟨l,rfl,hl⟩:=th;obtain⟨ns,ens⟩:∃ns:List Int,ns=[]:=⟨_,rfl⟩;have hl:H l=some (.lst (ns.map V.int)):=by rw[ens];exact hl
 have hz:ns.length<=100:=by rw[ens];decide
 have q:∀H',af H H'->Q (.int (ft 1 (ns.length+1) ns)) H':=fun H' s=>by
  have e:(ft 1 (ns.length+1) ns:Int)=1:=by rw[ens];decide
  rw[e];exact q H' s
 have lm:(ns.map V.int).length=ns.length:=FS _;refine⟨_,rfl,l,_,rfl,.inl (ao.of hl),_,_,rfl,rfl,_,_,rfl,⟨by decide,by decide,by lia,by lia⟩,by lia,fun D hD=>?_⟩;rw[show((((ns.map V.int).length:Nat):Int)+2-1).toNat=(ns.length+1)by lia,pD];exact⟨_,rfl,D,l,m6 1 (ns.length+1),ns,rfl,ag,(af.new (af.refl H) hD _) _ _ hl,by rw[lV];lia,fun H' s=>q H' ((af.new (af.refl H) hD _).trans s)⟩
theorem LB(aL:Al P w K mg base ca er 28)(F:Fg K mg ca 28 "turns_height" uz):D P w K mg base ca er 28:=by
 refine bg F (fun _ _ _ _ _ _=>aZ fun _=>rfl) (F.F.ok iW (fun vs H Q E h=>?_) (fun cZ AZ oZ sZ H vs Q E hr h=>?_))
 ·obtain⟨v,rfl,th,q⟩:=h
  rfl
 obtain⟨v,rfl,th,q⟩:=h;refine⟨_,ai (aA (i:=1) iW.nd rfl (WA rfl) (aK ae)) (ai (bH S9 rfl (eN rfl CA.cG (aa (pv 0) ae)) (gQ rfl (aJ (ax (i:=2) iW.nd rfl (SI rfl)) (aJ (ax (i:=3) iW.nd rfl (WA rfl)) bP))) (ai (gY (i:=4) iW.nd rfl (SI rfl) rfl rfl (cn rfl CA.bG (aa (pv 2) ae)) rfl rfl rfl rfl (N:=["k","longest","number","thing"]) (.own (.cap (j:=1) rfl rfl rfl (.cap (j:=3) rfl rfl rfl (.cap (j:=0) rfl rfl rfl .nil)))) (fun _ _ _ _ _ _=>(ax (i:=0) (by show S8 (["k","longest","number","thing"]:List Str);decide+kernel) rfl (SI rfl))) (fun _ _ _ _ _ _=>(cN (ay je (aV (eM (K:=K) rfl) (pv 3) (pv 0) (fun _ _=>rfl)) (pv 2) (aB _)))) (fun _ _ _ _ _ _=>(aV (eM (K:=K) rfl) (pv 1) (pv 0) (fun _ _=>rfl)))) (ah (aQ (bK P3 SZ S1 bp (pv 1) (aa (au ba ak (eV (e8 rfl) rfl CA.g6 fF (aa (pv 4) ae) (gD ak i4))) ae))))))
  (ah (ar (eV (e8 rfl) rfl CA.g6 fF (aa (pv 1) ae) (gD ak i4))))),?_⟩
 obtain⟨p,rfl,hp⟩:=th;refine⟨KM _,fun pl hpl=>?_⟩;have s1:=af.new (af.refl H) hpl (.lst []);refine⟨_,rfl,p,rfl,⟨_,ao.of (s1 _ _ hp)⟩,jX (xs:=[]) (fun i σ H'=>∃(o1 o2 o3:Option V),σ=[some (.ref p),some (.ref pl),o1,o2,o3]/\af H H'/\H' pl=some (.lst (([]:List Int).map V.int))) ⟨_,_,_,rfl,s1,ag⟩ (fun i σ H' _ h=>by obtain⟨_,_,_,_,sm,_⟩:=h;exact ao.of (sm _ _ hp)) ?_ ?_⟩
 ·rintro i v σ H' T hv _ _
  cases hv
 ·rintro σ H' ⟨o1,o2,o3,rfl,sm,h⟩
  exact⟨_,rfl,pl,.int 0,rfl,rfl,ao.of h,q _ sm⟩
theorem LD(aL:Al P w K mg base ca er 29)(F:Fg K mg ca 29 "turns_returns" rN):D P w K mg base ca er 29:=by
 refine bg F (fun _ _ _ _ _ _=>aZ fun _=>rfl) (F.F.ok Hu (fun vs H Q E h=>?_) (fun cZ AZ oZ sZ H vs Q E hr h=>?_))
 ·obtain⟨v,rfl,th,q⟩:=h
  rfl
 obtain⟨v,rfl,th,q⟩:=h;refine⟨_,ah (ar (av aH rfl CA.bt bb (aa (bh rfl (eN rfl CA.cG (aa (pv 0) ae)) rfl rfl rfl rfl (N:=["place","number","thing"]) (.own (.own (.cap (j:=0) rfl rfl rfl .nil))) (fun _ _ _ _ _ _=>(cQ (K:=K) (n:=2) rfl rfl (aJ (ax (i:=0) (by show S8 (["place","number","thing"]:List Str);decide+kernel) rfl (SI rfl)) (aJ (ax (i:=1) (by show S8 (["place","number","thing"]:List Str);decide+kernel) rfl (SI rfl)) bP)))) (fun _ _ _ _ _ _=>(cN (ay b6 (pv 1) (av (sR (K:=K) rfl rfl) rfl CA.sD oF (aa (cu (jT (K:=K) rfl) (pv 2) (cV (pv 0)) cU) ae)) (aB _)))) (fun _ _ _ _ _ _=>(pv 0))) ae))),?_⟩;obtain⟨p,rfl,hp⟩:=th;exact⟨_,rfl,p,rfl,⟨_,ao.of hp⟩,fun D hD=>oQ hp hD fun H1 s1 h1=>⟨D,_,rfl,.inl (ao.of h1),q _ s1⟩⟩
theorem KR(aL:Al P w K mg base ca er 30)(F:Fg K mg ca 30 "turns_peaks" uJ):D P w K mg base ca er 30:=by
 refine bg F (fun _ _ _ _ _ _=>aZ fun _=>rfl) (F.F.ok Lq (fun vs H Q E h=>?_) (fun cZ AZ oZ sZ H vs Q E hr h=>?_))
 ·obtain⟨v,rfl,th,q⟩:=h
  rfl
 obtain⟨v,rfl,th,q⟩:=h;refine⟨_,ah (ar (au cz (av aH rfl CA.bt bb (aa (pv 0) ae)) (av aH rfl CA.bt bb (aa (bh rfl (Hj rfl CA.Dp (aa (pv 0) (aa (cu ml (pv 0) (cV ak) cU) ae))) rfl rfl rfl rfl (N:=["a","b"]) (.own (.own .nil)) (fun _ _ _ _ _ _=>(cQ (K:=K) (n:=2) rfl rfl (aJ (ax (i:=0) (by show S8 (["a","b"]:List Str);decide+kernel) rfl (SI rfl)) (aJ (ax (i:=1) (by show S8 (["a","b"]:List Str);decide+kernel) rfl (SI rfl)) bP)))) (fun _ _ _ _ _ _=>(cN (ay dz (pv 1) (pv 0) (aB _)))) (fun _ _ _ _ _ _=>(pv 0))) ae)))),?_⟩;obtain⟨p,rfl,hp⟩:=th;refine⟨_,rfl,p,_,rfl,.inl (ao.of hp),_,rfl,_,rfl,_,rfl,p,_,rfl,ao.of hp,fun p2 hp2=>?_⟩;have ec:dX ([]:List V) (some 1) none=[]:=rfl;have s1:=af.new (af.refl H) hp2 (.lst (dX ([]:List V) (some 1) none));exact⟨p,p2,rfl,⟨_,ao.of (s1 _ _ hp)⟩,⟨_,ao.of ag⟩,fun D hD=>ML (s1 _ _ hp) (by rw[ag,ec]) hD fun H2 s2 h2=>⟨D,_,rfl,.inl (ao.of h2),_,_,rfl,rfl,q _ (s1.trans s2)⟩⟩
theorem Kr(aL:Al P w K mg base ca er 31)(F:Fg K mg ca 31 "third_corner" ua):D P w K mg base ca er 31:=by
 refine bg F (fun _ _ _ _ _ _=>iw fun _ _ _=>rfl) (F.F.ok Jm (fun vs H Q E h=>?_) (fun cZ AZ oZ sZ H vs Q E hr h=>?_))
 ·obtain⟨a,b,c,rfl,q⟩:=h
  rfl
 obtain⟨a,b,c,rfl,q⟩:=h;refine⟨_,eW,?_⟩;exact q.elim
theorem Ji(aL:Al P w K mg base ca er 32)(F:Fg K mg ca 32 "triangles" sQ):D P w K mg base ca er 32:=by
 refine bg F (fun _ _ _ _ _ _=>aZ fun _=>rfl) (F.F.ok kx (fun vs H Q E h=>?_) (fun cZ AZ oZ sZ H vs Q E hr h=>?_))
 ·obtain⟨t,l,rfl,ht,q⟩:=h
  rfl
 obtain⟨t,l,rfl,ht,q⟩:=h;refine⟨_,ai (aA (i:=1) kx.nd rfl (SI rfl) (au cz (aV fR (pv 0) ak (fun _ _=>rfl)) ak)) (ai (aA (i:=2) kx.nd rfl (WA rfl) (aV fR (pv 0) ak (fun _ _=>rfl))) (ai (aA (i:=3) kx.nd rfl (SI rfl) (yA (ay je (pv 1) ak (aB _)) (au iQ (pv 2) (aK (aa (cD (aa ak (aa (pv 1) ae))) ae))) (aK ae)))
  (ah (ar (bh rfl (a8 (pv 3)) rfl rfl rfl rfl (N:=["a","b","cuts"]) (.own (.own (.cap (j:=2) rfl rfl rfl .nil))) (fun _ _ _ _ _ _=>(cQ (K:=K) (n:=2) rfl rfl (aJ (ax (i:=0) (by show S8 (["a","b","cuts"]:List Str);decide+kernel) rfl (SI rfl)) (aJ (ax (i:=1) (by show S8 (["a","b","cuts"]:List Str);decide+kernel) rfl (SI rfl)) bP)))) (fun _ _ _ _ _ _=>bQ) (fun _ _ _ _ _ _=>(cD (aa (pv 0) (aa (aM (aL.g 31) hr (aa (pv 2) (aa (pv 0) (aa (pv 1) ae)))) (aa (pv 1) ae)))))))))),?_⟩
 refine⟨_,rfl,t,_,_,_,rfl,rfl,bN.of ht,rfl,_,_,rfl,rfl,?_⟩;refine⟨_,rfl,t,_,_,_,rfl,rfl,bN.of ht,rfl,?_⟩;refine⟨_,rfl,_,_,rfl,rfl,_,rfl,cf (by decide) ⟨KM _,fun pl hpl=>?_⟩⟩;have s1:=af.new (af.refl H) hpl (.lst []);exact⟨_,rfl,pl,rfl,⟨_,ao.of ag⟩,fun D hD=>fU ag hD fun H1 k1 h1=>q D H1 (s1.trans k1) h1⟩
theorem HN(aL:Al P w K mg base ca er 33)(F:Fg K mg ca 33 "floor_returns" uB):D P w K mg base ca er 33:=by
 refine bg F (fun _ _ _ _ _ _=>aZ fun _=>rfl) (F.F.ok Lx (fun vs H Q E h=>?_) (fun cZ AZ oZ sZ H vs Q E hr h=>?_))
 ·obtain⟨v,rfl,th,q⟩:=h
  rfl
 obtain⟨v,rfl,th,q⟩:=h;refine⟨_,ah (ar (av aH rfl CA.bt bb (aa (bh rfl (a8 (aM (aL.g 32) hr (aa (pv 0) ae))) rfl rfl rfl rfl (N:=["least","middle","greatest","thing"]) (.own (.own (.own (.cap (j:=0) rfl rfl rfl .nil)))) (fun _ _ _ _ _ _=>(cQ (K:=K) (n:=3) rfl rfl (aJ (ax (i:=0) (by show S8 (["least","middle","greatest","thing"]:List Str);decide+kernel) rfl (SI rfl)) (aJ (ax (i:=1) (by show S8 (["least","middle","greatest","thing"]:List Str);decide+kernel) rfl (SI rfl)) (aJ (ax (i:=2) (by show S8 (["least","middle","greatest","thing"]:List Str);decide+kernel) rfl (SI rfl)) bP))))) (fun _ _ _ _ _ _=>(cN (ay b6 (pv 2) (au cz (aV (Fd (K:=K) rfl) (pv 3) ak (fun _ _=>rfl)) ak) (aB _)))) (fun _ _ _ _ _ _=>(pv 2))) ae))),?_⟩;obtain⟨t,l,rfl,ht,hl⟩:=th;exact⟨_,rfl,t,l,rfl,ht,fun p H1 s1 h1=>⟨p,rfl,⟨_,ao.of h1⟩,fun D hD=>fU h1 hD fun H2 s2 h2=>⟨D,_,rfl,.inl (ao.of h2),q _ (s1.trans s2)⟩⟩⟩
theorem Hs(aL:Al P w K mg base ca er 34)(F:Fg K mg ca 34 "floor_peaks" sd):D P w K mg base ca er 34:=by
 refine bg F (fun _ _ _ _ _ _=>aZ fun _=>rfl) (F.F.ok FW (fun vs H Q E h=>?_) (fun cZ AZ oZ sZ H vs Q E hr h=>?_))
 ·obtain⟨v,rfl,th,q⟩:=h
  rfl
 obtain⟨v,rfl,th,q⟩:=h;refine⟨_,ah (ar (av aH rfl CA.bt bb (aa (bh rfl (a8 (aM (aL.g 32) hr (aa (pv 0) ae))) rfl rfl rfl rfl (N:=["least","middle","greatest"]) (.own (.own (.own .nil))) (fun _ _ _ _ _ _=>(cQ (K:=K) (n:=3) rfl rfl (aJ (ax (i:=0) (by show S8 (["least","middle","greatest"]:List Str);decide+kernel) rfl (SI rfl)) (aJ (ax (i:=1) (by show S8 (["least","middle","greatest"]:List Str);decide+kernel) rfl (SI rfl)) (aJ (ax (i:=2) (by show S8 (["least","middle","greatest"]:List Str);decide+kernel) rfl (SI rfl)) bP))))) (fun _ _ _ _ _ _=>(cN (ay b6 (pv 1) (au ba (pv 0) ak) (aB _)))) (fun _ _ _ _ _ _=>(pv 0))) ae))),?_⟩;obtain⟨t,l,rfl,ht,hl⟩:=th;exact⟨_,rfl,t,l,rfl,ht,fun p H1 s1 h1=>⟨p,rfl,⟨_,ao.of h1⟩,fun D hD=>fU h1 hD fun H2 s2 h2=>⟨D,_,rfl,.inl (ao.of h2),q _ (s1.trans s2)⟩⟩⟩
theorem MS(aL:Al P w K mg base ca er 35)(F:Fg K mg ca 35 "rooms_around" se):D P w K mg base ca er 35:=by
 refine bg F (fun _ _ _ _ _ _=>cE fun _ _=>rfl) (F.F.ok Jv (fun vs H Q E h=>?_) (fun cZ AZ oZ sZ H vs Q E hr h=>?_))
 ·obtain⟨a,b,rfl,q⟩:=h
  rfl
 obtain⟨a,b,rfl,q⟩:=h;refine⟨_,eW,?_⟩;exact q.elim
theorem MM(aL:Al P w K mg base ca er 36)(F:Fg K mg ca 36 "rooms_returns" uF):D P w K mg base ca er 36:=by
 refine bg F (fun _ _ _ _ _ _=>aZ fun _=>rfl) (F.F.ok Io (fun vs H Q E h=>?_) (fun cZ AZ oZ sZ H vs Q E hr h=>?_))
 ·obtain⟨v,rfl,th,q⟩:=h
  rfl
 obtain⟨v,rfl,th,q⟩:=h;refine⟨_,ah (ar (av aH rfl CA.bt bb (aa (bh rfl (a8 (pv 0)) rfl rfl rfl rfl (N:=["room","thing"]) (.own (.cap (j:=0) rfl rfl rfl .nil)) (fun _ _ _ _ _ _=>(ax (i:=0) (by show S8 (["room","thing"]:List Str);decide+kernel) rfl (SI rfl))) (fun _ _ _ _ _ _=>(cN (ay (qv (K:=K) rfl (dh hr)) (aM (aL.g 35) hr (aa (pv 1) (aa (pv 0) ae))) (aK ae) (aB _)))) (fun _ _ _ _ _ _=>(pv 0))) ae))),?_⟩;obtain⟨p,rfl,hp⟩:=th;exact⟨_,rfl,p,rfl,⟨_,ao.of hp⟩,fun D hD=>fU hp hD fun H1 s1 h1=>⟨D,_,rfl,.inl (ao.of h1),q _ s1⟩⟩
theorem Lm(aL:Al P w K mg base ca er 37)(F:Fg K mg ca 37 "rooms_peaks" tJ):D P w K mg base ca er 37:=by
 refine bg F (fun _ _ _ _ _ _=>aZ fun _=>rfl) (F.F.ok GL (fun vs H Q E h=>?_) (fun cZ AZ oZ sZ H vs Q E hr h=>?_))
 ·obtain⟨v,rfl,th,q⟩:=h
  rfl
 obtain⟨v,rfl,th,q⟩:=h;refine⟨_,ah (ar (av aH rfl CA.bt bb (aa (pv 0) ae))),?_⟩;obtain⟨p,rfl,hp⟩:=th;exact⟨_,rfl,p,_,rfl,.inl (ao.of hp),q _ (af.refl H)⟩
theorem HV(aL:Al P w K mg base ca er 38)(F:Fg K mg ca 38 "bows_over" sf):D P w K mg base ca er 38:=by
 refine bg F (fun _ _ _ _ _ _=>cE fun _ _=>rfl) (F.F.ok MF (fun vs H Q E h=>?_) (fun cZ AZ oZ sZ H vs Q E hr h=>?_))
 ·obtain⟨a,b,rfl,q⟩:=h
  rfl
 obtain⟨a,b,rfl,q⟩:=h;refine⟨_,eW,?_⟩;exact q.elim
theorem Gf(aL:Al P w K mg base ca er 39)(F:Fg K mg ca 39 "bows_height" sM):D P w K mg base ca er 39:=by
 refine bg F (fun _ _ _ _ _ _=>aZ fun _=>rfl) (F.F.ok FD (fun vs H Q E h=>?_) (fun cZ AZ oZ sZ H vs Q E hr h=>?_))
 ·obtain⟨v,rfl,th,q⟩:=h
  rfl
 obtain⟨v,rfl,th,q⟩:=h;refine⟨_,ah (ar (eV (e8 rfl) rfl CA.g6 fF (aa (bh rfl (a8 (pv 0)) rfl rfl rfl rfl (N:=["bow","thing"]) (.own (.cap (j:=0) rfl rfl rfl .nil)) (fun _ _ _ _ _ _=>(ax (i:=0) (by show S8 (["bow","thing"]:List Str);decide+kernel) rfl (SI rfl))) (fun _ _ _ _ _ _=>bQ) (fun _ _ _ _ _ _=>(au ba (av (nE (K:=K) rfl) rfl CA.bt bb (aa (aM (aL.g 38) hr (aa (pv 1) (aa (pv 0) ae))) ae)) ak))) ae) (gD ak i4))),?_⟩;obtain⟨p,rfl,hp⟩:=th;exact⟨_,rfl,p,rfl,⟨_,ao.of hp⟩,fun D hD=>fU hp hD fun H1 s1 h1=>⟨D,.int 0,rfl,rfl,ao.of h1,q _ s1⟩⟩
theorem GB(aL:Al P w K mg base ca er 40)(F:Fg K mg ca 40 "bows_returns" sX):D P w K mg base ca er 40:=by
 refine bg F (fun _ _ _ _ _ _=>aZ fun _=>rfl) (F.F.ok Mh (fun vs H Q E h=>?_) (fun cZ AZ oZ sZ H vs Q E hr h=>?_))
 ·obtain⟨v,rfl,th,q⟩:=h
  rfl
 obtain⟨v,rfl,th,q⟩:=h;refine⟨_,ah (ar (av aH rfl CA.bt bb (aa (bh rfl (a8 (pv 0)) rfl rfl rfl rfl (N:=["bow","thing"]) (.own (.cap (j:=0) rfl rfl rfl .nil)) (fun _ _ _ _ _ _=>(ax (i:=0) (by show S8 (["bow","thing"]:List Str);decide+kernel) rfl (SI rfl))) (fun _ _ _ _ _ _=>(cN (ay (qv (K:=K) rfl (dh hr)) (aM (aL.g 38) hr (aa (pv 1) (aa (pv 0) ae))) (aK ae) (aB _)))) (fun _ _ _ _ _ _=>(pv 0))) ae))),?_⟩;obtain⟨p,rfl,hp⟩:=th;exact⟨_,rfl,p,rfl,⟨_,ao.of hp⟩,fun D hD=>fU hp hD fun H1 s1 h1=>⟨D,_,rfl,.inl (ao.of h1),q _ s1⟩⟩
theorem Ll(aL:Al P w K mg base ca er 41)(F:Fg K mg ca 41 "bows_peaks" uv):D P w K mg base ca er 41:=by
 refine bg F (fun _ _ _ _ _ _=>aZ fun _=>rfl) (F.F.ok HS (fun vs H Q E h=>?_) (fun cZ AZ oZ sZ H vs Q E hr h=>?_))
 ·obtain⟨v,rfl,th,q⟩:=h
  rfl
 obtain⟨v,rfl,th,q⟩:=h;refine⟨_,ah (ar (av aH rfl CA.bt bb (aa (bh rfl (a8 (pv 0)) rfl rfl rfl rfl (N:=["a","b"]) (.own (.own .nil)) (fun _ _ _ _ _ _=>(cQ (K:=K) (n:=2) rfl rfl (aJ (ax (i:=0) (by show S8 (["a","b"]:List Str);decide+kernel) rfl (SI rfl)) (aJ (ax (i:=1) (by show S8 (["a","b"]:List Str);decide+kernel) rfl (SI rfl)) bP)))) (fun _ _ _ _ _ _=>(cN (ay b6 (pv 1) (au ba (pv 0) ak) (aB _)))) (fun _ _ _ _ _ _=>(pv 0))) ae))),?_⟩;obtain⟨p,rfl,hp⟩:=th;exact⟨_,rfl,p,rfl,⟨_,ao.of hp⟩,fun D hD=>fU hp hD fun H1 s1 h1=>⟨D,_,rfl,.inl (ao.of h1),q _ s1⟩⟩
theorem IZ(aL:Al P w K mg base ca er 42)(F:Fg K mg ca 42 "twins_height" tj):D P w K mg base ca er 42:=by
 refine bg F (fun _ _ _ _ _ _=>aZ fun _=>rfl) (F.F.ok Mw (fun vs H Q E h=>?_) (fun cZ AZ oZ sZ H vs Q E hr h=>?_))
 ·obtain⟨v,rfl,th,q⟩:=h
  rfl
 obtain⟨v,rfl,th,q⟩:=h;refine⟨_,ai (aO (ay (kq (dh hr)) (pv 0) (cD ae) (aB _)) (ah (ar ak)) aG) eW,?_⟩;obtain⟨p,rfl,hp⟩:=th;refine⟨_,rfl,KM _,fun pt hpt=>?_⟩;have npt:p≠pt:=aF hp hpt;have s8:=af.new (af.refl H) hpt (.tup []);exact⟨1,_,by decide,bo.unit npt (bN.of (s8 _ _ hp)) (bN.of ag),⟨p,pt,rfl,rfl,npt⟩,_,rfl,eqT (decide_eq_true rfl) (q _ s8)⟩
theorem Gj(aL:Al P w K mg base ca er 43)(F:Fg K mg ca 43 "twins_returns" uD):D P w K mg base ca er 43:=by
 refine bg F (fun _ _ _ _ _ _=>aZ fun _=>rfl) (F.F.ok iF (fun vs H Q E h=>?_) (fun cZ AZ oZ sZ H vs Q E hr h=>?_))
 ·obtain⟨v,rfl,th,q⟩:=h
  rfl
 obtain⟨v,rfl,th,q⟩:=h;refine⟨_,ai (aA (i:=1) iF.nd rfl (SI rfl) ak) (ai (aA (i:=2) iF.nd rfl (SI rfl) (pv 0)) (ai (h8 S9 (ay (gN (dh hr)) (pv 2) (cD ae) (aB _)) (ai (fH (i:=1) iF.nd rfl (SI rfl) ak ja)
  (ah (aA (i:=2) iF.nd rfl (SI rfl) (aV fR (pv 2) ak (fun _ _=>rfl))))))
  (ah (ar (pv 1))))),?_⟩
 obtain⟨p,rfl,hp⟩:=th;refine⟨_,rfl,fun mm σ H5=>σ=[some (.ref p),some (.int 0),some (.ref p)]/\af H H5,⟨0,rfl,af.refl H⟩,?_⟩;rintro mm σ H5 ⟨rfl,s5⟩;refine⟨_,rfl,KM _,fun pt hpt=>?_⟩;have npt:p≠pt:=aF (s5 _ _ hp) hpt;have s8:=af.new s5 hpt (.tup []);exact⟨1,_,by decide,bo.unit npt (bN.of (s8 _ _ hp)) (bN.of ag),⟨p,pt,rfl,rfl,npt⟩,_,rfl,Ni (decide_eq_true rfl) ⟨_,rfl,q _ s8⟩⟩
theorem Nl(aL:Al P w K mg base ca er 44)(F:Fg K mg ca 44 "twins_peaks" si):D P w K mg base ca er 44:=by
 refine bg F (fun _ _ _ _ _ _=>aZ fun _=>rfl) (F.F.ok iR (fun vs H Q E h=>?_) (fun cZ AZ oZ sZ H vs Q E hr h=>?_))
 ·obtain⟨v,rfl,th,q⟩:=h
  rfl
 obtain⟨v,rfl,th,q⟩:=h;refine⟨_,ai (aA (i:=1) iR.nd rfl (SI rfl) ak) (ai (aA (i:=2) iR.nd rfl (SI rfl) (aK (aa (pv 0) ae))) (ai (h8 S9 (ay (gN (dh hr)) (pv 2) (aK ae) (aB _)) (ai (aA (i:=3) iR.nd rfl (SI rfl) (og P3 XG XH vQ (pv 2)))
  (ah (aO (ay (gN (dh hr)) (pv 3) (cD ae) (aB _)) (ai (aQ (bK P3 Xa Xb qp (pv 2) (aa (pv 3) ae)))
  (ah (aO (ay (kq (dh hr)) (aV fR (pv 3) ak (fun _ _=>rfl)) (cD ae) (aB _)) (ah (fH (i:=1) iR.nd rfl (SI rfl) ak ja)) aG))) aG))))
  (ah (ar (pv 1))))),?_⟩
 obtain⟨p,rfl,hp⟩:=th;refine⟨_,rfl,(by show 1<=sizeLine;decide),fun pr hpr=>?_⟩;have s1:=af.new (af.refl H) hpr (.lst [.ref p]);refine⟨fun mm σ H5=>∃(o:Option V)(xs:List V),σ=[some (.ref p),some (.int 0),some (.ref pr),o]/\af H H5/\H5 pr=some (.lst xs)/\(xs=[]\/xs=[.ref p])/\mm=xs.length,⟨1,_,[.ref p],rfl,s1,ag,.inr rfl,rfl⟩,?_⟩;rintro mm σ H5 ⟨o,xs,rfl,s5,hr5,hx,rfl⟩;refine⟨_,rfl,KM _,fun pe hpe=>?_⟩;have nre:pr≠pe:=aF hr5 hpe;have s6:=af.new s5 hpe (.lst []);have hr6:=(aw (o:=.lst []) nre).trans hr5;refine⟨1,_,by decide,bo.void nre (ao.of hr6) (ao.of ag),⟨pr,pe,rfl,rfl,nre⟩,_,rfl,?_⟩;generalize upd H5 pe (.lst [])=H6 at s6 hr6|-;rcases hx with rfl|rfl;·exact Ni (decide_eq_true rfl) ⟨_,rfl,q _ s6⟩
 refine Sy (decide_eq_false (by simp)) ⟨fun σ' H'=>∃(o:Option V),σ'=[some (.ref p),some (.int 0),some (.ref pr),o]/\af H H'/\H' pr=some (.lst []),?_,?_⟩
 ·rintro σ' H' ⟨o,rfl,a1,a2⟩
  exact⟨0,(by show 0<1;decide),o,[],rfl,a1,a2,.inl rfl,rfl⟩
 refine⟨_,rfl,.inl ⟨rfl,_,ao.of hr6⟩,pr,_,_,rfl,rfl,hr6,rfl,?_⟩;have s7:=s6.upd hpr (.lst []);have hr7:upd H6 pr (.lst []) pr=some (.lst []):=ag;show _;refine⟨_,rfl,KM _,fun pt hpt=>?_⟩;have npt:p≠pt:=aF (s7 _ _ hp) hpt;have s8:=af.new s7 hpt (.tup []);have hr8:=(aw (o:=.tup []) (aF hr7 hpt)).trans hr7;exact⟨1,_,by decide,bo.unit npt (bN.of (s8 _ _ hp)) (bN.of ag),⟨p,pt,rfl,rfl,npt⟩,_,rfl,Ni (decide_eq_true rfl) ⟨_,rfl,s8,hr8⟩⟩
theorem LO(aL:Al P w K mg base ca er 45)(F:Fg K mg ca 45 "stairs_height" rp):D P w K mg base ca er 45:=by
 refine bg F (fun _ _ _ _ _ _=>aZ fun _=>rfl) (F.F.ok HZ (fun vs H Q E h=>?_) (fun cZ AZ oZ sZ H vs Q E hr h=>?_))
 ·obtain⟨v,rfl,th,q⟩:=h
  rfl
 obtain⟨v,rfl,th,q⟩:=h;refine⟨_,ah (ar (eV (e8 rfl) rfl CA.g6 fF (aa (bh rfl (eN rfl CA.cG (aa (pv 0) ae)) rfl rfl rfl rfl (N:=["place","number"]) (.own (.own .nil)) (fun _ _ _ _ _ _=>(cQ (K:=K) (n:=2) rfl rfl (aJ (ax (i:=0) (by show S8 (["place","number"]:List Str);decide+kernel) rfl (SI rfl)) (aJ (ax (i:=1) (by show S8 (["place","number"]:List Str);decide+kernel) rfl (SI rfl)) bP)))) (fun _ _ _ _ _ _=>bQ) (fun _ _ _ _ _ _=>(au cz (au ba (pv 0) ak) (pv 1)))) ae) (gD ak i4))),?_⟩;obtain⟨p,rfl,hp⟩:=th;exact⟨_,rfl,p,rfl,⟨_,ao.of hp⟩,fun D hD=>oQ hp hD fun H1 s1 h1=>⟨D,.int 0,rfl,rfl,ao.of h1,q _ s1⟩⟩
theorem Hq(aL:Al P w K mg base ca er 46)(F:Fg K mg ca 46 "stairs_returns" tT):D P w K mg base ca er 46:=by
 refine bg F (fun _ _ _ _ _ _=>aZ fun _=>rfl) (F.F.ok IS (fun vs H Q E h=>?_) (fun cZ AZ oZ sZ H vs Q E hr h=>?_))
 ·obtain⟨v,rfl,th,q⟩:=h
  rfl
 obtain⟨v,rfl,th,q⟩:=h;refine⟨_,ah (ar (av aH rfl CA.bt bb (aa (bh rfl (eN rfl CA.cG (aa (pv 0) ae)) rfl rfl rfl rfl (N:=["place","number"]) (.own (.own .nil)) (fun _ _ _ _ _ _=>(cQ (K:=K) (n:=2) rfl rfl (aJ (ax (i:=0) (by show S8 (["place","number"]:List Str);decide+kernel) rfl (SI rfl)) (aJ (ax (i:=1) (by show S8 (["place","number"]:List Str);decide+kernel) rfl (SI rfl)) bP)))) (fun _ _ _ _ _ _=>(cN (ay b6 (pv 1) (pv 0) (aB _)))) (fun _ _ _ _ _ _=>(pv 0))) ae))),?_⟩;obtain⟨p,rfl,hp⟩:=th;exact⟨_,rfl,p,rfl,⟨_,ao.of hp⟩,fun D hD=>oQ hp hD fun H1 s1 h1=>⟨D,_,rfl,.inl (ao.of h1),q _ s1⟩⟩
theorem Kv(aL:Al P w K mg base ca er 47)(F:Fg K mg ca 47 "stairs_peaks" uR):D P w K mg base ca er 47:=by
 refine bg F (fun _ _ _ _ _ _=>aZ fun _=>rfl) (F.F.ok IW (fun vs H Q E h=>?_) (fun cZ AZ oZ sZ H vs Q E hr h=>?_))
 ·obtain⟨v,rfl,th,q⟩:=h
  rfl
 obtain⟨v,rfl,th,q⟩:=h;refine⟨_,ah (ar (vx rfl rfl CA.bt rfl CA.CC (aa (pv 0) ae))),?_⟩;obtain⟨p,rfl,hp⟩:=th;exact⟨_,rfl,p,[],rfl,ao.of hp,by decide,q _ (af.refl H)⟩
theorem Eo(aL:Al P w K mg base ca er 48)(F:Fg K mg ca 48 "depths" nO):D P w K mg base ca er 48:=by
 refine bg F (fun _ _ _ _ _ _=>aZ fun _=>rfl) (F.F.ok fz (fun vs H Q E h=>?_) (fun cZ AZ oZ sZ H vs Q E hr h=>?_))
 ·obtain⟨rfl,q⟩:=h
  rfl
 obtain⟨rfl,q⟩:=h;refine⟨_,ai (aA (i:=1) fz.nd rfl (SI rfl) (aK ae)) (ai (aA (i:=2) fz.nd rfl (SI rfl) ak) (ai (bH S9 rfl (vL (pv 0)) (ax (i:=3) fz.nd rfl (SI rfl)) (ai (aO (ay b6 (pv 3) az (aB _)) (ah (fH (i:=2) fz.nd rfl (SI rfl) ak ja)) (ah (fH (i:=2) fz.nd rfl (SI rfl) ak xa)))
  (ah (aQ (bK P3 SZ S1 bp (pv 1) (aa (pv 2) ae))))))
  (ah (ar (pv 1))))),?_⟩
 refine⟨KM _,fun p hp=>?_⟩;refine⟨_,rfl,_,rfl,rg (x:=AC "") (fun i σ H'=>∃(o:Option V)(d:Int),σ=[some (.str ""),some (.ref p),some (.int d),o]/\af H H'/\H' p=some (.lst [])) ⟨_,_,rfl,af.new (af.refl H) hp _,ag⟩ ?_ ?_⟩
 ·rintro i c σ H3 hc _
  exact absurd hc (by rw[show(AC "").cps=#[]by decide+kernel];intro z;cases z)
 ·rintro σ H3 ⟨o,d,rfl,sm,hf⟩
  exact⟨_,rfl,q p H3 sm hf⟩
theorem HL(aL:Al P w K mg base ca er 49)(F:Fg K mg ca 49 "brackets_height" sI):D P w K mg base ca er 49:=by
 refine bg F (fun _ _ _ _ _ _=>aZ fun _=>rfl) (F.F.ok Hh (fun vs H Q E h=>?_) (fun cZ AZ oZ sZ H vs Q E hr h=>?_))
 ·obtain⟨v,rfl,th,q⟩:=h
  rfl
 obtain⟨v,rfl,th,q⟩:=h;refine⟨_,ah (ar (eV (e8 rfl) rfl CA.g6 fF (aa (aM (aL.g 48) hr (aa (pv 0) ae)) ae) (gD ak i4))),?_⟩;have th:v=.str "":=th;subst th;exact⟨_,rfl,rfl,fun p H1 s1 h1=>⟨p,.int 0,rfl,rfl,ao.of h1,q _ s1⟩⟩
theorem M6(aL:Al P w K mg base ca er 50)(F:Fg K mg ca 50 "brackets_returns" sJ):D P w K mg base ca er 50:=by
 refine bg F (fun _ _ _ _ _ _=>aZ fun _=>rfl) (F.F.ok IX (fun vs H Q E h=>?_) (fun cZ AZ oZ sZ H vs Q E hr h=>?_))
 ·obtain⟨v,rfl,th,q⟩:=h
  rfl
 obtain⟨v,rfl,th,q⟩:=h;refine⟨_,ah (ar (bK P3 UJ Vh gb (aM (aL.g 48) hr (aa (pv 0) ae)) (aa ak ae))),?_⟩;have th:v=.str "":=th;subst th;exact⟨_,rfl,rfl,fun p H1 s1 h1=>⟨.inl ⟨rfl,_,ao.of h1⟩,p,[],0,rfl,rfl,ao.of h1,q _ s1⟩⟩
theorem LR(aL:Al P w K mg base ca er 51)(F:Fg K mg ca 51 "brackets_peaks" rK):D P w K mg base ca er 51:=by
 refine bg F (fun _ _ _ _ _ _=>aZ fun _=>rfl) (F.F.ok K3 (fun vs H Q E h=>?_) (fun cZ AZ oZ sZ H vs Q E hr h=>?_))
 ·obtain⟨v,rfl,th,q⟩:=h
  rfl
 obtain⟨v,rfl,th,q⟩:=h;refine⟨_,ah (ar (bK V6 PySem.F.slot_str_count PySem.F.type_str_count yP (pv 0) (aa az ae))),?_⟩;have th:v=.str "":=th;subst th;have e:Txt.count (AC "") (AC "()")=0:=by decide+kernel
 refine⟨_,rfl,rfl,_,_,rfl,rfl,?_⟩;rw[e];exact q _ (af.refl H)
theorem Jd(aL:Al P w K mg base ca er 52)(F:Fg K mg ca 52 "all_measures" kZ):D P w K mg base ca er 52:=by
 refine bg F (fun _ _ _ _ _ _=>qX rfl) (F.F.ok Jg (fun vs H Q E h=>?_) (fun cZ AZ oZ sZ H vs Q E hr h=>?_))
 ·obtain⟨rfl,q⟩:=h
  rfl
 obtain⟨rfl,q⟩:=h;have hb:oi (bI kZ) Dx=true:=by decide+kernel
 generalize bI kZ=bZ at hb|-;refine⟨_,vn (ns:=Dx) (rows:=gU ca) hb (List.cons_ne_nil _ _) (by decide) (.cons ⟨rfl,(.cons ⟨rfl,rfl,Def.m (aL.g 51)⟩ (.cons ⟨rfl,rfl,Def.m (aL.g 50)⟩ (.cons ⟨rfl,rfl,Def.m (aL.g 49)⟩ .nil)))⟩ (.cons ⟨rfl,(.cons ⟨rfl,rfl,Def.m (aL.g 47)⟩ (.cons ⟨rfl,rfl,Def.m (aL.g 46)⟩ (.cons ⟨rfl,rfl,Def.m (aL.g 45)⟩ .nil)))⟩ (.cons ⟨rfl,(.cons ⟨rfl,rfl,Def.m (aL.g 44)⟩ (.cons ⟨rfl,rfl,Def.m (aL.g 43)⟩ (.cons ⟨rfl,rfl,Def.m (aL.g 42)⟩ .nil)))⟩ (.cons ⟨rfl,(.cons ⟨rfl,rfl,Def.m (aL.g 41)⟩ (.cons ⟨rfl,rfl,Def.m (aL.g 40)⟩ (.cons ⟨rfl,rfl,Def.m (aL.g 39)⟩ .nil)))⟩ (.cons ⟨rfl,(.cons ⟨rfl,rfl,Def.m (aL.g 37)⟩ (.cons ⟨rfl,rfl,Def.m (aL.g 36)⟩ .nil))⟩ (.cons ⟨rfl,(.cons ⟨rfl,rfl,Def.m (aL.g 34)⟩ (.cons ⟨rfl,rfl,Def.m (aL.g 33)⟩ .nil))⟩ (.cons ⟨rfl,(.cons ⟨rfl,rfl,Def.m (aL.g 30)⟩ (.cons ⟨rfl,rfl,Def.m (aL.g 29)⟩ (.cons ⟨rfl,rfl,Def.m (aL.g 28)⟩ .nil)))⟩ (.cons ⟨rfl,(.cons ⟨rfl,rfl,Def.m (aL.g 27)⟩ (.cons ⟨rfl,rfl,Def.m (aL.g 26)⟩ .nil))⟩ (.cons ⟨rfl,(.cons ⟨rfl,rfl,Def.m (aL.g 25)⟩ (.cons ⟨rfl,rfl,Def.m (aL.g 24)⟩ .nil))⟩ (.cons ⟨rfl,(.cons ⟨rfl,rfl,Def.m (aL.g 23)⟩ (.cons ⟨rfl,rfl,Def.m (aL.g 21)⟩ .nil))⟩ .nil)))))))))),?_⟩;exact vI (rows:=gU ca) (oG ca).1 (oG ca).2 (by show 10<=15;decide) fun p H' s f m=>q p H' s f m
theorem JU(aL:Al P w K mg base ca er 53)(F:Fg K mg ca 53 "marks_of" um):D P w K mg base ca er 53:=by
 refine AW F (fun _ _ _ _ _ _=>aZ fun _=>rfl) (F.F.okE vD (fun vs H Q E h=>?_) (fun cZ AZ oZ sZ H vs Q E hr h=>?_))
 ·obtain⟨w,rfl,q⟩:=h
  rfl
 obtain⟨w,rfl,q⟩:=h;refine⟨_,ai (aA (i:=1) vD.nd rfl (SI rfl) (pF dP (aL.g 20) hr (aa (pv 0) ae))) (ah (ar (iJ (ud rfl) rfl CA.dH eO (aa (jx (Bq hr) (dJ (aL.g 52) hr) (eA (pv 1) rfl) (fun _ _=>rfl)) ae)))),?_⟩;rcases q with⟨i,hi,rfl,q⟩|q
 ·refine⟨_,rfl,wd i,rfl,.inl ⟨i,hi,rfl,fun x dx fs H1 s1 hx fl=>⟨rfl,fun p H2 s2 f2 m=>⟨_,rfl,x,_,dx,fs,_,rfl,s2 _ _ hx,CA.c4 i hi,CA.na4_word i hi,fl.word,?_⟩⟩⟩⟩
  obtain⟨d,g1,g2⟩:=m.get (qy ca i hi);refine⟨p,_,rfl,g1,d,_,rfl,g2,fun r hr=>?_⟩;rw[tY,wK ca i hi];exact q r _ (af.new (s1.trans s2) hr _) ((s1.trans s2).free hr) ag
 ·exact⟨_,rfl,w,rfl,.inr q⟩
theorem GC(aL:Al P w K mg base ca er 55)(F:Fg K mg ca 55 "_law_classes" tN):D P w K mg base ca er 55:=by
 refine bg F (fun _ _ _ _ _ _=>aZ fun _=>rfl) (F.F.ok vZ (fun vs H Q E h=>?_) (fun cZ AZ oZ sZ H vs Q E hr h=>?_))
 ·obtain⟨e,n,t,rfl,he,ht,q⟩:=h
  rfl
 obtain⟨e,n,t,rfl,he,ht,q⟩:=h;refine⟨_,ai (aA (i:=1) vZ.nd rfl (SI rfl) (aK ae)) (ai (aO (br (av (bC) rfl CA.aS aR (aa (pv 0) (aa (bV (v:=.ref (er 4)) rfl (EO.m 4 (by decide)) rfl) ae)))) (ah (aQ (bK P3 SZ S1 bp (pv 1) (aa az ae)))) aG) (ai (aO (br (av (bC) rfl CA.aS aR (aa (pv 0) (aa (bV (v:=.ref (er 7)) rfl (EO.m 7 (by decide)) rfl) ae)))) (ah (aQ (bK P3 SZ S1 bp (pv 1) (aa az ae)))) aG)
  (ai (aO (br (av (bC) rfl CA.aS aR (aa (pv 0) (aa (bV (v:=.ref (er 3)) rfl (EO.m 3 (by decide)) rfl) ae)))) (ah (aQ (bK P3 SZ S1 bp (pv 1) (aa az ae)))) aG)
  (ai (aO (PW.pt (b7 (br (av (bC) rfl CA.aS aR (aa (pv 0) (aa (bV (v:=.ref (er 1)) rfl (EO.m 1 (by decide)) rfl) ae)))) (b7 (br (av (bC) rfl CA.aS aR (aa (pv 0) (aa (bV (v:=.ref (er 2)) rfl (EO.m 2 (by decide)) rfl) ae)))) (cg (br (av (bC) rfl CA.aS aR (aa (pv 0) (aa (bV (v:=.ref (er 5)) rfl (EO.m 5 (by decide)) rfl) ae)))))))) (ah (aQ (bK P3 SZ S1 bp (pv 1) (aa az ae)))) aG)
  (ai (aO (PW.pt (b7 (br (av (bC) rfl CA.aS aR (aa (pv 0) (aa (bV (v:=.ref (er 6)) rfl (EO.m 6 (by decide)) rfl) ae)))) (b7 (br (av (bC) rfl CA.aS aR (aa (pv 0) (aa (bV (v:=.ref (er 9)) rfl (EO.m 9 (by decide)) rfl) ae)))) (cg (br (av (bC) rfl CA.aS aR (aa (pv 0) (aa (bV (v:=.ref (er 8)) rfl (EO.m 8 (by decide)) rfl) ae)))))))) (ah (aQ (bK P3 SZ S1 bp (pv 1) (aa az ae)))) aG)
  (ai (aO (cS (br (av (bC) rfl CA.aS aR (aa (pv 0) (aa (gE (v:=.ty "ValueError") rfl CA.pL nC rfl) ae))))) (ah (aQ (bK P3 SZ S1 bp (pv 1) (aa az ae)))) aG)
  (ah (ar (pv 1))))))))),?_⟩
 refine⟨KM _,fun p hp=>?_⟩;have s1:=af.new (af.refl H) hp (.lst []);have he1:upd H p (.lst []) e=some (dC e (.ref (er n))):=s1 _ _ he;have nep:e≠p:=aF he hp;have he2:∀o,upd (upd H p (.lst [])) p o e=some (dC e (.ref (er n))):=fun o=>(aw nep).trans he1;have s2:∀o,af H (upd (upd H p (.lst [])) p o):=fun o=>s1.upd hp o;have l0:([]:List V).length<sizeLine:=oh (n:=0) (by decide);rcases ht with⟨rfl,rfl⟩| ⟨rfl,rfl⟩| ⟨rfl,rfl⟩
 ·have ek:=EO.k 4 (by decide)
  have ed:=EO.d 4 (by decide);refine⟨_,rfl,e,_,_,_,_,rfl,bc,he1,ek,EO.e 4 (by decide) (by decide),_,rfl,bw ⟨_,rfl,.inl ⟨rfl,_,ao.of ag⟩,p,_,_,rfl,rfl,ag,l0,?_⟩⟩;refine⟨_,rfl,e,_,_,_,_,rfl,bc,he2 _,ek,ed 7 (by decide) (by decide),_,rfl,aP ?_⟩;refine⟨_,rfl,e,_,_,_,_,rfl,bc,he2 _,ek,ed 3 (by decide) (by decide),_,rfl,aP ?_⟩;refine⟨_,rfl,e,_,_,_,_,rfl,bc,he2 _,ek,ed 1 (by decide) (by decide),_,rfl,aP ⟨_,rfl,e,_,_,_,_,rfl,bc,he2 _,ek,ed 2 (by decide) (by decide),_,rfl,aP ⟨_,rfl,e,_,_,_,_,rfl,bc,he2 _,ek,ed 5 (by decide) (by decide),_,rfl,aP ?_⟩⟩⟩;refine⟨_,rfl,e,_,_,_,_,rfl,bc,he2 _,ek,ed 6 (by decide) (by decide),_,rfl,aP ⟨_,rfl,e,_,_,_,_,rfl,bc,he2 _,ek,ed 9 (by decide) (by decide),_,rfl,aP ⟨_,rfl,e,_,_,_,_,rfl,bc,he2 _,ek,ed 8 (by decide) (by decide),_,rfl,aP ?_⟩⟩⟩;exact⟨_,rfl,e,_,_,_,_,rfl,g8,he2 _,ek,EO.v 4 (by decide),_,rfl,aP ⟨_,rfl,q p _ (s2 _) hp ag⟩⟩
 ·have ek:=EO.k 7 (by decide)
  have ed:=EO.d 7 (by decide);refine⟨_,rfl,e,_,_,_,_,rfl,bc,he1,ek,ed 4 (by decide) (by decide),_,rfl,aP ?_⟩;refine⟨_,rfl,e,_,_,_,_,rfl,bc,he1,ek,EO.e 7 (by decide) (by decide),_,rfl,bw ⟨_,rfl,.inl ⟨rfl,_,ao.of ag⟩,p,_,_,rfl,rfl,ag,l0,?_⟩⟩;refine⟨_,rfl,e,_,_,_,_,rfl,bc,he2 _,ek,ed 3 (by decide) (by decide),_,rfl,aP ?_⟩;refine⟨_,rfl,e,_,_,_,_,rfl,bc,he2 _,ek,ed 1 (by decide) (by decide),_,rfl,aP ⟨_,rfl,e,_,_,_,_,rfl,bc,he2 _,ek,ed 2 (by decide) (by decide),_,rfl,aP ⟨_,rfl,e,_,_,_,_,rfl,bc,he2 _,ek,ed 5 (by decide) (by decide),_,rfl,aP ?_⟩⟩⟩;refine⟨_,rfl,e,_,_,_,_,rfl,bc,he2 _,ek,ed 6 (by decide) (by decide),_,rfl,aP ⟨_,rfl,e,_,_,_,_,rfl,bc,he2 _,ek,ed 9 (by decide) (by decide),_,rfl,aP ⟨_,rfl,e,_,_,_,_,rfl,bc,he2 _,ek,ed 8 (by decide) (by decide),_,rfl,aP ?_⟩⟩⟩;exact⟨_,rfl,e,_,_,_,_,rfl,g8,he2 _,ek,EO.v 7 (by decide),_,rfl,aP ⟨_,rfl,q p _ (s2 _) hp ag⟩⟩
 ·have ek:=EO.k 3 (by decide)
  have ed:=EO.d 3 (by decide);refine⟨_,rfl,e,_,_,_,_,rfl,bc,he1,ek,ed 4 (by decide) (by decide),_,rfl,aP ?_⟩;refine⟨_,rfl,e,_,_,_,_,rfl,bc,he1,ek,ed 7 (by decide) (by decide),_,rfl,aP ?_⟩;refine⟨_,rfl,e,_,_,_,_,rfl,bc,he1,ek,EO.e 3 (by decide) (by decide),_,rfl,bw ⟨_,rfl,.inl ⟨rfl,_,ao.of ag⟩,p,_,_,rfl,rfl,ag,l0,?_⟩⟩;refine⟨_,rfl,e,_,_,_,_,rfl,bc,he2 _,ek,ed 1 (by decide) (by decide),_,rfl,aP ⟨_,rfl,e,_,_,_,_,rfl,bc,he2 _,ek,ed 2 (by decide) (by decide),_,rfl,aP ⟨_,rfl,e,_,_,_,_,rfl,bc,he2 _,ek,ed 5 (by decide) (by decide),_,rfl,aP ?_⟩⟩⟩;refine⟨_,rfl,e,_,_,_,_,rfl,bc,he2 _,ek,ed 6 (by decide) (by decide),_,rfl,aP ⟨_,rfl,e,_,_,_,_,rfl,bc,he2 _,ek,ed 9 (by decide) (by decide),_,rfl,aP ⟨_,rfl,e,_,_,_,_,rfl,bc,he2 _,ek,ed 8 (by decide) (by decide),_,rfl,aP ?_⟩⟩⟩;exact⟨_,rfl,e,_,_,_,_,rfl,g8,he2 _,ek,EO.v 3 (by decide),_,rfl,aP ⟨_,rfl,q p _ (s2 _) hp ag⟩⟩
theorem Mf(aL:Al P w K mg base ca er 56)(F:Fg K mg ca 56 "_law_word_refused" uX):D P w K mg base ca er 56:=by
 refine bg F (fun _ _ _ _ _ _=>cE fun _ _=>rfl) (F.F.ok lr (fun vs H Q E h=>?_) (fun cZ AZ oZ sZ H vs Q E hr h=>?_))
 ·obtain⟨w,k,rfl,nw,hk,q⟩:=h
  rfl
 obtain⟨w,k,rfl,nw,hk,q⟩:=h;refine⟨_,ai (aA (i:=2) lr.nd rfl (SI rfl) wC) (ai (oV (i:=3) rfl rfl rfl lr.nd rfl rfl rfl (EO.m 0 (by decide)) (ye (fun _ _=>(aV (eM (K:=K) rfl) (aK (aa (bV (v:=.ref (ca.f 20)) rfl (Def.m (aL.g 20)) rfl) (aa (bV (v:=.ref (ca.f 53)) rfl (Def.m (aL.g 53)) rfl) ae))) (pv 1) (fun _ _=>rfl))) (aL.g 54) hr (fun _ _=>(aa (pv 0) ae))) (fun _=>(ah (aA (i:=2) lr.nd rfl (SI rfl) (pv 3))))) (ah (ar (aM (aL.g 55) hr (aa (pv 2) ae))))),?_⟩
 have go:∀(l:GM)(H0:Hp),af H H0->∀(H1:Hp),af H0 H1->∀e,H1 e=none->∀(p:GM)(H':Hp),af (upd H1 e (dC e (.ref (er 4)))) H'->(upd H1 e (dC e (.ref (er 4)))) p=none->H' p=some (.lst [.str (AC "family")])->Q (.ref p) H':=fun l H0 s0 H1 s1 e he p H' sm fp hp=>by have s2:=af.new (s0.trans s1) he (dC e (.ref (er 4)));exact q p H' (s2.trans sm) (s2.free fp) hp
 refine⟨(by show 2<=sizeLine;decide),fun l hl=>?_⟩;have k1:=af.new (af.refl H) hl (.lst [.ref (ca.f 20),.ref (ca.f 53)]);rcases hk with rfl|rfl;·exact⟨_,rfl,l,_,_,_,rfl,rfl,ao.of ag,rfl,0,by decide,rfl,_,rfl,w,rfl,nw,fun H1 s1=>⟨(EO.c 4 (by decide)),fun e he=>⟨_,rfl,_,rfl,e,4,_,rfl,ag,.inl ⟨rfl,rfl⟩,go l _ k1 H1 s1 e he⟩⟩⟩
 ·exact⟨_,rfl,l,_,_,_,rfl,rfl,ao.of ag,rfl,1,by decide,rfl,_,rfl,w,rfl,nw,fun H1 s1=>⟨(EO.c 4 (by decide)),fun e he=>⟨_,rfl,_,rfl,e,4,_,rfl,ag,.inl ⟨rfl,rfl⟩,go l _ k1 H1 s1 e he⟩⟩⟩
theorem KD(aL:Al P w K mg base ca er 57)(F:Fg K mg ca 57 "closes" su):D P w K mg base ca er 57:=by
 refine bg F (fun _ _ _ _ _ _=>aZ fun _=>rfl) (F.F.ok i7 (fun vs H Q E h=>?_) (fun cZ AZ oZ sZ H vs Q E hr h=>?_))
 ·obtain⟨x,rfl,q⟩:=h
  rfl
 obtain⟨x,rfl,q⟩:=h;refine⟨_,ai (aA (i:=1) i7.nd rfl (SI rfl) ak) (ai (bH S9 rfl (vL (pv 0)) (ax (i:=2) i7.nd rfl (SI rfl)) (ah (aO (ay b6 (pv 2) az (aB _)) (ah (fH (i:=1) i7.nd rfl (SI rfl) ak ja)) (ah (aO (PW.pt (MJ (ay b6 (pv 2) az (aB _)) (D7 (ay je (pv 1) ak (aB _))))) (ah (fH (i:=1) i7.nd rfl (SI rfl) ak xa)) (ah (ar bL))))))) (ah (ar (cx b6 (pv 1) ak (aB _))))),?_⟩
 have fin:∀b,dF 0 x.cps.toList=b->Q (.bl b) H:=fun b h=>by rw[<-h];exact q
 refine⟨_,rfl,x,rfl,rg (x:=x) (fun i σ H'=>H'=H/\∃(o:Option V)(d:Nat),σ=[some (.str x),some (.int d),o]/\dF 0 x.cps.toList=dF d (x.cps.toList.drop i)) ⟨rfl,none,0,rfl,rfl⟩ ?_ ?_⟩
 ·rintro i c σ H' hc ⟨rfl,o,d,rfl,e⟩
  rw[zc hc]at e;refine⟨_,rfl,rfl,_,rfl,JF (NJ c) ?_⟩;by_cases h1:c=40
  ·refine cw h1 ⟨_,rfl,_,_,rfl,rfl,rfl,_,d+1,rfl,?_⟩
   rw[e,h1,Jy]
  ·refine cf h1 ⟨_,rfl,rfl,_,rfl,JF (Oa c) ?_⟩
   by_cases h2:c=41
   ·refine cw h2 ⟨_,rfl,_,_,rfl,rfl,_,rfl,?_⟩
    cases d with
    |zero=>exact aP (fin false (by rw[e,h2,wJ]))
    |succ d=>
     refine cw (by lia) ⟨_,rfl,_,_,rfl,rfl,rfl,some (.str ⟨#[c]⟩),d,?_,?_⟩
     ·show[some (V.str x),some (V.int (((d+1:Nat):Int)-1)),some (V.str ⟨#[c]⟩)]=_
      rw[show((d+1:Nat):Int)-1=(d:Int)by lia]
     ·rw[e,h2,y6]
   ·exact cf h2 (aP (fin false (by rw[e,vX h1 h2])))
 ·rintro σ H' ⟨rfl,o,d,rfl,e⟩
  refine⟨_,rfl,rfl,fin _ ?_⟩;rw[e,Aa,DR];cases d with
  |zero=>rfl
  |succ d=>exact(decide_eq_false fun z=>by injection z with z;lia).symm
theorem K7(aL:Al P w K mg base ca er 58)(F:bB K ca 58 "is_one" "Brackets.is_one" uq):D P w K mg base ca er 58:=by
 refine bE F (fun _ _ _ _ _ _=>cE fun _ _=>rfl) (F.ok FL (fun vs H Q E h=>?_) (fun cZ AZ oZ sZ H vs Q E hr h=>?_))
 ·obtain⟨x,v,b,rfl,th,q⟩:=h
  rfl
 obtain⟨x,v,b,rfl,th,q⟩:=h;refine⟨_,ah (ar (aM (aL.g 57) hr (aa (pv 1) ae))),?_⟩;obtain⟨t,rfl,rfl⟩:=th;have q:Q (.bl (dF 0 t.cps.toList)) H:=q _ (af.refl H);exact⟨_,rfl,t,rfl,q⟩
theorem L6(aL:Al P w K mg base ca er 59)(F:bB K ca 59 "is_one" "Stairs.is_one" sr):D P w K mg base ca er 59:=by
 refine bE F (fun _ _ _ _ _ _=>cE fun _ _=>rfl) (F.ok iN (fun vs H Q E h=>?_) (fun cZ AZ oZ sZ H vs Q E hr h=>?_))
 ·obtain⟨x,v,b,rfl,th,q⟩:=h
  rfl
 obtain⟨x,v,b,rfl,th,q⟩:=h;refine⟨_,ai (aA (i:=2) iN.nd rfl (SI rfl) ak) (ai (bH S9 rfl (eN rfl CA.cG (aa (pv 1) ae)) (gQ rfl (aJ (ax (i:=3) iN.nd rfl (SI rfl)) (aJ (ax (i:=4) iN.nd rfl (SI rfl)) bP))) (ai (aO (PW.pt (b7 (ay dz (pv 4) (pv 2) (aB _)) (cg (ay je (pv 4) (pv 3) (aB _))))) (ah (ar bL)) aG) (ah (aA (i:=2) iN.nd rfl (SI rfl) (pv 4)))))
  (ah (ar bL))),?_⟩
 obtain⟨l,ns,rfl,hl,rfl⟩:=th;have hl:=ao.of (K:=K) hl;have lm:(ns.map V.int).length=ns.length:=FS _;refine⟨_,rfl,l,rfl,⟨_,hl⟩,jX (xs:=ns.map V.int) (fun i σ H'=>∃(o1 o2:Option V)(a:Int),σ=[some (.ref x),some (.ref l),some (.int a),o1,o2]/\af H H'/\iI 0 0 ns=iI i a (ns.drop i)) ⟨_,_,0,rfl,af.refl H,rfl⟩ (fun i σ H' _ h=>h.choose_spec.choose_spec.choose_spec.2.1.seq hl) ?_ ?_⟩
 ·rintro i v σ H' T hv ⟨o1,o2,a,rfl,sm,e⟩ hT
  obtain⟨c,rfl⟩:=dw hv;have hc:ns[i]?=some c:=by rw[Td]at hv;cases h:ns[i]? with
   |none=>rw[h]at hv;cases hv
   |some d=>rw[h]at hv;injection hv with hv;injection hv with hv;rw[hv]
  have hi:i<ns.length:=(Pi.mp hc).1;have ed:ns.drop i=c::ns.drop (i+1):=by rw[zZ hi,FM,hc];rfl
  rw[ed]at e;have sm':=af.new sm hT (.tup [.int (i:Int),.int c]);refine⟨T,_,rfl,bN.of ag,rfl,_,_,rfl,_,_,rfl,rfl,?_⟩;refine⟨_,rfl,_,rfl,_,_,rfl,rfl,_,rfl,?_⟩;by_cases h1:c<a
  ·refine cw h1 (bw ?_)
   rw[qZ (.inl h1)]at e;rw[e]at q;exact q _ sm'
  refine cf h1 ⟨_,rfl,_,rfl,_,_,rfl,rfl,_,rfl,?_⟩;by_cases h2:(i:Int)<c
  ·refine cw h2 ?_
   rw[qZ (.inr h2)]at e;rw[e]at q;exact q _ sm'
  ·refine cf h2 ⟨_,rfl,?_⟩
   rw[I0 (by lia)]at e;exact⟨_,_,c,rfl,sm',e⟩
 ·rintro σ H' ⟨o1,o2,a,rfl,sm,e⟩
  rw[lm,List.drop_length,Ek]at e;rw[e]at q;exact q _ sm
theorem Kn(aL:Al P w K mg base ca er 60)(F:bB K ca 60 "is_one" "Twins.is_one" rY):D P w K mg base ca er 60:=by
 refine bE F (fun _ _ _ _ _ _=>cE fun _ _=>rfl) (F.ok Ie (fun vs H Q E h=>?_) (fun cZ AZ oZ sZ H vs Q E hr h=>?_))
 ·obtain⟨x,v,b,rfl,th,q⟩:=h
  rfl
 obtain⟨x,v,b,rfl,th,q⟩:=h;refine⟨_,ah (ar bL),?_⟩;have th:true=b:=th;subst th;exact q _ (af.refl H)
theorem LL(aL:Al P w K mg base ca er 61)(F:Fg K mg ca 61 "each_once" uO):D P w K mg base ca er 61:=by
 refine bg F (fun _ _ _ _ _ _=>aZ fun _=>rfl) (F.F.ok Hw (fun vs H Q E h=>?_) (fun cZ AZ oZ sZ H vs Q E hr h=>?_))
 ·obtain⟨l,ns,rfl,hl,h64,q⟩:=h
  rfl
 obtain⟨l,ns,rfl,hl,h64,q⟩:=h;refine⟨_,ah (ar (cx (hG (lA hr)) (av gj rfl CA.eJ dO (aa (pv 0) ae)) (v8 rfl rfl CA.dH rfl CA.bG (aa (av aH rfl CA.bt bb (aa (pv 0) ae)) ae)) (aB _))),?_⟩;have lm:(ns.map V.int).length=ns.length:=FS _;refine⟨_,rfl,l,ns,rfl,ao.of hl,h64,fun ps ms hps hp hs=>?_⟩;have s1:=af.new (af.refl H) hps (.lst (ms.map V.int));have hm1:upd H ps (.lst (ms.map V.int)) ps=some (.lst (ms.map V.int)):=ag;generalize upd H ps (.lst (ms.map V.int))=H1 at s1 hm1|-;refine⟨_,rfl,l,_,rfl,.inl (ao.of (s1 _ _ hl)),_,rfl,by lia,by lia,by lia,fun pr hpr=>?_⟩;have s2:=af.new (af.refl H1) hpr (.lst (dE 0 (((ns.map V.int).length:Nat):Int).toNat));refine⟨ps,pr,_,_,rfl,rfl,ao.of (s2 _ _ hm1),ao.of ag,iO ms,?_,?_⟩;·rw[nr];exact iO _
 have e:eZ (ms.map V.int) (dE 0 (((ns.map V.int).length:Nat):Int).toNat)=cc ns:=by rw[nr,n9,ph hp hs,show(((ns.map V.int).length:Nat):Int).toNat=ns.length by lia]
 have last:∀b:Bool,b=cc ns->Q (.bl b) (upd H1 pr (.lst (dE 0 (((ns.map V.int).length:Nat):Int).toNat))):=fun b z=>by rw[z];exact q _ (s1.trans s2)
 exact last _ e
theorem EB(aL:Al P w K mg base ca er 62)(F:Fg K mg ca 62 "flat" om):D P w K mg base ca er 62:=by
 refine bg F (fun _ _ _ _ _ _=>aZ fun _=>rfl) (F.F.ok lL (fun vs H Q E h=>?_) (fun cZ AZ oZ sZ H vs Q E hr h=>?_))
 ·obtain⟨l,rfl,hor⟩:=h
  rfl
 obtain⟨l,rfl,hor⟩:=h;refine⟨_,ai (aA (i:=1) lL.nd rfl (SI rfl) (aK ae)) (ai (bH S9 rfl (a8 (pv 0)) (ax (i:=2) lL.nd rfl (SI rfl)) (ah (aQ (bK P3 Xa Xb E9 (pv 1) (aa (pv 2) ae))))) (ah (ar (pv 1)))),?_⟩
 rcases hor with⟨ps,hl,hz,q⟩| ⟨bs,xss,hl,rw_,hz,q⟩
 ·obtain⟨xs,el,lxs,pr⟩:=hl.len
  refine⟨KM _,fun pf hpf=>?_⟩;have s1:=af.new (af.refl H) hpf (.lst []);refine⟨_,rfl,l,rfl,⟨_,ao.of (s1 _ _ el)⟩,dv (xs:=xs) (fun i σ H'=>∃(o1:Option V),σ=[some (.ref l),some (.ref pf),o1]/\af H H'/\H' pf=some (.lst ((bU (ps.take i)).map V.int))) ⟨_,rfl,s1,ag⟩ (fun i σ H' _ h=>ao.of (h.choose_spec.2.1 _ _ el)) ?_ ?_⟩
  ·rintro i v σ H2 hv ⟨o1,rfl,sm,hf⟩
   obtain⟨pp,tt,hpp,rfl,htt⟩:=pr.get hv;have hz2:((bU (ps.take i)).map V.int).length<=2000:=by rw[FS,iC,Tj];lia
   refine⟨_,rfl,.inl ⟨rfl,_,ao.of hf⟩,_,rfl,.inr ⟨pf,tt,_,_,rfl,rfl,hf,bN.of (sm _ _ htt),(by show _+2<=_;exact sz (by lia)),?_⟩⟩;refine⟨_,rfl,sm.upd hpf _,?_⟩;rw[ag,Th,hpp,mU,SV];rfl
  ·rintro σ H2 ⟨o1,rfl,sm,hf⟩
   rw[Tg (by lia)]at hf;exact⟨_,rfl,q pf H2 sm hpf hf⟩
 ·have lb:=rw_.len
  refine⟨KM _,fun pf hpf=>?_⟩;have s1:=af.new (af.refl H) hpf (.lst []);refine⟨_,rfl,l,rfl,⟨_,ao.of (s1 _ _ hl)⟩,dv (xs:=bs.map V.ref) (fun i σ H'=>∃(o1:Option V),σ=[some (.ref l),some (.ref pf),o1]/\af H H'/\H' pf=some (.lst (xss.take i).flatten)) ⟨_,rfl,s1,ag⟩ (fun i σ H' _ h=>ao.of (h.choose_spec.2.1 _ _ hl)) ?_ ?_⟩
  ·rintro i v σ H2 hv ⟨o1,rfl,sm,hf⟩
   obtain⟨b,xs,rfl,hx,hb⟩:=rw_.get hv;have et:(xss.take (i+1)).flatten=(xss.take i).flatten++xs:=by rw[Th,hx,VN];simp
   have hz2:(xss.take i).flatten.length+xs.length<=1000:=by
    have h1:(xss.take (i+1)).flatten.length<=xss.flatten.length:=by
     conv=>rhs;rw[<-UY (i+1) xss,VN,SW]
     lia
    rw[et,SW]at h1;lia
   have nb:b≠pf:=aF hb hpf;refine⟨_,rfl,.inl ⟨rfl,_,ao.of hf⟩,_,rfl,.inl ⟨pf,b,_,_,rfl,rfl,hf,sm _ _ hb,sz (by lia),?_⟩⟩;exact⟨_,rfl,sm.upd hpf _,by rw[ag,et]⟩
  ·rintro σ H2 ⟨o1,rfl,sm,hf⟩
   rw[Tg (by rw[FS];lia)]at hf;exact⟨_,rfl,q pf H2 sm hpf hf⟩
theorem JK(aL:Al P w K mg base ca er 63)(F:Fg K mg ca 63 "any_cross" tU):D P w K mg base ca er 63:=by
 refine bg F (fun _ _ _ _ _ _=>aZ fun _=>rfl) (F.F.ok i0 (fun vs H Q E h=>?_) (fun cZ AZ oZ sZ H vs Q E hr h=>?_))
 ·obtain⟨l,ps,rfl,hl,q⟩:=h
  rfl
 obtain⟨l,ps,rfl,hl,q⟩:=h;refine⟨_,ai (bH S9 rfl (a8 (pv 0)) (gQ rfl (aJ (ax (i:=1) i0.nd rfl (SI rfl)) (aJ (ax (i:=2) i0.nd rfl (SI rfl)) bP))) (ah (bH S9 rfl (a8 (pv 0)) (gQ rfl (aJ (ax (i:=3) i0.nd rfl (SI rfl)) (aJ (ax (i:=4) i0.nd rfl (SI rfl)) bP))) (ah (aO (Ko dz dz dz (pv 1) (pv 3) (pv 2) (pv 4)) (ah (ar bL)) aG))))) (ah (ar bL)),?_⟩;obtain⟨xs,el,lxs,pr⟩:=hl.len;refine⟨_,rfl,l,rfl,⟨_,ao.of el⟩,dv (xs:=xs) (fun i σ H'=>∃(o1 o2 o3 o4:Option V),σ=[some (.ref l),o1,o2,o3,o4]/\H=H'/\∀p∈ps.take i,ps.any (gp p)=false) ⟨_,_,_,_,rfl,rfl,by simp⟩ (fun i σ H' _ h=>by obtain⟨_,_,_,_,_,rfl,_⟩:=h;exact ao.of el) ?_ ?_⟩
 ·rintro i v σ H2 hv ⟨o1,o2,o3,o4,rfl,rfl,al⟩
  obtain⟨pp,tt,hpp,rfl,htt⟩:=pr.get hv;refine⟨tt,_,rfl,bN.of htt,rfl,_,_,rfl,_,_,rfl,rfl,?_⟩;refine⟨_,rfl,l,rfl,⟨_,ao.of el⟩,dv (xs:=xs) (fun j σ H'=>∃(o3 o4:Option V),σ=[some (.ref l),some (.int pp.1),some (.int pp.2),o3,o4]/\H=H'/\∀r∈ps.take j,gp pp r=false) ⟨_,_,rfl,rfl,by simp⟩ (fun i σ H' _ h=>by obtain⟨_,_,_,rfl,_⟩:=h;exact ao.of el) ?_ ?_⟩
  ·rintro j v σ H3 hv ⟨o3,o4,rfl,rfl,al2⟩
   obtain⟨rr,t2,hrr,rfl,ht2⟩:=pr.get hv;refine⟨t2,_,rfl,bN.of ht2,rfl,_,_,rfl,_,_,rfl,rfl,?_⟩;have next:gp pp rr=false->∀r∈ps.take (j+1),gp pp r=false:=fun hc r hr=>by
    rw[Th,hrr]at hr;rcases Uj.mp hr with z|z;·exact al2 r z
    ·have:r=rr:=by simpa using z
     rw[this];exact hc
   refine⟨_,rfl,_,rfl,_,_,rfl,rfl,_,rfl,?_⟩;by_cases c1:pp.1<rr.1
   ·refine cw c1 ⟨_,rfl,_,_,rfl,rfl,_,rfl,?_⟩
    by_cases c2:rr.1<pp.2
    ·refine cw c2 ⟨_,rfl,_,_,rfl,rfl,_,rfl,?_⟩
     by_cases c3:pp.2<rr.2
     ·refine cw c3 ?_
      have:cW ps=true:=uS.mpr ⟨pp,S5 hpp,rr,S5 hrr,c1,c2,c3⟩;rw[this]at q;exact q
     ·exact cf c3 ⟨_,_,rfl,rfl,next (by unfold gp;simp[c3])⟩
    ·exact cf c2 ⟨_,rfl,aP ⟨_,_,rfl,rfl,next (by unfold gp;simp[c2])⟩⟩
   ·exact cf c1 ⟨_,rfl,aP ⟨_,_,rfl,rfl,next (by unfold gp;simp[c1])⟩⟩
  ·rintro σ H3 ⟨o3,o4,rfl,rfl,al2⟩
   rw[Tg (by lia)]at al2;refine⟨_,_,_,_,rfl,rfl,fun p hp=>?_⟩;rw[Th,hpp]at hp;rcases Uj.mp hp with z|z;·exact al p z
   ·have:p=pp:=by simpa using z
    rw[this,V7];intro r hr;rw[al2 r hr];decide
 ·rintro σ H2 ⟨o1,o2,o3,o4,rfl,rfl,al⟩
  rw[Tg (by lia)]at al;have:cW ps=false:=by unfold cW;rw[V7];intro p hp;rw[al p hp];decide
  rw[this]at q;exact q
theorem Jk(aL:Al P w K mg base ca er 64)(F:bB K ca 64 "is_one" "Bows.is_one" r8):D P w K mg base ca er 64:=by
 refine bE F (fun _ _ _ _ _ _=>cE fun _ _=>rfl) (F.ok J3 (fun vs H Q E h=>?_) (fun cZ AZ oZ sZ H vs Q E hr h=>?_))
 ·obtain⟨x,v,b,rfl,th,q⟩:=h
  rfl
 obtain⟨x,v,b,rfl,th,q⟩:=h;refine⟨_,ai (aO (PW.pt (b7 (cS (br (aM (aL.g 61) hr (aa (aM (aL.g 62) hr (aa (pv 1) ae)) ae)))) (cg (ay (gN (dh hr)) (pv 1) (av pG rfl CA.eJ dO (aa (pv 1) ae)) (aB _))))) (ah (ar bL)) aG) (ah (ar (iz (av (eK rfl) rfl CA.jd gK (aa (bh rfl (a8 (pv 1)) rfl rfl rfl rfl (N:=["a","b"]) (.own (.own .nil)) (fun _ _ _ _ _ _=>(cQ (K:=K) (n:=2) rfl rfl (aJ (ax (i:=0) (by show S8 (["a","b"]:List Str);decide+kernel) rfl (SI rfl)) (aJ (ax (i:=1) (by show S8 (["a","b"]:List Str);decide+kernel) rfl (SI rfl)) bP)))) (fun _ _ _ _ _ _=>bQ) (fun _ _ _ _ _ _=>(cx dz (pv 0) (pv 1) (aB _)))) ae)) (kg (wR (aM (aL.g 63) hr (aa (pv 1) ae))))))),?_⟩;obtain⟨l,ps,rfl,hl,hz,rfl⟩:=th;refine⟨_,rfl,l,rfl,.inl ⟨ps,hl,by lia,fun pf H1 s1 f1 h1=>⟨pf,_,rfl,h1,by rw[iC];lia,fun H2 s2=>⟨_,rfl,?_⟩⟩⟩⟩;have s12:=s1.trans s2;have eB:=hl.same s12;cases hE:cc (bU ps)with
 |false=> rw[wu hE]at q;exact bw (bw (q _ s12))
 |true=>
  refine aP ⟨_,rfl,_,rfl,l,ps,rfl,eB,by lia,fun pq qs H3 s3 f3 h3 hp hs=>?_⟩;have s13:=s12.trans s3;have gF:=hl.same s13;have ne:l≠pq:=by obtain⟨_,e,_⟩:=eB;exact aF e f3
  refine⟨2,_,by decide,bo.prs ne gF h3,⟨l,pq,rfl,rfl,ne⟩,_,rfl,?_⟩;by_cases e:ps=qs
  ·rw[qk hp hs hE e]at q
   obtain⟨xs,el,lxs,pr⟩:=gF.len;rw[decide_eq_true e];refine aP ⟨_,rfl,l,rfl,⟨_,ao.of el⟩,fun D hD=>cX (xs:=xs) (fun i ys H'=>af H3 H'/\H' D=some (.lst ys)/\ys=((ps.take i).map fun p=>decide (p.1<p.2)).map V.bl/\i<=ps.length) (sz (by lia)) ⟨af.new (af.refl H3) hD _,ag,rfl,KM _⟩ (fun i ys H' hi h=>⟨ao.of (h.1 _ _ el),?_⟩) (fun i x ys H' R R0 hx h r r0=>?_) (fun ys H' h=>?_)⟩
   ·rw[h.2.2.1]
    simp;lia
   ·obtain⟨sm,hy,ey,hi⟩:=h
    obtain⟨pp,tt,hpp,rfl,htt⟩:=pr.get hx;have hlt:i<ps.length:=(Pi.mp hpp).1;refine⟨tt,_,rfl,bN.of (sm _ _ htt),rfl,_,_,rfl,_,_,rfl,rfl,(Ext.set rfl).trans (Ext.set rfl),iT (bw ⟨_,rfl,_,rfl,_,_,rfl,rfl,?_⟩)⟩;refine r _ _ hy ⟨sm.upd hD _,ag,?_,hlt⟩;rw[Th,hpp,SV,SV,<-ey];rfl
   ·obtain⟨sm,hy,ey,hi⟩:=h
    rw[Tg (by lia)]at ey;have ha:(((ps.map fun p=>decide (p.1<p.2)).map V.bl).length)=ps.length:=by simp
    rw[ey]at hy;refine⟨D,_,rfl,ao.of hy,_,rfl,?_⟩;have e2:((ps.map fun p=>decide (p.1<p.2)).all id)=ps.all fun p=>decide (p.1<p.2):=by rw[VR];rfl
    rw[e2];cases hA:ps.all fun p=>decide (p.1<p.2)with
    |false=> rw[hA,Ud]at q;exact aP (q _ (s13.trans sm))
    |true=> rw[hA,TN]at q;exact bw ⟨_,rfl,l,ps,rfl,gF.same sm,_,rfl,q _ (s13.trans sm)⟩
  ·rw[u0 hp hs hE e]at q
   rw[decide_eq_false e];exact bw (q _ s13)
theorem JG(aL:Al P w K mg base ca er 65)(F:Fg K mg ca 65 "neighbours" ub):D P w K mg base ca er 65:=by
 refine bg F (fun _ _ _ _ _ _=>aZ fun _=>rfl) (F.F.ok K6 (fun vs H Q E h=>?_) (fun cZ AZ oZ sZ H vs Q E hr h=>?_))
 ·obtain⟨l,H0,rs,rfl,hl,hz,hz2,q⟩:=h
  rfl
 obtain⟨l,H0,rs,rfl,hl,hz,hz2,q⟩:=h;refine⟨_,ah (ar (aM (aL.g 62) hr (aa (bh rfl (a8 (pv 0)) rfl rfl rfl rfl (N:=["room"]) (.own .nil) (fun _ _ _ _ _ _=>(ax (i:=0) (by show S8 (["room"]:List Str);decide+kernel) rfl (SI rfl))) (fun _ _ _ _ _ _=>bQ) (fun _ _ _ _ _ _=>(Eg (K:=K) rfl rfl rfl CA.dH rfl CA.Dp (aa (pv 0) (aa (cu (jT (K:=K) rfl) (pv 0) (cV ak) cU) ae))))) ae))),?_⟩;obtain⟨xs,el,lxs⟩:=hl.len;refine⟨_,rfl,l,rfl,⟨_,ao.of el⟩,fun D hD=>cX (xs:=xs) (fun k ys H'=>∃(bs:List GM)(xss:List (List V)),af H H'/\H' D=some (.lst ys)/\ys=bs.map V.ref/\cJ H' bs xss/\(∀b∈bs,b≠D)/\cB H' xss.flatten (jz (rs.take k))/\k<=rs.length/\bs.length=k) (sz (by lia)) ⟨[],[],af.new (af.refl H) hD _,ag,rfl,.nil,fun b hb=>absurd hb (by simp),.nil,KM _,rfl⟩ (fun k ys H' hk h=>?_) (fun k v ys H' R R0 hx h r r0=>?_) (fun ys H' h=>?_)⟩
 ·obtain⟨bs,xss,sm,_,rfl,_,_,_,_,lb⟩:=h
  exact⟨ao.of (sm _ _ el),by rw[FS];lia⟩
 ·obtain⟨bs,xss,sm,hy,rfl,rws,nD,pr,hk,lb⟩:=h
  obtain⟨b,ns,rfl,hn,hb,_⟩:=hl.at el hx;have hlt:k<rs.length:=(Pi.mp hn).1;have hb2:=sm _ _ hb;have ln:ns.length<=rs.flatten.length:=len_one rs ns (S5 hn);refine⟨Ext.set rfl,iT (bw ⟨_,rfl,_,rfl,_,rfl,b,_,rfl,ao.of hb2,fun ps hps=>?_⟩)⟩;have s3:=af.new (af.refl H') hps (.lst (dX (ns.map V.int) (some 1) none));have e1:dX (ns.map V.int) (some 1) none=(ns.drop 1).map V.int:=by rw[jN,wX]
  refine⟨b,ps,ns,ns.drop 1,rfl,ao.of (s3 _ _ hb2),ao.of (by rw[ag,e1]),by lia,fun pz H3 s4 f4 h4=>?_⟩;have s5:=s3.trans s4;obtain⟨zs,ez,lz,pz4⟩:=h4.len;have hy5:=s5 _ _ hy;have nz:pz≠D:=fun z=>by rw[z]at f4;rw[s3 _ _ hy]at f4;cases f4
  refine r _ _ hy5 ⟨bs++[pz],xss++[zs],(sm.trans s5).upd hD _,ag,by rw[SV];rfl,?_,?_,?_,hlt,by rw[SW];show bs.length+1=k+1;lia⟩
  ·have up:∀{c:GM}{ws:List V},c≠D->H3 c=some (.lst ws)->upd H3 D (.lst (bs.map V.ref++[.ref pz])) c=some (.lst ws):=fun n e=>(aw n).trans e
   have go:∀{bs:List GM}{xss:List (List V)},cJ H' bs xss->(∀b∈bs,b≠D)->cJ (upd H3 D (.lst (bs.map V.ref++[.ref pz]))) bs xss->True:=fun _ _ _=>trivial;have rws5:=rws.same s5;have g:∀{cs:List GM}{wss:List (List V)},cJ H3 cs wss->(∀c∈cs,c≠D)->cJ (upd H3 D (.lst (bs.map V.ref++[.ref pz]))) (cs++[pz]) (wss++[zs]):=by intro cs wss h hc;induction h with
    |nil=>exact .cons (up nz ez) .nil
    |cons x _ ih=>exact .cons (up (hc _ (by simp)) x) (ih fun c hc'=>hc c (by simp[hc']))
   exact g rws5 nD
  ·intro c hc
   rcases Uj.mp hc with z|z;·exact nD c z
   ·rw[show c=pz by simpa using z];exact nz
  ·have e2:jz (rs.take (k+1))=jz (rs.take k)++ns.zip (ns.drop 1):=by unfold jz;rw[Th,hn,SV,VN];simp
   rw[e2,VN];have p1:=(pr.same s5).app pz4;rw[show([zs]:List (List V)).flatten=zs by simp];exact p1.updL hy5 _
 ·obtain⟨bs,xss,sm,hy,rfl,rws,nD,pr,hk,lb⟩:=h
  rw[Tg (by lia)]at pr;have lf:(jz rs).length<=rs.flatten.length:=by
   unfold jz;rw[List.length_flatten,List.length_flatten,Uc];have go:∀rs:List (List Int),(rs.map (List.length∘fun r=>r.zip (r.drop 1))).sum<=(rs.map List.length).sum:=fun rs=>by induction rs with
    |nil=>exact M2 _
    |cons r rs ih=>
     rw[SQ,SQ,List.sum_cons,List.sum_cons];have:(r.zip (r.drop 1)).length<=r.length:=by rw[List.length_zip];exact Nat.min_le_left _ _
     show(r.zip (r.drop 1)).length+_<=_;lia
   exact go rs
  refine⟨D,rfl,.inr ⟨bs,xss,hy,rws,by rw[pr.length];lia,fun pf H3 s3 f3 h3=>q pf H3 (sm.trans s3) (sm.free f3) ⟨_,h3,pr.same s3⟩⟩⟩
theorem MN(aL:Al P w K mg base ca er 66)(F:bB K ca 66 "is_one" "Rooms.is_one" sU):D P w K mg base ca er 66:=by
 refine bE F (fun _ _ _ _ _ _=>cE fun _ _=>rfl) (F.ok JW (fun vs H Q E h=>?_) (fun cZ AZ oZ sZ H vs Q E hr h=>?_))
 ·obtain⟨x,v,b,rfl,th,q⟩:=h
  rfl
 obtain⟨x,v,b,rfl,th,q⟩:=h;refine⟨_,ai (aO (PW.pt (b7 (ay (JH (dh hr)) (aK ae) (pv 1) (by rfl)) (cg (cS (br (aM (aL.g 61) hr (aa (aM (aL.g 62) hr (aa (pv 1) ae)) ae))))))) (ah (ar bL)) aG) (ah (ar (iz (cx (kq (dh hr)) (pv 1) (av (pk (dh hr)) rfl CA.eJ dO (aa (bh rfl (a8 (pv 1)) rfl rfl rfl rfl (N:=["room"]) (.own .nil) (fun _ _ _ _ _ _=>(ax (i:=0) (by show S8 (["room"]:List Str);decide+kernel) rfl (SI rfl))) (fun _ _ _ _ _ _=>bQ) (fun _ _ _ _ _ _=>(av (pI (K:=K) rfl) rfl CA.eJ dO (aa (pv 0) ae)))) ae)) (aB _)) (kg (wR (aM (aL.g 63) hr (aa (aM (aL.g 65) hr (aa (pv 1) ae)) ae))))))),?_⟩;obtain⟨l,H0,rs,rfl,hl,hz,hz2,hz1,rfl⟩:=th;refine⟨KM _,fun pe hpe=>?_⟩;have s1:=af.new (af.refl H) hpe (.lst []);have cy:=hl.same s1;have he1:upd H pe (.lst []) pe=some (.lst []):=ag;generalize upd H pe (.lst [])=H1 at s1 cy he1|-;refine⟨_,rfl,pe,l,H0,rs,rfl,rfl,he1,cy,_,rfl,?_⟩;cases hv:rs.any fun r=>decide (r=[])with
 |true=> obtain⟨r,hr,e⟩:=UF.mp hv;rw[AG ⟨r,hr,of_decide_eq_true e⟩]at q;exact bw (bw (q _ s1))
 |false=>
  have hne:∀r∈rs,r≠[]:=fun r hr e=>by have:=V7.mp hv r hr;exact this (decide_eq_true e)
  obtain⟨bs,el,rws⟩:=cy.rws;refine aP ⟨_,rfl,l,rfl,.inr ⟨bs,_,el,rws,by rw[oM,FS];lia,fun pf H2 s2 f2 h2=>?_⟩⟩;rw[oM]at h2;refine⟨pf,rs.flatten,rfl,h2,hz2,fun H3 s3=>⟨_,rfl,?_⟩⟩;have s13:=s1.trans (s2.trans s3);have gF:=hl.same s13;cases hE:cc rs.flatten with
  |false=> rw[AY hE]at q;exact bw (q _ s13)
  |true=>
   rw[yL hne hE]at q;obtain⟨xs,ex,lxs⟩:=gF.len;refine aP ⟨_,rfl,_,rfl,l,rfl,⟨_,ao.of ex⟩,fun D hD=>cX (xs:=xs) (fun k ys H'=>∃ts:List (List Int),af H3 H'/\H' D=some (.lst ys)/\cP H3 H' D ts/\TY (fun(r t:List Int)=>t.Perm r/\t.Pairwise (·<=·)) (rs.take k) ts/\k<=rs.length) (sz (by lia)) ⟨[],af.new (af.refl H3) hD _,ag,cP.nil ag,.nil,KM _⟩ (fun k ys H' hk h=>?_) (fun k v ys H' R R0 hx h r r0=>?_) (fun ys H' h=>?_)⟩
   ·obtain⟨ts,sm,hy,lt,pt,hk'⟩:=h
    obtain⟨us,eu,lu⟩:=lt.len;rw[hy]at eu;cases eu;refine⟨ao.of (sm _ _ ex),?_⟩;rw[lu,<-UI pt,Tj];lia
   ·obtain⟨ts,sm,hy,lt,pt,hk'⟩:=h
    obtain⟨b,ns,rfl,hn,hb,_⟩:=gF.at ex hx;have hlt:k<rs.length:=(Pi.mp hn).1;refine⟨Ext.set rfl,iT (bw ⟨_,rfl,b,ns,rfl,ao.of (sm _ _ hb),hz1 ns (S5 hn),fun c ms hc hp hs=>?_⟩)⟩;have k9:=af.new (af.refl H') hc (.lst (ms.map V.int));refine r _ _ (k9 _ _ hy) ⟨ts++[ms],(sm.trans k9).upd hD _,ag,lt.push hy k9 hc ag (sm.free hc),?_,hlt⟩;rw[Th,hn];exact hJ pt (.cons ⟨hp,hs⟩ .nil)
   ·obtain⟨ts,sm,hy,lt,pt,hk'⟩:=h
    rw[Tg (by lia)]at pt;have ltl:=UI pt;refine⟨D,_,ts,rfl,lt,by lia,fun pq ss H5 s5 f5 l5 hp hs _=>?_⟩;have s15:=s13.trans (sm.trans s5);have Cc:=hl.same s15;have ne:l≠pq:=by obtain⟨_,e,_⟩:=gF.same sm;exact aF e f5
    refine⟨2,_,by decide,bo.rooms Cc l5 ne,⟨l,pq,rfl,rfl,ne⟩,_,rfl,?_⟩;rw[A6 pt hp hs hne hE];cases hR:oA rs with
    |false=> rw[hR,Ud]at q;exact aP (q _ s15)
    |true=> rw[hR,TN]at q;exact bw ⟨_,rfl,l,H0,rs,rfl,Cc,by lia,by lia,fun pn H6 s6 f6 h6=>⟨pn,jz rs,rfl,h6,_,rfl,q _ (s15.trans s6)⟩⟩
theorem J2(aL:Al P w K mg base ca er 67)(F:Fg K mg ca 67 "may_be_cut" sE):D P w K mg base ca er 67:=by
 refine bg F (fun _ _ _ _ _ _=>iw fun _ _ _=>rfl) (F.F.ok Gq (fun vs H Q E h=>?_) (fun cZ AZ oZ sZ H vs Q E hr h=>?_))
 ·obtain⟨c,a,b,rfl,q⟩:=h
  rfl
 obtain⟨c,a,b,rfl,q⟩:=h;refine⟨_,ah (ar (iz (j5 gX dz ak (pv 1) (au cz (pv 2) ak)) (iz (cx dz (pv 2) (pv 0) (aB _)) (kg (cx (gN (dh hr)) (cD (aa (pv 1) (aa (pv 2) ae))) (cD (aa ak (aa (au cz (pv 0) ak) ae))) (aB _)))))),?_⟩;unfold gx at q;dsimp only at q;refine⟨_,rfl,_,_,rfl,rfl,_,rfl,?_⟩;by_cases c1:0<=a
 ·rw[decide_eq_true c1,TN]at q
  refine cw c1 ⟨_,rfl,_,_,rfl,rfl,_,_,rfl,rfl,_,rfl,?_⟩;by_cases c2:a<b-1
  ·rw[decide_eq_true c2,TN]at q
   refine cw c2 ⟨_,rfl,_,rfl,_,_,rfl,rfl,_,rfl,?_⟩;by_cases c3:b<c
   ·rw[decide_eq_true c3,TN]at q
    refine cw c3 ⟨_,rfl,_,rfl,(by show 2<=sizeLine;decide),fun t1 ht1=>⟨_,rfl,_,_,rfl,rfl,(by show 2<=sizeLine;decide),fun t2 ht2=>?_⟩⟩;have n12:t1≠t2:=aF ag ht2;have h1:=(aw (o:=.tup [.int 0,.int (c-1)]) n12).trans (ag (H:=H) (a:=t1) (o:=.tup [.int a,.int b]));have s2:=af.new (af.new (af.refl H) ht1 (.tup [.int a,.int b])) ht2 (.tup [.int 0,.int (c-1)]);exact⟨1,_,by decide,bo.two n12 h1 ag,⟨t1,t2,rfl,rfl,n12⟩,q _ s2⟩
   ·rw[decide_eq_false c3]at q
    exact cf c3 (q H (af.refl H))
  ·rw[decide_eq_false c2,Ud]at q
   exact cf c2 (q H (af.refl H))
 ·rw[decide_eq_false c1,Ud]at q
  exact cf c1 ⟨_,rfl,aP (q H (af.refl H))⟩
theorem Ki(aL:Al P w K mg base ca er 68)(F:bB K ca 68 "is_one" "Floors.is_one" rF):D P w K mg base ca er 68:=by
 refine bE F (fun _ _ _ _ _ _=>cE fun _ _=>rfl) (F.ok nV (fun vs H Q E h=>?_) (fun cZ AZ oZ sZ H vs Q E hr h=>?_))
 ·obtain⟨x,v,b,rfl,th,q⟩:=h
  rfl
 obtain⟨x,v,b,rfl,th,q⟩:=h;refine⟨_,ai (aA (i:=2) nV.nd rfl (WA rfl) (aV fR (pv 1) ak (fun _ _=>rfl))) (ai (aA (i:=3) nV.nd rfl (SI rfl) (aV fR (pv 1) ak (fun _ _=>rfl))) (ai (aO (PW.pt (b7 (ay dz (pv 2) ak (aB _)) (cg (ay ji (av aH rfl CA.bt bb (aa (pv 3) ae)) (av (mL rfl) rfl CA.g6 fF (aa ak (aa (au cz (pv 2) ak) ae))) (aB _))))) (ah (ar bL)) aG)
  (ai (aO (PW.pt (b7 (ay (gN (dh hr)) (pv 3) (qf rfl (dh hr) rfl CA.eJ rfl CA.CC (aa (pv 3) ae)) (aB _)) (cg (br (aM (aL.g 63) hr (aa (pv 3) ae)))))) (ah (ar bL)) aG)
  (ah (ar (av (eK rfl) rfl CA.jd gK (aa (bh rfl (a8 (pv 3)) rfl rfl rfl rfl (N:=["a","b","corners"]) (.own (.own (.cap (j:=2) rfl rfl rfl .nil))) (fun _ _ _ _ _ _=>(cQ (K:=K) (n:=2) rfl rfl (aJ (ax (i:=0) (by show S8 (["a","b","corners"]:List Str);decide+kernel) rfl (SI rfl)) (aJ (ax (i:=1) (by show S8 (["a","b","corners"]:List Str);decide+kernel) rfl (SI rfl)) bP)))) (fun _ _ _ _ _ _=>bQ) (fun _ _ _ _ _ _=>(aM (aL.g 67) hr (aa (pv 2) (aa (pv 0) (aa (pv 1) ae)))))) ae))))))),?_⟩
 obtain⟨t,l,c,ps,rfl,ht,hl,h60,nd0,lo0,rfl⟩:=th;obtain⟨xs,el,lxs,pr⟩:=hl.len;have nolen:iH c ps.length=false->Q (.bl false) H:=fun z=>by have:=q H (af.refl H);rw[G5 z]at this;exact this
 refine⟨_,rfl,t,_,_,_,rfl,rfl,bN.of ht,rfl,_,rfl,t,_,_,_,rfl,rfl,bN.of ht,rfl,?_⟩;refine⟨_,rfl,_,_,rfl,rfl,_,rfl,?_⟩;by_cases c1:c<2;·exact cw c1 (bw (nolen (by unfold iH;rw[decide_eq_false (by lia),Ud])))
 refine cf c1 ⟨_,rfl,l,_,rfl,.inl (ao.of el),_,rfl,_,_,rfl,rfl,_,_,rfl,rfl,_,rfl,?_⟩;by_cases c2:((xs.length:Nat):Int)=if c-3>0 then c-3 else 0;case neg=> refine fX (ne_int c2) (nolen ?_);unfold iH;rw[decide_eq_false (show¬ ((ps.length:Nat):Int)=_ by rw[<-lxs];exact c2),WT]
 have lb:iH c ps.length=true:=by unfold iH;rw[On,decide_eq_true_iff,decide_eq_true_iff];exact⟨by lia,by rw[<-lxs];exact c2⟩
 refine dS (congrArg V.int c2) ⟨_,rfl,_,rfl,l,ps,rfl,hl,nd0,lo0,by lia,fun pq qs H1 s1 f1 h1 pmm rs=>?_⟩;have nd:=pmm.nodup_iff.mpr nd0;have mm:=fun x=>pmm.mem_iff (a:=x);have cy:=hl.same s1;have ne:l≠pq:=aF el f1;refine⟨2,_,by decide,bo.prs ne cy h1,⟨l,pq,rfl,rfl,ne⟩,_,rfl,?_⟩;by_cases e:ps=qs;case neg=> rw[Fl nd mm rs e]at q;rw[decide_eq_false e];exact bw (bw (q _ s1))
 rw[decide_eq_true e];subst e;rw[yI nd rs lb]at q;refine aP ⟨_,rfl,l,ps,rfl,cy,_,rfl,?_⟩;cases hc:cW ps with
 |true=> rw[hc,Ww,Ud]at q;exact bw (q _ s1)
 |false=>
  rw[hc,Bool.not_false,TN]at q;refine aP ⟨_,rfl,l,rfl,⟨_,ao.of (s1 _ _ el)⟩,fun D hD=>cX (xs:=xs) (fun i ys H'=>af H1 H'/\H' D=some (.lst ys)/\ys=((ps.take i).map fun p=>gx c p).map V.bl/\i<=ps.length) (sz (by lia)) ⟨af.new (af.refl H1) hD _,ag,rfl,KM _⟩ (fun i ys H' hi h=>⟨ao.of (h.1 _ _ (s1 _ _ el)),?_⟩) (fun i y ys H' R R0 hx h r r0=>?_) (fun ys H' h=>?_)⟩
  ·rw[h.2.2.1,FS,FS,Tj]
   lia
  ·obtain⟨sm,hy,ey,hi⟩:=h
   obtain⟨pp,tt,hpp,rfl,htt⟩:=(pr.same s1).get hx;have hlt:i<ps.length:=(Pi.mp hpp).1;refine⟨tt,_,rfl,bN.of (sm _ _ htt),rfl,_,_,rfl,_,_,rfl,rfl,(Ext.set rfl).trans (Ext.set rfl),iT (bw ?_)⟩;refine⟨_,rfl,_,rfl,_,rfl,c,pp.1,pp.2,rfl,fun H3 s3=>r _ _ (s3 _ _ hy) ⟨(sm.trans s3).upd hD _,ag,?_,hlt⟩⟩;rw[Th,hpp,SV,SV,<-ey];rfl
  ·obtain⟨sm,hy,ey,hi⟩:=h
   rw[Tg (by lia)]at ey;rw[ey]at hy;refine⟨D,_,rfl,ao.of hy,?_⟩;have e2:((ps.map fun p=>gx c p).all id)=ps.all (gx c):=by rw[VR];rfl
   rw[e2];exact q _ (s1.trans sm)
theorem FH(aL:Al P w K mg base ca er 69)(F:Fg K mg ca 69 "comes_off_a_stack" uQ):D P w K mg base ca er 69:=by
 refine bg F (fun _ _ _ _ _ _=>aZ fun _=>rfl) (F.F.ok iK (fun vs H Q E h=>?_) (fun cZ AZ oZ sZ H vs Q E hr h=>?_))
 ·obtain⟨l,row,rfl,hl,h64,hB,q⟩:=h
  rfl
 obtain⟨l,row,rfl,hl,h64,hB,q⟩:=h;refine⟨_,ai (aA (i:=1) iK.nd rfl (SI rfl) (aK ae)) (ai (aA (i:=2) iK.nd rfl (SI rfl) ak) (ai (bH S9 rfl (a8 (pv 0)) (ax (i:=3) iK.nd rfl (SI rfl)) (ai (h8 S9 (ay gX (pv 2) (pv 3) (aB _)) (ai (aQ (bK P3 SZ S1 bp (pv 1) (aa (pv 2) ae)))
  (ah (fH (i:=2) iK.nd rfl (SI rfl) ak ja))))
  (ah (aO (ay ji (og P3 XG XH vQ (pv 1)) (pv 3) (aB _)) (ah (ar bL)) aG))))
  (ah (ar bL)))),?_⟩
 have hperm:=(gf row).mp hB;have lm:(row.map V.int).length=row.length:=FS _;refine⟨KM _,fun ps hps=>?_⟩;have s1:=af.new (af.refl H) hps (.lst []);have hs1:upd H ps (.lst []) ps=some (.lst ((stk row 0 0).map V.int)):=ag;generalize upd H ps (.lst [])=H1 at s1 hs1|-;refine⟨_,rfl,l,rfl,⟨_,ao.of (s1 _ _ hl)⟩,dv (xs:=row.map V.int) (fun i σ H'=>∃(o1:Option V)(p:Nat),σ=[some (.ref l),some (.ref ps),some (.int p),o1]/\af H H'/\H' ps=some (.lst ((stk row i p).map V.int))/\Off row i p/\p<=100) ⟨_,0,rfl,s1,hs1,Off.start row,by lia⟩ (fun i σ H' _ h=>ao.of (h.choose_spec.choose_spec.2.1 _ _ hl)) ?_ ?_⟩
 ·rintro i v σ H2 hv ⟨o1,p,rfl,sm,hst,off,p100⟩
  obtain⟨x,rfl⟩:=dw hv;have hx:row[i]?=some x:=by rw[Td]at hv;cases h:row[i]? with
   |none=>rw[h]at hv;cases hv
   |some d=>rw[h]at hv;injection hv with hv;injection hv with hv;rw[hv]
  have hi:i<row.length:=(Pi.mp hx).1;have xr:=ju.mp (hperm.mem_iff.mp (S5 hx));refine⟨fun m σ H'=>∃(d:Nat),σ=[some (.ref l),some (.ref ps),some (.int ((p+d:Nat):Int)),some (.int x)]/\af H H'/\H' ps=some (.lst ((stk row i (p+d)).map V.int))/\m=(x+1- (p:Int)- (d:Int)).toNat/\(d=0\/((p+d:Nat):Int)<=x+1),⟨_,0,rfl,sm,hst,rfl,.inl rfl⟩,?_⟩;rintro m σ H3 ⟨d,rfl,sm3,hst3,hm,hd⟩;have lst:∀k p:Nat,((stk row k p).map V.int).length<=p:=fun k p=>by rw[FS];unfold stk;exact Tt (XF _ _) (by rw[ER];exact M2 _)
  refine⟨_,rfl,_,rfl,_,_,rfl,rfl,_,rfl,?_⟩;by_cases hle:((p+d:Nat):Int)<=x
  ·refine cw hle ⟨fun σ' H'=>σ'=[some (.ref l),some (.ref ps),some (.int ((p+d:Nat)+1:Int)),some (.int x)]/\af H H'/\H' ps=some (.lst ((stk row i (p+d+1)).map V.int)),?_,?_⟩
   ·rintro σ' H' ⟨rfl,a1,a2⟩
    exact⟨(x+1- (p:Int)- ((d+1:Nat):Int)).toNat,by lia,d+1,by rw[show((p+d:Nat):Int)+1=((p+(d+1):Nat):Int)by lia],a1,a2,rfl,.inr (by lia)⟩
   ·have hn:((p+d:Nat):Int)∉row.take i:=fun z=>by have:=off.below _ z;lia
    have:=lst i (p+d);refine⟨_,rfl,.inl ⟨rfl,_,ao.of hst3⟩,_,rfl,ps,_,_,rfl,rfl,hst3,oh (by lia),?_⟩;refine⟨_,rfl,_,_,rfl,rfl,rfl,sm3.upd hps _,?_⟩;rw[ag,xU hn,SV];rfl
  ·have hp':(((p+d:Nat):Nat):Int)=if(p:Int)<=x then x+1 else(p:Int):=by split<;>lia
   obtain⟨l0,t,el,good,bad⟩:=off.step hperm hx hp';have lt:=lst i (p+d);rw[el]at hst3 lt;have hlast:((l0++[t]).map V.int)[((l0++[t]).map V.int).length-1]?=some (.int t):=by rw[FS,SW,SV];show(l0.map V.int++[V.int t])[l0.length+1-1]?=_;rw[VW,VA (by simp)];simp
   have hdl:((l0++[t]).map V.int).dropLast=l0.map V.int:=by rw[SV];exact List.dropLast_concat
   refine cf hle ⟨_,rfl,.inl ⟨rfl,_,ao.of hst3⟩,ps,_,_,rfl,rfl,hst3,hlast,?_⟩;rw[hdl];refine⟨_,rfl,rfl,_,rfl,?_⟩;by_cases e:t=x
   ·obtain⟨g1,g2⟩:=good e
    refine dS (by rw[e]) ⟨_,p+d,rfl,sm3.upd hps _,by rw[ag,g1],g2,by lia⟩
   ·refine fX (ne_int e) ?_
    have:=rZ hi (bad e);rw[this]at q;exact q _ (sm3.upd hps _)
 ·rintro σ H2 ⟨o1,p,rfl,sm,hst,off,_⟩
  have:j6 row=true:=vp fun k hk=>off.fine k (by rw[lm];exact hk);rw[this]at q;exact q _ sm
theorem FQ(aL:Al P w K mg base ca er 70)(F:bB K ca 70 "is_one" "Turns.is_one" uc):D P w K mg base ca er 70:=by
 refine bE F (fun _ _ _ _ _ _=>cE fun _ _=>rfl) (F.ok L9 (fun vs H Q E h=>?_) (fun cZ AZ oZ sZ H vs Q E hr h=>?_))
 ·obtain⟨x,v,b,rfl,th,q⟩:=h
  rfl
 obtain⟨x,v,b,rfl,th,q⟩:=h;refine⟨_,ah (ar (iz (aM (aL.g 61) hr (aa (pv 1) ae)) (kg (aM (aL.g 69) hr (aa (pv 1) ae))))),?_⟩;obtain⟨l,ns,rfl,hl,h64,rfl⟩:=th;refine⟨_,rfl,l,ns,rfl,hl,by lia,fun H1 s1=>⟨_,rfl,?_⟩⟩;unfold oR at q;cases hB:cc ns with
 |false=> rw[hB,Ud]at q;exact aP (q _ s1)
 |true=> rw[hB,TN]at q;exact bw ⟨_,rfl,l,ns,rfl,s1 _ _ hl,h64,hB,fun H2 s2=>q _ (s1.trans s2)⟩
theorem KQ(aL:Al P w K mg base ca er 71)(F:bB K ca 71 "is_one" "Codes.is_one" uH):D P w K mg base ca er 71:=by
 refine bE F (fun _ _ _ _ _ _=>cE fun _ _=>rfl) (F.ok xf (fun vs H Q E h=>?_) (fun cZ AZ oZ sZ H vs Q E hr h=>?_))
 ·obtain⟨x,v,b,rfl,th,q⟩:=h
  rfl
 obtain⟨x,v,b,rfl,th,q⟩:=h;refine⟨_,ai (aA (i:=2) xf.nd rfl (WA rfl) (au ba (av aH rfl CA.bt bb (aa (pv 1) ae)) ak)) (ah (ar (av (eK rfl) rfl CA.jd gK (aa (bh rfl (a8 (pv 1)) rfl rfl rfl rfl (N:=["number","size"]) (.own (.cap (j:=2) rfl rfl rfl .nil)) (fun _ _ _ _ _ _=>(ax (i:=0) (by show S8 (["number","size"]:List Str);decide+kernel) rfl (SI rfl))) (fun _ _ _ _ _ _=>bQ) (fun _ _ _ _ _ _=>(j5 gX gX ak (pv 0) (pv 1)))) ae)))),?_⟩;obtain⟨l,cs,rfl,hl,hz,rfl⟩:=th;have lm:(cs.map V.int).length=cs.length:=FS _;refine⟨_,rfl,l,_,rfl,.inl (ao.of hl),_,_,rfl,rfl,?_⟩;try dsimp only
 rw[lm];refine⟨_,rfl,l,rfl,⟨_,ao.of hl⟩,fun D hD=>i3 (fun v=>match v with|.int c=>.bl (decide (0<=c)&&decide (c<=(cs.length:Int)+1))|v=>v) (by rw[lm];exact sz (by lia)) (ao.of hl) hD (fun i v H' R R0 hx hb hR=>?_) ?_⟩
 ·obtain⟨c,rfl⟩:=dw hx
  refine⟨Ext.set rfl,iT (bw ⟨_,rfl,_,_,rfl,rfl,_,rfl,?_⟩)⟩;by_cases h0:0<=c
  ·refine cw h0 ⟨_,rfl,_,_,rfl,rfl,?_⟩
   have hR':R (.bl (decide (0<=c)&&decide (c<=(cs.length:Int)+1))) H':=hR;rw[decide_eq_true h0,TN]at hR';exact hR'
  ·refine cf h0 ?_
   have hR':R (.bl (decide (0<=c)&&decide (c<=(cs.length:Int)+1))) H':=hR;rw[decide_eq_false h0,Ud]at hR';exact hR'
 have em:(cs.map V.int).map (fun v=>match v with|.int c=>.bl (decide (0<=c)&&decide (c<=(cs.length:Int)+1))|v=>v)=(cs.map fun c=>decide (0<=c)&&decide (c<=(cs.length:Int)+1)).map V.bl:=by rw[Uc,Uc];rfl
 rw[em];refine⟨D,_,rfl,ao.of ag,?_⟩;have ea:(cs.map fun c=>decide (0<=c)&&decide (c<=(cs.length:Int)+1)).all id=cs.all fun c=>decide (0<=c)&&decide (c<=(cs.length:Int)+1):=by rw[VR];rfl
 rw[ea];exact q _ (af.new (af.refl H) hD _)
theorem HC(aL:Al P w K mg base ca er 72)(F:Fg K mg ca 72 "comes_to_0" rC):D P w K mg base ca er 72:=by
 refine bg F (fun _ _ _ _ _ _=>cE fun _ _=>rfl) (F.F.ok kS (fun vs H Q E h=>?_) (fun cZ AZ oZ sZ H vs Q E hr h=>?_))
 ·obtain⟨l,es,r,rfl,hl,hz,hin,r0,r1,q⟩:=h
  rfl
 obtain⟨l,es,r,rfl,hl,hz,hin,r0,r1,q⟩:=h;refine⟨_,ai (aA (i:=2) kS.nd rfl (SI rfl) (pv 1)) (ai (bH S9 rfl (cn rfl CA.bG (aa (av aH rfl CA.bt bb (aa (pv 0) ae)) ae)) (ax (i:=3) kS.nd rfl (SI rfl)) (ah (aO (ay je (pv 2) ak (aB _)) (ah (aA (i:=2) kS.nd rfl (SI rfl) (aV a9 (pv 0) (au cz (pv 2) ak) (fun _ _=>rfl)))) aG))) (ah (ar (cx b6 (pv 2) ak (aB _))))),?_⟩
 have lm:(es.map V.int).length=es.length:=FS _;refine⟨_,rfl,_,rfl,l,_,rfl,.inl hl,_,rfl,by lia,by lia,dj (lo:=0) (n:=(((es.map V.int).length:Nat):Int).toNat) (fun i σ H'=>∃(o:Option V),σ=[some (.ref l),some (.int r),some (.int (iU es i r)),o]/\H=H') ⟨_,rfl,rfl⟩ ?_ ?_⟩
 ·rintro i σ H' hi ⟨o,rfl,rfl⟩
  have b:=v5 hin i r0 r1;have es1:=o9 es i r;generalize iU es i r=u at b es1;refine⟨_,rfl,_,_,rfl,rfl,_,rfl,?_⟩;by_cases hu:0<u
  ·have at1:=fu (ns:=es) (i:=u-1) (by lia) (by lia)
   refine cw hu ⟨_,rfl,_,rfl,_,_,rfl,rfl,l,_,_,_,rfl,rfl,hl,at1,?_⟩;have e:eU es u=es.getD (u-1).toNat 0:=by unfold eU;rw[if_pos hu]
   rw[<-e,<-es1];exact⟨_,rfl,rfl⟩
  ·refine cf hu ?_
   have e:eU es u=u:=by unfold eU;rw[if_neg hu]
   rw[e]at es1;rw[<-es1];exact⟨_,rfl,rfl⟩
 ·rintro σ H' ⟨o,rfl,rfl⟩
  refine⟨_,rfl,rfl,?_⟩;rw[show(((es.map V.int).length:Nat):Int).toNat=es.length by lia,jn];exact q
theorem LP(aL:Al P w K mg base ca er 73)(F:bB K ca 73 "is_one" "Trees.is_one" uC):D P w K mg base ca er 73:=by
 refine bE F (fun _ _ _ _ _ _=>cE fun _ _=>rfl) (F.ok wz (fun vs H Q E h=>?_) (fun cZ AZ oZ sZ H vs Q E hr h=>?_))
 ·obtain⟨x,v,b,rfl,th,q⟩:=h
  rfl
 obtain⟨x,v,b,rfl,th,q⟩:=h;refine⟨_,ai (aA (i:=2) wz.nd rfl (WA rfl) (av aH rfl CA.bt bb (aa (pv 1) ae))) (ai (aO (PW.pt (b7 (ay b6 (pv 2) ak (aB _)) (cg (cS (br (av (eK rfl) rfl CA.jd gK (aa (bh rfl (a8 (pv 1)) rfl rfl rfl rfl (N:=["elder","size"]) (.own (.cap (j:=2) rfl rfl rfl .nil)) (fun _ _ _ _ _ _=>(ax (i:=0) (by show S8 (["elder","size"]:List Str);decide+kernel) rfl (SI rfl))) (fun _ _ _ _ _ _=>bQ) (fun _ _ _ _ _ _=>(j5 gX gX ak (pv 0) (pv 1)))) ae))))))) (ah (ar bL)) aG) (ah (ar (av (eK rfl) rfl CA.jd gK (aa (bh rfl (vk rfl CA.bG (aa ak (aa (au ba (pv 2) ak) ae))) rfl rfl rfl rfl (N:=["knot","thing"]) (.own (.cap (j:=1) rfl rfl rfl .nil)) (fun _ _ _ _ _ _=>(ax (i:=0) (by show S8 (["knot","thing"]:List Str);decide+kernel) rfl (SI rfl))) (fun _ _ _ _ _ _=>bQ) (fun _ _ _ _ _ _=>(aM (aL.g 72) hr (aa (pv 1) (aa (pv 0) ae))))) ae))))),?_⟩
 obtain⟨l,es,rfl,hl,hz,rfl⟩:=th;have hz:es.length<=1000:=by lia
 have lm:(es.map V.int).length=es.length:=FS _;refine⟨_,rfl,l,_,rfl,.inl (ao.of hl),?_⟩;rw[lm];refine⟨_,rfl,rfl,_,rfl,?_⟩;by_cases hn:es=[]
 ·subst hn
  exact cw rfl (bw (q _ (af.refl H)))
 have hpos:0<es.length:=List.length_pos_iff.mpr hn;refine cf (ne_int (by lia)) ?_;refine⟨_,rfl,l,rfl,⟨_,ao.of hl⟩,fun D hD=>i3 (fun v=>match v with|.int c=>.bl (decide (0<=c)&&decide (c<=(es.length:Int)))|v=>v) (by rw[lm];exact sz (by lia)) (ao.of hl) hD (fun i v H' R R0 hx hb hR=>?_) ?_⟩
 ·obtain⟨c,rfl⟩:=dw hx
  refine⟨Ext.set rfl,iT (bw ⟨_,rfl,_,_,rfl,rfl,_,rfl,?_⟩)⟩;by_cases h0:0<=c
  ·refine cw h0 ⟨_,rfl,_,_,rfl,rfl,?_⟩
   have hR':R (.bl (decide (0<=c)&&decide (c<=(es.length:Int)))) H':=hR;rw[decide_eq_true h0,TN]at hR';exact hR'
  ·refine cf h0 ?_
   have hR':R (.bl (decide (0<=c)&&decide (c<=(es.length:Int)))) H':=hR;rw[decide_eq_false h0,Ud]at hR';exact hR'
 have em:(es.map V.int).map (fun v=>match v with|.int c=>.bl (decide (0<=c)&&decide (c<=(es.length:Int)))|v=>v)=(es.map fun c=>decide (0<=c)&&decide (c<=(es.length:Int))).map V.bl:=by rw[Uc,Uc];rfl
 rw[em];have s1:=af.new (af.refl H) hD (.lst ((es.map fun c=>decide (0<=c)&&decide (c<=(es.length:Int))).map V.bl));refine⟨D,_,rfl,ao.of ag,_,rfl,?_⟩;have ea:(es.map fun c=>decide (0<=c)&&decide (c<=(es.length:Int))).all id=inR es:=by rw[VR];rfl
 rw[ea];rw[pV hn]at q;cases hin:inR es with
 |false=> rw[hin,Ud]at q;exact bw (q _ s1)
 |true=>
  rw[hin,TN]at q;refine aP ?_;generalize upd H D (.lst ((es.map fun c=>decide (0<=c)&&decide (c<=(es.length:Int))).map V.bl))=H1 at s1|-;have cy:=s1 _ _ hl;refine⟨_,rfl,_,_,rfl,rfl,_,_,rfl,⟨by decide,by decide,by lia,by lia⟩,fun D2 hD2=>tH (lo:=1) (n:=((es.length:Int)+1-1).toNat) (fun(i:Nat)=>.bl (mR es i)) (sz (by lia)) (fun i H' R R0 hi hb hR=>?_) ?_⟩
  ·have nD:l≠D2:=aF cy hD2
   have gF:=(hb l nD).trans cy;refine⟨Ext.set rfl,iT (bw ⟨_,rfl,_,rfl,l,es,_,rfl,ao.of gF,hz,hin,by lia,by lia,?_⟩)⟩;unfold mR at hR;rw[show(1:Int)+(i:Int)=(i:Int)+1 by lia];exact hR
  ·have em2:(SO ((es.length:Int)+1-1).toNat).map (fun(i:Nat)=>V.bl (mR es i))=((SO es.length).map (mR es)).map V.bl:=by rw[Uc,show((es.length:Int)+1-1).toNat=es.length by lia];rfl
   rw[em2];refine⟨D2,_,rfl,ao.of ag,?_⟩;have ea2:((SO es.length).map (mR es)).all id=(SO es.length).all (mR es):=by rw[VR];rfl
   rw[ea2];exact q _ (af.new s1 hD2 _)
theorem KA(aL:Al P w K mg base ca er 74)(F:bB K ca 74 "is_one" "Cars.is_one" rA):D P w K mg base ca er 74:=by
 refine bE F (fun _ _ _ _ _ _=>cE fun _ _=>rfl) (F.ok GU (fun vs H Q E h=>?_) (fun cZ AZ oZ sZ H vs Q E hr h=>?_))
 ·obtain⟨x,v,b,rfl,th,q⟩:=h
  rfl
 obtain⟨x,v,b,rfl,th,q⟩:=h;refine⟨_,ai (aO (PW.pt (b7 (ay (hG (lA hr)) (pv 1) (aK ae) (aB _)) (cg (ay dz (av (iD rfl) rfl CA.sD oF (aa (pv 1) ae)) ak (aB _))))) (ah (ar bL)) aG) (ah (ar (av (eK rfl) rfl CA.jd gK (aa (bh rfl (eN rfl CA.cG (aa (av gj rfl CA.eJ dO (aa (pv 1) ae)) ae)) rfl rfl rfl rfl (N:=["place","wish"]) (.own (.own .nil)) (fun _ _ _ _ _ _=>(cQ (K:=K) (n:=2) rfl rfl (aJ (ax (i:=0) (by show S8 (["place","wish"]:List Str);decide+kernel) rfl (SI rfl)) (aJ (ax (i:=1) (by show S8 (["place","wish"]:List Str);decide+kernel) rfl (SI rfl)) bP)))) (fun _ _ _ _ _ _=>bQ) (fun _ _ _ _ _ _=>(cx gX (pv 1) (pv 0) (aB _)))) ae)))),?_⟩;obtain⟨l,ns,rfl,hl,h64,rfl⟩:=th;have hl:=ao.of (K:=K) hl;refine⟨_,rfl,KM _,fun pe hpe=>?_⟩;have s1:=af.new (af.refl H) hpe (.lst []);have cy:=s1.seq hl;have he1:upd H pe (.lst []) pe=some (.lst []):=ag;generalize upd H pe (.lst [])=H1 at s1 cy he1|-;by_cases hne:ns=[]
 ·subst hne
  exact⟨l,pe,_,_,rfl,rfl,cy,ao.of he1,rfl,rfl,_,rfl,bw (bw (q _ s1))⟩
 refine⟨l,pe,_,_,rfl,rfl,cy,ao.of he1,iO ns,rfl,_,rfl,g9 (fun c=>?_) (fun _=>⟨_,rfl,l,ns,rfl,cy,hne,fun m hm hall=>?_⟩)⟩;·cases ns with
  |nil=>exact absurd rfl hne
  |cons n ns=>exact absurd c (by intro z;cases z)
 refine⟨_,_,rfl,rfl,_,rfl,?_⟩;by_cases m0:m<0
 ·refine cw m0 ?_
  rw[wc hm m0]at q;exact q _ s1
 refine cf m0 ?_;have hpos:∀x∈ns,0<=x:=fun x hx=>by have:=hall x hx;lia
 refine⟨_,rfl,l,ns,rfl,cy,h64,fun ps ms hps hp hs=>?_⟩;have s2:=af.new s1 hps (.lst (ms.map V.int));have hm2:upd H1 ps (.lst (ms.map V.int)) ps=some (.lst (ms.map V.int)):=ag;generalize upd H1 ps (.lst (ms.map V.int))=H2 at s2 hm2|-;have lm:(ms.map V.int).length=ms.length:=FS _;have lms:=hp.length_eq;refine⟨ps,rfl,⟨_,ao.of hm2⟩,fun D hD=>mK (xs:=ms.map V.int) (fun i ys H'=>af H2 H'/\H' D=some (.lst ys)/\ys=((SO i).map fun(k:Nat)=>decide (ms.getD k 0<=(k:Int))).map V.bl) (by rw[lm];exact sz (by lia)) ⟨af.new (af.refl H2) hD _,ag,rfl⟩ (fun i ys H' hi h=>⟨ao.of (h.1 _ _ hm2),?_⟩) (fun i v ys H' T R R0 hx h hT r r0=>?_) (fun ys H' h=>?_)⟩;·rw[h.2.2];simp
 ·obtain⟨sm,hy,ey⟩:=h
  obtain⟨c,rfl⟩:=dw hx;have hc:ms.getD i 0=c:=by rw[Td]at hx;rw[FM];cases h:ms[i]? with
   |none=>rw[h]at hx;cases hx
   |some d=>rw[h]at hx;injection hx with hx;injection hx with hx
  have nT:D≠T:=aF hy hT;have hy1:=(aw (o:=.tup [.int (i:Int),.int c]) nT).trans hy;refine⟨T,_,rfl,bN.of ag,rfl,_,_,rfl,_,_,rfl,rfl,(Ext.set rfl).trans (Ext.set rfl),iT (bw ?_)⟩;refine⟨_,rfl,_,rfl,_,_,rfl,rfl,?_⟩;refine r _ _ hy1 ⟨(af.new sm hT _).upd hD _,ag,?_⟩;rw[ey,Vq,SV,SV,<-hc];rfl
 ·obtain⟨sm,hy,ey⟩:=h
  subst ey;refine⟨D,_,rfl,ao.of hy,?_⟩;rw[lm,oP hne hpos hp hs];exact q _ (s2.trans sm)
theorem Oj(aL:Al P w K mg base ca er 76)(F:bB K ca 76 "refuse_other" "Family.refuse_other" zV):D P w K mg base ca er 76:=by
 refine PJ F (fun _ _ _ _ _ _=>cE fun _ _=>rfl) (F.okE NO (fun vs H Q E h=>?_) (fun cZ AZ oZ sZ H vs Q E hr h=>?_))
 ·obtain⟨fw,hf,x,dx,fs,w,l,v,b,rfl,hx,fl,th,q,q'⟩:=h
  rfl
 obtain⟨fw,hf,x,dx,fs,w,l,v,b,rfl,hx,fl,th,q,q'⟩:=h;refine⟨_,ah (aO (cS (br (mY (M:=10) (pv 0) CA.c4 CA.mtW_is_one (aL.g 75) hr (aa (pv 1) ae)))) (ah (jP dP (EO.x 3 (by decide)) rfl (EO.m 3 (by decide)) (aa az ae))) aG),?_⟩;cases b;·exact⟨fw,hf,_,rfl,x,dx,fs,rfl,hx,fl.no "is_one" (by decide) (by decide),_,rfl,x,v,false,rfl,th,fun H1 s1=>⟨_,rfl,bw ⟨sz (n:=1) (by decide),q' rfl H1 s1⟩⟩⟩
 ·exact⟨fw,hf,_,rfl,x,dx,fs,rfl,hx,fl.no "is_one" (by decide) (by decide),_,rfl,x,v,true,rfl,th,fun H1 s1=>⟨_,rfl,aP (q rfl H1 s1)⟩⟩
theorem EZ(aL:Al P w K mg base ca er 78)(F:Fg K mg ca 78 "mark" nR):D P w K mg base ca er 78:=by
 refine AW F (fun _ _ _ _ _ _=>iw fun _ _ _=>rfl) (F.F.okE rf (fun vs H Q E h=>?_) (fun cZ AZ oZ sZ H vs Q E hr h=>?_))
 ·obtain⟨w,n,v,rfl,q⟩:=h
  rfl
 obtain⟨w,n,v,rfl,q⟩:=h;refine⟨_,ai (aA (i:=3) rf.nd rfl (SI rfl) (pF dP (aL.g 20) hr (aa (pv 0) ae))) (ai (aO (ay jb (pv 1) (pF dP (aL.g 53) hr (aa (pv 0) ae)) (by rfl)) (ah (jP dP (EO.x 7 (by decide)) rfl (EO.m 7 (by decide)) (aa az ae))) aG) (ai (aQ (Rw dP (M:=10) (pv 3) CA.c4 CA.mtW_refuse_other (fun _ _=>(aL.g 76)) hr (aa (pv 2) ae)))
  (ah (ar (MG dP (jx (Bq hr) (jx (Bq hr) (dJ (aL.g 52) hr) (pv 0) (fun _ _=>rfl)) (pv 1) (fun _ _=>rfl)) (aL.g 77) hr (aa (pv 2) ae)))))),?_⟩
 rcases q with⟨nw,q⟩| ⟨i,hi,rfl,q⟩;·exact⟨_,rfl,w,rfl,.inr ⟨nw,q⟩⟩
 refine⟨_,rfl,wd i,rfl,.inl ⟨i,hi,rfl,fun x dx fs H1 s1 hx fl=>?_⟩⟩;refine⟨_,rfl,_,rfl,wd i,rfl,.inl ⟨i,hi,rfl,fun p H2 s2 f2 h2=>⟨n,p,_,rfl,rfl,ao.of h2,_,rfl,?_⟩⟩⟩;have k2:=s1.trans s2;rcases q with⟨nn,q⟩| ⟨yn,bad,q⟩| ⟨yn,good,q⟩;·exact fX nn ⟨sz (n:=1) (by decide),q H2 k2⟩
 ·exact dS yn ⟨i,hi,_,rfl,x,dx,fs,rfl,s2 _ _ hx,fl.no "refuse_other" (by decide) (by decide),_,rfl,i,hi,x,dx,fs,_,_,v,false,rfl,s2 _ _ hx,fl,bad.same k2,nofun,fun _ H3 s3=>q H3 (k2.trans s3)⟩
 ·refine dS yn ⟨i,hi,_,rfl,x,dx,fs,rfl,s2 _ _ hx,fl.no "refuse_other" (by decide) (by decide),_,rfl,i,hi,x,dx,fs,_,_,v,true,rfl,s2 _ _ hx,fl,AH hi (Rp.same good k2),fun _ H3 s3=>?_,nofun⟩
  have k3:=k2.trans s3;refine⟨rfl,fun pm H4 s4 f4 m4=>?_⟩;have k4:=k3.trans s4;obtain⟨d,g1,g2⟩:=m4.get (qy ca i hi);obtain⟨k,hk,ek,lk⟩:=NG ca hi yn;refine⟨_,rfl,pm,_,rfl,g1,_,rfl,d,_,rfl,A5 g2 lk,k,hk,rfl,_,rfl,v,rfl,?_,fun H5 s5=>?_⟩
  ·rw[ek]
   exact El hi (Rp.same good k4)
  ·rw[ek]
   exact q H5 (k4.trans s5)
theorem Kd(aL:Al P w K mg base ca er 79)(F:Fg K mg ca 79 "_law_mark_refused" sT):D P w K mg base ca er 79:=by
 refine bg F (fun _ _ _ _ _ _=>iw fun _ _ _=>rfl) (F.F.ok ki (fun vs H Q E h=>?_) (fun cZ AZ oZ sZ H vs Q E hr h=>?_))
 ·obtain⟨w,n,v,t,rfl,ht,q⟩:=h
  rfl
 obtain⟨w,n,v,t,rfl,ht,q⟩:=h;refine⟨_,ai (aA (i:=3) ki.nd rfl (SI rfl) wC) (ai (oV (i:=4) rfl rfl rfl ki.nd rfl rfl rfl (EO.m 0 (by decide)) (Fy (aL.g 78) hr (fun _ _=>(aa (pv 0) (aa (pv 1) (aa (pv 2) ae))))) (fun _=>(ah (aA (i:=3) ki.nd rfl (SI rfl) (pv 4))))) (ah (ar (aM (aL.g 55) hr (aa (pv 3) ae))))),?_⟩
 have fin:∀(c:Nat)(e:GM)(H1:Hp),af H H1->H1 e=none->∀(p:GM)(H':Hp),af (upd H1 e (dC e (.ref (er c)))) H'->(upd H1 e (dC e (.ref (er c)))) p=none->H' p=some (.lst [.str t])->Q (.ref p) H':=fun c e H1 s1 he p H' sm fp hp=>by have s2:=af.new s1 he (dC e (.ref (er c)));exact q p H' (s2.trans sm) (s2.free fp) hp
 rcases ht with⟨nw,rfl⟩| ⟨i,hi,rfl,⟨nn,rfl⟩| ⟨yn,rfl,bad⟩⟩;·exact⟨_,rfl,_,rfl,_,rfl,w,n,v,rfl,.inl ⟨nw,fun H1 s1=>⟨(EO.c 4 (by decide)),fun e he=>⟨_,rfl,_,rfl,e,4,_,rfl,ag,.inl ⟨rfl,rfl⟩,fin 4 e H1 s1 he⟩⟩⟩⟩
 ·exact⟨_,rfl,_,rfl,_,rfl,_,n,v,rfl,.inr ⟨i,hi,rfl,.inl ⟨nn,fun H1 s1=>⟨(EO.c 7 (by decide)),fun e he=>⟨_,rfl,_,rfl,e,7,_,rfl,ag,.inr (.inl ⟨rfl,rfl⟩),fin 7 e H1 s1 he⟩⟩⟩⟩⟩
 ·exact⟨_,rfl,_,rfl,_,rfl,_,n,v,rfl,.inr ⟨i,hi,rfl,.inr (.inl ⟨yn,bad,fun H1 s1=>⟨(EO.c 3 (by decide)),fun e he=>⟨_,rfl,_,rfl,e,3,_,rfl,ag,.inr (.inr ⟨rfl,rfl⟩),fin 3 e H1 s1 he⟩⟩⟩)⟩⟩
theorem FZ(aL:Al P w K mg base ca er 80)(F:bB K ca 80 "__init__" "Broken.__init__" uL):D P w K mg base ca er 80:=by
 refine bE F (fun _ _ _ _ _ _=>cE fun _ _=>rfl) (F.ok Ge (fun vs H Q E h=>?_) (fun cZ AZ oZ sZ H vs Q E hr h=>?_))
 ·obtain⟨e,k,rfl,k0,k1,he,q⟩:=h
  rfl
 obtain⟨e,k,rfl,k0,k1,he,q⟩:=h;refine⟨_,ai (aQ (ze (EO.m 0 (by decide)) BO.cb (aa (pv 0) (aa (DX az (ED (pv 1)) .nil) ae)))) (ah (Es (pv 0) (pv 1) rfl)),?_⟩;have z:1000<=sizeLine:=by decide
 have l1:(AC "the chain breaks at place ").length=26:=by decide+kernel
 have na:∀x:Str,Str.empty++x=x:=fun x=>Ed (by show((#[]:Array Nat)++x.cps).toList=x.cps.toList;simp);have la:∀x y:Str,(x++y).length=x.length+y.length:=fun x y=>by show(x.cps++y.cps).size=x.cps.size+y.cps.size;exact W6
 refine⟨_,rfl,_,rfl,by rw[na,l1];lia,_,rfl,k,rfl,k0,by have:(10:Int)^10=10000000000:=(by decide);lia,fun y ly=>⟨y,rfl,by rw[na,la,l1];lia,e,(er 9),_,_,rfl,he,BO.ex.j,?_⟩⟩;exact⟨_,rfl,_,rfl,e,(er 9),_,rfl,he,BO.ex,BO.na,fun d hd=>q d hd⟩
theorem FY(aL:Al P w K mg base ca er 81)(F:Fg K mg ca 81 "_law_made" rV):D P w K mg base ca er 81:=by
 refine bg F (fun _ _ _ _ _ _=>cE fun _ _=>rfl) (F.F.ok iZ (fun vs H Q E h=>?_) (fun cZ AZ oZ sZ H vs Q E hr h=>?_))
 ·obtain⟨w,k,rfl,k0,k1,q⟩:=h
  rfl
 obtain⟨w,k,rfl,k0,k1,q⟩:=h;refine⟨_,ai (aA (i:=2) iZ.nd rfl (SI rfl) (aK (aa (uM CA.mk_Family CA.fB (aL.g 5) hr (aa (pv 0) (aa (pv 1) ae))) (aa (uM CA.mk_SplitFamily CA.bR (aL.g 6) hr (aa (pv 0) ae)) (aa (uM CA.mk_RingFamily CA.dW (aL.g 15) hr (aa (pv 0) ae)) ae))))) (ai (aA (i:=3) iZ.nd rfl (SI rfl) (aK (aa (pv 1) (aa ak (aa ak ae))))) (ai (bH S9 rfl (cn rfl CA.bG (aa ak ae)) (ax (i:=4) iZ.nd rfl (SI rfl)) (ai (aA (i:=5) iZ.nd rfl (SI rfl) (eA (aV a9 (pv 2) (pv 4) (fun _ _=>rfl)) rfl))
  (ai (aO (PW.pt (b7 (ay ji (eA (aV a9 (pv 2) (pv 4) (fun _ _=>rfl)) rfl) (pv 0) (aB _)) (b7 (cS (br (av dc rfl CA.aS aR (aa (pv 5) (aa (gE (v:=.ty "int") rfl CA.Cr vi rfl) ae))))) (b7 (br (av dc rfl CA.aS aR (aa (pv 5) (aa (gE (v:=.ty "bool") rfl CA.Lp Fh rfl) ae)))) (cg (ay ji (pv 5) (aV a9 (pv 3) (pv 4) (fun _ _=>rfl)) (aB _))))))) (ah (ar bL)) aG)
  (ah (aO (cS (br (av dc rfl CA.aS aR (aa (aV a9 (pv 2) (pv 4) (fun _ _=>rfl)) (aa (bV (v:=.ref (ca.C 10)) rfl CA.fB rfl) ae))))) (ah (ar bL)) aG)))))
  (ah (ar (cx b6 (EN (AR BO.ex (aL.g 80) hr (EO.m 9 (by decide)) (aa (pv 1) ae)) rfl) (pv 1) (aB _)))))),?_⟩
 have mk:∀{H0 H1:Hp}{x dx C:GM}{fs:List (Str×V)},H0 x=none->H0 dx=none->H1=upd (upd (upd H0 dx (.own x)) x (.ins C dx [])) x (.ins C dx fs)->af H0 H1/\H1 x=some (.ins C dx fs):=fun nx ndx e=>⟨by rw[e];exact((af.new (af.refl _) ndx _).upd nx _).upd nx _,by rw[e];exact ag⟩;refine⟨_,rfl,_,rfl,fun x0 d0 nx0 nd0 _=>⟨x0,d0,_,w,k,rfl,ag,(CA.e4 0 (by decide)).cl,CA.ea_word 0 (by decide),CA.ea_least 0 (by decide),fun f0 H1 e0 fl0=>⟨rfl,?_⟩⟩⟩;obtain⟨s1,hx0⟩:=mk nx0 nd0 e0;clear e0;refine⟨_,rfl,fun x1 d1 nx1 nd1 _=>⟨x1,d1,_,w,rfl,ag,(CA.e4 1 (by decide)).cl,CA.ea_word 1 (by decide),CA.ea_least 1 (by decide),fun f1 H2 e1 fl1=>⟨rfl,?_⟩⟩⟩;obtain⟨s2,hx1⟩:=mk nx1 nd1 e1;clear e1;refine⟨_,rfl,fun x2 d2 nx2 nd2 _=>⟨x2,d2,_,w,rfl,ag,(CA.e4 2 (by decide)).cl,CA.ea_word 2 (by decide),CA.ea_least 2 (by decide),fun f2 H3 e2 fl2=>⟨rfl,?_⟩⟩⟩;obtain⟨s3,hx2⟩:=mk nx2 nd2 e2;clear e2;refine⟨(by show 3<=sizeLine;decide),fun pf hpf=>⟨_,rfl,(by show 3<=sizeLine;decide),fun pd hpd=>?_⟩⟩;have s4:=af.new (af.refl H3) hpf (.lst [.ref x0,.ref x1,.ref x2]);have s5:=af.new (af.refl _) hpd (.lst [.int k,.int 0,.int 1]);have hf5:=s5 _ _ (ag (H:=H3) (a:=pf) (o:=.lst [.ref x0,.ref x1,.ref x2]));have hd5:=ag (H:=upd H3 pf (.lst [.ref x0,.ref x1,.ref x2])) (a:=pd) (o:=.lst [.int k,.int 0,.int 1]);have t5:=s4.trans s5;have y0:=(s2.trans (s3.trans t5)) _ _ hx0;have y1:=(s3.trans t5) _ _ hx1;have y2:=t5 _ _ hx2;have k5:=s1.trans (s2.trans (s3.trans t5));generalize upd (upd H3 pf (.lst [.ref x0,.ref x1,.ref x2])) pd (.lst [.int k,.int 0,.int 1])=H5 at hf5 hd5 y0 y1 y2 k5|-;clear s1 s2 s3 s4 s5 t5 hx0 hx1 hx2 hpf hpd;have at_:∀i:Nat,i<3->∃x dx fs l,eS [V.ref x0,.ref x1,.ref x2] (i:Int)=some (.ref x)/\eS [V.int k,.int 0,.int 1] (i:Int)=some (.int l)/\H5 x=some (.ins (ca.C (pick 0 [10,11,12] i)) dx fs)/\b8 fs w l:=aT.get (n:=3) ⟨⟨⟨trivial,⟨x0,d0,f0,k,rfl,rfl,y0,fl0⟩⟩,⟨x1,d1,f1,0,rfl,rfl,y1,fl1⟩⟩,⟨x2,d2,f2,1,rfl,rfl,y2,fl2⟩⟩;clear y0 y1 y2;refine⟨3,rfl,by decide,by decide,dj (lo:=0) (n:=(3:Int).toNat) (fun _ σ H'=>∃(o1 o2:Option V),σ=[some (.str w),some (.int k),some (.ref pf),some (.ref pd),o1,o2]/\H5=H') ⟨_,_,rfl,rfl⟩ ?_ ?_⟩
 ·rintro i σ H' hi ⟨o1,o2,rfl,rfl⟩
  obtain⟨x,dx,fs,l,a1,a2,hx,fl⟩:=at_ i hi;rw[<-Int.zero_add (i:Int)]at a1 a2;refine⟨_,rfl,_,rfl,pf,_,_,_,rfl,rfl,ao.of hf5,a1,x,_,dx,fs,_,rfl,hx,(CA.e4 i hi).cl,CA.ea_least i hi,fl.least,?_⟩;refine⟨_,rfl,_,rfl,pf,_,_,_,rfl,rfl,ao.of hf5,a1,x,_,dx,fs,_,rfl,hx,(CA.e4 i hi).cl,CA.ea_word i hi,fl.word,_,rfl,rfl,_,rfl,dS rfl ?_⟩;refine⟨_,rfl,_,_,_,_,_,rfl,g8,.int _,qa,_,rfl,aP ⟨_,rfl,_,_,_,_,_,rfl,g8,.int _,oJ,_,rfl,aP ⟨_,rfl,_,rfl,_,rfl,pd,_,_,_,rfl,rfl,ao.of hd5,a2,rfl,_,rfl,dS rfl ?_⟩⟩⟩;exact⟨_,rfl,_,rfl,pf,_,_,_,rfl,rfl,ao.of hf5,a1,_,_,_,_,_,rfl,bc,(CA.e4 i hi).ty hx,CA.ek i hi,_,rfl,aP ⟨_,_,rfl,rfl⟩⟩
 ·rintro σ H' ⟨o1,o2,rfl,rfl⟩
  refine⟨_,rfl,sz (n:=1) (by decide),fun e he=>⟨e,k,rfl,k0,k1,ag,fun d hd=>⟨rfl,?_⟩⟩⟩;have ne:d≠e:=fun z=>by rw[z,ag]at hd;cases hd
  have s6:af H5 (upd (upd (upd H5 e (dD e (.ref (er 9)) none)) d (.xd [("place",.int k)])) e (dD e (.ref (er 9)) (some d))):=((af.new (af.refl H5) he _).trans (af.new (af.refl _) hd _)).upd he _;refine⟨e,(er 9),_,d,_,_,rfl,ag,(aw ne).trans ag,BO.ex,BO.na,rfl,_,rfl,rfl,?_⟩;have q:=q _ (k5.trans s6);rw[<-decide_eq_true (rfl:V.int k=V.int k)]at q;exact q
theorem G0(aL:Al P w K mg base ca er 82)(F:Fg K mg ca 82 "families" rR):D P w K mg base ca er 82:=by
 refine bg F (fun _ _ _ _ _ _=>qX rfl) (F.F.ok GD (fun vs H Q E h=>?_) (fun cZ AZ oZ sZ H vs Q E hr h=>?_))
 ·obtain⟨rfl,q⟩:=h
  rfl
 obtain⟨rfl,q⟩:=h;refine⟨_,ah (ar (bh rfl (a8 (au iQ (dJ (aL.g 14) hr) (dJ (aL.g 19) hr))) rfl rfl rfl rfl (N:=["family"]) (.own .nil) (fun _ _ _ _ _ _=>(ax (i:=0) (by show S8 (["family"]:List Str);decide+kernel) rfl (SI rfl))) (fun _ _ _ _ _ _=>bQ) (fun _ _ _ _ _ _=>(Ey (K:=K) rfl (pv 0) rfl)))),?_⟩;refine⟨rfl,fun p1 xs1 H1 s1 f1 h1 pr1=>⟨rfl,fun p2 xs2 H2 s2 f2 h2 pr2=>?_⟩⟩;have e2:=pr2.length;have e1:=pr1.length;refine⟨p1,p2,xs1,xs2,rfl,rfl,s2 _ _ h1,h2,(by rw[e1,e2];show 10<=sizeLine;decide),fun pc hpc=>?_⟩;have s3:=af.new (af.refl H2) hpc (.lst (xs1++xs2));have pr:TY (c6 (upd H2 pc (.lst (xs1++xs2)))) (xs1++xs2) (za ca):=cF (bA pr1 (s2.trans s3)) (bA pr2 s3);have hc:upd H2 pc (.lst (xs1++xs2)) pc=some (.lst (xs1++xs2)):=ag;have s4:=(s1.trans s2).trans s3;generalize upd H2 pc (.lst (xs1++xs2))=H3 at s4 pr hc|-;have l10:(xs1++xs2).length=10:=pr.length;refine⟨pc,rfl,⟨_,ao.of hc⟩,fun D hD=>cX (xs:=xs1++xs2) (fun i ys H'=>af H3 H'/\H' D=some (.lst ys)/\ys=(eY.take i).map V.str/\i<=10) (by rw[l10];exact sz (by decide)) ⟨af.new (af.refl H3) hD _,ag,rfl,KM _⟩ (fun i ys H' hi h=>⟨ao.of (h.1 _ _ hc),?_⟩) (fun i x ys H' R R0 hx h r r0=>?_) (fun ys H' h=>?_)⟩
 ·rw[h.2.2.1,FS,Tj]
  lia
 ·obtain⟨sm,hy,ey,_⟩:=h
  have hi:i<10:=by have:=(Pi.mp hx).1;lia
  obtain⟨g,hg,x,dx,fs,rfl,hx',fl⟩:=qt pr hx;rw[rj ca i hi]at hg;cases hg;refine⟨Ext.set rfl,iT (bw ⟨_,rfl,x,_,dx,fs,_,rfl,sm _ _ hx',CA.c4 i hi,CA.na4_word i hi,fl.word,r _ _ hy ⟨sm.upd hD _,ag,?_,hi⟩⟩)⟩;rw[Th,ko i hi,SV,<-ey];rfl
 ·obtain⟨sm,hy,ey,_⟩:=h
  rw[l10,Tg (by decide)]at ey;rw[ey]at hy;exact q D H' (s4.trans sm) (s4.free hD) hy
theorem Ic(aL:Al P w K mg base ca er 83)(F:Fg K mg ca 83 "_law_marks" tM):D P w K mg base ca er 83:=by
 refine bg F (fun _ _ _ _ _ _=>aZ fun _=>rfl) (F.F.ok Lz (fun vs H Q E h=>?_) (fun cZ AZ oZ sZ H vs Q E hr h=>?_))
 ·obtain⟨i,rfl,hi,q⟩:=h
  rfl
 obtain⟨i,rfl,hi,q⟩:=h;refine⟨_,ai (aO (ay fZ (pv 0) (cD (aa az (aa az (aa az ae)))) (by rfl)) (ah (ar (aK (aa az (aa az ae))))) aG) (ai (aO (ay fZ (pv 0) (cD (aa az (aa az ae))) (by rfl)) (ah (ar (aK (aa az (aa az ae))))) aG) (ah (ar (aK (aa az (aa az (aa az ae))))))),?_⟩
 have mk:=M5 i hi;refine⟨_,rfl,(by show 3<=sizeLine;decide),fun t ht=>⟨t,_,rfl,.inr (bN.of ag),rfl,rfl,_,rfl,?_⟩⟩;have k1:=af.new (af.refl H) ht (.tup [V.str (AC "codes"),V.str (AC "trees"),V.str (AC "cars")]);show if(jD (.str (wd i)) [V.str (AC "codes"),V.str (AC "trees"),V.str (AC "cars")])=true then _ else _;rw[OK i hi];by_cases c:7<=i
 ·rw[if_pos c]at mk
  rw[mk]at q;exact cw c ⟨(by show 2<=sizeLine;decide),fun u hu=>q u _ (af.new k1 hu _) (k1.free hu) ag⟩
 rw[if_neg c]at mk;refine cf c ⟨_,rfl,(by show 2<=sizeLine;decide),fun t2 ht2=>⟨t2,_,rfl,.inr (bN.of ag),rfl,rfl,_,rfl,?_⟩⟩;have k2:=af.new k1 ht2 (.tup [V.str (AC "rooms"),V.str (AC "floor")]);show if(jD (.str (wd i)) [V.str (AC "rooms"),V.str (AC "floor")])=true then _ else _;rw[RT i hi];cases d:(decide (i=4)||decide (i=5))with
 |true=> rw[d,if_pos rfl]at mk;rw[mk]at q;exact bw ⟨(by show 2<=sizeLine;decide),fun u hu=>q u _ (af.new k2 hu _) (k2.free hu) ag⟩
 |false=> rw[d,if_neg (by decide)]at mk;rw[mk]at q;exact aP ⟨(by show 3<=sizeLine;decide),fun u hu=>q u _ (af.new k2 hu _) (k2.free hu) ag⟩
theorem LV(aL:Al P w K mg base ca er 84)(F:Fg K mg ca 84 "_law_lists" tW):D P w K mg base ca er 84:=by
 refine bg F (fun _ _ _ _ _ _=>aZ fun _=>rfl) (F.F.ok ke (fun vs H Q E h=>?_) (fun cZ AZ oZ sZ H vs Q E hr h=>?_))
 ·obtain⟨i,rfl,hi,q⟩:=h
  rfl
 obtain⟨i,rfl,hi,q⟩:=h;refine⟨_,ai (bH S9 rfl (cn rfl CA.bG (aa ak ae)) (ax (i:=1) ke.nd rfl (SI rfl)) (ai (aA (i:=2) ke.nd rfl (SI rfl) (dJ (aL.g 82) hr)) (ai (aA (i:=3) ke.nd rfl (SI rfl) (aM (aL.g 53) hr (aa (pv 0) ae))) (ai (aO (PW.pt (b7 (cS (br (av dc rfl CA.aS aR (aa (pv 2) (aa (gE (v:=.ty "list") rfl CA.dH eO rfl) ae))))) (cg (ay (dy (lA hr)) (pv 2) (dJ (aL.g 0) hr) (aB _))))) (ah (ar bL)) aG)
  (ai (aO (PW.pt (b7 (cS (br (av dc rfl CA.aS aR (aa (pv 3) (aa (gE (v:=.ty "list") rfl CA.dH eO rfl) ae))))) (cg (ay (dy (lA hr)) (pv 3) (aM (aL.g 83) hr (aa (pv 0) ae)) (aB _))))) (ah (ar bL)) aG)
  (ai (aQ (bK P3 SZ S1 bp (pv 2) (aa (pv 0) ae)))
  (ah (aQ (bK P3 SZ S1 bp (pv 3) (aa (pv 0) ae))))))))))
  (ah (ar bL)),?_⟩
 refine⟨2,rfl,by decide,by decide,dj (lo:=0) (n:=(2:Int).toNat) (fun _ σ H'=>∃(o1 o2 o3:Option V),σ=[some (.str (wd i)),o1,o2,o3]/\af H H') ⟨_,_,_,rfl,af.refl H⟩ ?_ ?_⟩
 ·rintro k σ H0 hk ⟨o1,o2,o3,rfl,s0⟩
  refine⟨rfl,fun p1 H1 s1 f1 h1=>⟨_,rfl,wd i,rfl,.inl ⟨i,hi,rfl,fun p2 H2 s2 f2 h2=>?_⟩⟩⟩;have h12:=s2 _ _ h1;refine⟨_,rfl,_,_,_,_,_,rfl,g8,.lst h12,iy,_,rfl,aP ⟨_,rfl,rfl,fun p3 H3 s3 f3 h3=>?_⟩⟩;have h13:=s3 _ _ h12;have h23:=s3 _ _ h2;refine⟨p1,p3,_,_,rfl,rfl,ao.of h13,ao.of h3,dk _,dk _,_,rfl,?_⟩;rw[jY];refine aP ⟨_,rfl,_,_,_,_,_,rfl,g8,.lst h23,iy,_,rfl,aP ⟨_,rfl,_,rfl,i,rfl,hi,fun p4 H4 s4 f4 h4=>?_⟩⟩;have h24:=s4 _ _ h23;have h14:=s4 _ _ h13;refine⟨p2,p4,_,_,rfl,rfl,ao.of h24,ao.of h4,dk _,dk _,_,rfl,?_⟩;rw[jY];have n12:p1≠p2:=aF h1 f2;have l1:(eY.map V.str).length<sizeLine:=oh (n:=10) (by decide);have l2:((cq i).map V.str).length<sizeLine:=by have:(cq i).length<=3:=aT.get (n:=10) (p:=fun i=>(cq i).length<=3) (by simp only[aT];decide+kernel) i hi;rw[FS];exact oh (by lia)
  have g1:H p1=none:=s0.free f1;have g2:H p2=none:=(s0.trans s1).free f2;have t4:=s0.trans (s1.trans (s2.trans (s3.trans s4)));refine aP ⟨_,rfl,.inl ⟨rfl,_,ao.of h14⟩,_,rfl,p1,_,_,rfl,rfl,h14,l1,?_⟩;have h25:=(aw (o:=.lst (eY.map V.str++[.str (wd i)])) (T6 n12)).trans h24;exact⟨_,rfl,.inl ⟨rfl,_,ao.of h25⟩,_,rfl,p2,_,_,rfl,rfl,h25,l2,_,_,_,rfl,(t4.upd g1 _).upd g2 _⟩
 ·rintro σ H' ⟨o1,o2,o3,rfl,s⟩
  exact q _ s
theorem G9(aL:Al P w K mg base ca er 85)(F:Fg K mg ca 85 "_law_amiss" lE):D P w K mg base ca er 85:=by
 refine bg F (fun _ _ _ _ _ _=>cE fun _ _=>rfl) (F.F.ok vE (fun vs H Q E h=>?_) (fun cZ AZ oZ sZ H vs Q E hr h=>?_))
 ·obtain⟨i,d,rfl,hi,hn,q⟩:=h
  rfl
 obtain⟨i,d,rfl,hi,hn,q⟩:=h;have hb:=Em;generalize bI lE=bZ at hb|-;refine⟨_,Fc ⟨vE.nd,rfl,rfl,rfl,SI rfl,SI rfl,SI rfl,SI rfl,WA rfl,Bq hr⟩ hb,?_⟩;have m0:=TJ d (show(6:Int)≠0 by decide);have m1:=Tx d (show(0:Int)<6 by decide);obtain⟨t,ht⟩:∃t,(eC i)[(d%6).toNat]?=some t:=⟨_,Da (by rw[xM i hi hn];lia)⟩;exact⟨wd i,d,_,t,rfl,by decide+kernel,by decide,D0 i hi hn,ht,fun v H'=>q t v H' ht⟩
theorem LM(aL:Al P w K mg base ca er 86)(F:Fg K mg ca 86 "by_rule" tD):D P w K mg base ca er 86:=by
 refine bg F (fun _ _ _ _ _ _=>aZ fun _=>rfl) (F.F.ok kl (fun vs H Q E h=>?_) (fun cZ AZ oZ sZ H vs Q E hr h=>?_))
 ·obtain⟨rfl,q⟩:=h
  rfl
 obtain⟨rfl,q⟩:=h;refine⟨_,ai (aA (i:=1) kl.nd rfl (SI rfl) ak) (ai (bH S9 rfl (cn rfl CA.bG (aa (pv 0) ae)) (ax (i:=2) kl.nd rfl (SI rfl)) (ah (aA (i:=1) kl.nd rfl (SI rfl) (au fM (au dG (pv 1) (au ba (au dG ak (pv 2)) ak)) (au ba (pv 2) ak))))) (ah (ar (pv 1)))),?_⟩
 refine⟨_,rfl,0,rfl,by decide,by decide,dj (lo:=0) (n:=(0:Int).toNat) (fun i σ H'=>H'=H/\∃o,σ=[some (.int 0),some (.int 1),o]) ⟨rfl,_,rfl⟩ (fun i σ H' hi=>absurd hi (UC _)) ?_⟩;rintro σ H' ⟨rfl,o,rfl⟩;exact⟨_,rfl,q⟩
theorem Ot(aL:Al P w K mg base ca er 87)(F:bB K ca 87 "unchecked_many" "SplitFamily.unchecked_many" xW):D P w K mg base ca er 87:=by
 refine bE F (fun _ _ _ _ _ _=>cE fun _ _=>rfl) (F.ok Oc (fun vs H Q E h=>?_) (fun cZ AZ oZ sZ H vs Q E hr h=>?_))
 ·obtain⟨x,rfl,q⟩:=h
  rfl
 obtain⟨x,rfl,q⟩:=h;refine⟨_,ah (ar (aM (aL.g 86) hr (aa (pv 1) ae))),?_⟩;exact⟨_,rfl,rfl,q _ (af.refl H)⟩
theorem JV(aL:Al P w K mg base ca er 88)(F:Fg K mg ca 88 "ring_many" tP):D P w K mg base ca er 88:=by
 refine bg F (fun _ _ _ _ _ _=>aZ fun _=>rfl) (F.F.ok j8 (fun vs H Q E h=>?_) (fun cZ AZ oZ sZ H vs Q E hr h=>?_))
 ·obtain⟨rfl,q⟩:=h
  rfl
 obtain⟨rfl,q⟩:=h;refine⟨_,ai (aA (i:=1) j8.nd rfl (SI rfl) ak) (ai (bH S9 rfl (a8 (au nZ (aK (aa (au ba (pv 0) ak) ae)) (au cz (pv 0) ak))) (ax (i:=2) j8.nd rfl (SI rfl)) (ah (aA (i:=1) j8.nd rfl (SI rfl) (au dG (pv 1) (pv 2))))) (ah (ar (pv 1)))),?_⟩
 refine⟨_,rfl,_,_,rfl,rfl,(by show 1<=sizeLine;decide),fun p0 hp0=>⟨_,rfl,_,_,rfl,rfl,p0,_,_,rfl,rfl,ag,by decide,by decide,KM _,fun p1 hp1=>⟨p1,rfl,⟨_,ao.of ag⟩,?_⟩⟩⟩;have s1:=af.new (af.new (af.refl H) hp0 (.lst [.int (1+1)])) hp1 (.lst []);refine dv (xs:=[]) (fun i σ H'=>∃o,σ=[some (.int 1),some (.int 1),o]/\af H H'/\H' p1=some (.lst [])) ⟨_,rfl,s1,ag⟩ (fun i σ H' _ h=>ao.of h.choose_spec.2.2) (fun i v σ H' hv=>by cases hv) ?_;rintro σ H' ⟨o,rfl,s,_⟩;exact⟨_,rfl,q H' s⟩
theorem Ou(aL:Al P w K mg base ca er 89)(F:bB K ca 89 "unchecked_many" "RingFamily.unchecked_many" yS):D P w K mg base ca er 89:=by
 refine bE F (fun _ _ _ _ _ _=>cE fun _ _=>rfl) (F.ok Ny (fun vs H Q E h=>?_) (fun cZ AZ oZ sZ H vs Q E hr h=>?_))
 ·obtain⟨x,rfl,q⟩:=h
  rfl
 obtain⟨x,rfl,q⟩:=h;refine⟨_,ah (ar (aM (aL.g 88) hr (aa (pv 1) ae))),?_⟩;exact⟨_,rfl,rfl,fun H1 s1=>q H1 s1⟩
theorem KY(aL:Al P w K mg base ca er 91)(F:bB K ca 91 "many" "Family.many" sV):D P w K mg base ca er 91:=by
 refine bE F (fun _ _ _ _ _ _=>cE fun _ _=>rfl) (F.ok IQ (fun vs H Q E h=>?_) (fun cZ AZ oZ sZ H vs Q E hr h=>?_))
 ·obtain⟨fw,hf,x,dx,fs,w,rfl,hx,fl,q⟩:=h
  rfl
 obtain⟨fw,hf,x,dx,fs,w,rfl,hx,fl,q⟩:=h;refine⟨_,ai (aO (PW.pt (b7 (ay dz (pv 1) (eA (pv 0) rfl) (aB _)) (cg (ay je (pv 1) (bV (v:=.int 40) rfl CA.fW.1 CA.fW.2) (aB _))))) (ah n6) aG) (ah (ar (mY (M:=10) (pv 0) CA.c4 CA.mtW_unchecked_many (aL.g 90) hr (aa (pv 1) ae)))),?_⟩;have b:=E7 fw;refine⟨_,rfl,_,rfl,x,_,dx,fs,_,rfl,hx,(CA.c4 fw hf),(CA.na4_least fw hf),fl.least,_,_,rfl,rfl,_,rfl,cf (by lia) ⟨_,rfl,_,_,rfl,rfl,_,rfl,cf (by lia) ?_⟩⟩;exact⟨fw,hf,_,rfl,x,dx,fs,rfl,hx,fl.no "unchecked_many" (by decide) (by decide),_,rfl,x,rfl,q⟩
theorem FF(aL:Al P w K mg base ca er 92)(F:bB K ca 92 "bare" "Brackets.bare" tQ):D P w K mg base ca er 92:=by
 refine bE F (fun _ _ _ _ _ _=>aZ fun _=>rfl) (F.ok Mv (fun vs H Q E h=>?_) (fun cZ AZ oZ sZ H vs Q E hr h=>?_))
 ·obtain⟨x,rfl,q⟩:=h
  rfl
 obtain⟨x,rfl,q⟩:=h;refine⟨_,ah (ar az),?_⟩;exact q _ _ (af.refl H) (by show Rp H H (.str "") (.str "");unfold Rp;rfl)
theorem KZ(aL:Al P w K mg base ca er 93)(F:bB K ca 93 "bare" "Stairs.bare" tq):D P w K mg base ca er 93:=by
 refine bE F (fun _ _ _ _ _ _=>aZ fun _=>rfl) (F.ok Hk (fun vs H Q E h=>?_) (fun cZ AZ oZ sZ H vs Q E hr h=>?_))
 ·obtain⟨x,rfl,q⟩:=h
  rfl
 obtain⟨x,rfl,q⟩:=h;refine⟨_,ah (ar (aK ae)),?_⟩;exact⟨KM _,fun p hp=>q _ _ (af.new (af.refl H) hp _) (by show Rp H _ (.lst []) _;unfold Rp bj;exact⟨p,[],rfl,hp,ag,rfl⟩)⟩
theorem GN(aL:Al P w K mg base ca er 94)(F:bB K ca 94 "bare" "Twins.bare" tm):D P w K mg base ca er 94:=by
 refine bE F (fun _ _ _ _ _ _=>aZ fun _=>rfl) (F.ok Mx (fun vs H Q E h=>?_) (fun cZ AZ oZ sZ H vs Q E hr h=>?_))
 ·obtain⟨x,rfl,q⟩:=h
  rfl
 obtain⟨x,rfl,q⟩:=h;refine⟨_,ah (ar (cD ae)),?_⟩;exact⟨KM _,fun p hp=>q _ _ (af.new (af.refl H) hp _) (by show Rp H _ (.tup []) _;unfold Rp bj;exact⟨p,[],rfl,hp,ag,rfl⟩)⟩
theorem M1(aL:Al P w K mg base ca er 95)(F:bB K ca 95 "bare" "Bows.bare" uW):D P w K mg base ca er 95:=by
 refine bE F (fun _ _ _ _ _ _=>aZ fun _=>rfl) (F.ok JZ (fun vs H Q E h=>?_) (fun cZ AZ oZ sZ H vs Q E hr h=>?_))
 ·obtain⟨x,rfl,q⟩:=h
  rfl
 obtain⟨x,rfl,q⟩:=h;refine⟨_,ah (ar (aK ae)),?_⟩;exact⟨KM _,fun p hp=>q _ _ (af.new (af.refl H) hp _) (by show Rp H _ (.lst []) _;unfold Rp bj;exact⟨p,[],rfl,hp,ag,rfl⟩)⟩
theorem GI(aL:Al P w K mg base ca er 96)(F:bB K ca 96 "bare" "Rooms.bare" t9):D P w K mg base ca er 96:=by
 refine bE F (fun _ _ _ _ _ _=>aZ fun _=>rfl) (F.ok MC (fun vs H Q E h=>?_) (fun cZ AZ oZ sZ H vs Q E hr h=>?_))
 ·obtain⟨x,rfl,q⟩:=h
  rfl
 obtain⟨x,rfl,q⟩:=h;refine⟨_,ah (ar (aK ae)),?_⟩;exact⟨KM _,fun p hp=>q _ _ (af.new (af.refl H) hp _) (by show Rp H _ (.lst []) _;unfold Rp bj;exact⟨p,[],rfl,hp,ag,rfl⟩)⟩
theorem Mj(aL:Al P w K mg base ca er 97)(F:bB K ca 97 "bare" "Floors.bare" tF):D P w K mg base ca er 97:=by
 refine bE F (fun _ _ _ _ _ _=>aZ fun _=>rfl) (F.ok Hx (fun vs H Q E h=>?_) (fun cZ AZ oZ sZ H vs Q E hr h=>?_))
 ·obtain⟨x,rfl,q⟩:=h
  rfl
 obtain⟨x,rfl,q⟩:=h;refine⟨_,ah (ar (cD (aa ak (aa (aK ae) ae)))),?_⟩;refine⟨KM _,fun p hp=>⟨(by show 2<=sizeLine;decide),fun t ht=>?_⟩⟩;have s1:=af.new (af.refl H) hp (.lst []);have s2:=af.new (af.refl _) ht (.tup [.int 2,.ref p]);refine q _ _ (s1.trans s2) ?_;show Rp H _ (.tup [.int 2,.lst []]) _;unfold Rp;refine⟨t,_,rfl,s1.free ht,ag,?_⟩;unfold bj;refine⟨_,_,rfl,by unfold Rp;rfl,?_⟩;unfold bj;refine⟨_,_,rfl,?_,by unfold bj;rfl⟩;unfold Rp bj;exact⟨p,[],rfl,hp,s2 _ _ ag,rfl⟩
theorem KS(aL:Al P w K mg base ca er 98)(F:bB K ca 98 "bare" "Turns.bare" uA):D P w K mg base ca er 98:=by
 refine bE F (fun _ _ _ _ _ _=>aZ fun _=>rfl) (F.ok Lw (fun vs H Q E h=>?_) (fun cZ AZ oZ sZ H vs Q E hr h=>?_))
 ·obtain⟨x,rfl,q⟩:=h
  rfl
 obtain⟨x,rfl,q⟩:=h;refine⟨_,ah (ar (aK ae)),?_⟩;exact⟨KM _,fun p hp=>q _ _ (af.new (af.refl H) hp _) (by show Rp H _ (.lst []) _;unfold Rp bj;exact⟨p,[],rfl,hp,ag,rfl⟩)⟩
theorem Od(aL:Al P w K mg base ca er 100)(F:bB K ca 100 "thing_by_parts" "SplitFamily.thing_by_parts" xT):D P w K mg base ca er 100:=by
 refine bE F (fun _ _ _ _ _ _=>Sw fun _ _ _ _=>rfl) (F.ok Ow (fun vs H Q E h=>?_) (fun cZ AZ oZ sZ H vs Q E hr h=>?_))
 ·obtain⟨fw,hf,x,dx,fs,w,c,rfl,hx,fl,q⟩:=h
  rfl
 obtain⟨fw,hf,x,dx,fs,w,c,rfl,hx,fl,q⟩:=h;refine⟨_,ai (aO (ay b6 (pv 2) ak (aB _)) (ah (ar (P9 (M:=7) (pv 0) (fun i hi=>CA.c4 i (by lia)) CA.mtV_bare (aL.g 99) hr))) aG) eW,?_⟩;exact⟨_,rfl,rfl,_,rfl,cw rfl ⟨fw,hf,_,rfl,x,dx,fs,rfl,hx,fl.no "bare" (by decide) (by decide),x,rfl,fun v H1 s1 r=>q v H1 s1 r⟩⟩
theorem EM(aL:Al P w K mg base ca er 101)(F:Fg K mg ca 101 "shares" oN):D P w K mg base ca er 101:=by
 refine bg F (fun _ _ _ _ _ _=>aZ fun _=>rfl) (F.F.ok lQ (fun vs H Q E h=>?_) (fun cZ AZ oZ sZ H vs Q E hr h=>?_))
 ·obtain⟨rfl,q⟩:=h
  rfl
 obtain⟨rfl,q⟩:=h;refine⟨_,ai (aA (i:=1) lQ.nd rfl (WA rfl) (aK (aa ak ae))) (ai (bH S9 rfl (cn rfl CA.bG (aa (pv 0) ae)) (ax (i:=2) lQ.nd rfl (WA rfl)) (ah (aQ (bK P3 SZ S1 bp (pv 1) (aa (av (Ab rfl) rfl CA.Oq IE (aa (bh rfl (cn rfl CA.bG (aa (au ba (pv 2) ak) ae)) rfl rfl rfl rfl (N:=["j","found","k"]) (.own (.cap (j:=1) rfl rfl rfl (.cap (j:=2) rfl rfl rfl .nil))) (fun _ _ _ _ _ _=>(ax (i:=0) (by show S8 (["j","found","k"]:List Str);decide+kernel) rfl (SI rfl))) (fun _ _ _ _ _ _=>bQ) (fun _ _ _ _ _ _=>(au dG (aV (eM (K:=K) rfl) (pv 1) (pv 0) (fun _ _=>rfl)) (aV (eM (K:=K) rfl) (pv 1) (au cz (pv 2) (pv 0)) (fun _ _=>rfl))))) ae)) ae))))) (ah (ar (pv 1)))),?_⟩
 refine⟨(by show 1<=sizeLine;decide),fun p hp=>⟨_,rfl,0,rfl,by decide,by decide,dj (lo:=0) (n:=(0:Int).toNat) (fun i σ H'=>∃o,σ=[some (.int 0),some (.ref p),o]/\af H H') ⟨_,rfl,af.new (af.refl H) hp _⟩ (fun i σ H' hi=>absurd hi (UC _)) ?_⟩⟩;rintro σ H' ⟨o,rfl,s⟩;exact⟨_,rfl,q p H' s⟩
theorem N7(aL:Al P w K mg base ca er 102)(F:bB K ca 102 "unchecked_thing" "SplitFamily.unchecked_thing" yX):D P w K mg base ca er 102:=by
 refine bE F (fun _ _ _ _ _ _=>iw fun _ _ _=>rfl) (F.ok NF (fun vs H Q E h=>?_) (fun cZ AZ oZ sZ H vs Q E hr h=>?_))
 ·obtain⟨fw,hf,x,dx,fs,w,rfl,hx,fl,q⟩:=h
  rfl
 obtain⟨fw,hf,x,dx,fs,w,rfl,hx,fl,q⟩:=h;refine⟨_,ah (ar (mY (M:=7) (pv 0) (fun i hi=>CA.c4 i (by lia)) CA.mtV_thing_by_parts (fun _ _=>(aL.g 100)) hr (aa (aM (aL.g 101) hr (aa (pv 1) ae)) (aa (pv 1) (aa (pv 2) ae))))),?_⟩;refine⟨fw,hf,_,rfl,x,dx,fs,rfl,hx,fl.no "thing_by_parts" (by decide) (by decide),_,rfl,rfl,fun pc H1 s1=>?_⟩;exact⟨_,rfl,_,rfl,fw,hf,x,dx,fs,w,.ref pc,rfl,s1 _ _ hx,fl,fun v H' s r=>q v H' (s1.trans s) (r.since s1)⟩
theorem HI(aL:Al P w K mg base ca er 103)(F:bB K ca 103 "of_code" "Codes.of_code" rn):D P w K mg base ca er 103:=by
 refine bE F (fun _ _ _ _ _ _=>cE fun _ _=>rfl) (F.ok MP (fun vs H Q E h=>?_) (fun cZ AZ oZ sZ H vs Q E hr h=>?_))
 ·obtain⟨x,dx,fs,w,l,rfl,hx,fl,hl,q⟩:=h
  rfl
 obtain⟨x,dx,fs,w,l,rfl,hx,fl,hl,q⟩:=h;refine⟨_,ah (ar (iJ o8 rfl CA.dH eO (aa (pv 1) ae))),?_⟩;exact⟨_,rfl,l,_,rfl,.inl (ao.of hl),fun p hp=>q _ _ (af.new (af.refl H) hp _) (lN (ns:=[]) hp ag)⟩
theorem Mn(aL:Al P w K mg base ca er 104)(F:bB K ca 104 "of_code" "Trees.of_code" sN):D P w K mg base ca er 104:=by
 refine bE F (fun _ _ _ _ _ _=>cE fun _ _=>rfl) (F.ok fV (fun vs H Q E h=>?_) (fun cZ AZ oZ sZ H vs Q E hr h=>?_))
 ·obtain⟨x,dx,fs,w,l,rfl,hx,fl,hl,q⟩:=h
  rfl
 obtain⟨x,dx,fs,w,l,rfl,hx,fl,hl,q⟩:=h;refine⟨_,ai (aA (i:=2) fV.nd rfl (WA rfl) (au iQ (pv 1) (aK (aa ak ae)))) (ai (aA (i:=3) fV.nd rfl (SI rfl) (oO rfl rfl CA.dH rfl CA.bG (aa ak (aa (au ba (av aH rfl CA.bt bb (aa (pv 2) ae)) ak) ae)))) (ai (aA (i:=4) fV.nd rfl (SI rfl) (au nZ (aK (aa ak ae)) (av aH rfl CA.bt bb (aa (pv 2) ae))))
  (ai (bH S9 rfl (eN rfl CA.cG (aa (pv 2) ae)) (gQ rfl (aJ (ax (i:=5) fV.nd rfl (WA rfl)) (aJ (ax (i:=6) fV.nd rfl (SI rfl)) bP))) (ai (aA (i:=7) fV.nd rfl (SI rfl) (av (iD rfl) rfl CA.sD oF (aa (bh rfl (a8 (pv 3)) rfl rfl rfl rfl (N:=["knot","written","place"]) (.own (.cap (j:=2) rfl rfl rfl (.cap (j:=5) rfl rfl rfl .nil))) (fun _ _ _ _ _ _=>(ax (i:=0) (by show S8 (["knot","written","place"]:List Str);decide+kernel) rfl (SI rfl))) (fun _ _ _ _ _ _=>(cN (ay (mq (K:=K) rfl) (pv 0) (cu (jT (K:=K) rfl) (pv 1) (cV (pv 2)) cU) (by rfl)))) (fun _ _ _ _ _ _=>(pv 0))) ae)))
  (ai (oz (pv 6) (nN (pv 4) (au cz (pv 7) ak) set_list))
  (ah (aQ (bK P3 PySem.F.slot_list_remove PySem.F.type_list_remove vJ (pv 3) (aa (pv 7) ae)))))))
  (ah (ar (pv 4)))))),?_⟩
 refine⟨_,rfl,(by show 1<=sizeLine;decide),fun p0 hp0=>?_⟩;have s1:=af.new (af.refl H) hp0 (.lst [.int 0]);refine⟨l,p0,_,_,rfl,rfl,s1 _ _ hl,ag,(by show 1<=sizeLine;decide),fun pw hpw=>?_⟩;have s2:=af.new s1 hpw (.lst [.int 0]);have hw2:upd (upd H p0 (.lst [.int 0])) pw (.lst [.int 0]) pw=some (.lst [.int 0]):=ag;show _;refine⟨_,rfl,pw,_,rfl,.inl (ao.of hw2),_,_,rfl,rfl,_,_,rfl,⟨by decide,by decide,by decide,by decide⟩,by decide,fun pt hpt=>?_⟩;have k3:=af.new (af.refl _) hpt (.lst [.int 1]);have ht3:=ag (H:=upd (upd H p0 (.lst [.int 0])) pw (.lst [.int 0])) (a:=pt) (o:=.lst [.int 1]);have hw3:=k3 _ _ hw2;have s3:=s2.trans k3;have fpt:H pt=none:=s2.free hpt;have nwt:pw≠pt:=aF hw2 hpt;show _;refine⟨(by show 1<=sizeLine;decide),fun q0 HY=>?_⟩;have k4:=af.new (af.refl _) HY (.lst [.int 0]);refine⟨_,rfl,pw,_,rfl,.inl (ao.of (k4 _ _ hw3)),q0,_,_,rfl,rfl,ag,by decide,by decide,(by show 1<=sizeLine;decide),fun pe hpe=>?_⟩;have k5:=k4.trans (af.new (af.refl _) hpe (.lst [.int 0]));have s5:=s3.trans k5;have fpe:H pe=none:=(s3.trans k4).free hpe;have nwe:pw≠pe:=aF (k4 _ _ hw3) hpe;have nte:pt≠pe:=aF (k4 _ _ ht3) hpe;refine⟨_,rfl,pw,rfl,⟨_,ao.of (k5 _ _ hw3)⟩,jX (xs:=[.int 0]) (fun i σ H'=>∃(o1 o2 o3:Option V),σ=[some (.ref x),some (.ref l),some (.ref pw),some (.ref pt),some (.ref pe),o1,o2,o3]/\af H H'/\H' pw=some (.lst [.int 0])/\(i=0->H' pt=some (.lst ([1].map V.int)))/\H' pe=some (.lst ([0].map V.int))) ⟨_,_,_,rfl,s5,k5 _ _ hw3,fun _=>k5 _ _ ht3,ag⟩ (fun i σ H' _ h=>by obtain⟨_,_,_,_,_,hw,_⟩:=h;exact ao.of hw) ?_ ?_⟩
 ·rintro i v σ H6 U hv ⟨o1,o2,o3,rfl,sm,hw6,ht6,he6⟩ hU
  match i,hv,ht6 with
  |0,hv,ht6=>
   cases hv
   have ht6:=ht6 rfl;have k7:=af.new (af.refl H6) hU (.tup [.int ((0:Nat):Int),.int 0]);refine⟨U,_,rfl,bN.of ag,rfl,_,_,rfl,_,_,rfl,rfl,?_⟩;have hw7:=k7 _ _ hw6;have ht7:=k7 _ _ ht6;have he7:=k7 _ _ he6;have s7:=sm.trans k7;generalize upd H6 U (.tup [.int ((0:Nat):Int),.int 0])=H7 at hw7 ht7 he7 s7|-;refine⟨_,rfl,pt,rfl,⟨_,ao.of ht7⟩,fun D hD=>cX (xs:=[.int 1]) (fun j ys H'=>af H7 H'/\H' D=some (.lst ys)/\ys=[V.int 1].take j) (sz (n:=1) (by decide)) ⟨af.new (af.refl H7) hD _,ag,rfl⟩ (fun j ys H' hj h=>⟨ao.of (h.1 _ _ ht7),by rw[h.2.2,Tj];exact Nat.min_le_left _ _⟩) (fun j u ys H' R R0 hu h r r0=>?_) (fun ys H' h=>?_)⟩
   ·obtain⟨sj,hy,ey⟩:=h
    match j,hu,ey with
    |0,hu,ey=>
     cases hu
     refine⟨Ext.set rfl,_,rfl,_,rfl,_,rfl,_,rfl,pw,_,rfl,ao.of (sj _ _ hw7),fun c2 hc2=>?_⟩;have hy2:=(aw (o:=.lst [.int 0]) (aF hy hc2)).trans hy;have sj2:=af.new sj hc2 (.lst [.int 0]);exact⟨1,c2,[0],rfl,rfl,ao.of ag,_,rfl,fX (by decide) ⟨_,rfl,r _ _ hy2 ⟨sj2.upd hD _,ag,by rw[ey];rfl⟩⟩⟩
    |j+1,hu,_=>cases hu
   ·obtain⟨s8,hy,ey⟩:=h
    have hy:H' D=some (.lst ([1].map V.int)):=by rw[hy,ey];rfl
    refine⟨D,[1],rfl,ao.of hy,by decide,fun t ht _=>?_⟩;have et:t=1:=by simpa using ht
    subst et;have he8:=s8 _ _ he7;have ht8:=s8 _ _ ht7;refine⟨_,rfl,_,rfl,_,rfl,_,_,rfl,rfl,pe,_,_,_,rfl,rfl,he8,rfl,?_⟩;have ht9:=(aw (o:=.lst [.int 0]) nte).trans ht8;have s9:=s7.trans s8;refine⟨_,rfl,.inl ⟨rfl,_,ao.of ht9⟩,_,rfl,pt,[1],1,rfl,rfl,ht9,by decide,?_⟩;exact⟨_,_,_,rfl,(s9.upd fpe _).upd fpt _,(aw nwt).trans ((aw nwe).trans (s8 _ _ hw7)),nofun,(aw (T6 nte)).trans ag⟩
  |i+1,hv,_=>cases hv
 ·rintro σ H6 ⟨o1,o2,o3,rfl,sm,_,_,he6⟩
  exact⟨_,rfl,q _ _ sm (lN (ns:=[0]) fpe he6)⟩
theorem Gh(aL:Al P w K mg base ca er 105)(F:bB K ca 105 "of_code" "Cars.of_code" uV):D P w K mg base ca er 105:=by
 refine bE F (fun _ _ _ _ _ _=>cE fun _ _=>rfl) (F.ok iV (fun vs H Q E h=>?_) (fun cZ AZ oZ sZ H vs Q E hr h=>?_))
 ·obtain⟨x,dx,fs,w,l,rfl,hx,fl,hl,q⟩:=h
  rfl
 obtain⟨x,dx,fs,w,l,rfl,hx,fl,hl,q⟩:=h;refine⟨_,ai (aA (i:=2) iV.nd rfl (WA rfl) (au ba (av aH rfl CA.bt bb (aa (pv 1) ae)) ak)) (ai (aA (i:=3) iV.nd rfl (SI rfl) (aK (aa ak ae))) (ai (bH S9 rfl (a8 (pv 1)) (ax (i:=4) iV.nd rfl (SI rfl)) (ah (aQ (bK P3 SZ S1 bp (pv 3) (aa (au bu (au ba (aV a9 (pv 3) (rW pO ak) (fun _ _=>rfl)) (pv 4)) (pv 2)) ae)))))
  (ai (h8 S9 (cS (br (BU (pv 0) (CA.c4 9 (by decide)) (CA.mtW_is_one 9 (by decide)) (aL.g 74) hr (aa (pv 3) ae)))) (ah (gY (i:=3) iV.nd rfl (SI rfl) rfl rfl (a8 (pv 3)) rfl rfl rfl rfl (N:=["wish","ring"]) (.own (.cap (j:=2) rfl rfl rfl .nil)) (fun _ _ _ _ _ _=>(ax (i:=0) (by show S8 (["wish","ring"]:List Str);decide+kernel) rfl (SI rfl))) (fun _ _ _ _ _ _=>bQ) (fun _ _ _ _ _ _=>(au bu (au ba (pv 0) ak) (pv 1))))))
  (ah (ar (pv 3)))))),?_⟩
 refine⟨_,rfl,l,_,rfl,.inl (ao.of hl),_,_,rfl,rfl,(by show 1<=sizeLine;decide),fun pw hpw=>?_⟩;have s1:=af.new (af.refl H) hpw (.lst [.int 0]);refine⟨_,rfl,l,rfl,⟨_,ao.of (s1 _ _ hl)⟩,dv (xs:=[]) (fun i σ H'=>∃(o1:Option V)(r:Int),σ=[some (.ref x),some (.ref l),some (.int r),some (.ref pw),o1]/\af H H'/\H' pw=some (.lst ([0].map V.int))) ⟨_,_,rfl,s1,ag⟩ (fun i σ H' _ h=>by obtain⟨_,_,_,sm,_⟩:=h;exact ao.of (sm _ _ hl)) (fun i v σ H' hv=>by cases hv) ?_⟩;rintro σ H2 ⟨o1,r,rfl,sm,hw⟩;refine⟨fun m σ H'=>σ=[some (.ref x),some (.ref l),some (.int r),some (.ref pw),o1]/\af H H'/\H' pw=some (.lst ([0].map V.int)),⟨0,rfl,sm,hw⟩,?_⟩;rintro m σ H3 ⟨rfl,s3,h3⟩;exact⟨_,rfl,x,dx,fs,rfl,s3 _ _ hx,fl.no "is_one" (by decide) (by decide),_,rfl,x,.ref pw,true,rfl,⟨pw,[0],rfl,h3,by decide,by decide⟩,fun H4 s4=>⟨_,rfl,aP ⟨_,rfl,q _ _ (s3.trans s4) (lN (ns:=[0]) hpw (s4 _ _ h3))⟩⟩⟩
theorem KU(aL:Al P w K mg base ca er 107)(F:Fg K mg ca 107 "number_figures" uY):D P w K mg base ca er 107:=by
 refine bg F (fun _ _ _ _ _ _=>iw fun _ _ _=>rfl) (F.F.ok iL (fun vs H Q E h=>?_) (fun cZ AZ oZ sZ H vs Q E hr h=>?_))
 ·obtain⟨rfl,q⟩:=h
  rfl
 obtain⟨rfl,q⟩:=h;refine⟨_,ai (aA (i:=3) iL.nd rfl (SI rfl) (au nZ (aK (aa ak ae)) (pv 2))) (ai (aA (i:=4) iL.nd rfl (SI rfl) (pv 0)) (ai (bH S9 rfl (DS rfl CA.bG (aa (au cz (pv 2) ak) (aa (rW pO ak) (aa (rW pO ak) ae)))) (ax (i:=5) iL.nd rfl (SI rfl)) (ai (oz (au bu (pv 4) (pv 1)) (nN (pv 3) (pv 5) set_list))
  (ah (aA (i:=4) iL.nd rfl (SI rfl) (au fM (pv 4) (pv 1))))))
  (ah (ar (pv 3))))),?_⟩
 refine⟨(by show 1<=sizeLine;decide),fun p0 hp0=>⟨_,rfl,p0,_,_,rfl,rfl,ag,by decide,by decide,KM _,fun p1 hp1=>?_⟩⟩;have s1:=af.new (af.new (af.refl H) hp0 (.lst [.int 0])) hp1 (.lst []);refine⟨_,rfl,_,rfl,_,_,rfl,rfl,_,rfl,_,rfl,_,_,rfl,⟨by decide,by decide,by decide,by decide⟩,zf (lo:=0-1) (n:=(0-1- (-1:Int)).toNat) (fun i σ H'=>∃(o:Option V),σ=[some (.int 0),some (.int 2),some (.int 0),some (.ref p1),some (.int 0),o]/\af H H'/\H' p1=some (.lst [])) ⟨_,rfl,s1,ag⟩ (fun i σ H' hi=>absurd hi (UC _)) ?_⟩;rintro σ H' ⟨o,rfl,s,h⟩;exact⟨_,rfl,q p1 H' s h⟩
theorem NC(aL:Al P w K mg base ca er 108)(F:bB K ca 108 "unchecked_thing" "RingFamily.unchecked_thing" zg):D P w K mg base ca er 108:=by
 refine bE F (fun _ _ _ _ _ _=>iw fun _ _ _=>rfl) (F.ok OI (fun vs H Q E h=>?_) (fun cZ AZ oZ sZ H vs Q E hr h=>?_))
 ·obtain⟨fw,hf,x,dx,fs,w,rfl,hx,fl,q⟩:=h
  rfl
 obtain⟨fw,hf,x,dx,fs,w,rfl,hx,fl,q⟩:=h;refine⟨_,ah (ar (mY (M:=3) (pv 0) (fun i hi=>CA.c4 (i+7) (by lia)) CA.mtR_of_code (aL.g 106) hr (aa (aM (aL.g 107) hr (aa (pv 2) (aa (au ba (pv 1) ak) (aa (au cz (pv 1) ak) ae)))) ae))),?_⟩;refine⟨fw,hf,_,rfl,x,dx,fs,rfl,hx,fl.no "of_code" (by decide) (by decide),_,rfl,_,rfl,_,_,rfl,rfl,_,rfl,_,_,rfl,rfl,rfl,fun p H1 s1 h1=>?_⟩;exact⟨x,dx,fs,w,p,rfl,s1 _ _ hx,fl,h1,fun v H2 s2 r=>q v H2 (s1.trans s2) (r.since s1)⟩
theorem IY(aL:Al P w K mg base ca er 110)(F:bB K ca 110 "thing_of" "Family.thing_of" tO):D P w K mg base ca er 110:=by
 refine bE F (fun _ _ _ _ _ _=>iw fun _ _ _=>rfl) (F.ok wM (fun vs H Q E h=>?_) (fun cZ AZ oZ sZ H vs Q E hr h=>?_))
 ·obtain⟨fw,hf,x,dx,fs,w,rfl,hx,fl,q⟩:=h
  rfl
 obtain⟨fw,hf,x,dx,fs,w,rfl,hx,fl,q⟩:=h;refine⟨_,ai (aA (i:=3) wM.nd rfl (SI rfl) (mY (M:=10) (pv 0) CA.c4 CA.mtW_many (fun _ _=>(aL.g 91)) hr (aa (pv 1) ae))) (ai (aO (PW.pt (b7 (ay dz (pv 2) ak (aB _)) (cg (ay CB (pv 2) (pv 3) (aB _))))) (ah n6) aG) (ah (ar (mY (M:=10) (pv 0) CA.c4 CA.mtW_unchecked_thing (aL.g 109) hr (aa (pv 1) (aa (pv 2) ae)))))),?_⟩
 refine⟨fw,hf,_,rfl,x,dx,fs,rfl,hx,fl.no "many" (by decide) (by decide),_,rfl,fw,hf,x,dx,fs,w,rfl,hx,fl,fun H1 s1=>?_⟩;refine⟨_,rfl,_,_,rfl,rfl,_,rfl,cf (by decide) ⟨_,rfl,_,rfl,_,_,rfl,rfl,_,rfl,cf (by decide) ?_⟩⟩;exact⟨fw,hf,_,rfl,x,dx,fs,rfl,s1 _ _ hx,fl.no "unchecked_thing" (by decide) (by decide),_,rfl,_,rfl,x,dx,fs,w,rfl,s1 _ _ hx,fl,fun v H2 s2 r=>q v H2 (s1.trans s2) (r.since s1)⟩
theorem DV(aL:Al P w K mg base ca er 111)(F:bB K ca 111 "law" "law" gM):bz P w K mg base lF 12 (ca.f 111) (ca.fd 111) ["_law_script"] (EI K ca):=by
 refine F.ok dQ (fun vs H Q E h=>?_) (fun cZ AZ oZ sZ H vs Q E hr h=>?_)
 ·obtain⟨a,ns,rfl,hS,h63,q⟩:=h
  rfl
 obtain⟨a,ns,rfl,hS,h63,q⟩:=h;refine⟨_,ai (aA (i:=1) dQ.nd rfl (SI rfl) (aV a9 (dJ (aL.g 0) hr) (au bu (aM (aL.g 1) hr (aa (pv 0) (aa ak ae))) ak) (fun _ _=>rfl))) (ai (aA (i:=2) dQ.nd rfl (SI rfl) (aM (aL.g 4) hr (aa (pv 0) (aa ak (aa (pv 1) ae))))) (ai (aA (i:=3) dQ.nd rfl (SI rfl) (aM (aL.g 4) hr (aa (pv 0) (aa ak (aa (aV a9 (aK (aa az (aa az (aa az (aa az (aa az ae)))))) (au bu (aM (aL.g 1) hr (aa (pv 0) (aa ak ae))) ak) (fun _ _=>rfl)) ae)))))
  (lO (aO (ay jb (pv 2) (dJ (aL.g 0) hr) (by rfl)) (ai (aO (PW.pt (b7 (ay (dy (lA hr)) (aM (aL.g 56) hr (aa (pv 2) (aa ak ae))) (aK (aa az ae)) (aB _)) (cg (ay (dy (lA hr)) (aM (aL.g 56) hr (aa (pv 2) (aa ak ae))) (aK (aa az ae)) (aB _))))) (ah (ar bL)) aG)
  (ah (aO (ay (dy (lA hr)) (aM (aL.g 79) hr (aa (pv 2) (aa (pv 3) (aa (aK ae) ae)))) (aK (aa az ae)) (aB _)) (ah (ar bL)) aG))) aG)
  (ai (aO (cS (br (aM (aL.g 81) hr (aa (pv 2) (aa (au bu (aM (aL.g 1) hr (aa (pv 0) (aa ak ae))) ak) ae))))) (ah (ar bL)) aG)
  (ai (aA (i:=4) dQ.nd rfl (SI rfl) (aM (aL.g 20) hr (aa (pv 1) ae)))
  (ai (aO (PW.pt (b7 (cS (br (av dc rfl CA.aS aR (aa (pv 4) (aa (bV (v:=.ref (ca.C 10)) rfl CA.fB rfl) ae))))) (b7 (ay ji (eA (pv 4) rfl) (pv 1) (aB _)) (cg (cS (br (aM (aL.g 84) hr (aa (pv 1) ae)))))))) (ah (ar bL)) aG)
  (ai (aA (i:=5) dQ.nd rfl (SI rfl) (aK (aa az ae)))
  (lO (aO (ay fZ (pv 3) (aM (aL.g 83) hr (aa (pv 1) ae)) (by rfl)) (ah (aA (i:=5) dQ.nd rfl (SI rfl) (aK (aa az ae)))) aG)
  (lO (aO (ay ji (pv 1) az (aB _)) (ai (aA (i:=6) dQ.nd rfl (SI rfl) (aM (aL.g 85) hr (aa (pv 1) (aa (aM (aL.g 1) hr (aa (pv 0) (aa ak ae))) ae))))
  (ah (aO (ay (dy (lA hr)) (aM (aL.g 79) hr (aa (pv 1) (aa (pv 3) (aa (pv 6) ae)))) (pv 5) (aB _)) (ah (ar bL)) aG))) aG)
  (ai (aO (ay jb (pv 3) (aM (aL.g 83) hr (aa (pv 1) ae)) (by rfl)) (ah (ar (cx (hG (lA hr)) (aM (aL.g 79) hr (aa (pv 1) (aa (pv 3) (aa (mY (M:=10) (pv 4) CA.c4 CA.mtW_thing_of (fun _ _=>(aL.g 110)) hr (aa (eA (pv 4) rfl) (aa ak ae))) ae)))) (aK (aa az ae)) (aB _)))) aG)
  (ah (ar (cx b6 (aM (aL.g 78) hr (aa (pv 1) (aa (pv 3) (aa (mY (M:=10) (pv 4) CA.c4 CA.mtW_thing_of (fun _ _=>(aL.g 110)) hr (aa (eA (pv 4) rfl) (aa ak ae))) ae)))) (iJ wo rfl CA.Cr vi (aa (cx fZ (pv 1) (cD (aa az (aa az (aa az ae)))) (by rfl)) ae)) (aB _)))))))))))))),?_⟩
 obtain⟨i,hi,ei⟩:=E5 (ns.getD (0:Int).toNat 0);refine⟨rfl,fun p1 H1 s1 f1 h1=>⟨_,rfl,a,ns,0,rfl,s1.seq hS,by decide,_,_,rfl,rfl,pm (by decide),p1,_,_,_,rfl,rfl,ao.of h1,ei,?_⟩⟩;have hS1:=s1.seq hS;clear s1 hS h1 f1;refine⟨_,rfl,_,rfl,a,ns,2,wd i,rfl,hS1,h63,by decide,by decide,JB i hi,fun y H2 s2=>?_⟩;have hS2:=s2.seq hS1;clear s2 hS1;obtain⟨z,lz,ez⟩:=Fs (ns.getD (1:Int).toNat 0);refine⟨_,rfl,(by show 5<=sizeLine;decide),fun pn hpn=>?_⟩;have k3:=af.new (af.refl H2) hpn (.lst (xl.map V.str));have hS3:=k3.seq hS2;refine⟨_,rfl,a,ns,1,rfl,hS3,by decide,_,_,rfl,rfl,pm (by decide),pn,_,_,_,rfl,rfl,ao.of ag,ez,a,ns,100,z,rfl,hS3,h63,by decide,by decide,lz,fun n H4 s4=>?_⟩;have hS4:=s4.seq hS3;clear s4 hS3 k3 hS2;refine⟨fun σ H'=>∃o5 o6 o7,σ=[some (.ref a),some (.str (wd i)),some (.str y),some (.str n),o5,o6,o7]/\ao K H' a (ns.map V.int),?_,?_⟩
 ·refine⟨_,rfl,rfl,fun p3 H3 s3 f3 h3=>⟨y,p3,eY,rfl,rfl,ao.of h3,_,rfl,?_⟩⟩
  have hS3:=s3.seq hS4;by_cases hw:y∈eY;·exact dS hw ⟨_,_,_,rfl,hS3⟩
  ·refine fX hw ⟨_,rfl,y,0,rfl,hw,.inl rfl,fun p5 H5 s5 f5 h5=>lY h5 fun H6 s6=>⟨_,rfl,aP ⟨_,rfl,y,1,rfl,hw,.inr rfl,fun p7 H7 s7 f7 h7=>lY h7 fun H8 s8=>⟨_,rfl,aP ?_⟩⟩⟩⟩
   have k8:=s5.trans (s6.trans (s7.trans s8));exact⟨_,rfl,_,rfl,KM _,fun pe hpe=>⟨y,n,.ref pe,_,rfl,.inl ⟨hw,rfl⟩,fun p9 H9 s9 f9 h9=>lY h9 fun H10 s10=>⟨_,rfl,aP ⟨_,_,_,rfl,(s9.trans s10).seq ((af.new (af.refl _) hpe _).seq (k8.seq hS3))⟩⟩⟩⟩
 rintro σ H5 ⟨o5,o6,o7,rfl,hS5⟩;clear hS4;refine⟨_,rfl,_,rfl,a,ns,3,rfl,hS5,by decide,_,_,rfl,rfl,pm (by decide),y,_,rfl,TJ _ (by decide),Int.le_of_lt (Int.lt_of_lt_of_le (Tx _ (by decide)) (by decide)),fun H6 s6=>⟨_,rfl,aP ?_⟩⟩;have hS6:=s6.seq hS5;clear s6 hS5;refine⟨_,rfl,wd i,rfl,.inl ⟨i,hi,rfl,fun x dx fs H7 s7 hx fl=>?_⟩⟩;have hS7:=s7.seq hS6;clear s7 hS6;refine⟨_,rfl,_,_,_,_,_,rfl,bc,(CA.in4 i hi).ty hx,CA.kit4_Family i hi,_,rfl,aP ⟨_,rfl,x,_,dx,fs,_,rfl,hx,CA.c4 i hi,CA.na4_word i hi,fl.word,_,rfl,rfl,_,rfl,dS rfl ⟨_,rfl,i,rfl,hi,fun H8 s8=>⟨_,rfl,aP ?_⟩⟩⟩⟩;have hS8:=s8.seq hS7;have hx8:=s8 _ _ hx;clear s8 hS7 hx;refine⟨(by show 1<=sizeLine;decide),fun pd hpd=>?_⟩;have k9:=af.new (af.refl H8) hpd (.lst [.str (AC "mark")]);have hS9:=k9.seq hS8;have hx9:=k9 _ _ hx8;have hd9:=ag (H:=H8) (a:=pd) (o:=.lst [.str (AC "mark")]);generalize upd H8 pd (.lst [.str (AC "mark")])=H9 at hS9 hx9 hd9|-;clear k9 hS8 hx8 hpd;refine⟨fun σ H'=>∃pd o7,σ=[some (.ref a),some (.str (wd i)),some (.str y),some (.str n),some (.ref x),some (.ref pd),o7]/\ao K H' a (ns.map V.int)/\H' x=some (.ins (ca.C i) dx fs)/\H' pd=some (.lst [.str (if n∈cq i then AC "thing"else AC "mark")]),?_,?_⟩
 ·refine⟨_,rfl,_,rfl,i,rfl,hi,fun p3 H10 s10 f10 h10=>⟨p3,_,rfl,.inl (ao.of h10),rfl,dk _,_,rfl,?_⟩⟩
  show if(jD (.str n) ((cq i).map V.str))=true then _ else _;rw[ya];by_cases c:n∈cq i
  ·refine cw c ⟨(by show 1<=sizeLine;decide),fun pe hpe=>?_⟩
   have k1:=s10.trans (af.new (af.refl H10) hpe (.lst [.str (AC "thing")]));exact⟨pe,_,rfl,k1.seq hS9,k1 _ _ hx9,by rw[if_pos c];exact ag⟩
  ·exact cf c ⟨pd,_,rfl,s10.seq hS9,s10 _ _ hx9,by rw[if_neg c];exact s10 _ _ hd9⟩
 rintro σ H10 ⟨pd,o7,rfl,hS10,hx10,hd10⟩;clear hS9 hx9 hd9;refine⟨fun σ H'=>∃o7,σ=[some (.ref a),some (.str (wd i)),some (.str y),some (.str n),some (.ref x),some (.ref pd),o7]/\H' x=some (.ins (ca.C i) dx fs),?_,?_⟩
 ·refine⟨_,rfl,rfl,_,rfl,?_⟩
  by_cases h2:i=2;·exact dS (by rw[h2];rfl) ⟨_,rfl,hx10⟩
  refine fX (HG hi h2) ⟨_,rfl,_,rfl,a,ns,2,rfl,hS10,by decide,i,_,rfl,hi,h2,fun t v H11 ht s11 r11=>?_⟩;refine⟨_,rfl,_,rfl,_,rfl,wd i,n,v,(if n∈cq i then AC "thing"else AC "mark"),rfl,.inr ⟨i,hi,rfl,?_⟩,fun p12 H12 s12 f12 h12=>?_⟩
  ·by_cases c:n∈cq i
   ·exact .inr ⟨c,if_pos c,Fe ht r11⟩
   ·exact .inl ⟨c,if_neg c⟩
  have t12:=s11.trans s12;refine⟨_,rfl,p12,pd,_,_,rfl,rfl,ao.of h12,ao.of (t12 _ _ hd10),rfl,rfl,_,rfl,?_⟩;rw[show eZ [V.str (if n∈cq i then AC "thing"else AC "mark")] [V.str (if n∈cq i then AC "thing"else AC "mark")]=true from jY [_]];exact aP ⟨_,rfl,t12 _ _ hx10⟩
 rintro σ H13 ⟨o7,rfl,hx13⟩;clear hS10 hx10 hd10;refine⟨_,rfl,_,rfl,i,rfl,hi,fun p3 H14 s14 f14 h14=>⟨n,p3,_,rfl,rfl,ao.of h14,_,rfl,?_⟩⟩;have hx14:=s14 _ _ hx13;by_cases c:n∈cq i
 ·refine dS c ⟨_,rfl,_,rfl,i,hi,_,rfl,x,dx,fs,rfl,hx14,fl.no "thing_of" (by decide) (by decide),_,rfl,x,_,dx,fs,_,rfl,hx14,CA.c4 i hi,CA.na4_least i hi,fl.least,i,hi,x,dx,fs,_,rfl,hx14,fl,fun v H15 s15 r15=>?_⟩
  refine⟨wd i,n,v,rfl,.inr ⟨i,hi,rfl,.inr (.inr ⟨c,r15.any,fun H16 s16=>?_⟩)⟩⟩;refine⟨_,rfl,(by show 3<=sizeLine;decide),fun t ht=>⟨t,_,rfl,.inr (bN.of ag),rfl,rfl,?_⟩⟩;show _\/_;refine .inr ⟨_,rfl,?_⟩;show OP (.int (bq i)) (.int (if jD (.str (wd i)) [V.str (AC "codes"),V.str (AC "trees"),V.str (AC "cars")]=true then 1 else 0)) _ _;rw[OK i hi,<-AA i];exact⟨rfl,by rw[decide_eq_true rfl];exact q _⟩
 ·refine fX c ⟨_,rfl,_,rfl,i,hi,_,rfl,x,dx,fs,rfl,hx14,fl.no "thing_of" (by decide) (by decide),_,rfl,x,_,dx,fs,_,rfl,hx14,CA.c4 i hi,CA.na4_least i hi,fl.least,i,hi,x,dx,fs,_,rfl,hx14,fl,fun v H15 s15 r15=>?_⟩
  exact⟨wd i,n,v,_,rfl,.inr ⟨i,hi,rfl,.inl ⟨c,rfl⟩⟩,fun p16 H16 s16 f16 h16=>Et h16 fun H17 s17=>q _⟩
end
noncomputable abbrev Gb(K:KB)(x:Str)(a:GM):Prop:=V1 K mainGlobals x=some (some (.ref a))
def KH(K:KB):Sp:=fun vs H Q _=>∃(a:GM)(ns:List Int),vs=[.ref a]/\ao K H a (ns.map V.int)/\ns.length<=63/\∀H',Q (.bl true) H'
theorem all_mk{l:W.OpenLaw}{w:Tc}{K:KB}{h:Ux}{mg:Str->Option Do}{fa:GM}(X:K.In h)(G:h.Ns mainGlobals mg)(hfa:mg "law" =some (.ref fa)){C0 C1 C2 C3 C4 C5 C6 C7 C8 C9 C10 C11 C12 f0 f1 f2 f3 f4 f5 f6 f7 f8 f9 f10 f11 f12 f13 f14 f15 f16 f17 f18 f19 f20 f21 f22 f23 f24 f25 f26 f27 f28 f29 f30 f31 f32 f33 f34 f35 f36 f37 f38 f39 f40 f41 f42 f43 f44 f45 f46 f47 f48 f49 f50 f51 f52 f53 f55 f56 f57 f58 f59 f60 f61 f62 f63 f64 f65 f66 f67 f68 f69 f70 f71 f72 f73 f74 f76 f78 f79 f80 f81 f82 f83 f84 f85 f86 f87 f88 f89 f91 f92 f93 f94 f95 f96 f97 f98 f100 f101 f102 f103 f104 f105 f107 f108 f110 f111:GM}{d0 d1 d2 d3 d4 d5 d6 d7 d8 d9 d10 d11 d12 d13 d14 d15 d16 d17 d18 d19 d20 d21 d22 d23 d24 d25 d26 d27 d28 d29 d30 d31 d32 d33 d34 d35 d36 d37 d38 d39 d40 d41 d42 d43 d44 d45 d46 d47 d48 d49 d50 d51 d52 d53 d55 d56 d57 d58 d59 d60 d61 d62 d63 d64 d65 d66 d67 d68 d69 d70 d71 d72 d73 d74 d76 d78 d79 d80 d81 d82 d83 d84 d85 d86 d87 d88 d89 d91 d92 d93 d94 d95 d96 d97 d98 d100 d101 d102 d103 d104 d105 d107 d108 d110 d111:TK}{t_GREATEST_SIZE:Tok}(pY:Gb K "Brackets" C0)(v3:Gb K "Stairs" C1)(AN:Gb K "Twins" C2)(D5:Gb K "Bows" C3)(yv:Gb K "Rooms" C4)(w6:Gb K "Floors" C5)(yZ:Gb K "Turns" C6)(z8:Gb K "Codes" C7)(AJ:Gb K "Trees" C8)(DZ:Gb K "Cars" C9)(we:Gb K "Family" C10)(lU:Gb K "SplitFamily" C11)(nA:Gb K "RingFamily" C12)(Zk:InsT K C0)(Zl:InsT K C1)(Zm:InsT K C2)(Zn:InsT K C3)(Zo:InsT K C4)(Zq:InsT K C5)(Zr:InsT K C6)(Zt:InsT K C7)(Zu:InsT K C8)(Zv:InsT K C9)(AT:Meth K C0 "thing_of" f110)(Ch:Meth K C1 "thing_of" f110)(Cl:Meth K C2 "thing_of" f110)(Db:Meth K C3 "thing_of" f110)(Ev:Meth K C4 "thing_of" f110)(EQ:Meth K C5 "thing_of" f110)(Fa:Meth K C6 "thing_of" f110)(Go:Meth K C7 "thing_of" f110)(Id:Meth K C8 "thing_of" f110)(Is:Meth K C9 "thing_of" f110)(v4:Meth K C0 "refuse_other" f76)(v6:Meth K C1 "refuse_other" f76)(wf:Meth K C2 "refuse_other" f76)(wl:Meth K C3 "refuse_other" f76)(wn:Meth K C4 "refuse_other" f76)(wp:Meth K C5 "refuse_other" f76)(wv:Meth K C6 "refuse_other" f76)(ww:Meth K C7 "refuse_other" f76)(wE:Meth K C8 "refuse_other" f76)(wP:Meth K C9 "refuse_other" f76)(TD:Meth K C0 "is_one" f58)(TW:Meth K C1 "is_one" f59)(T0:Meth K C2 "is_one" f60)(Uf:Meth K C3 "is_one" f64)(WF:Meth K C4 "is_one" f66)(WP:Meth K C5 "is_one" f68)(XV:Meth K C6 "is_one" f70)(Yl:Meth K C7 "is_one" f71)(Ym:Meth K C8 "is_one" f73)(Yn:Meth K C9 "is_one" f74)(YN:Meth K C0 "many" f91)(YO:Meth K C1 "many" f91)(YQ:Meth K C2 "many" f91)(YR:Meth K C3 "many" f91)(YS:Meth K C4 "many" f91)(YT:Meth K C5 "many" f91)(YU:Meth K C6 "many" f91)(YV:Meth K C7 "many" f91)(YW:Meth K C8 "many" f91)(YX:Meth K C9 "many" f91)(ap:Meth K C0 "unchecked_thing" f102)(bd:Meth K C1 "unchecked_thing" f102)(bi:Meth K C2 "unchecked_thing" f102)(bn:Meth K C3 "unchecked_thing" f102)(bv:Meth K C4 "unchecked_thing" f102)(ce:Meth K C5 "unchecked_thing" f102)(ci:Meth K C6 "unchecked_thing" f102)(cr:Meth K C7 "unchecked_thing" f108)(dL:Meth K C8 "unchecked_thing" f108)(ge:Meth K C9 "unchecked_thing" f108)(g3:Meth K C0 "unchecked_many" f87)(ii:Meth K C1 "unchecked_many" f87)(im:Meth K C2 "unchecked_many" f87)(io:Meth K C3 "unchecked_many" f87)(jp:Meth K C4 "unchecked_many" f87)(kt:Meth K C5 "unchecked_many" f87)(mt:Meth K C6 "unchecked_many" f87)(o0:Meth K C7 "unchecked_many" f89)(pi:Meth K C8 "unchecked_many" f89)(rc:Meth K C9 "unchecked_many" f89)(re:Meth K C0 "thing_by_parts" f100)(sw:Meth K C1 "thing_by_parts" f100)(sB:Meth K C2 "thing_by_parts" f100)(sK:Meth K C3 "thing_by_parts" f100)(ul:Meth K C4 "thing_by_parts" f100)(ut:Meth K C5 "thing_by_parts" f100)(u8:Meth K C6 "thing_by_parts" f100)(YY:Meth K C0 "bare" f92)(YZ:Meth K C1 "bare" f93)(Y0:Meth K C2 "bare" f94)(Y1:Meth K C3 "bare" f95)(Y2:Meth K C4 "bare" f96)(Y3:Meth K C5 "bare" f97)(Y4:Meth K C6 "bare" f98)(IO:Meth K C7 "of_code" f103)(KK:Meth K C8 "of_code" f104)(LE:Meth K C9 "of_code" f105)(Y5:NoAttr K C0 "word")(Y6:NoAttr K C1 "word")(Y7:NoAttr K C2 "word")(Y8:NoAttr K C3 "word")(Y9:NoAttr K C4 "word")(Za:NoAttr K C5 "word")(Zb:NoAttr K C6 "word")(Zc:NoAttr K C7 "word")(Zd:NoAttr K C8 "word")(Ze:NoAttr K C9 "word")(Yu:NoAttr K C0 "least")(Yv:NoAttr K C1 "least")(Yw:NoAttr K C2 "least")(Yx:NoAttr K C3 "least")(Yy:NoAttr K C4 "least")(Yz:NoAttr K C5 "least")(YA:NoAttr K C6 "least")(YB:NoAttr K C7 "least")(YC:NoAttr K C8 "least")(YD:NoAttr K C9 "least")(No:UR K (.ref C0) (.ref C10)=some true)(NE:UR K (.ref C1) (.ref C10)=some true)(Op:UR K (.ref C2) (.ref C10)=some true)(Ps:UR K (.ref C3) (.ref C10)=some true)(Rs:UR K (.ref C4) (.ref C10)=some true)(ST:UR K (.ref C5) (.ref C10)=some true)(Tk:UR K (.ref C6) (.ref C10)=some true)(Tl:UR K (.ref C7) (.ref C10)=some true)(Tm:UR K (.ref C8) (.ref C10)=some true)(Ty:UR K (.ref C9) (.ref C10)=some true)(ZG:InsT K C10)(ZH:InsT K C11)(ZI:InsT K C12)(YE:NoAttr K C10 "word")(YF:NoAttr K C11 "word")(YG:NoAttr K C12 "word")(Yo:NoAttr K C10 "least")(Yp:NoAttr K C11 "least")(Yq:NoAttr K C12 "least")(ek0:UR K (.ref C10) (.ref C10)=some true)(ek1:UR K (.ref C11) (.ref C10)=some true)(ek2:UR K (.ref C12) (.ref C10)=some true)(YH:Mk K C6 f7)(Yr:Mk K C5 f8)(YI:Mk K C4 f9)(Zf:Mk K C3 f10)(YJ:Mk K C2 f11)(Ys:Mk K C1 f12)(Ix:Mk K C0 f13)(Zg:Mk K C9 f16)(YK:Mk K C8 f17)(YL:Mk K C7 f18)(Yt:Mk K C10 f5)(wT:Mk K C11 f6)(xz:Mk K C12 f15)(ac:ClsM K C11 "__init__" f6)(gl:ClsM K C10 "__init__" f5)(am:ClsM K C12 "__init__" f15)(Zw:V1 K mainGlobals "len" =some none)(Zh:V1 K mainGlobals "range" =some none)(Zx:V1 K mainGlobals "max" =some none)(Zi:V1 K mainGlobals "list" =some none)(IN:V1 K mainGlobals "enumerate" =some none)(Zy:V1 K mainGlobals "min" =some none)(Zz:V1 K mainGlobals "zip" =some none)(ZA:V1 K mainGlobals "set" =some none)(xL:V1 K mainGlobals "isinstance" =some none)(zn:V1 K mainGlobals "ValueError" =some none)(YM:V1 K mainGlobals "sorted" =some none)(ZB:V1 K mainGlobals "all" =some none)(ZC:V1 K mainGlobals "int" =some none)(Zj:V1 K mainGlobals "bool" =some none)(ZD:V1 K mainGlobals "sum" =some none)(wS:V1 K mainGlobals "GREATEST_SIZE" =some (some (Wx 40 t_GREATEST_SIZE))){oC vz vW xo w4 vA xu wL xw pN:GM}(RG:Gb K "KinError" oC)(RZ:Gb K "NoSize" vz)(Sv:Gb K "NoNumber" vW)(Su:Gb K "NoThing" xo)(RS:Gb K "NoFamily" w4)(Se:Gb K "NoWay" vA)(R6:Gb K "Apart" xu)(RQ:Gb K "NoMark" wL)(RY:Gb K "NoText" xw)(Sn:Gb K "Broken" pN)(ZE:yN K [3,4,7] (pick 0 [oC,vz,vW,xo,w4,vA,xu,wL,xw,pN])=true)(SE:Xj K (.ref pN) "__init__" =some (some (.ref f80)))(ZF:z5 K oC pN f80=true)(MD:W.findCls K (.ref oC) (.type "type") "__init__" =some (.val (.builtin "ValueError.__init__")))(a0:Gb K "_law_words" f0)(F0:aE K "_law_words" "_law_words" uu f0 d0)(a1:Gb K "_law_cell_at" f1)(F1:aE K "_law_cell_at" "_law_cell_at" ue f1 d1)(a2:Gb K "_law_draws" f2)(F2:aE K "_law_draws" "_law_draws" tw f2 d2)(a3:Gb K "_law_sign" f3)(F3:aE K "_law_sign" "_law_sign" rX f3 d3)(a4:Gb K "_law_text" f4)(F4:aE K "_law_text" "_law_text" tS f4 d4)(F5:aE K "__init__" "Family.__init__" AO f5 d5)(F6:aE K "__init__" "SplitFamily.__init__" yE f6 d6)(F7:aE K "__init__" "Turns.__init__" uy f7 d7)(F8:aE K "__init__" "Floors.__init__" sP f8 d8)(F9:aE K "__init__" "Rooms.__init__" uK f9 d9)(F10:aE K "__init__" "Bows.__init__" sW f10 d10)(F11:aE K "__init__" "Twins.__init__" sC f11 d11)(F12:aE K "__init__" "Stairs.__init__" sO f12 d12)(F13:aE K "__init__" "Brackets.__init__" xI f13 d13)(a14:Gb K "split_families" f14)(F14:aE K "split_families" "split_families" uU f14 d14)(F15:aE K "__init__" "RingFamily.__init__" yl f15 d15)(F16:aE K "__init__" "Cars.__init__" uP f16 d16)(F17:aE K "__init__" "Trees.__init__" uo f17 d17)(F18:aE K "__init__" "Codes.__init__" tE f18 d18)(a19:Gb K "ring_families" f19)(F19:aE K "ring_families" "ring_families" rE f19 d19)(a20:Gb K "family_of" f20)(F20:aE K "family_of" "family_of" sg f20 d20)(a21:Gb K "cars_rootage" f21)(F21:aE K "cars_rootage" "cars_rootage" uN f21 d21)(a22:Gb K "missing" f22)(F22:aE K "missing" "missing" rm f22 d22)(a23:Gb K "cars_leaves" f23)(F23:aE K "cars_leaves" "cars_leaves" u7 f23 d23)(a24:Gb K "trees_rootage" f24)(F24:aE K "trees_rootage" "trees_rootage" rT f24 d24)(a25:Gb K "trees_leaves" f25)(F25:aE K "trees_leaves" "trees_leaves" rP f25 d25)(a26:Gb K "codes_rootage" f26)(F26:aE K "codes_rootage" "codes_rootage" tI f26 d26)(a27:Gb K "codes_leaves" f27)(F27:aE K "codes_leaves" "codes_leaves" t7 f27 d27)(a28:Gb K "turns_height" f28)(F28:aE K "turns_height" "turns_height" uz f28 d28)(a29:Gb K "turns_returns" f29)(F29:aE K "turns_returns" "turns_returns" rN f29 d29)(a30:Gb K "turns_peaks" f30)(F30:aE K "turns_peaks" "turns_peaks" uJ f30 d30)(a31:Gb K "third_corner" f31)(F31:aE K "third_corner" "third_corner" ua f31 d31)(a32:Gb K "triangles" f32)(F32:aE K "triangles" "triangles" sQ f32 d32)(a33:Gb K "floor_returns" f33)(F33:aE K "floor_returns" "floor_returns" uB f33 d33)(a34:Gb K "floor_peaks" f34)(F34:aE K "floor_peaks" "floor_peaks" sd f34 d34)(a35:Gb K "rooms_around" f35)(F35:aE K "rooms_around" "rooms_around" se f35 d35)(a36:Gb K "rooms_returns" f36)(F36:aE K "rooms_returns" "rooms_returns" uF f36 d36)(a37:Gb K "rooms_peaks" f37)(F37:aE K "rooms_peaks" "rooms_peaks" tJ f37 d37)(a38:Gb K "bows_over" f38)(F38:aE K "bows_over" "bows_over" sf f38 d38)(a39:Gb K "bows_height" f39)(F39:aE K "bows_height" "bows_height" sM f39 d39)(a40:Gb K "bows_returns" f40)(F40:aE K "bows_returns" "bows_returns" sX f40 d40)(a41:Gb K "bows_peaks" f41)(F41:aE K "bows_peaks" "bows_peaks" uv f41 d41)(a42:Gb K "twins_height" f42)(F42:aE K "twins_height" "twins_height" tj f42 d42)(a43:Gb K "twins_returns" f43)(F43:aE K "twins_returns" "twins_returns" uD f43 d43)(a44:Gb K "twins_peaks" f44)(F44:aE K "twins_peaks" "twins_peaks" si f44 d44)(a45:Gb K "stairs_height" f45)(F45:aE K "stairs_height" "stairs_height" rp f45 d45)(a46:Gb K "stairs_returns" f46)(F46:aE K "stairs_returns" "stairs_returns" tT f46 d46)(a47:Gb K "stairs_peaks" f47)(F47:aE K "stairs_peaks" "stairs_peaks" uR f47 d47)(a48:Gb K "depths" f48)(F48:aE K "depths" "depths" nO f48 d48)(a49:Gb K "brackets_height" f49)(F49:aE K "brackets_height" "brackets_height" sI f49 d49)(a50:Gb K "brackets_returns" f50)(F50:aE K "brackets_returns" "brackets_returns" sJ f50 d50)(a51:Gb K "brackets_peaks" f51)(F51:aE K "brackets_peaks" "brackets_peaks" rK f51 d51)(a52:Gb K "all_measures" f52)(F52:aE K "all_measures" "all_measures" kZ f52 d52)(a53:Gb K "marks_of" f53)(F53:aE K "marks_of" "marks_of" um f53 d53)(a55:Gb K "_law_classes" f55)(F55:aE K "_law_classes" "_law_classes" tN f55 d55)(a56:Gb K "_law_word_refused" f56)(F56:aE K "_law_word_refused" "_law_word_refused" uX f56 d56)(a57:Gb K "closes" f57)(F57:aE K "closes" "closes" su f57 d57)(F58:aE K "is_one" "Brackets.is_one" uq f58 d58)(F59:aE K "is_one" "Stairs.is_one" sr f59 d59)(F60:aE K "is_one" "Twins.is_one" rY f60 d60)(a61:Gb K "each_once" f61)(F61:aE K "each_once" "each_once" uO f61 d61)(a62:Gb K "flat" f62)(F62:aE K "flat" "flat" om f62 d62)(a63:Gb K "any_cross" f63)(F63:aE K "any_cross" "any_cross" tU f63 d63)(F64:aE K "is_one" "Bows.is_one" r8 f64 d64)(a65:Gb K "neighbours" f65)(F65:aE K "neighbours" "neighbours" ub f65 d65)(F66:aE K "is_one" "Rooms.is_one" sU f66 d66)(a67:Gb K "may_be_cut" f67)(F67:aE K "may_be_cut" "may_be_cut" sE f67 d67)(F68:aE K "is_one" "Floors.is_one" rF f68 d68)(a69:Gb K "comes_off_a_stack" f69)(F69:aE K "comes_off_a_stack" "comes_off_a_stack" uQ f69 d69)(F70:aE K "is_one" "Turns.is_one" uc f70 d70)(F71:aE K "is_one" "Codes.is_one" uH f71 d71)(a72:Gb K "comes_to_0" f72)(F72:aE K "comes_to_0" "comes_to_0" rC f72 d72)(F73:aE K "is_one" "Trees.is_one" uC f73 d73)(F74:aE K "is_one" "Cars.is_one" rA f74 d74)(F76:aE K "refuse_other" "Family.refuse_other" zV f76 d76)(a78:Gb K "mark" f78)(F78:aE K "mark" "mark" nR f78 d78)(a79:Gb K "_law_mark_refused" f79)(F79:aE K "_law_mark_refused" "_law_mark_refused" sT f79 d79)(F80:aE K "__init__" "Broken.__init__" uL f80 d80)(a81:Gb K "_law_made" f81)(F81:aE K "_law_made" "_law_made" rV f81 d81)(a82:Gb K "families" f82)(F82:aE K "families" "families" rR f82 d82)(a83:Gb K "_law_marks" f83)(F83:aE K "_law_marks" "_law_marks" tM f83 d83)(a84:Gb K "_law_lists" f84)(F84:aE K "_law_lists" "_law_lists" tW f84 d84)(a85:Gb K "_law_amiss" f85)(F85:aE K "_law_amiss" "_law_amiss" lE f85 d85)(a86:Gb K "by_rule" f86)(F86:aE K "by_rule" "by_rule" tD f86 d86)(F87:aE K "unchecked_many" "SplitFamily.unchecked_many" xW f87 d87)(a88:Gb K "ring_many" f88)(F88:aE K "ring_many" "ring_many" tP f88 d88)(F89:aE K "unchecked_many" "RingFamily.unchecked_many" yS f89 d89)(F91:aE K "many" "Family.many" sV f91 d91)(F92:aE K "bare" "Brackets.bare" tQ f92 d92)(F93:aE K "bare" "Stairs.bare" tq f93 d93)(F94:aE K "bare" "Twins.bare" tm f94 d94)(F95:aE K "bare" "Bows.bare" uW f95 d95)(F96:aE K "bare" "Rooms.bare" t9 f96 d96)(F97:aE K "bare" "Floors.bare" tF f97 d97)(F98:aE K "bare" "Turns.bare" uA f98 d98)(ZJ:aE K "thing_by_parts" "SplitFamily.thing_by_parts" xT f100 d100)(ZK:Gb K "shares" f101)(ZL:aE K "shares" "shares" oN f101 d101)(ZM:aE K "unchecked_thing" "SplitFamily.unchecked_thing" yX f102 d102)(ZN:aE K "of_code" "Codes.of_code" rn f103 d103)(ZO:aE K "of_code" "Trees.of_code" sN f104 d104)(ZP:aE K "of_code" "Cars.of_code" uV f105 d105)(ZQ:Gb K "number_figures" f107)(ZR:aE K "number_figures" "number_figures" uY f107 d107)(ZS:aE K "unchecked_thing" "RingFamily.unchecked_thing" zg f108 d108)(ZT:aE K "thing_of" "Family.thing_of" tO f110 d110)(ZU:Gb K "law" f111)(ZV:aE K "law" "law" gM f111 d111): ∃fd:TK,(∀(s:FB)(v:Do),BindsTo s fd ⟨[v],[]⟩ [("_law_script",v)])/\∀base:Ux,K.In base->base.Ns mainGlobals mg->bz l.prog w K mg base lF 12 fa fd ["_law_script"] (KH K):=by
 have e:=hfa.symm.trans (SR X G ZU);cases e;have CA:HR K mg ⟨pick 0 [C0,C1,C2,C3,C4,C5,C6,C7,C8,C9,C10,C11,C12],pick 0 [f0,f1,f2,f3,f4,f5,f6,f7,f8,f9,f10,f11,f12,f13,f14,f15,f16,f17,f18,f19,f20,f21,f22,f23,f24,f25,f26,f27,f28,f29,f30,f31,f32,f33,f34,f35,f36,f37,f38,f39,f40,f41,f42,f43,f44,f45,f46,f47,f48,f49,f50,f51,f52,f53,0,f55,f56,f57,f58,f59,f60,f61,f62,f63,f64,f65,f66,f67,f68,f69,f70,f71,f72,f73,f74,0,f76,0,f78,f79,f80,f81,f82,f83,f84,f85,f86,f87,f88,f89,0,f91,f92,f93,f94,f95,f96,f97,f98,0,f100,f101,f102,f103,f104,f105,0,f107,f108,0,f110,fa],pick d0 [d0,d1,d2,d3,d4,d5,d6,d7,d8,d9,d10,d11,d12,d13,d14,d15,d16,d17,d18,d19,d20,d21,d22,d23,d24,d25,d26,d27,d28,d29,d30,d31,d32,d33,d34,d35,d36,d37,d38,d39,d40,d41,d42,d43,d44,d45,d46,d47,d48,d49,d50,d51,d52,d53,d0,d55,d56,d57,d58,d59,d60,d61,d62,d63,d64,d65,d66,d67,d68,d69,d70,d71,d72,d73,d74,d0,d76,d0,d78,d79,d80,d81,d82,d83,d84,d85,d86,d87,d88,d89,d0,d91,d92,d93,d94,d95,d96,d97,d98,d0,d100,d101,d102,d103,d104,d105,d0,d107,d108,d0,d110,d111],pick 0 [],Wx 40 t_GREATEST_SIZE⟩:=⟨SR X G pY,SR X G v3,SR X G AN,SR X G D5,SR X G yv,SR X G w6,SR X G yZ,SR X G z8,SR X G AJ,SR X G DZ,SR X G we,SR X G lU,SR X G nA,(aT.get (n:=10) ⟨⟨⟨⟨⟨⟨⟨⟨⟨⟨trivial,Zk⟩,Zl⟩,Zm⟩,Zn⟩,Zo⟩,Zq⟩,Zr⟩,Zt⟩,Zu⟩,Zv⟩),(aT.get (n:=10) ⟨⟨⟨⟨⟨⟨⟨⟨⟨⟨trivial,Zk.cl⟩,Zl.cl⟩,Zm.cl⟩,Zn.cl⟩,Zo.cl⟩,Zq.cl⟩,Zr.cl⟩,Zt.cl⟩,Zu.cl⟩,Zv.cl⟩),(aT.get (n:=10) ⟨⟨⟨⟨⟨⟨⟨⟨⟨⟨trivial,AT⟩,Ch⟩,Cl⟩,Db⟩,Ev⟩,EQ⟩,Fa⟩,Go⟩,Id⟩,Is⟩),(aT.get (n:=10) ⟨⟨⟨⟨⟨⟨⟨⟨⟨⟨trivial,v4⟩,v6⟩,wf⟩,wl⟩,wn⟩,wp⟩,wv⟩,ww⟩,wE⟩,wP⟩),(aT.get (n:=10) ⟨⟨⟨⟨⟨⟨⟨⟨⟨⟨trivial,TD⟩,TW⟩,T0⟩,Uf⟩,WF⟩,WP⟩,XV⟩,Yl⟩,Ym⟩,Yn⟩),(aT.get (n:=10) ⟨⟨⟨⟨⟨⟨⟨⟨⟨⟨trivial,YN⟩,YO⟩,YQ⟩,YR⟩,YS⟩,YT⟩,YU⟩,YV⟩,YW⟩,YX⟩),(aT.get (n:=10) ⟨⟨⟨⟨⟨⟨⟨⟨⟨⟨trivial,ap⟩,bd⟩,bi⟩,bn⟩,bv⟩,ce⟩,ci⟩,cr⟩,dL⟩,ge⟩),(aT.get (n:=10) ⟨⟨⟨⟨⟨⟨⟨⟨⟨⟨trivial,g3⟩,ii⟩,im⟩,io⟩,jp⟩,kt⟩,mt⟩,o0⟩,pi⟩,rc⟩),(aT.get (n:=7) ⟨⟨⟨⟨⟨⟨⟨trivial,re⟩,sw⟩,sB⟩,sK⟩,ul⟩,ut⟩,u8⟩),(aT.get (n:=7) ⟨⟨⟨⟨⟨⟨⟨trivial,YY⟩,YZ⟩,Y0⟩,Y1⟩,Y2⟩,Y3⟩,Y4⟩),(aT.get (n:=3) ⟨⟨⟨trivial,IO⟩,KK⟩,LE⟩),(aT.get (n:=10) ⟨⟨⟨⟨⟨⟨⟨⟨⟨⟨trivial,Y5⟩,Y6⟩,Y7⟩,Y8⟩,Y9⟩,Za⟩,Zb⟩,Zc⟩,Zd⟩,Ze⟩),(aT.get (n:=10) ⟨⟨⟨⟨⟨⟨⟨⟨⟨⟨trivial,Yu⟩,Yv⟩,Yw⟩,Yx⟩,Yy⟩,Yz⟩,YA⟩,YB⟩,YC⟩,YD⟩),(aT.get (n:=10) ⟨⟨⟨⟨⟨⟨⟨⟨⟨⟨trivial,No⟩,NE⟩,Op⟩,Ps⟩,Rs⟩,ST⟩,Tk⟩,Tl⟩,Tm⟩,Ty⟩),(aT.get (n:=3) ⟨⟨⟨trivial,ZG⟩,ZH⟩,ZI⟩),(aT.get (n:=3) ⟨⟨⟨trivial,YE⟩,YF⟩,YG⟩),(aT.get (n:=3) ⟨⟨⟨trivial,Yo⟩,Yp⟩,Yq⟩),(aT.get (n:=3) ⟨⟨⟨trivial,ek0⟩,ek1⟩,ek2⟩),YH,Yr,YI,Zf,YJ,Ys,Ix,Zg,YK,YL,Yt,wT,xz,ac,gl,am,Ui X G Zw,Ui X G Zh,Ui X G Zx,Ui X G Zi,Ui X G IN,Ui X G Zy,Ui X G Zz,Ui X G ZA,Ui X G xL,Ui X G zn,Ui X G YM,Ui X G ZB,Ui X G ZC,Ui X G Zj,Ui X G ZD,⟨SR X G wS,⟨_,rfl⟩⟩⟩;have EO:JP K mg [3,4,7] (pick 0 [oC,vz,vW,xo,w4,vA,xu,wL,xw,pN]):=Fv ZE (aT.get (n:=10) ⟨⟨⟨⟨⟨⟨⟨⟨⟨⟨trivial,(SR X G RG)⟩,(SR X G RZ)⟩,(SR X G Sv)⟩,(SR X G Su)⟩,(SR X G RS)⟩,(SR X G Se)⟩,(SR X G R6)⟩,(SR X G RQ)⟩,(SR X G RY)⟩,(SR X G Sn)⟩);have BO:GF K (pick 0 [oC,vz,vW,xo,w4,vA,xu,wL,xw,pN]) f80:=EX ZF MD;obtain⟨oc,od,kV,doc,pm,an,cdv,ct,osl,e,lk,hcd⟩:=ZV.ex;subst e;refine⟨Yh "law" "law" (cR gM) (bI gM) (aj gM) .none kV doc pm an cdv ct,fun s v=>.of_eq rfl,fun base kb _=>?_⟩;have a:=Ss (P:=l.prog) (w:=w) (base:=base) (er:=(pick 0 [oC,vz,vW,xo,w4,vA,xu,wL,xw,pN])) CA;have a:=a.s (Gk CA EO BO a ⟨F0,SR X G a0⟩);have a:=a.s (MY CA EO BO a ⟨F1,SR X G a1⟩);have a:=a.s (FV CA EO BO a ⟨F2,SR X G a2⟩);have a:=a.s (L4 CA EO BO a ⟨F3,SR X G a3⟩);have a:=a.s (Ka CA EO BO a ⟨F4,SR X G a4⟩);have a:=a.s (NP CA EO BO a F5);have a:=a.s (Oe CA EO BO a F6);have a:=a.s (J1 CA EO BO a F7);have a:=a.s (Gm CA EO BO a F8);have a:=a.s (Mo CA EO BO a F9);have a:=a.s (K5 CA EO BO a F10);have a:=a.s (Ho CA EO BO a F11);have a:=a.s (LF CA EO BO a F12);have a:=a.s (Oh CA EO BO a F13);have a:=a.s (Ly CA EO BO a ⟨F14,SR X G a14⟩);have a:=a.s (Og CA EO BO a F15);have a:=a.s (Lb CA EO BO a F16);have a:=a.s (Ju CA EO BO a F17);have a:=a.s (KI CA EO BO a F18);have a:=a.s (GJ CA EO BO a ⟨F19,SR X G a19⟩);have a:=a.s (M9 CA EO BO a ⟨F20,SR X G a20⟩);have a:=a.s (M3 CA EO BO a ⟨F21,SR X G a21⟩);have a:=a.s (FR CA EO BO a ⟨F22,SR X G a22⟩);have a:=a.s (Hv CA EO BO a ⟨F23,SR X G a23⟩);have a:=a.s (GY CA EO BO a ⟨F24,SR X G a24⟩);have a:=a.s (ID CA EO BO a ⟨F25,SR X G a25⟩);have a:=a.s (Jl CA EO BO a ⟨F26,SR X G a26⟩);have a:=a.s (Kb CA EO BO a ⟨F27,SR X G a27⟩);have a:=a.s (LB CA EO BO a ⟨F28,SR X G a28⟩);have a:=a.s (LD CA EO BO a ⟨F29,SR X G a29⟩);have a:=a.s (KR CA EO BO a ⟨F30,SR X G a30⟩);have a:=a.s (Kr CA EO BO a ⟨F31,SR X G a31⟩);have a:=a.s (Ji CA EO BO a ⟨F32,SR X G a32⟩);have a:=a.s (HN CA EO BO a ⟨F33,SR X G a33⟩);have a:=a.s (Hs CA EO BO a ⟨F34,SR X G a34⟩);have a:=a.s (MS CA EO BO a ⟨F35,SR X G a35⟩);have a:=a.s (MM CA EO BO a ⟨F36,SR X G a36⟩);have a:=a.s (Lm CA EO BO a ⟨F37,SR X G a37⟩);have a:=a.s (HV CA EO BO a ⟨F38,SR X G a38⟩);have a:=a.s (Gf CA EO BO a ⟨F39,SR X G a39⟩);have a:=a.s (GB CA EO BO a ⟨F40,SR X G a40⟩);have a:=a.s (Ll CA EO BO a ⟨F41,SR X G a41⟩);have a:=a.s (IZ CA EO BO a ⟨F42,SR X G a42⟩);have a:=a.s (Gj CA EO BO a ⟨F43,SR X G a43⟩);have a:=a.s (Nl CA EO BO a ⟨F44,SR X G a44⟩);have a:=a.s (LO CA EO BO a ⟨F45,SR X G a45⟩);have a:=a.s (Hq CA EO BO a ⟨F46,SR X G a46⟩);have a:=a.s (Kv CA EO BO a ⟨F47,SR X G a47⟩);have a:=a.s (Eo CA EO BO a ⟨F48,SR X G a48⟩);have a:=a.s (HL CA EO BO a ⟨F49,SR X G a49⟩);have a:=a.s (M6 CA EO BO a ⟨F50,SR X G a50⟩);have a:=a.s (LR CA EO BO a ⟨F51,SR X G a51⟩);have a:=a.s (Jd CA EO BO a ⟨F52,SR X G a52⟩);have a:=a.s (JU CA EO BO a ⟨F53,SR X G a53⟩);have a:=a.s (aT.get (n:=2) ⟨⟨trivial,(Def.v (a.g 20) (fun vs H Q E⟨w,e,nw,q⟩=>⟨w,e,.inr ⟨nw,q⟩⟩))⟩,(Def.v (a.g 53) (fun vs H Q E⟨w,e,nw,q⟩=>⟨w,e,.inr ⟨nw,q⟩⟩))⟩);have a:=a.s (GC CA EO BO a ⟨F55,SR X G a55⟩);have a:=a.s (Mf CA EO BO a ⟨F56,SR X G a56⟩);have a:=a.s (KD CA EO BO a ⟨F57,SR X G a57⟩);have a:=a.s (K7 CA EO BO a F58);have a:=a.s (L6 CA EO BO a F59);have a:=a.s (Kn CA EO BO a F60);have a:=a.s (LL CA EO BO a ⟨F61,SR X G a61⟩);have a:=a.s (EB CA EO BO a ⟨F62,SR X G a62⟩);have a:=a.s (JK CA EO BO a ⟨F63,SR X G a63⟩);have a:=a.s (Jk CA EO BO a F64);have a:=a.s (JG CA EO BO a ⟨F65,SR X G a65⟩);have a:=a.s (MN CA EO BO a F66);have a:=a.s (J2 CA EO BO a ⟨F67,SR X G a67⟩);have a:=a.s (Ki CA EO BO a F68);have a:=a.s (FH CA EO BO a ⟨F69,SR X G a69⟩);have a:=a.s (FQ CA EO BO a F70);have a:=a.s (KQ CA EO BO a F71);have a:=a.s (HC CA EO BO a ⟨F72,SR X G a72⟩);have a:=a.s (LP CA EO BO a F73);have a:=a.s (KA CA EO BO a F74);have a:=a.s (aT.get (n:=10) ⟨⟨⟨⟨⟨⟨⟨⟨⟨⟨trivial,(eD (a.g 58))⟩,(eD (a.g 59))⟩,(eD (a.g 60))⟩,(eD (a.g 64))⟩,(a.g 66)⟩,(eD (a.g 68))⟩,(eD (a.g 70))⟩,(eD (a.g 71))⟩,(eD (a.g 73))⟩,(eD (a.g 74))⟩);have a:=a.s (Oj CA EO BO a F76);have a:=a.s (aT.get (n:=25) ⟨⟨⟨⟨⟨⟨⟨⟨⟨⟨⟨⟨⟨⟨⟨⟨⟨⟨⟨⟨⟨⟨⟨⟨⟨trivial,(Def.v (a.g 51) fun _ _ _ _ z=>z)⟩,(Def.v (a.g 50) fun _ _ _ _ z=>z)⟩,(Def.v (a.g 49) fun _ _ _ _ z=>z)⟩,(Def.v (a.g 47) fun _ _ _ _ z=>z)⟩,(Def.v (a.g 46) fun _ _ _ _ z=>z)⟩,(Def.v (a.g 45) fun _ _ _ _ z=>z)⟩,(Def.v (a.g 44) fun _ _ _ _ z=>z)⟩,(Def.v (a.g 43) fun _ _ _ _ z=>z)⟩,(Def.v (a.g 42) fun _ _ _ _ z=>z)⟩,(Def.v (a.g 41) fun _ _ _ _ z=>z)⟩,(Def.v (a.g 40) fun _ _ _ _ z=>z)⟩,(Def.v (a.g 39) fun _ _ _ _ z=>z)⟩,(Def.v (a.g 37) fun _ _ _ _ z=>z)⟩,(Def.v (a.g 36) fun _ _ _ _ z=>z)⟩,(Def.v (a.g 34) fun _ _ _ _ z=>z)⟩,(Def.v (a.g 33) fun _ _ _ _ z=>z)⟩,(Def.v (a.g 30) fun _ _ _ _ z=>z)⟩,(Def.v (a.g 29) fun _ _ _ _ z=>z)⟩,(Def.v (a.g 28) fun _ _ _ _ z=>z)⟩,(Def.v (a.g 27) fun _ _ _ _ z=>z)⟩,(Def.v (a.g 26) fun _ _ _ _ z=>z)⟩,(Def.v (a.g 25) fun _ _ _ _ z=>z)⟩,(Def.v (a.g 24) fun _ _ _ _ z=>z)⟩,(Def.v (a.g 23) fun _ _ _ _ z=>z)⟩,(Def.v (a.g 21) fun _ _ _ _ z=>z)⟩);have a:=a.s (EZ CA EO BO a ⟨F78,SR X G a78⟩);have a:=a.s (Kd CA EO BO a ⟨F79,SR X G a79⟩);have a:=a.s (FZ CA EO BO a F80);have a:=a.s (FY CA EO BO a ⟨F81,SR X G a81⟩);have a:=a.s (G0 CA EO BO a ⟨F82,SR X G a82⟩);have a:=a.s (Ic CA EO BO a ⟨F83,SR X G a83⟩);have a:=a.s (LV CA EO BO a ⟨F84,SR X G a84⟩);have a:=a.s (G9 CA EO BO a ⟨F85,SR X G a85⟩);have a:=a.s (LM CA EO BO a ⟨F86,SR X G a86⟩);have a:=a.s (Ot CA EO BO a F87);have a:=a.s (JV CA EO BO a ⟨F88,SR X G a88⟩);have a:=a.s (Ou CA EO BO a F89);have a:=a.s (aT.get (n:=10) ⟨⟨⟨⟨⟨⟨⟨⟨⟨⟨trivial,(a.g 87)⟩,(a.g 87)⟩,(a.g 87)⟩,(a.g 87)⟩,(a.g 87)⟩,(a.g 87)⟩,(a.g 87)⟩,(a.g 89)⟩,(a.g 89)⟩,(a.g 89)⟩);have a:=a.s (KY CA EO BO a F91);have a:=a.s (FF CA EO BO a F92);have a:=a.s (KZ CA EO BO a F93);have a:=a.s (GN CA EO BO a F94);have a:=a.s (M1 CA EO BO a F95);have a:=a.s (GI CA EO BO a F96);have a:=a.s (Mj CA EO BO a F97);have a:=a.s (KS CA EO BO a F98);have a:=a.s (aT.get (n:=7) ⟨⟨⟨⟨⟨⟨⟨trivial,(a.g 92)⟩,(a.g 93)⟩,(a.g 94)⟩,(a.g 95)⟩,(a.g 96)⟩,(a.g 97)⟩,(a.g 98)⟩);have a:=a.s (Od CA EO BO a ZJ);have a:=a.s (EM CA EO BO a ⟨ZL,SR X G ZK⟩);have a:=a.s (N7 CA EO BO a ZM);have a:=a.s (HI CA EO BO a ZN);have a:=a.s (Mn CA EO BO a ZO);have a:=a.s (Gh CA EO BO a ZP);have a:=a.s (aT.get (n:=3) ⟨⟨⟨trivial,(eD (a.g 103))⟩,(eD (a.g 104))⟩,(a.g 105)⟩);have a:=a.s (KU CA EO BO a ⟨ZR,SR X G ZQ⟩);have a:=a.s (NC CA EO BO a ZS);have a:=a.s (aT.get (n:=10) ⟨⟨⟨⟨⟨⟨⟨⟨⟨⟨trivial,(gu (a.g 102) (fun vs H Q E⟨x,dx,fs,w,e,hx,fl,q⟩=>⟨0,by decide,x,dx,fs,w,e,hx,fl,q⟩))⟩,(gu (a.g 102) (fun vs H Q E⟨x,dx,fs,w,e,hx,fl,q⟩=>⟨1,by decide,x,dx,fs,w,e,hx,fl,q⟩))⟩,(gu (a.g 102) (fun vs H Q E⟨x,dx,fs,w,e,hx,fl,q⟩=>⟨2,by decide,x,dx,fs,w,e,hx,fl,q⟩))⟩,(gu (a.g 102) (fun vs H Q E⟨x,dx,fs,w,e,hx,fl,q⟩=>⟨3,by decide,x,dx,fs,w,e,hx,fl,q⟩))⟩,(gu (a.g 102) (fun vs H Q E⟨x,dx,fs,w,e,hx,fl,q⟩=>⟨4,by decide,x,dx,fs,w,e,hx,fl,q⟩))⟩,(gu (a.g 102) (fun vs H Q E⟨x,dx,fs,w,e,hx,fl,q⟩=>⟨5,by decide,x,dx,fs,w,e,hx,fl,q⟩))⟩,(gu (a.g 102) (fun vs H Q E⟨x,dx,fs,w,e,hx,fl,q⟩=>⟨6,by decide,x,dx,fs,w,e,hx,fl,q⟩))⟩,(gu (a.g 108) (fun vs H Q E⟨x,dx,fs,w,e,hx,fl,q⟩=>⟨0,by decide,x,dx,fs,w,e,hx,fl,q⟩))⟩,(gu (a.g 108) (fun vs H Q E⟨x,dx,fs,w,e,hx,fl,q⟩=>⟨1,by decide,x,dx,fs,w,e,hx,fl,q⟩))⟩,(gu (a.g 108) (fun vs H Q E⟨x,dx,fs,w,e,hx,fl,q⟩=>⟨2,by decide,x,dx,fs,w,e,hx,fl,q⟩))⟩);have a:=a.s (IY CA EO BO a ZT);exact DV CA EO BO a ZV
theorem walk{l:W.OpenLaw}{q:SK}{loose:List Str}{XP:(Str->Option Do)->Ux->Prop}{YP:Tc->Ux->Prop}{d:DefRec}{K:IR->KB}(hn:l.most=some 63)(hdf:d.params.defaults=[])(hY:∀(w:Tc)(h:Ux),YP w h->(K w.params).In h)(F:∀(w:Tc)(mg:Str->Option Do)(fa:GM)(h:Ux),(K w.params).In h->h.Ns mainGlobals mg->mg d.name=some (.ref fa)->∃fd:TK,(∀(s:FB)(u:Do),BindsTo s fd ⟨[u],[]⟩ [("_law_script",u)])/\∀base:Ux,(K w.params).In base->base.Ns mainGlobals mg->bz l.prog w (K w.params) mg base lF 12 fa fd ["_law_script"] (KH (K w.params))): W.WalkO q loose XP YP l.row.toRowW d [] (fun f vs=>PySem.call f vs):=
 L2.walk_of (n:=63) (k:=12) (x:="_law_script") (CX:=fun _=>lF) (sp:=fun w=>KH (K w.params)) hn (by decide) hdf ⟨rfl,by decide,by decide⟩ hY F (fun _ _ a ns hl _ hS=>⟨a,ns,rfl,hS,hl,fun _=>rfl⟩) fun _ _ _ _ _ z=>z
end Ck
open L2
namespace Ck
open PySem PySem.W PySem.Calls PyProof.Rows
noncomputable def hB:List T4:=behindTheImports PySem.Challenge.pw_countkin_k46_words_and_marks
noncomputable def hE:Env:={scope:=PySem.Challenge.pw_countkin_k46_words_and_marks.main.scope,locals:=mainNs,globals:=mainNs,cells:=[],code:=(.ref 13),frame:=some 14}
def hC:Code:=.body hB hE
noncomputable def kU:Obj:=⟨.type "tuple",none,.seq #[] 0,#[]⟩
noncomputable def kV(a:Array Do):Obj:=⟨.type "tuple",none,.seq a 0,#[]⟩
noncomputable def kW:Obj:=⟨.none,none,.fields #[],#[]⟩
def kG(a b:Str)(s:T4):Obj:=⟨.none,none,.func { (fnOf a b (cR s) (bI s) (aj s) .none .none .none .none none .none .none)with globals:=0},#[]⟩
noncomputable def kB(a:String)(n:GM):Obj:=⟨.type "builtin_function_or_method",none,.fields #[.builtin a,.ref n],#[]⟩
noncomputable def kD(P:IR)(x:Str)(n:Tok)(v:Do):Ts:=⟨PyData.keyHash P x,.str x n,v⟩
def kF(a b:Str)(s:T4)(m:Str)(n:Tok)(c:GM):Obj:=⟨.type "function",none,.func (fnOf a b (cR s) (bI s) (aj s) .none .none .none (.str m n) none (.ref c) .none),#[]⟩
noncomputable def kC(a b:Str)(t:Nat)(l n:Int)(r q x y z w:Do)(e:Nat):Obj:=⟨.type "code",none,.fields #[.str a t,.str b (t+1),.str "/claim/cut.py" (t+2),.int l 0,.int n 0,.int 0 0,.int 0 0,.int 3 0,r,.bool true,.int 181 0,q,x,y,z,w,.int (Int.ofNat e) 0,.int l 0,.str "/claim/cut.py" (e+1)],#[]⟩
def kd(P:IR)(x:Str)(n:Tok)(a:GM):Ts:=kD P x n (.ref a)
noncomputable def kE(a:Array Ts)(n:Nat):Obj:=⟨.type "dict",none,.dict a n,#[]⟩
noncomputable def kR(a b:GM)(m:Str)(n:Tok):Obj:=⟨.type "frame",none,.plain,#[some (.ref a),some (.ref 3),some (.ref b),none,some (.str m n),none,some (.ref 0)]⟩
noncomputable def kO(a:Str)(t:Nat)(l:Int)(r q:GM)(e:Nat):Obj:=⟨.type "code",none,.fields #[.str a t,.str a (t+1),.str "/claim/cut.py" (t+2),.int l 0,.int 0 0,.int 0 0,.int 0 0,.int 0 0,.ref r,.bool false,.int 181 0,.ref q,.none,.none,.none,.none,.int (Int.ofNat e) 0,.int l 0,.str "/claim/cut.py" (e+1)],#[]⟩
noncomputable def kX(a b:Str)(t:Nat)(l n:Int)(i:Nat)(e:Nat):Obj:=kC a b t l n (.ref i) (.ref (i+1)) .none (.ref (i+2)) (.ref (i+3)) (.ref (i+4)) e
noncomputable def kY(a b:Str)(t:Nat)(l n:Int)(i:Nat)(e:Nat):Obj:=kC a b t l n (.ref i) (.ref (i+1)) .none .none .none (.ref (i+2)) e
noncomputable def kT(n:Str)(x:Bool)(bs ms:List Nat)(d:GM)(ss:List Nat)(t u:Tok)(s0:Option Nat):Obj:=⟨.type "type",none,.cls ⟨n,bs.map .ref,ms.map .ref++(match x with|true=>[.type "ValueError",.type "Exception",.type "BaseException",.type "object"]|false=>[.type "object"]),d,n,true,[],ss.map .ref,false,none,false⟩,#[s0.map .ref,none,some (.str n t),some (.str n u),some (.builtin (match x with|true=>"ValueError.__new__" |false=>"object.__new__")),some (.bool true)]⟩
noncomputable def kL(o:Obj):BT:=.node o .nil .nil
noncomputable def o2:Obj:=⟨.none,none,(.dict #[] 0),#[]⟩
def Kt(P:IR):Obj:=kE #[kD P "__module__" 203 (.str "countkin.errors" 194),kD P "__firstlineno__" 207 (.int 5 206),kd P "__static_attributes__" 208 29,kd P "__weakref__" 210 32,kD P "__doc__" 211 .none] 3
noncomputable def Ng:Obj:=⟨(.type "type"),none,(.cls ⟨"KinError",[(.type "ValueError")],[(.ref 31),(.type "ValueError"),(.type "Exception"),(.type "BaseException"),(.type "object")],30,"KinError",true,[],[(.ref 44),(.ref 56),(.ref 68),(.ref 80),(.ref 92),(.ref 104),(.ref 116),(.ref 128),(.ref 147)],false,none,false⟩),#[(some (.ref 22)),none,(some (.str "KinError" 196)),(some (.str "KinError" 204)),(some (.builtin "ValueError.__new__")),(some (.bool true))]⟩
noncomputable def G7:Obj:=⟨(.type "getset_descriptor"),none,(.fields #[(.str "__weakref__" 209),(.ref 31),(.builtin "ExceptionGroup.__weakref__"),.none]),#[]⟩
def Lu(P:IR):Obj:=kE #[kD P "__module__" 221 (.str "countkin.errors" 194),kD P "__firstlineno__" 225 (.int 7 224),kd P "__static_attributes__" 226 42,kD P "__doc__" 227 .none] 2
def FI:Obj:=kT "NoSize" true [31] [44,31] 43 [] 214 222 (some 35)
def G2(P:IR):Obj:=kE #[kD P "__module__" 237 (.str "countkin.errors" 194),kD P "__firstlineno__" 241 (.int 9 240),kd P "__static_attributes__" 242 54,kD P "__doc__" 243 .none] 2
def Ir:Obj:=kT "NoNumber" true [31] [56,31] 55 [] 230 238 (some 47)
def GK(P:IR):Obj:=kE #[kD P "__module__" 253 (.str "countkin.errors" 194),kD P "__firstlineno__" 257 (.int 11 256),kd P "__static_attributes__" 258 66,kD P "__doc__" 259 .none] 2
def IT:Obj:=kT "NoThing" true [31] [68,31] 67 [] 246 254 (some 59)
def Jc(P:IR):Obj:=kE #[kD P "__module__" 269 (.str "countkin.errors" 194),kD P "__firstlineno__" 273 (.int 13 272),kd P "__static_attributes__" 274 78,kD P "__doc__" 275 .none] 2
def G4:Obj:=kT "NoFamily" true [31] [80,31] 79 [] 262 270 (some 71)
def IV(P:IR):Obj:=kE #[kD P "__module__" 285 (.str "countkin.errors" 194),kD P "__firstlineno__" 289 (.int 15 288),kd P "__static_attributes__" 290 90,kD P "__doc__" 291 .none] 2
def HA:Obj:=kT "NoWay" true [31] [92,31] 91 [] 278 286 (some 83)
def xS(P:IR):Obj:=kE #[kD P "__module__" 301 (.str "countkin.errors" 194),kD P "__firstlineno__" 305 (.int 17 304),kd P "__static_attributes__" 306 102,kD P "__doc__" 307 .none] 2
def yF:Obj:=kT "Apart" true [31] [104,31] 103 [] 294 302 (some 95)
def xX(P:IR):Obj:=kE #[kD P "__module__" 317 (.str "countkin.errors" 194),kD P "__firstlineno__" 321 (.int 19 320),kd P "__static_attributes__" 322 114,kD P "__doc__" 323 .none] 2
def zW:Obj:=kT "NoMark" true [31] [116,31] 115 [] 310 318 (some 107)
def xP(P:IR):Obj:=kE #[kD P "__module__" 333 (.str "countkin.errors" 194),kD P "__firstlineno__" 337 (.int 21 336),kd P "__static_attributes__" 338 126,kD P "__doc__" 339 .none] 2
def Ax:Obj:=kT "NoText" true [31] [128,31] 127 [] 326 334 (some 119)
noncomputable def zI:Obj:=kX "__init__" "Broken.__init__" 354 25 2 138 359
def AK:Obj:=kF "__init__" "Broken.__init__" (inClass (top 11) 0) "countkin.errors" 194 143
def yt(P:IR):Obj:=kE #[kD P "__module__" 349 (.str "countkin.errors" 194),kD P "__firstlineno__" 353 (.int 23 352),kd P "__init__" 361 144,kd P "__static_attributes__" 363 145,kD P "__doc__" 364 .none] 2
def xY:Obj:=kT "Broken" true [31] [147,31] 146 [] 342 350 (some 131)
noncomputable def zN:Obj:=kX "flat" "flat" 381 33 1 160 387
def y9:Obj:=kF "flat" "flat" (top 15) "countkin.common" 367 165
noncomputable def Af:Obj:=kX "each_once" "each_once" 390 38 1 167 394
def yR:Obj:=kF "each_once" "each_once" (top 16) "countkin.common" 367 172
noncomputable def AX:Obj:=kX "any_cross" "any_cross" 397 40 1 174 405
def zF:Obj:=kF "any_cross" "any_cross" (top 17) "countkin.common" 367 179
noncomputable def yc:Obj:=kY "shares" "shares" 412 48 1 181 415
def An:Obj:=kF "shares" "shares" (top 20) "countkin.counts" 408 184
noncomputable def x9:Obj:=kX "by_rule" "by_rule" 418 53 1 186 424
def x8:Obj:=kF "by_rule" "by_rule" (top 21) "countkin.counts" 408 191
noncomputable def Aw:Obj:=kX "ring_many" "ring_many" 427 58 1 193 433
def Ao:Obj:=kF "ring_many" "ring_many" (top 22) "countkin.counts" 408 198
noncomputable def yp:Obj:=kX "__init__" "Family.__init__" 450 66 3 207 456
def yQ:Obj:=kF "__init__" "Family.__init__" (inClass (top 24) 0) "countkin.kin" 436 212
noncomputable def xF:Obj:=kX "many" "Family.many" 500 85 2 249 505
def xJ:Obj:=kF "many" "Family.many" (inClass (top 24) 6) "countkin.kin" 436 254
noncomputable def zt:Obj:=kX "refuse_other" "Family.refuse_other" 508 90 2 256 513
def Bg:Obj:=kF "refuse_other" "Family.refuse_other" (inClass (top 24) 7) "countkin.kin" 436 261
noncomputable def yK:Obj:=kX "thing_of" "Family.thing_of" 524 97 3 270 531
def AI:Obj:=kF "thing_of" "Family.thing_of" (inClass (top 24) 9) "countkin.kin" 436 275
def A2(P:IR):Obj:=kE #[kD P "__module__" 445 (.str "countkin.kin" 436),kD P "__firstlineno__" 449 (.int 64 448),kd P "__init__" 458 213,kd P "size_of" 466 220,kd P "is_one" 474 227,kd P "unchecked_many" 482 234,kd P "unchecked_number" 490 241,kd P "unchecked_thing" 499 248,kd P "many" 507 255,kd P "refuse_other" 515 262,kd P "number_of" 523 269,kd P "thing_of" 533 276,kd P "next_of" 541 283,kd P "__static_attributes__" 544 284,kd P "__dict__" 546 287,kd P "__weakref__" 548 288,kD P "__doc__" 549 .none] 4
noncomputable def Bb:Obj:=⟨(.type "type"),none,(.cls ⟨"Family",[(.type "object")],[(.ref 286),(.type "object")],285,"Family",true,[],[(.ref 363),(.ref 522)],false,none,false⟩),#[none,none,(some (.str "Family" 438)),(some (.str "Family" 446)),(some (.builtin "object.__new__")),(some (.bool true))]⟩
noncomputable def AS:Obj:=⟨(.type "getset_descriptor"),none,(.fields #[(.str "__dict__" 545),(.ref 286),(.builtin "function.__dict__"),(.builtin "function.__dict__#set")]),#[]⟩
noncomputable def y8:Obj:=⟨(.type "getset_descriptor"),none,(.fields #[(.str "__weakref__" 547),(.ref 286),(.builtin "ExceptionGroup.__weakref__"),.none]),#[]⟩
noncomputable def yC:Obj:=kX "__init__" "SplitFamily.__init__" 564 107 2 298 569
def Ba:Obj:=kF "__init__" "SplitFamily.__init__" (inClass (top 25) 0) "countkin.kin" 436 303
noncomputable def xE:Obj:=kX "unchecked_many" "SplitFamily.unchecked_many" 596 119 2 326 601
def yh:Obj:=kF "unchecked_many" "SplitFamily.unchecked_many" (inClass (top 25) 4) "countkin.kin" 436 331
noncomputable def yJ:Obj:=kX "unchecked_thing" "SplitFamily.unchecked_thing" 612 125 3 340 618
def AV:Obj:=kF "unchecked_thing" "SplitFamily.unchecked_thing" (inClass (top 25) 6) "countkin.kin" 436 345
noncomputable def zl:Obj:=kX "thing_by_parts" "SplitFamily.thing_by_parts" 630 131 4 354 642
def xR:Obj:=kF "thing_by_parts" "SplitFamily.thing_by_parts" (inClass (top 25) 8) "countkin.kin" 436 359
def AU(P:IR):Obj:=kE #[kD P "__module__" 559 (.str "countkin.kin" 436),kD P "__firstlineno__" 563 (.int 105 562),kd P "__init__" 571 304,kd P "bare" 578 311,kd P "parted" 586 318,kd P "joined" 595 325,kd P "unchecked_many" 603 332,kd P "unchecked_number" 611 339,kd P "unchecked_thing" 620 346,kd P "number_by_parts" 629 353,kd P "thing_by_parts" 644 360,kd P "__static_attributes__" 645 361,kD P "__doc__" 646 .none] 2
def M7:Obj:=kT "SplitFamily" false [286] [363,286] 362 [415,463,719,785,853,907,961] 552 560 (some 291)
noncomputable def z9:Obj:=kX "__init__" "Bows.__init__" 663 146 1 373 667
def yz:Obj:=kF "__init__" "Bows.__init__" (inClass (top 27) 0) "countkin.bends" 649 378
noncomputable def xD:Obj:=kY "is_one" "Bows.is_one" 678 152 2 387 681
def zS:Obj:=kF "is_one" "Bows.is_one" (inClass (top 27) 2) "countkin.bends" 649 390
noncomputable def Ac:Obj:=kX "bare" "Bows.bare" 684 157 1 392 688
def yb:Obj:=kF "bare" "Bows.bare" (inClass (top 27) 3) "countkin.bends" 649 397
def Ak(P:IR):Obj:=kE #[kD P "__module__" 658 (.str "countkin.bends" 649),kD P "__firstlineno__" 662 (.int 144 661),kd P "__init__" 669 379,kd P "size_of" 677 386,kd P "is_one" 683 391,kd P "bare" 690 398,kd P "parted" 698 405,kd P "joined" 708 412,kd P "__static_attributes__" 709 413,kD P "__doc__" 710 .none] 2
def zM:Obj:=kT "Bows" false [363] [415,363,286] 414 [] 651 659 (some 366)
noncomputable def zD:Obj:=kX "__init__" "Rooms.__init__" 725 168 1 425 729
def zU:Obj:=kF "__init__" "Rooms.__init__" (inClass (top 28) 0) "countkin.bends" 649 430
noncomputable def zh:Obj:=kY "is_one" "Rooms.is_one" 738 174 2 437 741
def xA:Obj:=kF "is_one" "Rooms.is_one" (inClass (top 28) 2) "countkin.bends" 649 440
noncomputable def z7:Obj:=kX "bare" "Rooms.bare" 744 179 1 442 748
def yY:Obj:=kF "bare" "Rooms.bare" (inClass (top 28) 3) "countkin.bends" 649 447
def yu(P:IR):Obj:=kE #[kD P "__module__" 720 (.str "countkin.bends" 649),kD P "__firstlineno__" 724 (.int 166 723),kd P "__init__" 731 431,kd P "size_of" 737 436,kd P "is_one" 743 441,kd P "bare" 750 448,kd P "parted" 758 455,kd P "joined" 764 460,kd P "__static_attributes__" 765 461,kD P "__doc__" 766 .none] 2
def Am:Obj:=kT "Rooms" false [363] [463,363,286] 462 [] 713 721 (some 418)
noncomputable def yM:Obj:=kY "neighbours" "neighbours" 769 195 1 466 772
def Ag:Obj:=kF "neighbours" "neighbours" (top 29) "countkin.bends" 649 469
noncomputable def Aq:Obj:=kX "__init__" "RingFamily.__init__" 789 200 2 478 794
def AQ:Obj:=kF "__init__" "RingFamily.__init__" (inClass (top 31) 0) "countkin.ring" 775 483
noncomputable def zi:Obj:=kX "unchecked_many" "RingFamily.unchecked_many" 813 209 2 499 818
def Az:Obj:=kF "unchecked_many" "RingFamily.unchecked_many" (inClass (top 31) 3) "countkin.ring" 775 504
noncomputable def Bh:Obj:=kX "unchecked_thing" "RingFamily.unchecked_thing" 829 215 3 513 835
def y3:Obj:=kF "unchecked_thing" "RingFamily.unchecked_thing" (inClass (top 31) 5) "countkin.ring" 775 518
def AE(P:IR):Obj:=kE #[kD P "__module__" 784 (.str "countkin.ring" 775),kD P "__firstlineno__" 788 (.int 198 787),kd P "__init__" 796 484,kd P "code_of" 804 491,kd P "of_code" 812 498,kd P "unchecked_many" 820 505,kd P "unchecked_number" 828 512,kd P "unchecked_thing" 837 519,kd P "__static_attributes__" 838 520,kD P "__doc__" 839 .none] 2
def zk:Obj:=kT "RingFamily" false [286] [522,286] 521 [574,617,660] 777 785 (some 471)
noncomputable def zJ:Obj:=kX "number_figures" "number_figures" 842 217 3 525 851
def zK:Obj:=kF "number_figures" "number_figures" (top 32) "countkin.ring" 775 530
noncomputable def yB:Obj:=kX "__init__" "Codes.__init__" 866 226 1 539 870
def zY:Obj:=kF "__init__" "Codes.__init__" (inClass (top 33) 0) "countkin.ring" 775 544
noncomputable def Ah:Obj:=kY "is_one" "Codes.is_one" 881 232 2 553 884
def Ap:Obj:=kF "is_one" "Codes.is_one" (inClass (top 33) 2) "countkin.ring" 775 556
noncomputable def zz:Obj:=kX "of_code" "Codes.of_code" 895 239 2 565 900
def Ad:Obj:=kF "of_code" "Codes.of_code" (inClass (top 33) 4) "countkin.ring" 775 570
def zH(P:IR):Obj:=kE #[kD P "__module__" 861 (.str "countkin.ring" 775),kD P "__firstlineno__" 865 (.int 224 864),kd P "__init__" 872 545,kd P "size_of" 880 552,kd P "is_one" 886 557,kd P "code_of" 894 564,kd P "of_code" 902 571,kd P "__static_attributes__" 903 572,kD P "__doc__" 904 .none] 2
def xC:Obj:=kT "Codes" false [522] [574,522,286] 573 [] 854 862 (some 532)
noncomputable def z6:Obj:=kX "__init__" "Cars.__init__" 921 244 1 584 925
def zT:Obj:=kF "__init__" "Cars.__init__" (inClass (top 35) 0) "countkin.cars" 907 589
noncomputable def zC:Obj:=kY "is_one" "Cars.is_one" 936 250 2 598 939
def zx:Obj:=kF "is_one" "Cars.is_one" (inClass (top 35) 2) "countkin.cars" 907 601
noncomputable def xQ:Obj:=kY "of_code" "Cars.of_code" 950 258 2 610 953
def zX:Obj:=kF "of_code" "Cars.of_code" (inClass (top 35) 4) "countkin.cars" 907 613
def xZ(P:IR):Obj:=kE #[kD P "__module__" 916 (.str "countkin.cars" 907),kD P "__firstlineno__" 920 (.int 242 919),kd P "__init__" 927 590,kd P "size_of" 935 597,kd P "is_one" 941 602,kd P "code_of" 949 609,kd P "of_code" 955 614,kd P "__static_attributes__" 956 615,kD P "__doc__" 957 .none] 2
def yG:Obj:=kT "Cars" false [522] [617,522,286] 616 [] 909 917 (some 577)
noncomputable def Ai:Obj:=kX "__init__" "Trees.__init__" 974 269 1 627 978
def zq:Obj:=kF "__init__" "Trees.__init__" (inClass (top 37) 0) "countkin.elders" 960 632
noncomputable def A4:Obj:=kY "is_one" "Trees.is_one" 989 275 2 641 992
def yi:Obj:=kF "is_one" "Trees.is_one" (inClass (top 37) 2) "countkin.elders" 960 644
noncomputable def xB:Obj:=kY "of_code" "Trees.of_code" 1003 284 2 653 1006
def yf:Obj:=kF "of_code" "Trees.of_code" (inClass (top 37) 4) "countkin.elders" 960 656
def yD(P:IR):Obj:=kE #[kD P "__module__" 969 (.str "countkin.elders" 960),kD P "__firstlineno__" 973 (.int 267 972),kd P "__init__" 980 633,kd P "size_of" 988 640,kd P "is_one" 994 645,kd P "code_of" 1002 652,kd P "of_code" 1008 657,kd P "__static_attributes__" 1009 658,kD P "__doc__" 1010 .none] 2
def AL:Obj:=kT "Trees" false [522] [660,522,286] 659 [] 962 970 (some 620)
noncomputable def zL:Obj:=kX "comes_to_0" "comes_to_0" 1013 293 2 663 1020
def yd:Obj:=kF "comes_to_0" "comes_to_0" (top 38) "countkin.elders" 960 668
noncomputable def yx:Obj:=kX "__init__" "Floors.__init__" 1037 302 1 677 1041
def zG:Obj:=kF "__init__" "Floors.__init__" (inClass (top 40) 0) "countkin.floors" 1023 682
noncomputable def yO:Obj:=kY "is_one" "Floors.is_one" 1052 308 2 691 1055
def xO:Obj:=kF "is_one" "Floors.is_one" (inClass (top 40) 2) "countkin.floors" 1023 694
noncomputable def z0:Obj:=kX "bare" "Floors.bare" 1058 317 1 696 1062
def xK:Obj:=kF "bare" "Floors.bare" (inClass (top 40) 3) "countkin.floors" 1023 701
def yy(P:IR):Obj:=kE #[kD P "__module__" 1032 (.str "countkin.floors" 1023),kD P "__firstlineno__" 1036 (.int 300 1035),kd P "__init__" 1043 683,kd P "size_of" 1051 690,kd P "is_one" 1057 695,kd P "bare" 1064 702,kd P "parted" 1072 709,kd P "joined" 1084 716,kd P "__static_attributes__" 1085 717,kD P "__doc__" 1086 .none] 2
def zb:Obj:=kT "Floors" false [363] [719,363,286] 718 [] 1025 1033 (some 670)
noncomputable def Kh:Obj:=kX "may_be_cut" "may_be_cut" 1089 332 3 722 1095
def Ja:Obj:=kF "may_be_cut" "may_be_cut" (top 41) "countkin.floors" 1023 727
noncomputable def M4:Obj:=kY "third_corner" "third_corner" 1098 334 3 729 1101
def MQ:Obj:=kF "third_corner" "third_corner" (top 42) "countkin.floors" 1023 732
noncomputable def Nv:Obj:=kX "__init__" "Turns.__init__" 1118 339 1 741 1122
def Hc:Obj:=kF "__init__" "Turns.__init__" (inClass (top 44) 0) "countkin.rows" 1104 746
noncomputable def Mb:Obj:=kX "is_one" "Turns.is_one" 1133 345 2 755 1138
def GQ:Obj:=kF "is_one" "Turns.is_one" (inClass (top 44) 2) "countkin.rows" 1104 760
noncomputable def My:Obj:=kX "bare" "Turns.bare" 1141 348 1 762 1145
def II:Obj:=kF "bare" "Turns.bare" (inClass (top 44) 3) "countkin.rows" 1104 767
def Hb(P:IR):Obj:=kE #[kD P "__module__" 1113 (.str "countkin.rows" 1104),kD P "__firstlineno__" 1117 (.int 337 1116),kd P "__init__" 1124 747,kd P "size_of" 1132 754,kd P "is_one" 1140 761,kd P "bare" 1147 768,kd P "parted" 1155 775,kd P "joined" 1164 782,kd P "__static_attributes__" 1165 783,kD P "__doc__" 1166 .none] 2
def Hy:Obj:=kT "Turns" false [363] [785,363,286] 784 [] 1106 1114 (some 734)
noncomputable def G1:Obj:=kX "comes_off_a_stack" "comes_off_a_stack" 1169 356 1 788 1176
def LC:Obj:=kF "comes_off_a_stack" "comes_off_a_stack" (top 45) "countkin.rows" 1104 793
noncomputable def J4:Obj:=kX "closes" "closes" 1181 367 1 795 1187
def HU:Obj:=kF "closes" "closes" (top 47) "countkin.steps" 1179 800
noncomputable def JS:Obj:=kX "__init__" "Brackets.__init__" 1204 380 1 809 1208
def Hm:Obj:=kF "__init__" "Brackets.__init__" (inClass (top 49) 0) "countkin.signs" 1190 814
noncomputable def Kw:Obj:=kX "is_one" "Brackets.is_one" 1219 386 2 823 1224
def La:Obj:=kF "is_one" "Brackets.is_one" (inClass (top 49) 2) "countkin.signs" 1190 828
noncomputable def Kk:Obj:=kX "bare" "Brackets.bare" 1227 389 1 830 1231
def Jp:Obj:=kF "bare" "Brackets.bare" (inClass (top 49) 3) "countkin.signs" 1190 835
def Kg(P:IR):Obj:=kE #[kD P "__module__" 1199 (.str "countkin.signs" 1190),kD P "__firstlineno__" 1203 (.int 378 1202),kd P "__init__" 1210 815,kd P "size_of" 1218 822,kd P "is_one" 1226 829,kd P "bare" 1233 836,kd P "parted" 1241 843,kd P "joined" 1250 850,kd P "__static_attributes__" 1251 851,kD P "__doc__" 1252 .none] 2
def LY:Obj:=kT "Brackets" false [363] [853,363,286] 852 [] 1192 1200 (some 802)
noncomputable def K8:Obj:=kX "__init__" "Stairs.__init__" 1267 399 1 863 1271
def IJ:Obj:=kF "__init__" "Stairs.__init__" (inClass (top 50) 0) "countkin.signs" 1190 868
noncomputable def IK:Obj:=kX "is_one" "Stairs.is_one" 1282 405 2 877 1290
def Kc:Obj:=kF "is_one" "Stairs.is_one" (inClass (top 50) 2) "countkin.signs" 1190 882
noncomputable def Gy:Obj:=kX "bare" "Stairs.bare" 1293 413 1 884 1297
def L7:Obj:=kF "bare" "Stairs.bare" (inClass (top 50) 3) "countkin.signs" 1190 889
def MR(P:IR):Obj:=kE #[kD P "__module__" 1262 (.str "countkin.signs" 1190),kD P "__firstlineno__" 1266 (.int 397 1265),kd P "__init__" 1273 869,kd P "size_of" 1281 876,kd P "is_one" 1292 883,kd P "bare" 1299 890,kd P "parted" 1307 897,kd P "joined" 1316 904,kd P "__static_attributes__" 1317 905,kD P "__doc__" 1318 .none] 2
def Jo:Obj:=kT "Stairs" false [363] [907,363,286] 906 [] 1255 1263 (some 856)
noncomputable def FP:Obj:=kX "__init__" "Twins.__init__" 1335 424 1 917 1339
def HQ:Obj:=kF "__init__" "Twins.__init__" (inClass (top 52) 0) "countkin.twigs" 1321 922
noncomputable def MZ:Obj:=kX "is_one" "Twins.is_one" 1353 437 2 931 1358
def Jj:Obj:=kF "is_one" "Twins.is_one" (inClass (top 52) 2) "countkin.twigs" 1321 936
noncomputable def Nw:Obj:=kX "bare" "Twins.bare" 1361 440 1 938 1365
def Jh:Obj:=kF "bare" "Twins.bare" (inClass (top 52) 3) "countkin.twigs" 1321 943
def Gz(P:IR):Obj:=kE #[kD P "__module__" 1330 (.str "countkin.twigs" 1321),kD P "__firstlineno__" 1334 (.int 422 1333),kd P "__init__" 1341 923,kd P "size_of" 1352 930,kd P "is_one" 1360 937,kd P "bare" 1367 944,kd P "parted" 1375 951,kd P "joined" 1384 958,kd P "__static_attributes__" 1385 959,kD P "__doc__" 1386 .none] 2
def Nb:Obj:=kT "Twins" false [363] [961,363,286] 960 [] 1323 1331 (some 910)
noncomputable def LN:Obj:=kX "split_families" "split_families" 1391 449 0 964 1394
def Ke:Obj:=kF "split_families" "split_families" (top 54) "countkin.names" 1389 969
noncomputable def Hl:Obj:=kX "ring_families" "ring_families" 1397 451 0 971 1400
def Iy:Obj:=kF "ring_families" "ring_families" (top 55) "countkin.names" 1389 976
noncomputable def Jb:Obj:=kY "families" "families" 1403 453 0 978 1406
def JL:Obj:=kF "families" "families" (top 56) "countkin.names" 1389 981
noncomputable def Ku:Obj:=kX "family_of" "family_of" 1409 455 1 983 1414
def Gv:Obj:=kF "family_of" "family_of" (top 57) "countkin.names" 1389 988
noncomputable def Ga:Obj:=kY "missing" "missing" 1419 461 2 990 1422
def Mp:Obj:=kF "missing" "missing" (top 59) "countkin.ringmarks" 1417 993
noncomputable def BC:Obj:=kX "trees_leaves" "trees_leaves" 1425 463 1 995 1429
def CS:Obj:=kF "trees_leaves" "trees_leaves" (top 60) "countkin.ringmarks" 1417 1000
noncomputable def Ci:Obj:=kX "trees_rootage" "trees_rootage" 1432 465 1 1002 1436
def DB:Obj:=kF "trees_rootage" "trees_rootage" (top 61) "countkin.ringmarks" 1417 1007
noncomputable def Bw:Obj:=kX "codes_leaves" "codes_leaves" 1439 467 1 1009 1443
def Cz:Obj:=kF "codes_leaves" "codes_leaves" (top 62) "countkin.ringmarks" 1417 1014
noncomputable def BE:Obj:=kX "codes_rootage" "codes_rootage" 1446 469 1 1016 1450
def B0:Obj:=kF "codes_rootage" "codes_rootage" (top 63) "countkin.ringmarks" 1417 1021
noncomputable def CU:Obj:=kX "cars_leaves" "cars_leaves" 1453 471 1 1023 1457
def CO:Obj:=kF "cars_leaves" "cars_leaves" (top 64) "countkin.ringmarks" 1417 1028
noncomputable def Cs:Obj:=kX "cars_rootage" "cars_rootage" 1460 473 1 1030 1464
def CV:Obj:=kF "cars_rootage" "cars_rootage" (top 65) "countkin.ringmarks" 1417 1035
noncomputable def BD:Obj:=kX "brackets_peaks" "brackets_peaks" 1469 476 1 1037 1473
def CN:Obj:=kF "brackets_peaks" "brackets_peaks" (top 67) "countkin.splitmarks" 1467 1042
noncomputable def BY:Obj:=kX "depths" "depths" 1476 478 1 1044 1483
def Cb:Obj:=kF "depths" "depths" (top 68) "countkin.splitmarks" 1467 1049
noncomputable def Bv:Obj:=kX "brackets_returns" "brackets_returns" 1486 488 1 1051 1490
def Dd:Obj:=kF "brackets_returns" "brackets_returns" (top 69) "countkin.splitmarks" 1467 1056
noncomputable def Di:Obj:=kX "stairs_peaks" "stairs_peaks" 1493 490 1 1058 1497
def BN:Obj:=kF "stairs_peaks" "stairs_peaks" (top 70) "countkin.splitmarks" 1467 1063
noncomputable def Bl:Obj:=kY "stairs_returns" "stairs_returns" 1500 492 1 1065 1503
def DI:Obj:=kF "stairs_returns" "stairs_returns" (top 71) "countkin.splitmarks" 1467 1068
noncomputable def Dj:Obj:=kX "twins_peaks" "twins_peaks" 1506 494 1 1070 1513
def Bj:Obj:=kF "twins_peaks" "twins_peaks" (top 72) "countkin.splitmarks" 1467 1075
noncomputable def CW:Obj:=kX "twins_returns" "twins_returns" 1516 504 1 1077 1522
def Ca:Obj:=kF "twins_returns" "twins_returns" (top 73) "countkin.splitmarks" 1467 1082
noncomputable def Cm:Obj:=kY "bows_peaks" "bows_peaks" 1525 511 1 1084 1528
def Dn:Obj:=kF "bows_peaks" "bows_peaks" (top 74) "countkin.splitmarks" 1467 1087
noncomputable def Cv:Obj:=kY "bows_over" "bows_over" 1531 513 2 1089 1534
def Dq:Obj:=kF "bows_over" "bows_over" (top 75) "countkin.splitmarks" 1467 1092
noncomputable def Dl:Obj:=kY "bows_returns" "bows_returns" 1537 515 1 1094 1540
def BM:Obj:=kF "bows_returns" "bows_returns" (top 76) "countkin.splitmarks" 1467 1097
noncomputable def BJ:Obj:=kX "rooms_peaks" "rooms_peaks" 1543 517 1 1099 1547
def Dr:Obj:=kF "rooms_peaks" "rooms_peaks" (top 77) "countkin.splitmarks" 1467 1104
noncomputable def Bu:Obj:=kY "rooms_around" "rooms_around" 1550 519 2 1106 1553
def Cu:Obj:=kF "rooms_around" "rooms_around" (top 78) "countkin.splitmarks" 1467 1109
noncomputable def Bp:Obj:=kY "rooms_returns" "rooms_returns" 1556 521 1 1111 1559
def Dc:Obj:=kF "rooms_returns" "rooms_returns" (top 79) "countkin.splitmarks" 1467 1114
noncomputable def Dy:Obj:=kY "triangles" "triangles" 1562 523 1 1116 1565
def CK:Obj:=kF "triangles" "triangles" (top 80) "countkin.splitmarks" 1467 1119
noncomputable def BI:Obj:=kY "floor_peaks" "floor_peaks" 1568 528 1 1121 1571
def Cy:Obj:=kF "floor_peaks" "floor_peaks" (top 81) "countkin.splitmarks" 1467 1124
noncomputable def BF:Obj:=kY "floor_returns" "floor_returns" 1574 530 1 1126 1577
def Bm:Obj:=kF "floor_returns" "floor_returns" (top 82) "countkin.splitmarks" 1467 1129
noncomputable def Bi:Obj:=kY "turns_peaks" "turns_peaks" 1580 532 1 1131 1583
def DE:Obj:=kF "turns_peaks" "turns_peaks" (top 83) "countkin.splitmarks" 1467 1134
noncomputable def BA:Obj:=kY "turns_returns" "turns_returns" 1586 534 1 1136 1589
def BV:Obj:=kF "turns_returns" "turns_returns" (top 84) "countkin.splitmarks" 1467 1139
noncomputable def DA:Obj:=kX "brackets_height" "brackets_height" 1594 537 1 1141 1598
def BP:Obj:=kF "brackets_height" "brackets_height" (top 86) "countkin.tallmarks" 1592 1146
noncomputable def BH:Obj:=kY "stairs_height" "stairs_height" 1601 539 1 1148 1604
def B5:Obj:=kF "stairs_height" "stairs_height" (top 87) "countkin.tallmarks" 1592 1151
noncomputable def CL:Obj:=kX "twins_height" "twins_height" 1607 541 1 1153 1611
def DC:Obj:=kF "twins_height" "twins_height" (top 88) "countkin.tallmarks" 1592 1158
noncomputable def Cn:Obj:=kY "bows_height" "bows_height" 1614 545 1 1160 1617
def Cg:Obj:=kF "bows_height" "bows_height" (top 89) "countkin.tallmarks" 1592 1163
noncomputable def B2:Obj:=kY "turns_height" "turns_height" 1620 547 1 1165 1623
def Bz:Obj:=kF "turns_height" "turns_height" (top 90) "countkin.tallmarks" 1592 1168
noncomputable def Cw:Obj:=kX "all_measures" "all_measures" 1628 554 0 1170 1631
def CJ:Obj:=kF "all_measures" "all_measures" (top 92) "countkin.marks" 1626 1175
noncomputable def BW:Obj:=kX "marks_of" "marks_of" 1634 556 1 1177 1639
def Cp:Obj:=kF "marks_of" "marks_of" (top 93) "countkin.marks" 1626 1182
noncomputable def B4:Obj:=kX "mark" "mark" 1642 559 3 1184 1649
def BL:Obj:=kF "mark" "mark" (top 94) "countkin.marks" 1626 1189
noncomputable def By:Obj:=kX "_law_cell_at" "_law_cell_at" 1654 566 2 1191 1659
def Dg:Obj:=kF "_law_cell_at" "_law_cell_at" (top 96) "law_countkin_k46_words_and_marks" 1652 1196
noncomputable def Br:Obj:=kY "_law_draws" "_law_draws" 1662 570 3 1198 1665
def Cj:Obj:=kF "_law_draws" "_law_draws" (top 97) "law_countkin_k46_words_and_marks" 1652 1201
noncomputable def Du:Obj:=kX "_law_words" "_law_words" 1668 587 0 1203 1671
def Bs:Obj:=kF "_law_words" "_law_words" (top 98) "law_countkin_k46_words_and_marks" 1652 1208
noncomputable def BK:Obj:=kX "_law_marks" "_law_marks" 1674 589 1 1210 1678
def CY:Obj:=kF "_law_marks" "_law_marks" (top 99) "law_countkin_k46_words_and_marks" 1652 1215
noncomputable def B1:Obj:=kX "_law_sign" "_law_sign" 1681 595 1 1217 1686
def Bk:Obj:=kF "_law_sign" "_law_sign" (top 100) "law_countkin_k46_words_and_marks" 1652 1222
noncomputable def BG:Obj:=kY "_law_text" "_law_text" 1689 599 3 1224 1692
def DF:Obj:=kF "_law_text" "_law_text" (top 101) "law_countkin_k46_words_and_marks" 1652 1227
noncomputable def Cf:Obj:=kX "_law_amiss" "_law_amiss" 1695 614 2 1229 1701
def B8:Obj:=kF "_law_amiss" "_law_amiss" (top 102) "law_countkin_k46_words_and_marks" 1652 1234
noncomputable def Cq:Obj:=kX "_law_classes" "_law_classes" 1704 625 1 1236 1709
def Dh:Obj:=kF "_law_classes" "_law_classes" (top 103) "law_countkin_k46_words_and_marks" 1652 1241
noncomputable def CG:Obj:=kX "_law_mark_refused" "_law_mark_refused" 1712 640 3 1243 1720
def CI:Obj:=kF "_law_mark_refused" "_law_mark_refused" (top 104) "law_countkin_k46_words_and_marks" 1652 1248
noncomputable def CD:Obj:=kX "_law_word_refused" "_law_word_refused" 1723 647 2 1250 1730
def B6:Obj:=kF "_law_word_refused" "_law_word_refused" (top 105) "law_countkin_k46_words_and_marks" 1652 1255
noncomputable def Ce:Obj:=kX "_law_lists" "_law_lists" 1733 654 1 1257 1740
def Dw:Obj:=kF "_law_lists" "_law_lists" (top 106) "law_countkin_k46_words_and_marks" 1652 1262
noncomputable def BS:Obj:=kX "_law_made" "_law_made" 1743 665 2 1264 1752
def CZ:Obj:=kF "_law_made" "_law_made" (top 107) "law_countkin_k46_words_and_marks" 1652 1269
noncomputable def B3:Obj:=kX "law" "law" 1755 675 1 1271 1765
def Co:Obj:=kF "law" "law" (top 108) "law_countkin_k46_words_and_marks" 1652 1276
def hTree(P:IR):BT:=(.node (boot_o_0 P) (.node (boot_o_1 P) (.node (boot_o_3 P) (kL (boot_o_7 P)) (kL ⟨(.type "tuple"),none,(.seq #[] 0),#[]⟩)) (.node (boot_o_5 P) (kL (boot_o_9 P)) (kL ⟨(.type "code"),none,(.fields #[(.str "<module>" 182),(.str "<module>" 183),(.str "/claim/cut.py" 184),(.int 1 0),(.int 0 0),(.int 0 0),(.int 0 0),(.int 0 0),(.ref 11),(.bool false),(.int 181 0),(.ref 12),.none,.none,.none,.none,(.int 185 0),(.int 1 0),(.str "/claim/cut.py" 186)]),#[]⟩))) (.node (boot_o_2 P) (.node (boot_o_4 P) (kL (boot_o_8 P)) (kL ⟨.none,none,(.fields #[]),#[]⟩)) (.node (boot_o_6 P) (kL (boot_o_10 P)) (kL ⟨(.type "frame"),none,.plain,#[(some (.ref 13)),(some (.ref 3)),(some (.ref 3)),none,(some (.str "__main__" 164)),none,(some (.ref 0))]⟩))))
def hS(w:Tc)(os:Wq):SharedT:=⟨hTree w.params,15,({}:Life),Array.mk [],⟨0,0,0,0⟩,187,os⟩
def hQ:SK:={PySem.Challenge.pw_countkin_k46_words_and_marks with main:={PySem.Challenge.pw_countkin_k46_words_and_marks.main with body:=[top 108]}}
noncomputable def Qf:List Str:=AC "_law_mark_refused"::AC "_law_word_refused"::AC "_law_lists"::AC "_law_made"::[]
def P0:List Str:=AC "_law_marks"::AC "_law_sign"::AC "_law_text"::AC "_law_amiss"::AC "_law_classes"::Qf
def Rj:List Str:=AC "marks_of"::AC "mark"::AC "_law_cell_at"::AC "_law_draws"::AC "_law_words"::P0
def Rg:List Str:=AC "stairs_height"::AC "twins_height"::AC "bows_height"::AC "turns_height"::AC "all_measures"::Rj
def PU:List Str:=AC "floor_peaks"::AC "floor_returns"::AC "turns_peaks"::AC "turns_returns"::AC "brackets_height"::Rg
def Ql:List Str:=AC "bows_returns"::AC "rooms_peaks"::AC "rooms_around"::AC "rooms_returns"::AC "triangles"::PU
def RD:List Str:=AC "stairs_returns"::AC "twins_peaks"::AC "twins_returns"::AC "bows_peaks"::AC "bows_over"::Ql
def QE:List Str:=AC "cars_rootage"::AC "brackets_peaks"::AC "depths"::AC "brackets_returns"::AC "stairs_peaks"::RD
def R1:List Str:=AC "trees_leaves"::AC "trees_rootage"::AC "codes_leaves"::AC "codes_rootage"::AC "cars_leaves"::QE
def RL:List Str:=AC "split_families"::AC "ring_families"::AC "families"::AC "family_of"::AC "missing"::R1
def RR:List Str:=AC "comes_off_a_stack"::AC "closes"::AC "Brackets"::AC "Stairs"::AC "Twins"::RL
def Dz:List Str:=AC "comes_to_0"::AC "Floors"::AC "may_be_cut"::AC "third_corner"::AC "Turns"::RR
def Cc:List Str:=AC "RingFamily"::AC "number_figures"::AC "Codes"::AC "Cars"::AC "Trees"::Dz
def RH:List Str:=AC "Family"::AC "SplitFamily"::AC "Bows"::AC "Rooms"::AC "neighbours"::Cc
def gF:List Str:=AC "any_cross"::AC "GREATEST_SIZE"::AC "shares"::AC "by_rule"::AC "ring_many"::RH
def eB:List Str:=AC "Broken"::AC "raised_by"::AC "pairs_raised_by"::AC "flat"::AC "each_once"::gF
def cy:List Str:=AC "NoFamily"::AC "NoWay"::AC "Apart"::AC "NoMark"::AC "NoText"::eB
def Si:List Str:=AC "_wall"::AC "KinError"::AC "NoSize"::AC "NoNumber"::AC "NoThing"::cy
def hL:List Str:=Si
def hK:IR->VB:=fun P=>(nat_lit 2,o2)::(nat_lit 3,⟨(.type "dict"),none,(.dict (Vr (kD P "__name__" 165 (.str "law_countkin_k46_words_and_marks" 1652)::kD P "__doc__" 166 .none::kD P "__package__" 167 .none::kD P "__loader__" 168 (.builtin "__main__.__loader__#opaque")::kD P "__spec__" 169 .none::kD P "__annotations__" 170 (.ref 6)::kD P "__builtins__" 171 (.ref 4)::kD P "__file__" 173 (.str "/claim/cut.py" 172)::kD P "__cached__" 174 .none::kD P "_wall" 193 (.ref 21)::kD P "KinError" 213 (.ref 31)::kD P "NoSize" 229 (.ref 44)::kD P "NoNumber" 245 (.ref 56)::kD P "NoThing" 261 (.ref 68)::kD P "NoFamily" 277 (.ref 80)::kD P "NoWay" 293 (.ref 92)::kD P "Apart" 309 (.ref 104)::kD P "NoMark" 325 (.ref 116)::kD P "NoText" 341 (.ref 128)::kD P "Broken" 366 (.ref 147)::kD P "raised_by" 374 (.ref 154)::kD P "pairs_raised_by" 380 (.ref 159)::kD P "flat" 389 (.ref 166)::kD P "each_once" 396 (.ref 173)::kD P "any_cross" 407 (.ref 180)::kD P "GREATEST_SIZE" 411 (.int 40 410)::kD P "shares" 417 (.ref 185)::kD P "by_rule" 426 (.ref 192)::kD P "ring_many" 435 (.ref 199)::kD P "Family" 551 (.ref 286)::kD P "SplitFamily" 648 (.ref 363)::kD P "Bows" 712 (.ref 415)::kD P "Rooms" 768 (.ref 463)::kD P "neighbours" 774 (.ref 470)::kD P "RingFamily" 841 (.ref 522)::kD P "number_figures" 853 (.ref 531)::kD P "Codes" 906 (.ref 574)::kD P "Cars" 959 (.ref 617)::kD P "Trees" 1012 (.ref 660)::kD P "comes_to_0" 1022 (.ref 669)::kD P "Floors" 1088 (.ref 719)::kD P "may_be_cut" 1097 (.ref 728)::kD P "third_corner" 1103 (.ref 733)::kD P "Turns" 1168 (.ref 785)::kD P "comes_off_a_stack" 1178 (.ref 794)::kD P "closes" 1189 (.ref 801)::kD P "Brackets" 1254 (.ref 853)::kD P "Stairs" 1320 (.ref 907)::kD P "Twins" 1388 (.ref 961)::kD P "split_families" 1396 (.ref 970)::kD P "ring_families" 1402 (.ref 977)::kD P "families" 1408 (.ref 982)::kD P "family_of" 1416 (.ref 989)::kD P "missing" 1424 (.ref 994)::kD P "trees_leaves" 1431 (.ref 1001)::kD P "trees_rootage" 1438 (.ref 1008)::kD P "codes_leaves" 1445 (.ref 1015)::kD P "codes_rootage" 1452 (.ref 1022)::kD P "cars_leaves" 1459 (.ref 1029)::kD P "cars_rootage" 1466 (.ref 1036)::kD P "brackets_peaks" 1475 (.ref 1043)::kD P "depths" 1485 (.ref 1050)::kD P "brackets_returns" 1492 (.ref 1057)::kD P "stairs_peaks" 1499 (.ref 1064)::kD P "stairs_returns" 1505 (.ref 1069)::kD P "twins_peaks" 1515 (.ref 1076)::kD P "twins_returns" 1524 (.ref 1083)::kD P "bows_peaks" 1530 (.ref 1088)::kD P "bows_over" 1536 (.ref 1093)::kD P "bows_returns" 1542 (.ref 1098)::kD P "rooms_peaks" 1549 (.ref 1105)::kD P "rooms_around" 1555 (.ref 1110)::kD P "rooms_returns" 1561 (.ref 1115)::kD P "triangles" 1567 (.ref 1120)::kD P "floor_peaks" 1573 (.ref 1125)::kD P "floor_returns" 1579 (.ref 1130)::kD P "turns_peaks" 1585 (.ref 1135)::kD P "turns_returns" 1591 (.ref 1140)::kD P "brackets_height" 1600 (.ref 1147)::kD P "stairs_height" 1606 (.ref 1152)::kD P "twins_height" 1613 (.ref 1159)::kD P "bows_height" 1619 (.ref 1164)::kD P "turns_height" 1625 (.ref 1169)::kD P "all_measures" 1633 (.ref 1176)::kD P "marks_of" 1641 (.ref 1183)::kD P "mark" 1651 (.ref 1190)::kD P "_law_cell_at" 1661 (.ref 1197)::kD P "_law_draws" 1667 (.ref 1202)::kD P "_law_words" 1673 (.ref 1209)::kD P "_law_marks" 1680 (.ref 1216)::kD P "_law_sign" 1688 (.ref 1223)::kD P "_law_text" 1694 (.ref 1228)::kD P "_law_amiss" 1703 (.ref 1235)::kD P "_law_classes" 1711 (.ref 1242)::kD P "_law_mark_refused" 1722 (.ref 1249)::kD P "_law_word_refused" 1732 (.ref 1256)::kD P "_law_lists" 1742 (.ref 1263)::kD P "_law_made" 1754 (.ref 1270)::kD P "law" 1767 (.ref 1277)::[])) 99),#[]⟩)::(nat_lit 30,(Kt P))::(nat_lit 31,Ng)::(nat_lit 32,G7)::(nat_lit 43,(Lu P))::(nat_lit 44,FI)::(nat_lit 55,(G2 P))::(nat_lit 56,Ir)::(nat_lit 67,(GK P))::(nat_lit 68,IT)::(nat_lit 79,(Jc P))::(nat_lit 80,G4)::(nat_lit 91,(IV P))::(nat_lit 92,HA)::(nat_lit 103,(xS P))::(nat_lit 104,yF)::(nat_lit 115,(xX P))::(nat_lit 116,zW)::(nat_lit 127,(xP P))::(nat_lit 128,Ax)::(nat_lit 143,zI)::(nat_lit 144,AK)::(nat_lit 146,(yt P))::(nat_lit 147,xY)::(nat_lit 165,zN)::(nat_lit 166,y9)::(nat_lit 172,Af)::(nat_lit 173,yR)::(nat_lit 179,AX)::(nat_lit 180,zF)::(nat_lit 184,yc)::(nat_lit 185,An)::(nat_lit 191,x9)::(nat_lit 192,x8)::(nat_lit 198,Aw)::(nat_lit 199,Ao)::(nat_lit 212,yp)::(nat_lit 213,yQ)::(nat_lit 254,xF)::(nat_lit 255,xJ)::(nat_lit 261,zt)::(nat_lit 262,Bg)::(nat_lit 275,yK)::(nat_lit 276,AI)::(nat_lit 285,(A2 P))::(nat_lit 286,Bb)::(nat_lit 287,AS)::(nat_lit 288,y8)::(nat_lit 303,yC)::(nat_lit 304,Ba)::(nat_lit 331,xE)::(nat_lit 332,yh)::(nat_lit 345,yJ)::(nat_lit 346,AV)::(nat_lit 359,zl)::(nat_lit 360,xR)::(nat_lit 362,(AU P))::(nat_lit 363,M7)::(nat_lit 378,z9)::(nat_lit 379,yz)::(nat_lit 390,xD)::(nat_lit 391,zS)::(nat_lit 397,Ac)::(nat_lit 398,yb)::(nat_lit 414,(Ak P))::(nat_lit 415,zM)::(nat_lit 430,zD)::(nat_lit 431,zU)::(nat_lit 440,zh)::(nat_lit 441,xA)::(nat_lit 447,z7)::(nat_lit 448,yY)::(nat_lit 462,(yu P))::(nat_lit 463,Am)::(nat_lit 469,yM)::(nat_lit 470,Ag)::(nat_lit 483,Aq)::(nat_lit 484,AQ)::(nat_lit 504,zi)::(nat_lit 505,Az)::(nat_lit 518,Bh)::(nat_lit 519,y3)::(nat_lit 521,(AE P))::(nat_lit 522,zk)::(nat_lit 530,zJ)::(nat_lit 531,zK)::(nat_lit 544,yB)::(nat_lit 545,zY)::(nat_lit 556,Ah)::(nat_lit 557,Ap)::(nat_lit 570,zz)::(nat_lit 571,Ad)::(nat_lit 573,(zH P))::(nat_lit 574,xC)::(nat_lit 589,z6)::(nat_lit 590,zT)::(nat_lit 601,zC)::(nat_lit 602,zx)::(nat_lit 613,xQ)::(nat_lit 614,zX)::(nat_lit 616,(xZ P))::(nat_lit 617,yG)::(nat_lit 632,Ai)::(nat_lit 633,zq)::(nat_lit 644,A4)::(nat_lit 645,yi)::(nat_lit 656,xB)::(nat_lit 657,yf)::(nat_lit 659,(yD P))::(nat_lit 660,AL)::(nat_lit 668,zL)::(nat_lit 669,yd)::(nat_lit 682,yx)::(nat_lit 683,zG)::(nat_lit 694,yO)::(nat_lit 695,xO)::(nat_lit 701,z0)::(nat_lit 702,xK)::(nat_lit 718,(yy P))::(nat_lit 719,zb)::(nat_lit 727,Kh)::(nat_lit 728,Ja)::(nat_lit 732,M4)::(nat_lit 733,MQ)::(nat_lit 746,Nv)::(nat_lit 747,Hc)::(nat_lit 760,Mb)::(nat_lit 761,GQ)::(nat_lit 767,My)::(nat_lit 768,II)::(nat_lit 784,(Hb P))::(nat_lit 785,Hy)::(nat_lit 793,G1)::(nat_lit 794,LC)::(nat_lit 800,J4)::(nat_lit 801,HU)::(nat_lit 814,JS)::(nat_lit 815,Hm)::(nat_lit 828,Kw)::(nat_lit 829,La)::(nat_lit 835,Kk)::(nat_lit 836,Jp)::(nat_lit 852,(Kg P))::(nat_lit 853,LY)::(nat_lit 868,K8)::(nat_lit 869,IJ)::(nat_lit 882,IK)::(nat_lit 883,Kc)::(nat_lit 889,Gy)::(nat_lit 890,L7)::(nat_lit 906,(MR P))::(nat_lit 907,Jo)::(nat_lit 922,FP)::(nat_lit 923,HQ)::(nat_lit 936,MZ)::(nat_lit 937,Jj)::(nat_lit 943,Nw)::(nat_lit 944,Jh)::(nat_lit 960,(Gz P))::(nat_lit 961,Nb)::(nat_lit 969,LN)::(nat_lit 970,Ke)::(nat_lit 976,Hl)::(nat_lit 977,Iy)::(nat_lit 981,Jb)::(nat_lit 982,JL)::(nat_lit 988,Ku)::(nat_lit 989,Gv)::(nat_lit 993,Ga)::(nat_lit 994,Mp)::(nat_lit 1000,BC)::(nat_lit 1001,CS)::(nat_lit 1007,Ci)::(nat_lit 1008,DB)::(nat_lit 1014,Bw)::(nat_lit 1015,Cz)::(nat_lit 1021,BE)::(nat_lit 1022,B0)::(nat_lit 1028,CU)::(nat_lit 1029,CO)::(nat_lit 1035,Cs)::(nat_lit 1036,CV)::(nat_lit 1042,BD)::(nat_lit 1043,CN)::(nat_lit 1049,BY)::(nat_lit 1050,Cb)::(nat_lit 1056,Bv)::(nat_lit 1057,Dd)::(nat_lit 1063,Di)::(nat_lit 1064,BN)::(nat_lit 1068,Bl)::(nat_lit 1069,DI)::(nat_lit 1075,Dj)::(nat_lit 1076,Bj)::(nat_lit 1082,CW)::(nat_lit 1083,Ca)::(nat_lit 1087,Cm)::(nat_lit 1088,Dn)::(nat_lit 1092,Cv)::(nat_lit 1093,Dq)::(nat_lit 1097,Dl)::(nat_lit 1098,BM)::(nat_lit 1104,BJ)::(nat_lit 1105,Dr)::(nat_lit 1109,Bu)::(nat_lit 1110,Cu)::(nat_lit 1114,Bp)::(nat_lit 1115,Dc)::(nat_lit 1119,Dy)::(nat_lit 1120,CK)::(nat_lit 1124,BI)::(nat_lit 1125,Cy)::(nat_lit 1129,BF)::(nat_lit 1130,Bm)::(nat_lit 1134,Bi)::(nat_lit 1135,DE)::(nat_lit 1139,BA)::(nat_lit 1140,BV)::(nat_lit 1146,DA)::(nat_lit 1147,BP)::(nat_lit 1151,BH)::(nat_lit 1152,B5)::(nat_lit 1158,CL)::(nat_lit 1159,DC)::(nat_lit 1163,Cn)::(nat_lit 1164,Cg)::(nat_lit 1168,B2)::(nat_lit 1169,Bz)::(nat_lit 1175,Cw)::(nat_lit 1176,CJ)::(nat_lit 1182,BW)::(nat_lit 1183,Cp)::(nat_lit 1189,B4)::(nat_lit 1190,BL)::(nat_lit 1196,By)::(nat_lit 1197,Dg)::(nat_lit 1201,Br)::(nat_lit 1202,Cj)::(nat_lit 1208,Du)::(nat_lit 1209,Bs)::(nat_lit 1215,BK)::(nat_lit 1216,CY)::(nat_lit 1222,B1)::(nat_lit 1223,Bk)::(nat_lit 1227,BG)::(nat_lit 1228,DF)::(nat_lit 1234,Cf)::(nat_lit 1235,B8)::(nat_lit 1241,Cq)::(nat_lit 1242,Dh)::(nat_lit 1248,CG)::(nat_lit 1249,CI)::(nat_lit 1255,CD)::(nat_lit 1256,B6)::(nat_lit 1262,Ce)::(nat_lit 1263,Dw)::(nat_lit 1269,BS)::(nat_lit 1270,CZ)::(nat_lit 1276,B3)::(nat_lit 1277,Co)::[]
def Eb(P:IR):List Ts:=kD P "_law_word_refused" 1732 (.ref 1256)::kD P "_law_lists" 1742 (.ref 1263)::kD P "_law_made" 1754 (.ref 1270)::kD P "law" 1767 (.ref 1277)::[]
def EF(P:IR):List Ts:=kD P "_law_sign" 1688 (.ref 1223)::kD P "_law_text" 1694 (.ref 1228)::kD P "_law_amiss" 1703 (.ref 1235)::kD P "_law_classes" 1711 (.ref 1242)::kD P "_law_mark_refused" 1722 (.ref 1249)::Eb P
def DO(P:IR):List Ts:=kD P "mark" 1651 (.ref 1190)::kD P "_law_cell_at" 1661 (.ref 1197)::kD P "_law_draws" 1667 (.ref 1202)::kD P "_law_words" 1673 (.ref 1209)::kD P "_law_marks" 1680 (.ref 1216)::EF P
def E4(P:IR):List Ts:=kD P "twins_height" 1613 (.ref 1159)::kD P "bows_height" 1619 (.ref 1164)::kD P "turns_height" 1625 (.ref 1169)::kD P "all_measures" 1633 (.ref 1176)::kD P "marks_of" 1641 (.ref 1183)::DO P
def Fn(P:IR):List Ts:=kD P "floor_returns" 1579 (.ref 1130)::kD P "turns_peaks" 1585 (.ref 1135)::kD P "turns_returns" 1591 (.ref 1140)::kD P "brackets_height" 1600 (.ref 1147)::kD P "stairs_height" 1606 (.ref 1152)::E4 P
def EA(P:IR):List Ts:=kD P "rooms_peaks" 1549 (.ref 1105)::kD P "rooms_around" 1555 (.ref 1110)::kD P "rooms_returns" 1561 (.ref 1115)::kD P "triangles" 1567 (.ref 1120)::kD P "floor_peaks" 1573 (.ref 1125)::Fn P
def Fw(P:IR):List Ts:=kD P "twins_peaks" 1515 (.ref 1076)::kD P "twins_returns" 1524 (.ref 1083)::kD P "bows_peaks" 1530 (.ref 1088)::kD P "bows_over" 1536 (.ref 1093)::kD P "bows_returns" 1542 (.ref 1098)::EA P
def Ei(P:IR):List Ts:=kD P "brackets_peaks" 1475 (.ref 1043)::kD P "depths" 1485 (.ref 1050)::kD P "brackets_returns" 1492 (.ref 1057)::kD P "stairs_peaks" 1499 (.ref 1064)::kD P "stairs_returns" 1505 (.ref 1069)::Fw P
def Fq(P:IR):List Ts:=kD P "trees_rootage" 1438 (.ref 1008)::kD P "codes_leaves" 1445 (.ref 1015)::kD P "codes_rootage" 1452 (.ref 1022)::kD P "cars_leaves" 1459 (.ref 1029)::kD P "cars_rootage" 1466 (.ref 1036)::Ei P
def Ee(P:IR):List Ts:=kD P "ring_families" 1402 (.ref 977)::kD P "families" 1408 (.ref 982)::kD P "family_of" 1416 (.ref 989)::kD P "missing" 1424 (.ref 994)::kD P "trees_leaves" 1431 (.ref 1001)::Fq P
def Mg(P:IR):List Ts:=kD P "closes" 1189 (.ref 801)::kD P "Brackets" 1254 (.ref 853)::kD P "Stairs" 1320 (.ref 907)::kD P "Twins" 1388 (.ref 961)::kD P "split_families" 1396 (.ref 970)::Ee P
def Mu(P:IR):List Ts:=kD P "Floors" 1088 (.ref 719)::kD P "may_be_cut" 1097 (.ref 728)::kD P "third_corner" 1103 (.ref 733)::kD P "Turns" 1168 (.ref 785)::kD P "comes_off_a_stack" 1178 (.ref 794)::Mg P
def IC(P:IR):List Ts:=kD P "number_figures" 853 (.ref 531)::kD P "Codes" 906 (.ref 574)::kD P "Cars" 959 (.ref 617)::kD P "Trees" 1012 (.ref 660)::kD P "comes_to_0" 1022 (.ref 669)::Mu P
def Ms(P:IR):List Ts:=kD P "SplitFamily" 648 (.ref 363)::kD P "Bows" 712 (.ref 415)::kD P "Rooms" 768 (.ref 463)::kD P "neighbours" 774 (.ref 470)::kD P "RingFamily" 841 (.ref 522)::IC P
def Mc(P:IR):List Ts:=kD P "GREATEST_SIZE" 411 (.int 40 410)::kD P "shares" 417 (.ref 185)::kD P "by_rule" 426 (.ref 192)::kD P "ring_many" 435 (.ref 199)::kD P "Family" 551 (.ref 286)::Ms P
def Jf(P:IR):List Ts:=kD P "raised_by" 374 (.ref 154)::kD P "pairs_raised_by" 380 (.ref 159)::kD P "flat" 389 (.ref 166)::kD P "each_once" 396 (.ref 173)::kD P "any_cross" 407 (.ref 180)::Mc P
def Lk(P:IR):List Ts:=kD P "NoWay" 293 (.ref 92)::kD P "Apart" 309 (.ref 104)::kD P "NoMark" 325 (.ref 116)::kD P "NoText" 341 (.ref 128)::kD P "Broken" 366 (.ref 147)::Jf P
def K4(P:IR):List Ts:=kD P "KinError" 213 (.ref 31)::kD P "NoSize" 229 (.ref 44)::kD P "NoNumber" 245 (.ref 56)::kD P "NoThing" 261 (.ref 68)::kD P "NoFamily" 277 (.ref 80)::Lk P
def JO(P:IR):List Ts:=kD P "__annotations__" 170 (.ref 6)::kD P "__builtins__" 171 (.ref 4)::kD P "__file__" 173 (.str "/claim/cut.py" 172)::kD P "__cached__" 174 .none::kD P "_wall" 193 (.ref 21)::K4 P
def Mt(P:IR):List Ts:=kD P "__name__" 165 (.str "law_countkin_k46_words_and_marks" 1652)::kD P "__doc__" 166 .none::kD P "__package__" 167 .none::kD P "__loader__" 168 (.builtin "__main__.__loader__#opaque")::kD P "__spec__" 169 .none::JO P
def O5(P:IR):VB:=(nat_lit 1277,Co)::[]
def Qa(P:IR):VB:=(nat_lit 1262,Ce)::(nat_lit 1263,Dw)::(nat_lit 1269,BS)::(nat_lit 1270,CZ)::(nat_lit 1276,B3)::O5 P
def OZ(P:IR):VB:=(nat_lit 1242,Dh)::(nat_lit 1248,CG)::(nat_lit 1249,CI)::(nat_lit 1255,CD)::(nat_lit 1256,B6)::Qa P
def PL(P:IR):VB:=(nat_lit 1227,BG)::(nat_lit 1228,DF)::(nat_lit 1234,Cf)::(nat_lit 1235,B8)::(nat_lit 1241,Cq)::OZ P
def Q4(P:IR):VB:=(nat_lit 1209,Bs)::(nat_lit 1215,BK)::(nat_lit 1216,CY)::(nat_lit 1222,B1)::(nat_lit 1223,Bk)::PL P
def Qo(P:IR):VB:=(nat_lit 1196,By)::(nat_lit 1197,Dg)::(nat_lit 1201,Br)::(nat_lit 1202,Cj)::(nat_lit 1208,Du)::Q4 P
def Q0(P:IR):VB:=(nat_lit 1176,CJ)::(nat_lit 1182,BW)::(nat_lit 1183,Cp)::(nat_lit 1189,B4)::(nat_lit 1190,BL)::Qo P
def Qj(P:IR):VB:=(nat_lit 1163,Cn)::(nat_lit 1164,Cg)::(nat_lit 1168,B2)::(nat_lit 1169,Bz)::(nat_lit 1175,Cw)::Q0 P
def P8(P:IR):VB:=(nat_lit 1147,BP)::(nat_lit 1151,BH)::(nat_lit 1152,B5)::(nat_lit 1158,CL)::(nat_lit 1159,DC)::Qj P
def O2(P:IR):VB:=(nat_lit 1134,Bi)::(nat_lit 1135,DE)::(nat_lit 1139,BA)::(nat_lit 1140,BV)::(nat_lit 1146,DA)::P8 P
def QB(P:IR):VB:=(nat_lit 1120,CK)::(nat_lit 1124,BI)::(nat_lit 1125,Cy)::(nat_lit 1129,BF)::(nat_lit 1130,Bm)::O2 P
def PX(P:IR):VB:=(nat_lit 1109,Bu)::(nat_lit 1110,Cu)::(nat_lit 1114,Bp)::(nat_lit 1115,Dc)::(nat_lit 1119,Dy)::QB P
def Pm(P:IR):VB:=(nat_lit 1093,Dq)::(nat_lit 1097,Dl)::(nat_lit 1098,BM)::(nat_lit 1104,BJ)::(nat_lit 1105,Dr)::PX P
def Qi(P:IR):VB:=(nat_lit 1082,CW)::(nat_lit 1083,Ca)::(nat_lit 1087,Cm)::(nat_lit 1088,Dn)::(nat_lit 1092,Cv)::Pm P
def Pr(P:IR):VB:=(nat_lit 1064,BN)::(nat_lit 1068,Bl)::(nat_lit 1069,DI)::(nat_lit 1075,Dj)::(nat_lit 1076,Bj)::Qi P
def Q5(P:IR):VB:=(nat_lit 1049,BY)::(nat_lit 1050,Cb)::(nat_lit 1056,Bv)::(nat_lit 1057,Dd)::(nat_lit 1063,Di)::Pr P
def Rf(P:IR):VB:=(nat_lit 1029,CO)::(nat_lit 1035,Cs)::(nat_lit 1036,CV)::(nat_lit 1042,BD)::(nat_lit 1043,CN)::Q5 P
def RC(P:IR):VB:=(nat_lit 1014,Bw)::(nat_lit 1015,Cz)::(nat_lit 1021,BE)::(nat_lit 1022,B0)::(nat_lit 1028,CU)::Rf P
def Py(P:IR):VB:=(nat_lit 994,Mp)::(nat_lit 1000,BC)::(nat_lit 1001,CS)::(nat_lit 1007,Ci)::(nat_lit 1008,DB)::RC P
def P4(P:IR):VB:=(nat_lit 981,Jb)::(nat_lit 982,JL)::(nat_lit 988,Ku)::(nat_lit 989,Gv)::(nat_lit 993,Ga)::Py P
def Q8(P:IR):VB:=(nat_lit 961,Nb)::(nat_lit 969,LN)::(nat_lit 970,Ke)::(nat_lit 976,Hl)::(nat_lit 977,Iy)::P4 P
def QY(P:IR):VB:=(nat_lit 936,MZ)::(nat_lit 937,Jj)::(nat_lit 943,Nw)::(nat_lit 944,Jh)::(nat_lit 960,(Gz P))::Q8 P
def PF(P:IR):VB:=(nat_lit 890,L7)::(nat_lit 906,(MR P))::(nat_lit 907,Jo)::(nat_lit 922,FP)::(nat_lit 923,HQ)::QY P
def OY(P:IR):VB:=(nat_lit 868,K8)::(nat_lit 869,IJ)::(nat_lit 882,IK)::(nat_lit 883,Kc)::(nat_lit 889,Gy)::PF P
def QV(P:IR):VB:=(nat_lit 829,La)::(nat_lit 835,Kk)::(nat_lit 836,Jp)::(nat_lit 852,(Kg P))::(nat_lit 853,LY)::OY P
def QT(P:IR):VB:=(nat_lit 800,J4)::(nat_lit 801,HU)::(nat_lit 814,JS)::(nat_lit 815,Hm)::(nat_lit 828,Kw)::QV P
def Rr(P:IR):VB:=(nat_lit 768,II)::(nat_lit 784,(Hb P))::(nat_lit 785,Hy)::(nat_lit 793,G1)::(nat_lit 794,LC)::QT P
def Rx(P:IR):VB:=(nat_lit 746,Nv)::(nat_lit 747,Hc)::(nat_lit 760,Mb)::(nat_lit 761,GQ)::(nat_lit 767,My)::Rr P
def Rt(P:IR):VB:=(nat_lit 719,zb)::(nat_lit 727,Kh)::(nat_lit 728,Ja)::(nat_lit 732,M4)::(nat_lit 733,MQ)::Rx P
def QQ(P:IR):VB:=(nat_lit 694,yO)::(nat_lit 695,xO)::(nat_lit 701,z0)::(nat_lit 702,xK)::(nat_lit 718,(yy P))::Rt P
def Pb(P:IR):VB:=(nat_lit 660,AL)::(nat_lit 668,zL)::(nat_lit 669,yd)::(nat_lit 682,yx)::(nat_lit 683,zG)::QQ P
def PZ(P:IR):VB:=(nat_lit 644,A4)::(nat_lit 645,yi)::(nat_lit 656,xB)::(nat_lit 657,yf)::(nat_lit 659,(yD P))::Pb P
def QL(P:IR):VB:=(nat_lit 614,zX)::(nat_lit 616,(xZ P))::(nat_lit 617,yG)::(nat_lit 632,Ai)::(nat_lit 633,zq)::PZ P
def Qz(P:IR):VB:=(nat_lit 589,z6)::(nat_lit 590,zT)::(nat_lit 601,zC)::(nat_lit 602,zx)::(nat_lit 613,xQ)::QL P
def Q2(P:IR):VB:=(nat_lit 557,Ap)::(nat_lit 570,zz)::(nat_lit 571,Ad)::(nat_lit 573,(zH P))::(nat_lit 574,xC)::Qz P
def Ph(P:IR):VB:=(nat_lit 530,zJ)::(nat_lit 531,zK)::(nat_lit 544,yB)::(nat_lit 545,zY)::(nat_lit 556,Ah)::Q2 P
def QX(P:IR):VB:=(nat_lit 505,Az)::(nat_lit 518,Bh)::(nat_lit 519,y3)::(nat_lit 521,(AE P))::(nat_lit 522,zk)::Ph P
def Pz(P:IR):VB:=(nat_lit 469,yM)::(nat_lit 470,Ag)::(nat_lit 483,Aq)::(nat_lit 484,AQ)::(nat_lit 504,zi)::QX P
def QF(P:IR):VB:=(nat_lit 441,xA)::(nat_lit 447,z7)::(nat_lit 448,yY)::(nat_lit 462,(yu P))::(nat_lit 463,Am)::Pz P
def Pt(P:IR):VB:=(nat_lit 414,(Ak P))::(nat_lit 415,zM)::(nat_lit 430,zD)::(nat_lit 431,zU)::(nat_lit 440,zh)::QF P
def Pq(P:IR):VB:=(nat_lit 379,yz)::(nat_lit 390,xD)::(nat_lit 391,zS)::(nat_lit 397,Ac)::(nat_lit 398,yb)::Pt P
def QR(P:IR):VB:=(nat_lit 359,zl)::(nat_lit 360,xR)::(nat_lit 362,(AU P))::(nat_lit 363,M7)::(nat_lit 378,z9)::Pq P
def Qk(P:IR):VB:=(nat_lit 304,Ba)::(nat_lit 331,xE)::(nat_lit 332,yh)::(nat_lit 345,yJ)::(nat_lit 346,AV)::QR P
def RV(P:IR):VB:=(nat_lit 285,(A2 P))::(nat_lit 286,Bb)::(nat_lit 287,AS)::(nat_lit 288,y8)::(nat_lit 303,yC)::Qk P
def R5(P:IR):VB:=(nat_lit 255,xJ)::(nat_lit 261,zt)::(nat_lit 262,Bg)::(nat_lit 275,yK)::(nat_lit 276,AI)::RV P
def Sm(P:IR):VB:=(nat_lit 198,Aw)::(nat_lit 199,Ao)::(nat_lit 212,yp)::(nat_lit 213,yQ)::(nat_lit 254,xF)::R5 P
def RW(P:IR):VB:=(nat_lit 180,zF)::(nat_lit 184,yc)::(nat_lit 185,An)::(nat_lit 191,x9)::(nat_lit 192,x8)::Sm P
def RU(P:IR):VB:=(nat_lit 165,zN)::(nat_lit 166,y9)::(nat_lit 172,Af)::(nat_lit 173,yR)::(nat_lit 179,AX)::RW P
def R4(P:IR):VB:=(nat_lit 128,Ax)::(nat_lit 143,zI)::(nat_lit 144,AK)::(nat_lit 146,(yt P))::(nat_lit 147,xY)::RU P
def RM(P:IR):VB:=(nat_lit 103,(xS P))::(nat_lit 104,yF)::(nat_lit 115,(xX P))::(nat_lit 116,zW)::(nat_lit 127,(xP P))::R4 P
def RJ(P:IR):VB:=(nat_lit 68,IT)::(nat_lit 79,(Jc P))::(nat_lit 80,G4)::(nat_lit 91,(IV P))::(nat_lit 92,HA)::RM P
def Gd(P:IR):VB:=(nat_lit 43,(Lu P))::(nat_lit 44,FI)::(nat_lit 55,(G2 P))::(nat_lit 56,Ir)::(nat_lit 67,(GK P))::RJ P
def Sg(P:IR):VB:=(nat_lit 2,o2)::(nat_lit 3,⟨(.type "dict"),none,(.dict (Vr (Mt P)) 99),#[]⟩)::(nat_lit 30,(Kt P))::(nat_lit 31,Ng)::(nat_lit 32,G7)::Gd P
def hKs:IR->VB:=fun P=>Sg P
noncomputable def bT:Bool:=true
noncomputable def bF:Bool:=false
noncomputable def rl:Nat->Bool->List Bool->List Bool
 |0,_,t=>t
 |n+1,b,t=>b::rl n b t
def dm:List Nat->Bool->List Bool->List Bool
 | [],_,t=>t
 |n::r,b,t=>rl n b (dm r (!b) t)
def hM21:List Bool:=dm [5,2,5,2,5,2] bF []
def hM20:List Bool:=dm [5,2,3,2,5,2,5,2,5,2,5,2] bF hM21
def hM19:List Bool:=dm [5,2,5,2,5,2,3,2,5,2,5,2] bF hM20
def hM18:List Bool:=dm [5,2,3,2,5,2,3,2,3,2,5,2] bF hM19
def hM17:List Bool:=dm [3,2,3,2,3,2,3,2,3,2,3,2] bF hM18
def hM16:List Bool:=dm [5,2,3,2,3,2,3,2,5,2,3,2] bF hM17
def hM15:List Bool:=dm [5,2,5,2,5,2,5,2,3,2,5,2] bF hM16
def hM14:List Bool:=dm [5,2,5,2,5,2,5,2,5,2,5,2] bF hM15
def hM13:List Bool:=dm [15,2,7,2,5,2,3,2,5,2,3,2] bF hM14
def hM12:List Bool:=dm [12,2,5,2,15,2,14,2,12,2,5,2] bF hM13
def hM11:List Bool:=dm [5,2,12,2,12,2,5,2,15,2,14,2] bF hM12
def hM10:List Bool:=dm [3,2,12,2,12,2,5,2,15,2,7,2] bF hM11
def hM9:List Bool:=dm [7,2,12,2,10,2,5,2,15,2,7,2] bF hM10
def hM8:List Bool:=dm [10,2,1,2,14,2,10,2,10,2,1,2] bF hM9
def hM7:List Bool:=dm [12,2,10,2,12,2,1,2,14,2,10,2] bF hM8
def hM6:List Bool:=dm [5,2,12,2,19,2,12,2,1,2,7,2] bF hM7
def hM5:List Bool:=dm [5,2,15,2,14,2,8,2,5,2,13,2] bF hM6
def hM4:List Bool:=dm [26,2,12,2,12,2,1,2,14,2,10,2] bF hM5
def hM3:List Bool:=dm [12,2,40,2,5,2,12,2,8,4,14,2] bF hM4
def hM2:List Bool:=dm [17,2,5,2,5,2,3,2,5,2,5,2] bF hM3
def hM1:List Bool:=dm [10,2,10,2,10,2,10,2,14,2,1,2] bF hM2
def hM0:List Bool:=dm [2,2,26,3,10,2,10,2,10,2,10,2] bF hM1
def hM:List Bool:=hM0
def hA:List GM:=i8 hM 0
theorem hAM:hA=i8 hM 0:=rfl
abbrev hX:FB->Bool:=(fun s=>xlAt hQ [] s&&recOk (RowW.records (OpenRow.toRowW (OpenLaw.row PySem.Challenge.rw_countkin_k46_words_and_marks))) s)
theorem hKA:∀P:IR,hA=(hK P).map (·.1):=fun _=>by kernel_rfl
abbrev hH:Hook:=kHook hK hA hKA
def hLook(P:IR)(s:FB):=((staticsOk (importedModules PySem.Challenge.pw_countkin_k46_words_and_marks.main.body) (XI P) s.heap&&namesBound PySem.Challenge.pw_countkin_k46_words_and_marks s.heap&&gensDone s&&laidKept (XI P) s.heap),openSeen hQ hL (importedModules PySem.Challenge.pw_countkin_k46_words_and_marks.main.body) hX true s,eR s.heap.objs.toList hM)
noncomputable def hPreF(w:Tc)(os:Wq):=topGo treeTable PySem.Challenge.pw_countkin_k46_words_and_marks w 11 (some (.ref 6)) 12 ⟨XI w.params,Array.mk [],boot_drawn,boot_toks,os⟩ (topStub PySem.Challenge.pw_countkin_k46_words_and_marks)
def hPreG(w:Tc)(os:Wq):Option (FB×Thread):=some ((hS w os).abs,⟨denote treeTable hC,hC,⟨0,0,0,0⟩,[topFrame ⟨0,0,0,0⟩]⟩)
def hBlkF(w:Tc)(os:Wq):=segRun treeTable PySem.Challenge.pw_countkin_k46_words_and_marks w 11 (some (.ref 6)) 1 1 (hS w os).abs (blockOf hB hE hC ⟨0,0,0,0⟩ [topFrame ⟨0,0,0,0⟩])
def hBlkG(w:Tc)(os:Wq):Option (Flow×FB×Code×Pos):=some (.next,(hS w os).abs,hC,⟨0,0,0,0⟩)
def MX(P:IR):List Ts:=kD P "Floors" 1088 (.ref 719)::[]
def HF(P:IR):List Ts:=kD P "number_figures" 853 (.ref 531)::kD P "Codes" 906 (.ref 574)::kD P "Cars" 959 (.ref 617)::kD P "Trees" 1012 (.ref 660)::kD P "comes_to_0" 1022 (.ref 669)::MX P
def LS(P:IR):List Ts:=kD P "SplitFamily" 648 (.ref 363)::kD P "Bows" 712 (.ref 415)::kD P "Rooms" 768 (.ref 463)::kD P "neighbours" 774 (.ref 470)::kD P "RingFamily" 841 (.ref 522)::HF P
def Hr(P:IR):List Ts:=kD P "GREATEST_SIZE" 411 (.int 40 410)::kD P "shares" 417 (.ref 185)::kD P "by_rule" 426 (.ref 192)::kD P "ring_many" 435 (.ref 199)::kD P "Family" 551 (.ref 286)::LS P
def Ml(P:IR):List Ts:=kD P "raised_by" 374 (.ref 154)::kD P "pairs_raised_by" 380 (.ref 159)::kD P "flat" 389 (.ref 166)::kD P "each_once" 396 (.ref 173)::kD P "any_cross" 407 (.ref 180)::Hr P
def JD(P:IR):List Ts:=kD P "NoWay" 293 (.ref 92)::kD P "Apart" 309 (.ref 104)::kD P "NoMark" 325 (.ref 116)::kD P "NoText" 341 (.ref 128)::kD P "Broken" 366 (.ref 147)::Ml P
def Jt(P:IR):List Ts:=kD P "KinError" 213 (.ref 31)::kD P "NoSize" 229 (.ref 44)::kD P "NoNumber" 245 (.ref 56)::kD P "NoThing" 261 (.ref 68)::kD P "NoFamily" 277 (.ref 80)::JD P
def LX(P:IR):List Ts:=kD P "__annotations__" 170 (.ref 6)::kD P "__builtins__" 171 (.ref 4)::kD P "__file__" 173 (.str "/claim/cut.py" 172)::kD P "__cached__" 174 .none::kD P "_wall" 193 (.ref 21)::Jt P
def J5(P:IR):List Ts:=kD P "__name__" 165 (.str "countkin.floors" 1023)::kD P "__doc__" 166 .none::kD P "__package__" 167 .none::kD P "__loader__" 168 (.builtin "__main__.__loader__#opaque")::kD P "__spec__" 169 .none::LX P
def HY(P:IR):BT:=.node kW (.node (xP P) (.node xJ (kL (kX "unchecked_number" "RingFamily.unchecked_number" 821 212 2 506 826)) .nil) (.node kU (kL (kX "size_of" "Trees.size_of" 981 272 2 634 986)) .nil)) (.node x9 (.node kU (kL ⟨(.type "super"),none,(.fields #[(.ref 574),(.ref 574),(.ref 574)]),#[]⟩) .nil) (.node z7 (kL kU) .nil))
def mZ(P:IR):BT:=.node (kV #[(.ref 31)]) (.node (kF "pairs_raised_by" "pairs_raised_by" (top 14) "countkin.common" 367 158) (.node AS (kL (kG "__init__" "Codes.__init__" (inClass (top 33) 0))) .nil) (.node zM (kL ⟨(.type "builtin_function_or_method"),none,(.fields #[(.builtin "type.__prepare__"),(.type "type")]),#[]⟩) .nil)) (.node (kV #[(.str "self" 470),(.str "thing" 471)]) (.node (kG "number_by_parts" "SplitFamily.number_by_parts" (inClass (top 25) 7)) (kL (kG "code_of" "Cars.code_of" (inClass (top 35) 3))) .nil) (kL kW))
def m9(P:IR):BT:=.node (Jc P) (.node zI (.node kW (kL (kV #[(.str "number" 845),(.str "base" 846),(.str "length" 847),(.str "figures" 848),(.str "rest" 849),(.str "place" 850)])) .nil) (.node kU (kL (kG "of_code" "Trees.of_code" (inClass (top 37) 4))) .nil)) (.node kU (.node (kV #[(.str "self" 607),(.str "thing" 608)]) (kL kU) .nil) (.node Am (kL zb) .nil))
def RX(P:IR):BT:=.node kW (.node kW (.node yC (kL kW) .nil) (.node zU (kL kU) .nil)) (.node (kG "unchecked_number" "Family.unchecked_number" (inClass (top 24) 4)) (.node ⟨(.type "builtin_function_or_method"),none,(.fields #[(.builtin "type.__prepare__"),(.type "type")]),#[]⟩ (kL kU) .nil) (kL kU))
def Sq(P:IR):BT:=.node (kV #[(.ref 31)]) (.node ⟨.none,none,(.fields #[(.int 25 0),(.int 4 0),(.ref 143)]),#[]⟩ (.node kU (kL y3) .nil) (.node zS (kL kW) .nil)) (.node Ao (.node kW (kL (kR 582 579 "countkin.cars" 907)) .nil) (.node (kF "parted" "Rooms.parted" (inClass (top 28) 4) "countkin.bends" 649 454) (kL kW) .nil))
def RI(P:IR):BT:=.node (xS P) (.node kU (.node ⟨.none,none,(.fields #[(.int 107 0),(.int 4 0),(.ref 303),(.int 110 0),(.int 4 0),(.ref 310),(.int 113 0),(.int 4 0),(.ref 317),(.int 116 0),(.int 4 0),(.ref 324),(.int 119 0),(.int 4 0),(.ref 331),(.int 122 0),(.int 4 0),(.ref 338),(.int 125 0),(.int 4 0),(.ref 345),(.int 128 0),(.int 4 0),(.ref 352),(.int 131 0),(.int 4 0),(.ref 359)]),#[]⟩ (kL (kX "size_of" "Codes.size_of" 873 229 2 546 878)) .nil) (.node (kO "Rooms" 715 166 421 422 718) (kL (kV #[(.str "self" 1040)])) .nil)) (.node kU (.node zl (kL kU) .nil) (kL (kV #[(.str "self" 800),(.str "thing" 801)])))
def Sf(P:IR):BT:=.node kW (.node kW (.node (kV #[(.str "self" 537),(.str "thing" 538)]) (kL kU) .nil) (.node kW (kL kU) .nil)) (.node kW (.node kU (kL kW) .nil) (kL (kV #[(.ref 286)])))
def Sz(P:IR):BT:=.node (kV #[(.ref 31)]) (.node (kG "shares" "shares" (top 20)) (.node (kF "bare" "SplitFamily.bare" (inClass (top 25) 1) "countkin.kin" 436 310) (kL (kV #[(.str "self" 898),(.str "code" 899)])) .nil) (.node (kG "is_one" "Rooms.is_one" (inClass (top 28) 2)) (kL xO) .nil)) (.node (kX "unchecked_thing" "Family.unchecked_thing" 491 82 3 242 497) (.node (kV #[(.str "self" 666)]) (kL (kG "__init__" "Trees.__init__" (inClass (top 37) 0))) .nil) (kL (kG "unchecked_many" "RingFamily.unchecked_many" (inClass (top 31) 3))))
def Sd(P:IR):BT:=.node (boot_o_7 P) (.node kU (.node Ng (HY P) (mZ P)) (.node (kV #[(.ref 31)]) (m9 P) (RX P))) (.node ⟨(.type "builtin_function_or_method"),none,(.fields #[(.builtin "type.__prepare__"),(.type "type")]),#[]⟩ (.node kW (Sq P) (RI P)) (.node (G2 P) (Sf P) (Sz P)))
def RP(P:IR):BT:=.node (GK P) (.node (kV #[(.ref 31)]) (.node kU (kL (kV #[(.str "self" 832),(.str "size" 833),(.str "number" 834)])) .nil) (.node kU (kL (kG "is_one" "Trees.is_one" (inClass (top 37) 2))) .nil)) (.node (kV #[(.str "size" 430),(.str "product" 431),(.str "factor" 432)]) (.node (kG "joined" "SplitFamily.joined" (inClass (top 25) 3)) (kL (kE #[kD P "__module__" 916 (.str "countkin.cars" 907),kD P "__qualname__" 918 (.str "Cars" 917),kD P "__firstlineno__" 920 (.int 242 919),kd P "__init__" 927 590,kd P "size_of" 935 597,kd P "is_one" 941 602,kd P "code_of" 949 609,kd P "of_code" 955 614,kd P "__static_attributes__" 956 615] 9)) .nil) (.node (kV #[(.str "self" 754),(.str "thing" 755)]) (kL (kG "parted" "Floors.parted" (inClass (top 40) 4))) .nil))
def Qw(P:IR):BT:=.node kW (.node kU (.node (kV #[(.ref 286)]) (kL kW) .nil) (.node ⟨(.type "builtin_function_or_method"),none,(.fields #[(.builtin "type.__prepare__"),(.type "type")]),#[]⟩ (kL (kO "Floors" 1027 300 673 674 1030)) .nil)) (.node (kF "is_one" "Family.is_one" (inClass (top 24) 2) "countkin.kin" 436 226) (.node kW (kL kW) .nil) (kL Aq))
def QD(P:IR):BT:=.node (kV #[(.ref 31)]) (.node xY (.node yK (kL zK) .nil) (.node (kG "parted" "Bows.parted" (inClass (top 27) 4)) (kL (yD P)) .nil)) (.node (kG "__init__" "Family.__init__" (inClass (top 24) 0)) (.node (kF "unchecked_number" "SplitFamily.unchecked_number" (inClass (top 25) 5) "countkin.kin" 436 338) (kL (kG "size_of" "Cars.size_of" (inClass (top 35) 1))) .nil) (kL kW))
def Qb(P:IR):BT:=.node (xX P) (.node AX (.node (kV #[(.str "self" 575)]) (kL (kX "code_of" "Codes.code_of" 887 236 2 558 892)) .nil) (.node (kY "size_of" "Rooms.size_of" 732 171 2 432 735) (kL kU) .nil)) (.node kW (.node (kO "Bows" 653 144 369 370 656) (kL kU) .nil) (kL kU))
def PR(P:IR):BT:=.node kW (.node kW (.node (kG "number_of" "Family.number_of" (inClass (top 24) 8)) (kL ⟨(.type "super"),none,(.fields #[(.ref 522),(.ref 522),(.ref 522)]),#[]⟩) .nil) (.node kU (kL (kX "code_of" "Trees.code_of" 995 281 2 646 1000)) .nil)) (.node kU (.node xE (kL kU) .nil) (.node (kY "joined" "Rooms.joined" 759 185 3 456 762) (kL (kX "joined" "Floors.joined" 1073 323 3 710 1082)) .nil))
def QI(P:IR):BT:=.node (kV #[(.ref 31)]) (.node (kG "each_once" "each_once" (top 16)) (.node kW (kL (kG "is_one" "Codes.is_one" (inClass (top 33) 2))) .nil) (.node (kV #[(.str "self" 728)]) (kL zG) .nil)) (.node kU (.node (kT "SplitFamily" false [286] [363,286] 362 [415,463,719] 552 560 (some 291)) (kL (kB "object.__init_subclass__" 617)) .nil) (kL (kF "code_of" "RingFamily.code_of" (inClass (top 31) 1) "countkin.ring" 775 490)))
def Rq(P:IR):BT:=.node (IV P) (.node kU (.node (kF "next_of" "Family.next_of" (inClass (top 24) 10) "countkin.kin" 436 282) (kL kU) .nil) (.node (kX "joined" "Bows.joined" 699 163 3 406 706) (kL (kG "comes_to_0" "comes_to_0" (top 38))) .nil)) (.node (kX "size_of" "Family.size_of" 459 70 2 214 464) (.node kU (kL kU) .nil) (kL ⟨.none,none,(.fields #[(.int 200 0),(.int 4 0),(.ref 483),(.int 203 0),(.int 4 0),(.ref 490),(.int 206 0),(.int 4 0),(.ref 497),(.int 209 0),(.int 4 0),(.ref 504),(.int 212 0),(.int 4 0),(.ref 511),(.int 215 0),(.int 4 0),(.ref 518)]),#[]⟩))
def Rh(P:IR):BT:=.node kW (.node kW (.node kU (kL Ad) .nil) (.node kW (kL kU) .nil)) (.node (kV #[(.str "self" 503),(.str "size" 504)]) (.node yz (kL kW) .nil) (kL kW))
def Pp(P:IR):BT:=.node kU (.node (kG "_wall" "_wall" (top 0)) (.node (kV #[(.ref 31)]) (RP P) (Qw P)) (.node kW (QD P) (Qb P))) (.node (kO "KinError" 198 5 25 26 201) (.node (Lu P) (PR P) (QI P)) (.node (kV #[(.ref 31)]) (Rq P) (Rh P)))
def QO(P:IR):BT:=.node (kR 64 61 "countkin.errors" 194) (.node ⟨(.type "super"),none,(.fields #[(.ref 128),(.ref 128),(.ref 128)]),#[]⟩ (.node kW (kL kU) .nil) (.node (kX "size_of" "Bows.size_of" 670 149 2 380 675) (kL kU) .nil)) (.node kU (.node (kV #[(.str "self" 590),(.str "left" 591),(.str "right" 592)]) (kL (kV #[(.ref 522)])) .nil) (.node kU (kL (kV #[(.str "self" 1068),(.str "thing" 1069)])) .nil))
def RB(P:IR):BT:=.node (kE #[kD P "__module__" 301 (.str "countkin.errors" 194),kD P "__qualname__" 303 (.str "Apart" 302),kD P "__firstlineno__" 305 (.int 17 304),kd P "__static_attributes__" 306 102] 4) (.node kW (.node ⟨(.type "super"),none,(.fields #[(.ref 286),(.ref 286),(.ref 286)]),#[]⟩ (kL zY) .nil) (.node (kB "object.__init_subclass__" 415) (kL kU) .nil)) (.node (kG "is_one" "Family.is_one" (inClass (top 24) 2)) (.node (kF "number_by_parts" "SplitFamily.number_by_parts" (inClass (top 25) 7) "countkin.kin" 436 352) (kL (kF "code_of" "Cars.code_of" (inClass (top 35) 3) "countkin.cars" 907 608)) .nil) (kL kU))
def Qr(P:IR):BT:=.node ⟨(.type "super"),none,(.fields #[(.ref 80),(.ref 80),(.ref 80)]),#[]⟩ (.node (kV #[(.str "place" 362)]) (.node kU (kL (kG "number_figures" "number_figures" (top 32))) .nil) (.node (kV #[(.str "self" 694),(.str "thing" 695)]) (kL yf) .nil)) (.node (kV #[(.str "self" 453),(.str "word" 454),(.str "least" 455)]) (.node (kG "unchecked_number" "SplitFamily.unchecked_number" (inClass (top 25) 5)) (kL (kV #[(.str "self" 931),(.str "thing" 932)])) .nil) (.node (kB "object.__init_subclass__" 463) (kL (kB "object.__init_subclass__" 719)) .nil))
def Pe(P:IR):BT:=.node (kR 112 109 "countkin.errors" 194) (.node kU (.node kU (kL kU) .nil) (.node kW (kL (kX "size_of" "Floors.size_of" 1044 305 2 684 1049)) .nil)) (.node (kF "unchecked_number" "Family.unchecked_number" (inClass (top 24) 4) "countkin.kin" 436 240) (.node kU (kL (kO "Trees" 964 267 623 624 967)) .nil) (kL (kX "of_code" "RingFamily.of_code" 805 206 2 492 810)))
def O0(P:IR):BT:=.node (kE #[kD P "__module__" 269 (.str "countkin.errors" 194),kD P "__qualname__" 271 (.str "NoFamily" 270),kD P "__firstlineno__" 273 (.int 13 272),kd P "__static_attributes__" 274 78] 4) (.node (kR 136 133 "countkin.errors" 194) (.node (kV #[(.str "self" 519),(.str "thing" 520)]) (kL (AE P)) .nil) (.node kW (kL kU) .nil)) (.node ⟨(.type "builtin_function_or_method"),none,(.fields #[(.builtin "type.__prepare__"),(.type "type")]),#[]⟩ (.node kU (kL kW) .nil) (.node kW (kL kU) .nil))
def Rl(P:IR):BT:=.node ⟨(.type "super"),none,(.fields #[(.ref 104),(.ref 104),(.ref 104)]),#[]⟩ (.node (kV #[(.str "numbers" 393)]) (.node (kR 296 293 "countkin.kin" 436) (kL kU) .nil) (.node kU (kL (kG "__init__" "Floors.__init__" (inClass (top 40) 0))) .nil)) (.node (kX "unchecked_many" "Family.unchecked_many" 475 76 2 228 480) (.node kU (kL yG) .nil) (kL (kG "code_of" "RingFamily.code_of" (inClass (top 31) 1))))
def Rm(P:IR):BT:=.node (kR 88 85 "countkin.errors" 194) (.node (kY "raised_by" "raised_by" 369 29 2 150 372) (.node (kG "next_of" "Family.next_of" (inClass (top 24) 10)) (kL (kO "Codes" 856 224 535 536 859)) .nil) (.node kU (kL (kV #[(.str "elders" 1016),(.str "knot" 1017),(.str "reached" 1018),(.str "step" 1019)])) .nil)) (.node kU (.node yJ (kL zC) .nil) (kL (kE #[kD P "__module__" 784 (.str "countkin.ring" 775),kD P "__qualname__" 786 (.str "RingFamily" 785),kD P "__firstlineno__" 788 (.int 198 787),kd P "__init__" 796 484,kd P "code_of" 804 491,kd P "of_code" 812 498,kd P "unchecked_many" 820 505,kd P "unchecked_number" 828 512,kd P "unchecked_thing" 837 519,kd P "__static_attributes__" 838 520] 10)))
def Pu(P:IR):BT:=.node (kE #[kD P "__module__" 333 (.str "countkin.errors" 194),kD P "__qualname__" 335 (.str "NoText" 334),kD P "__firstlineno__" 337 (.int 21 336),kd P "__static_attributes__" 338 126] 4) (.node An (.node kW (kL (kG "of_code" "Codes.of_code" (inClass (top 33) 4))) .nil) (.node xA (kL kW) .nil)) (.node kU (.node (kG "__init__" "Bows.__init__" (inClass (top 27) 0)) (kL zq) .nil) (kL Az))
def P2(P:IR):BT:=.node (boot_o_9 P) (.node (kV #[(.str "k" 190)]) (.node ⟨(.type "super"),none,(.fields #[(.ref 31),(.ref 31),(.ref 31)]),#[]⟩ (QO P) (RB P)) (.node (kE #[kD P "__module__" 237 (.str "countkin.errors" 194),kD P "__qualname__" 239 (.str "NoNumber" 238),kD P "__firstlineno__" 241 (.int 9 240),kd P "__static_attributes__" 242 54] 4) (Qr P) (Pe P))) (.node kU (.node (kR 40 37 "countkin.errors" 194) (O0 P) (Rl P)) (.node ⟨(.type "super"),none,(.fields #[(.ref 56),(.ref 56),(.ref 56)]),#[]⟩ (Rm P) (Pu P)))
def Qe(P:IR):BT:=.node ⟨(.type "super"),none,(.fields #[(.ref 68),(.ref 68),(.ref 68)]),#[]⟩ (.node (kE #[kD P "__module__" 349 (.str "countkin.errors" 194),kD P "__qualname__" 351 (.str "Broken" 350),kD P "__firstlineno__" 353 (.int 23 352),kd P "__init__" 361 144,kd P "__static_attributes__" 363 145] 5) (.node zt (kL (kG "unchecked_thing" "RingFamily.unchecked_thing" (inClass (top 31) 5))) .nil) (.node (kG "is_one" "Bows.is_one" (inClass (top 27) 2)) (kL yi) .nil)) (.node (kG "ring_many" "ring_many" (top 22)) (.node (kF "joined" "SplitFamily.joined" (inClass (top 25) 3) "countkin.kin" 436 324) (kL ⟨.none,none,(.fields #[(.int 244 0),(.int 4 0),(.ref 589),(.int 247 0),(.int 4 0),(.ref 596),(.int 250 0),(.int 4 0),(.ref 601),(.int 255 0),(.int 4 0),(.ref 608),(.int 258 0),(.int 4 0),(.ref 613)]),#[]⟩) .nil) (.node (kG "parted" "Rooms.parted" (inClass (top 28) 4)) (kL (kF "parted" "Floors.parted" (inClass (top 40) 4) "countkin.floors" 1023 708)) .nil))
def OW(P:IR):BT:=.node (kR 100 97 "countkin.errors" 194) (.node zN (.node (kE #[kD P "__module__" 559 (.str "countkin.kin" 436),kD P "__qualname__" 561 (.str "SplitFamily" 560),kD P "__firstlineno__" 563 (.int 105 562),kd P "__init__" 571 304,kd P "bare" 578 311,kd P "parted" 586 318,kd P "joined" 595 325,kd P "unchecked_many" 603 332,kd P "unchecked_number" 611 339,kd P "unchecked_thing" 620 346,kd P "number_by_parts" 629 353,kd P "thing_by_parts" 644 360,kd P "__static_attributes__" 645 361] 13) (kL kU) .nil) (.node kU (kL kU) .nil)) (.node kW (.node kU (kL xQ) .nil) (kL kU))
def PB(P:IR):BT:=.node (kE #[kD P "__module__" 285 (.str "countkin.errors" 194),kD P "__qualname__" 287 (.str "NoWay" 286),kD P "__firstlineno__" 289 (.int 15 288),kd P "__static_attributes__" 290 90] 4) (.node (kB "object.__init_subclass__" 147) (.node kU (kL ⟨(.type "builtin_function_or_method"),none,(.fields #[(.builtin "type.__prepare__"),(.type "type")]),#[]⟩) .nil) (.node (kF "parted" "Bows.parted" (inClass (top 27) 4) "countkin.bends" 649 404) (kL ⟨(.type "super"),none,(.fields #[(.ref 660),(.ref 660),(.ref 660)]),#[]⟩) .nil)) (.node yQ (.node kW (kL (kF "size_of" "Cars.size_of" (inClass (top 35) 1) "countkin.cars" 907 596)) .nil) (kL yM))
def O3(P:IR):BT:=.node ⟨(.type "super"),none,(.fields #[(.ref 116),(.ref 116),(.ref 116)]),#[]⟩ (.node kU (.node (kG "bare" "SplitFamily.bare" (inClass (top 25) 1)) (kL kU) .nil) (.node kU (kL (kG "is_one" "Floors.is_one" (inClass (top 40) 2))) .nil)) (.node kU (.node kU (kL (kV #[(.str "self" 977)])) .nil) (kL (kV #[(.str "self" 816),(.str "size" 817)])))
def P5(P:IR):BT:=.node (kR 76 73 "countkin.errors" 194) (.node kU (.node (kF "number_of" "Family.number_of" (inClass (top 24) 8) "countkin.kin" 436 268) (kL kU) .nil) (.node Ac (kL kU) .nil)) (.node (kO "Family" 440 64 203 204 443) (.node kU (kL z6) .nil) (.node kU (kL kU) .nil))
def Qp(P:IR):BT:=.node (kE #[kD P "__module__" 317 (.str "countkin.errors" 194),kD P "__qualname__" 319 (.str "NoMark" 318),kD P "__firstlineno__" 321 (.int 19 320),kd P "__static_attributes__" 322 114] 4) (.node yR (.node kU (kL Ap) .nil) (.node (kG "__init__" "Rooms.__init__" (inClass (top 28) 0)) (kL kW) .nil)) (.node (kV #[(.str "self" 486),(.str "thing" 487)]) (.node (kB "object.__init_subclass__" 363) (kL ⟨(.type "builtin_function_or_method"),none,(.fields #[(.builtin "type.__prepare__"),(.type "type")]),#[]⟩) .nil) (kL kW))
def Po(P:IR):BT:=.node ⟨(.type "super"),none,(.fields #[(.ref 92),(.ref 92),(.ref 92)]),#[]⟩ (.node (kG "pairs_raised_by" "pairs_raised_by" (top 14)) (.node (A2 P) (kL (kV #[(.str "self" 869)])) .nil) (.node kU (kL yd) .nil)) (.node kU (.node (kV #[(.str "self" 624),(.str "counts" 625),(.str "thing" 626)]) (kL (kV #[(.str "self" 945),(.str "thing" 946)])) .nil) (kL (kR 476 473 "countkin.ring" 775)))
def RA(P:IR):BT:=.node (kR 124 121 "countkin.errors" 194) (.node kU (.node (kX "parted" "SplitFamily.parted" 579 113 2 312 584) (kL (zH P)) .nil) (.node kU (kL z0) .nil)) (.node (kG "many" "Family.many" (inClass (top 24) 6)) (.node kW (kL kU) .nil) (kL kU))
def Pw(P:IR):BT:=.node (kO "<module>" 182 1 11 12 185) (.node (kF "_wall" "_wall" (top 0) "__main__" 164 20) (.node (kE #[kD P "__module__" 221 (.str "countkin.errors" 194),kD P "__qualname__" 223 (.str "NoSize" 222),kD P "__firstlineno__" 225 (.int 7 224),kd P "__static_attributes__" 226 42] 4) (Qe P) (OW P)) (.node (kR 52 49 "countkin.errors" 194) (PB P) (O3 P))) (.node kU (.node ⟨(.type "super"),none,(.fields #[(.ref 44),(.ref 44),(.ref 44)]),#[]⟩ (P5 P) (Qp P)) (.node (kE #[kD P "__module__" 253 (.str "countkin.errors" 194),kD P "__qualname__" 255 (.str "NoThing" 254),kD P "__firstlineno__" 257 (.int 11 256),kd P "__static_attributes__" 258 66] 4) (Po P) (RA P)))
def PN(P:IR):BT:=.node (kO "NoThing" 248 11 62 63 251) (.node Ax (.node kU (kL (kF "unchecked_number" "RingFamily.unchecked_number" (inClass (top 31) 4) "countkin.ring" 775 511)) .nil) (.node (kG "size_of" "Bows.size_of" (inClass (top 27) 1)) (kL (kF "size_of" "Trees.size_of" (inClass (top 37) 1) "countkin.elders" 960 639)) .nil)) (.node x8 (.node kW (kL (kB "object.__init_subclass__" 574)) .nil) (.node yY (kL kW) .nil))
def Rk(P:IR):BT:=.node ⟨(.type "builtin_function_or_method"),none,(.fields #[(.builtin "type.__prepare__"),(.type "type")]),#[]⟩ (.node kU (.node y8 (kL yB) .nil) (.node ⟨(.type "super"),none,(.fields #[(.ref 415),(.ref 415),(.ref 415)]),#[]⟩ (kL (kE #[kD P "__module__" 1032 (.str "countkin.floors" 1023),kD P "__qualname__" 1034 (.str "Floors" 1033),kD P "__firstlineno__" 1036 (.int 300 1035),kd P "__init__" 1043 683,kd P "size_of" 1051 690,kd P "is_one" 1057 695,kd P "bare" 1064 702,kd P "parted" 1072 709,kd P "joined" 1084 716,kd P "__static_attributes__" 1085 717] 10)) .nil)) (.node kU (.node (kX "number_by_parts" "SplitFamily.number_by_parts" 621 128 3 347 627) (kL (kX "code_of" "Cars.code_of" 942 255 2 603 947)) .nil) (kL (kV #[(.str "self" 792),(.str "word" 793)])))
def QJ(P:IR):BT:=.node G4 (.node AK (.node (kV #[(.str "self" 527),(.str "size" 528),(.str "number" 529),(.str "most" 530)]) (kL kU) .nil) (.node kW (kL xB) .nil)) (.node kW (.node kU (kL kW) .nil) (.node ⟨(.type "super"),none,(.fields #[(.ref 463),(.ref 463),(.ref 463)]),#[]⟩ (kL ⟨(.type "super"),none,(.fields #[(.ref 719),(.ref 719),(.ref 719)]),#[]⟩) .nil))
def Pg(P:IR):BT:=.node (kO "NoMark" 312 19 110 111 315) (.node (kV #[(.str "pairs" 400),(.str "a" 401),(.str "b" 402),(.str "c" 403),(.str "d" 404)]) (.node Ba (kL (kV #[(.str "self" 890),(.str "thing" 891)])) .nil) (.node kU (kL (kG "size_of" "Floors.size_of" (inClass (top 40) 1))) .nil)) (.node (kX "unchecked_number" "Family.unchecked_number" 483 79 2 235 488) (.node (kE #[kD P "__module__" 658 (.str "countkin.bends" 649),kD P "__qualname__" 660 (.str "Bows" 659),kD P "__firstlineno__" 662 (.int 144 661),kd P "__init__" 669 379,kd P "size_of" 677 386,kd P "is_one" 683 391,kd P "bare" 690 398,kd P "parted" 698 405,kd P "joined" 708 412,kd P "__static_attributes__" 709 413] 10) (kL ⟨.none,none,(.fields #[(.int 269 0),(.int 4 0),(.ref 632),(.int 272 0),(.int 4 0),(.ref 639),(.int 275 0),(.int 4 0),(.ref 644),(.int 281 0),(.int 4 0),(.ref 651),(.int 284 0),(.int 4 0),(.ref 656)]),#[]⟩) .nil) (kL (kG "of_code" "RingFamily.of_code" (inClass (top 31) 2))))
def Rb(P:IR):BT:=.node ⟨(.type "builtin_function_or_method"),none,(.fields #[(.builtin "type.__prepare__"),(.type "type")]),#[]⟩ (.node (kO "Broken" 344 23 134 135 347) (.node kW (kL kU) .nil) (.node kU (kL (kV #[(.str "self" 998),(.str "thing" 999)])) .nil)) (.node kU (.node (kV #[(.str "self" 599),(.str "size" 600)]) (kL kU) .nil) (.node kU (kL (kV #[(.str "self" 1076),(.str "left" 1077),(.str "right" 1078),(.str "third" 1079),(.str "last" 1080),(.str "cuts" 1081)])) .nil))
def QC(P:IR):BT:=.node yF (.node kW (.node (kO "SplitFamily" 554 105 294 295 557) (kL (kF "size_of" "Codes.size_of" (inClass (top 33) 1) "countkin.ring" 775 551)) .nil) (.node (kR 423 420 "countkin.bends" 649) (kL kU) .nil)) (.node (kG "unchecked_many" "Family.unchecked_many" (inClass (top 24) 3)) (.node xR (kL (xZ P)) .nil) (kL kU))
def Qc(P:IR):BT:=.node (kO "NoWay" 280 15 86 87 283) (.node (kG "raised_by" "raised_by" (top 13)) (.node kU (kL ⟨.none,none,(.fields #[(.int 226 0),(.int 4 0),(.ref 544),(.int 229 0),(.int 4 0),(.ref 551),(.int 232 0),(.int 4 0),(.ref 556),(.int 236 0),(.int 4 0),(.ref 563),(.int 239 0),(.int 4 0),(.ref 570)]),#[]⟩) .nil) (.node (kV #[(.str "self" 702),(.str "left" 703),(.str "right" 704),(.str "end" 705)]) (kL kW) .nil)) (.node (kV #[(.str "self" 462),(.str "thing" 463)]) (.node (kG "unchecked_thing" "SplitFamily.unchecked_thing" (inClass (top 25) 6)) (kL (kG "is_one" "Cars.is_one" (inClass (top 35) 2))) .nil) (kL ⟨(.type "builtin_function_or_method"),none,(.fields #[(.builtin "type.__prepare__"),(.type "type")]),#[]⟩))
def P6(P:IR):BT:=.node ⟨(.type "builtin_function_or_method"),none,(.fields #[(.builtin "type.__prepare__"),(.type "type")]),#[]⟩ (.node yc (.node kU (kL kU) .nil) (.node zh (kL kU) .nil)) (.node (kF "unchecked_thing" "Family.unchecked_thing" (inClass (top 24) 5) "countkin.kin" 436 247) (.node kU (kL Ai) .nil) (kL zi))
def Q3(P:IR):BT:=.node (boot_o_8 P) (.node kW (.node G7 (PN P) (Rk P)) (.node ⟨(.type "builtin_function_or_method"),none,(.fields #[(.builtin "type.__prepare__"),(.type "type")]),#[]⟩ (QJ P) (Pg P))) (.node (kE #[kD P "__module__" 203 (.str "countkin.errors" 194),kD P "__qualname__" 205 (.str "KinError" 204),kD P "__firstlineno__" 207 (.int 5 206),kd P "__static_attributes__" 208 29] 4) (.node (kO "NoSize" 216 7 38 39 219) (Rb P) (QC P)) (.node Ir (Qc P) (P6 P)))
def Pc(P:IR):BT:=.node IT (.node ⟨(.type "builtin_function_or_method"),none,(.fields #[(.builtin "type.__prepare__"),(.type "type")]),#[]⟩ (.node (kG "refuse_other" "Family.refuse_other" (inClass (top 24) 7)) (kL kU) .nil) (.node kW (kL A4) .nil)) (.node kU (.node (kX "joined" "SplitFamily.joined" 587 116 3 319 593) (kL kU) .nil) (.node kU (kL (kX "parted" "Floors.parted" 1065 320 2 703 1070)) .nil))
def Pd(P:IR):BT:=.node (kO "Apart" 296 17 98 99 299) (.node (kG "flat" "flat" (top 15)) (.node ⟨(.type "builtin_function_or_method"),none,(.fields #[(.builtin "type.__prepare__"),(.type "type")]),#[]⟩ (kL (kV #[(.str "self" 876),(.str "thing" 877)])) .nil) (.node (kE #[kD P "__module__" 720 (.str "countkin.bends" 649),kD P "__qualname__" 722 (.str "Rooms" 721),kD P "__firstlineno__" 724 (.int 166 723),kd P "__init__" 731 431,kd P "size_of" 737 436,kd P "is_one" 743 441,kd P "bare" 750 448,kd P "parted" 758 455,kd P "joined" 764 460,kd P "__static_attributes__" 765 461] 10) (kL (kR 675 672 "countkin.floors" 1023)) .nil)) (.node kU (.node (kV #[(.str "self" 633),(.str "counts" 634),(.str "size" 635),(.str "number" 636),(.str "left_size" 637),(.str "rest" 638),(.str "right_size" 639),(.str "left" 640),(.str "right" 641)]) (kL (kG "of_code" "Cars.of_code" (inClass (top 35) 4))) .nil) (kL AQ))
def Rn(P:IR):BT:=.node ⟨(.type "builtin_function_or_method"),none,(.fields #[(.builtin "type.__prepare__"),(.type "type")]),#[]⟩ (.node ⟨(.type "super"),none,(.fields #[(.ref 147),(.ref 147),(.ref 147)]),#[]⟩ (.node AI (kL (kV #[(.ref 522)])) .nil) (.node (kX "parted" "Bows.parted" 691 160 2 399 696) (kL AL) .nil)) (.node yp (.node kU (kL (kX "size_of" "Cars.size_of" 928 247 2 591 933)) .nil) (kL (kG "neighbours" "neighbours" (top 29))))
def Pl(P:IR):BT:=.node zW (.node zF (.node kU (kL (kF "code_of" "Codes.code_of" (inClass (top 33) 3) "countkin.ring" 775 563)) .nil) (.node (kF "size_of" "Rooms.size_of" (inClass (top 28) 1) "countkin.bends" 649 435) (kL kW) .nil)) (.node (kV #[(.str "self" 494),(.str "size" 495),(.str "number" 496)]) (.node (kR 371 368 "countkin.bends" 649) (kL kW) .nil) (kL kW))
def O6(P:IR):BT:=.node (kO "NoFamily" 264 13 74 75 267) (.node (kV #[(.str "self" 357),(.str "place" 358)]) (.node (kX "number_of" "Family.number_of" 516 94 2 263 521) (kL (kB "object.__init_subclass__" 522)) .nil) (.node (kG "bare" "Bows.bare" (inClass (top 27) 3)) (kL (kF "code_of" "Trees.code_of" (inClass (top 37) 3) "countkin.elders" 960 651)) .nil)) (.node ⟨.none,none,(.fields #[(.int 66 0),(.int 4 0),(.ref 212),(.int 70 0),(.int 4 0),(.ref 219),(.int 73 0),(.int 4 0),(.ref 226),(.int 76 0),(.int 4 0),(.ref 233),(.int 79 0),(.int 4 0),(.ref 240),(.int 82 0),(.int 4 0),(.ref 247),(.int 85 0),(.int 4 0),(.ref 254),(.int 90 0),(.int 4 0),(.ref 261),(.int 94 0),(.int 4 0),(.ref 268),(.int 97 0),(.int 4 0),(.ref 275),(.int 103 0),(.int 4 0),(.ref 282)]),#[]⟩ (.node yh (kL (kG "__init__" "Cars.__init__" (inClass (top 35) 0))) .nil) (.node (kF "joined" "Rooms.joined" (inClass (top 28) 5) "countkin.bends" 649 459) (kL (kF "joined" "Floors.joined" (inClass (top 40) 5) "countkin.floors" 1023 715)) .nil))
def QW(P:IR):BT:=.node ⟨(.type "builtin_function_or_method"),none,(.fields #[(.builtin "type.__prepare__"),(.type "type")]),#[]⟩ (.node Af (.node (kV #[(.str "self" 567),(.str "word" 568)]) (kL Ah) .nil) (.node kU (kL kU) .nil)) (.node kW (.node ⟨(.type "super"),none,(.fields #[(.ref 363),(.ref 363),(.ref 363)]),#[]⟩ (kL (kV #[(.ref 522)])) .nil) (kL kU))
def PH(P:IR):BT:=.node HA (.node kW (.node (kV #[(.str "least" 542),(.str "word" 543)]) (kL kW) .nil) (.node (kF "joined" "Bows.joined" (inClass (top 27) 5) "countkin.bends" 649 411) (kL zL) .nil)) (.node (kF "size_of" "Family.size_of" (inClass (top 24) 1) "countkin.kin" 436 219) (.node kW (kL kW) .nil) (kL (kO "RingFamily" 779 198 474 475 782)))
def QG(P:IR):BT:=.node (kO "NoText" 328 21 122 123 331) (.node (kV #[(.str "size" 421),(.str "share" 422),(.str "k" 423)]) (.node (kG "parted" "SplitFamily.parted" (inClass (top 25) 2)) (kL kU) .nil) (.node (kV #[(.str "self" 747)]) (kL (kG "bare" "Floors.bare" (inClass (top 40) 3))) .nil)) (.node kU (.node kU (kL (kV #[(.str "self" 984),(.str "thing" 985)])) .nil) (kL (kV #[(.str "self" 824),(.str "thing" 825)])))
def Qh(P:IR):BT:=.node ⟨.none,none,(.fields (Vr ((.int 1 0)::(.int 0 0)::(.ref 20)::(.int 5 0)::(.int 0 0)::(.ref 27)::(.int 7 0)::(.int 0 0)::(.ref 40)::(.int 9 0)::(.int 0 0)::(.ref 52)::(.int 11 0)::(.int 0 0)::(.ref 64)::(.int 13 0)::(.int 0 0)::(.ref 76)::(.int 15 0)::(.int 0 0)::(.ref 88)::(.int 17 0)::(.int 0 0)::(.ref 100)::(.int 19 0)::(.int 0 0)::(.ref 112)::(.int 21 0)::(.int 0 0)::(.ref 124)::(.int 23 0)::(.int 0 0)::(.ref 136)::(.int 29 0)::(.int 0 0)::(.ref 153)::(.int 31 0)::(.int 0 0)::(.ref 158)::(.int 33 0)::(.int 0 0)::(.ref 165)::(.int 38 0)::(.int 0 0)::(.ref 172)::(.int 40 0)::(.int 0 0)::(.ref 179)::(.int 48 0)::(.int 0 0)::(.ref 184)::(.int 53 0)::(.int 0 0)::(.ref 191)::(.int 58 0)::(.int 0 0)::(.ref 198)::(.int 64 0)::(.int 0 0)::(.ref 205)::(.int 105 0)::(.int 0 0)::(.ref 296)::(.int 144 0)::(.int 0 0)::(.ref 371)::(.int 166 0)::(.int 0 0)::(.ref 423)::(.int 195 0)::(.int 0 0)::(.ref 469)::(.int 198 0)::(.int 0 0)::(.ref 476)::(.int 217 0)::(.int 0 0)::(.ref 530)::(.int 224 0)::(.int 0 0)::(.ref 537)::(.int 242 0)::(.int 0 0)::(.ref 582)::(.int 267 0)::(.int 0 0)::(.ref 625)::(.int 293 0)::(.int 0 0)::(.ref 668)::(.int 300 0)::(.int 0 0)::(.ref 675)::[]))),#[]⟩ (.node (kX "_wall" "_wall" 187 1 1 15 191) (.node ⟨(.type "builtin_function_or_method"),none,(.fields #[(.builtin "type.__prepare__"),(.type "type")]),#[]⟩ (Pc P) (Pd P)) (.node (kO "NoNumber" 232 9 50 51 235) (Rn P) (Pl P))) (.node (kR 27 24 "countkin.errors" 194) (.node FI (O6 P) (QW P)) (.node ⟨(.type "builtin_function_or_method"),none,(.fields #[(.builtin "type.__prepare__"),(.type "type")]),#[]⟩ (PH P) (QG P)))
def P1(P:IR):BT:=.node kU (.node (kB "object.__init_subclass__" 128) (.node (kV #[(.str "self" 511),(.str "thing" 512)]) (kL kW) .nil) (.node (kF "size_of" "Bows.size_of" (inClass (top 27) 1) "countkin.bends" 649 385) (kL kW) .nil)) (.node kW (.node kU (kL ⟨(.type "builtin_function_or_method"),none,(.fields #[(.builtin "type.__prepare__"),(.type "type")]),#[]⟩) .nil) (.node kW (kL kU) .nil))
def Qx(P:IR):BT:=.node kU (.node (kV #[(.str "rows" 384),(.str "found" 385),(.str "row" 386)]) (.node (kB "object.__init_subclass__" 286) (kL kU) .nil) (.node (kV #[(.ref 363)]) (kL ⟨.none,none,(.fields #[(.int 302 0),(.int 4 0),(.ref 682),(.int 305 0),(.int 4 0),(.ref 689),(.int 308 0),(.int 4 0),(.ref 694),(.int 317 0),(.int 4 0),(.ref 701),(.int 320 0),(.int 4 0),(.ref 708),(.int 323 0),(.int 4 0),(.ref 715)]),#[]⟩) .nil)) (.node (kX "is_one" "Family.is_one" 467 73 2 221 472) (.node kU (kL kU) .nil) (kL (kG "__init__" "RingFamily.__init__" (inClass (top 31) 0))))
def Px(P:IR):BT:=.node (kB "object.__init_subclass__" 80) (.node (yt P) (.node (kG "thing_of" "Family.thing_of" (inClass (top 24) 9)) (kL zJ) .nil) (.node kU (kL kU) .nil)) (.node kU (.node (kX "unchecked_number" "SplitFamily.unchecked_number" 604 122 2 333 609) (kL kU) .nil) (kL kU))
def O9(P:IR):BT:=.node kU (.node (kG "any_cross" "any_cross" (top 17)) (.node kW (kL (kG "code_of" "Codes.code_of" (inClass (top 33) 3))) .nil) (.node (kG "size_of" "Rooms.size_of" (inClass (top 28) 1)) (kL (kF "size_of" "Floors.size_of" (inClass (top 40) 1) "countkin.floors" 1023 689)) .nil)) (.node kU (.node ⟨.none,none,(.fields #[(.int 146 0),(.int 4 0),(.ref 378),(.int 149 0),(.int 4 0),(.ref 385),(.int 152 0),(.int 4 0),(.ref 390),(.int 157 0),(.int 4 0),(.ref 397),(.int 160 0),(.int 4 0),(.ref 404),(.int 163 0),(.int 4 0),(.ref 411)]),#[]⟩ (kL (kR 625 622 "countkin.elders" 960)) .nil) (kL (kF "of_code" "RingFamily.of_code" (inClass (top 31) 2) "countkin.ring" 775 497)))
def Rz(P:IR):BT:=.node kU (.node kU (.node kU (kL zk) .nil) (.node (kV #[(.str "self" 687)]) (kL (kG "code_of" "Trees.code_of" (inClass (top 37) 3))) .nil)) (.node (kE #[kD P "__module__" 445 (.str "countkin.kin" 436),kD P "__qualname__" 447 (.str "Family" 446),kD P "__firstlineno__" 449 (.int 64 448),kd P "__init__" 458 213,kd P "size_of" 466 220,kd P "is_one" 474 227,kd P "unchecked_many" 482 234,kd P "unchecked_number" 490 241,kd P "unchecked_thing" 499 248,kd P "many" 507 255,kd P "refuse_other" 515 262,kd P "number_of" 523 269,kd P "thing_of" 533 276,kd P "next_of" 541 283,kd P "__static_attributes__" 544 284] 15) (.node (kG "unchecked_many" "SplitFamily.unchecked_many" (inClass (top 25) 4)) (kL (kV #[(.str "self" 924)])) .nil) (.node (kG "joined" "Rooms.joined" (inClass (top 28) 5)) (kL (kG "joined" "Floors.joined" (inClass (top 40) 5))) .nil))
def QZ(P:IR):BT:=.node (kB "object.__init_subclass__" 104) (.node kU (.node kU (kL kW) .nil) (.node kW (kL yx) .nil)) (.node (kF "unchecked_many" "Family.unchecked_many" (inClass (top 24) 3) "countkin.kin" 436 233) (.node (AU P) (kL ⟨(.type "super"),none,(.fields #[(.ref 617),(.ref 617),(.ref 617)]),#[]⟩) .nil) (kL (kX "code_of" "RingFamily.code_of" 797 203 2 485 802)))
def PD(P:IR):BT:=.node kU (.node (kF "raised_by" "raised_by" (top 13) "countkin.common" 367 153) (.node (kX "next_of" "Family.next_of" 534 103 2 277 539) (kL (kR 537 534 "countkin.ring" 775)) .nil) (.node (kG "joined" "Bows.joined" (inClass (top 27) 5)) (kL kU) .nil)) (.node (kG "size_of" "Family.size_of" (inClass (top 24) 1)) (.node AV (kL zx) .nil) (kL kU))
def Qy(P:IR):BT:=.node kU (.node kU (.node (kV #[(.str "self" 582),(.str "thing" 583)]) (kL zz) .nil) (.node kU (kL (kV #[(.str "self" 1061)])) .nil)) (.node kW (.node z9 (kL kU) .nil) (kL kU))
def Pa(P:IR):BT:=.node (boot_o_10 P) (.node kU (.node (kB "object.__init_subclass__" 31) (P1 P) (Qx P)) (.node kU (Px P) (O9 P))) (.node kW (.node kU (Rz P) (QZ P)) (.node (kB "object.__init_subclass__" 56) (PD P) (Qy P)))
def Q1(P:IR):BT:=.node (kB "object.__init_subclass__" 68) (.node kU (.node Bg (kL Bh) .nil) (.node xD (kL kU) .nil)) (.node Aw (.node kU (kL (kO "Cars" 911 242 580 581 914)) .nil) (.node (kX "parted" "Rooms.parted" 751 182 2 449 756) (kL kU) .nil))
def Qq(P:IR):BT:=.node kU (.node y9 (.node kU (kL (kG "size_of" "Codes.size_of" (inClass (top 33) 1))) .nil) (.node ⟨.none,none,(.fields #[(.int 168 0),(.int 4 0),(.ref 430),(.int 171 0),(.int 4 0),(.ref 435),(.int 174 0),(.int 4 0),(.ref 440),(.int 179 0),(.int 4 0),(.ref 447),(.int 182 0),(.int 4 0),(.ref 454),(.int 185 0),(.int 4 0),(.ref 459)]),#[]⟩ (kL kW) .nil)) (.node (kV #[(.str "self" 478),(.str "size" 479)]) (.node (kG "thing_by_parts" "SplitFamily.thing_by_parts" (inClass (top 25) 8)) (kL zX) .nil) (kL kW))
def O7(P:IR):BT:=.node kU (.node kU (.node kW (kL (kE #[kD P "__module__" 861 (.str "countkin.ring" 775),kD P "__qualname__" 863 (.str "Codes" 862),kD P "__firstlineno__" 865 (.int 224 864),kd P "__init__" 872 545,kd P "size_of" 880 552,kd P "is_one" 886 557,kd P "code_of" 894 564,kd P "of_code" 902 571,kd P "__static_attributes__" 903 572] 9)) .nil) (.node kU (kL (kB "object.__init_subclass__" 660)) .nil)) (.node kU (.node (kV #[(.str "self" 615),(.str "size" 616),(.str "number" 617)]) (kL kU) .nil) (kL Ag))
def Ru(P:IR):BT:=.node (kB "object.__init_subclass__" 116) (.node kW (.node (kX "bare" "SplitFamily.bare" 572 110 1 305 576) (kL kW) .nil) (.node kW (kL yO) .nil)) (.node (kG "unchecked_thing" "Family.unchecked_thing" (inClass (top 24) 5)) (.node kW (kL kU) .nil) (kL kU))
def Rv(P:IR):BT:=.node kU (.node (kG "__init__" "Broken.__init__" (inClass (top 11) 0)) (.node kU (kL kW) .nil) (.node yb (kL kW) .nil)) (.node (kR 205 202 "countkin.kin" 436) (.node kW (kL zT) .nil) (.node (yu P) (kL (yy P)) .nil))
def QS(P:IR):BT:=.node kU (.node kU (.node (kG "__init__" "SplitFamily.__init__" (inClass (top 25) 0)) (kL kU) .nil) (.node zD (kL (kV #[(.str "self" 1047),(.str "thing" 1048)])) .nil)) (.node kU (.node (kV #[(.ref 363)]) (kL (kE #[kD P "__module__" 969 (.str "countkin.elders" 960),kD P "__qualname__" 971 (.str "Trees" 970),kD P "__firstlineno__" 973 (.int 267 972),kd P "__init__" 980 633,kd P "size_of" 988 640,kd P "is_one" 994 645,kd P "code_of" 1002 652,kd P "of_code" 1008 657,kd P "__static_attributes__" 1009 658] 9)) .nil) (kL (kV #[(.str "self" 808),(.str "code" 809)])))
def Ra(P:IR):BT:=.node (kB "object.__init_subclass__" 92) (.node (kY "pairs_raised_by" "pairs_raised_by" 375 31 2 155 378) (.node Bb (kL kU) .nil) (.node (Ak P) (kL (kV #[(.ref 363)])) .nil)) (.node kW (.node kU (kL kU) .nil) (kL kU))
def Ri(P:IR):BT:=.node kU (.node (kG "by_rule" "by_rule" (top 21)) (.node (kF "parted" "SplitFamily.parted" (inClass (top 25) 2) "countkin.kin" 436 317) (kL xC) .nil) (.node (kG "bare" "Rooms.bare" (inClass (top 28) 3)) (kL xK) .nil)) (.node xF (.node (kV #[(.str "self" 673),(.str "thing" 674)]) (kL (kG "size_of" "Trees.size_of" (inClass (top 37) 1))) .nil) (kL (kG "unchecked_number" "RingFamily.unchecked_number" (inClass (top 31) 4))))
def QH(P:IR):BT:=.node (kR 13 3 "__main__" 164) (.node (kV #[(.type "ValueError")]) (.node kU (Q1 P) (Qq P)) (.node kU (O7 P) (Ru P))) (.node (Kt P) (.node (kB "object.__init_subclass__" 44) (Rv P) (QS P)) (.node kU (Ra P) (Ri P)))
def hTree2(P:IR):BT:=(.node (boot_o_0 P) (.node (boot_o_1 P) (.node ⟨(.type "dict"),none,(.dict (Vr (J5 P)) 41),#[]⟩ (Sd P) (Pp P)) (.node (boot_o_5 P) (P2 P) (Pw P))) (.node (boot_o_2 P) (.node (boot_o_4 P) (Q3 P) (Qh P)) (.node (boot_o_6 P) (Pa P) (QH P))))
def hS2(w:Tc)(os:Wq):SharedT:=⟨hTree2 w.params,722,({}:Life),Array.mk [],⟨0,0,0,0⟩,1089,os⟩
def hMidF(w:Tc)(os:Wq):=segRunT treeTable PySem.Challenge.pw_countkin_k46_words_and_marks w 11 (some (.ref 6)) 1 6410 (hS w os) (piecesOf (hB.take 41) hE hC ⟨0,0,0,0⟩ [topFrame ⟨0,0,0,0⟩])
def hMidG(w:Tc)(os:Wq):Option (Flow×SharedT×Code×Pos):=some (.next,hS2 w os,hC,⟨300,0,331,39⟩)
def hRunF(w:Tc)(os:Wq):=(segRunT treeTable PySem.Challenge.pw_countkin_k46_words_and_marks w 11 (some (.ref 6)) 1 3316 (hS2 w os) (piecesOf (hB.drop 41) hE hC ⟨300,0,331,39⟩ [topFrame ⟨0,0,0,0⟩])).map (lR treeTable PySem.Challenge.pw_countkin_k46_words_and_marks w 11 (some (.ref 6)) ⟨0,0,0,0⟩ hC 2 (hLook w.params))
def hRunG(w:Tc)(_:Wq):=some (Flow.next,hC,some (true,openGood hQ hL,(hKs w.params).map fun p=>some p.2))
def hSizF(w:Tc):=((XI w.params).isNs mainGlobals&&(Array.mk []:Array VS).size==0,(XI w.params).objs.size,(XI w.params).nsMap mainGlobals "__annotations__")
noncomputable def hSizG(_:Tc):Bool×Nat×Option Do:=(true,11,(some (.ref 6)))
theorem hSeed:(fun _ _ _ _ _ _ _ _ _ _=>true) hPreF hPreG hBlkF hBlkG hRunF hRunG hSizF hSizG hMidF hMidG=true:=by k_qdec
theorem hPre:hPreF=hPreG:=WO PySem.W.Fast.te5317814654954331368 (WO (by kernel_rfl) (Eq.symm PySem.W.Fast.te14277440360295502494))
theorem hBlk:hBlkF=hBlkG:=WO PySem.W.Fast.te2033988648308832629 (WO (by kernel_rfl) (Eq.symm PySem.W.Fast.te1798457917166677164))
theorem hMid:hMidF=hMidG:=WO PySem.W.Fast.te3840733706415240168 (WO (by kernel_rfl) (Eq.symm PySem.W.Fast.te18240272836940206031))
theorem hRun:hRunF=hRunG:=WO PySem.W.Fast.te6412348297585774662 (WO (by kernel_rfl) (Eq.symm PySem.W.Fast.te15447895654253735931))
theorem hSiz:hSizF=hSizG:=WO PySem.W.Fast.te13693962943478796877 (by kernel_rfl)
theorem hLeft:LeftO PySem.Challenge.pw_countkin_k46_words_and_marks hQ hL hX (Hook.obs hH) (Hook.val hH) 19574:=tV (boot_open (by kernel_rfl) (by decide) (fun _=>by kernel_rfl)) (fun w=>congrFun hSiz w) (fun w os=>by obtain⟨e,r,l⟩:=EH (b:=hB) (env:=hE) (L:=hLook w.params) rfl (congrFun (congrFun hPre w) os) (congrFun (congrFun hBlk w) os) (congrFun (congrFun hMid w) os) (congrFun (congrFun hRun w) os);exact⟨e,r,(congrArg (fun z=>(_,_,z)) (Fp hAM e.heap)).trans l⟩) (by decide)
end Ck
open PySem PySem.W PyProof.Rows
set_option maxRecDepth 100000 in
set_option maxHeartbeats 0 in
theorem PySem.Challenge.cw_countkin_k46_words_and_marks_holds : PySem.Challenge.rw_countkin_k46_words_and_marks.Holds := by
 w_on; o_law
 refine holds_open (q:=Ck.hQ) (loose:=Ck.hL) (Xt:=Ck.hX) (XP:=XL Ck.hQ []) (Yf:=Hook.obs (kHook Ck.hK Ck.hA Ck.hKA)) (Ya:=Hook.val (kHook Ck.hK Ck.hA Ck.hKA)) (YP:=Hook.says (kHook Ck.hK Ck.hA Ck.hKA)) (N:=19574) Ck.hLeft (Hook.of (kHook Ck.hK Ck.hA Ck.hKA)) (Hook.keeps (kHook Ck.hK Ck.hA Ck.hKA))
  (fun s e=>xl_of s (Uu.mp e).1) XL.keeps (by rfl) (by rfl) (by rfl) (fun s e=>recFacts_of (Uu.mp e).2) (by rfl) (by first | assumption | decide +kernel) (by decide +kernel) ⟨rfl,rfl,rfl,rfl,rfl,by decide +kernel⟩ ?hw ?hc
 case hw=>w_witness2
 k_fill
 refine Ck.walk (l:=PySem.Challenge.rw_countkin_k46_words_and_marks) rfl rfl (fun w h Y=>W.kIn_of Y) ?F
 case F =>
  intro w mg fa h KX G hmg
  refine' Ck.all_mk KX G hmg ..
  any_goals first | refine' L2.Meth.mk ?_ ?_ ?_ | refine' L2.Cls.mk ?_ ?_ ?_ ?_ | refine' L2.InsT.mk (L2.Cls.mk ?_ ?_ ?_ ?_) ?_ ?_ ?_ ?_ | refine' L2.Mk.mk ?_ ?_ ?_ ?_ | refine' L2.ClsM.mk ?_ ?_ ?_ ?_ | refine' L2.fun_mk ?_ ?_ ?_ | unfold L2.NoAttr | unfold Ck.Gb
  any_goals k_is
  all_goals kernel_rfl
