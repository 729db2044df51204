import PyProof.Rows.All
import Wide.All
import OpenK.AllK
import Wide.FinOn
import Lean
import PyProof.EqAt
import PyProof.EqKinds
import PyProof.TupleCall
import PyProof.CompFree
import PyProof.NeKinds
import KE.IntBitsLaws
import PyProof.Rows.SortRuns
import PyProof.RangeFor
import KE.KSortKey
import PyProof.ListRange
import KE.KListMore
import PyProof.ZipIter
import PyProof.Rows.ZipGen
import PyProof.WalksMore
import PyProof.EnumFor
import PyProof.EnumMake
import PyProof.Rows.TopTwo
import PyProof.Rows.CatchOwn
import PyProof.NsDelKeeps
import PyProof.ExcAttrAll.ValueError
import PyProof.DictDisplay
import KE.KEqDict
import PyProof.Draws
import PyProof.ListStr
import PyProof.StrCalls2
import PyProof.StrOps2
import PyProof.Rows.StrSplitCount
import PyProof.ListNew
import PyProof.Rows.Tup
import PyProof.CollectWalk
import PyProof.WalksS
import PyProof.Rows.SetFrom
import PyProof.Rows.StrInSeq
import PyProof.SetRoads
import PyProof.Rows.TupAdd
import KE.KIntText
import KE.KRevIter
import PyProof.MeetsStr
import PyProof.StrCalls
import PyProof.ListMulRoad
import KE.KDictOf
import PyProof.AttrMiss
import PyProof.IsiH_list
import PyProof.Seq
import PyProof.DictUpdate
import KE.KMinBuiltin
import PyProof.MinMaxWalk
import PyProof.DictWalks
import PyProof.DictItems
import KE.KDictList
import KE.KListLetter
import PyProof.Rows.Range3
import KE.KSortTup
import PyProof.MeetsIn
import KE.KRevSl
import PyProof.Rows.SortStr
import PySem.Challenge.RW_panehouse_k75_whole_ring_once
open Array renaming length_toList → J7, getElem?_toList → Q5, getElem?_eq_getElem → X1, mem_toList_iff → Z4, getElem?_eq_some_iff → ag9, toList_append → ai0, toList_inj → an7, size_reverse → ao4, getElem_reverse → ao5, mem_of_getElem? → ap0
open Array.Perm renaming refl → ap1
open Bool renaming false_and → x8, true_and → y4, false_ne_true → y8, and_eq_true → y9, false_eq_true → E7, eq_iff_iff → M4, true_or → W6, false_or → W7, or_false → aa1, eq_false_iff → ad0, and_false → af4, not_eq_true' → an2
open False renaming elim → C9
open ForInStep renaming yield → W4
open Int renaming toNat_natCast → J9, eq_ofNat_of_zero_le → O3, le_refl → ab7, emod_nonneg → ac5, emod_lt_of_pos → ac6, natCast_add → ak2
open LawfulBEq renaming eq_of_beq → J5
open List renaming length_map → i4, getElem?_eq_getElem → i5, map_append → j6, mem_cons → l6, mem_cons_self → l8, size_toArray → l9, getElem?_map → o0, getElem?_eq_some_iff → r9, map_cons → u6, mem_cons_of_mem → u9, mem_map → w8, range → x6, length_cons → x9, length_take → A0, replicate → A1, length_append → A2, getD_eq_getElem?_getD → A4, mem_singleton → A5, map_map → A7, mem_append → B3, take_length → B5, take_add_one → B7, not_mem_nil → C1, mem_append_right → C3, mem_of_getElem? → C5, all_eq_true → E8, getElem_mem → E9, lookup_cons → F5, length_drop → G2, any_eq_true → G4, mem_filter → G5, nodup_cons → G7, mem_flatten → G9, mem_range → I0, mem_reverse → J6, append_assoc → K0, map_congr_left → K3, filter_append → L7, all_map → N0, flatten_cons → N6, length_singleton → N7, find?_cons → N8, lookup → O9, any_cons → P2, mem_append_left → P6, append_nil → Q0, length → Q2, getElem?_append_right → Q3, all_cons → Q4, length_reverse → Q9, mem_of_mem_take → R0, length_range → R5, length_filter_le → R6, map_nil → T1, range_succ → T7, sum_cons → U2, map_reverse → V1, take_append_drop → V2, getElem?_reverse → V4, replicate_succ → W3, foldl_append → X3, getElem?_eq_none → X6, getElem?_append → X8, pairwise_cons → X9, nodup_nil → Y0, head?_append → Y1, filterMap_cons → Y6, getElem_inj → Y7, of_mem_zip → Z8, getElem?_append_left → Z9, eq_nil_or_concat → ac8, concat_eq_append → ac9, getElem?_set_ne → ad6, mem_filterMap → ad8, reverse_cons → af2, foldl → af3, nil_append → af6, mem_iff_getElem → af7, zipWith → af8, nodup_append → ah5, getElem?_range → ah6, pairwise_map → ah8, append_cancel_left → ai1, mem_of_mem_drop → ai2, reverse_append → aj0, dropLast_concat → aj1, getElem?_inj → aj2, filter_eq_nil_iff → aj3, getElem?_drop → aj4, head?_eq_getElem? → aj5, getElem?_take → ak1, getElem?_set_self → ak6, take_sublist → am1, ext_getElem? → ao9, take_of_length_le → ap5, map_singleton → ap6, pairwise_lt_range → ap9, drop_eq_getElem_cons → aq0, flatten_append → aq1, getLast?_concat → aq2, mem_of_find?_eq_some → aq3, mem_take_iff_getElem → aq4, getElem?_zipWith → aq5, filter_reverse → ar0, head?_reverse → ar1, getLast?_append → ar2, getLast?_eq_getElem? → ar3, reverse_perm → ar4, mem_iff_getElem? → ar7
open List.Pairwise renaming nil → am9, filter → ap8, imp_of_mem → aq6
open Nat renaming le_refl → i6, ne_of_lt → w6, zero_le → x5, lt_of_lt_of_le → A9, lt_irrefl → B6, le_trans → B8, le_of_lt → E5, le_succ → E6, mod_eq_of_lt → F8, ne_of_gt → M2, lt_succ_self → P9, not_lt → Q7, lt_succ_of_lt → T8, zero_add → U1, sub_self → U4, mul_one → V3, le_of_eq → V8, one_mul → Y2, add_comm → aa2, lt_of_le_of_lt → aa3, lt_trans → aa6, min_eq_left → ac4, mod_lt → ad1, add_mod_right → ad3, mod_add_mod → ad4, succ_mul → af5, sub_zero → ag2, strongRecOn → ai5, mod_self → aj7, add_assoc → aj9, mul_add → ak0, pow_le_pow_right → ap7, add_mul_mod_self_left → ar5, add_mul_mod_self_right → ar6
open Ne renaming symm → w9
open Option renaming isSome_map → ag0, some_or → aj6, none_or → aj8, getD_none → am5, toList_some → aq7
open Option.some renaming inj → B1
open Or renaming inl → m9, inr → B9
open PyProof.Rows renaming Keyed → A6, wpS_bind → A8, wpS_pure → C6, SBase → F0, SortSt → F6, IntsAre → G3, IsTup → K5, AllBare → K6, callWith_type1 → M3, K_mirror → N1, wpS_forRange → T9, mirror_size → U0, Subscript_ → W2, wpS_reverse → ab8, mirror_perm → ab9, listUpdate_at → ac0, callWith_builtin1 → ae8, subscriptTail_builtinR → ae9, get?_update_seq → ah7, slot_tuple_getitem → am4, len_tuple → an9
open PyProof.Rows.F renaming plain_set_update_loop → ah3, entry_set_update_loop → ao6
open PySem renaming Value → g7, Shared → g8, wpAny_bind → g9, World → i7, Program → i8, FuncData → i9, Around → j0, wpAny_pure → j8, Scope → j9, Builtin → B4, wpAny_mono → C8, wpAny_Call_Name_kw → G6, sizeLine_eq → J8, isSubtype_type → K1, Paired → K4, wpAny_truthy_bool → K7, wpAny_field → L5, Moved → L6, wpAny_holding → M0, Arguments → M7, call_meets → M9, NameKind → N4, typeLookup_type → N9, builtinLookup_eq_fast → O1, wpAny_of_eq → O2, codeAny_mono → P1, wpAny_specialOf → P3, wpAny_passesOwn → P8, wpAny_rule → Q8, wpAny_pyIter_tuple → R9, BindsTo → S3, typeIs_str → S7, wpAny_newObj_type → T3, wpAny_call_entry → T6, GenState → V5, wpAny_Name → V6, DictEntry → V7, wpAny_call → V9, mem_of_lookup → W1, wpAny_attempt → W8, wpAny_setField → W9, Within → Y5, wpAny_execs_nil → Y8, wpAny_standAt → Y9, wpAny_pyIter_list → Z2, seqIndex_of → aa0, wpAny_pyIter_enum → aa4, tupleKind_room_in1 → aa7, wpAny_isInstance → aa9, wpAny_callSpecial?_slot → ab0, wpAny_updateSeq → ab4, wpAny_seqItems → ab6, wpAny_execs_cons → ad7, frameOf → af9, entryFor_of_tree → ag7, signature?_of → ag8, plainId_quiet → ah1, codeAny_builtin → ah2, wpAny_newFunctionEnv_cells → am3, list_append → am8, wpAny_comprehension_free → an0, wpAny_letOwnedTupleGo_enum → an1
open PySem.Around renaming under → ae4, frames_deeper → am0, under_plainId → ao7
open PySem.AutoSeq1 renaming wpAny_loadPart' → ac3
open PySem.Builtin.Frozenset renaming updateFrom → ao8
open PySem.Builtin.List renaming listExtendWith → P4, listTooLong → S8, listSameRef → ab2, listItems → ab5, listLengthHint → ao1, listFitsIndex → ao2, listUpdate → ao3
open PySem.Builtin.SmallTypes renaming nextOf → ac1, newClass → an8
open PySem.Builtin.Str renaming strSliceIndices → aa8, occurrences → ak8
open PySem.Calls renaming spliced_nil → M5, spliced_cons → M6, callWith_builtin → af0, evalArgs_plain → af1, Name_function_global → ak7
open PySem.Code renaming isFrame → ae5
open PySem.Data renaming fields → Z0, cell → Z1
open PySem.F renaming plainAttrs_list → F1, slot_list_append → O4, type_list_append → O5, called_set → P5, excBase_ValueError → V0, slot_tuple_iterator_next → ac2, plainAttrs_str → ac7, slot_dict_get → ag1, slot_str_split → ag4, entry_str_split → ag5, args_str_split_2 → ag6, slot_str_join → ai3, type_str_join → ai4, slot_list_pop → ai6, type_list_pop → ai7, slot_list_extend → ai8, type_list_extend → ai9, args_list_append_2 → am7, slot_dict_getitem → an4, entry_dict_get → an5, args_dict_get_2 → an6, args_object_init_2 → ao0, entry_tuple_iterator_next → ap3, args_tuple_iterator_next_1 → ap4, slot_list_index → aq8, type_list_index → aq9
open PySem.Heap renaming lt_size → j5, get?_push_of_some → l7, get?_push_size → y6, size_push → G1, get?_update_other → G8, get?_update_self → N5, SameBut → P7, ExtBut → ab1, get?_none_of_le → ak5, get?_push_ne → ap2
open PySem.Heap.DictOf renaming new → an3
open PySem.Heap.SameBut renaming update → X0
open PySem.IsL renaming update → am6
open PySem.Moved renaming trans → X2, refl → ab3
open PySem.NameKind renaming free → B2, cell → T2
open PySem.Obj renaming mapSeq → A3, data_mapFields → Q6, mapFields → W5, isFreed_of_fields → aa5
open PySem.Paired renaming length → Y4
open PySem.PassesOwn renaming never → F7
open PySem.SeqAt renaming EqAt → F4
open PySem.SeqAt.EqAt renaming int_str → ak3, str_int → ak4
open PySem.Shared renaming TypeIs → ah4
open PySem.Str renaming ofString → u5, empty → u7, join → C2, length_append → X7
open PySem.StrLaws renaming join_split → ag3
open PySem.Txt renaming split → B0
open PySem.Value renaming ref → j7, type → C7, none → E4, int → G0, str → O7, bool → R8, float → Y3, builtin → ah0
open PySem.Value.type renaming inj → ah9
open PySem.W renaming Frag → i3, nsIn → u8, mg_of → z9, CodeHd → E3, findIn → F3, mg_none_of → F9, keepIn → J0, kia_one → L1, codeIn → L3, kia_tup → L4, fnOf → M8, emptyDict → N3, instObj → O8, kitOne → P0, codeHdIn → R7, kitAny → T4, kla_fn → X4, tabObj → X5, lookIn → Z3, plainGet → Z5, kitx_list → Z6, kitx_dict → Z7, methodObj → ad5, hasDictIn → ad9, plainGet_of → ae0, isFn → ae1, takerIn → ae2, methodCall_KW → ae3, callWith_K → ae6, cellsFrom_some → ae7, handedIn → ak9, plainOver → al0, makesIn → al1, kitx_none → al2, kitx_bool → al3, kitx_int → al4, kitx_str → al5, kitx_float → al6, kitx_tuple → al7, kitx_own → al8, callWith_K0 → al9, codeRec_of → am2
open Sum renaming inr → i0, inl → O6
open True renaming intro → E2
set_option compiler.extract_closed false
local macro_rules | `(command| #print $s:str)=>do
 let mut a:=#[];let mut n:=0;let mut i:=0
 for c in s.getString.toList do
  let d:=c.toNat;n:=n*85+(d-35-d/65-d/93);i:=i+1
  if i%10==0 then a:=a.push (<-`(def $(Lean.mkIdent (.mkSimple s!"tw{n}")):ident:Unit:=()));n:=0
 return Lean.mkNullNode (a.map (·.raw))
open Lean Parser.Command in
local macro_rules | `(def $i:declId $s:optDeclSig $v:declVal)=>return(<-`(noncomputable def $i:declId $s:optDeclSig $v:declVal)).raw.rewriteBottomUp (·.setInfo .none)
open Lean Parser.Command in
local macro_rules | `(abbrev $i:declId $s:optDeclSig $v:declVal)=>return(<-`(noncomputable abbrev $i:declId $s:optDeclSig $v:declVal)).raw.rewriteBottomUp (·.setInfo .none)
open Lean Parser.Command in
local macro_rules | `(theorem $i:declId $s:declSig $v:declVal)=>do
 if i.raw.getPos?.isNone||i.raw[0].getId.getRoot==`PySem then Macro.throwUnsupported
 return(<-`(theorem $i:declId $s:declSig $v:declVal)).raw.rewriteBottomUp (·.setInfo .none)
local macro_rules | `(tactic| omega) => `(tactic| first | lia | omega (config := {}))
local macro_rules | `(⟨$ts,*⟩) => do
  let mut o : Array (Lean.TSyntax `term) := #[]
  let mut c:=false
  let h ← `(_)
  let r ← `(rfl)
  let k ← `(by decide +kernel)
  for t in ts.getElems do
    let n:=if t.raw.isIdent then t.raw.getId else .anonymous
    if n == `zQa then o := o ++ #[h, r]; c := true
    else if n == `zQb then o := o ++ #[h, h, r, r]; c := true
    else if n == `zQc then o := o ++ #[h, h, h, r, r]; c := true
    else if n == `zQd then o := o.push k; c := true
    else o:=o.push t
  if c then `(⟨$o,*⟩) else Lean.Macro.throwUnsupported
set_option Elab.async false
set_option linter.all false
set_option maxHeartbeats 4000000
set_option maxRecDepth 100000
local macro_rules | `(tactic| exists $e:term) => do
  let i:=Lean.mkIdent
  `(tactic| refine $e (fun $(i `vs) $(i `H) $(i `Q) $(i `E) $(i `h) => ?_) (fun $(i `cdv) $(i `B) $(i `outer) $(i `s) $(i `H) $(i `vs) $(i `Q) $(i `E) $(i `hr) $(i `h) => ?_))
namespace L2
open PySem PySem.Spec PyProof.Rows
abbrev Key:=Sum Int Str
def ww:Key->g7->Bool
 | .inl k,v=>Value.isInt k v
 | .inr x,v=>Value.isStrOf x v
def Qv (w:i7):Key->Int
 | .inl k=>hashInt k
 | .inr x=>hashStr w x
theorem cj:∀ {k:Key} {v:g7},ww k v=true->(∃ i t,k=O6 i/\v=G0 i t)\/(∃ x t,k=i0 x/\v=O7 x t)
 | .inl i,v,h=>by
  obtain⟨t,e⟩:=g7.isInt_shape (k:=i) (v:=v) h;exact .inl ⟨i,t,rfl,e⟩
 | .inr x,v,h=>by
  obtain⟨t,e⟩:=g7.isStrOf_shape (x:=x) (v:=v) h;exact .inr ⟨x,t,rfl,e⟩
theorem Ev(i:Int)(t:Tok):ww (.inl i) (.int i t)=true:=by simp [ww,Value.isInt]
theorem DJ(x:Str)(t:Tok):ww (.inr x) (.str x t)=true:=by simp [ww,Value.isStrOf]
theorem NV(a b:Int):decide ((O6 a:Key)=O6 b)=(a == b):=by
 by_cases e:a=b
 ·subst e; simp
 ·have h:¬ (O6 a:Key)=O6 b:=fun q=>e (O6.inj q)
  rw [decide_eq_false h];exact(beq_eq_false_iff_ne.mpr e).symm
theorem NH(a b:Str):decide ((i0 a:Key)=i0 b)=decide (a=b):=by
 by_cases e:a=b
 ·subst e; simp
 ·have h:¬ (i0 a:Key)=i0 b:=fun q=>e (i0.inj q)
  rw [decide_eq_false h,decide_eq_false e]
theorem MD(a:Int)(b:Str):decide ((O6 a:Key)=i0 b)=false:=decide_eq_false (fun q=>nomatch q)
theorem NS(a:Str)(b:Int):decide ((i0 a:Key)=O6 b)=false:=decide_eq_false (fun q=>nomatch q)
def bJ (prog:i8)(w:i7):PySem.KeyKind prog w Key where
 is:=ww
 hash:=Qv w
 inj:=fun v a b ha hb=>by
  rcases cj ha with ⟨i,t,rfl,rfl⟩ | ⟨x,t,rfl,rfl⟩
  ·rcases cj hb with ⟨j,u,rfl,e⟩ | ⟨y,u,rfl,e⟩
   ·injection e with e1 _; rw [e1]
   ·exact nomatch e
  ·rcases cj hb with ⟨j,u,rfl,e⟩ | ⟨y,u,rfl,e⟩
   ·exact nomatch e
   ·injection e with e1 _; rw [e1]
 byValue:=fun k v h=>by
  rcases cj h with ⟨i,t,rfl,rfl⟩ | ⟨x,t,rfl,rfl⟩ <;> rfl
 pyHash:=fun hv h=>by
  rcases cj hv with ⟨i,t,rfl,rfl⟩ | ⟨x,t,rfl,rfl⟩
  ·exact wpAny_pyHash_int h
  ·exact wpAny_pyHash_str h
 eqBool:=fun hu hv h=>by
  rcases cj hu with ⟨i,t,rfl,rfl⟩ | ⟨x,t,rfl,rfl⟩
  ·rcases cj hv with ⟨j,u,rfl,rfl⟩ | ⟨y,u,rfl,rfl⟩
   ·rw [NV] at h; exact wpAny_eqBool_int h
   ·rw [MD] at h; exact ak3 i t y u _ _ _ _ h
  ·rcases cj hv with ⟨j,u,rfl,rfl⟩ | ⟨y,u,rfl,rfl⟩
   ·rw [NS] at h; exact ak4 x t j u _ _ _ _ h
   ·rw [NH] at h; exact wpAny_eqBool_str h
 «strs» := fun k x t v h=>by
  rcases cj h with ⟨i,u,rfl,e⟩ | ⟨y,u,rfl,e⟩
  ·exact nomatch e
  ·injection e with e1 _
   subst e1;cases v <;> rfl
theorem zW(prog:i8)(w:i7)(i:Int)(t:Tok):(bJ prog w).is (.inl i) (.int i t)=true:=Ev i t
theorem qw(prog:i8)(w:i7)(x:Str)(t:Tok):(bJ prog w).is (.inr x) (.str x t)=true:=DJ x t
inductive V where
 | non | bl (b:Bool) | int (i:Int) | str (x:Str) | byt (b:Array UInt8) | flt (b:UInt64) | ref (a:Addr) | ty (n:String)
 deriving DecidableEq
def bg:V->g7->Prop
 | .non,u=>u=E4
 | .bl b,u=>u=R8 b
 | .int i,u => ∃ t,u=G0 i t
 | .str x,u => ∃ t,u=O7 x t
 | .byt b,u => ∃ t,u=Value.bytes b t
 | .flt b,u => ∃ t,u=Y3 b t
 | .ref a,u=>u=j7 a
 | .ty n,u=>u=C7 n
abbrev aU:List V->List g7->Prop:=K4 bg
theorem aU.length{xs:List V}{us:List g7}(r:aU xs us):xs.length=us.length:=Y4 r
theorem aU.get:∀ {xs:List V} {us:List g7} {i:Nat} {x:V},aU xs us->xs[i]? = some x->∃ u,us[i]? = some u/\bg x u
 | _,_,_,_,.nil,e=>by simp at e
 | _,_,0,_,.cons r _,e=>by simp at e; subst e; exact⟨zQa,r⟩
 | _,_,i + 1,x,.cons _ t,e=>by
  obtain⟨u,h1,h2⟩:=aU.get (i:=i) (x:=x) t (by simpa using e)
  exact⟨u,by simpa using h1,h2⟩
theorem aU.set{x:V}{u:g7}(r:bg x u):∀ {xs:List V} {us:List g7} (i:Nat),aU xs us->aU (xs.set i x) (us.set i u)
 | _,_,_,.nil=>.nil
 | _,_,0,.cons _ t=>.cons r t
 | _,_,i + 1,.cons q t=>.cons q (aU.set r i t)
theorem aU.append:∀ {xs ys:List V} {us ws:List g7},aU xs us->aU ys ws->aU (xs ++ ys) (us ++ ws)
 | _,_,_,_,.nil,s=>s
 | _,_,_,_,.cons r t,s=>.cons r (aU.append t s)
theorem aU.take:∀ {xs:List V} {us:List g7} (n:Nat),aU xs us->aU (xs.take n) (us.take n)
 | _,_,0,_=>.nil
 | _,_,_ + 1,.nil=>.nil
 | _,_,n + 1,.cons r t=>.cons r (aU.take n t)
theorem aU.drop:∀ {xs:List V} {us:List g7} (n:Nat),aU xs us->aU (xs.drop n) (us.drop n)
 | _,_,0,r=>r
 | _,_,_ + 1,.nil=>.nil
 | _,_,n + 1,.cons _ t=>aU.drop n t
def jd:Option V->Option g7->Prop
 | some v,some u=>bg v u
 | none,none=>True
 | _,_=>False
def KV {κ:Type}:List (κ×V)->List (κ×g7)->Prop:=K4 fun(p:κ×V) (q:κ×g7)=>p.1=q.1/\bg p.2 q.2
def kV:Key->V
 | .inl i=>.int i
 | .inr x=>.str x
inductive HO where
 | lst (xs:List V)
 | tup (xs:List V)
 | dK (kvs:List (Key×V)) | dT (kvs:List (List Key×V))
 | set (S:Int->Bool) (n:Nat)
 | ins (C dx:Addr) (fs:List (Str×V))
 | own (x:Addr)
 | xd (fs:List (Str×V))
 | met (f x:Addr)
 | rng (lo hi:Int)
 | frz (o:Obj) (u:HO)
 | tbl (ps:Array g7)
 | ext (φ:Heap->Prop)
abbrev Hp:=Addr->Option HO
def upd (H:Hp)(a:Addr)(o:HO):Hp:=fun b=>if b=a then some o else H b
theorem af{H:Hp}{a:Addr}{o:HO}:upd H a o a=some o:=by unfold upd; rw [if_pos rfl]
theorem am{H:Hp}{a b:Addr}{o:HO}(h:b≠a):upd H a o b=H b:=by unfold upd; rw [if_neg h]
theorem PQ{H:Hp}{a b:Addr}{o u:HO}(h:H a=some o)(h':H b=some u)(d:o≠u):a≠b:=by
 intro e; subst e; rw [h] at h'; exact d (B1 h')
theorem aH{H:Hp}{a b:Addr}{o:HO}(h:H a=some o)(h':H b=none):a≠b:=by
 intro e; subst e; rw [h] at h'; cases h'
section
variable (P:i8) (w:i7)
def bG (H:Hp)(h:Heap)(a:Addr):HO->Prop
 | .lst xs=>xs.length<=sizeLine/\∃(its:List g7) (n:Nat),aU xs its/\h.get? a=some { cls:=.type "list",data:=.seq its.toArray n }
 | .tup xs=>xs.length<=sizeLine/\∃ its:List g7,aU xs its/\K5 h a its.toArray
 | .dK kvs=>kvs.length<=sizeLine/\(a == sysModules)=false/\∃ vs,KV kvs vs/\h.DictOf (bJ P w) a vs
 | .dT kvs=>kvs.length<=sizeLine/\(a == sysModules)=false/\∃ xs:List (List Key×Addr×g7),
   K4 (fun(p:List Key×V) (q:List Key×Addr×g7)=>p.1=q.1/\H q.2.1=some (.tup (p.1.map kV))/\bg p.2 q.2.2) kvs xs /\
   ∃ o es ep,h.get? a=some o/\o.ExactDict/\o.data = .dict es ep/\es.toList=xs.map (entryOfKey (tupleKind (bJ P w)))/\(xs.map (·.1)).Nodup
 | .set S n=>h.SetOf (intKind P w) a S n
 | .ins C dx fs=>H dx=some (.own a)/\fs.length<=1000/\dx≠a/\h.get? a=some (O8 C dx) /\
   ∃ mA,h.Ns1 dx mA/\(∀ f,jd (fs.lookup f) (mA f))/\Y5 mA (fs.map (·.1))
 | .own _ => ∃ o,h.get? a=some o
 | .xd fs => ∃ mA,h.Ns1 a mA/\∀ f,jd (fs.lookup f) (mA f)
 | .rng lo hi => ∃ t u v,h.get? a=some { cls:=.type "range",data:=.fields #[.int lo t,.int hi u,.int 1 v] }
 | .frz o u=>h.get? a=some o/\bG H h a u
 | .tbl ps=>h.get? a=some { cls:=.none,data:=.fields ps }
 | .met f x=>h.get? a=some (ad5 (.ref f) (.ref x))
 | .ext φ=>φ h/\(∃ o,h.get? a=some o)/\∀ h1 h2:Heap,φ h1->(∀ o,h1.get? a=some o->h2.get? a=some o)->φ h2
def HOk (H:Hp)(h:Heap):Prop := ∀ a o,H a=some o->bG P w H h a o
end
section
variable {P:i8} {w:i7} {H H':Hp} {h h':Heap} {a:Addr} {o:HO}
theorem bG.lt(x:bG P w H h a o):a < h.objs.size:=by
 cases o with
 | lst xs=>obtain⟨_,_,_,_,e⟩:=x; exact j5 e
 | tup xs=>obtain⟨_,_,_,p⟩:=x; exact p.lt
 | dK kvs=>obtain⟨_,_,_,_,o,_,_,e,_⟩:=x; exact j5 e
 | dT kvs=>obtain⟨_,_,_,_,o,_,_,e,_⟩:=x; exact j5 e
 | set S n=>obtain⟨o,_,_,_,e,_⟩:=x; exact j5 e
 | ins C dx fs=>obtain⟨_,_,_,e,_⟩:=x; exact j5 e
 | own y=>obtain⟨_,e⟩:=x; exact j5 e
 | xd fs=>obtain⟨_,⟨_,_,_,e,_⟩,_⟩:=x; exact j5 e
 | rng lo hi=>obtain⟨_,_,_,e⟩:=x; exact j5 e
 | frz ob u=>obtain⟨e,_⟩:=x; exact j5 e
 | tbl ps=>exact j5 (show h.get? a=some _ from x)
 | met f y=>exact j5 (show h.get? a=some _ from x)
 | ext φ=>obtain⟨_,⟨_,e⟩,_⟩:=x; exact j5 e
theorem K4.mapP{α β:Type}{F G:α->β->Prop}:∀ {l₁:List α} {l₂:List β},K4 F l₁ l₂->(∀ a b,F a b->G a b)->K4 G l₁ l₂
 | _,_,.nil,_=>.nil
 | _,_,.cons r t,f=>.cons (f _ _ r) (K4.mapP t f)
theorem bG.stay(x:bG P w H h a o)(k:∀ b u,(b=a\/H b=some (.own a))->h.get? b=some u->h'.get? b=some u)
  (ho:∀ b,H b=some (.own a)->H' b=some (.own a)) (ht:∀ b xs,H b=some (.tup xs)->H' b=some (.tup xs)):bG P w H' h' a o:=by
 induction o with
 | lst xs=>obtain⟨z,its,n,r,e⟩:=x; exact⟨z,its,n,r,k _ _ (.inl rfl) e⟩
 | tup xs=>obtain⟨z,its,r,ob,e,c⟩:=x; exact⟨z,its,r,ob,k _ _ (.inl rfl) e,c⟩
 | dK kvs=>obtain⟨z,y,vs,r,ob,es,ep,e,c⟩:=x; exact⟨z,y,vs,r,ob,es,ep,k _ _ (.inl rfl) e,c⟩
 | dT kvs =>
  obtain⟨z,y,xs,r,ob,es,ep,e,c⟩:=x;exact⟨z,y,xs,K4.mapP r fun p q z=>⟨z.1,ht _ _ z.2.1,z.2.2⟩,ob,es,ep,k _ _ (.inl rfl) e,c⟩
 | set S n=>obtain⟨ob,es,ep,t,e,c⟩:=x; exact⟨ob,es,ep,t,k _ _ (.inl rfl) e,c⟩
 | ins C dx fs =>
  obtain⟨d,z,ne,e,mA,⟨od,es,ep,e2,c⟩,r⟩:=x;exact⟨ho _ d,z,ne,k _ _ (.inl rfl) e,mA,⟨od,es,ep,k _ _ (.inr d) e2,c⟩,r⟩
 | own y=>obtain⟨ob,e⟩:=x; exact⟨ob,k _ _ (.inl rfl) e⟩
 | xd fs=>obtain⟨mA,⟨od,es,ep,e,c⟩,r⟩:=x; exact⟨mA,⟨od,es,ep,k _ _ (.inl rfl) e,c⟩,r⟩
 | rng lo hi=>obtain⟨t,u,v,e⟩:=x; exact⟨t,u,v,k _ _ (.inl rfl) e⟩
 | frz ob u ih=>obtain⟨e,q⟩:=x; exact⟨k _ _ (.inl rfl) e,ih q⟩
 | tbl ps =>
  have e:h.get? a=some { cls:=.none,data:=.fields ps }:=x;show h'.get? a=some { cls:=.none,data:=.fields ps };exact k a _ (.inl rfl) e
 | met f y =>
  have e:h.get? a=some (ad5 (.ref f) (.ref y)):=x;show h'.get? a=some (ad5 (.ref f) (.ref y));exact k a _ (.inl rfl) e
 | ext φ=>obtain⟨p,⟨o,e⟩,st⟩:=x; exact⟨st _ _ p fun o q=>k _ _ (.inl rfl) q,⟨o,k _ _ (.inl rfl) e⟩,st⟩
theorem HOk.lt(x:HOk P w H h)(e:H a=some o):a < h.objs.size:=(x a o e).lt
theorem HOk.fresh(x:HOk P w H h)(e:h.objs.size<=a):H a=none:=by
 cases q:H a with
 | none=>rfl
 | some u=>exact absurd (A9 (x.lt q) e) (B6 _)
theorem HOk.kept(x:HOk P w H h)(k:∀ b u,h.get? b=some u->h'.get? b=some u):HOk P w H h':=fun a o e =>
 (x a o e).stay (fun b u _ q=>k b u q) (fun _ q=>q) fun _ _ q=>q
theorem HOk.laid(x:HOk P w H h)(k:∀ b u,h.get? b=some u->h'.get? b=some u)(hp:h.objs.size<=a)(new:bG P w (upd H a o) h' a o):HOk P w (upd H a o) h':=fun b u e=>by
 have hn:=x.fresh hp;by_cases hb:b=a
 ·subst hb; rw [af] at e; cases e; exact new
 ·rw [am hb] at e
  exact(x b u e).stay (fun c v _ q=>k c v q) (fun c q=>by rw [am (aH q hn)]; exact q) fun c xs q=>by rw [am (aH q hn)]; exact q
end
def Rd (H:Hp)(a:Addr)(u:HO):Prop:=H a=some u\/∃ o,H a=some (.frz o u)
theorem Rd.ok{P:i8}{w:i7}{H:Hp}{h:Heap}{a:Addr}{u:HO}(r:Rd H a u)(x:HOk P w H h):bG P w H h a u:=by
 rcases r with r | ⟨o,r⟩
 ·exact x a u r
 ·obtain⟨_,q⟩:=x a _ r
  exact q
def Mut:Option HO->Prop
 | some (.lst _)=>True
 | some (.dK _)=>True
 | some (.dT _)=>True
 | some (.set _ _)=>True
 | some (.ins _ _ _)=>True
 | some (.ext _)=>True
 | _=>False
section
variable {P:i8} {w:i7} {H:Hp} {h h':Heap} {x e:Addr} {o':HO}
theorem HOk.write(ok:HOk P w H h)(mu:Mut (H x))(he:e=x\/H e=some (.own x))(k:∀ b u,b≠e->h.get? b=some u->h'.get? b=some u)(heo:∃ u,h'.get? e=some u)
  (new:bG P w (upd H x o') h' x o'):HOk P w (upd H x o') h':=fun b u q=>by
 have nown:∀ c y,H c=some (.own y)->c≠x:=fun c y r z=>by subst z; rw [r] at mu; exact mu
 have ntup:∀ c xs,H c=some (.tup xs)->c≠x:=fun c xs r z=>by subst z; rw [r] at mu; exact mu
 by_cases hb:b=x
 ·subst hb; rw [af] at q; cases q; exact new
 ·rw [am hb] at q
  by_cases hbe:b=e
  ·have q':H b=some (.own x):=by
    rcases he with z | z
    ·exact absurd (hbe.trans z) hb
    ·rw [hbe]; exact z
   rw [q] at q'; cases q';obtain⟨v,hv⟩:=heo;exact⟨v,by rw [hbe]; exact hv⟩
  ·refine(ok b u q).stay (fun c v hc r=>k c v ?_ r) (fun c r=>by rw [am (nown c b r)]; exact r) fun c xs r=>by rw [am (ntup c xs r)]; exact r
   rcases hc with rfl | hc
   ·exact hbe
   ·rintro rfl
    rcases he with z | z
    ·exact nown c b hc z
    ·rw [hc] at z; cases z; exact hb rfl
end
structure Un(fs ex:List Addr)(H H':Hp)(h h':Heap):Prop where
 keep:∀ b o,h.get? b=some o->H b=none->b ∉ fs->b ∉ ex->h'.get? b=some o
 slot:∀ b o,h.get? b=some o->H b=none->b∈fs->b ∉ ex->∃ sl,h'.get? b=some { o with slots:=sl }
 free:∀ b o,h.get? b=some o->H b=none->b ∉ ex->H' b=none
 there:∀ b o,h.get? b=some o->b ∉ ex->∃ o',h'.get? b=some o'
 tups:∀ b xs,H b=some (.tup xs)->H' b=some (.tup xs)
 frzs:∀ b o u,H b=some (.frz o u)->H' b=some (.frz o u)
 tbls:∀ b ps,H b=some (.tbl ps)->∃ more,H' b=some (.tbl (ps ++ more))
section
variable {fs fs' ex ex':List Addr} {H H1 H2:Hp} {h h1 h2 h':Heap} {a x e:Addr} {o:HO}
theorem Un.any(u:Un fs ex H H1 h h1){b:Addr}{ob:Obj}(q:h.get? b=some ob)(n:H b=none)(hx:b ∉ ex):∃ sl,h1.get? b=some { ob with slots:=sl }:=by
 by_cases hb:b∈fs
 ·exact u.slot b ob q n hb hx
 ·exact⟨ob.slots,u.keep b ob q n hb hx⟩
theorem Un.kept(k:∀ b u,h.get? b=some u->h'.get? b=some u):Un fs ex H H h h' :=
 ⟨fun b ob q _ _ _=>k b ob q,fun b ob q _ _ _=>⟨ob.slots,k b ob q⟩,fun _ _ _ n _=>n,fun b ob q _=>⟨ob,k b ob q⟩,fun _ _ q=>q,fun _ _ _ q=>q,fun _ ps q=>⟨#[],by rw [q]; simp⟩⟩
theorem Un.refl:Un fs ex H H h h:=Un.kept fun _ _ q=>q
theorem Un.laid(k:∀ b u,h.get? b=some u->h'.get? b=some u)(hp:h.objs.size<=a)(hn:H a=none):Un fs ex H (upd H a o) h h' where
 keep:=fun b u q _ _ _=>k b u q
 slot:=fun b u q _ _ _=>⟨u.slots,k b u q⟩
 free:=fun b u q n _=>by rw [am (w6 (A9 (j5 q) hp))]; exact n
 there:=fun b u q _=>⟨u,k b u q⟩
 tups:=fun b xs q=>by rw [am (aH q hn)]; exact q
 frzs:=fun b u xs q=>by rw [am (aH q hn)]; exact q
 tbls:=fun b ps q=>⟨#[],by rw [am (aH q hn),q]; simp⟩
theorem Un.write(mu:Mut (H x))(he:e=x\/H e=some (.own x))(k:∀ b u,b≠e->h.get? b=some u->h'.get? b=some u)(heo:∃ u,h'.get? e=some u):Un fs ex H (upd H x o) h h':=by
 have hx:∀ b,H b=none->b≠x:=fun b n z=>by subst z; rw [n] at mu; exact mu
 have hb:∀ b,H b=none->b≠e:=fun b n z=>by
  subst z;rcases he with r | r
  ·exact hx b n r
  ·rw [n] at r; cases r
 have hm:∀ b u,H b=some u->¬ Mut (some u)->b≠x:=fun b u q nm z=>by subst z; rw [q] at mu; exact nm mu
 refine⟨fun b u q n _ _=>k b u (hb b n) q,fun b u q n _ _=>⟨u.slots,k b u (hb b n) q⟩,fun b u q n _=>by rw [am (hx b n)]; exact n,fun b u q _=>?_,
  fun b xs q=>by rw [am (hm b _ q fun z=>z)]; exact q,fun b u xs q=>by rw [am (hm b _ q fun z=>z)]; exact q,fun b ps q=>⟨#[],by rw [am (hm b _ q fun z=>z),q]; simp⟩⟩
 by_cases hbe:b=e
 ·subst hbe; exact heo
 ·exact⟨u,k b u hbe q⟩
end
def trk (h:Heap)(H:Hp):List Addr:=(x6 h.objs.size).filter fun a=>(H a).isSome
def tE (h:Heap)(H:Hp):Heap:=PySem.W.hideAll h (trk h H)
theorem Eo(h:Heap)(H:Hp):(tE h H).objs.size=h.objs.size:=PySem.W.hideAll_size _ _
theorem HP{h:Heap}{H:Hp}{b:Addr}{o:Obj}(e:h.get? b=some o)(n:H b=none):(tE h H).get? b=some o :=
 PySem.W.hideAll_get _ e fun hm=>by
  have q:(H b).isSome=true:=(G5.mp hm).2;rw [n] at q; simp at q
theorem JP{h:Heap}{H:Hp}{b:Addr}{o:Obj}(e:(tE h H).get? b=some o):h.get? b=some o/\H b=none:=by
 have e':h.get? b=some o:=PySem.W.of_hideAll (trk h H) e;refine⟨e',?_⟩;cases q:H b with
 | none=>rfl
 | some x =>
  have hm:b∈trk h H:=G5.mpr ⟨I0.mpr (j5 e'),by simp [q]⟩
  have z:(tE h H).get? b=none:=PySem.W.hideAll_none (trk h H) hm;rw [z] at e; cases e
def JT (g h:Heap)(L:Addr):List (Addr×Obj):=(x6 h.objs.size).filterMap fun a=>if a=L\/(g.get? a).isSome=true then none else(h.get? a).map fun o=>(a,o)
def di (g h:Heap)(L d:Addr):List (Addr×Obj):=(JT g h L).filter fun p=>decide (p.1≠d)
structure Mod(K:i3)(mg:Str->Option g7)(base:Heap):Prop where
 kin:K.In base
 glob:base.Ns mainGlobals mg
 blt:∃ mb,base.Ns builtinsNs mb/\∀ x:Str,x≠"__name__"->mb x=bootBuiltins x
 nolimit:base.NoLimit
structure Cx where
 prog:i8
 w:i7
 K:i3
 mg:Str->Option g7
 base:Heap
 A:j0
 N:List Str
 s₀:g8
 H₀:Hp
 env:Env
 outer:List Env
 stack:List Env
 ex:List Addr
 fn:Str->Bool
 calm:Bool
 pn:List (Addr×Obj)
 xe:g7->g8->Prop
def frs (l:List Env):List Addr:=l.filterMap (·.frame)
abbrev Cx.fs (X:Cx):List Addr:=frs X.outer
def Vis (sc:j9)(x:Str):Prop:=sc.names.lookup x=some .local\/sc.names.lookup x=some .cell\/sc.names.lookup x=some .free
def Loc (sc:j9)(x:Str):Prop:=sc.names.lookup x=some .local\/sc.names.lookup x=some .cell
def Qx (env:Env)(h:Heap)(m:Str->Option g7)(x:Str)(u:g7):Prop :=
 (env.kindOf x=some .local/\m x=some u)\/((env.kindOf x=some .cell\/env.kindOf x=some .free)/\∃ c,env.cells.lookup x=some c/\h.IsCell c (some u))
structure Cx.Ok(X:Cx):Prop where
 mod:Mod X.K X.mg X.base
 kind:X.env.scope.kind = .function
 glob:X.env.globals=mainGlobals
 blt:X.env.builtins=builtinsNs
 above:X.s₀.heap.objs.size<=X.env.locals
 inj:∀ x y c,X.env.cells.lookup x=some c->X.env.cells.lookup y=some c->x=y
 has:∀ x,(X.env.kindOf x=some .cell\/X.env.kindOf x=some .free)->∃ c,X.env.cells.lookup x=some c
 cab:∀ x c,X.fn x=true->X.env.cells.lookup x=some c->X.s₀.heap.objs.size<=c
 hd:X.calm=true->X.A.handled=none
 frames:X.A.frames=some X.stack
 stk:X.stack=X.outer\/(X.stack=X.env :: X.outer/\X.env.frame=some X.env.locals)
 exf:∀ b∈X.ex,b≠X.env.locals/\∀ x c,X.env.cells.lookup x=some c->c≠b
 bs:∀ b o,X.base.get? b=some o->X.s₀.heap.get? b=some o/\X.H₀ b=none
 bsz:X.base.objs.size<=X.s₀.heap.objs.size
 noex:∀ b o,X.base.get? b=some o->b ∉ X.ex
 exfs:∀ b∈X.ex,b ∉ X.fs
 funs:X.s₀.heap.FunFrames X.base X.outer
 frf:∀ b∈X.fs,X.H₀ b=none
structure Inv(X:Cx)(pins:List (Addr×Obj))(σ:List (Option V))(H:Hp)(s:g8):Prop where
 ok:X.Ok
 os:s.os=X.s₀.os
 bare:K6 s.gens
 base:Un X.fs X.ex X.H₀ H X.s₀.heap s.heap
 loc:∃ m,s.heap.Ns X.env.locals m/\∀(i:Nat) (x:Str) (v:V),X.N[i]? = some x->σ[i]? = some (some v)->Vis X.env.scope x->∃ u,bg v u/\Qx X.env s.heap m x u
 cell:∀ x c,X.env.cells.lookup x=some c->∃ v,s.heap.IsCell c v
 free:H X.env.locals=none
 freeC:∀ x c,X.env.cells.lookup x=some c->H c=none
 pin:∀ p∈X.pn ++ pins,s.heap.get? p.1=some p.2/\H p.1=none/\p.1≠X.env.locals/\p.1 ∉ X.fs/\∀ v,p.2.data≠.cell v
 hok:HOk X.prog X.w H s.heap
 len:σ.length=X.N.length
section
variable {X:Cx} {pins:List (Addr×Obj)} {σ:List (Option V)} {H H':Hp} {s:g8} {h':Heap}
theorem Cx.Ok.nofr(ok:X.Ok){b:Addr}{o:Obj}(e:X.base.get? b=some o):b ∉ X.fs:=fun hb=>by
 have:=(ok.funs.mem hb).1;rw [e] at this; cases this
theorem Inv.bs(I:Inv X pins σ H s):∀ b o,X.base.get? b=some o->s.heap.get? b=some o/\H b=none:=fun b o e =>
 ⟨I.base.keep b o (I.ok.bs b o e).1 (I.ok.bs b o e).2 (I.ok.nofr e) (I.ok.noex b o e),I.base.free b o (I.ok.bs b o e).1 (I.ok.bs b o e).2 (I.ok.noex b o e)⟩
theorem Inv.bk(I:Inv X pins σ H s):∀ b o,X.base.get? b=some o->s.heap.get? b=some o:=fun b o e=>(I.bs b o e).1
theorem Inv.mod(I:Inv X pins σ H s):Mod X.K X.mg X.base:=I.ok.mod
theorem Inv.kIn(I:Inv X pins σ H s):X.K.In s.heap:=I.ok.mod.kin.keeps I.bk
theorem Inv.nolimit(I:Inv X pins σ H s):s.heap.NoLimit:=I.ok.mod.nolimit.keeps I.bk
theorem Inv.fr(I:Inv X pins σ H s):∃ m,Fr X.base X.env.locals s.heap m :=
 let ⟨m,hn,_⟩:=I.loc
 ⟨m,hn,I.bk,B8 I.ok.bsz I.ok.above⟩
theorem Inv.lt(I:Inv X pins σ H s):X.env.locals < s.heap.objs.size:=let ⟨_,hn,_⟩:=I.loc; hn.lt
theorem Inv.sz(I:Inv X pins σ H s):X.s₀.heap.objs.size<=s.heap.objs.size:=B8 I.ok.above (E5 I.lt)
theorem Inv.nofs(I:Inv X pins σ H s){a:Addr}(h:s.heap.objs.size<=a):a ∉ X.fs:=fun hb=>by
 obtain⟨_,o,ho,_⟩:=I.ok.funs.mem hb;exact absurd (A9 (j5 ho) (B8 I.sz h)) (B6 _)
theorem Inv.cne(I:Inv X pins σ H s):∀ x c,X.env.cells.lookup x=some c->c≠X.env.locals:=fun x c e z=>by
 obtain⟨v,o,ho,hd⟩:=I.cell x c e;obtain⟨m,⟨o',es,ep,ho',hd',_⟩,_⟩:=I.loc;rw [z,ho'] at ho; cases ho; rw [hd'] at hd; cases hd
theorem Inv.funs(I:Inv X pins σ H s):s.heap.FunFrames X.base X.outer:=by
 have all:∀(l:List Env),(∀ b∈frs l,b∈X.fs)->X.s₀.heap.FunFrames X.base l->s.heap.FunFrames X.base l:=by
  intro l
  induction l with
  | nil=>intro _ _; trivial
  | cons env r ih =>
   intro hs hl;obtain⟨hk,⟨L,o,hf,hn,ho,hd⟩,hr⟩:=hl;have hL:L∈X.fs:=hs L (by unfold frs; rw [Y6,hf]; exact l8)
   obtain⟨sl,e⟩:=I.base.slot L o ho (I.ok.frf L hL) hL fun z=>I.ok.exfs L z hL;exact⟨hk,⟨L,_,hf,hn,e,hd⟩,ih (fun b hb=>hs b (by unfold frs; rw [Y6,hf]; exact u9 _ hb)) hr⟩
 exact all X.outer (fun _ hb=>hb) I.ok.funs
theorem Inv.stack(I:Inv X pins σ H s):s.heap.FunFrames X.base X.stack:=by
 rcases I.ok.stk with e | ⟨e,hf⟩
 ·rw [e]; exact I.funs
 ·rw [e]
  obtain⟨m,hn,_⟩:=I.loc;refine .cons (by rw [I.ok.kind]; decide) hf hn ?_ I.funs
  exact ak5 (B8 I.ok.bsz I.ok.above)
theorem Inv.stkSub(I:Inv X pins σ H s):∀ b∈frs X.stack,b∈X.env.locals :: X.fs:=fun b hb=>by
 rcases I.ok.stk with e | ⟨e,hf⟩
 ·rw [e] at hb; exact u9 _ hb
 ·rw [e] at hb
  unfold frs at hb;rw [Y6,hf] at hb;exact hb
theorem Inv.stkFree(I:Inv X pins σ H s):∀ b∈frs X.stack,H b=none:=fun b hb=>by
 rcases l6.mp (I.stkSub b hb) with e | hb
 ·rw [e]; exact I.free
 ·obtain⟨_,o,ho,_⟩:=I.ok.funs.mem hb
  exact I.base.free b o ho (I.ok.frf b hb) fun z=>I.ok.exfs b z hb
theorem Inv.step{g':Array V5}{t':Nat}{d':Drawn}{ch:List Addr}(I:Inv X pins σ H s)
  (hch:∀ b∈ch,(b∈X.ex\/X.s₀.heap.objs.size<=b)/\b≠X.env.locals/\(∀ x c,X.env.cells.lookup x=some c->c≠b)/\∀ p∈X.pn ++ pins,p.1≠b)
  (keep:∀ b o,b≠X.env.locals->b ∉ X.fs->b ∉ ch->s.heap.get? b=some o->H b=none->h'.get? b=some o)
  (slot:∀ b o,b≠X.env.locals->b∈X.fs->b ∉ ch->s.heap.get? b=some o->H b=none->∃ sl,h'.get? b=some { o with slots:=sl }) (free:∀ b o,b ∉ ch->s.heap.get? b=some o->H b=none->H' b=none)
  (there:∀ b o,b ∉ ch->s.heap.get? b=some o->∃ o',h'.get? b=some o')
  (tups:∀ b xs,H b=some (.tup xs)->H' b=some (.tup xs)) (frzs:∀ b o u,H b=some (.frz o u)->H' b=some (.frz o u)) (tbls:∀ b ps,H b=some (.tbl ps)->∃ more,H' b=some (.tbl (ps ++ more)))
  (ns:∀ m,s.heap.Ns X.env.locals m->h'.Ns X.env.locals m) (hok:HOk X.prog X.w H' h') (hg:K6 g') :
  Inv X pins σ H' { s with heap:=h',gens:=g',drawn:=d',toks:=t' }:=by
 have neL:∀ b o,X.s₀.heap.get? b=some o->b≠X.env.locals:=fun b o e=>w6 (A9 (j5 e) I.ok.above);have neC:∀ b o,X.s₀.heap.get? b=some o->b ∉ X.ex->b ∉ ch:=fun b o e hx hb=>by
  rcases(hch b hb).1 with z | z
  ·exact hx z
  ·exact absurd (A9 (j5 e) z) (B6 _)
 have cellK:∀ x c,X.env.cells.lookup x=some c->∀ v,s.heap.IsCell c v->h'.IsCell c v:=fun x c e v ⟨o,ho,hd⟩=>by
  have nch:c ∉ ch:=fun z=>(hch c z).2.2.1 x c e rfl;by_cases hc:c∈X.fs
  ·obtain⟨sl,q⟩:=slot c o (I.cne x c e) hc nch ho (I.freeC x c e)
   exact⟨_,q,hd⟩
  ·exact⟨o,keep c o (I.cne x c e) hc nch ho (I.freeC x c e),hd⟩
 refine⟨I.ok,I.os,hg,⟨fun b o e n hb hx=>?_,fun b o e n hb hx=>?_,fun b o e n hx=>?_,fun b o e hx=>?_,fun b xs e=>tups b xs (I.base.tups b xs e),fun b o xs e=>frzs b o xs (I.base.frzs b o xs e),fun b ps e=>?_⟩,?_,fun x c e=>?_,?_,fun x c e=>?_,fun p hp=>?_,hok,I.len⟩
 ·exact keep b o (neL b o e) hb (neC b o e hx) (I.base.keep b o e n hb hx) (I.base.free b o e n hx)
 ·obtain⟨sl,e1⟩:=I.base.slot b o e n hb hx
  obtain⟨sl',e2⟩:=slot b _ (neL b o e) hb (neC b o e hx) e1 (I.base.free b o e n hx);exact⟨sl',e2⟩
 ·obtain⟨o',e1⟩:=I.base.there b o e hx
  exact free b o' (neC b o e hx) e1 (I.base.free b o e n hx)
 ·obtain⟨o',e1⟩:=I.base.there b o e hx
  exact there b o' (neC b o e hx) e1
 ·obtain⟨m1,e1⟩:=I.base.tbls b ps e
  obtain⟨m2,e2⟩:=tbls b _ e1;exact⟨m1 ++ m2,by rw [e2,Array.append_assoc]⟩
 ·obtain⟨m,hn,hl⟩:=I.loc
  refine⟨m,ns m hn,fun i x v e1 e2 e3=>?_⟩;obtain⟨u,r,l⟩:=hl i x v e1 e2 e3;refine⟨u,r,?_⟩;rcases l with l | ⟨k,c,e,z⟩
  ·exact .inl l
  ·exact .inr ⟨k,c,e,cellK x c e _ z⟩
 ·obtain⟨v,z⟩:=I.cell x c e
  exact⟨v,cellK x c e v z⟩
 ·obtain⟨m,⟨o,_,_,ho,_⟩,_⟩:=I.loc
  exact free _ o (fun z=>(hch _ z).2.1 rfl) ho I.free
 ·obtain⟨v,o,ho,hd⟩:=I.cell x c e
  exact free c o (fun z=>(hch c z).2.2.1 x c e rfl) ho (I.freeC x c e)
 ·obtain⟨e,n,ne,nf,d⟩:=I.pin p hp
  have nch:p.1 ∉ ch:=fun z=>(hch p.1 z).2.2.2 p hp rfl;exact⟨keep p.1 p.2 ne nf nch e n,free p.1 p.2 nch e n,ne,nf,d⟩
theorem Inv.un{t':Nat}(I:Inv X pins σ H s)(u:Un X.fs [] H H' s.heap h')(hok:HOk X.prog X.w H' h'):Inv X pins σ H' { s with heap:=h',toks:=t' }:=by
 obtain⟨m,⟨o,es,ep,ho,r⟩,_⟩:=id I.loc;obtain⟨sl,hL⟩:=u.any ho I.free (by simp)
 exact I.step (g':=s.gens) (d':=s.drawn) (ch:=[]) (fun _ z=>nomatch z) (fun b o _ hb _ e n=>u.keep b o e n hb (by simp)) (fun b o _ hb _ e n=>u.slot b o e n hb (by simp)) (fun b o _ e n=>u.free b o e n (by simp)) (fun b o _ e=>u.there b o e (by simp)) u.tups u.frzs u.tbls (fun m' hm=>by
  obtain⟨o',es',ep',ho',r'⟩:=hm;rw [ho] at ho'; cases ho';exact⟨_,es',ep',hL,r'⟩) hok I.bare
theorem Inv.call{g':Array V5}{t':Nat}{d':Drawn}{ch:List Addr}(I:Inv X pins σ H s)(u:Un (frs X.stack) ch H H' s.heap h')(hok:HOk X.prog X.w H' h')(hg:K6 g')
  (hch:∀ b∈ch,(b∈X.ex\/X.s₀.heap.objs.size<=b)/\b≠X.env.locals/\(∀ x c,X.env.cells.lookup x=some c->c≠b)/\∀ p∈X.pn ++ pins,p.1≠b) :
  Inv X pins σ H' { s with heap:=h',gens:=g',drawn:=d',toks:=t' }:=by
 obtain⟨m,⟨o,es,ep,ho,r⟩,_⟩:=id I.loc;obtain⟨sl,hL⟩:=u.any ho I.free fun z=>(hch _ z).2.1 rfl;exact I.step (ch:=ch) hch (fun b o hL hb hc e n=>u.keep b o e n (fun z=>(l6.mp (I.stkSub b z)).elim hL hb) hc) (fun b o _ _ hc e n=>u.any e n hc) (fun b o hc e n=>u.free b o e n hc) (fun b o hc e=>u.there b o e hc) u.tups u.frzs u.tbls (fun m' hm=>by
  obtain⟨o',es',ep',ho',r'⟩:=hm;rw [ho] at ho'; cases ho';exact⟨_,es',ep',hL,r'⟩) hok hg
theorem Inv.turned{t':Nat}{it:Addr}(I:Inv X pins σ H s)(k:∀ b o,b≠it->s.heap.get? b=some o->h'.get? b=some o)(hn:H it=none)(hL:it≠X.env.locals)
  (h1:it∈X.ex\/X.s₀.heap.objs.size<=it) (h2:∀ x c,X.env.cells.lookup x=some c->c≠it) (h3:∀ p∈X.pn ++ pins,p.1≠it):Inv X pins σ H { s with heap:=h',toks:=t' }:=by
 have nit:∀ b u,H b=some u->b≠it:=fun b u e z=>by rw [z,hn] at e; cases e
 refine I.step (g':=s.gens) (d':=s.drawn) (ch:=[it]) (fun b hb=>?_) (fun b o _ _ hc e _=>k b o (fun z=>hc (by simp [z])) e) (fun b o _ _ hc e _=>⟨o.slots,k b o (fun z=>hc (by simp [z])) e⟩) (fun _ _ _ _ n=>n)
  (fun b o hc e=>⟨o,k b o (fun z=>hc (by simp [z])) e⟩) (fun _ _ e=>e) (fun _ _ _ e=>e) (fun b ps e=>⟨#[],by rw [e]; simp⟩) (fun m hm=>?_) (fun b u e=>?_) I.bare
 ·have e:b=it:=by simpa using hb
  subst e;exact⟨h1,hL,h2,h3⟩
 ·obtain⟨o,es,ep,ho,r⟩:=hm
  exact⟨o,es,ep,k _ o (w9 hL) ho,r⟩
 ·refine(I.hok b u e).stay (fun c v hc q=>k c v ?_ q) (fun _ q=>q) fun _ _ q=>q
  rcases hc with z | z
  ·rw [z]; exact nit b u e
  ·exact nit c _ z
theorem Inv.tok(I:Inv X pins σ H s)(t:Nat):Inv X pins σ H { s with toks:=t }:=I.un (h':=s.heap) (t':=t) Un.refl I.hok
theorem Inv.kept{t':Nat}(I:Inv X pins σ H s)(k:∀ b u,s.heap.get? b=some u->h'.get? b=some u):Inv X pins σ H { s with heap:=h',toks:=t' }:=I.un (Un.kept k) (I.hok.kept k)
theorem Inv.laid{a:Addr}{o:HO}{t':Nat}(I:Inv X pins σ H s)(k:∀ b u,s.heap.get? b=some u->h'.get? b=some u)(hp:s.heap.objs.size<=a)(new:bG X.prog X.w (upd H a o) h' a o) :
  Inv X pins σ (upd H a o) { s with heap:=h',toks:=t' }:=I.un (Un.laid k hp (I.hok.fresh hp)) (I.hok.laid k hp new)
theorem Inv.write{x e:Addr}{o:HO}{t':Nat}(I:Inv X pins σ H s)(mu:Mut (H x))(he:e=x\/H e=some (.own x))(k:∀ b u,b≠e->s.heap.get? b=some u->h'.get? b=some u)(heo:∃ u,h'.get? e=some u)
  (new:bG X.prog X.w (upd H x o) h' x o):Inv X pins σ (upd H x o) { s with heap:=h',toks:=t' }:=I.un (Un.write mu he k heo) (I.hok.write mu he k heo new)
theorem Inv.weak{σ':List (Option V)}(I:Inv X pins σ H s)(hl:σ'.length=σ.length)(w:∀(i:Nat) v,σ'[i]? = some (some v)->σ[i]? = some (some v)):Inv X pins σ' H s :=
 ⟨I.ok,I.os,I.bare,I.base,let ⟨m,hn,hl'⟩:=I.loc; ⟨m,hn,fun i x v e1 e2 e3=>hl' i x v e1 (w i v e2) e3⟩,I.cell,I.free,I.freeC,I.pin,I.hok,hl.trans I.len⟩
theorem Inv.pins_of{pins':List (Addr×Obj)}(I:Inv X pins σ H s)(h:∀ p∈pins',s.heap.get? p.1=some p.2/\H p.1=none/\p.1≠X.env.locals/\p.1 ∉ X.fs/\∀ v,p.2.data≠.cell v):Inv X pins' σ H s :=
 ⟨I.ok,I.os,I.bare,I.base,I.loc,I.cell,I.free,I.freeC,fun p hp=>(B3.mp hp).elim (fun z=>I.pin p (P6 _ z)) (h p),I.hok,I.len⟩
theorem zu{N:List Str}(hN:N.Nodup){i j:Nat}{x:Str}(a:N[i]? = some x)(b:N[j]? = some x):i=j:=by
 obtain⟨h1,e1⟩:=r9.mp a;obtain⟨h2,e2⟩:=r9.mp b;exact(Y7 hN).mp (e1.trans e2.symm)
theorem vX{M:Model}{A:j0}{E:g7->g8->Prop}{i:Nat}{x:Str}{v:V}{u:g7}{Q:Unit->g8->Prop}(I:Inv X pins σ H s)(hN:X.N.Nodup)(hi:X.N[i]? = some x)(hx:Loc X.env.scope x)(r:bg v u)
  (h:∀ s',Inv X pins (σ.set i (some v)) H s'->(∃ a,P7 a s.heap s'.heap/\(a=X.env.locals\/X.env.cells.lookup x=some a))->Q () s') (hf:X.fn x=true\/X.env.scope.names.lookup x=some .local:=by first | exact .inl rfl | exact .inr rfl | assumption):wpAny M A (storeName X.env x u) Q E s:=by
 obtain⟨m,hn,hl⟩:=id I.loc;have hcls:(X.env.scope.kind == .class || (X.env.scope.kind == .module && X.env.locals != X.env.globals))=false:=by rw [I.ok.kind]; rfl
 have hiσ:i < σ.length:=by rw [I.len]; exact(r9.mp hi).1
 have cne:=I.cne;have tracked:∀ {a:Addr} {h':Heap},(∃ o,s.heap.get? a=some o/\H a=none)->P7 a s.heap h'->HOk X.prog X.w H h':=fun {a h'} ha hs b ob e=>by
  obtain⟨_,_,hfree⟩:=ha;refine(I.hok b ob e).stay (fun c w' hc q=>(hs.2 c ?_).trans q) (fun _ q=>q) fun _ _ q=>q;rintro rfl;rcases hc with rfl | hc
  ·rw [hfree] at e; cases e
  ·rw [hfree] at hc; cases hc
 rcases hx with hk | hk
 ·refine wpAny_storeName_local hk hn (fun h' hn' hs=>?_) hcls
  obtain⟨oL,_,_,hoL,_⟩:=id hn;refine h _ ⟨I.ok,I.os,I.bare,⟨fun b o e n hb hx=>?_,fun b o e n hb hx=>?_,I.base.free,fun b o e hx=>?_,I.base.tups,I.base.frzs,I.base.tbls⟩,⟨_,hn',fun j y v' e1 e2 e3=>?_⟩,fun y c e=>?_,I.free,I.freeC,fun p hp=>?_,tracked ⟨oL,hoL,I.free⟩ hs,by simpa using I.len⟩ ⟨_,hs,.inl rfl⟩
  ·exact(hs.2 b (w6 (A9 (j5 e) I.ok.above))).trans (I.base.keep b o e n hb hx)
  ·obtain⟨sl,e1⟩:=I.base.slot b o e n hb hx
   exact⟨sl,(hs.2 b (w6 (A9 (j5 e) I.ok.above))).trans e1⟩
  ·obtain⟨o',e1⟩:=I.base.there b o e hx
   exact⟨o',(hs.2 b (w6 (A9 (j5 e) I.ok.above))).trans e1⟩
  ·by_cases hj:j=i
   ·subst hj
    rw [hi] at e1; cases e1;rw [ak6 hiσ] at e2;cases e2;exact⟨u,r,.inl ⟨hk,by simp⟩⟩
   ·rw [ad6 (w9 hj)] at e2
    obtain⟨u',r',q⟩:=hl j y v' e1 e2 e3;refine⟨u',r',?_⟩;rcases q with ⟨k,e⟩ | ⟨k,c,e,z⟩
    ·refine .inl ⟨k,?_⟩
     have:y≠x:=fun e=>hj (zu hN e1 (e ▸ hi))
     simp [this,e]
    ·exact .inr ⟨k,c,e,z.sameBut hs (cne y c e)⟩
  ·obtain⟨w',z⟩:=I.cell y c e
   exact⟨w',z.sameBut hs (cne y c e)⟩
  ·obtain⟨e,n,ne,nf,d⟩:=I.pin p hp
   exact⟨(hs.2 p.1 ne).trans e,n,ne,nf,d⟩
 ·have hfn:X.fn x=true:=by
   rcases hf with z | z
   ·exact z
   ·rw [z] at hk; cases hk
  obtain⟨c,hc⟩:=I.ok.has x (.inl hk);obtain⟨w',z⟩:=I.cell x c hc;refine wpAny_storeName_cell I.ok.kind hk hc z (fun h' hc' hs=>?_);obtain⟨oc,hoc,hocd⟩:=id z;refine h { s with heap:=h' } ⟨I.ok,I.os,I.bare,⟨fun b o e n hb hx=>?_,fun b o e n hb hx=>?_,I.base.free,fun b o e hx=>?_,I.base.tups,I.base.frzs,I.base.tbls⟩,⟨m,hn.sameBut hs (w9 (cne x c hc)),fun j y v' e1 e2 e3=>?_⟩,fun y c' e=>?_,I.free,I.freeC,fun p hp=>?_,tracked ⟨oc,hoc,I.freeC x c hc⟩ hs,by simpa using I.len⟩ ⟨c,hs,.inr hc⟩
  ·exact(hs.2 b (w6 (A9 (j5 e) (I.ok.cab x c hfn hc)))).trans (I.base.keep b o e n hb hx)
  ·obtain⟨sl,e1⟩:=I.base.slot b o e n hb hx
   exact⟨sl,(hs.2 b (w6 (A9 (j5 e) (I.ok.cab x c hfn hc)))).trans e1⟩
  ·obtain⟨o',e1⟩:=I.base.there b o e hx
   exact⟨o',(hs.2 b (w6 (A9 (j5 e) (I.ok.cab x c hfn hc)))).trans e1⟩
  ·by_cases hj:j=i
   ·subst hj
    rw [hi] at e1; cases e1;rw [ak6 hiσ] at e2;cases e2;exact⟨u,r,.inr ⟨.inl hk,c,hc,hc'⟩⟩
   ·rw [ad6 (w9 hj)] at e2
    obtain⟨u',r',q⟩:=hl j y v' e1 e2 e3;refine⟨u',r',?_⟩;rcases q with q | ⟨k,c',e,z'⟩
    ·exact .inl q
    ·refine .inr ⟨k,c',e,z'.sameBut hs ?_⟩
     rintro rfl;exact hj (zu hN e1 (I.ok.inj _ _ _ e hc ▸ hi))
  ·by_cases hcc:c'=c
   ·subst hcc; exact⟨_,hc'⟩
   ·obtain⟨w2,z2⟩:=I.cell y c' e
    exact⟨w2,z2.sameBut hs hcc⟩
  ·obtain⟨e,n,ne,nf,d⟩:=I.pin p hp
   refine⟨(hs.2 p.1 ?_).trans e,n,ne,nf,d⟩;intro q;rw [q,hoc] at e;have q':oc=p.2:=B1 e;exact d w' (by rw [<- q']; exact hocd)
theorem yJ{M:Model}{A:j0}{E:g7->g8->Prop}{i:Nat}{x:Str}{v:V}{u:g7}{Q:Unit->g8->Prop}(I:Inv X pins σ H s)(hN:X.N.Nodup)(hi:X.N[i]? = some x)(hx:Loc X.env.scope x)(r:bg v u)
  (h:∀ s',Inv X pins (σ.set i (some v)) H s'->Q () s') (hf:X.fn x=true\/X.env.scope.names.lookup x=some .local:=by first | exact .inl rfl | exact .inr rfl | assumption):wpAny M A (storeName X.env x u) Q E s :=
 vX I hN hi hx r (fun s' I' _=>h s' I') hf
theorem Inv.call'{s':g8}{ch:List Addr}(I:Inv X pins σ H s)(ho:s'.os=s.os)(u:Un (frs X.stack) ch H H' s.heap s'.heap)(hok:HOk X.prog X.w H' s'.heap)(hg:K6 s'.gens)
  (hch:∀ b∈ch,(b∈X.ex\/X.s₀.heap.objs.size<=b)/\b≠X.env.locals/\(∀ x c,X.env.cells.lookup x=some c->c≠b)/\∀ p∈X.pn ++ pins,p.1≠b):Inv X pins σ H' s':=by
 obtain⟨h',g',d',t',o'⟩:=s';have e:o'=s.os:=ho;subst e;exact I.call (g':=g') (t':=t') (d':=d') u hok hg hch
end
abbrev XK:=g7->Option Addr->Hp->Prop
abbrev St:=List (Option V)
abbrev VK:=V->Hp->Prop
abbrev TE:=St->Hp->VK->Prop
abbrev TT:=St->Hp->(Bool->Hp->Prop)->Prop
abbrev TA:=St->Hp->(List V->Hp->Prop)->Prop
structure Ends where
 nx:St->Hp->Prop
 rt:VK
 bk:St->Hp->Prop:=fun _ _=>False
 ct:St->Hp->Prop:=fun _ _=>False
abbrev TS:=Ends->St->Hp->Prop
def EP (X:Cx)(pins:List (Addr×Obj))(σ:St)(Q:VK)(u:g7)(s':g8):Prop := ∃ v H',Inv X pins σ H' s'/\bg v u/\Q v H'
def TP (X:Cx)(pins:List (Addr×Obj))(σ:St)(Q:Bool->Hp->Prop)(b:Bool)(s':g8):Prop := ∃ H',Inv X pins σ H' s'/\Q b H'
def AP (X:Cx)(pins:List (Addr×Obj))(σ:St)(Q:List V->Hp->Prop)(us:List g7)(s':g8):Prop := ∃ vs H',Inv X pins σ H' s'/\aU vs us/\Q vs H'
def SP (X:Cx)(pins:List (Addr×Obj))(D:Ends)(f:Flow)(s':g8):Prop :=
 match f with
 | .next => ∃ σ' H',Inv X pins σ' H' s'/\D.nx σ' H'
 | .brk => ∃ σ' H',Inv X pins σ' H' s'/\D.bk σ' H'
 | .cont => ∃ σ' H',Inv X pins σ' H' s'/\D.ct σ' H'
 | .ret u => ∃ v σ' H',Inv X pins σ' H' s'/\bg v u/\D.rt v H'
def PE (X:Cx)(e:Expr)(t:TE):Prop :=
 ∀(pins:List (Addr×Obj)) (s:g8) (σ:St) (H:Hp) (Q:VK),Inv X pins σ H s->t σ H Q->wpAny (model X.prog X.w) X.A (eval e X.env) (EP X pins σ Q) X.xe s
def PT (X:Cx)(e:Expr)(t:TT):Prop :=
 ∀(pins:List (Addr×Obj)) (s:g8) (σ:St) (H:Hp) (Q:Bool->Hp->Prop),Inv X pins σ H s->t σ H Q->wpAny (model X.prog X.w) X.A (isTrue e X.env (eval e X.env)) (TP X pins σ Q) X.xe s
def PW (X:Cx)(e:Expr)(t:TT):Prop :=
 ∀(whole:Sem g7) (pins:List (Addr×Obj)) (s:g8) (σ:St) (H:Hp) (Q:Bool->Hp->Prop),Inv X pins σ H s->t σ H Q->wpAny (model X.prog X.w) X.A (isTrue e X.env whole) (TP X pins σ Q) X.xe s
theorem PW.pt{X:Cx}{e:Expr}{t:TT}(h:PW X e t):PT X e t:=h _
def PA (X:Cx)(es:List Expr)(t:TA):Prop :=
 ∀(pos:Pos) (pins:List (Addr×Obj)) (s:g8) (σ:St) (H:Hp) (Q:List V->Hp->Prop),Inv X pins σ H s->t σ H Q->wpAny (model X.prog X.w) X.A (spliced (backTo pos (starEach es X.env))) (AP X pins σ Q) X.xe s
def PS (X:Cx)(st:Stmt)(t:TS):Prop :=
 ∀(pins:List (Addr×Obj)) (s:g8) (σ:St) (H:Hp) (D:Ends),Inv X pins σ H s->t D σ H->wpAny (model X.prog X.w) X.A (exec st X.env) (SP X pins D) X.xe s
def PSs (X:Cx)(st:List Stmt)(t:TS):Prop :=
 ∀(pins:List (Addr×Obj)) (s:g8) (σ:St) (H:Hp) (D:Ends),Inv X pins σ H s->t D σ H->wpAny (model X.prog X.w) X.A (execs st X.env) (SP X pins D) X.xe s
theorem thn{α:Type}{t:Sem α}{Q Q':α->g8->Prop}{M:Model}{A:j0}{E:g7->g8->Prop}{s:g8}(h:wpAny M A t Q E s)(hQ:∀ a s,Q a s->Q' a s):wpAny M A t Q' E s:=C8 h hQ fun _ _ x=>x
section
variable {X:Cx}
theorem bin{a b:Expr}{ta tb:TE}(ha:PE X a ta)(hb:PE X b tb){pins:List (Addr×Obj)}{s:g8}{σ:St}{H:Hp}{R:V->V->Hp->Prop}(I:Inv X pins σ H s)(h:ta σ H fun x H1=>tb σ H1 fun y H2=>R x y H2)
  {α:Type} {Q:α->g8->Prop} {f:g7->g7->Sem α}
  (hf:∀ v u s2 x y H2,Inv X pins σ H2 s2->bg x v->bg y u->R x y H2->wpAny (model X.prog X.w) X.A (f v u) Q X.xe s2) :
  wpAny (model X.prog X.w) X.A (eval a X.env) (fun v s₁=>wpAny (model X.prog X.w) X.A (eval b X.env) (fun u s₂=>wpAny (model X.prog X.w) X.A (f v u) Q X.xe s₂) X.xe s₁) X.xe s:=by
 refine thn (ha pins s σ H _ I h) fun v s1 ⟨x,H1,I1,r1,q1⟩=>?_;refine thn (hb pins s1 σ H1 _ I1 q1) fun u s2 ⟨y,H2,I2,r2,q2⟩=>?_;exact hf v u s2 x y H2 I2 r1 r2 q2
def BQ (i:Nat):TE:=fun σ H Q => ∃ v,σ[i]? = some (some v)/\Q v H
def tC (v:V):TE:=fun _ H Q=>Q v H
theorem Ng{i:Nat}{x:Str}{pos:Pos}(hN:X.N[i]? = some x)(hv:Vis X.env.scope x)(hd:(x == ("__debug__" : Str))=false:=by decide)(hcd:(x == ("__classdict__" : Str))=false:=by decide):PE X (.Name x pos) (BQ i):=by
 intro pins s σ H Q I h;obtain⟨v,e,h⟩:=h;obtain⟨m,hn,hl⟩:=I.loc;obtain⟨u,r,l⟩:=hl i x v hN e hv;have fin:EP X pins σ Q u s:=⟨v,H,I,r,h⟩;rcases l with ⟨hk,hm⟩ | ⟨hk,c,hc,hcell⟩
 ·exact V6 (wpAny_loadName_local I.ok.kind hk hn hm fin) hd
 ·rcases hk with hk | hk
  ·exact V6 (wpAny_loadName_cell I.ok.kind hk hc hcell fin) hd
  ·exact V6 (wpAny_loadName_free I.ok.kind hk hc hcell fin hcd) hd
theorem ag{i j pos}:PE X (.Constant (.int i) j pos) (tC (.int i)):=fun _ _ _ H _ I h=>wpAny_Constant_int ⟨.int i,H,I.tok _,⟨zQa⟩,h⟩
theorem dW{b j pos}:PE X (.Constant (.bool b) j pos) (tC (.bl b)):=fun _ _ _ H _ I h=>Constant_bool ⟨.bl b,H,I,rfl,h⟩
theorem nN{j pos}:PE X (.Constant .none j pos) (tC .non):=fun _ _ _ H _ I h=>Constant_none ⟨.non,H,I,rfl,h⟩
theorem ap{x j pos}:PE X (.Constant (.str x) j pos) (tC (.str x)):=fun _ _ _ H _ I h=>Calls.Constant_str ⟨.str x,H,I.tok _,⟨zQa⟩,h⟩
def Gl (X:Cx)(x:Str):Prop:=X.env.kindOf x=some .globalImplicit
theorem nX{E:g7->g8->Prop}{pins:List (Addr×Obj)}{s:g8}{σ:St}{H:Hp}{x:Str}{u:g7}{pos:Pos}{Q:g7->g8->Prop}(I:Inv X pins σ H s)(hg:Gl X x)(hm:X.mg x=some u)(h:Q u s)
  (hd:(x == ("__debug__" : Str))=false:=by decide):wpAny (model X.prog X.w) X.A (eval (.Name x pos) X.env) Q E s :=
 ak7 I.ok.kind hg (Calls.loadGlobal_global (by rw [I.ok.glob]; exact I.mod.glob.keeps I.bk) hm h) hd
theorem dE{E:g7->g8->Prop}{pins:List (Addr×Obj)}{s:g8}{σ:St}{H:Hp}{x:Str}{u:g7}{pos:Pos}{Q:g7->g8->Prop}(I:Inv X pins σ H s)(hg:Gl X x)(hm:X.mg x=none)(hv:bootBuiltins x=some u)(h:Q u s)
  (hn:x≠"__name__" := by decide) (hd:(x == ("__debug__" : Str))=false:=by decide):wpAny (model X.prog X.w) X.A (eval (.Name x pos) X.env) Q E s:=by
 obtain⟨mb,h1,h2⟩:=I.mod.blt;exact ak7 I.ok.kind hg (Calls.loadGlobal_builtin (by rw [I.ok.glob]; exact I.mod.glob.keeps I.bk) hm (by rw [I.ok.blt]; exact h1.keeps I.bk) ((h2 x hn).trans hv) h) hd
theorem bi{x:Str}{v:V}{u:g7}{pos:Pos}(hg:Gl X x)(hm:X.mg x=some u)(r:bg v u)(hd:(x == ("__debug__" : Str))=false:=by decide):PE X (.Name x pos) (tC v) :=
 fun _ _ _ H _ I h=>nX I hg hm ⟨v,H,I,r,h⟩ hd
theorem bL{x:Str}{v:V}{u:g7}{pos:Pos}(hg:Gl X x)(hm:X.mg x=none)(hv:bootBuiltins x=some u)(r:bg v u)(hn:x≠"__name__" := by decide)(hd:(x == ("__debug__" : Str))=false:=by decide):PE X (.Name x pos) (tC v) :=
 fun _ _ _ H _ I h=>dE I hg hm hv ⟨v,H,I,r,h⟩ hn hd
variable {a b:Expr} {ta tb:TE} {pos:Pos}
def PC (X:Cx)(op:CmpOp)(a b:Expr)(t:TE):Prop :=
 ∀(pins:List (Addr×Obj)) (s:g8) (σ:St) (H:Hp) (Q:VK),Inv X pins σ H s->t σ H Q ->
  wpAny (model X.prog X.w) X.A (eval a X.env) (fun v s₁=>wpAny (model X.prog X.w) X.A (eval b X.env) (fun u s₂=>wpAny (model X.prog X.w) X.A (compareOp op v u) (EP X pins σ Q) X.xe s₂) X.xe s₁) X.xe s
def tB (t:TE):TT:=fun σ H Q=>t σ H fun x H1 => ∃ c,x = .bl c/\Q c H1
theorem MZ{op:CmpOp}{t:TE}(h:PC X op a b t)(h1:behindInMarks op b=false:=by first | exact nobehind _ (by decide) (by decide) | rfl):PT X (.Compare a [op] [b] pos) (tB t):=by
 intro pins s σ H Q I hw;refine wpAny_isTrue_Compare1 (thn (h pins s σ H _ I hw) fun v s1 h1=>thn h1 fun u s2 h2=>thn h2 fun c s3 ⟨x,H1,I1,r1,q1⟩=>?_) h1;obtain⟨d,rfl,q⟩:=q1;cases r1;exact K7 ⟨H1,I1,q⟩
theorem bS{e:Expr}{t:TE}(h:PE X e t)(he:∀ whole,isTrue e X.env whole=(do let v <- whole; standAt e.pos; holding [v] (truthy v)):=by intro _; rfl):PT X e (tB t):=by
 intro pins s σ H Q I hw;refine isTrue_plain (thn (h pins s σ H _ I hw) fun v s1 ⟨x,H1,I1,r1,q1⟩=>?_) (he _);obtain⟨d,rfl,q⟩:=q1;cases r1;exact K7 ⟨H1,I1,q⟩
variable {tA tB':TT} {di:List Expr}
def Qp (t u:TT):TT:=fun σ H Q=>t σ H fun c H1=>if c=true then u σ H1 Q else Q false H1
def tOr (t u:TT):TT:=fun σ H Q=>t σ H fun c H1=>if c=true then Q true H1 else u σ H1 Q
def Qz (t:TT):TT:=fun σ H Q=>t σ H fun c H1=>Q (!c) H1
theorem xx(ha:PT X a tA):PW X (.BoolOp .And [a] pos) tA:=by
 intro wh pins s σ H Q I h;refine isTrue_and (thn (ha pins s σ H Q I h) fun c s1 e=>?_);cases c with
 | true=>exact isTrue_and_nil e
 | false=>exact e
theorem dY(ha:PT X a tA):PW X (.BoolOp .Or [a] pos) tA:=by
 intro wh pins s σ H Q I h;refine isTrue_or (thn (ha pins s σ H Q I h) fun c s1 e=>?_);cases c with
 | false=>exact isTrue_or_nil e
 | true=>exact e
theorem Be(ha:PT X a tA)(hb:PW X (.BoolOp .And (b :: di) pos) tB'):PW X (.BoolOp .And (a :: b :: di) pos) (Qp tA tB'):=by
 intro wh pins s σ H Q I h;refine isTrue_and (thn (ha pins s σ H _ I h) fun c s1 ⟨H1,I1,q1⟩=>?_);cases c with
 | true=>exact hb wh pins s1 σ H1 Q I1 q1
 | false=>exact⟨H1,I1,q1⟩
theorem gp(ha:PT X a tA)(hb:PW X (.BoolOp .Or (b :: di) pos) tB'):PW X (.BoolOp .Or (a :: b :: di) pos) (tOr tA tB'):=by
 intro wh pins s σ H Q I h;refine isTrue_or (thn (ha pins s σ H _ I h) fun c s1 ⟨H1,I1,q1⟩=>?_);cases c with
 | true=>exact⟨H1,I1,q1⟩
 | false=>exact hb wh pins s1 σ H1 Q I1 q1
theorem ca(ha:PT X a tA):PT X (.UnaryOp .Not a pos) (Qz tA):=by
 intro pins s σ H Q I h;exact isTrue_not (ha pins s σ H (fun c H1=>Q (!c) H1) I h)
def KO (ta tb:TE):TE:=fun σ H Q=>ta σ H fun x H1 => ∃ c,x = .bl c/\if c=true then tb σ H1 Q else Q (.bl false) H1
def Qr (ta tb:TE):TE:=fun σ H Q=>ta σ H fun x H1 => ∃ c,x = .bl c/\if c=true then Q (.bl true) H1 else tb σ H1 Q
def Qm (ta:TE):TE:=fun σ H Q=>ta σ H fun x H1 => ∃ c,x = .bl c/\Q (.bl (!c)) H1
theorem cz{op}{t:TE}(h:PE X a t):PE X (.BoolOp op [a] pos) t:=fun pins s σ H Q I hw=>BoolOp_one (h pins s σ H Q I hw)
theorem cu(ha:PE X a ta)(hb:PE X (.BoolOp .And (b :: di) pos) tb):PE X (.BoolOp .And (a :: b :: di) pos) (KO ta tb):=by
 intro pins s σ H Q I h;refine BoolOp_and (thn (ha pins s σ H _ I h) fun v s1 ⟨x,H1,I1,r1,q1⟩=>?_);obtain⟨c,rfl,q1⟩:=q1;cases r1;refine K7 ?_;cases c with
 | true=>exact hb pins s1 σ H1 Q I1 q1
 | false=>exact⟨.bl false,H1,I1,rfl,q1⟩
theorem KF(ha:PE X a ta)(hb:PE X (.BoolOp .Or (b :: di) pos) tb):PE X (.BoolOp .Or (a :: b :: di) pos) (Qr ta tb):=by
 intro pins s σ H Q I h;refine BoolOp_or (thn (ha pins s σ H _ I h) fun v s1 ⟨x,H1,I1,r1,q1⟩=>?_);obtain⟨c,rfl,q1⟩:=q1;cases r1;refine K7 ?_;cases c with
 | false=>exact hb pins s1 σ H1 Q I1 q1
 | true=>exact⟨.bl true,H1,I1,rfl,q1⟩
theorem NJ(ha:PE X a ta):PE X (.UnaryOp .Not a pos) (Qm ta):=by
 intro pins s σ H Q I h;refine UnaryOp_ (thn (ha pins s σ H _ I h) fun v s1 ⟨x,H1,I1,r1,q1⟩=>?_);obtain⟨c,rfl,q1⟩:=q1;cases r1;exact not_of (K7 ⟨.bl (!c),H1,I1,rfl,q1⟩)
def tIf (t:TT)(ta tb:TE):TE:=fun σ H Q=>t σ H fun c H1=>if c=true then ta σ H1 Q else tb σ H1 Q
theorem tZ{c:Expr}(hc:PT X c tA)(ha:PE X a ta)(hb:PE X b tb):PE X (.IfExp c a b pos) (tIf tA ta tb):=by
 intro pins s σ H Q I h;refine wpAny_IfExp (thn (hc pins s σ H _ I h) fun d s1 ⟨H1,I1,q1⟩=>?_);cases d with
 | true=>exact ha pins s1 σ H1 Q I1 q1
 | false=>exact hb pins s1 σ H1 Q I1 q1
end
def SqL (K:i3)(H:Hp)(a:Addr)(xs:List V):Prop :=
 Rd H a (.lst xs) \/
  ∃(o:Obj) (its:Array g7) (n:Nat),K.lookup a=some o/\o.cls = .type "list"/\o.dict=none/\o.data = .seq its n/\its.size<=sizeLine/\aU xs its.toList
def SqT (K:i3)(H:Hp)(a:Addr)(xs:List V):Prop :=
 Rd H a (.tup xs) \/
  ∃(o:Obj) (its:Array g7) (n:Nat),K.lookup a=some o/\o.cls = .type "tuple"/\o.data = .seq its n/\its.size<=sizeLine/\aU xs its.toList
def QI:g7->Option V
 | .none=>some .non
 | .bool b=>some (.bl b)
 | .int i _=>some (.int i)
 | .str x _=>some (.str x)
 | .bytes b _=>some (.byt b)
 | .float b _=>some (.flt b)
 | .ref a=>some (.ref a)
 | .type n=>some (.ty n)
 | _=>none
theorem bg.abs{x:V}{u:g7}(r:bg x u):QI u=some x:=by
 cases x with
 | non=>cases r; rfl
 | bl _=>cases r; rfl
 | int _=>obtain⟨t,rfl⟩:=r; rfl
 | str _=>obtain⟨t,rfl⟩:=r; rfl
 | byt _=>obtain⟨t,rfl⟩:=r; rfl
 | flt _=>obtain⟨t,rfl⟩:=r; rfl
 | ref _=>cases r; rfl
 | ty _=>cases r; rfl
theorem bg.inj{x y:V}{u:g7}(r:bg x u)(q:bg y u):x=y:=B1 (r.abs.symm.trans q.abs)
theorem aU.inj:∀ {xs ys:List V} {us:List g7},aU xs us->aU ys us->xs=ys
 | _,_,_,.nil,.nil=>rfl
 | _,_,_,.cons r t,.cons r' t'=>by rw [r.inj r',aU.inj t t']
section
variable {X:Cx} {pins:List (Addr×Obj)} {σ:St} {H:Hp} {s:g8} {a:Addr} {xs ys:List V}
theorem SqL.of{K:i3}(h:H a=some (.lst xs)):SqL K H a xs:=.inl (.inl h)
theorem SqT.of{K:i3}(h:H a=some (.tup xs)):SqT K H a xs:=.inl (.inl h)
theorem Inv.list(I:Inv X pins σ H s)(h:SqL X.K H a xs):∃ its:List g7,aU xs its/\PlainL s.heap a its.toArray/\xs.length<=sizeLine:=by
 rcases h with h | ⟨o,its,n,hk,hc,hd,hs,hz,r⟩
 ·obtain⟨z,its,n,r,e⟩:=h.ok I.hok
  exact⟨its,r,⟨_,n,e,rfl,rfl,rfl⟩,z⟩
 ·refine⟨its.toList,r,⟨o,n,I.kIn a o hk,hc,hd,by simpa using hs⟩,?_⟩
  have e:=r.length;simp only [J7] at e
  omega
theorem Inv.tuple(I:Inv X pins σ H s)(h:SqT X.K H a xs):∃ its:List g7,aU xs its/\K5 s.heap a its.toArray/\xs.length<=sizeLine:=by
 rcases h with h | ⟨o,its,n,hk,hc,hs,hz,r⟩
 ·obtain⟨z,its,r,p⟩:=h.ok I.hok
  exact⟨its,r,p,z⟩
 ·refine⟨its.toList,r,⟨o,I.kIn a o hk,hc,n,by simpa using hs⟩,?_⟩
  have e:=r.length;simp only [J7] at e
  omega
theorem Inv.list_inj(I:Inv X pins σ H s)(h:SqL X.K H a xs)(h':SqL X.K H a ys):xs=ys:=by
 obtain⟨its,r,⟨o,n,e,_,_,d⟩,_⟩:=I.list h;obtain⟨its',r',⟨o',n',e',_,_,d'⟩,_⟩:=I.list h';rw [e] at e'; cases e';rw [d] at d';injection d' with d1 _
 have:its=its':=by simpa using congrArg Array.toList d1
 subst this;exact r.inj r'
theorem Inv.tuple_inj(I:Inv X pins σ H s)(h:SqT X.K H a xs)(h':SqT X.K H a ys):xs=ys:=by
 obtain⟨its,r,⟨o,e,_,n,d⟩,_⟩:=I.tuple h;obtain⟨its',r',⟨o',e',_,n',d'⟩,_⟩:=I.tuple h';rw [e] at e'; cases e';rw [d] at d';injection d' with d1 _
 have:its=its':=by simpa using congrArg Array.toList d1
 subst this;exact r.inj r'
end
abbrev Cx.wish (X:Cx)(E:g7->g8->Prop):Cx:={ X with xe:=E }
abbrev Cx.nox (X:Cx):Cx:=X.wish fun _ _=>False
theorem Cx.Ok.wish{X:Cx}(ok:X.Ok)(E:g7->g8->Prop):(X.wish E).Ok :=
 ⟨ok.mod,ok.kind,ok.glob,ok.blt,ok.above,ok.inj,ok.has,ok.cab,ok.hd,ok.frames,ok.stk,ok.exf,ok.bs,ok.bsz,ok.noex,ok.exfs,ok.funs,ok.frf⟩
theorem Cx.Ok.unwish{X:Cx}{E:g7->g8->Prop}(ok:(X.wish E).Ok):X.Ok :=
 ⟨ok.mod,ok.kind,ok.glob,ok.blt,ok.above,ok.inj,ok.has,ok.cab,ok.hd,ok.frames,ok.stk,ok.exf,ok.bs,ok.bsz,ok.noex,ok.exfs,ok.funs,ok.frf⟩
section
variable {X:Cx} {pins:List (Addr×Obj)} {σ:St} {H:Hp} {s:g8} {E:g7→g8→Prop}
theorem Inv.wish(I:Inv X pins σ H s)(E:g7->g8->Prop):Inv (X.wish E) pins σ H s:=⟨I.ok.wish E,I.os,I.bare,I.base,I.loc,I.cell,I.free,I.freeC,I.pin,I.hok,I.len⟩
theorem Inv.unwish(I:Inv (X.wish E) pins σ H s):Inv X pins σ H s:=⟨I.ok.unwish,I.os,I.bare,I.base,I.loc,I.cell,I.free,I.freeC,I.pin,I.hok,I.len⟩
theorem SP.unwish{D:Ends}{f:Flow}{s':g8}(h:SP (X.wish E) pins D f s'):SP X pins D f s':=by
 cases f with
 | next=>obtain⟨σ',H',I,q⟩:=h; exact⟨σ',H',I.unwish,q⟩
 | brk=>obtain⟨σ',H',I,q⟩:=h; exact⟨σ',H',I.unwish,q⟩
 | cont=>obtain⟨σ',H',I,q⟩:=h; exact⟨σ',H',I.unwish,q⟩
 | ret u=>obtain⟨v,σ',H',I,r,q⟩:=h; exact⟨v,σ',H',I.unwish,r,q⟩
theorem PSs.nox{st:List Stmt}{t:TS}(h:PSs X.nox st t):PSs X st t:=fun pins s σ H D I hw =>
 C8 (h pins s σ H D (I.wish _) hw) (fun _ _ q=>q.unwish) fun _ _ z=>C9 z
end
section
variable {X:Cx} {st:Stmt} {di:List Stmt} {t u:TS} {e:Expr} {te:TE} {pos:Pos}
def bN:TS:=fun D σ H=>D.nx σ H
def Ec (t u:TS):TS:=fun D σ H=>t { D with nx:=u D } σ H
theorem aE:PSs X [] bN:=fun _ _ σ H _ I h=>Y8 ⟨σ,H,I,h⟩
theorem ah(h1:PS X st t)(h2:PSs X di u):PSs X (st :: di) (Ec t u):=by
 intro pins s σ H D I h;refine ad7 (thn (h1 pins s σ H { D with nx:=u D } I h) fun f s1 q=>?_)
 cases f with
 | next =>
  obtain⟨σ',H',I',q⟩:=q;exact h2 pins s1 σ' H' D I' q
 | ret v=>exact q
 | brk=>exact q
 | cont=>exact q
theorem ak(h1:PS X st t):PSs X [st] t:=by
 intro pins s σ H D I h;refine ad7 (thn (h1 pins s σ H D I h) fun f s1 q=>?_);cases f with
 | next=>exact Y8 q
 | ret v=>exact q
 | brk=>exact q
 | cont=>exact q
theorem Inv.quiet{pins:List (Addr×Obj)}{σ:St}{H:Hp}{s:g8}(I:Inv X pins σ H s):interactive X.env=false:=by simp [interactive,I.ok.kind]
def PD (te:TE):TS:=fun D σ H=>te σ H fun _ H1=>D.nx σ H1
theorem bB(he:PE X e te)(hs:swapsWith e none pos.line X.env=pure false:=by rfl):PS X (.Expr e pos) (PD te):=by
 intro pins s σ H D I h;exact wpAny_Expr_any (thn (he pins s σ H _ I h) fun v s1 ⟨x,H1,I1,r1,q1⟩=>⟨σ,H1,I1,q1⟩) I.quiet hs
def PJ (te:TE):TS:=fun D σ H=>te σ H D.rt
theorem ar(he:PE X e te):PS X (.Return (some e) pos) (PJ te):=by
 intro pins s σ H D I h;exact wpAny_Return_some (thn (he pins s σ H _ I h) fun v s1 ⟨x,H1,I1,r1,q1⟩=>⟨x,σ,H1,I1,r1,q1⟩)
def QN (c:TT)(t u:TS):TS:=fun D σ H=>c σ H fun b H1=>if b=true then t D σ H1 else u D σ H1
theorem bc{c:Expr}{a b:List Stmt}{tc:TT}(hc:PT X c tc)(ha:PSs X a t)(hb:PSs X b u):PS X (.If c a b pos) (QN tc t u):=by
 intro pins s σ H D I h;refine wpAny_If (thn (hc pins s σ H _ I h) fun d s1 ⟨H1,I1,q1⟩=>?_);cases d with
 | true=>exact ha pins s1 σ H1 D I1 q1
 | false=>exact hb pins s1 σ H1 D I1 q1
def Nb:TS:=fun _ _ _=>False
theorem vv{sts:List Stmt}:PSs X sts Nb:=fun _ _ _ _ _ _ h=>h.elim
end
abbrev TG:=V->St->Hp->(St->Hp->Prop)->Prop
abbrev TGs:=List V->St->Hp->(St->Hp->Prop)->Prop
def PG (X:Cx)(target:Expr)(t:TG):Prop :=
 ∀(pins:List (Addr×Obj)) (s:g8) (σ:St) (H:Hp) (v:V) (u:g7) (Q:St->Hp->Prop),Inv X pins σ H s->bg v u->t v σ H Q ->
  wpAny (model X.prog X.w) X.A (assign target X.env u) (fun _ s' => ∃ σ' H',Inv X pins σ' H' s'/\Q σ' H') X.xe s
def PGs (X:Cx)(ts:List Expr)(t:TGs):Prop :=
 ∀(pins:List (Addr×Obj)) (s:g8) (σ:St) (H:Hp) (vs:List V) (us:List g7) (Q:St->Hp->Prop),Inv X pins σ H s->aU vs us->t vs σ H Q ->
  wpAny (model X.prog X.w) X.A (assignInOrder ((assignEach ts X.env).map (·.2)) us) (fun _ s' => ∃ σ' H',Inv X pins σ' H' s'/\Q σ' H') X.xe s
abbrev NT:=V->V->V->Hp->(Hp->Prop)->Prop
def Pj (X:Cx)(t:NT):Prop :=
 ∀(pins:List (Addr×Obj)) (s:g8) (σ:St) (H:Hp) (o i v:V) (ov iv u:g7) (Q:Hp->Prop),Inv X pins σ H s->bg o ov->bg i iv->bg v u->t o i v H Q ->
  wpAny (model X.prog X.w) X.A (setItem ov iv u) (fun _ s' => ∃ H',Inv X pins σ H' s'/\Q H') X.xe s
section
variable {X:Cx} {pos:Pos}
def bC (i:Nat):TG:=fun v σ H Q=>Q (σ.set i (some v)) H
theorem aN{i:Nat}{x:Str}(hN:X.N.Nodup)(hi:X.N[i]? = some x)(hx:Loc X.env.scope x)(hf:X.fn x=true\/X.env.scope.names.lookup x=some .local:=by first | exact .inl rfl | exact .inr rfl | assumption):PG X (.Name x pos) (bC i):=by
 intro pins s σ H v u Q I r h;exact wpAny_assign_Name (yJ I hN hi hx r (fun s' I'=>⟨_,H,I',h⟩) hf)
def Mu:TGs:=fun vs σ H Q=>vs=[]/\Q σ H
def rZ (t:TG)(u:TGs):TGs:=fun vs σ H Q => ∃ v r,vs=v :: r/\t v σ H fun σ' H'=>u r σ' H' Q
theorem qZ:PGs X [] Mu:=by
 intro pins s σ H vs us Q I r h;obtain⟨e,h⟩:=h;subst e;cases r;exact assignInOrder_nil ⟨σ,H,I,h⟩
theorem fM{e:Expr}{es:List Expr}{t:TG}{u:TGs}(h1:PG X e t)(h2:PGs X es u)
  (hs:(assignEach (e :: es) X.env).map (·.2)=assign e X.env :: (assignEach es X.env).map (·.2):=by rfl):PGs X (e :: es) (rZ t u):=by
 intro pins s σ H vs us Q I r h;obtain⟨v,vr,e1,h⟩:=h;subst e1;cases r with
 | cons r rr =>
  rw [hs];refine assignInOrder_cons (thn (h1 pins s σ H _ _ _ I r h) fun _ s1 ⟨σ1,H1,I1,q1⟩=>?_);exact h2 pins s1 σ1 H1 _ _ Q I1 rr q1
def Kb (K:i3)(n:Nat)(t:TGs):TG:=fun v σ H Q => ∃ a xs,v = .ref a/\SqT K H a xs/\xs.length=n/\t xs σ H Q
theorem xD{es:List Expr}{k:Nat}{t:TGs}{n:Nat}(hc:X.calm=true)(h:PGs X es t)
  (hn:(assignEach es X.env).length=n:=by rfl) (hst:(assignEach es X.env).findIdx? (·.1)=none:=by rfl):PG X (.Tuple es k pos) (Kb X.K n t):=by
 intro pins s σ H v u Q I r hw;obtain⟨a,xs,e1,hq,hl,hw⟩:=hw;subst e1;cases r;obtain⟨its,rv,ht,hz⟩:=I.tuple hq;refine assign_Tuple_tuple (I.ok.hd hc) ht (by simp [hn,<- hl,rv.length]) hst fun h' hx=>?_
 have I1:Inv X pins σ H { s with heap:=h' }:=I.kept (t':=s.toks) fun b o e=>hx b o (w6 (j5 e)) e
 exact h pins _ σ H xs _ Q I1 (by simpa using rv) hw
def QJ (to ti:TE)(t:NT):TG:=fun v σ H Q=>to σ H fun o H1=>ti σ H1 fun i H2=>t o i v H2 fun H3=>Q σ H3
theorem Mt{o i:Expr}{to ti:TE}{t:NT}(ho:PE X o to)(hi:PE X i ti)(hs:Pj X t)
  (ha:∀ v,assign (.Subscript o i pos) X.env v=(do
   let ov <- holding [v] (eval o X.env)
   let iv <- holding [v,ov] (eval i X.env)
   standAt pos
   holding [v,ov,iv] (setItem ov iv v)
   release [v,ov,iv] []):=by intro _; rfl):PG X (.Subscript o i pos) (QJ to ti t):=by
 intro pins s σ H v u Q I r h;rw [ha];refine g9 (M0 (thn (ho pins s σ H _ I h) fun ov s1 ⟨x,H1,I1,r1,q1⟩=>?_));refine g9 (M0 (thn (hi pins s1 σ H1 _ I1 q1) fun iv s2 ⟨y,H2,I2,r2,q2⟩=>?_));refine g9 (Y9 (g9 (M0 (thn (hs pins s2 σ H2 x y v ov iv u _ I2 r1 r2 r q2) fun _ s3 ⟨H3,I3,q3⟩=>?_))));exact wpAny_release ⟨σ,H3,I3,q3⟩
def MB (te:TE)(g:TG):TS:=fun D σ H=>te σ H fun x H1=>g x σ H1 D.nx
theorem IM{tg e:Expr}{te:TE}{g:TG}(he:PE X e te)(hg:PG X tg g)(hs:swapsWithSole [tg] e pos.line X.env=pure false:=by rfl)(hw:swappedStores [tg] e X.env=pure none:=by rfl)
  (h1:(assignEach [tg] X.env).map (·.2)=[assign tg X.env]:=by rfl):PS X (.Assign [tg] e pos) (MB te g):=by
 intro pins s σ H D I h;refine wpAny_Assign_stores (thn (he pins s σ H _ I h) fun v s1 ⟨x,H1,I1,r1,q1⟩=>?_) hs hw;rw [h1];exact thn (hg pins s1 σ H1 x v _ I1 r1 q1) fun _ s2 q=>q
theorem aR{i:Nat}{x:Str}{e:Expr}{te:TE}{pos':Pos}(hN:X.N.Nodup)(hi:X.N[i]? = some x)(hx:Loc X.env.scope x)(he:PE X e te)(hs:swapsWith e (some (.Name x pos')) pos.line X.env=pure false:=by rfl)(hf:X.fn x=true\/X.env.scope.names.lookup x=some .local:=by first | exact .inl rfl | exact .inr rfl | assumption) :
  PS X (.Assign [.Name x pos'] e pos) (MB te (bC i)):=by
 intro pins s σ H D I h;refine wpAny_Assign_Name (thn (he pins s σ H _ I h) fun v s1 ⟨y,H1,I1,r1,q1⟩=>?_) hs;exact yJ I1 hN hi hx r1 (fun s2 I2=>⟨_,H1,I2,q1⟩) hf
end
section
variable {X:Cx} {pos:Pos}
def Nk (c:TT)(tb:TS):TS:=fun D σ H => ∃ W:Nat->St->Hp->Prop,(∃ m,W m σ H)/\∀ m σ H,W m σ H ->
 c σ H fun b H1=>if b=true then ∃ N:St->Hp->Prop,(∀ σ' H',N σ' H'->∃ m',m' < m/\W m' σ' H')/\tb { D with nx:=N,ct:=N,bk:=D.nx } σ H1 else D.nx σ H1
theorem sT{c:Expr}{body:List Stmt}{tc:TT}{tb:TS}(hp:PassesOwn (model X.prog X.w) X.A X.env X.xe)(hc:PT X c tc)(hb:PSs X body tb):PS X (.While c body [] pos) (Nk tc tb):=by
 intro pins s σ H D I h;obtain⟨W,⟨m0,w0⟩,turn⟩:=h;refine wpAny_While (codeAny_whileLoop (fun n s' => ∃ σ' H',Inv X pins σ' H' s'/\W n σ' H') ?_ m0 ⟨σ,H,I,w0⟩);rintro n s1 ⟨σ1,H1,I1,w1⟩;refine P8 hp (thn (hc pins s1 σ1 H1 _ I1 (turn n σ1 H1 w1)) fun b s2 ⟨H2,I2,q2⟩=>?_);cases b with
 | true =>
  obtain⟨N,hN,q2⟩:=q2;rw [if_pos rfl];refine P8 hp (thn (hb pins s2 σ1 H2 _ I2 q2) fun f s3 q3=>?_);cases f with
  | next =>
   obtain⟨σ3,H3,I3,n3⟩:=q3;obtain⟨m',hm,w3⟩:=hN σ3 H3 n3;exact⟨m',hm,σ3,H3,I3,w3⟩
  | cont =>
   obtain⟨σ3,H3,I3,n3⟩:=q3;obtain⟨m',hm,w3⟩:=hN σ3 H3 n3;exact⟨m',hm,σ3,H3,I3,w3⟩
  | brk=>exact q3
  | ret v=>exact q3
 | false =>
  rw [if_neg y8];exact Y8 ⟨σ1,H2,I2,q2⟩
end
structure It where
 go:Nat->Hp->Prop
 yld:Nat->Hp->V->Hp->Prop
 stop:Nat->Hp->Prop
def qR (X:Cx)(pins:List (Addr×Obj))(H:Hp)(b:Addr):Prop :=
 H b=none/\b≠X.env.locals/\b ∉ X.fs/\(b∈X.ex\/X.s₀.heap.objs.size<=b)/\(∀ x c,X.env.cells.lookup x=some c->c≠b)/\∀ p∈X.pn ++ pins,p.1≠b
theorem Inv.fpOk{X:Cx}{pins:List (Addr×Obj)}{σ:St}{H H':Hp}{s:g8}{b:Addr}(I:Inv X pins σ H s)(hb:s.heap.objs.size<=b)(hn:H' b=none):qR X pins H' b:=by
 refine⟨hn,M2 (A9 I.lt hb),I.nofs hb,.inr (B8 I.sz hb),fun x c e z=>?_,fun p hp z=>?_⟩
 ·obtain⟨v,q⟩:=I.cell x c e
  exact absurd (A9 q.lt (by rw [z]; exact hb)) (B6 _)
 ·exact absurd (A9 (j5 (I.pin p hp).1) (by rw [z]; exact hb)) (B6 _)
structure Turn(P:i8)(w:i7)(K:i3)(tg:Expr)(J:It)(fp:List Addr)(it:Addr)(tn:Nat->Heap->Prop):Prop where
 mem:it∈fp
 obj:∀ i h,tn i h->∀ b∈fp,∃ o,h.get? b=some o/\∀ v,o.data≠.cell v
 keep:∀ i h h',tn i h->(∀ b∈fp,∀ o,h.get? b=some o->h'.get? b=some o)->tn i h'
 item:∀(X:Cx),X.prog=P->X.w=w->X.K=K->X.calm=true->∀(i:Nat) (pins:List (Addr×Obj)) (s:g8) (σ:St) (H:Hp) (E:g7->g8->Prop),Inv X pins σ H s->(∀ b∈fp,qR X pins H b)->tn i s.heap->J.go i H ->
  wpAny (model P w) X.A (pyNext (.ref it)) (fun r s1 => ∃ u,r=some u /\
   wpAny (model P w) X.A (letOwnedTupleGo tg (.ref it) u) (fun _ s2 => ∃ x H',Inv X pins σ H' s2/\bg x u/\J.yld i H x H'/\tn (i + 1) s2.heap/\∀ b∈fp,H' b=none) E s1) E s
 done:∀(X:Cx),X.prog=P->X.w=w->X.K=K->X.calm=true->∀(i:Nat) (pins:List (Addr×Obj)) (s:g8) (σ:St) (H:Hp) (E:g7->g8->Prop),Inv X pins σ H s->(∀ b∈fp,qR X pins H b)->tn i s.heap->J.stop i H ->
  wpAny (model P w) X.A (pyNext (.ref it)) (fun r s1=>r=none/\Inv X pins σ H s1) E s
 self:∀(A:j0) (i:Nat) (s:g8) (Q:g7->g8->Prop) (E:g7->g8->Prop),tn i s.heap->Q (.ref it) s->wpAny (model P w) A (pyIter (.ref it)) Q E s
abbrev TI:=St->Hp->(It->Hp->Prop)->Prop
def PIE (X:Cx)(pins:List (Addr×Obj))(σ:St)(tg:Expr)(R:It->Hp->Prop)(itv:g7)(s2:g8):Prop :=
 ∃(it:Addr) (fp:List Addr) (tn:Nat->Heap->Prop) (J:It) (H':Hp),itv = .ref it/\Inv X pins σ H' s2/\Turn X.prog X.w X.K tg J fp it tn/\tn 0 s2.heap/\(∀ b∈fp,qR X pins H' b)/\R J H'
def PI (X:Cx)(tg iter:Expr)(wi:TI):Prop :=
 ∀(pins:List (Addr×Obj)) (s:g8) (σ:St) (H:Hp) (R:It->Hp->Prop),Inv X pins σ H s->wi σ H R ->
  wpAny (model X.prog X.w) X.A (eval iter X.env) (fun v s1=>wpAny (model X.prog X.w) X.A (pyIter v) (PIE X pins σ tg R) X.xe s1) X.xe s
theorem yF {M:Model} {A:j0} {E:g7→g8→Prop} {s:g8} {tg:Expr} {it:Addr} {u:g7} {o:Obj} {n:String} {vs:Array g7} {Q:Unit→g8→Prop} (ho:s.heap.get? it=some o) (hc:o.cls = .type n) (hd:o.data = .fields vs)
    (hn:["enumerate","zip","dict_itemiterator","dict_reverseitemiterator","odict_iterator","itertools.zip_longest","itertools.pairwise"].contains n=false) (hQ:Q () s):wpAny M A (letOwnedTupleGo tg (.ref it) u) Q E s:=by
  unfold letOwnedTupleGo;cases tg <;> first
    | exact j8 hQ
    | (cases u <;> first
        | exact j8 hQ
        | (refine g9 (wpAny_load ho ?_)
           rw [hc,hd];show wpAny M A (if (["enumerate","zip","dict_itemiterator","dict_reverseitemiterator","odict_iterator","itertools.zip_longest","itertools.pairwise"].contains n && vs[0]? == some (rawInt _))=true then _ else _) Q E s
           rw [if_neg (by intro h; rw [hn,x8] at h; cases h)]
           exact j8 hQ))
def Itl (K:i3)(a:Addr):It :=
 ⟨fun i H => ∃ xs x,SqL K H a xs/\xs[i]? = some x,fun i H x H'=>H'=H/\∀ xs,SqL K H a xs->xs[i]? = some x,fun i H => ∃ xs,SqL K H a xs/\xs.length<=i⟩
def Itt (K:i3)(a:Addr):It :=
 ⟨fun i H => ∃ xs x,SqT K H a xs/\xs[i]? = some x,fun i H x H'=>H'=H/\∀ xs,SqT K H a xs->xs[i]? = some x,fun i H => ∃ xs,SqT K H a xs/\xs.length<=i⟩
def Itr (lo:Int)(n:Nat):It:=⟨fun i _=>i < n,fun i H x H'=>H'=H/\x = .int (lo + i),fun i _=>n<=i⟩
theorem vB{P:i8}{w:i7}{K:i3}{tg:Expr}(a it:Addr):Turn P w K tg (Itl K a) [it] it (fun i h=>h.IsListIter it a i) where
 mem:=by simp
 obj:=fun i h st b hb=>by
  have e:b=it:=by simpa using hb
  subst e;obtain⟨o,e,c,d⟩:=st;exact⟨o,e,fun v z=>by rw [d] at z; cases z⟩
 keep:=fun i h h' st k=>st.at fun o e=>k it (by simp) o e
 item:=by
  intro X hP hw hK hc i pins s σ H E I hf st hg;subst hP hw hK;obtain⟨xs,x,hq,hx⟩:=hg;obtain⟨its,rv,p,hz⟩:=I.list hq;obtain⟨u,hu,ru⟩:=rv.get hx;obtain⟨f0,f1,f2,f3,f4,f5⟩:=hf it (by simp)
  refine wpAny_pyNext_list_item st p.isList (x:=u) (by simpa using hu) fun h' st' sb=>?_
  have I1:Inv X pins σ H { s with heap:=h' }:=I.turned (t':=s.toks) (fun b o hb e=>(sb.2 b hb).trans e) f0 f1 f3 f4 f5
  obtain⟨o,e,c,d⟩:=id st';exact⟨u,rfl,yF (s:={ s with heap:=h' }) e c d (by decide) ⟨x,H,I1,ru,⟨rfl,fun ys hy=>by rw [I.list_inj hy hq]; exact hx⟩,st',fun b hb=>(hf b hb).1⟩⟩
 done:=by
  intro X hP hw hK hc i pins s σ H E I hf st hg;subst hP hw hK;obtain⟨xs,hq,hx⟩:=hg;obtain⟨its,rv,p,hz⟩:=I.list hq;obtain⟨f0,f1,f2,f3,f4,f5⟩:=hf it (by simp)
  have hl:=rv.length;exact wpAny_pyNext_list_end (I.ok.hd hc) st p.isList (by simp; omega) fun h' eb=>⟨rfl,I.turned (t':=s.toks) (fun b o hb e=>eb b o hb e) f0 f1 f3 f4 f5⟩
 self:=fun _ _ _ _ _ st h=>wpAny_pyIter_listiter st h
theorem tI{P:i8}{w:i7}{K:i3}{tg:Expr}(a it:Addr):Turn P w K tg (Itt K a) [it] it (fun i h=>h.IsTupleIter it a i) where
 mem:=by simp
 obj:=fun i h st b hb=>by
  have e:b=it:=by simpa using hb
  subst e;obtain⟨o,e,c,d⟩:=st;exact⟨o,e,fun v z=>by rw [d] at z; cases z⟩
 keep:=fun i h h' st k=>st.at fun o e=>k it (by simp) o e
 item:=by
  intro X hP hw hK hc i pins s σ H E I hf st hg;subst hP hw hK;obtain⟨xs,x,hq,hx⟩:=hg;obtain⟨its,rv,p,hz⟩:=I.tuple hq;obtain⟨u,hu,ru⟩:=rv.get hx;obtain⟨f0,f1,f2,f3,f4,f5⟩:=hf it (by simp)
  refine wpAny_pyNext_tuple_item st (show s.heap.IsTuple a its.toArray from p) (x:=u) (by simpa using hu) fun h' st' sb=>?_
  have I1:Inv X pins σ H { s with heap:=h' }:=I.turned (t':=s.toks) (fun b o hb e=>(sb.2 b hb).trans e) f0 f1 f3 f4 f5
  obtain⟨o,e,c,d⟩:=id st';exact⟨u,rfl,yF (s:={ s with heap:=h' }) e c d (by decide) ⟨x,H,I1,ru,⟨rfl,fun ys hy=>by rw [I.tuple_inj hy hq]; exact hx⟩,st',fun b hb=>(hf b hb).1⟩⟩
 done:=by
  intro X hP hw hK hc i pins s σ H E I hf st hg;subst hP hw hK;obtain⟨xs,hq,hx⟩:=hg;obtain⟨its,rv,p,hz⟩:=I.tuple hq;obtain⟨f0,f1,f2,f3,f4,f5⟩:=hf it (by simp)
  have hl:=rv.length;exact wpAny_pyNext_tuple_end (I.ok.hd hc) st (show s.heap.IsTuple a its.toArray from p) (by simp; omega) fun h' eb=>⟨rfl,I.turned (t':=s.toks) (fun b o hb e=>eb b o hb e) f0 f1 f3 f4 f5⟩
 self:=fun _ _ _ _ _ st h=>wpAny_pyIter_tupleiter st h
theorem Ak{P:i8}{w:i7}{K:i3}{tg:Expr}(it:Addr)(lo:Int)(n:Nat):Turn P w K tg (Itr lo n) [it] it (fun i h=>IsRangeIter h it (lo + (i:Nat) * 1) ((n:Int) - (i:Nat)) 1) where
 mem:=by simp
 obj:=fun i h st b hb=>by
  have e:b=it:=by simpa using hb
  subst e;exact⟨_,st,fun v z=>by
   have z':Z0 _=Z1 v:=z;cases z'⟩
 keep:=fun i h h' st k=>k it (by simp) _ st
 item:=by
  intro X hP hw hK hc i pins s σ H E I hf st hg;subst hP hw hK;obtain⟨f0,f1,f2,f3,f4,f5⟩:=hf it (by simp)
  have W:=Walks.range (prog:=X.prog) (w:=X.w) (I.ok.hd hc) it lo 1 n;refine W.item i s _ _ hg st fun v h' tk hv st' kk=>?_;obtain⟨t,rfl⟩:=hv;have I1:Inv X pins σ H { s with heap:=h',toks:=tk }:=I.turned (fun b o hb e=>kk b o (by simpa using hb) e) f0 f1 f3 f4 f5
  refine⟨zQa,yF (s:={ s with heap:=h',toks:=tk }) (n:="range_iterator") st' rfl rfl (by decide) ⟨.int (lo + i),H,I1,⟨t,?_⟩,⟨rfl,rfl⟩,st',fun b hb=>(hf b hb).1⟩⟩
  rw [Int.mul_one]
 done:=by
  intro X hP hw hK hc i pins s σ H E I hf st hg;subst hP hw hK;obtain⟨f0,f1,f2,f3,f4,f5⟩:=hf it (by simp)
  exact wpAny_pyNext_range_end (I.ok.hd hc) st (by have:n<=i:=hg; omega) fun h' eb=>⟨rfl,I.turned (t':=s.toks) (fun b o hb e=>eb b o hb e) f0 f1 f3 f4 f5⟩
 self:=fun _ _ _ _ _ st h=>wpAny_pyIter_rangeiter st h
section
variable {X:Cx} {tg:Expr}
def PU (K:i3)(tl:TE):TI:=fun σ H R=>tl σ H fun x H1 => ∃ a,x = .ref a/\(∃ xs,SqL K H1 a xs)/\R (Itl K a) H1
def QP (K:i3)(tl:TE):TI:=fun σ H R=>tl σ H fun x H1 => ∃ a,x = .ref a/\(∃ xs,SqT K H1 a xs)/\R (Itt K a) H1
theorem oI{l:Expr}{tl:TE}(hl:PE X l tl):PI X tg l (PU X.K tl):=by
 intro pins s σ H R I h;refine thn (hl pins s σ H _ I h) fun v s1 ⟨x,H1,I1,r1,q1⟩=>?_;obtain⟨a,e,⟨xs,hq⟩,q⟩:=q1;subst e;cases r1;obtain⟨its,rv,p,hz⟩:=I1.list hq;refine Z2 p.isList ?_;refine⟨s1.heap.objs.size,[s1.heap.objs.size],_,_,H1,rfl,I1.kept (t':=s1.toks) fun b o e=>l7 _ e,vB a _,⟨_,y6 _ rfl,rfl,rfl⟩,fun b hb=>?_,q⟩;have e:b=s1.heap.objs.size:=by simpa using hb
 subst e;exact I1.fpOk (i6 _) (I1.hok.fresh (i6 _))
theorem Fx{l:Expr}{tl:TE}(hl:PE X l tl):PI X tg l (QP X.K tl):=by
 intro pins s σ H R I h;refine thn (hl pins s σ H _ I h) fun v s1 ⟨x,H1,I1,r1,q1⟩=>?_;obtain⟨a,e,⟨xs,hq⟩,q⟩:=q1;subst e;cases r1;obtain⟨its,rv,p,hz⟩:=I1.tuple hq;refine R9 (show s1.heap.IsTuple a its.toArray from p) ?_
 refine⟨s1.heap.objs.size,[s1.heap.objs.size],_,_,H1,rfl,I1.kept (t':=s1.toks) fun b o e=>l7 _ e,tI a _,⟨_,y6 _ rfl,rfl,rfl⟩,fun b hb=>?_,q⟩;have e:b=s1.heap.objs.size:=by simpa using hb
 subst e;exact I1.fpOk (i6 _) (I1.hok.fresh (i6 _))
theorem yR{pins:List (Addr×Obj)}{σ:St}{H:Hp}{s:g8}{R:It->Hp->Prop}{E:g7->g8->Prop}{lo hi:Int}{t u v:Tok}{tk:Nat}(I:Inv X pins σ H s)(h1 : -(2 ^ 62)<=lo)(h2:lo < 2 ^ 62)(h3 : -(2 ^ 62)<=hi)(h4:hi < 2 ^ 62)
  (q:R (Itr lo (hi - lo).toNat) H):wpAny (model X.prog X.w) X.A (pyIter (.ref s.heap.objs.size)) (PIE X pins σ tg R) E { s with heap:=s.heap.push { cls:=.type "range",data:=.fields #[.int lo t,.int hi u,.int 1 v] },toks:=tk }:=by
 refine wpAny_pyIter_range (IsRange.new ..) (small_one h1 h2 h3 h4) ?_;have I1:Inv X pins σ H { s with heap:=s.heap.push { cls:=.type "range",data:=.fields #[.int lo t,.int hi u,.int 1 v] },toks:=tk }:=I.kept fun b o e=>l7 _ e
 refine⟨(s.heap.push { cls:=.type "range",data:=.fields #[.int lo t,.int hi u,.int 1 v] }).objs.size,[(s.heap.push { cls:=.type "range",data:=.fields #[.int lo t,.int hi u,.int 1 v] }).objs.size],_,_,H,rfl,
  I1.kept (t':=tk) fun b o e=>l7 _ e,Ak _ lo (hi - lo).toNat,?_,fun b hb=>?_,q⟩
 ·have e1:lo + ((0:Nat):Int) * 1=lo:=by simp
  have e2:(((hi - lo).toNat:Nat):Int) - ((0:Nat):Int)=B4.Range.rangeSize lo hi 1:=by rw [rangeSize_one]; split <;> omega
  show IsRangeIter _ _ (lo + ((0:Nat):Int) * 1) ((((hi - lo).toNat:Nat):Int) - ((0:Nat):Int)) 1;rw [e1,e2];exact y6 _ rfl
 ·have e:b=(s.heap.push { cls:=.type "range",data:=.fields #[.int lo t,.int hi u,.int 1 v] }).objs.size:=by simpa using hb
  subst e;exact I1.fpOk (i6 _) (I1.hok.fresh (i6 _))
def Pl (ta:TA):TI:=fun σ H R=>ta σ H fun vs H1 => ∃ j:Int,vs=[.int j]/\-(2 ^ 62)<=j/\j < 2 ^ 62/\R (Itr 0 j.toNat) H1
def Qa (ta:TA):TI:=fun σ H R=>ta σ H fun vs H1 => ∃ i j:Int,vs=[.int i,.int j]/\(-(2 ^ 62)<=i/\i < 2 ^ 62/\-(2 ^ 62)<=j/\j < 2 ^ 62)/\R (Itr i (j - i).toNat) H1
theorem cG{a:Expr}{ta:TA}{p pos:Pos}(hg:Gl X "range")(hm:X.mg "range"=none)(ha:PA X [a] ta)(hs:starEach [a] X.env=[(false,eval a X.env)]:=by rfl):PI X tg (.Call (.Name "range" p) [a] [] pos) (Pl ta):=by
 intro pins s σ H R I h;refine Call_ (dE I hg hm boot_range (M3 (thn (ha pos pins s σ H _ I h) fun us s1 ⟨vs,H1,I1,r1,q1⟩=>?_) hs rfl));obtain⟨j,e,q1,q2,q⟩:=q1;subst e;cases r1 with
 | cons r rr =>
  cases rr;obtain⟨t,rfl⟩:=r;exact call_range_1 (yR I1 (by omega) (by omega) q1 q2 (by simpa using q))
theorem vf{a b:Expr}{ta:TA}{p pos:Pos}(hg:Gl X "range")(hm:X.mg "range"=none)(ha:PA X [a,b] ta)(hs:starEach [a,b] X.env=[(false,eval a X.env),(false,eval b X.env)]:=by rfl)(hs2:starEach [b] X.env=[(false,eval b X.env)]:=by rfl) :
  PI X tg (.Call (.Name "range" p) [a,b] [] pos) (Qa ta):=by
 intro pins s σ H R I h;refine Call_ (dE I hg hm boot_range (M3 (thn (ha pos pins s σ H _ I h) fun us s1 ⟨vs,H1,I1,r1,q1⟩=>?_) (by rw [hs,hs2]) (by rw [hs2]; rfl)))
 obtain⟨i,j,e,⟨q1,q2,q3,q4⟩,q⟩:=q1;subst e;cases r1 with
 | cons r rr =>
  cases rr with
  | cons r' rr =>
   cases rr;obtain⟨t,rfl⟩:=r;obtain⟨t',rfl⟩:=r';exact call_range_2 (yR I1 q1 q2 q3 q4 q)
def Qt (wi:TI)(g:TG)(tb:TS):TS:=fun D σ H=>wi σ H fun J H1 => ∃ W:Nat->Nat->St->Hp->Prop,(∃ m,W 0 m σ H1)/\∀ i m σ H,W i m σ H ->
 (J.stop i H/\D.nx σ H)\/(J.go i H/\∃ N:St->Hp->Prop,(∀ σ' H',N σ' H'->∃ m',m' < m/\W (i + 1) m' σ' H')/\∀ x H',J.yld i H x H'->g x σ H' fun σ2 H2=>tb { D with nx:=N,ct:=N,bk:=D.nx } σ2 H2)
def kM (fp:List Addr)(h:Heap):List (Addr×Obj):=fp.filterMap fun b=>(h.get? b).map fun o=>(b,o)
theorem jF{fp:List Addr}{h:Heap}{b:Addr}{o:Obj}(hb:b∈fp)(e:h.get? b=some o):(b,o)∈kM fp h:=ad8.mpr ⟨b,hb,by rw [e]; rfl⟩
theorem wf{fp:List Addr}{h:Heap}{p:Addr×Obj}(hp:p∈kM fp h):p.1∈fp/\h.get? p.1=some p.2:=by
 obtain⟨b,hb,e⟩:=ad8.mp hp;cases q:h.get? b with
 | none=>rw [q] at e; cases e
 | some o =>
  rw [q] at e;have e':(b,o)=p:=B1 e;subst e';exact⟨hb,q⟩
theorem Inv.pinned{pins:List (Addr×Obj)}{σ:St}{H:Hp}{s:g8}{fp:List Addr}(I:Inv X pins σ H s)(hf:∀ b∈fp,qR X pins H b)(ho:∀ b∈fp,∃ o,s.heap.get? b=some o/\∀ v,o.data≠.cell v):Inv X (pins ++ kM fp s.heap) σ H s :=
 I.pins_of fun p hp=>(B3.mp hp).elim (fun z=>I.pin p (C3 _ z)) fun z=>by
  obtain⟨hb,e⟩:=wf z;obtain⟨f0,f1,f2,_⟩:=hf p.1 hb;obtain⟨o,e',d⟩:=ho p.1 hb;rw [e] at e'; cases e';exact⟨e,f0,f1,f2,d⟩
theorem Inv.unpinned{pins pl:List (Addr×Obj)}{σ:St}{H:Hp}{s:g8}(I:Inv X (pins ++ pl) σ H s):Inv X pins σ H s:=I.pins_of fun p hp=>I.pin p (C3 _ (P6 _ hp))
theorem dZ{iter:Expr}{body:List Stmt}{wi:TI}{g:TG}{tb:TS}{pos:Pos}(hp:PassesOwn (model X.prog X.w) X.A X.env X.xe)(hc:X.calm=true)(hi:PI X tg iter wi)(hg:PG X tg g)(hb:PSs X body tb)
  (hs:∀ x,foldedSetIterable iter X.env x=pure x:=by intro _; rfl):PS X (.For tg iter body [] pos) (Qt wi g tb):=by
 intro pins s σ H D I h;refine wpAny_For (thn (hi pins s σ H _ I h) fun v s1 h1=>thn h1 fun itv s2 h2=>?_) hs;obtain⟨it,fp,tn,J,H2,e,I2,T,st2,f2,W,⟨m0,w0⟩,turn⟩:=h2;subst e;have stat:∀ {H':Hp},(∀ b∈fp,H' b=none)->∀ b∈fp,qR X pins H' b:=fun hn b hb=>⟨hn b hb,(f2 b hb).2⟩;refine codeAny_forLoop_any (fun n s' => ∃ i σ' H',Inv X pins σ' H' s'/\tn i s'.heap/\(∀ b∈fp,H' b=none)/\W i n σ' H') ?_ m0 ⟨0,σ,H2,I2,st2,fun b hb=>(f2 b hb).1,w0⟩;rintro n s3 ⟨i,σ3,H3,I3,st3,fr3,w3⟩;rcases turn i n σ3 H3 w3 with ⟨stop,qn⟩ | ⟨go,N,hN,step⟩
 ·refine P8 hp (thn (T.done X rfl rfl rfl hc i pins s3 σ3 H3 X.xe I3 (stat fr3) st3 stop) fun r s4 ⟨hr,I4⟩=>?_)
  subst hr;exact Y8 ⟨σ3,H3,I4,qn⟩
 ·refine P8 hp (thn (T.item X rfl rfl rfl hc i pins s3 σ3 H3 X.xe I3 (stat fr3) st3 go) fun r s4 ⟨u,hr,h4⟩=>?_)
  subst hr;refine P8 hp (thn h4 fun _ s5 ⟨x,H5,I5,r5,y5,st5,fr5⟩=>?_);have I5':=I5.pinned (stat fr5) (T.obj _ _ st5);refine P8 hp (thn (hg _ s5 σ3 H5 x u _ I5' r5 (step x H5 y5)) fun _ s6 ⟨σ6,H6,I6,q6⟩=>?_);refine P8 hp (thn (hb _ s6 σ6 H6 _ I6 q6) fun f s7 q7=>?_);have again:∀ {σ7:St} {H7:Hp},Inv X (pins ++ kM fp s5.heap) σ7 H7 s7->N σ7 H7->∃ m,m < n/\∃ i σ' H',Inv X pins σ' H' s7/\tn i s7.heap/\(∀ b∈fp,H' b=none)/\W i m σ' H':=fun {σ7 H7} I7 n7=>by
   obtain⟨m',hm,w7⟩:=hN σ7 H7 n7;refine⟨m',hm,i + 1,σ7,H7,I7.unpinned,T.keep _ _ _ st5 fun b hb o e=>(I7.pin (b,o) (C3 _ (C3 _ (jF hb e)))).1,fun b hb=>?_,w7⟩;obtain⟨o,e,d⟩:=T.obj _ _ st5 b hb;exact(I7.pin (b,o) (C3 _ (C3 _ (jF hb e)))).2.1
  cases f with
  | next=>obtain⟨σ7,H7,I7,n7⟩:=q7; exact again I7 n7
  | cont=>obtain⟨σ7,H7,I7,n7⟩:=q7; exact again I7 n7
  | brk=>obtain⟨σ7,H7,I7,q7⟩:=q7; exact⟨σ7,H7,I7.unpinned,q7⟩
  | ret v=>obtain⟨x7,σ7,H7,I7,r7,q7⟩:=q7; exact⟨x7,σ7,H7,I7.unpinned,r7,q7⟩
end
theorem kq{K:i3}{a:Addr}{xs:List V}{g:TG}{tb:TS}{D:Ends}{σ:St}{H:Hp}(Pv:Nat->St->Hp->Prop)(h0:Pv 0 σ H)(hl:∀ i σ H,i<=xs.length->Pv i σ H->SqL K H a xs)
  (hs:∀ i x σ H,xs[i]? = some x->Pv i σ H->g x σ H fun σ2 H2=>tb { D with nx:=Pv (i + 1),ct:=Pv (i + 1),bk:=D.nx } σ2 H2) (hd:∀ σ H,Pv xs.length σ H->D.nx σ H) :
  ∃ W:Nat->Nat->St->Hp->Prop,(∃ m,W 0 m σ H)/\∀ i m σ H,W i m σ H ->
   ((Itl K a).stop i H/\D.nx σ H)\/((Itl K a).go i H/\∃ N:St->Hp->Prop,(∀ σ' H',N σ' H'->∃ m',m' < m/\W (i + 1) m' σ' H')/\∀ x H',(Itl K a).yld i H x H'->g x σ H' fun σ2 H2=>tb { D with nx:=N,ct:=N,bk:=D.nx } σ2 H2):=by
 refine⟨fun i m σ H=>m=xs.length - i/\i<=xs.length/\Pv i σ H,⟨xs.length,by simp,x5 _,h0⟩,?_⟩
 rintro i m σ H ⟨rfl,hi,p⟩;have q:=hl i σ H hi p;by_cases hlt:i < xs.length
 ·refine .inr ⟨⟨xs,xs[i],q,by simp [hlt]⟩,Pv (i + 1),fun σ' H' p'=>⟨xs.length - (i + 1),by omega,rfl,hlt,p'⟩,fun x H' y=>?_⟩
  obtain⟨e,y⟩:=y;subst e;exact hs i x σ _ (y xs q) p
 ·have e:i=xs.length:=by omega
  subst e;exact .inl ⟨⟨xs,q,i6 _⟩,hd σ H p⟩
theorem CW{K:i3}{a:Addr}{xs:List V}{g:TG}{tb:TS}{D:Ends}{σ:St}{H:Hp}(Pv:Nat->St->Hp->Prop)(h0:Pv 0 σ H)(hl:∀ i σ H,i<=xs.length->Pv i σ H->SqT K H a xs)
  (hs:∀ i x σ H,xs[i]? = some x->Pv i σ H->g x σ H fun σ2 H2=>tb { D with nx:=Pv (i + 1),ct:=Pv (i + 1),bk:=D.nx } σ2 H2) (hd:∀ σ H,Pv xs.length σ H->D.nx σ H) :
  ∃ W:Nat->Nat->St->Hp->Prop,(∃ m,W 0 m σ H)/\∀ i m σ H,W i m σ H ->
   ((Itt K a).stop i H/\D.nx σ H)\/((Itt K a).go i H/\∃ N:St->Hp->Prop,(∀ σ' H',N σ' H'->∃ m',m' < m/\W (i + 1) m' σ' H')/\∀ x H',(Itt K a).yld i H x H'->g x σ H' fun σ2 H2=>tb { D with nx:=N,ct:=N,bk:=D.nx } σ2 H2):=by
 refine⟨fun i m σ H=>m=xs.length - i/\i<=xs.length/\Pv i σ H,⟨xs.length,by simp,x5 _,h0⟩,?_⟩
 rintro i m σ H ⟨rfl,hi,p⟩;have q:=hl i σ H hi p;by_cases hlt:i < xs.length
 ·refine .inr ⟨⟨xs,xs[i],q,by simp [hlt]⟩,Pv (i + 1),fun σ' H' p'=>⟨xs.length - (i + 1),by omega,rfl,hlt,p'⟩,fun x H' y=>?_⟩
  obtain⟨e,y⟩:=y;subst e;exact hs i x σ _ (y xs q) p
 ·have e:i=xs.length:=by omega
  subst e;exact .inl ⟨⟨xs,q,i6 _⟩,hd σ H p⟩
theorem gG{lo:Int}{n:Nat}{g:TG}{tb:TS}{D:Ends}{σ:St}{H:Hp}(Pv:Nat->St->Hp->Prop)(h0:Pv 0 σ H)
  (hs:∀ i σ H,i < n->Pv i σ H->g (.int (lo + i)) σ H fun σ2 H2=>tb { D with nx:=Pv (i + 1),ct:=Pv (i + 1),bk:=D.nx } σ2 H2) (hd:∀ σ H,Pv n σ H->D.nx σ H) :
  ∃ W:Nat->Nat->St->Hp->Prop,(∃ m,W 0 m σ H)/\∀ i m σ H,W i m σ H ->
   ((Itr lo n).stop i H/\D.nx σ H)\/((Itr lo n).go i H/\∃ N:St->Hp->Prop,(∀ σ' H',N σ' H'->∃ m',m' < m/\W (i + 1) m' σ' H')/\∀ x H',(Itr lo n).yld i H x H'->g x σ H' fun σ2 H2=>tb { D with nx:=N,ct:=N,bk:=D.nx } σ2 H2):=by
 refine⟨fun i m σ H=>m=n - i/\i<=n/\Pv i σ H,⟨n,by simp,x5 _,h0⟩,?_⟩
 rintro i m σ H ⟨rfl,hi,p⟩;by_cases hlt:i < n
 ·refine .inr ⟨hlt,Pv (i + 1),fun σ' H' p'=>⟨n - (i + 1),by omega,rfl,hlt,p'⟩,fun x H' y=>?_⟩
  obtain⟨e,y⟩:=y;subst e y;exact hs i σ _ hlt p
 ·have e:i=n:=by omega
  subst e;exact .inl ⟨i6 _,hd σ H p⟩
abbrev R2:=V->V->Hp->VK->Prop
def OpR (X:Cx)(f:g7->g7->Sem g7)(r:R2):Prop :=
 ∀(pins:List (Addr×Obj)) (s:g8) (σ:St) (H:Hp) (x y:V) (v u:g7) (Q:VK),Inv X pins σ H s->bg x v->bg y u->r x y H Q ->
  wpAny (model X.prog X.w) X.A (f v u) (EP X pins σ Q) X.xe s
def UnR (X:Cx)(f:g7->Sem g7)(r:V->Hp->VK->Prop):Prop :=
 ∀(pins:List (Addr×Obj)) (s:g8) (σ:St) (H:Hp) (x:V) (v:g7) (Q:VK),Inv X pins σ H s->bg x v->r x H Q ->
  wpAny (model X.prog X.w) X.A (f v) (EP X pins σ Q) X.xe s
def gS (X:Cx)(f:g7)(r:List V->Hp->VK->Prop):Prop :=
 ∀(pins:List (Addr×Obj)) (s:g8) (σ:St) (H:Hp) (xs:List V) (us:List g7) (Q:VK),Inv X pins σ H s->aU xs us->r xs H Q ->
  wpAny (model X.prog X.w) X.A (call f us) (EP X pins σ Q) X.xe s
def QV (X:Cx)(r:V->Hp->(Bool->Hp->Prop)->Prop):Prop :=
 ∀(pins:List (Addr×Obj)) (s:g8) (σ:St) (H:Hp) (x:V) (v:g7) (Q:Bool->Hp->Prop),Inv X pins σ H s->bg x v->r x H Q ->
  wpAny (model X.prog X.w) X.A (truthy v) (TP X pins σ Q) X.xe s
def tOp (r:R2)(ta tb:TE):TE:=fun σ H Q=>ta σ H fun x H1=>tb σ H1 fun y H2=>r x y H2 Q
def tUn (r:V->Hp->VK->Prop)(ta:TE):TE:=fun σ H Q=>ta σ H fun x H1=>r x H1 Q
def rI (C:Int->Int->Prop)(g:Int->Int->V):R2:=fun x y H Q => ∃ i j,x = .int i/\y = .int j/\C i j/\Q (g i j) H
def rI0 (g:Int->Int->V):R2:=fun x y H Q => ∃ i j,x = .int i/\y = .int j/\Q (g i j) H
def rU (g:Int->V):V->Hp->VK->Prop:=fun x H Q => ∃ i,x = .int i/\Q (g i) H
section
variable {X:Cx} {a b c:Expr} {ta tb tc:TE} {pos:Pos}
theorem NP(ha:PE X a ta)(hb:PE X b tb){pins:List (Addr×Obj)}{s:g8}{σ:St}{H:Hp}{R:V->V->Hp->Prop}(I:Inv X pins σ H s)
  (h:ta σ H fun x H1=>tb σ H1 fun y H2=>R x y H2) {Q:g7->g8->Prop} {f:g7->g7->Sem g7}
  (hf:∀ v u s2 x y H2,Inv X pins σ H2 s2->bg x v->bg y u->R x y H2->wpAny (model X.prog X.w) X.A (f v u) Q X.xe s2) :
  wpAny (model X.prog X.w) X.A (eval a X.env) (fun v s₁=>wpAny (model X.prog X.w) X.A (eval b X.env) (fun u s₂=>wpAny (model X.prog X.w) X.A (f v u) Q X.xe s₂) X.xe s₁) X.xe s:=by
 refine thn (ha pins s σ H _ I h) fun v s1 ⟨x,H1,I1,r1,q1⟩=>?_;refine thn (hb pins s1 σ H1 _ I1 q1) fun u s2 ⟨y,H2,I2,r2,q2⟩=>?_;exact hf v u s2 x y H2 I2 r1 r2 q2
theorem aD{op:Operator}{r:R2}(ho:OpR X (binaryOp op) r)(ha:PE X a ta)(hb:PE X b tb):PE X (.BinOp a op b pos) (tOp r ta tb):=by
 intro pins s σ H Q I h;exact wpAny_BinOp (NP ha hb I h fun v u s2 x y H2 I2 rx ry q=>ho pins s2 σ H2 x y v u Q I2 rx ry q)
theorem vb{op:UnaryOp}{r:V->Hp->VK->Prop}(ho:UnR X (unaryOp op) r)(ha:PE X a ta):PE X (.UnaryOp op a pos) (tUn r ta):=by
 intro pins s σ H Q I h;exact UnaryOp_ (thn (ha pins s σ H _ I h) fun v s1 ⟨x,H1,I1,r1,q1⟩=>ho pins s1 σ H1 x v Q I1 r1 q1)
theorem opI{f:g7->g7->Sem g7}{C:Int->Int->Prop}{g:Int->Int->Int}
  (rule:∀(i j:Int) (t u:Tok) (s:g8) (Q:g7->g8->Prop) (E:g7->g8->Prop),C i j->Q (.int (g i j) s.toks) { s with toks:=s.toks + 1 }->wpAny (model X.prog X.w) X.A (f (.int i t) (.int j u)) Q E s) :
  OpR X f (rI C fun i j=>.int (g i j)):=by
 intro pins s σ H x y v u Q I rx ry h;obtain⟨i,j,rfl,rfl,hc,q⟩:=h;obtain⟨t,rfl⟩:=rx;obtain⟨t',rfl⟩:=ry;exact rule i j t t' s _ _ hc ⟨.int (g i j),H,I.tok _,⟨zQa⟩,q⟩
theorem QD{f:g7->g7->Sem g7}{g:Int->Int->Int}
  (rule:∀(i j:Int) (t u:Tok) (s:g8) (Q:g7->g8->Prop) (E:g7->g8->Prop),Q (.int (g i j) s.toks) { s with toks:=s.toks + 1 }->wpAny (model X.prog X.w) X.A (f (.int i t) (.int j u)) Q E s) :
  OpR X f (rI0 fun i j=>.int (g i j)):=by
 intro pins s σ H x y v u Q I rx ry h;obtain⟨i,j,rfl,rfl,q⟩:=h;obtain⟨t,rfl⟩:=rx;obtain⟨t',rfl⟩:=ry;exact rule i j t t' s _ _ ⟨.int (g i j),H,I.tok _,⟨zQa⟩,q⟩
theorem Kq{f:g7->g7->Sem g7}{g:Int->Int->Bool}
  (rule:∀(i j:Int) (t u:Tok) (s:g8) (Q:g7->g8->Prop) (E:g7->g8->Prop),Q (.bool (g i j)) s->wpAny (model X.prog X.w) X.A (f (.int i t) (.int j u)) Q E s) :
  OpR X f (rI0 fun i j=>.bl (g i j)):=by
 intro pins s σ H x y v u Q I rx ry h;obtain⟨i,j,rfl,rfl,q⟩:=h;obtain⟨t,rfl⟩:=rx;obtain⟨t',rfl⟩:=ry;exact rule i j t t' s _ _ ⟨.bl (g i j),H,I,rfl,q⟩
def QU (i j:Int):Prop:=0 < j/\j < 1073741824
def No (i j:Int):Prop:=(-(2 ^ 64) < i/\i < 2 ^ 64)\/(-(2 ^ 64) < j/\j < 2 ^ 64)
theorem No.ok{i j:Int}(h:No i j):IntMulOk i j:=by
 rcases h with ⟨h1,h2⟩ | ⟨h1,h2⟩
 ·exact .of_left (intBits_le_64 h1 h2)
 ·exact .of_right (intBits_le_64 h1 h2)
theorem bZ:OpR X (binaryOp .Add) (rI0 fun i j=>.int (i + j)):=QD fun _ _ _ _ _ _ _ q=>add_int q
theorem wO:OpR X (binaryOp .Mult) (rI No fun i j=>.int (i * j)):=opI fun _ _ _ _ _ _ _ hc q=>mul_int q hc.ok
theorem lJ:OpR X (binaryOp .FloorDiv) (rI QU fun i j=>.int (i / j)):=opI fun i j _ _ _ _ _ hc q=>by
 have h1:(0:Int) < j:=hc.1;have h2:j < 1073741824:=hc.2;exact floordiv_int (by omega) (by rw [Int.fdiv_eq_ediv_of_nonneg i (by omega)]; exact q) (.inl (PyProof.noPylong_small (by omega)))
theorem aZ:OpR X (binaryOp .Mod) (rI (fun _ j=>0 < j) fun i j=>.int (i % j)):=opI fun i j _ _ _ _ _ hc q=>by
 have h1:(0:Int) < j:=hc;exact mod_int' (by omega) (by rw [Int.fmod_eq_emod_of_nonneg i (by omega)]; exact q)
theorem unI{f:g7->Sem g7}{g:Int->Int}
  (rule:∀(i:Int) (t:Tok) (s:g8) (Q:g7->g8->Prop) (E:g7->g8->Prop),Q (.int (g i) s.toks) { s with toks:=s.toks + 1 }->wpAny (model X.prog X.w) X.A (f (.int i t)) Q E s) :
  UnR X f (rU fun i=>.int (g i)):=by
 intro pins s σ H x v Q I rx h;obtain⟨i,rfl,q⟩:=h;obtain⟨t,rfl⟩:=rx;exact rule i t s _ _ ⟨.int (g i),H,I.tok _,⟨zQa⟩,q⟩
theorem pW:UnR X (unaryOp .USub) (rU fun i=>.int (-i)):=unI fun _ _ _ _ _ q=>neg_int q
end
def Pb:V->V->Bool
 | .non,.non=>true | .non,.int _=>true | .int _,.non=>true | .non,.bl _=>true | .bl _,.non=>true | .non,.str _=>true | .str _,.non=>true
 | .int _,.int _=>true | .bl _,.bl _=>true | .str _,.str _=>true | .byt _,.byt _=>true
 | .int _,.str _=>true | .str _,.int _=>true | .bl _,.str _=>true | .str _,.bl _=>true
 | _,_=>false
def rEq:R2:=fun x y H Q=>Pb x y=true/\Q (.bl (decide (x=y))) H
def rNe:R2:=fun x y H Q=>Pb x y=true/\Q (.bl (!decide (x=y))) H
theorem CY{i j:Int}:decide (V.int i=V.int j)=(i == j):=by
 rw [M4];simp
theorem HW{i j:Bool}:decide (V.bl i=V.bl j)=(i == j):=by
 rw [M4];simp
theorem fB{i j:Str}:decide (V.str i=V.str j)=(i == j):=by
 rw [M4];simp
theorem Cf{i j:Array UInt8}:decide (V.byt i=V.byt j)=(i.toList == j.toList):=by
 rw [M4];cases i;cases j;simp
section
variable {X:Cx} {a b c:Expr} {ta tb tc:TE} {pos:Pos}
theorem bq{pins:List (Addr×Obj)}{σ:St}{H:Hp}{s:g8}{Q:VK}{k k':Bool}(I:Inv X pins σ H s)(q:Q (.bl k) H)(e:k=k'):EP X pins σ Q (.bool k') s:=by
 subst e;exact⟨.bl k,H,I,rfl,q⟩
theorem cB:OpR X (compareOp .Eq) rEq:=by
 intro pins s σ H x y v u Q I rx ry h;obtain⟨hs,q⟩:=h;cases x with
 | non =>
  cases rx;cases y with
  | non=>cases ry; exact PySem.EqNone.eq_none_none (bq I q (by simp))
  | bl j=>cases ry; exact PySem.EqNone.eq_none_bool (bq I q (by simp))
  | int j=>obtain⟨t',rfl⟩:=ry; exact PySem.EqNone.eq_none_int (bq I q (by simp))
  | str j=>obtain⟨t',rfl⟩:=ry; exact PySem.EqNone.eq_none_str (bq I q (by simp))
  | _=>exact absurd (show false=true from hs) y8
 | bl i =>
  cases rx;cases y with
  | non=>cases ry; exact PySem.EqNone.eq_bool_none (bq I q (by simp))
  | bl j=>cases ry; exact eq_bool (bq I q HW)
  | str j=>obtain⟨t',rfl⟩:=ry; exact PySem.EqMixed.eq_bool_str (bq I q (by simp))
  | _=>exact absurd (show false=true from hs) y8
 | int i =>
  obtain⟨t,rfl⟩:=rx;cases y with
  | non=>cases ry; exact PySem.EqNone.eq_int_none (bq I q (by simp))
  | int j=>obtain⟨t',rfl⟩:=ry; exact eq_int (bq I q CY)
  | str j=>obtain⟨t',rfl⟩:=ry; exact PySem.EqMixed.eq_int_str (bq I q (by simp))
  | _=>exact absurd (show false=true from hs) y8
 | str i =>
  obtain⟨t,rfl⟩:=rx;cases y with
  | non=>cases ry; exact PySem.EqNone.eq_str_none (bq I q (by simp))
  | bl j=>cases ry; exact PySem.EqMixed.eq_str_bool (bq I q (by simp))
  | int j=>obtain⟨t',rfl⟩:=ry; exact PySem.EqMixed.eq_str_int (bq I q (by simp))
  | str j=>obtain⟨t',rfl⟩:=ry; exact eq_str (bq I q fB)
  | _=>exact absurd (show false=true from hs) y8
 | byt i =>
  obtain⟨t,rfl⟩:=rx;cases y with
  | byt j=>obtain⟨t',rfl⟩:=ry; exact PySem.W.eq_bytes (bq I q Cf)
  | _=>exact absurd (show false=true from hs) y8
 | _=>cases y <;> exact absurd (show false=true from hs) y8
theorem mF:OpR X (compareOp .NotEq) rNe:=by
 intro pins s σ H x y v u Q I rx ry h;obtain⟨hs,q⟩:=h;cases x with
 | non =>
  cases rx;cases y with
  | non=>cases ry; exact PySem.EqNone.ne_none_none (bq I q (by simp))
  | bl j=>cases ry; exact PySem.EqNone.ne_none_bool (bq I q (by simp))
  | int j=>obtain⟨t',rfl⟩:=ry; exact PySem.EqNone.ne_none_int (bq I q (by simp))
  | str j=>obtain⟨t',rfl⟩:=ry; exact PySem.EqNone.ne_none_str (bq I q (by simp))
  | _=>exact absurd (show false=true from hs) y8
 | bl i =>
  cases rx;cases y with
  | non=>cases ry; exact PySem.EqNone.ne_bool_none (bq I q (by simp))
  | bl j=>cases ry; exact ne_bool (bq I q (congrArg not HW))
  | str j=>obtain⟨t',rfl⟩:=ry; exact PySem.EqMixed.ne_bool_str (bq I q (by simp))
  | _=>exact absurd (show false=true from hs) y8
 | int i =>
  obtain⟨t,rfl⟩:=rx;cases y with
  | non=>cases ry; exact PySem.EqNone.ne_int_none (bq I q (by simp))
  | int j=>obtain⟨t',rfl⟩:=ry; exact ne_int (bq I q (congrArg not CY))
  | str j=>obtain⟨t',rfl⟩:=ry; exact PySem.EqMixed.ne_int_str (bq I q (by simp))
  | _=>exact absurd (show false=true from hs) y8
 | str i =>
  obtain⟨t,rfl⟩:=rx;cases y with
  | non=>cases ry; exact PySem.EqNone.ne_str_none (bq I q (by simp))
  | bl j=>cases ry; exact PySem.EqMixed.ne_str_bool (bq I q (by simp))
  | int j=>obtain⟨t',rfl⟩:=ry; exact PySem.EqMixed.ne_str_int (bq I q (by simp))
  | str j=>obtain⟨t',rfl⟩:=ry; exact ne_str (bq I q (congrArg not fB))
  | _=>exact absurd (show false=true from hs) y8
 | byt i =>
  obtain⟨t,rfl⟩:=rx;cases y with
  | byt j=>obtain⟨t',rfl⟩:=ry; exact PySem.W.ne_bytes (bq I q (congrArg not Cf))
  | _=>exact absurd (show false=true from hs) y8
 | _=>cases y <;> exact absurd (show false=true from hs) y8
theorem Mg:OpR X (compareOp .Lt) (rI0 fun i j=>.bl (decide (i < j))):=Kq fun _ _ _ _ _ _ _ q=>lt_int q
theorem kg:OpR X (compareOp .LtE) (rI0 fun i j=>.bl (decide (i<=j))):=Kq fun _ _ _ _ _ _ _ q=>le_int q
theorem oM:OpR X (compareOp .Gt) (rI0 fun i j=>.bl (decide (j < i))):=Kq fun _ _ _ _ _ _ _ q=>gt_int q
theorem Qd:OpR X (compareOp .GtE) (rI0 fun i j=>.bl (decide (j<=i))):=Kq fun _ _ _ _ _ _ _ q=>ge_int q
theorem vN:OpR X (compareOp .In) (fun x y H Q => ∃ i j,x = .str i/\y = .str j/\Q (.bl (!(ak8 j i 0 j.length 1).isEmpty)) H):=by
 intro pins s σ H x y v u Q I rx ry h;obtain⟨i,j,rfl,rfl,q⟩:=h;obtain⟨t,rfl⟩:=rx;obtain⟨t',rfl⟩:=ry;exact in_str (bq I q rfl)
theorem At:OpR X (compareOp .Is) (fun x y H Q=>y = .non/\Q (.bl (decide (x = .non))) H):=by
  intro pins s σ H x y v u Q I rx ry h;obtain⟨rfl,q⟩:=h;cases ry;refine is_none_gen (bq I q ?_);cases x <;> first
    | (cases rx; rfl)
    | (obtain⟨t,rfl⟩:=rx; rfl)
theorem aJ(b:Expr){op:CmpOp}(h:op≠.In:=by decide)(h2:op≠.NotIn:=by decide):behindInMarks op b=false:=by
 have e1:(op == CmpOp.In)=false:=by cases op <;> first | rfl | exact absurd rfl h
 have e2:(op == CmpOp.NotIn)=false:=by cases op <;> first | rfl | exact absurd rfl h2
 cases b <;> simp [behindInMarks,e1,e2]
theorem br{op:CmpOp}{r:R2}(ho:OpR X (compareOp op) r)(ha:PE X a ta)(hb:PE X b tb)(hm:behindInMarks op b=false):PE X (.Compare a [op] [b] pos) (tOp r ta tb):=by
 intro pins s σ H Q I h;exact wpAny_Compare1 (NP ha hb I h fun v u s2 x y H2 I2 rx ry q=>ho pins s2 σ H2 x y v u Q I2 rx ry q) hm
def Mf (t:TE):TT:=fun σ H Q=>t σ H fun x H' => ∃ k,x = .bl k/\Q k H'
theorem aB{op:CmpOp}{r:R2}(ho:OpR X (compareOp op) r)(ha:PE X a ta)(hb:PE X b tb)(hm:behindInMarks op b=false):PT X (.Compare a [op] [b] pos) (Mf (tOp r ta tb)):=by
 intro pins s σ H Q I h;refine wpAny_isTrue_Compare1 (thn (ha pins s σ H _ I h) fun v s1 ⟨x,H1,I1,r1,q1⟩=>thn (hb pins s1 σ H1 _ I1 q1) fun u s2 ⟨y,H2,I2,r2,q2⟩ =>
  thn (ho pins s2 σ H2 x y v u _ I2 r1 r2 q2) fun c s3 ⟨z,H3,I3,r3,k,e,q3⟩=>?_) hm
 subst e;cases r3;exact K7 ⟨H3,I3,q3⟩
def Ij (r r':R2)(ta tb tc:TE):TE:=fun σ H Q=>ta σ H fun x H1=>tb σ H1 fun y H2=>r x y H2 fun z H3 => ∃ k,z = .bl k /\
 (if k=true then tc σ H3 fun w' H4=>r' y w' H4 Q else Q (.bl false) H3)
theorem nW{op op':CmpOp}{r r':R2}(ho:OpR X (compareOp op) r)(ho':OpR X (compareOp op') r')(ha:PE X a ta)(hb:PE X b tb)(hc:PE X c tc)
  (hm:lastMarks [op,op'] [b,c]=false:=by with_unfolding_all rfl):PE X (.Compare a [op,op'] [b,c] pos) (Ij r r' ta tb tc):=by
 intro pins s σ H Q I h;refine Compare_chain (thn (ha pins s σ H _ I h) fun v s1 ⟨x,H1,I1,r1,q1⟩=>chain_link (thn (hb pins s1 σ H1 _ I1 q1) fun u s2 ⟨y,H2,I2,r2,q2⟩ =>
  thn (ho pins s2 σ H2 x y v u _ I2 r1 r2 q2) fun d s3 ⟨z,H3,I3,r3,k,e,q3⟩=>?_)) hm
 subst e;cases r3;refine K7 ?_;cases k with
 | false=>exact ite_ff ⟨.bl false,H3,I3,rfl,q3⟩
 | true=>exact ite_tt (chain_last (thn (hc pins s3 σ H3 _ I3 q3) fun w' s4 ⟨z',H4,I4,r4,q4⟩=>ho' pins s4 σ H4 y z' u w' Q I4 r2 r4 q4))
theorem zy{op op':CmpOp}{r r':R2}(ho:OpR X (compareOp op) r)(ho':OpR X (compareOp op') r')(ha:PE X a ta)(hb:PE X b tb)(hc:PE X c tc)
  (hm:lastMarks [op,op'] [b,c]=false:=by with_unfolding_all rfl):PT X (.Compare a [op,op'] [b,c] pos) (Mf (Ij r r' ta tb tc)):=by
 intro pins s σ H Q I h;refine isTrue_chain (thn (ha pins s σ H _ I h) fun v s1 ⟨x,H1,I1,r1,q1⟩=>test_link (thn (hb pins s1 σ H1 _ I1 q1) fun u s2 ⟨y,H2,I2,r2,q2⟩ =>
  thn (ho pins s2 σ H2 x y v u _ I2 r1 r2 q2) fun d s3 ⟨z,H3,I3,r3,k,e,q3⟩=>?_)) hm
 subst e;cases r3;refine K7 ?_;cases k with
 | false =>
  obtain⟨k',e',q'⟩:=q3;cases e';exact ite_ff ⟨H3,I3,q'⟩
 | true =>
  refine ite_tt (test_last (thn (hc pins s3 σ H3 _ I3 q3) fun w' s4 ⟨z',H4,I4,r4,q4⟩=>thn (ho' pins s4 σ H4 y z' u w' _ I4 r2 r4 q4) fun d' s5 ⟨z2,H5,I5,r5,k2,e2,q5⟩=>?_));subst e2;cases r5;exact K7 ⟨H5,I5,q5⟩
def Qj (K:i3)(x:V)(H:Hp)(k:Bool):Prop :=
 match x with
 | .non=>k=false
 | .bl b=>k=b
 | .int i=>k=(i != 0)
 | .str y=>y.length<=sizeLine/\k=((y.length:Int) != 0)
 | .byt y=>y.size<=sizeLine/\k=((y.size:Int) != 0)
 | .ref p=>(∃ xs,SqL K H p xs/\k = !xs.isEmpty)\/(∃ xs,SqT K H p xs/\k = !xs.isEmpty)\/∃ kvs,H p=some (.dK kvs)/\k = !kvs.isEmpty
 | _=>False
theorem BK{κ:Type}{kvs:List (κ×V)}{vs:List (κ×g7)}(r:KV kvs vs):(!vs.isEmpty) = !kvs.isEmpty:=by
 cases r <;> rfl
theorem tH{xs:List V}{its:List g7}(r:aU xs its):(!its.toArray.isEmpty) = !xs.isEmpty:=by
 cases r <;> simp
theorem jf:(sizeLine:Nat) < 2 ^ 63:=by rw [J8]; decide
theorem NR:QV X (fun x H Q => ∃ k,Qj X.K x H k/\Q k H):=by
 intro pins s σ H x v Q I rx h;obtain⟨k,e,q⟩:=h;have hl:=jf;have hs:sizeLine=16777216:=J8;cases x with
 | non =>
  cases rx;have e':k=false:=e;subst e';exact truthy_none ⟨H,I,q⟩
 | bl b =>
  cases rx;have e':k=b:=e;subst e';exact K7 ⟨H,I,q⟩
 | int i =>
  obtain⟨t,rfl⟩:=rx;have e':k=(i != 0):=e;subst e';exact PySem.P.truthy_int ⟨H,I,q⟩
 | str y =>
  obtain⟨t,rfl⟩:=rx;obtain⟨hy,e'⟩:y.length<=sizeLine/\k=((y.length:Int) != 0):=e;subst e';exact PySem.P.truthy_str (by omega) ⟨H,I.tok _,q⟩
 | byt y =>
  obtain⟨t,rfl⟩:=rx;obtain⟨hy,e'⟩:y.size<=sizeLine/\k=((y.size:Int) != 0):=e;subst e';exact PySem.W.truthy_bytes (by omega) ⟨H,I.tok _,q⟩
 | ref p =>
  cases rx;have e':(∃ xs,SqL X.K H p xs/\k = !xs.isEmpty)\/(∃ xs,SqT X.K H p xs/\k = !xs.isEmpty)\/∃ kvs,H p=some (.dK kvs)/\k = !kvs.isEmpty:=e;rcases e' with ⟨xs,hx,e'⟩ | ⟨xs,hx,e'⟩ | ⟨kvs,hx,e'⟩
  ·subst e'
   obtain⟨its,r,pl,hz⟩:=I.list hx;have hlen:=r.length;exact wpAny_truthy_list pl.isList (by simp only [l9]; omega) ⟨H,I.tok _,by rw [tH r]; exact q⟩
  ·subst e'
   obtain⟨its,r,pl,hz⟩:=I.tuple hx;have hlen:=r.length;exact truthy_tuple pl (by simp only [l9]; omega) ⟨H,I.tok _,by rw [tH r]; exact q⟩
  ·subst e'
   obtain⟨hz,hS,vs,r,m⟩:kvs.length<=sizeLine/\(p == sysModules)=false/\∃ vs,KV kvs vs/\s.heap.DictOf (bJ X.prog X.w) p vs:=I.hok p _ hx;have hlen:kvs.length=vs.length:=Y4 r;exact wpAny_truthy_dict hS m (by omega) ⟨H,I.tok _,by rw [BK r]; exact q⟩
 | _=>exact(show False from e).elim
theorem ox(ha:PE X a ta)(he:∀ whole,isTrue a X.env whole=(do let v <- whole; standAt a.pos; holding [v] (truthy v))) :
  PT X a (fun σ H Q=>ta σ H fun x H' => ∃ k,Qj X.K x H' k/\Q k H'):=by
 intro pins s σ H Q I h;exact isTrue_plain (thn (ha pins s σ H _ I h) fun v s1 ⟨x,H1,I1,r1,q1⟩=>NR pins s1 σ H1 x v Q I1 r1 q1) (he _)
theorem jw:OpR X (binaryOp .Add) (fun x y H Q => ∃ i j,x = .str i/\y = .str j/\i.length + j.length<=sizeLine/\Q (.str (i ++ j)) H):=by
 intro pins s σ H x y v u Q I rx ry h;obtain⟨i,j,rfl,rfl,hz,q⟩:=h;obtain⟨t,rfl⟩:=rx;obtain⟨t',rfl⟩:=ry;exact add_str (fun t' tk=>⟨.str (i ++ j),H,I.tok _,⟨zQa⟩,q⟩) hz
theorem iy{x:V}{us:List g7}(r:aU [x] us):∃ u,us=[u]/\bg x u:=by
 cases r with
 | cons r1 r2=>cases r2; exact⟨zQa,r1⟩
theorem Hd{x y:V}{us:List g7}(r:aU [x,y] us):∃ u w',us=[u,w']/\bg x u/\bg y w':=by
 cases r with
 | cons r1 r2 =>
  cases r2 with
  | cons r3 r4=>cases r4; exact⟨_,zQa,r1,r3⟩
theorem Dm:gS X (.type "int") (fun xs H Q=>(∃ i,xs=[.int i]/\Q (.int i) H)\/∃ k,xs=[.bl k]/\Q (.int (if k then 1 else 0)) H):=by
 intro pins s σ H xs us Q I r h;rcases h with ⟨i,rfl,q⟩ | ⟨k,rfl,q⟩
 ·obtain⟨u,rfl,t,rfl⟩:=iy r
  exact call_int_int ⟨.int i,H,I,⟨zQa⟩,q⟩
 ·obtain⟨u,rfl,r1⟩:=iy r
  cases r1;exact call_int_bool ⟨.int (if k then 1 else 0),H,I.tok _,⟨zQa⟩,q⟩
theorem oJ:gS X (.type "str") (fun xs H Q => ∃ i,xs=[.int i]/\i.natAbs.log2 < 1920/\Q (.str (toString i)) H):=by
 intro pins s σ H xs us Q I r h;obtain⟨i,rfl,hz,q⟩:=h;obtain⟨u,rfl,t,rfl⟩:=iy r;exact PySem.P.str_of_int hz ⟨.str _,H,I.tok _,⟨zQa⟩,q⟩
theorem EX:gS X (.builtin "ord") (fun xs H Q => ∃ x,xs=[.str x]/\x.length=1/\Q (.int (x.cps.getD 0 0:Nat)) H):=by
 intro pins s σ H xs us Q I r h;obtain⟨x,rfl,hz,q⟩:=h;obtain⟨u,rfl,t,rfl⟩:=iy r;exact ord_of_one hz ⟨.int _,H,I.tok _,⟨zQa⟩,q⟩
end
structure ObjM(h:Heap)(x dx C:Addr)(mA:Str->Option g7):Prop where
 obj:h.get? x=some (O8 C dx)
 ns:h.Ns1 dx mA
 ne:dx≠x
theorem Ei{h:Heap}{dx:Addr}{mA:Str->Option g7}(n:h.Ns1 dx mA):∃ od,h.get? dx=some od/\∀ name,Z3 name od=some (mA name):=by
 obtain⟨o,es,ep,ho,hd,hk,_,hm⟩:=n;refine⟨o,ho,fun name=>?_⟩;have e:=hm name;unfold nsFind findBy at e;rw [<- Array.find?_toList] at e;unfold Z3;rw [hd];dsimp only;split
 ·rename_i y q
  rw [q] at e;exact congrArg some e
 ·rename_i q
  rw [q] at e;have a:es.toList.any (·.refKey)=false:=by
   rw [List.any_eq_false];intro y hy;obtain⟨z,t,hkey⟩:=hk y (Z4.mp hy);simp [V7.refKey,hkey]
  have a':¬ es.toList.any (·.refKey)=true:=by rw [a]; exact y8
  rw [if_neg a'];exact congrArg some e
theorem ObjM.look{h:Heap}{x dx C:Addr}{mA:Str->Option g7}(I:ObjM h x dx C mA):∃ od,PySem.W.InstAt h x (O8 C dx) C (some od)/\∀ name,Z3 name od=some (mA name) :=
 let ⟨od,ho,hl⟩:=Ei I.ns
 ⟨od,⟨I.obj,rfl,rfl,ho⟩,hl⟩
section
variable {prog:i8} {w:i7} {A:j0} {E:g7→g8→Prop} {s:g8} {K:i3} {x dx C f:Addr} {mA:Str→Option g7} {name:Str} {v:g7}
theorem Kx{expr:Bool}{Q:g7->g8->Prop}(X:K.In s.heap)(I:ObjM s.heap x dx C mA)(hg:Z5 K C name=true)(hh:ad9 K C=true)
  (ha:F3 K (.ref C) name=some none) (hv:mA name=some v) (hv':ak9 v=true) (h:Q v { s with toks:=s.toks + 1 }) :
  wpAny (model prog w) A (getAttr (.ref x) name expr) Q E s:=by
 obtain⟨od,J,hl⟩:=I.look;exact PySem.W.get_value X J (ae0 hg).1 (PySem.W.findObj_own hh ha rfl (by rw [hl,hv])) hv' h
theorem IE{pl:Sem Bool}{Q:g7×List g7->g8->Prop}(X:K.In s.heap)(I:ObjM s.heap x dx C mA)(hg:Z5 K C name=true)
  (hf:F3 K (.ref C) name=some (some (.ref f))) (ht:ae1 K (.ref f)=true) (hv:mA name=none) (h:Q (.ref f,[.ref x]) s) :
  wpAny (model prog w) A (getMethod (.ref x) name pl) Q E s:=by
 obtain⟨od,J,hl⟩:=I.look;exact PySem.W.method_fn X J (ae0 hg).1 (ae0 hg).2 hf (beq_iff_eq.mp ht) (by show(Z3 name od).map (·.isSome)=some false; rw [hl,hv]; rfl) h
theorem JN{ns:List Str}{Q:Unit->g8->Prop}(X:K.In s.heap)(I:ObjM s.heap x dx C mA)
  (hs:F3 K (.ref C) "__setattr__"=some (some (.builtin "object.__setattr__"))) (hp:al0 K C=true) (ht:ae2 K C name=some none) (hh:ad9 K C=true)
  (hw:Y5 mA ns) (hsz:ns.length<=sizeLine)
  (h:∀ h',ObjM h' x dx C (fun y=>if y=name then some v else mA y)->P7 dx s.heap h'->Q () { s with heap:=h',toks:=s.toks + 2 }) :
  wpAny (model prog w) A (setAttr (.ref x) name v) Q E s:=by
 obtain⟨od,J,hl⟩:=I.look;refine PySem.W.set_plain X J hs (PySem.W.osa_open (s:={ s with toks:=s.toks + 1 }) (r:=none) X J hp ht fun b=>?_)
 obtain⟨cd,hc,hd'⟩:=PySem.W.any_some hh;have hx:s.heap.get? x=some ⟨.ref C,some dx,.plain,#[]⟩:=I.obj;refine g9 (j8 (g9 (g9 (wpAny_loadPart hx (g9 (PySem.W.Looks.here (s:={ s with toks:=s.toks + 1 }) (PySem.W.looks_clsIn X hc) ?_))))))
 rw [hd'];refine j8 (a:=some dx) (g9 (j8 (g9 ?_)));refine wpAny_nsSet1 (s:={ s with toks:=s.toks + 1 }) I.ns fun h' hn2 hs2=>?_
 obtain⟨oD,esD,epD,hoD,hdD,hcD⟩:=hn2.count (Y5.cons name v hw);refine g9 (wpAny_lookBehind hoD (by rw [hdD]; exact pastItsLine_dict (B8 hcD (by rw [x9]; omega))) ?_)
 exact j8 (h _ ⟨(hs2.2 _ (w9 I.ne)).trans I.obj,hn2,I.ne⟩ hs2)
theorem HS{R:Result->g8->Prop}{vs:List g7}{kw:List (Str×g7)}(X:K.In s.heap)(hm:al1 K C=true)
  (hi:F3 K (.ref C) "__init__"=some (some (.ref f))) (hf:PySem.W.typeIn K (.ref f)=some (.type "function"))
  (h:codeAny (model prog w) (A.under (.builtin "type.__call__" ⟨.ref C :: vs,kw⟩)) (.call (.ref f) ⟨.ref (s.heap.objs.size + 1) :: vs,kw⟩) (PySem.W.InitBack (s.heap.objs.size + 1) R)
   { s with heap:=(s.heap.push N3).push (O8 C s.heap.objs.size) }) :
  codeAny (model prog w) A (.call (.ref C) ⟨vs,kw⟩) R s:=by
 obtain⟨hh,g,d,t,os⟩:=s;exact PySem.W.make_core (PySem.W.makes_of X hm) (PySem.W.looks_findIn X hi) (fun self=>PySem.W.bind_fn X self hf) (.inl rfl) h
end
def cJ (f:Str)(v:V):List (Str×V)->List (Str×V)
  | []=>[(f,v)]
  | (g,x) :: r=>if g=f then(g,v) :: r else(g,x) :: cJ f v r
theorem qz(f g:Str)(v:V):∀ fs:List (Str×V),(cJ f v fs).lookup g=if g=f then some v else fs.lookup g
  | []=>by
    show O9 g [(f,v)]=_;by_cases h:g=f
    · have hb:(g == f)=true:=beq_iff_eq.mpr h
      simp only [O9,hb,if_pos h]
    · have hb:(g == f)=false:=beq_eq_false_iff_ne.mpr h
      simp only [O9,hb,if_neg h]
  | (k,x) :: r=>by
    have ih:=qz f g v r;rw [show cJ f v ((k,x) :: r)=(if k=f then(k,v) :: r else(k,x) :: cJ f v r) from rfl]
    by_cases hk:k=f
    · rw [if_pos hk]
      by_cases h:g=k
      · have hb:(g == k)=true:=beq_iff_eq.mpr h
        simp only [O9,hb,if_pos (h.trans hk)]
      · have hb:(g == k)=false:=beq_eq_false_iff_ne.mpr h
        simp only [O9,hb,if_neg (fun e:g=f=>h (e.trans hk.symm))]
    · rw [if_neg hk]
      by_cases h:g=k
      · have hb:(g == k)=true:=beq_iff_eq.mpr h
        simp only [O9,hb,if_neg (fun e:g=f=>hk (h.symm.trans e))]
      · have hb:(g == k)=false:=beq_eq_false_iff_ne.mpr h
        simp only [O9,hb]
        exact ih
theorem pG(f:Str)(v:V):∀ fs:List (Str×V),f∈(cJ f v fs).map (·.1)/\∀ g,g∈fs.map (·.1)->g∈(cJ f v fs).map (·.1)
  | []=>⟨by simp [cJ],fun g h=>by simp at h⟩
  | (k,x) :: r=>by
    obtain⟨i1,i2⟩:=pG f v r;rw [show cJ f v ((k,x) :: r)=(if k=f then(k,v) :: r else(k,x) :: cJ f v r) from rfl]
    by_cases hk:k=f
    · rw [if_pos hk]
      subst hk;exact⟨by simp,fun g h=>by simpa using h⟩
    · rw [if_neg hk]
      refine⟨?_,fun g h=>?_⟩
      · rw [u6]
        exact u9 _ i1
      · rw [u6] at h ⊢
        rcases l6.mp h with e | e
        · exact l6.mpr (.inl e)
        · exact u9 _ (i2 g e)
theorem qx(f:Str)(v:V):∀ fs:List (Str×V),(cJ f v fs).length<=fs.length + 1
  | []=>by simp [cJ]
  | (k,x) :: r=>by
    have ih:=qx f v r;rw [show cJ f v ((k,x) :: r)=(if k=f then(k,v) :: r else(k,x) :: cJ f v r) from rfl]
    by_cases hk:k=f
    · rw [if_pos hk,x9,x9]; omega
    · rw [if_neg hk,x9,x9]; omega
theorem jd.some_of{v:V}{o:Option g7}(r:jd (some v) o):∃ u,o=some u/\bg v u:=by
 cases o with
 | none=>exact(show False from r).elim
 | some u=>exact⟨u,rfl,r⟩
theorem jd.none_of{o:Option g7}(r:jd none o):o=none:=by
 cases o with
 | none=>rfl
 | some u=>exact(show False from r).elim
theorem Db{v:V}{u:g7}(r:bg v u):ak9 u=true:=by
 cases v with
 | non=>cases (show u=E4 from r); rfl
 | bl b=>cases (show u=R8 b from r); rfl
 | int i=>obtain⟨t,e⟩:=(show ∃ t,u=G0 i t from r); cases e; rfl
 | str x=>obtain⟨t,e⟩:=(show ∃ t,u=O7 x t from r); cases e; rfl
 | byt b=>obtain⟨t,e⟩:=(show ∃ t,u=Value.bytes b t from r); cases e; rfl
 | flt b=>obtain⟨t,e⟩:=(show ∃ t,u=Y3 b t from r); cases e; rfl
 | ref a=>cases (show u=j7 a from r); rfl
 | ty n=>cases (show u=C7 n from r); rfl
section
variable {P:i8} {w:i7} {H H':Hp} {h h':Heap} {a C dx:Addr} {fs fs':List (Str×V)}
theorem nT(hok:HOk P w H h)(e:H a=some (.ins C dx fs)):∃ mA,ObjM h a dx C mA/\(∀ f,jd (fs.lookup f) (mA f))/\Y5 mA (fs.map (·.1))/\fs.length<=1000/\H dx=some (.own a):=by
 obtain⟨d,z,ne,ob,mA,n,r,q⟩:=(show bG P w H h a (.ins C dx fs) from hok a _ e)
 exact⟨mA,⟨ob,n,ne⟩,r,q,z,d⟩
end
structure Cls(K:i3)(C:Addr):Prop where
 pg:Z5 K C u7=true
 hd:ad9 K C=true
 po:al0 K C=true
 sa:F3 K (.ref C) "__setattr__"=some (some (.builtin "object.__setattr__"))
theorem Cls.get{K:i3}{C:Addr}(c:Cls K C)(f:Str):Z5 K C f=true:=c.pg
def nA (K:i3)(C:Addr)(f:Str):Prop:=F3 K (.ref C) f=some none
theorem nA.taker{K:i3}{C:Addr}{f:Str}(n:nA K C f):ae2 K C f=some none:=by
 unfold ae2;rw [show F3 K (.ref C) f=some none from n]
 rfl
structure Meth(K:i3)(C:Addr)(m:Str)(f:Addr):Prop where
 at_:F3 K (.ref C) m=some (some (.ref f))
 fn:ae1 K (.ref f)=true
 kp:J0 K (.ref f)=true
section
variable {X:Cx} {pins:List (Addr×Obj)} {σ:St} {H:Hp} {s:g8} {a C dx:Addr} {fs:List (Str×V)} {f:Str} {v:V} {A:j0} {E:g7→g8→Prop}
theorem Bb{b:Bool}{Q:g7->g8->Prop}(I:Inv X pins σ H s)(e:H a=some (.ins C dx fs))(c:Cls X.K C)(n:nA X.K C f)(l:fs.lookup f=some v)
  (h:∀ u s',Inv X pins σ H s'->bg v u->Q u s'):wpAny (model X.prog X.w) A (getAttr (.ref a) f b) Q E s:=by
 obtain⟨mA,O,r,_,_,_⟩:=nT I.hok e;obtain⟨u,hu,ru⟩:=jd.some_of (v:=v) (o:=mA f) (by rw [<- l]; exact r f)
 exact Kx I.kIn O (c.get f) c.hd n hu (Db ru) (h u _ (I.tok _) ru)
theorem nR{m:Str}{g:Addr}{pl:Sem Bool}{Q:g7×List g7->g8->Prop}(I:Inv X pins σ H s)(e:H a=some (.ins C dx fs))(c:Cls X.K C)(k:Meth X.K C m g)(l:fs.lookup m=none)
  (h:Q (.ref g,[.ref a]) s):wpAny (model X.prog X.w) A (getMethod (.ref a) m pl) Q E s:=by
 obtain⟨mA,O,r,_,_,_⟩:=nT I.hok e;have hn:mA m=none:=jd.none_of (by rw [<- l]; exact r m)
 exact IE I.kIn O (c.get m) k.at_ k.fn hn h
theorem Bw{y:V}{u:g7}{Q:Unit->g8->Prop}(I:Inv X pins σ H s)(e:H a=some (.ins C dx fs))(c:Cls X.K C)(n:nA X.K C f)(hl:fs.length < 1000)(ry:bg y u)
  (h:∀ s',Inv X pins σ (upd H a (.ins C dx (cJ f y fs))) s'->Q () s'):wpAny (model X.prog X.w) A (setAttr (.ref a) f u) Q E s:=by
 obtain⟨mA,O,r,wi,_,ho⟩:=nT I.hok e;have hz:(fs.map (·.1)).length<=sizeLine:=by rw [i4,J8]; omega
 refine JN I.kIn O c.sa c.po n.taker c.hd wi hz fun h' O' sb=>h _ ?_;have hd:∃ o,h'.get? dx=some o:=let ⟨o,_,_,e',_⟩:=O'.ns; ⟨o,e'⟩
 refine I.write (x:=a) (e:=dx) (by rw [e]; exact E2) (.inr ho) (fun b q hb z=>(sb.2 b hb).trans z) hd ?_
 refine⟨by rw [am O.ne]; exact ho,?_,O.ne,O'.obj,_,O'.ns,fun g=>?_,fun g hg=>?_⟩
 ·have:=qx f y fs; omega
 ·show jd ((cJ f y fs).lookup g) (if g=f then some u else mA g)
  rw [qz];by_cases q:g=f
  ·rw [if_pos q,if_pos q]; exact ry
  ·rw [if_neg q,if_neg q]; exact r g
 ·by_cases q:g=f
  ·rw [q]; exact(pG f y fs).1
  ·refine(pG f y fs).2 g (wi g fun z=>hg ?_)
   show(if g=f then some u else mA g)=none
   rw [if_neg q]; exact z
theorem Inv.made(I:Inv X pins σ H s):Inv X pins σ (upd (upd H s.heap.objs.size (.own (s.heap.objs.size + 1))) (s.heap.objs.size + 1) (.ins C s.heap.objs.size []))
  { s with heap:=(s.heap.push N3).push (O8 C s.heap.objs.size) }:=by
 have e1:(s.heap.push N3).get? s.heap.objs.size=some N3:=y6 s.heap rfl;have e2:((s.heap.push N3).push (O8 C s.heap.objs.size)).get? (s.heap.objs.size + 1)=some (O8 C s.heap.objs.size):=by
  have:=y6 (s.heap.push N3) (o:=O8 C s.heap.objs.size) rfl
  rwa [G1] at this
 have e3:(s.heap.push N3).Ns s.heap.objs.size (fun _=>none):=⟨N3,#[],_,e1,rfl,(fun e he=>absurd he (by simp)),fun _=>rfl⟩
 have I1:=I.laid (a:=s.heap.objs.size) (o:=.own (s.heap.objs.size + 1)) (h':=s.heap.push N3) (t':=s.toks) (fun b u q=>l7 _ q) (i6 _) ⟨_,e1⟩;refine I1.laid (a:=s.heap.objs.size + 1) (o:=.ins C s.heap.objs.size []) (t':=s.toks) (fun b u q=>l7 _ q) (V8 (G1 _ _)) ?_;have ne:s.heap.objs.size≠s.heap.objs.size + 1:=w6 (P9 _);refine⟨by rw [am ne,af],x5 _,ne,e2,fun _=>none,(Heap.Ns1.of_empty e3).at fun o q=>l7 _ q,fun _=>E2,fun y hy=>absurd rfl hy⟩
theorem JA{prog:i8}{w:i7}{env:Env}{e:Expr}{f:Str}{pos:Pos}{s:g8}{Q:g7->g8->Prop}(hb:attributeBase e f env (eval e env)=eval e env)
  (h:wpAny (model prog w) A (eval e env) (fun o s₁=>wpAny (model prog w) A (getAttr o f true) Q E s₁) E s):wpAny (model prog w) A (eval (.Attribute e f pos) env) Q E s :=
 Attribute_any_ h (by rw [arm_eval_Attribute,hb])
end
def QO (K:i3)(ta:TE)(f:Str):TE:=fun σ H Q=>ta σ H fun x H1 => ∃ a C dx fs v,x = .ref a/\H1 a=some (.ins C dx fs)/\Cls K C/\nA K C f/\fs.lookup f=some v/\Q v H1
def QH (K:i3)(ta tv:TE)(f:Str):TS:=fun D σ H=>tv σ H fun y H1=>ta σ H1 fun x H2 => ∃ a C dx fs,x = .ref a/\H2 a=some (.ins C dx fs)/\Cls K C/\nA K C f/\fs.length < 1000 /\
 D.nx σ (upd H2 a (.ins C dx (cJ f y fs)))
section
variable {X:Cx} {o e value:Expr} {f:Str} {pos pos' tpos:Pos} {ta tv:TE}
theorem oS(he:PE X e ta)(hb:attributeBase e f X.env (eval e X.env)=eval e X.env):PE X (.Attribute e f pos) (QO X.K ta f):=by
 intro pins s σ H Q I h;refine JA hb (thn (he pins s σ H _ I h) fun u s1 ⟨x,H1,I1,rx,a,C,dx,fs,v,ex,ea,c,n,l,q⟩=>?_);subst ex;obtain rfl:u=j7 a:=rx;exact Bb I1 ea c n l fun u' s2 I2 ru=>⟨v,H1,I2,ru,q⟩
theorem oX(ha:PE X o ta)(hv:PE X value tv)(hs:swapsWith value (some (.Attribute o f pos')) pos.line X.env=pure false):PS X (.Assign [.Attribute o f pos'] value pos) (QH X.K ta tv f):=by
 intro pins s σ H D I h;refine plainObj_wpAny_Assign_Attribute (thn (hv pins s σ H _ I h) fun u s1 ⟨y,H1,I1,ry,q⟩=>thn (ha pins s1 σ H1 _ I1 q) fun ov s2 ⟨x,H2,I2,rx,a,C,dx,fs,ex,ea,c,n,l,q2⟩=>?_) hs;subst ex;obtain rfl:ov=j7 a:=rx;exact Bw I2 ea c n l ry fun s3 I3=>⟨σ,_,I3,q2⟩
theorem KL{pl:Sem Bool}{m:Str}{apos:Pos}{args:List Expr}{pins:List (Addr×Obj)}{s:g8}{σ:St}{H:Hp}{Q:g7->g8->Prop}{te:TE}(he:PE X e te)(I:Inv X pins σ H s)
  (h:te σ H fun x H1 => ∃ a C dx fs g,x = .ref a/\H1 a=some (.ins C dx fs)/\Cls X.K C/\Meth X.K C m g/\fs.lookup m=none /\
   ∀ s1,Inv X pins σ H1 s1->wpAny (model X.prog X.w) X.A (callWith pos (.ref g) [.ref a] (backTo pos (starEach args X.env)) (backToKw pos (keywordEach [] X.env))) Q X.xe s1)
  (ht:eval (.Call (.Attribute e m apos) args [] pos) X.env=(do
   let ov <- eval e X.env
   standAt apos.atName
   let (f,first) <- holding [ov] (getMethod ov m pl)
   callWith pos f first (backTo pos (starEach args X.env)) (backToKw pos (keywordEach [] X.env)))) :
  wpAny (model X.prog X.w) X.A (eval (.Call (.Attribute e m apos) args [] pos) X.env) Q X.xe s:=by
 refine ae3 (pl:=pl) (thn (he pins s σ H _ I h) fun u s1 ⟨x,H1,I1,rx,a,C,dx,fs,g,ex,ea,c,k,l,q⟩=>?_) ht;subst ex;obtain rfl:u=j7 a:=rx;exact nR I1 ea c k l (q s1 I1)
end
section
variable {X:Cx} {pins:List (Addr×Obj)} {σ:St} {H:Hp} {s:g8} {A:j0} {E:g7→g8→Prop} {Q:g7→g8→Prop} {c:g7} {b:Bool}
inductive TyOf(K:i3)(H:Hp):V->g7->Prop where
 | non:TyOf K H .non (.type "NoneType")
 | bl (x:Bool):TyOf K H (.bl x) (.type "bool")
 | int (i:Int):TyOf K H (.int i) (.type "int")
 | str (x:Str):TyOf K H (.str x) (.type "str")
 | flt (x:UInt64):TyOf K H (.flt x) (.type "float")
 | lst {a:Addr} {xs:List V} (e:H a=some (.lst xs)):TyOf K H (.ref a) (.type "list")
 | frz {a:Addr} {o:Obj} {xs:List V} (e:H a=some (.frz o (.lst xs))):TyOf K H (.ref a) (.type "list")
 | tup {a:Addr} {xs:List V} (e:H a=some (.tup xs)):TyOf K H (.ref a) (.type "tuple")
 | dK {a:Addr} {kvs:List (Key×V)} (e:H a=some (.dK kvs)):TyOf K H (.ref a) (.type "dict")
 | dT {a:Addr} {kvs:List (List Key×V)} (e:H a=some (.dT kvs)):TyOf K H (.ref a) (.type "dict")
 | ins {a C dx:Addr} {fs:List (Str×V)} (e:H a=some (.ins C dx fs)) (cl:Cls K C) (ha:F3 K (.ref C) "__class__"=some (some (.builtin "object.__class__")))
   (hn:PySem.W.specialIn K (.builtin "object.__class__") "__get__"=some (some (.builtin "getset_descriptor.__get__"))) (htk:PySem.W.takesIn K (.builtin "object.__class__")=some true)
   (hm:PySem.W.mroIn K C (.type "object")=some true):TyOf K H (.ref a) (.ref C)
theorem DX{x:V}{u t:g7}(I:Inv X pins σ H s)(rx:bg x u)(ty:TyOf X.K H x t)(e:P0 X.K t c=some b)(h:∀ tk,Q (.bool b) { s with toks:=tk }) :
  wpAny (model X.prog X.w) A (call (.builtin "isinstance") [u,c]) Q E s:=by
 cases ty with
 | non=>cases (show u=E4 from rx); exact L1 al2 I.kIn E2 e (fun z=>nomatch z) h
 | bl y=>cases (show u=R8 y from rx); exact L1 al3 I.kIn E2 e (fun z=>nomatch z) h
 | int i=>obtain⟨t,q⟩:=(show ∃ t,u=G0 i t from rx); cases q; exact L1 al4 I.kIn E2 e (fun z=>nomatch z) h
 | str y=>obtain⟨t,q⟩:=(show ∃ t,u=O7 y t from rx); cases q; exact L1 al5 I.kIn E2 e (fun z=>nomatch z) h
 | flt y=>obtain⟨t,q⟩:=(show ∃ t,u=Y3 y t from rx); cases q; exact L1 al6 I.kIn E2 e (fun z=>nomatch z) h
 | @lst a xs ea =>
  cases (show u=j7 a from rx)
  obtain⟨_,_,n,_,h1⟩:=(show bG X.prog X.w H s.heap a (.lst xs) from I.hok a _ ea)
  exact L1 Z6 I.kIn ⟨_,h1,rfl⟩ e (fun z=>nomatch z) h
 | @frz a ob xs ea =>
  cases (show u=j7 a from rx)
  obtain⟨_,_,_,n,_,h1⟩:=(show bG X.prog X.w H s.heap a (.frz ob (.lst xs)) from I.hok a _ ea)
  exact L1 Z6 I.kIn ⟨_,h1,rfl⟩ e (fun z=>nomatch z) h
 | @tup a xs ea =>
  cases (show u=j7 a from rx)
  obtain⟨_,_,_,p⟩:=(show bG X.prog X.w H s.heap a (.tup xs) from I.hok a _ ea)
  obtain⟨o,h1,h2,_⟩:=p;exact L1 al7 I.kIn ⟨o,h1,h2⟩ e (fun z=>nomatch z) h
 | @dK a kvs ea =>
  cases (show u=j7 a from rx)
  obtain⟨_,_,vs,_,p⟩:=(show bG X.prog X.w H s.heap a (.dK kvs) from I.hok a _ ea)
  obtain⟨o,es,ep,h1,h2,_⟩:=p;exact L1 Z7 I.kIn ⟨o,h1,h2.1⟩ e (fun z=>nomatch z) h
 | @dT a kvs ea =>
  cases (show u=j7 a from rx)
  obtain⟨_,_,xs,_,o,es,ep,h1,h2,_⟩:=(show bG X.prog X.w H s.heap a (.dT kvs) from I.hok a _ ea)
  exact L1 Z7 I.kIn ⟨o,h1,h2.1⟩ e (fun z=>nomatch z) h
 | @ins a C dx fs ea cl ha hn htk hm =>
  cases (show u=j7 a from rx)
  obtain⟨mA,O,_⟩:=nT I.hok ea;obtain⟨od,J,_⟩:=O.look;exact L1 (al8 (cl.get _) cl.hd ha hn htk hm) I.kIn J e (fun z=>nomatch z) h
end
structure Room(k:Nat)(A:j0):Prop where
 hd:A.handled=none
 dp:A.depth + 3 * k + 5 < recursionLimit
 un:A.units + 16 * k + 200 < cLine
theorem Room.mono{j k:Nat}{A:j0}(r:Room k A)(h:j<=k):Room j A:=⟨r.hd,by have:=r.dp; omega,by have:=r.un; omega⟩
theorem Room.deeper{k:Nat}{A:j0}(r:Room (k + 1) A)(env:Env):Room k (A.deeper env) :=
 ⟨r.hd,by have:=r.dp; show A.depth + 1 + 3 * k + 5 < _; omega,by have:=r.un; show A.units + 3 + 16 * k + 200 < _; omega⟩
theorem BO{A:j0}{C:Addr}{us:List g7}{kw:List (Str×g7)}:(A.under (.builtin "type.__call__" ⟨.ref C :: us,kw⟩)).depth=A.depth + 1:=by
 first | rfl | simp [ae4,Code.weight,Code.isCreation,Code.isGuard,Code.isCaller,Code.frames,ae5,guardIds]
theorem Au{A:j0}{C:Addr}{us:List g7}{kw:List (Str×g7)}:(A.under (.builtin "type.__call__" ⟨.ref C :: us,kw⟩)).units=A.units + 1:=by
 first | rfl | simp [ae4,Code.cUnits,Code.frames,ae5]
theorem Room.make{k:Nat}{A:j0}(r:Room (k + 1) A)(C:Addr)(us:List g7)(kw:List (Str×g7)):Room k (A.under (.builtin "type.__call__" ⟨.ref C :: us,kw⟩)) :=
 ⟨r.hd,by have:=r.dp; rw [BO]; omega,by have:=r.un; rw [Au]; omega⟩
theorem Room.depth{k:Nat}{A:j0}(r:Room k A):A.depth < recursionLimit:=by have:=r.dp; omega
theorem Room.units{k:Nat}{A:j0}(r:Room k A):A.units + 64 < cLine:=by have:=r.un; omega
theorem Room.units0{k:Nat}{A:j0}(r:Room k A):A.units < cLine:=by have:=r.un; omega
def qQ:TA:=fun _ H Q=>Q [] H
def jP (ta:TE)(tr:TA):TA:=fun σ H Q=>ta σ H fun x H1=>tr σ H1 fun xs H2=>Q (x :: xs) H2
section
variable {X:Cx} {e:Expr} {es:List Expr} {te:TE} {t:TA} {pos:Pos}
theorem ae:PA X [] qQ:=fun _ _ _ _ H Q I h=>M5 ⟨[],H,I,.nil,h⟩
theorem aa(ha:PE X e te)(hr:PA X es t)(hs:starEach (e :: es) X.env=(false,eval e X.env) :: starEach es X.env:=by rfl):PA X (e :: es) (jP te t):=by
 intro pos pins s σ H Q I h;rw [hs];show wpAny _ _ (spliced ((false,eval e X.env) :: backTo pos (starEach es X.env))) _ _ s;refine M6 (thn (ha pins s σ H _ I h) fun u s1 ⟨x,H1,I1,r1,q1⟩=>?_);exact thn (hr pos pins s1 σ H1 _ I1 q1) fun us s2 ⟨xs,H2,I2,r2,q2⟩=>⟨x :: xs,H2,I2,.cons r1 r2,q2⟩
def Qo (t:TA):TE:=fun σ H Q=>t σ H fun xs H1=>xs.length<=sizeLine/\∀ p,H1 p=none->Q (.ref p) (upd H1 p (.tup xs))
def Qs (t:TA):TE:=fun σ H Q=>t σ H fun xs H1=>xs.length<=sizeLine/\∀ p,H1 p=none->Q (.ref p) (upd H1 p (.lst xs))
theorem bU{x1}(h:PA X es t):PE X (.Tuple es x1 pos) (Qo t):=by
 intro pins s σ H Q I hq;refine wpAny_Tuple_spliced (thn (h pos pins s σ H _ I hq) fun us s1 ⟨xs,H1,I1,r,z,q⟩=>⟨by rw [<- r.length]; exact z,?_⟩)
 have hf:H1 s1.heap.objs.size=none:=I1.hok.fresh (i6 _);refine⟨.ref s1.heap.objs.size,upd H1 s1.heap.objs.size (.tup xs),I1.laid (t':=s1.toks) (fun b u e=>l7 _ e) (i6 _) ?_,rfl,q _ hf⟩;exact⟨z,us,r,⟨_,y6 _ rfl,rfl,zQa⟩⟩
theorem bb(h:PA X es t):PE X (.List es pos) (Qs t):=by
 intro pins s σ H Q I hq;refine wpAny_List_spliced (thn (h pos pins s σ H _ I hq) fun us s1 ⟨xs,H1,I1,r,z,q⟩=>⟨by rw [<- r.length]; exact z,?_⟩)
 have hf:H1 s1.heap.objs.size=none:=I1.hok.fresh (i6 _);refine⟨.ref s1.heap.objs.size,upd H1 s1.heap.objs.size (.lst xs),I1.laid (t':=s1.toks) (fun b u e=>l7 _ e) (i6 _) ?_,rfl,q _ hf⟩;exact⟨z,us,0,r,y6 _ rfl⟩
end
abbrev Sp:=List V->Hp->VK->XK->Prop
abbrev CXT:=List Env->Hp->g8->XK->g7->g8->Prop
structure Env0(P:i8)(w:i7)(K:i3)(mg:Str->Option g7)(base:Heap)(A:j0)(outer:List Env)(s:g8)(H:Hp):Prop where
 frames:A.frames=some outer
 mod:Mod K mg base
 bs:∀ b o,base.get? b=some o->s.heap.get? b=some o/\H b=none
 bsz:base.objs.size<=s.heap.objs.size
 funs:s.heap.FunFrames base outer
 frf:∀ b∈frs outer,H b=none
 hok:HOk P w H s.heap
 bare:K6 s.gens
def CE (outer:List Env)(P:i8)(w:i7)(H:Hp)(s:g8)(Q:VK)(u:g7)(s':g8):Prop :=
 ∃ v H',s'.os=s.os/\K6 s'.gens/\Un (frs outer) [] H H' s.heap s'.heap/\HOk P w H' s'.heap/\bg v u/\Q v H'
def CR (CX:CXT)(outer:List Env)(P:i8)(w:i7)(H:Hp)(s:g8)(Q:VK)(E:XK)(r:Result)(s':g8):Prop :=
 match r with
 | .ok (.ret u)=>CE outer P w H s Q u s'
 | .ok _=>False
 | .error e=>CX outer H s E e s'
structure FnOk(P:i8)(w:i7)(K:i3)(mg:Str->Option g7)(base:Heap)(CX:CXT)(k:Nat)(f:Addr)(fd:i9)(ps:List Str)(sp:Sp):Prop where
 len:∀ vs H Q E,sp vs H Q E->vs.length=ps.length
 run:∀(A:j0) (outer:List Env) (s:g8) (H:Hp) (args:Args) (us:List g7) (vs:List V) (Q:VK) (E:XK),Room k A->Env0 P w K mg base A outer s H->S3 s fd args (ps.zip us)->aU vs us->sp vs H Q E ->
  codeAny (model P w) A (.call (.ref f) args) (CR CX outer P w H s Q E) s
theorem FnOk.mono{P:i8}{w:i7}{K:i3}{mg:Str->Option g7}{base:Heap}{CX:CXT}{j k:Nat}{f:Addr}{fd:i9}{ps:List Str}{sp:Sp}(F:FnOk P w K mg base CX j f fd ps sp)(h:j<=k) :
  FnOk P w K mg base CX k f fd ps sp:=⟨F.len,fun A outer s H args us vs Q E hr=>F.run A outer s H args us vs Q E (hr.mono h)⟩
theorem Env0.make{P:i8}{w:i7}{K:i3}{mg:Str->Option g7}{base:Heap}{A:j0}{outer:List Env}{s:g8}{H:Hp}(e:Env0 P w K mg base A outer s H)(C:Addr)(us:List g7)(kw:List (Str×g7)) :
  Env0 P w K mg base (A.under (.builtin "type.__call__" ⟨.ref C :: us,kw⟩)) outer s H:=⟨by first | exact e.frames | (simpa [ae4,Code.envs,ae5,pushEnvs] using e.frames),e.mod,e.bs,e.bsz,e.funs,e.frf,e.hok,e.bare⟩
section
variable {X:Cx} {pins:List (Addr×Obj)} {σ:St} {H:Hp} {s s':g8}
theorem Inv.env0(I:Inv X pins σ H s):Env0 X.prog X.w X.K X.mg X.base X.A X.stack s H :=
 ⟨I.ok.frames,I.ok.mod,I.bs,B8 I.ok.bsz I.sz,I.stack,I.stkFree,I.hok,I.bare⟩
theorem Inv.after{Q:VK}{u:g7}(I:Inv X pins σ H s)(h:CE X.stack X.prog X.w H s Q u s'):EP X pins σ Q u s':=by
 obtain⟨v,H',os,bare,un,hok,r,q⟩:=h;obtain⟨hh,g,d,t,os'⟩:=s';obtain rfl:os'=s.os:=os;exact⟨v,H',I.call (h':=hh) (g':=g) (d':=d) (t':=t) (ch:=[]) un hok bare (fun b z=>absurd z (by simp)),r,q⟩
end
def CL (sp:Sp)(dvs:List V)(E:XK)(t:TA):TE:=fun σ H Q=>t σ H fun vs H1=>sp (vs ++ dvs) H1 Q E
def NZ (C:Addr)(m:Str)(sp:Sp)(dvs:List V)(E:XK)(ta:TE)(t:TA):TE:=fun σ H Q=>ta σ H fun x H1 => ∃ a dx fs,x = .ref a/\H1 a=some (.ins C dx fs)/\fs.lookup m=none /\
 t σ H1 fun vs H2=>sp (x :: (vs ++ dvs)) H2 Q E
def Pa (C:Addr)(sp:Sp)(dvs:List V)(E:XK)(t:TA):TE:=fun σ H Q=>t σ H fun vs H1 => ∀ x dx,H1 x=none->H1 dx=none->dx≠x ->
 sp (.ref x :: (vs ++ dvs)) (upd (upd H1 dx (.own x)) x (.ins C dx [])) (fun v H2=>v = .non/\Q (.ref x) H2) E
def fP (K:i3)(fd:i9)(ps:List Str)(ds:List g7):Prop :=
 ∀(s:g8) (us:List g7),K.In s.heap->(us ++ ds).length=ps.length->S3 s fd ⟨us,[]⟩ (ps.zip (us ++ ds))
theorem fP.all{K:i3}{fd:i9}{ps:List Str}(h:∀ us:List g7,us.length=ps.length->bindArgs fd ⟨us,[]⟩=pure (ps.zip us)):fP K fd ps []:=fun s us _ hl=>by
 rw [Q0] at hl ⊢;exact .of_eq (h us hl)
def jI (CX:CXT)(X:Cx)(E:XK):Prop := ∀(pins:List (Addr×Obj)) (σ:St) (H:Hp) (s:g8) (e:g7) (s':g8),Inv X pins σ H s->CX X.stack H s E e s'->X.xe e s'
section
variable {X:Cx} {CX:CXT} {k:Nat} {f C:Addr} {fd:i9} {ps:List Str} {sp:Sp} {dvs:List V} {ds:List g7} {E:XK} {x m:Str} {p pos apos:Pos} {e o:Expr} {es:List Expr} {ta:TE} {t:TA}
theorem xR{pins:List (Addr×Obj)}{σ:St}{H:Hp}{s:g8}{Q:VK}{us:List g7}{vs:List V}(F:FnOk X.prog X.w X.K X.mg X.base CX k f fd ps sp)(hr:Room k X.A)(hb:fP X.K fd ps ds)(hd:aU dvs ds)(hx:jI CX X E)
  (I:Inv X pins σ H s) (r:aU vs us) (h:sp (vs ++ dvs) H Q E):wpAny (model X.prog X.w) X.A (call (.ref f) us) (EP X pins σ Q) X.xe s:=by
 have r2:aU (vs ++ dvs) (us ++ ds):=r.append hd;have hl:(us ++ ds).length=ps.length:=by rw [<- r2.length]; exact F.len _ _ _ _ h
 refine V9 (P1 (F.run X.A X.stack s H ⟨us,[]⟩ (us ++ ds) (vs ++ dvs) Q E hr I.env0 (hb s us I.kIn hl) r2 h) fun r s' hq=>?_);cases r with
 | error e=>exact hx pins σ H s e s' I hq
 | ok fl =>
  cases fl with
  | ret u=>exact I.after hq
  | next=>exact C9 hq
  | brk=>exact C9 hq
  | cont=>exact C9 hq
theorem ao(F:FnOk X.prog X.w X.K X.mg X.base CX k f fd ps sp)(hr:Room k X.A)(hg:Gl X x)(hm:X.mg x=some (.ref f))(hk:J0 X.K (.ref f)=true)(hb:fP X.K fd ps ds)(hd:aU dvs ds)(hx:jI CX X E)
  (ha:PA X (e :: es) t) (hdb:(x == ("__debug__" : Str))=false:=by decide) (he:starEach (e :: es) X.env=(false,eval e X.env) :: starEach es X.env:=by rfl) (hpl:(backTo pos (starEach es X.env)).any (·.1)=false:=by rfl) :
  PE X (.Call (.Name x p) (e :: es) [] pos) (CL sp dvs E t):=by
 intro pins s σ H Q I h;refine G6 (nX I hg hm ?_ hdb);refine ae6 (h₀:=X.base) I.ok.mod.kin hk (thn (ha pos pins s σ H _ I h) fun us s1 ⟨vs,H1,I1,r,q⟩=>⟨I1.kIn,?_⟩) he hpl;exact xR F hr hb hd hx I1 r q
theorem ES(F:FnOk X.prog X.w X.K X.mg X.base CX k f fd ps sp)(hr:Room k X.A)(hg:Gl X x)(hm:X.mg x=some (.ref f))(hk:J0 X.K (.ref f)=true)(hb:fP X.K fd ps ds)(hd:aU dvs ds)(hx:jI CX X E)
  (hdb:(x == ("__debug__" : Str))=false:=by decide):PE X (.Call (.Name x p) [] [] pos) (CL sp dvs E qQ):=by
 intro pins s σ H Q I h;refine G6 (nX I hg hm ?_ hdb);exact al9 I.kIn hk (xR (us:=[]) F hr hb hd hx I .nil h)
theorem xf{pl:Sem Bool}(he:PE X o ta)(c:Cls X.K C)(hm:Meth X.K C m f)(F:FnOk X.prog X.w X.K X.mg X.base CX k f fd ps sp)(hr:Room k X.A)(hb:fP X.K fd ps ds)(hd:aU dvs ds)(hx:jI CX X E)(ha:PA X (e :: es) t)
  (hst:starEach (e :: es) X.env=(false,eval e X.env) :: starEach es X.env:=by rfl) (hpl:(backTo pos (starEach es X.env)).any (·.1)=false:=by rfl)
  (ht:eval (.Call (.Attribute o m apos) (e :: es) [] pos) X.env=(do
   let ov <- eval o X.env
   standAt apos.atName
   let (f,first) <- holding [ov] (getMethod ov m pl)
   callWith pos f first (backTo pos (starEach (e :: es) X.env)) (backToKw pos (keywordEach [] X.env))):=by rfl) :
  PE X (.Call (.Attribute o m apos) (e :: es) [] pos) (NZ C m sp dvs E ta t):=by
 intro pins s σ H Q I h;refine ae3 (pl:=pl) (thn (he pins s σ H _ I h) fun u s1 ⟨x,H1,I1,rx,a,dx,fs,ex,ea,l,q⟩=>?_) ht;subst ex;obtain rfl:u=j7 a:=rx;refine nR I1 ea c hm l ?_;refine ae6 (first:=[.ref a]) (h₀:=X.base) I.ok.mod.kin hm.kp (thn (ha pos pins s1 σ H1 _ I1 q) fun us s2 ⟨vs,H2,I2,r,q2⟩=>⟨I2.kIn,?_⟩) hst hpl
 exact xR (us:=.ref a :: us) (vs:=.ref a :: vs) F hr hb hd hx I2 (.cons rfl r) q2
structure Mk(K:i3)(C f:Addr):Prop where
 makes:al1 K C=true
 init:F3 K (.ref C) "__init__"=some (some (.ref f))
 fn:ae1 K (.ref f)=true
 kp:J0 K (.ref C)=true
theorem FJ{pins:List (Addr×Obj)}{σ:St}{H:Hp}{s:g8}{Q:VK}{us:List g7}{vs:List V}(M:Mk X.K C f)(F:FnOk X.prog X.w X.K X.mg X.base CX k f fd ps sp)(hr:Room (k + 1) X.A)(hb:fP X.K fd ps ds)(hd:aU dvs ds)
  (hx:jI CX X E) (I:Inv X pins σ H s) (r:aU vs us)
  (h:∀ x dx,H x=none->H dx=none->dx≠x->sp (.ref x :: (vs ++ dvs)) (upd (upd H dx (.own x)) x (.ins C dx [])) (fun v H2=>v = .non/\Q (.ref x) H2) E) :
  wpAny (model X.prog X.w) X.A (call (.ref C) us) (EP X pins σ Q) X.xe s:=by
 have hq:=h (s.heap.objs.size + 1) s.heap.objs.size (I.hok.fresh (E6 _)) (I.hok.fresh (i6 _)) (w6 (P9 _));have I2:=Inv.made (C:=C) I;have r2:aU (V.ref (s.heap.objs.size + 1) :: (vs ++ dvs)) (j7 (s.heap.objs.size + 1) :: (us ++ ds)):=.cons rfl (r.append hd);have hl:(j7 (s.heap.objs.size + 1) :: us ++ ds).length=ps.length:=by
  have e:=r2.length;rw [F.len _ _ _ _ hq] at e;exact e.symm
 refine V9 (HS (f:=f) I.kIn M.makes M.init (beq_iff_eq.mp M.fn) (P1 (F.run _ X.stack _ _ ⟨j7 (s.heap.objs.size + 1) :: us,[]⟩ (j7 (s.heap.objs.size + 1) :: (us ++ ds)) _ _ E (hr.make C us [])
  (I2.env0.make C us []) (hb _ (j7 (s.heap.objs.size + 1) :: us) I2.kIn hl) r2 hq) fun r s' hq'=>?_))
 cases r with
 | error e=>exact hx pins σ _ _ e s' I2 hq'
 | ok fl =>
  cases fl with
  | ret u =>
   obtain⟨v,H',I3,rv,ev,q3⟩:=I2.after hq';subst ev;exact⟨rv,⟨V.ref (s.heap.objs.size + 1),H',I3,rfl,q3⟩⟩
  | next=>exact C9 hq'
  | brk=>exact C9 hq'
  | cont=>exact C9 hq'
theorem Jh(M:Mk X.K C f)(F:FnOk X.prog X.w X.K X.mg X.base CX k f fd ps sp)(hr:Room (k + 1) X.A)(hg:Gl X x)(hm:X.mg x=some (.ref C))(hb:fP X.K fd ps ds)(hd:aU dvs ds)(hx:jI CX X E)
  (ha:PA X (e :: es) t) (hdb:(x == ("__debug__" : Str))=false:=by decide) (he:starEach (e :: es) X.env=(false,eval e X.env) :: starEach es X.env:=by rfl) (hpl:(backTo pos (starEach es X.env)).any (·.1)=false:=by rfl) :
  PE X (.Call (.Name x p) (e :: es) [] pos) (Pa C sp dvs E t):=by
 intro pins s σ H Q I h;refine G6 (nX I hg hm ?_ hdb);refine ae6 (h₀:=X.base) I.ok.mod.kin M.kp (thn (ha pos pins s σ H _ I h) fun us s1 ⟨vs,H1,I1,r,q⟩=>⟨I1.kIn,?_⟩) he hpl;exact FJ M F hr hb hd hx I1 r q
end
structure FnScope(N P:List Str)(sc:j9):Prop where
 kind:sc.kind = .function
 co:sc.isCoroutine=false
 gen:sc.isGenerator=false
 nd:N.Nodup
 pre:N.take P.length=P
 par:∀ x∈P,sc.names.lookup x=some .local\/sc.names.lookup x=some .cell
 nofree:∀ y∈sc.names,y.2≠.free
theorem vZ{kindOf:Str->Option N4}{x:Str}:∀ {binds:List (Str×g7)} {m:Str->Option g7},(∀ v,(x,v) ∉ binds)->bindL kindOf binds m x=m x
  | [],_,_=>rfl
  | (n,v) :: r,m,h=>by
    unfold bindL;rw [vZ fun w hw=>h w (u9 _ hw)];split
    · have:x≠n:=by rintro rfl; exact h v l8
      simp [this]
    · rfl
theorem vW{kindOf:Str->Option N4}{x:Str}:∀ {binds:List (Str×g7)} {m:Str->Option g7},(∀ v,(x,v) ∉ binds)->bindC kindOf binds m x=m x
  | [],_,_=>rfl
  | (n,v) :: r,m,h=>by
    unfold bindC;rw [vW fun w hw=>h w (u9 _ hw)];split
    · rfl
    · have:x≠n:=by rintro rfl; exact h v l8
      simp [this]
theorem vV{kindOf:Str->Option N4}{x:Str}{v:g7}:∀ {P:List Str} {vs:List g7} {i:Nat} {m:Str->Option g7},P.Nodup->P[i]? = some x->vs[i]? = some v->kindOf x=some .local ->
  bindL kindOf (P.zip vs) m x=some v
 | [],_,_,_,_,h,_,_=>by simp at h
 | _ :: _,[],_,_,_,_,h,_=>by simp at h
 | p :: P,w :: vs,0,m,nd,h1,h2,hk=>by
  simp at h1 h2; subst h1; subst h2
  show bindL kindOf ((p,w) :: P.zip vs) m p=_;unfold bindL;rw [vZ fun v hv=>(G7.mp nd).1 (Z8 hv).1,if_pos hk];simp
 | p :: P,w :: vs,i + 1,m,nd,h1,h2,hk=>by
  show bindL kindOf ((p,w) :: P.zip vs) m x=_;unfold bindL;exact vV (i:=i) (G7.mp nd).2 (by simpa using h1) (by simpa using h2) hk
theorem vO{kindOf:Str->Option N4}{x:Str}{v:g7}:∀ {P:List Str} {vs:List g7} {i:Nat} {m:Str->Option g7},P.Nodup->P[i]? = some x->vs[i]? = some v->kindOf x≠some .local ->
  bindC kindOf (P.zip vs) m x=some v
 | [],_,_,_,_,h,_,_=>by simp at h
 | _ :: _,[],_,_,_,_,h,_=>by simp at h
 | p :: P,w :: vs,0,m,nd,h1,h2,hk=>by
  simp at h1 h2; subst h1; subst h2
  show bindC kindOf ((p,w) :: P.zip vs) m p=_;unfold bindC;rw [vW fun v hv=>(G7.mp nd).1 (Z8 hv).1,if_neg hk];simp
 | p :: P,w :: vs,i + 1,m,nd,h1,h2,hk=>by
  show bindC kindOf ((p,w) :: P.zip vs) m x=_;unfold bindC;exact vO (i:=i) (G7.mp nd).2 (by simpa using h1) (by simpa using h2) hk
def kt (N:List Str)(vs:List V):St:=vs.map some ++ A1 (N.length - vs.length) none
def fV (CX:CXT)(P:i8)(w:i7)(K:i3)(mg:Str->Option g7)(base:Heap)(N:List Str)(qual:Str)(scope:j9)(f:Addr)(cd:g7)(A:j0)(outer:List Env)(s:g8)(H:Hp)(E:XK):Cx where
 prog:=P
 w:=w
 K:=K
 mg:=mg
 base:=base
 A:=A.deeper (envOfC qual scope s.heap.objs.size f cd)
 N:=N
 s₀:=s
 H₀:=H
 env:=envOfC qual scope s.heap.objs.size f cd
 outer:=outer
 stack:=envOfC qual scope s.heap.objs.size f cd :: outer
 ex:=[]
 calm:=true
 fn:=fun _=>true
 pn:=[]
 xe:=fun e s'=>wpAny (model P w) (A.deeper (envOfC qual scope s.heap.objs.size f cd)) (leaving (envOfC qual scope s.heap.objs.size f cd) e) (fun _ s''=>CX outer H s E e s'') (fun e' s''=>CX outer H s E e' s'') s'
theorem yQ{sc:j9}{n:Nat}{x:Str}(h:sc.names.lookup x=some .cell):∃ c,(cellsFrom n sc.names []).lookup x=some c:=by
 have q:=ae7 sc.names n [] (.inl h);exact Option.isSome_iff_exists.mp q
theorem vp{CX:CXT}{P:i8}{w:i7}{K:i3}{mg:Str->Option g7}{base:Heap}{N ps:List Str}{qual:Str}{scope:j9}{f:Addr}{cd:g7}{A:j0}{outer:List Env}{s s1:g8}{H:Hp}{E:XK}{us:List g7}{vs:List V}
  (S:FnScope N ps scope) (hd:A.handled=none) (e0:Env0 P w K mg base A outer s H) (hl:vs.length=ps.length) (r:aU vs us)
  (x:InCallC s s.heap.objs.size (bindL (envOfC qual scope s.heap.objs.size f cd).kindOf (ps.zip us) fun _=>none) (cellsFrom (s.heap.objs.size + 1) scope.names []) (bindC (envOfC qual scope s.heap.objs.size f cd).kindOf (ps.zip us) fun _=>none) s1) :
  Inv (fV CX P w K mg base N qual scope f cd A outer s H E) [] (kt N vs) H s1:=by
 have hpl:ps.length<=N.length:=by have:=congrArg Q2 S.pre; rw [A0] at this; omega
 obtain⟨h1,tk,rfl,hk⟩:=x.done;have noA:∀ b:Addr,b ∉ (fV CX P w K mg base N qual scope f cd A outer s H E).ex:=fun b z=>absurd (show b∈([]:List Addr) from z) (by simp)
 refine⟨⟨e0.mod,S.kind,rfl,rfl,i6 _,fun y z c h1 h2=>?_,fun y hy=>?_,fun y c _ h=>?_,fun _=>hd,am0 e0.frames,.inr ⟨rfl,rfl⟩,fun b z=>absurd z (noA b),e0.bs,e0.bsz,fun b _ _=>noA b,fun b z=>absurd z (noA b),e0.funs,e0.frf⟩,
  rfl,e0.bare,Un.kept hk,⟨_,x.toInCall.ns,fun i y v h1 h2 h3=>?_⟩,fun y c h=>⟨_,x.cell y c h⟩,e0.hok.fresh (i6 _),fun y c h=>?_,fun p hp=>absurd (show p∈([]:List (Addr×Obj)) from hp) (by simp),e0.hok.kept hk,?_⟩
 ·exact name_of_addr x.apart (W1 h1) (W1 h2)
 ·have hy:scope.names.lookup y=some .cell\/scope.names.lookup y=some .free:=hy
  rcases hy with hy | hy
  ·exact yQ hy
  ·exact absurd rfl (S.nofree _ (W1 hy))
 ·exact E5 (x.above y c (W1 h))
 ·have hi:i < vs.length:=by
   unfold kt at h2;by_cases hi:i < vs.length
   ·exact hi
   ·rw [Q3 (by simpa using hi)] at h2
    rw [List.getElem?_replicate] at h2;split at h2 <;> cases h2
  have ha:vs[i]? = some v:=by
   unfold kt at h2;rw [Z9 (by simpa using hi),o0] at h2
   cases e:vs[i]? with
   | none=>rw [e] at h2; cases h2
   | some a=>rw [e] at h2; cases h2; rfl
  obtain⟨u,hu,rv⟩:=r.get ha;have hp:ps[i]? = some y:=by
   rw [<- S.pre,List.getElem?_take_of_lt (by omega)]; exact h1
  have ndP:ps.Nodup:=by rw [<- S.pre]; exact S.nd.sublist (am1 _ _)
  refine⟨u,rv,?_⟩;rcases S.par y (C5 hp) with k | k
  ·exact .inl ⟨k,vV ndP hp hu k⟩
  ·obtain⟨c,e⟩:=yQ (n:=s.heap.objs.size + 1) k
   refine .inr ⟨.inl k,c,e,?_⟩;have q:=x.cell y c e;rw [vO ndP hp hu (by show scope.names.lookup y≠_; rw [k]; decide)] at q
   exact q
 ·exact e0.hok.fresh (E5 (x.above y c (W1 h)))
 ·unfold kt
  show _=N.length;rw [A2,i4,List.length_replicate];omega
theorem Ii{CX:CXT}{P:i8}{w:i7}{K:i3}{mg:Str->Option g7}{base:Heap}{k:Nat}{f:Addr}{name qual:Str}{params:M7}{body:List Stmt}{scope:j9}{dV kV doc pm cdv ct oc:g7}{an od:Option Addr}
  {osl:Array (Option g7)} {N ps:List Str} {sp:Sp} (lk:K.lookup f=some ⟨oc,od,.func (M8 name qual params body scope dV kV doc pm an cdv ct),osl⟩) (hcd:L3 K cdv qual=true) (S:FnScope N ps scope)
  (len:∀ vs H Q E,sp vs H Q E->vs.length=ps.length)
  (hbody:∀(A:j0) (outer:List Env) (s:g8) (H:Hp) (vs:List V) (Q:VK) (E:XK),Room k (A.deeper (envOfC qual scope s.heap.objs.size f cdv))->sp vs H Q E ->
   ∃ t,PSs (fV CX P w K mg base N qual scope f cdv A outer s H E) body t/\t { nx:=fun _ H'=>Q .non H',rt:=Q } (kt N vs) H) :
  FnOk P w K mg base CX (k + 1) f (M8 name qual params body scope dV kV doc pm an cdv ct) ps sp:=by
 refine⟨len,fun A outer s H args us vs Q E hr e0 hb r hsp=>?_⟩;have hl:=len _ _ _ _ hsp;have KX:K.In s.heap:=e0.mod.kin.keeps fun b o e=>(e0.bs b o e).1;have lim:s.heap.NoLimit:=e0.mod.nolimit.keeps fun b o e=>(e0.bs b o e).1;have hkind:∀ y∈ps.zip us,scope.names.lookup y.1=some .local\/(scope.names.lookup y.1=some .cell/\((cellsFrom (s.heap.objs.size + 1) scope.names []).lookup y.1).isSome=true):=fun⟨n,v⟩ hy=>by
  rcases S.par n (Z8 hy).1 with q | q
  ·exact .inl q
  ·exact .inr ⟨q,ae7 _ _ _ (.inl q)⟩
 refine codeAny_call_function hr.depth (KX _ _ lk) rfl S.co S.gen rfl (am2 KX hcd) (hb _ _ _ _ ?_);refine am3 S.kind hkind fun env he s1 x=>?_;subst he;refine⟨lim.keeps x.toInCall.keep,codeAny_func ?_⟩;obtain⟨t,ht,hq⟩:=hbody A outer s H vs Q E (hr.deeper _) hsp;have I:Inv (fV CX P w K mg base N qual scope f cdv A outer s H E) [] (kt N vs) H s1:=vp S hr.hd e0 hl r x;refine C8 (ht [] s1 (kt N vs) H _ I hq) (fun fl s' hs=>?_) fun e s' hs=>hs;have fin:∀ {σ':St} {H':Hp} {v:V} {u:g7},Inv (fV CX P w K mg base N qual scope f cdv A outer s H E) [] σ' H' s'->bg v u->Q v H'->CE outer P w H s Q u s' :=
  fun {σ' H' v u} J rv q=>⟨v,H',J.os,J.bare,J.base,J.hok,rv,q⟩
 cases fl with
 | ret u =>
  obtain⟨v,σ',H',J,rv,q⟩:=hs;exact fin J rv q
 | next =>
  obtain⟨σ',H',J,q⟩:=hs;exact fin (v:=V.non) (u:=E4) J rfl q
 | brk =>
  obtain⟨_,_,_,q⟩:=hs;exact C9 q
 | cont =>
  obtain⟨_,_,_,q⟩:=hs;exact C9 q
section
variable {X:Cx} {x:Str} {p pos:Pos} {e:Expr} {es:List Expr} {t:TA} {id T:String} {r:List V→Hp→VK→Prop}
def tCB (r:List V->Hp->VK->Prop)(t:TA):TE:=fun σ H Q=>t σ H fun vs H1=>r vs H1 Q
theorem aq(hc:gS X (.builtin id) r)(hg:Gl X x)(hm:X.mg x=none)(hv:bootBuiltins x=some (.builtin id))(ha:PA X (e :: es) t)(hn:x≠"__name__" := by decide)(hdb:(x == ("__debug__" : Str))=false:=by decide)
  (he:starEach (e :: es) X.env=(false,eval e X.env) :: starEach es X.env:=by rfl) (hpl:(backTo pos (starEach es X.env)).any (·.1)=false:=by rfl):PE X (.Call (.Name x p) (e :: es) [] pos) (tCB r t):=by
 intro pins s σ H Q I h;refine G6 (dE I hg hm hv ?_ hn hdb);exact ae8 (thn (ha pos pins s σ H _ I h) fun us s1 ⟨vs,H1,I1,r1,q1⟩=>hc pins s1 σ H1 vs us Q I1 r1 q1) he hpl
theorem gC(hc:gS X (.type T) r)(hg:Gl X x)(hm:X.mg x=none)(hv:bootBuiltins x=some (.type T))(ha:PA X (e :: es) t)(hn:x≠"__name__" := by decide)(hdb:(x == ("__debug__" : Str))=false:=by decide)
  (he:starEach (e :: es) X.env=(false,eval e X.env) :: starEach es X.env:=by rfl) (hpl:(backTo pos (starEach es X.env)).any (·.1)=false:=by rfl):PE X (.Call (.Name x p) (e :: es) [] pos) (tCB r t):=by
 intro pins s σ H Q I h;refine G6 (dE I hg hm hv ?_ hn hdb);exact M3 (thn (ha pos pins s σ H _ I h) fun us s1 ⟨vs,H1,I1,r1,q1⟩=>hc pins s1 σ H1 vs us Q I1 r1 q1) he hpl
end
end L2
namespace HT
open PySem PyProof.Rows
section
variable {prog:i8} {w:i7} {A:j0} {E:g7→g8→Prop} {s:g8}
def sIx (n d:Nat):Option Int->Nat
 | none=>d
 | some v=>if v < 0 then(v + (n:Int)).toNat else min v.toNat n
theorem sIx_none(n d:Nat):sIx n d none=d:=rfl
theorem sIx_nat(n d k:Nat):sIx n d (some (k:Int))=min k n:=by
 show(if (k:Int) < 0 then((k:Int) + (n:Int)).toNat else min (k:Int).toNat n)=min k n
 rw [if_neg (by omega),J9]
end
end HT
namespace L2
open PySem PySem.Spec PyProof.Rows
abbrev TO:=St->Hp->(Option Int->Hp->Prop)->Prop
def PO (X:Cx)(e:Option Expr)(t:TO):Prop :=
 ∀(pins:List (Addr×Obj)) (s:g8) (σ:St) (H:Hp) (Q:Option Int->Hp->Prop),Inv X pins σ H s->t σ H Q ->
  wpAny (model X.prog X.w) X.A (evalPart e X.env) (fun u s' => ∃ o H',Inv X pins σ H' s'/\IsPart u o/\Q o H') X.xe s
def JS:TO:=fun _ H Q=>Q none H
def PX (t:TE):TO:=fun σ H Q=>t σ H fun x H1 => ∃ i,x = .int i/\Q (some i) H1
section
variable {X:Cx} {e:Expr} {te:TE} {lo hi:Option Expr} {tl th:TO} {pos p2:Pos}
theorem lB:PO X none JS:=by
 intro pins s σ H Q I h;rw [evalPart_none];exact j8 ⟨none,H,I,.none,h⟩
theorem lD(h:PE X e te):PO X (some e) (PX te):=by
 intro pins s σ H Q I hw;rw [evalPart_some];refine thn (h pins s σ H _ I hw) fun u s1 ⟨x,H1,I1,r1,q1⟩=>?_;obtain⟨i,rfl,q⟩:=q1;obtain⟨t,rfl⟩:=r1;exact⟨some i,H1,I1,.int i t,q⟩
def SlR (X:Cx)(r:V->Option Int->Option Int->Hp->VK->Prop):Prop :=
 ∀(pins:List (Addr×Obj)) (s:g8) (σ:St) (H:Hp) (x:V) (v vl vu:g7) (lo hi:Option Int) (sl:Addr) (Q:VK),Inv X pins σ H s->bg x v->s.heap.IsSliceOf sl vl vu .none->IsPart vl lo->IsPart vu hi->r x lo hi H Q ->
  ∃ T id,typeLookup (.type T) "__getitem__"=pure (some (.builtin id))/\s.TypeIs v T/\wpAny (model X.prog X.w) X.A (getItem v (.ref sl)) (EP X pins σ Q) X.xe s
def tSl (r:V->Option Int->Option Int->Hp->VK->Prop)(te:TE)(tl th:TO):TE:=fun σ H Q=>te σ H fun x H1=>tl σ H1 fun l H2=>th σ H2 fun u H3=>r x l u H3 Q
theorem iU{r:V->Option Int->Option Int->Hp->VK->Prop}(hr:SlR X r)(he:PE X e te)(hl:PO X lo tl)(hu:PO X hi th):PE X (.Subscript e (.Slice lo hi none p2) pos) (tSl r te tl th):=by
 intro pins s σ H Q I h;refine W2 (thn (he pins s σ H _ I h) fun v s1 ⟨x,H1,I1,r1,q1⟩=>?_);refine wpAny_Slice (thn (hl pins s1 σ H1 _ I1 q1) fun vl s2 ⟨l,H2,I2,pl,q2⟩=>thn (hu pins s2 σ H2 _ I2 q2) fun vu s3 ⟨u,H3,I3,pu,q3⟩=>?_);rw [evalPart_none];refine j8 ?_;have I4:Inv X pins σ H3 { s3 with heap:=s3.heap.push { cls:=.type "slice",data:=.fields #[vl,vu,.none] } }:=I3.kept (t':=s3.toks) fun b ob q=>l7 _ q
 obtain⟨T,id,hT,ht,hg⟩:=hr pins { s3 with heap:=s3.heap.push { cls:=.type "slice",data:=.fields #[vl,vu,.none] } } σ H3 x v vl vu l u s3.heap.objs.size Q I4 r1 (Heap.IsSliceOf.new ..) pl pu q3
 show wpAny (model X.prog X.w) X.A (subscriptTail e (.Slice lo hi none p2) v (.ref s3.heap.objs.size)) (EP X pins σ Q) X.xe { s3 with heap:=s3.heap.push { cls:=.type "slice",data:=.fields #[vl,vu,.none] } }
 exact tail_any (ops:=[.ref s3.heap.objs.size,v]) ht hT hg (by with_unfolding_all rfl)
def oG (xs:List V)(lo hi:Option Int):List V:=(xs.drop (HT.sIx xs.length 0 lo)).take (HT.sIx xs.length xs.length hi - HT.sIx xs.length 0 lo)
theorem yX(xs:List V)(lo hi:Option Int):(oG xs lo hi).length<=xs.length:=by
 unfold oG;rw [A0,G2];omega
end
def ixN (n:Nat)(i:Int):Option Nat:=if 0<=i then(if i < n then some i.toNat else none) else if -(n:Int)<=i then some (i + n).toNat else none
def atI {α:Type}(xs:List α)(i:Int):Option α:=(ixN xs.length i).bind fun j=>xs[j]?
theorem CS{n:Nat}{i:Int}{j:Nat}(h:ixN n i=some j):seqIndex? i n=some j/\j < n/\-(n:Int)<=i/\i < n:=by
 unfold ixN at h;by_cases h0:0<=i
 ·rw [if_pos h0] at h
  by_cases h1:i < n
  ·rw [if_pos h1] at h
   have e:i.toNat=j:=B1 h;exact⟨by rw [aa0 h0 h1,e],by omega,by omega,h1⟩
  ·rw [if_neg h1] at h; cases h
 ·rw [if_neg h0] at h
  by_cases h1 : -(n:Int)<=i
  ·rw [if_pos h1] at h
   have e:(i + n).toNat=j:=B1 h;exact⟨by rw [seqIndex_neg (by omega) h1,e],by omega,h1,by omega⟩
  ·rw [if_neg h1] at h; cases h
theorem wE{α:Type}{xs:List α}{i:Int}{v:α}(h:atI xs i=some v):∃ j,seqIndex? i xs.length=some j/\xs[j]? = some v/\j < xs.length/\-(xs.length:Int)<=i/\i < xs.length:=by
 unfold atI at h;cases e:ixN xs.length i with
 | none=>rw [e] at h; cases h
 | some j =>
  rw [e] at h;obtain⟨h1,h2,h3,h4⟩:=CS e;exact⟨j,h1,h,h2,h3,h4⟩
theorem bA{α:Type}{xs:List α}{j:Nat}{v:α}(h:xs[j]? = some v):atI xs (j:Int)=some v:=by
 have hj:j < xs.length:=(r9.mp h).1;have e:ixN xs.length (j:Int)=some j:=by
  unfold ixN;rw [if_pos (by omega),if_pos (by omega)]; simp
 unfold atI; rw [e]; exact h
theorem zw{α:Type}(xs:List α)(v:α):atI (xs ++ [v]) (-1)=some v:=by
 have hl:(xs ++ [v]).length=xs.length + 1:=by simp
 have e:ixN (xs ++ [v]).length (-1)=some xs.length:=by
  unfold ixN;rw [hl,if_neg (by decide),if_pos (by omega)]
  congr 1
  omega
 unfold atI;rw [e];show(xs ++ [v])[xs.length]? = some v;simp
def Ko (b:Expr):Prop := ∀ o i,subscripted b false o i=operate [o,i] (getItem o i)
def IxR (X:Cx)(r:R2):Prop :=
 ∀(value slice:Expr) (pins:List (Addr×Obj)) (s:g8) (σ:St) (H:Hp) (x y:V) (v u:g7) (Q:VK),Inv X pins σ H s->bg x v->bg y u->r x y H Q ->
  subscripted slice false v u=operate [v,u] (getItem v u)->wpAny (model X.prog X.w) X.A (subscriptTail value slice v u) (EP X pins σ Q) X.xe s
def MtR (X:Cx)(id:String)(r:V->List V->Hp->VK->Prop):Prop :=
 ∀(pins:List (Addr×Obj)) (s:g8) (σ:St) (H:Hp) (x:V) (xs:List V) (v:g7) (us:List g7) (Q:VK),Inv X pins σ H s->bg x v->aU xs us->r x xs H Q ->
  wpAny (model X.prog X.w) X.A (call (.builtin id) (v :: us)) (EP X pins σ Q) X.xe s
section
variable {X:Cx} {a b:Expr} {ta tb:TE} {pos:Pos}
theorem IxR.or{r r':R2}(h:IxR X r)(h':IxR X r'):IxR X (fun x y H Q=>r x y H Q\/r' x y H Q):=by
 intro value slice pins s σ H x y v u Q I rx ry q hs;rcases q with q | q
 ·exact h value slice pins s σ H x y v u Q I rx ry q hs
 ·exact h' value slice pins s σ H x y v u Q I rx ry q hs
theorem aA{r:R2}(hr:IxR X r)(ha:PE X a ta)(hb:PE X b tb)(hs:Ko b):PE X (.Subscript a b pos) (tOp r ta tb):=by
 intro pins s σ H Q I h;exact W2 (NP ha hb I h fun v u s2 x y H2 I2 rx ry q=>hr a b pins s2 σ H2 x y v u Q I2 rx ry q (hs _ _))
def JI (K:i3):R2:=fun x y H Q => ∃ p xs i v,x = .ref p/\y = .int i/\SqL K H p xs/\atI xs i=some v/\Q v H
def Nf (K:i3):R2:=fun x y H Q => ∃ p xs i v,x = .ref p/\y = .int i/\SqT K H p xs/\atI xs i=some v/\Q v H
def Ph:R2:=fun x y H Q => ∃ z i c,x = .str z/\y = .int i/\z.length<=sizeLine/\atI z.cps.toList i=some c/\Q (.str ⟨#[c]⟩) H
theorem aY:IxR X (JI X.K):=by
 intro value slice pins s σ H x y v u Q I rx ry h hs;obtain⟨p,xs,i,z,rfl,rfl,hq,he,q⟩:=h;cases rx;obtain⟨t,rfl⟩:=ry;obtain⟨its,r,pl,hz⟩:=I.list hq;obtain⟨j,h1,h2,h3,h4,h5⟩:=wE he;obtain⟨w,ew,rw'⟩:=r.get h2;have hl:=r.length;have hn:=jf;have fin:EP X pins σ Q w s:=⟨z,H,I,rw',q⟩;by_cases h0:0<=i
 ·have hj:i.toNat=j:=by
   rw [aa0 h0 h5] at h1;exact B1 h1
  exact item_listR pl.isList h0 (by omega) (by rw [hj]; simpa using ew) fin hs
 ·have hj:(i + (its.toArray.size:Int)).toNat=j:=by
   rw [seqIndex_neg (by omega) h4] at h1
   rw [l9,<- hl];exact B1 h1
  exact ae9 (x:=w) pl.isList.typeIs slot_list_getitem.lookup
   (wpAny_getItem_list_neg (Q:=fun r s'=>r=w/\EP X pins σ Q r s') pl.isList (by omega) (by rw [l9] <;> omega) (by omega) (by rw [hj]; simpa using ew) ⟨rfl,fin⟩) hs
theorem aP:IxR X (Nf X.K):=by
 intro value slice pins s σ H x y v u Q I rx ry h hs;obtain⟨p,xs,i,z,rfl,rfl,hq,he,q⟩:=h;cases rx;obtain⟨t,rfl⟩:=ry;obtain⟨its,r,pl,hz⟩:=I.tuple hq;obtain⟨j,h1,h2,h3,h4,h5⟩:=wE he;obtain⟨w,ew,rw'⟩:=r.get h2;have hl:=r.length;have hn:=jf;have fin:EP X pins σ Q w s:=⟨z,H,I,rw',q⟩;exact ae9 (x:=w) pl.typeIs am4.lookup
  (getItem_tuple (j:=j) (Q:=fun r s'=>r=w/\EP X pins σ Q r s') pl (by omega) (by omega) (by rw [l9,<- hl]; exact h1) (by simpa using ew) ⟨rfl,fin⟩) hs
theorem ui:IxR X Ph:=by
 intro value slice pins s σ H x y v u Q I rx ry h hs;obtain⟨z,i,c,rfl,rfl,hz,he,q⟩:=h;obtain⟨t,rfl⟩:=rx;obtain⟨t',rfl⟩:=ry;obtain⟨j,h1,h2,h3,h4,h5⟩:=wE he;have hl:z.cps.toList.length=z.length:=by simp [Str.length]
 rw [hl] at h1 h4 h5;have hn:=jf;exact tail_any (S7 s z t) slot_str_getitem.lookup (getItem_str (c:=c) (by
  have e1:decide (i < -(2 ^ 63:Int))=false:=decide_eq_false (by omega)
  have e2:decide (i ≥ 2 ^ 63)=false:=decide_eq_false (by omega)
  rw [e1,e2,aa1]) (by rw [h1]; simpa using h2) ⟨.str ⟨#[c]⟩,H,I.tok _,⟨zQa⟩,q⟩) hs
def rIx (K:i3):R2:=fun x y H Q=>JI K x y H Q\/Nf K x y H Q\/Ph x y H Q
theorem Nt:IxR X (rIx X.K):=aY.or (aP.or ui)
theorem AJ(its:List g7)(n j:Nat)(u:g7):A3 (·.setIfInBounds j u) { cls:=.type "list",data:=.seq its.toArray n } = { cls:=.type "list",data:=.seq (its.set j u).toArray n }:=by
 simp [A3]
theorem Inv.lst{pins:List (Addr×Obj)}{σ:St}{H:Hp}{s:g8}{p:Addr}{xs:List V}(I:Inv X pins σ H s)(h:H p=some (.lst xs)) :
  ∃(its:List g7) (n:Nat),aU xs its/\s.heap.get? p=some { cls:=.type "list",data:=.seq its.toArray n }/\xs.length<=sizeLine:=by
 obtain⟨z,its,n,r,e⟩:=I.hok p _ h;exact⟨its,n,r,e,z⟩
theorem Inv.lstUpd{pins:List (Addr×Obj)}{σ:St}{H:Hp}{s:g8}{p:Addr}{xs ys:List V}{its its':List g7}{n n':Nat}{f:Obj->Obj}(I:Inv X pins σ H s)(h:H p=some (.lst xs))
  (ho:s.heap.get? p=some { cls:=.type "list",data:=.seq its.toArray n }) (hf:f { cls:=.type "list",data:=.seq its.toArray n } = { cls:=.type "list",data:=.seq its'.toArray n' }) (r:aU ys its') (hz:ys.length<=sizeLine) (t:Nat) :
  Inv X pins σ (upd H p (.lst ys)) { s with heap:=s.heap.update p f,toks:=t }:=by
 have e:(s.heap.update p f).get? p=some { cls:=.type "list",data:=.seq its'.toArray n' }:=by
  rw [N5 f ho (by rw [hf] <;> rfl),hf]
 refine I.write (x:=p) (e:=p) (by rw [h]; trivial) (.inl rfl) (fun b u hb q=>(G8 _ _ (w9 hb)).trans q) ⟨_,e⟩ ?_
 exact⟨hz,its',n',r,e⟩
def Qg:V->V->V->Hp->(Hp->Prop)->Prop:=fun o i v H Q => ∃ p xs k j,o = .ref p/\i = .int k/\H p=some (.lst xs)/\ixN xs.length k=some j/\Q (upd H p (.lst (xs.set j v)))
theorem HV:Pj X Qg:=by
 intro pins s σ H o i v ov iv u Q I ro ri rv h;obtain⟨p,xs,k,j,rfl,rfl,hp,hj,q⟩:=h;cases ro;obtain⟨t,rfl⟩:=ri;obtain⟨its,n,r,ho,hz⟩:=I.lst hp;obtain⟨h1,h2,h3,h4⟩:=CS hj;have hl:=r.length;have hn:=jf;have I':Inv X pins σ (upd H p (.lst (xs.set j v))) { s with heap:=s.heap.update p (A3 (·.setIfInBounds j u)) } :=
  I.lstUpd hp ho (AJ its n j u) (r.set rv j) (by rw [List.length_set]; exact hz) s.toks
 by_cases h0:0<=k
 ·have hk:k.toNat=j:=by
   rw [aa0 h0 h4] at h1;exact B1 h1
  exact PySem.W.ki_setAt ho h0 (by omega) (by rw [l9,<- hl]; exact h4) (by rw [hk]; exact⟨_,I',q⟩)
 ·have hk:(k + (its.toArray.size:Int)).toNat=j:=by
   rw [seqIndex_neg (by omega) h3] at h1
   rw [l9,<- hl];exact B1 h1
  exact PySem.W.ki_setBack ho (by omega) (by rw [l9,<- hl]; exact h3) (by omega) (by rw [hk]; exact⟨_,I',q⟩)
theorem xt(lo hi:Option Int)(n:Nat):(sliceBounds lo hi none n).1=((HT.sIx n 0 lo:Nat):Int)/\(sliceBounds lo hi none n).2.1=((HT.sIx n n hi:Nat):Int)/\(sliceBounds lo hi none n).2.2=1:=by
 refine⟨?_,?_,rfl⟩
 ·cases lo with
  | none=>simp [sliceBounds,HT.sIx]
  | some i =>
   simp only [sliceBounds,HT.sIx,am5,show(1:Int) > 0 by decide,if_true]
   by_cases h:i < 0
   ·simp only [h,if_true] <;> omega
   ·simp only [h,if_false] <;> omega
 ·cases hi with
  | none=>simp [sliceBounds,HT.sIx]
  | some i =>
   simp only [sliceBounds,HT.sIx,am5,show(1:Int) > 0 by decide,if_true]
   by_cases h:i < 0
   ·simp only [h,if_true] <;> omega
   ·simp only [h,if_false] <;> omega
theorem uF(its:List g7)(lo hi:Option Int):slicePick its.toArray lo hi none=((its.drop (HT.sIx its.length 0 lo)).take (HT.sIx its.length its.length hi - HT.sIx its.length 0 lo)).toArray:=by
 obtain⟨h1,h2,h3⟩:=xt lo hi its.toArray.size;unfold slicePick;rw [h1,h2,h3];simp only [sliceRange_one,pick_run,l9] <;> rfl
def Qi (K:i3):V->Option Int->Option Int->Hp->VK->Prop:=fun x lo hi H Q => ∃ a xs,x = .ref a/\SqL K H a xs/\∀ p,H p=none->Q (.ref p) (upd H p (.lst (oG xs lo hi)))
theorem rm:SlR X (Qi X.K):=by
 intro pins s σ H x v vl vu lo hi sl Q I rx hs pl pu h;obtain⟨a,xs,rfl,hx,q⟩:=h;cases rx;obtain⟨its,r,ht,hz⟩:=I.list hx;have hlen:=r.length;refine⟨"list",_,slot_list_getitem.lookup,ht.isList.typeIs,?_⟩;refine wpAny_getItem_list_slice ht.isList hs pl pu .none (by simp) ?_ (by rw [l9] <;> omega)
 rw [uF,<- hlen];refine⟨.ref s.heap.objs.size,_,I.laid (t':=s.toks) (o:=.lst (oG xs lo hi)) (fun b ob q=>l7 _ q) (i6 _) ?_,rfl,q _ (I.hok.fresh (i6 _))⟩;exact⟨B8 (yX xs lo hi) hz,_,0,(r.drop (HT.sIx xs.length 0 lo)).take (HT.sIx xs.length xs.length hi - HT.sIx xs.length 0 lo),y6 _ rfl⟩
def dJ:V->Bool
 | .non=>true
 | .bl _=>true
 | .int _=>true
 | .str _=>true
 | _=>false
def eqV:V->V->Bool
 | .non,.non=>true
 | .bl a,.bl b=>a == b
 | .bl a,.int b=>(if a then 1 else 0) == b
 | .int a,.bl b=>a == (if b then 1 else 0)
 | .int a,.int b=>a == b
 | .str a,.str b=>a == b
 | _,_=>false
theorem BW{A:j0}{s:g8}{y x:V}{u v:g7}(ry:bg y u)(rx:bg x v)(fy:dJ y=true)(fx:dJ x=true):F4 A s u v (eqV y x):=by
 cases y with
 | non =>
  cases ry;cases x with
  | non=>cases rx; exact F4.same _
  | bl b=>cases rx; exact F4.none_bool b
  | int b=>obtain⟨t,rfl⟩:=rx; exact F4.none_int b t
  | str b=>obtain⟨t,rfl⟩:=rx; exact F4.none_str b t
  | _=>exact absurd (show false=true from fx) y8
 | bl a =>
  cases ry;cases x with
  | non=>cases rx; exact F4.bool_none a
  | bl b=>cases rx; exact F4.bool_bool a b
  | int b=>obtain⟨t,rfl⟩:=rx; exact F4.bool_int a b t
  | str b=>obtain⟨t,rfl⟩:=rx; exact F4.bool_str a b t
  | _=>exact absurd (show false=true from fx) y8
 | int a =>
  obtain⟨t',rfl⟩:=ry;cases x with
  | non=>cases rx; exact F4.int_none a t'
  | bl b=>cases rx; exact F4.int_bool a t' b
  | int b=>obtain⟨t,rfl⟩:=rx; exact F4.int_int a t' b t
  | str b=>obtain⟨t,rfl⟩:=rx; exact ak3 a t' b t
  | _=>exact absurd (show false=true from fx) y8
 | str a =>
  obtain⟨t',rfl⟩:=ry;cases x with
  | non=>cases rx; exact F4.str_none a t'
  | bl b=>cases rx; exact F4.str_bool a t' b
  | int b=>obtain⟨t,rfl⟩:=rx; exact ak4 a t' b t
  | str b=>obtain⟨t,rfl⟩:=rx; exact F4.str_str a t' b t
  | _=>exact absurd (show false=true from fx) y8
 | _=>exact absurd (show false=true from fy) y8
def eqU (x:V)(u:g7):Bool:=match u with
 | .none=>eqV .non x
 | .bool b=>eqV (.bl b) x
 | .int i _=>eqV (.int i) x
 | .str z _=>eqV (.str z) x
 | _=>false
theorem AK{x y:V}{u:g7}(r:bg y u)(f:dJ y=true):eqU x u=eqV y x:=by
 cases y with
 | non=>cases r; rfl
 | bl b=>cases r; rfl
 | int i=>obtain⟨t,rfl⟩:=r; rfl
 | str z=>obtain⟨t,rfl⟩:=r; rfl
 | _=>exact absurd (show false=true from f) y8
theorem nV{x:V}:∀ {xs:List V} {us:List g7},aU xs us->xs.all dJ=true->us.any (eqU x)=xs.any fun y=>eqV y x
 | _,_,.nil,_=>rfl
 | y :: xs,u :: us,.cons r t,f=>by
  rw [Q4,y9] at f;rw [P2,P2,AK r f.1,nV t f.2]
theorem iX{A:j0}{s:g8}{x:V}{v:g7}(rx:bg x v)(fx:dJ x=true):∀ {xs:List V} {us:List g7},aU xs us->xs.all dJ=true->∀ u∈us,F4 A s u v (eqU x u)
 | _,_,.nil,_=>fun u hu=>by cases hu
 | y :: xs,u :: us,.cons r t,f=>fun u' hu=>by
  rw [Q4,y9] at f;rcases l6.mp hu with rfl | hu
  ·rw [AK r f.1]; exact BW r rx f.1 fx
  ·exact iX rx fx t f.2 u' hu
def inV (x:V)(xs:List V):Bool:=xs.any fun y=>eqV y x
def rIn (K:i3)(neg:Bool):R2:=fun x y H Q => ∃ p xs,y = .ref p/\(SqL K H p xs\/SqT K H p xs)/\dJ x=true/\xs.all dJ=true/\Q (.bl (if neg then !inV x xs else inV x xs)) H
theorem bK:OpR X (compareOp .In) (rIn X.K false):=by
 intro pins s σ H x y v u Q I rx ry h;obtain⟨p,xs,rfl,hq,fx,fs,q⟩:=h;cases ry;rcases hq with hq | hq
 ·obtain⟨its,r,pl,hz⟩:=I.list hq
  refine SeqAt.in_listAt (eqU x) pl.isList (fun w hw=>iX rx fx r fs w (by simpa using hw)) ⟨.bl _,H,I,rfl,?_⟩
  rw [show its.toArray.any (eqU x)=its.any (eqU x) by simp,nV r fs]
  exact q
 ·obtain⟨its,r,pl,hz⟩:=I.tuple hq
  refine SeqAt.in_tupleAt (eqU x) pl (fun w hw=>iX rx fx r fs w (by simpa using hw)) ⟨.bl _,H,I,rfl,?_⟩
  rw [show its.toArray.any (eqU x)=its.any (eqU x) by simp,nV r fs]
  exact q
theorem yh:OpR X (compareOp .NotIn) (rIn X.K true):=by
 intro pins s σ H x y v u Q I rx ry h;obtain⟨p,xs,rfl,hq,fx,fs,q⟩:=h;cases ry;rcases hq with hq | hq
 ·obtain⟨its,r,pl,hz⟩:=I.list hq
  refine SeqAt.notIn_listAt (eqU x) pl.isList (fun w hw=>iX rx fx r fs w (by simpa using hw)) ⟨.bl _,H,I,rfl,?_⟩
  rw [show its.toArray.any (eqU x)=its.any (eqU x) by simp,nV r fs]
  exact q
 ·obtain⟨its,r,pl,hz⟩:=I.tuple hq
  refine SeqAt.notIn_tupleAt (eqU x) pl (fun w hw=>iX rx fx r fs w (by simpa using hw)) ⟨.bl _,H,I,rfl,?_⟩
  rw [show its.toArray.any (eqU x)=its.any (eqU x) by simp,nV r fs]
  exact q
theorem aG:gS X (.builtin "len") (fun xs H Q => ∃ p ys,xs=[.ref p]/\(SqL X.K H p ys\/SqT X.K H p ys)/\Q (.int ys.length) H):=by
 intro pins s σ H xs us Q I r h;obtain⟨p,ys,rfl,hq,q⟩:=h;obtain⟨u,rfl,rx⟩:=iy r;cases rx;have hn:=jf;rcases hq with hq | hq
 ·obtain⟨its,r',pl,hz⟩:=I.list hq
  have hlen:=r'.length;exact Calls.call_len_list pl.isList (by simp only [l9] <;> omega) ⟨.int ys.length,H,I.tok _,⟨s.toks + 1,by rw [l9,hlen]⟩,q⟩
 ·obtain⟨its,r',pl,hz⟩:=I.tuple hq
  have hlen:=r'.length;exact len_tuple pl (by simp only [l9] <;> omega) ⟨.int ys.length,H,I.tok _,⟨s.toks + 1,by rw [l9,hlen]⟩,q⟩
theorem gu:gS X (.builtin "len") (fun xs H Q => ∃ z,xs=[.str z]/\z.length<=sizeLine/\Q (.int z.length) H):=by
 intro pins s σ H xs us Q I r h;obtain⟨z,rfl,hz,q⟩:=h;obtain⟨u,rfl,t,rfl⟩:=iy r;have hn:=jf;exact len_str (by omega) ⟨.int z.length,H,I.tok _,⟨zQa⟩,q⟩
theorem mH:gS X (.type "tuple") (fun xs H Q => ∃ p ys,xs=[.ref p]/\((SqL X.K H p ys/\∀ l,H l=none->Q (.ref l) (upd H l (.tup ys)))\/(SqT X.K H p ys/\Q (.ref p) H))):=by
 intro pins s σ H xs us Q I r h;obtain⟨p,ys,rfl,h⟩:=h;obtain⟨u,rfl,rx⟩:=iy r;cases rx;rcases h with ⟨hq,q⟩ | ⟨hq,q⟩
 ·obtain⟨its,r',pl,hz⟩:=I.list hq
  have hlen:=r'.length;refine call_tuple_list pl.isList (fun h' kp=>?_) (by simp only [l9] <;> omega)
  have I1:Inv X pins σ H { s with heap:=h' }:=I.kept (t':=s.toks) kp
  have I2:Inv X pins σ (upd H h'.objs.size (.tup ys)) { s with heap:=h'.push { cls:=.type "tuple",data:=.seq its.toArray } } :=
   I1.laid (t':=s.toks) (fun b o e=>l7 _ e) (i6 _) (show bG X.prog X.w _ _ _ (.tup ys) from⟨hz,its,r',K5.new _ _⟩)
  exact⟨.ref h'.objs.size,_,I2,rfl,q _ (I1.hok.fresh (i6 _))⟩
 ·obtain⟨its,r',pl,hz⟩:=I.tuple hq
  exact call_tuple_same pl ⟨.ref p,H,I,rfl,q⟩
def tyV (K:i3)(T:String)(x:V)(H:Hp):Prop:=match x with
 | .str _=>T="str"
 | .int _=>T="int"
 | .ref p=>(T="list"/\∃ xs,SqL K H p xs)\/(T="tuple"/\∃ o,K.lookup p=some o/\o.cls = .type "tuple"/\o.dict=none) \/
   (T="dict"/\((∃ kvs,H p=some (.dK kvs))\/∃ kvs,H p=some (.dT kvs)))\/(T="set"/\∃ S n,H p=some (.set S n))
 | _=>False
theorem IK{pins:List (Addr×Obj)}{σ:St}{H:Hp}{s:g8}{T:String}{x:V}{v:g7}(I:Inv X pins σ H s)(r:bg x v)(ty:tyV X.K T x H) :
  s.TypeIs v T/\∀ a,v = .ref a->∃ ob,s.heap.get? a=some ob/\ob.dict=none:=by
 cases x with
 | str z =>
  obtain⟨t,rfl⟩:=r;cases (show T="str" from ty)
  exact⟨S7 s z t,fun _ e=>nomatch e⟩
 | int i =>
  obtain⟨t,rfl⟩:=r;cases (show T="int" from ty)
  exact⟨typeIs_int s i t,fun _ e=>nomatch e⟩
 | ref p =>
  cases r;rcases ty with ⟨rfl,xs,hq⟩ | ⟨rfl,o,hk,hc,hd⟩ | ⟨rfl,hk⟩ | ⟨rfl,S,n,hk⟩
  ·obtain⟨its,_,pl,_⟩:=I.list hq
   refine⟨pl.isList.typeIs,fun a e=>?_⟩;cases e;obtain⟨o,n,e,c,hd,_⟩:=pl;exact⟨o,e,hd⟩
  ·refine⟨⟨o,I.kIn p o hk,hc⟩,fun a e=>?_⟩
   cases e;exact⟨o,I.kIn _ o hk,hd⟩
  ·have z:∃ o,s.heap.get? p=some o/\o.ExactDict:=by
    rcases hk with ⟨kvs,hk⟩ | ⟨kvs,hk⟩
    ·obtain⟨_,_,_,_,o,_,_,e,ex,_⟩:=I.hok p _ hk
     exact⟨o,e,ex⟩
    ·obtain⟨_,_,_,_,o,_,_,e,ex,_⟩:=I.hok p _ hk
     exact⟨o,e,ex⟩
   obtain⟨o,e,ex⟩:=z;refine⟨⟨o,e,ex.1⟩,fun a e2=>?_⟩;cases e2;exact⟨o,e,ex.2.1⟩
  ·obtain⟨o,_,_,_,e,ex,_⟩:=I.hok p _ hk
   refine⟨⟨o,e,ex.1⟩,fun a e2=>?_⟩;cases e2;exact⟨o,e,ex.2.1⟩
 | _=>exact C9 ty
def Qw (K:i3)(T:String)(r:V->List V->Hp->VK->Prop)(to:TE):TE:=fun σ H Q=>to σ H fun x H1=>tyV K T x H1/\r x [] H1 Q
def tBM (K:i3)(T:String)(r:V->List V->Hp->VK->Prop)(to:TE)(t:TA):TE:=fun σ H Q=>to σ H fun x H1=>tyV K T x H1/\t σ H1 fun xs H2=>r x xs H2 Q
variable {o e:Expr} {es:List Expr} {to:TE} {t:TA} {name:Str} {apos cpos:Pos} {T id:String} {r:V→List V→Hp→VK→Prop}
theorem Bm(pa:PlainAttrs T)(slot:Slot T name id)(hty:typeOf (.builtin id)=pure (.type "method_descriptor"))(hm:MtR X id r)(ho:PE X o to)
  (hbase:attributeBase o name X.env (eval o X.env)=eval o X.env:=by rfl) (hline:(apos.endLine == cpos.line)=true:=by rfl):PE X (.Call (.Attribute o name apos) [] [] cpos) (Qw X.K T r to):=by
 intro pins s σ H Q I h;refine wpAny_Call_method0_late hbase hline (thn (ho pins s σ H _ I h) fun v s1 ⟨x,H1,I1,r1,ty,q1⟩=>?_);obtain⟨h1,h2⟩:=IK I1 r1 ty;exact⟨T,id,pa,slot,hty,h1,h2,af0 rfl (PySem.evalArgs_none (hm pins s1 σ H1 x [] v [] Q I1 r1 .nil q1))⟩
theorem eZ(pa:PlainAttrs T)(slot:Slot T name id)(hty:typeOf (.builtin id)=pure (.type "method_descriptor"))(hm:MtR X id r)(ho:PE X o to)(ha:PA X (e :: es) t)
  (hbase:attributeBase o name X.env (eval o X.env)=eval o X.env:=by rfl)
  (hfew:((backTo cpos (starEach (e :: es) X.env)).all (fun x => !x.1) && (backToKw cpos (keywordEach [] X.env)).all (fun x=>x.1.isSome)
   && decide ((e :: es).length + ([]:List Keyword).length + (if ([]:List Keyword).isEmpty then 0 else 1) < 30))=true:=by rfl)
  (hline:(apos.endLine == cpos.line)=true:=by rfl) (hs:starEach (e :: es) X.env=(false,eval e X.env) :: starEach es X.env:=by rfl) (hplain:(backTo cpos (starEach es X.env)).any (·.1)=false:=by rfl) :
  PE X (.Call (.Attribute o name apos) (e :: es) [] cpos) (tBM X.K T r to t):=by
 intro pins s σ H Q I h;refine wpAny_Call_method_late hbase hfew hline rfl (thn (ho pins s σ H _ I h) fun v s1 ⟨x,H1,I1,r1,ty,q1⟩=>?_);obtain⟨h1,h2⟩:=IK I1 r1 ty;refine⟨T,id,pa,slot,hty,h1,h2,?_⟩;have hA:=ha cpos pins s1 σ H1 _ I1 q1;rw [hs] at hA ⊢;refine af0 (by show(false || (backTo cpos (starEach es X.env)).any (·.1))=false; rw [hplain] <;> rfl) (af1 ?_)
 exact thn hA fun us s2 ⟨vs,H2,I2,r2,q2⟩=>hm pins s2 σ H2 x vs v us Q I2 r1 r2 q2
end
def MtM (X:Cx)(id:String)(r:V->List V->Hp->VK->Prop):Prop :=
 ∀(pins:List (Addr×Obj)) (s:g8) (σ:St) (H:Hp) (x:V) (xs:List V) (v:g7) (us:List g7) (Q:VK),Inv X pins σ H s->bg x v->aU xs us->r x xs H Q ->
  wpAny (model X.prog X.w) X.A (call (.builtin id) (v :: us)) (EP X pins σ Q) X.xe s
theorem aU.one:∀ {x:V} {us:List g7},aU [x] us->∃ u,us=[u]/\bg x u
 | _,_,.cons r .nil=>⟨zQa,r⟩
theorem aU.zero:∀ {us:List g7},aU [] us->us=[]
 | _,.nil=>rfl
theorem aU.dropLast{xs:List V}{us:List g7}(h:aU xs us):aU xs.dropLast us.dropLast:=by
 induction h with
 | nil=>exact .nil
 | cons r t ih =>
  cases t with
  | nil=>exact .nil
  | cons q t'=>exact .cons r ih
theorem aU.reverse{xs:List V}{us:List g7}(h:aU xs us):aU xs.reverse us.reverse:=by
 induction h with
 | nil=>exact .nil
 | cons r t ih=>rw [af2,af2]; exact aU.append ih (.cons r .nil)
theorem aU.rep{xs:List V}{us:List g7}(h:aU xs us):∀ k:Nat,aU (A1 k xs).flatten (A1 k us).flatten
 | 0=>.nil
 | k + 1=>by
  rw [W3,W3,N6,N6];exact aU.append h (aU.rep h k)
theorem Bo{α:Type}(l:List α):l.eraseIdx (l.length - 1)=l.dropLast:=by
 induction l with
 | nil=>rfl
 | cons a r ih =>
  cases r with
  | nil=>rfl
  | cons b r =>
   have e:(a :: b :: r).length - 1=((b :: r).length - 1) + 1:=by
    have h1:(a :: b :: r).length=r.length + 2:=rfl;have h2:(b :: r).length=r.length + 1:=rfl;omega
   rw [e,List.eraseIdx_cons_succ,ih]
   all_goals rfl
theorem vy(its:List g7):∀(k:Nat) (acc:List g7),
  af3 (fun x1 x2=>x1 ++ x2) acc.toArray (A1 k its.toArray)=(acc ++ (A1 k its).flatten).toArray
 | 0,acc=>by simp
 | k + 1,acc=>by
  have e:acc.toArray ++ its.toArray=(acc ++ its).toArray:=by simp
  have e2:(acc ++ its) ++ (A1 k its).flatten=acc ++ (A1 (k + 1) its).flatten:=by
   rw [W3,N6,K0]
  rw [<- e2,<- vy its k (acc ++ its),<- e,W3,List.foldl_cons]
section
variable {X:Cx} {pins:List (Addr×Obj)} {σ:St} {H:Hp} {s:g8} {l b:Addr} {xs ys zs:List V}
theorem Inv.lset{its its':List g7}{n:Nat}{f:Array g7->Array g7}{t':Nat}(I:Inv X pins σ H s)(hH:H l=some (.lst xs))
  (e:s.heap.get? l=some { cls:=.type "list",data:=.seq its.toArray n }) (hf:f its.toArray=its'.toArray) (hv:aU ys its') (hz:ys.length<=sizeLine) :
  Inv X pins σ (upd H l (.lst ys)) { s with heap:=s.heap.update l (A3 f),toks:=t' }:=by
 have q:=am6 e f;rw [hf] at q;refine I.write (x:=l) (e:=l) (by rw [hH]; exact trivial) (.inl rfl) (fun b' u hb hu=>(G8 s.heap (A3 f) (w9 hb)).trans hu) ⟨_,q⟩ ?_
 exact⟨hz,its',_,hv,q⟩
theorem Inv.lnew{its:List g7}{t':Nat}(I:Inv X pins σ H s)(hv:aU ys its)(hz:ys.length<=sizeLine) :
  Inv X pins σ (upd H s.heap.objs.size (.lst ys)) { s with heap:=s.heap.push { cls:=.type "list",data:=.seq its.toArray },toks:=t' } :=
 I.laid (fun _ _ q=>l7 _ q) (i6 _) ⟨hz,its,0,hv,y6 _ rfl⟩
theorem Inv.fresh(I:Inv X pins σ H s):H s.heap.objs.size=none:=I.hok.fresh (i6 _)
theorem Inv.lstM(I:Inv X pins σ H s)(hH:H l=some (.lst xs)):xs.length<=sizeLine/\∃(its:List g7) (n:Nat),aU xs its/\xs.length=its.length/\s.heap.get? l=some { cls:=.type "list",data:=.seq its.toArray n }:=by
 obtain⟨z,its,n,r,e⟩:=I.hok l _ hH;exact⟨z,its,n,r,r.length,e⟩
theorem zd{n:Nat}(h:n<=sizeLine):S8 n=false:=by
 unfold S8;exact decide_eq_false (by omega)
end
section
variable {X:Cx}
def Jl:V->List V->Hp->VK->Prop:=fun x vs H Q => ∃ l xs y,x = .ref l/\vs=[y]/\H l=some (.lst xs)/\xs.length < sizeLine/\Q .non (upd H l (.lst (xs ++ [y])))
theorem cX:MtM X "list.append" Jl:=by
 intro pins s σ H x vs v us Q I rx rv h;obtain⟨l,xs,y,rfl,rfl,hH,hz,q⟩:=h;cases rx;obtain⟨u,rfl,ru⟩:=rv.one;obtain⟨z,its,n,r,hl,e⟩:=I.lstM hH;refine M9 O4 ⟨_,e,rfl⟩ F.entry_list_append (am7 _ _) (am8 l its.toArray n u (by rw [l9]; omega)) ⟨e,?_⟩
 refine⟨.non,_,I.lset (its':=its ++ [u]) hH e (by simp) (r.append (.cons ru .nil)) ?_,rfl,q⟩
 rw [A2,N7];omega
def Ja:V->List V->Hp->VK->Prop:=fun x vs H Q => ∃ l b xs zs,x = .ref l/\vs=[.ref b]/\H l=some (.lst xs)/\H b=some (.lst zs)/\xs.length + zs.length<=sizeLine/\Q .non (upd H l (.lst (xs ++ zs)))
theorem pq:MtM X "list.extend" Ja:=by
 intro pins s σ H x vs v us Q I rx rv h;obtain⟨l,b,xs,zs,rfl,rfl,hH,hB,hz,q⟩:=h;cases rx;obtain⟨u,rfl,ru⟩:=rv.one;cases ru;obtain⟨z,its,n,r,hl,e⟩:=I.lstM hH;obtain⟨z2,its2,n2,r2,hl2,e2⟩:=I.lstM hB;have hsz:its.toArray.size + its2.toArray.size<=sizeLine:=by rw [l9,l9]; omega
 have hlong:¬ (!its.toArray.isEmpty && S8 (its.toArray.size + its2.toArray.size))=true:=by
  rw [zd hsz,af4];exact y8
 refine M9 F.slot_list_extend ⟨_,e,rfl⟩ F.entry_list_extend (F.args_list_extend_2 _ _)
  (AutoSeq1.list_extend_list_list_0 l its.toArray n b its2.toArray n2 hlong (by rw [l9]; omega) (by omega)) ⟨e,e2,?_⟩
 refine⟨.non,_,I.lset (its':=its ++ its2) hH e (by simp) (r.append r2) ?_,rfl,q⟩
 rw [A2];omega
def QC:V->List V->Hp->VK->Prop:=fun x vs H Q => ∃ l xs y,x = .ref l/\vs=[]/\H l=some (.lst xs)/\xs[xs.length - 1]? = some y/\Q y (upd H l (.lst xs.dropLast))
theorem AM:MtM X "list.pop" QC:=by
 intro pins s σ H x vs v us Q I rx rv h;obtain⟨l,xs,y,rfl,rfl,hH,hy,q⟩:=h;cases rx;have hus:=rv.zero;subst hus;obtain⟨z,its,n,r,hl,e⟩:=I.lstM hH;obtain⟨u,hu,ru⟩:=r.get hy;have hy':its.toArray[its.toArray.size - 1]? = some u:=by
  show its.toArray[its.length - 1]? = some u;rw [<- Q5,<- hl];exact hu
 refine M9 F.slot_list_pop ⟨_,e,rfl⟩ F.entry_list_pop (F.args_list_pop_1 _) (MeetsSeq.list_pop_last l its.toArray n u hy' (by rw [l9]; omega)) ⟨e,?_⟩
 refine⟨y,_,I.lset (its':=its.dropLast) hH e ?_ r.dropLast ?_,ru,q⟩
 ·show its.toArray.eraseIdxIfInBounds (its.toArray.size - 1)=its.dropLast.toArray
  rw [l9,List.eraseIdxIfInBounds_toArray,Bo]
 ·rw [List.length_dropLast]
  omega
def QS:R2:=fun x y H Q => ∃ l b xs zs,x = .ref l/\y = .ref b/\H l=some (.lst xs)/\H b=some (.lst zs)/\xs.length + zs.length<=sizeLine/\∀ p,H p=none->Q (.ref p) (upd H p (.lst (xs ++ zs)))
theorem rA:OpR X (binaryOp .Add) QS:=by
 intro pins s σ H x y v u Q I rx ry h;obtain⟨l,b,xs,zs,rfl,rfl,hH,hB,hz,q⟩:=h;cases rx;cases ry;obtain⟨z,its,n,r,hl,e⟩:=I.lstM hH;obtain⟨z2,its2,n2,r2,hl2,e2⟩:=I.lstM hB;refine PySem.P.add_list e e2 ?_ (by rw [l9,l9]; omega)
 have ea:its.toArray ++ its2.toArray=(its ++ its2).toArray:=by simp
 rw [ea];exact⟨.ref _,_,I.lnew (t':=s.toks) (r.append r2) (by rw [A2]; omega),rfl,q _ I.fresh⟩
def QF:R2:=fun x y H Q => ∃ l k xs,x = .ref l/\y = .int k/\H l=some (.lst xs)/\-(2 ^ 63)<=k/\k < 2 ^ 63/\xs.length * k.toNat<=sizeLine /\
 ∀ p,H p=none->Q (.ref p) (upd H p (.lst (A1 k.toNat xs).flatten))
theorem IT{α:Type}(xs:List α)(k:Nat):(A1 k xs).flatten.length=k * xs.length:=by
 induction k with
 | zero=>simp
 | succ k ih=>rw [W3,N6,A2,ih,af5,aa2]
theorem HF:OpR X (binaryOp .Mult) QF:=by
 intro pins s σ H x y v u Q I rx ry h;obtain⟨l,k,xs,rfl,rfl,hH,h1,h2,hz,q⟩:=h;cases rx;obtain⟨t,rfl⟩:=ry;obtain⟨z,its,n,r,hl,e⟩:=I.lstM hH;have hlen:its.toArray.size * k.toNat<=sizeLine:=by rw [l9,<- hl]; exact hz
 have hcap:¬ its.toArray.size * k.toNat > (2 ^ 63 - 1) / 8:=by
  have:(sizeLine:Nat)<=(2 ^ 63 - 1) / 8:=by decide
  omega
 have hfit:¬ (!Builtin.List.listFitsIndex k)=true:=by
  rw [fitsIndex_both h1 h2];exact y8
 have hlong:¬ S8 (its.toArray.size * k.toNat)=true:=by
  rw [zd hlen];exact y8
 have hnew:af3 (fun x1 x2=>x1 ++ x2) #[] (A1 (if its.toArray.isEmpty=true then 0 else k.toNat) its.toArray)=(A1 k.toNat its).flatten.toArray:=by
  have f0:∀ m:Nat,af3 (fun x1 x2=>x1 ++ x2) #[] (A1 m its.toArray)=(A1 m its).flatten.toArray:=fun m=>by
   have:=vy its m [];rw [af6] at this;exact this
  rw [f0];cases its with
  | nil=>simp
  | cons a r'=>rw [if_neg (by simp)]
 refine wpAny_binaryOp_repeat_ref (T:="list") (U:="int") (by decide) ⟨_,e,rfl⟩ (fun s'=>typeIs_int s' k t) noFill_list_mul F.fills_int_mul F.slot_int_rmul repeat_list F.slot_int_index.lookup
  (M9 F.slot_int_rmul (typeIs_int s k t) F.entry_int_rmul (F.args_int_rmul_2 _ _) (int___rmul___int_list k t l its.toArray n)
   ⟨e,rfl,⟨_,e,rfl⟩,M9 F.slot_list_mul ⟨_,e,rfl⟩ F.entry_list_mul (F.args_list_mul_2 _ _) (AutoListH.list___mul___list_int_3 l its.toArray n k t hfit hcap hlong) ⟨e,?_⟩⟩)
 rw [hnew];exact⟨.ref _,_,I.lnew (t':=s.toks) (r.rep k.toNat) (by rw [IT,Nat.mul_comm]; exact hz),rfl,q _ I.fresh⟩
end
section
variable {prog:i8} {w:i7} {A:j0} {E:g7→g8→Prop} {s:g8}
set_option maxRecDepth 100000 in
end
end L2
namespace Att
open PySem PySem.W PySem.Calls PyProof.Rows
theorem qN{P:Params}{h:Heap}:∀(ns:List Int) (vs:List g7),WellAll P h vs (ns.map WData.int)->G3 vs ns:=by
 intro ns
 induction ns with
 | nil =>
  intro vs w;rw [T1] at w;cases w;exact .nil
 | cons n ns ih =>
  intro vs w;rw [u6] at w;cases w with
  | cons a b =>
   cases a;exact .cons _ _ (ih _ b)
theorem Er {l:OpenLaw} {n:Nat} (hn:l.most=some n) {P:Params} {h:Heap} {args:List WData} {vals:List g7}
    (hpre:l.row.toRowW.claim.pre args=true) (hwl:WellAll P h vals args) :
    ∃ a vs ns,vals=[j7 a]/\args=[WData.list (ns.map WData.int)]/\h.get? a=some { cls:=.type "list",data:=.seq vs.toArray }/\G3 vs ns/\ns.length<=n:=by
  have hsh:WShape.hasAll [] args [.list .int]=true:=(pre_splitW hpre).1;have hc:l.pre.holds [] { args:=args } = true:=(pre_splitW hpre).2;obtain⟨d,r,rfl,h1,h2⟩:=hasAllW_cons hsh;obtain rfl:=hasAllW_nil h2;obtain⟨xs,rfl,h3⟩:=hasW_list h1;obtain⟨ns,rfl⟩:=items_int h3;have hlen:ns.length<=n:=by
    unfold OpenLaw.pre at hc;have h4:(WTm.not (.lt (.lit (.int (n:Int))) (.len (.arg 0)))).holds [] { args:=[.list (ns.map .int)] } = true:=by
      have h4:=(holds_andW hc).1;rw [hn] at h4;exact h4
    have h5:=condW_of h4 (w_not (w_lt w_lit (w_len_list (w_arg rfl))));rw [i4] at h5;refine Nat.le_of_not_lt fun q=>?_;have q':(n:Int) < ((ns.length:Nat):Int):=by omega
    first
      | (rw [decide_eq_true q'] at h5; exact absurd h5 (by decide))
      | (simp at h5; omega)
  cases hwl with
  | cons w1 w2 =>
    cases w2;cases w1 with
    | list ho hall=>exact⟨_,_,ns,rfl,rfl,ho,qN ns _ hall,hlen⟩
theorem Dt(l:OpenLaw)(args:List WData):l.row.toRowW.claim.post args (.bool true) args=true :=
 postW_of (r:=l.row.toRowW) (X:=(true == true))
  (show WShape.has [] (.bool true) .bool=true by first | rfl | decide | simp [WShape.has,WShape.arms,WShape.armsAll])
  (show(WTm.eq .res (.lit (.bool true))).value [] { args:=args,res:=some (.bool true),after:=args } = some (.bool (true == true)) from w_eq_bool (w_res rfl) w_lit) rfl
theorem attach_call{l:OpenLaw}{n:Nat}{q:i8}{loose:List Str}{XP:(Str->Option g7)->Heap->Prop}{YP:i7->Heap->Prop}{d:DefRec}
  (hn:l.most=some n) (hdf:d.params.defaults=[])
  (call:∀(w:i7) (s₀ s₁:g8) (mg mb:Str->Option g7) (fa:Addr) (o:Obj) (pm cd doc:g7) (a:Addr) (vs:List g7) (ns:List Int),
   Ground q loose [] XP w s₀ mg mb s₁.heap->YP w s₁.heap ->
   s₁.heap.get? fa=some o->o.data = .func (docDef d.name d.params d.body d.scope pm cd doc)->s₁.heap.CodeRec cd d.name->mg d.name=some (.ref fa) ->
   s₁.heap.get? a=some { cls:=.type "list",data:=.seq vs.toArray }->G3 vs ns->ns.length<=n->s₁.gens = #[] ->
   codeAny (model l.prog w) callerA (.call (.ref fa) ⟨[.ref a],[]⟩) (fun r s'=>r = .ok (.ret (.bool true))/\OldK s₁.heap s'.heap/\s'.os=s₁.os/\K6 s'.gens) s₁) :
  WalkO q loose XP YP l.row.toRowW d [] (fun f vs=>PySem.call f vs):=by
 intro w s₀ s₁ mg mb G Y fa o pm cd doc dV kV ho hd hcd hD hmg hg args vals as hpre hlay hrd hwl hlo;obtain rfl:dV = .none:=Dflts.none hD hdf;obtain rfl:kV = .none:=Dflts.noKw hD;obtain⟨a,vs,ns,rfl,rfl,hobj,hints,hlen⟩:=Er hn hpre hwl;refine enter_call (P1 (call w s₀ s₁ mg mb fa o pm cd doc a vs ns G Y ho (fd_plain hd) hcd hmg hobj hints hlen hg) fun r s' hq=>?_);obtain⟨rfl,h2,h3,h4⟩:=hq;exact⟨.inl ⟨.bool true,.bool true,[],rfl,fun _=>rfl,.bool true,Dt l _,fun _=>⟨am9,fun _ hm=>(nomatch hm)⟩⟩,h2,h3,h4⟩
end Att
namespace L2
open PySem PySem.Spec PyProof.Rows
theorem pi:∀ {vs:List g7} {ns:List Int},G3 vs ns->aU (ns.map V.int) vs
 | _,_,.nil=>.nil
 | _,_,.cons n t h=>.cons ⟨t,rfl⟩ (pi h)
abbrev KOf {K:i3}{h:Heap}(_:K.In h):i3:=K
def me (s:Stmt)(j:Nat):Stmt:=match s with
 | .ClassDef _ _ _ body _ _ _ _ _ _ _=>body.getD j (.Pass ⟨0,0,0,0⟩)
 | _=>.Pass ⟨0,0,0,0⟩
def jx (s:Stmt):M7:=match s with
 | .FunctionDef _ a _ _ _ _ _ _ _ _=>a
 | _=>{ posonlyargs:=[],args:=[],vararg:=none,kwonlyargs:=[],kw_defaults:=[],kwarg:=none,defaults:=[] }
def aW (s:Stmt):List Stmt:=match s with
 | .FunctionDef _ _ b _ _ _ _ _ _ _=>b
 | _=>[]
def aj (s:Stmt):j9:=match s with
 | .FunctionDef _ _ _ _ _ _ sc _ _ _=>sc
 | _=>{ kind:=.function,names:=[],isGenerator:=false,isCoroutine:=false }
abbrev CX0:CXT:=fun _ _ _ _ _ _=>False
abbrev E0:XK:=fun _ _ _=>False
theorem au{X:Cx}:jI CX0 X E0:=fun _ _ _ _ _ _ _ h=>h.elim
structure Fun(K:i3)(x qual:Str)(st:Stmt)(f:Addr)(fd:i9):Prop where
 ex:∃(oc:g7) (od:Option Addr) (kV doc pm:g7) (an:Option Addr) (cdv ct:g7) (osl:Array (Option g7)),
  fd=M8 x qual (jx st) (aW st) (aj st) .none kV doc pm an cdv ct/\K.lookup f=some ⟨oc,od,.func fd,osl⟩/\L3 K cdv qual=true
 kp:J0 K (.ref f)=true
section
variable {P:i8} {w:i7} {K:i3} {mg:Str→Option g7} {base:Heap}
theorem Fun.ok{x qual:Str}{st:Stmt}{f:Addr}{fd:i9}{N ps:List Str}{k:Nat}{sp:Sp}(F:Fun K x qual st f fd)(S:FnScope N ps (aj st))(len:∀ vs H Q E,sp vs H Q E->vs.length=ps.length)
  (hbody:∀(cdv:g7) (A:j0) (outer:List Env) (s:g8) (H:Hp) (vs:List V) (Q:VK) (E:XK),Room k (A.deeper (envOfC qual (aj st) s.heap.objs.size f cdv))->sp vs H Q E ->
   ∃ t,PSs (fV CX0 P w K mg base N qual (aj st) f cdv A outer s H E).nox (aW st) t/\t { nx:=fun _ H'=>Q .non H',rt:=Q } (kt N vs) H):FnOk P w K mg base CX0 (k + 1) f fd ps sp:=by
 obtain⟨oc,od,kV,doc,pm,an,cdv,ct,osl,rfl,lk,hcd⟩:=F.ex;refine Ii lk hcd S len fun A outer s H vs Q E hr hsp=>?_;obtain⟨t,h,q⟩:=hbody cdv A outer s H vs Q E hr hsp;exact⟨t,h.nox,q⟩
theorem Fun.binds{x qual:Str}{st:Stmt}{f:Addr}{fd:i9}{ps:List Str}(F:Fun K x qual st f fd)
  (h:∀(kV doc pm:g7) (an:Option Addr) (cdv ct:g7) (us:List g7),us.length=ps.length->bindArgs (M8 x qual (jx st) (aW st) (aj st) .none kV doc pm an cdv ct) ⟨us,[]⟩=pure (ps.zip us)):fP K fd ps []:=by
 obtain⟨oc,od,kV,doc,pm,an,cdv,ct,osl,rfl,lk,hcd⟩:=F.ex;exact .all (h kV doc pm an cdv ct)
theorem nj{x qual:Str}{st:Stmt}{f:Addr}{oc:g7}{od an:Option Addr}{osl:Array (Option g7)}{kV doc pm cdv ct:g7}(l:K.lookup f=some ⟨oc,od,.func (M8 x qual (jx st) (aW st) (aj st) .none kV doc pm an cdv ct),osl⟩)
  (c:L3 K cdv qual=true) (k:J0 K (.ref f)=true):Fun K x qual st f (M8 x qual (jx st) (aW st) (aj st) .none kV doc pm an cdv ct):=⟨⟨oc,od,kV,doc,pm,an,cdv,ct,osl,rfl,l,c⟩,k⟩
end
theorem gk{A:j0}{k:Nat}(hr:Room k A):A.units + 1 < cLine:=aa3 (Nat.add_le_add_left (by decide:1<=64) _) hr.units
theorem az{n:Nat}(h:n<=1000):n < sizeLine:=aa3 h (by decide)
section
variable {X:Cx}
theorem pv(i:Nat){x:Str}{pos:Pos}(hN:X.N[i]? = some x:=by rfl)(hv:Vis X.env.scope x:=by first | exact m9 rfl | exact B9 (m9 rfl) | exact B9 (B9 rfl))(hd:(x == ("__debug__" : Str))=false:=by decide)
  (hcd:(x == ("__classdict__" : Str))=false:=by decide):PE X (.Name x pos) (BQ i):=Ng hN hv hd hcd
end
theorem aV{A B:Prop}(h:B):if false=true then A else B:=by
 rw [if_neg y8];exact h
theorem ax{A B:Prop}(h:A):if true=true then A else B:=by
 rw [if_pos rfl];exact h
theorem xC{c A B:Prop}[Decidable c](h1:c->A)(h2:¬ c->B):if c then A else B:=by
 by_cases h:c
 ·rw [if_pos h]
  exact h1 h
 ·rw [if_neg h]
  exact h2 h
def aS (H H':Hp):Prop := ∀ b o,H b=some o->H' b=some o
theorem aS.refl(H:Hp):aS H H:=fun _ _ h=>h
theorem aS.trans{H H1 H2:Hp}(a:aS H H1)(b:aS H1 H2):aS H H2:=fun c o h=>b c o (a c o h)
open PySem
theorem tU{scope:j9}{env:Env}(h:∀ x,(x,B2)∈scope.names->∃ c,env.cells.lookup x=some c) :
  ∃ cl,closureFor scope env=pure cl/\(∀ x c,cl.lookup x=some c->env.cells.lookup x=some c)/\∀ x,(x,B2)∈scope.names->∃ c,cl.lookup x=some c:=by
 have all:∀(ns:List (Str×N4)) (cs:List (Str×Addr)),(∀ x,(x,B2)∈ns->∃ c,env.cells.lookup x=some c)->(∀ x c,cs.lookup x=some c->env.cells.lookup x=some c) ->
   ∃ cl,(forIn ns cs (fun(q:Str×N4) r=>if (q.2 == B2)=true then(cellOf env q.1 >>= fun a=>pure (W4 ((q.1,a) :: r))) else pure (W4 r)):Sem (List (Str×Addr)))=pure cl /\
    (∀ x c,cl.lookup x=some c->env.cells.lookup x=some c)/\(∀ x,(x,B2)∈ns->∃ c,cl.lookup x=some c)/\∀ x,(∃ c,cs.lookup x=some c)->∃ c,cl.lookup x=some c:=by
  intro ns
  induction ns with
  | nil=>intro cs _ hc; exact⟨cs,rfl,hc,fun x z=>absurd z (by simp),fun x z=>z⟩
  | cons q r ih =>
   intro cs hn hc;obtain⟨x,k⟩:=q;rw [List.forIn_cons];by_cases hk:k=B2
   ·subst hk
    obtain⟨c,hx⟩:=hn x l8;obtain⟨cl,e,h1,h2,h3⟩:=ih ((x,c) :: cs) (fun y z=>hn y (u9 _ z)) (fun y d z=>by
     rw [F5] at z;cases q:y == x with
     | true=>rw [q] at z; cases z; rw [J5 q]; exact hx
     | false=>rw [q] at z; exact hc y d z)
    refine⟨cl,?_,h1,fun y z=>?_,fun y z=>?_⟩
    ·simp only [cellOf,hx,beq_self_eq_true,if_true,pure_bind]
     exact e
    ·rcases l6.mp z with z | z
     ·have:y=x:=congrArg Prod.fst z
      subst this;exact h3 y ⟨c,by simp [F5]⟩
     ·exact h2 y z
    ·obtain⟨d,z⟩:=z
     refine h3 y ?_;rw [F5];cases q:y == x with
     | true=>exact⟨c,rfl⟩
     | false=>exact⟨d,z⟩
   ·have hb:(k == B2)=false:=by simpa using hk
    obtain⟨cl,e,h1,h2,h3⟩:=ih cs (fun y z=>hn y (u9 _ z)) hc;refine⟨cl,?_,h1,fun y z=>?_,h3⟩
    ·simp only [hb,E7,if_false,pure_bind]
     exact e
    ·rcases l6.mp z with z | z
     ·exact absurd (congrArg Prod.snd z).symm hk
     ·exact h2 y z
 obtain⟨cl,e,h1,h2,_⟩:=all scope.names [] h (fun x c z=>by simp at z)
 refine⟨cl,?_,h1,h2⟩;show(forIn scope.names [] _ >>= fun cs=>pure cs)=pure cl;rw [bind_pure];exact e
theorem yi{scope:j9}{env:Env}(hc:∀ y∈scope.names,y.2≠.cell){x:Str}(h:(relabel scope env).names.lookup x=some .cell\/(relabel scope env).names.lookup x=some .free):(x,B2)∈scope.names:=by
 have all:∀(ns:List (Str×N4)),(∀ y∈ns,y.2≠.cell) ->
   ((ns.map fun(n,k)=>if (k == B2 && env.scope.kind == .function && env.kindOf n == some .cell) then(n,T2) else(n,k)).lookup x=some .cell \/
    (ns.map fun(n,k)=>if (k == B2 && env.scope.kind == .function && env.kindOf n == some .cell) then(n,T2) else(n,k)).lookup x=some .free)->(x,B2)∈ns:=by
  intro ns
  induction ns with
  | nil=>intro _ z; simp at z
  | cons q r ih =>
   intro hn z;obtain⟨n,k⟩:=q;have ih':=ih (fun y hy=>hn y (u9 _ hy));have hk:=hn (n,k) l8;simp only [u6] at z
   by_cases hcd:(k == B2 && env.scope.kind == .function && env.kindOf n == some .cell)=true
   ·have kf:k=B2:=by
     have:=(y9 _ _ ▸ hcd)
     simp only [y9] at hcd
     exact J5 hcd.1.1
    simp only [hcd,if_true,F5] at z
    cases e:x == n with
    | true=>rw [J5 e,kf]; exact l8
    | false=>rw [e] at z; exact u9 _ (ih' z)
   ·simp only [hcd,E7,if_false,F5] at z
    cases e:x == n with
    | true =>
     rw [e] at z;rcases z with z | z
     ·exact absurd (B1 z) hk
     ·rw [J5 e,B1 z]; exact l8
    | false=>rw [e] at z; exact u9 _ (ih' z)
 exact all scope.names hc h
section
variable {prog:i8} {w:i7} {A:j0} {R:Result→g8→Prop} {s:g8}
abbrev Mm (ifs:List Expr)(env:Env):Sem Bool:=forIn ifs true fun c r=>if r=true then do let ok <- isTrue c env (eval c env); pure (W4 ok) else pure (W4 r)
theorem Fy{elt target iter:Expr}{ifs:List Expr}{scope:j9}{pos:Pos}{it acc:g7}{env:Env}(I:Nat->g8->Prop)
  (turn:∀ n s,I n s->wpAny (model prog w) A (pyNext it) (fun r s1=>match r with
   | none=>R (.ok .next) s1
   | some v=>wpAny (model prog w) A (letOwnedTupleGo target it v) (fun _ s2=>wpAny (model prog w) A (assign target env v) (fun _ s3=>wpAny (model prog w) A (Mm ifs env) (fun ok s4 =>
     if ok=true then wpAny (model prog w) A (eval elt env) (fun x s5=>wpAny (model prog w) A (call (.builtin "list.append") [acc,x]) (fun _ s6 => ∃ m,m < n/\I m s6) (fun _ _=>False) s5) (fun _ _=>False) s4
     else ∃ m,m < n/\I m s4) (fun _ _=>False) s3) (fun _ _=>False) s2) (fun _ _=>False) s1) (fun _ _=>False) s)
  (n:Nat) (h:I n s):codeAny (model prog w) A (.compLoop (.ListComp elt [⟨target,iter,ifs,0⟩] scope pos) 0 it acc env) R s:=by
 refine codeAny_loop rfl I (fun n s hI=>?_) n h;have core:wpAny (model prog w) A (compTurn (.ListComp elt [⟨target,iter,ifs,0⟩] scope pos) 0 it acc env)
   (fun fin s'=>match fin with | .done f=>R (.ok f) s' | .again c'=>c' = .compLoop (.ListComp elt [⟨target,iter,ifs,0⟩] scope pos) 0 it acc env/\∃ m,m < n/\I m s') (fun _ _=>False) s:=by
  rw [compTurn_list];refine g9 (Y9 (g9 (C8 (turn n s hI) (fun r s1 h1=>?_) fun _ _ e=>e)));cases r with
  | none=>exact j8 h1
  | some v =>
   refine g9 (C8 h1 (fun _ s2 h2=>?_) fun _ _ e=>e);refine g9 (C8 h2 (fun _ s3 h3=>g9 (C8 h3 (fun ok s4 h4=>?_) fun _ _ e=>e)) fun _ _ e=>e);cases ok with
   | false=>exact j8 ⟨rfl,h4⟩
   | true =>
    exact g9 (g9 (C8 h4 (fun x s5 h5=>g9 (C8 h5 (fun _ s6 h6=>j8 (j8 ⟨rfl,h6⟩)) fun _ _ e=>e)) fun _ _ e=>e))
 show wpAny _ A ((compTurn (.ListComp elt [⟨target,iter,ifs,0⟩] scope pos) 0 it acc env).onRaise (fun x=>do noteFrame x env; theTreesLotGoes x)) _ _ s
 exact wpAny_noted (C8 core (fun _ _ q=>q) fun _ _ e=>e.elim)
end
def cy (N:List Str)(own:List Str)(cap:List Nat):List Str:=own ++ cap.map fun j=>N.getD j u7
def eX (own:List Str)(cap:List Nat)(σ:St):St:=own.map (fun _=>(none:Option V)) ++ cap.map fun j=>(σ[j]?).getD none
structure Wk(σ σ':St):Prop where
 len:σ'.length=σ.length
 val:∀(i:Nat) v,σ[i]? = some (some v)->σ'[i]? = some (some v)
theorem Wk.set{σ:St}{i:Nat}{x:V}(h:σ[i]? = some none):Wk σ (σ.set i (some x)):=by
 refine⟨by simp,fun j v e=>?_⟩
 by_cases ij:i=j
 ·subst ij; rw [h] at e; cases e
 ·rw [ad6 ij]; exact e
structure Blk(esc:j9)(N:List Str)(scope:j9)(own:List Str)(cap:List Nat):Prop where
 kind:scope.kind = .function
 nocell:∀ y∈scope.names,y.2≠.cell
 names:∀ y∈scope.names,y.2 = .local->scope.names.lookup y.1=some .local
 free:∀ y∈scope.names,y.2 = .free->esc.names.lookup y.1=some .cell\/esc.names.lookup y.1=some .free
 capf:∀ j∈cap,scope.names.lookup (N.getD j u7)=some .free
abbrev Cx.blk (X:Cx)(scope:j9)(cl:List (Str×Addr))(C:Addr)(N':List Str)(s2:g8)(H2:Hp)(ex:List Addr):Cx where
 prog:=X.prog
 w:=X.w
 K:=X.K
 mg:=X.mg
 base:=X.base
 A:=X.A
 N:=N'
 s₀:=s2
 H₀:=H2
 env:=compEnvC scope cl C X.env
 outer:=X.stack
 stack:=X.stack
 ex:=ex
 fn:=fun _=>false
 calm:=X.calm
 pn:=[]
 xe:=fun _ _=>False
theorem gq {env:Env}:∀ {names:List (Str×N4)} {x:Str},names.lookup x=some .free →
    (names.map fun(n,k)=>if (k == B2 && env.scope.kind == .function && env.kindOf n == some .cell) then(n,T2) else(n,k)).lookup x=some .cell \/
    (names.map fun(n,k)=>if (k == B2 && env.scope.kind == .function && env.kindOf n == some .cell) then(n,T2) else(n,k)).lookup x=some .free
  | [],_,h=>by simp at h
  | (n,k) :: r,x,h=>by
    have ih:=@gq env r x;simp only [u6]
    rw [F5] at h;by_cases hc:(k == B2 && env.scope.kind == .function && env.kindOf n == some .cell)=true
    · simp only [hc,if_true,F5]
      cases e:x == n with
      | true=>exact .inl rfl
      | false=>rw [e] at h; exact ih h
    · simp only [hc,E7,if_false,F5]
      cases e:x == n with
      | true=>rw [e] at h; exact .inr h
      | false=>rw [e] at h; exact ih h
section
variable {X:Cx} {pins:List (Addr×Obj)} {σ:St} {H2:Hp} {s2:g8} {scope:j9} {own:List Str} {cap:List Nat} {cl:List (Str×Addr)} {fp:List Addr} {C:Addr}
theorem Na(B:Blk X.env.scope X.N scope own cap)(I2:Inv X pins σ H2 s2)(f2:∀ b∈fp,qR X pins H2 b)(fl:∀ b∈fp,b < s2.heap.objs.size)(hC:s2.heap.objs.size<=C)
  (h1:∀ x c,cl.lookup x=some c->X.env.cells.lookup x=some c) (h2:∀ x,(x,B2)∈scope.names->∃ c,cl.lookup x=some c):(X.blk scope cl C (cy X.N own cap) s2 H2 fp).Ok where
 mod:=I2.ok.mod
 kind:=B.kind
 glob:=I2.ok.glob
 blt:=I2.ok.blt
 above:=hC
 inj:=fun x y c e1 e2=>I2.ok.inj x y c (h1 x c e1) (h1 y c e2)
 has:=fun x hx=>h2 x (yi B.nocell hx)
 cab:=fun x c hx=>absurd hx y8
 hd:=I2.ok.hd
 frames:=I2.ok.frames
 stk:=.inl rfl
 exf:=fun b hb=>⟨w6 (A9 (fl b hb) hC),fun x c e=>(f2 b hb).2.2.2.2.1 x c (h1 x c e)⟩
 bs:=I2.bs
 bsz:=B8 I2.ok.bsz I2.sz
 noex:=fun b o e hb=>by
  rcases(f2 b hb).2.2.2.1 with z | z
  ·exact I2.ok.noex b o e z
  ·exact absurd (A9 (j5 e) (B8 I2.ok.bsz z)) (B6 _)
 exfs:=fun b hb hz=>by
  rcases l6.mp (I2.stkSub b hz) with z | z
  ·exact(f2 b hb).2.1 z
  ·exact(f2 b hb).2.2.1 z
 funs:=I2.stack
 frf:=I2.stkFree
theorem Dk{h4:Heap}{tk:Nat}{m:Str->Option g7}{D:Addr}{o:Obj}(B:Blk X.env.scope X.N scope own cap)(I2:Inv X pins σ H2 s2)(f2:∀ b∈fp,qR X pins H2 b)(fl:∀ b∈fp,b < s2.heap.objs.size)(hC:s2.heap.objs.size<=C)
  (h1:∀ x c,cl.lookup x=some c->X.env.cells.lookup x=some c) (h2:∀ x,(x,B2)∈scope.names->∃ c,cl.lookup x=some c)
  (kp:∀ b o,s2.heap.get? b=some o->h4.get? b=some o) (hn:h4.Ns C m) (hD:h4.get? D=some o) (hDs:s2.heap.objs.size<=D) (hDC:D≠C) (hod:∀ v,o.data≠.cell v) :
  Inv (X.blk scope cl C (cy X.N own cap) s2 H2 fp) [(D,o)] (eX own cap σ) H2 { s2 with heap:=h4,toks:=tk } where
 ok:=Na B I2 f2 fl hC h1 h2
 os:=rfl
 bare:=I2.bare
 base:=Un.kept kp
 loc:=by
  refine⟨m,hn,fun i x v e1 e2 _=>?_⟩;have e1:(cy X.N own cap)[i]? = some x:=e1;unfold eX at e2;unfold cy at e1;by_cases hi:i < own.length
  ·rw [Z9 (by simpa using hi),o0] at e2
   cases q:own[i]? with
   | none=>rw [q] at e2; cases e2
   | some y=>rw [q] at e2; cases e2
  ·rw [Q3 (by simpa using hi),o0,i4] at e2
   rw [Q3 (by omega),o0] at e1
   cases q:cap[i - own.length]? with
   | none=>rw [q] at e2; cases e2
   | some j =>
    rw [q] at e1 e2;have hx:X.N.getD j u7=x:=B1 e1;have hv:(σ[j]?).getD none=some v:=B1 e2;have hσ:σ[j]? = some (some v):=by
     cases z:σ[j]? with
     | none=>rw [z] at hv; cases hv
     | some y=>rw [z] at hv; exact congrArg some hv
    have hj:j < X.N.length:=by rw [<- I2.len]; exact(r9.mp hσ).1
    have hNj:X.N[j]? = some x:=by
     rw [<- hx,A4,i5 hj]; rfl
    have hf:=B.capf j (C5 q);rw [hx] at hf;have hk:=B.free (x,.free) (mem_of_lookup hf) rfl;obtain⟨m2,_,hl⟩:=I2.loc;obtain⟨u,r,lk⟩:=hl j x v hNj hσ (.inr hk);refine⟨u,r,.inr ⟨gq hf,?_⟩⟩;rcases lk with ⟨z,_⟩ | ⟨_,c,ec,ic⟩
    ·have z':X.env.scope.names.lookup x=some .local:=z
     rcases hk with q | q <;> (rw [z'] at q; cases q)
    ·obtain⟨c',e'⟩:=h2 x (mem_of_lookup hf)
     have e'':=h1 x c' e';rw [ec] at e'';cases e'';obtain⟨oc,hoc,hd⟩:=ic;exact⟨c,e',oc,kp _ _ hoc,hd⟩
 cell:=fun x c e=>by
  obtain⟨v,oc,hoc,hd⟩:=I2.cell x c (h1 x c e);exact⟨v,oc,kp _ _ hoc,hd⟩
 free:=I2.hok.fresh hC
 freeC:=fun x c e=>I2.freeC x c (h1 x c e)
 pin:=fun p hp=>by
  have e:p=(D,o):=by simpa using hp
  subst e;exact⟨hD,I2.hok.fresh hDs,hDC,fun hz=>by
   obtain⟨_,q,hq,_⟩:=I2.stack.mem hz;exact absurd (A9 (j5 hq) hDs) (B6 _),hod⟩
 hok:=I2.hok.kept kp
 len:=by
  show(eX own cap σ).length=(cy X.N own cap).length;unfold eX cy;simp
def PIf (X:Cx)(ifs:List Expr)(t:TT):Prop :=
 ∀(pins:List (Addr×Obj)) (s:g8) (σ:St) (H:Hp) (Q:Bool->Hp->Prop),Inv X pins σ H s->t σ H Q->wpAny (model X.prog X.w) X.A (Mm ifs X.env) (TP X pins σ Q) X.xe s
def gW:TT:=fun _ H Q=>Q true H
theorem cr:PIf X [] gW:=fun _ _ _ H _ I h=>wpAny_tests_nil ⟨H,I,h⟩
theorem jp{c:Expr}{t:TT}(h:PT X c t):PIf X [c] t:=fun pins s σ H Q I q=>wpAny_tests_one (h pins s σ H Q I q)
def oU (own:List Str)(cap:List Nat)(g:TG)(tt:TT)(te:TE)(σ:St)(Z:List V->Hp->Prop)(J:It)(H1:Hp):Prop :=
 ∃ W:Nat->Nat->List V->Hp->Prop,(∃ m,W 0 m [] H1)/\∀ i m acc H2,W i m acc H2->acc.length < sizeLine /\
  ((J.stop i H2/\Z acc H2) \/
   (J.go i H2/\∀ x H3,J.yld i H2 x H3->g x (eX own cap σ) H3 fun σ4 H4=>Wk (eX own cap σ) σ4/\tt σ4 H4 fun b H5 =>
    if b=true then te σ4 H5 fun v H6 => ∃ m',m' < m/\W (i + 1) m' (acc ++ [v]) H6 else ∃ m',m' < m/\W (i + 1) m' acc H5))
theorem BZ{tg elt iter:Expr}{ifs:List Expr}{pos:Pos}{g:TG}{tt:TT}{te:TE}{J:It}{it:Addr}{tn:Nat->Heap->Prop}{Z:List V->Hp->Prop}{E:g7->g8->Prop}{RR:g7->Addr->Result->g8->Prop}
  (hc:X.calm=true) (B:Blk X.env.scope X.N scope own cap) (I2:Inv X pins σ H2 s2) (T:Turn X.prog X.w X.K tg J fp it tn) (st2:tn 0 s2.heap) (f2:∀ b∈fp,qR X pins H2 b)
  (h1:∀ x c,cl.lookup x=some c->X.env.cells.lookup x=some c) (h2:∀ x,(x,B2)∈scope.names->∃ c,cl.lookup x=some c)
  (hg:∀ cl C s2 H2 ex,PG (X.blk scope cl C (cy X.N own cap) s2 H2 ex) tg g) (ht:∀ cl C s2 H2 ex,PIf (X.blk scope cl C (cy X.N own cap) s2 H2 ex) ifs tt) (he:∀ cl C s2 H2 ex,PE (X.blk scope cl C (cy X.N own cap) s2 H2 ex) elt te)
  (w:oU own cap g tt te σ Z J H2)
  (hRR:∀(D C:Addr) (acc:List V) (H':Hp) (s':g8),Inv X pins σ (upd H' D (.lst acc)) s'->D≠C->H' D=none->H' C=none->(∃ m,s'.heap.Ns C m) ->
   (∀ σ'' H'' s'' h',Inv X pins σ'' H'' s''->H'' C=none->P7 C s''.heap h'->Inv X pins σ'' H'' { s'' with heap:=h' })->(∀ x c,X.env.cells.lookup x=some c->c≠C)->C≠X.env.locals->Z acc H'->RR (.ref D) C (.ok .next) s') :
  wpAny (model X.prog X.w) X.A (newList []) (fun acc s3=>wpAny (model X.prog X.w) X.A (newFunctionEnv scope X.env.globals cl [] X.env.qual none .none (some X.env)) (fun cenv s4 =>
   codeAny (model X.prog X.w) X.A (.compStart (.ListComp elt [⟨tg,iter,ifs,0⟩] scope pos) 0 (.ref it) acc { cenv with scope:=relabel scope X.env }) (RR acc cenv.locals) s4) E s3) E s2:=by
 obtain⟨W,⟨m0,w0⟩,turn⟩:=w;have fl:∀ b∈fp,b < s2.heap.objs.size:=fun b hb=>by obtain⟨o,ho,_⟩:=T.obj 0 _ st2 b hb; exact j5 ho
 refine T3 (wpAny_newFunctionEnv B.nocell (by intro y hy; simp at hy) (fun h4 hns hsb=>?_) B.kind)
 dsimp only at hns hsb ⊢;generalize hH3:s2.heap.push { cls:=.type "list",dict:=none,data:=.seq ([]:List g7).toArray } = H3 at hns hsb ⊢;have hCs:H3.objs.size=s2.heap.objs.size + 1:=by rw [<- hH3,G1]
 have hDC:s2.heap.objs.size≠H3.objs.size:=by rw [hCs]; exact w6 (P9 _)
 have hC:s2.heap.objs.size<=H3.objs.size:=by rw [hCs]; exact E6 _
 have kp:∀ b o,s2.heap.get? b=some o->h4.get? b=some o:=fun b o e=>hsb.extBut b o (w6 (A9 (j5 e) hC)) (l7 _ (hH3 ▸ l7 _ e))
 have hD4:h4.get? s2.heap.objs.size=some { cls:=.type "list",data:=.seq ([]:List g7).toArray 0 }:=hsb.extBut _ _ hDC (l7 _ (hH3 ▸ y6 _ rfl))
 generalize hCe:H3.objs.size=C at hns hsb hCs hDC hC ⊢;generalize hDe:s2.heap.objs.size=D at hD4 hDC ⊢;have hDs:s2.heap.objs.size<=D:=V8 hDe;have flD:∀ b∈fp,b≠D:=fun b hb z=>by have:=fl b hb; rw [z,hDe] at this; exact B6 _ this
 have celD:∀ x c,cl.lookup x=some c->c≠D:=fun x c e z=>by
  obtain⟨v,q⟩:=I2.cell x c (h1 x c e);have:=q.lt;rw [z,hDe] at this;exact B6 _ this
 let Y:Cx:=X.blk scope cl C (cy X.N own cap) s2 H2 fp
 have lo:∀(its:List g7) (ep:Nat) (v:Option g7),({ cls:=.type "list",data:=.seq its.toArray ep }:Obj).data≠.cell v:=fun its ep v z=>by
  have z':Data.seq its.toArray ep=Z1 v:=z;cases z'
 have fpY:∀ {H':Hp} {its:List g7} {ep:Nat},(∀ b∈fp,H' b=none)->∀ b∈fp,qR Y [(D,({ cls:=.type "list",data:=.seq its.toArray ep }:Obj))] H' b:=fun {H' its ep} hn b hb=>by
  refine⟨hn b hb,w6 (A9 (fl b hb) hC),fun hz=>?_,.inl hb,fun x c e=>(f2 b hb).2.2.2.2.1 x c (h1 x c e),fun p hp=>?_⟩
  ·rcases l6.mp (I2.stkSub b hz) with z | z
   ·exact(f2 b hb).2.1 z
   ·exact(f2 b hb).2.2.1 z
  ·rcases B3.mp hp with hp | hp
   ·exact absurd (show p∈([]:List (Addr×Obj)) from hp) (by simp)
   ·have e:p=(D,({ cls:=.type "list",data:=.seq its.toArray ep }:Obj)):=by simpa using hp
    subst e;exact w9 (flD b hb)
 have loop:∀ s4:g8,s4 = { s2 with heap:=h4,toks:=s2.toks + ([]:List (Str×g7)).length } ->
   codeAny (model X.prog X.w) X.A (.compLoop (.ListComp elt [⟨tg,iter,ifs,0⟩] scope pos) 0 (.ref it) (.ref D) (compEnvC scope cl C X.env)) (RR (.ref D) C) s4:=by
  rintro s4 rfl;refine Fy (fun n s' => ∃ i acc its ep H',Inv Y [(D,({ cls:=.type "list",data:=.seq its.toArray ep }:Obj))] (eX own cap σ) H' s'/\tn i s'.heap/\(∀ b∈fp,H' b=none)/\aU acc its/\W i n acc H') ?_ m0
   ⟨0,[],[],0,H2,Dk B I2 f2 fl hC h1 h2 kp hns hD4 hDs hDC (lo [] 0),T.keep 0 _ _ st2 fun b _ o e=>kp b o e,fun b hb=>(f2 b hb).1,.nil,w0⟩
  rintro n s5 ⟨i,acc,its,ep,H5,I5,st5,fr5,vl,w5⟩;obtain⟨room,alt⟩:=turn i n acc H5 w5;have vlen:=vl.length;rcases alt with ⟨stop,zq⟩ | ⟨go,step⟩
  ·refine thn (T.done Y rfl rfl rfl hc i _ s5 _ H5 (fun _ _=>False) I5 (fpY fr5) st5 stop) fun r s6 ⟨hr,I6⟩=>?_
   subst hr;show RR (.ref D) C (.ok .next) s6;have pD:=I6.pin (D,({ cls:=.type "list",data:=.seq its.toArray ep }:Obj)) (C3 _ (A5.mpr rfl));have fC:H5 C=none:=I6.free;have nD:∀ b u,H5 b=some u->b≠D:=fun b u e z=>by rw [z,pD.2.1] at e; cases e
   have bD:∀ b o,s2.heap.get? b=some o->b≠D:=fun b o e z=>by have:=j5 e; rw [z,hDe] at this; exact B6 _ this
   have un:Un (frs X.stack) fp H2 (upd H5 D (.lst acc)) s2.heap s6.heap :=
    ⟨I6.base.keep,I6.base.slot,fun b o e n x=>by rw [am (bD b o e)]; exact I6.base.free b o e n x,I6.base.there,
     fun b xs e=>by have q:=I6.base.tups b xs e; rw [am (nD b _ q)]; exact q,fun b o u e=>by have q:=I6.base.frzs b o u e; rw [am (nD b _ q)]; exact q,
     fun b ps e=>by obtain⟨mo,q⟩:=I6.base.tbls b ps e; exact⟨mo,by rw [am (nD b _ q)]; exact q⟩⟩
   have hok:HOk X.prog X.w (upd H5 D (.lst acc)) s6.heap:=fun b u e=>by
    by_cases hb:b=D
    ·subst hb
     rw [af] at e;cases e;exact⟨E5 room,its,ep,vl,pD.1⟩
    ·rw [am hb] at e
     exact(I6.hok b u e).stay (fun c v _ q=>q) (fun c q=>by rw [am (nD c _ q)]; exact q) fun c xs q=>by rw [am (nD c _ q)]; exact q
   have IX:Inv X pins σ (upd H5 D (.lst acc)) s6:=I2.call' I6.os un hok I6.bare fun b hb=>⟨(f2 b hb).2.2.2.1,(f2 b hb).2.1,(f2 b hb).2.2.2.2.1,(f2 b hb).2.2.2.2.2⟩;obtain⟨mm,hmm,_⟩:=I6.loc;have cC:∀ x c,X.env.cells.lookup x=some c->c≠C:=fun x c e z=>by
    obtain⟨v,q⟩:=I2.cell x c e;exact absurd (A9 q.lt (by rw [z]; exact hC)) (B6 _)
   have lC:C≠X.env.locals:=M2 (A9 I2.lt hC);refine hRR D C acc H5 s6 IX hDC pD.2.1 fC ⟨mm,hmm⟩ (fun σ'' H'' s'' h' J'' hn hs=>?_) cC lC zq;exact J''.turned (t':=s''.toks) (fun b o hb e=>(hs.2 b hb).trans e) hn lC (.inr (B8 I2.sz hC)) cC fun p hp z=>by
    have:=j5 (I2.pin p hp).1;exact absurd (A9 this (by rw [z]; exact hC)) (B6 _)
  ·refine thn (T.item Y rfl rfl rfl hc i _ s5 _ H5 (fun _ _=>False) I5 (fpY fr5) st5 go) fun r s6 ⟨u,hr,h6⟩=>?_
   subst hr;refine thn h6 fun _ s7 ⟨x,H7,I7,r7,y7,st7,fr7⟩=>?_;have I7':=I7.pinned (fpY fr7) (T.obj _ _ st7);refine thn (hg cl C s2 H2 fp _ s7 _ H7 x u _ I7' r7 (step x H7 y7)) fun _ s8 ⟨σ8,H8,I8,wk8,q8⟩=>?_;refine thn (ht cl C s2 H2 fp _ s8 σ8 H8 _ I8 q8) fun ok s9 ⟨H9,I9,q9⟩=>?_;have unpin:∀ {its':List g7} {ep':Nat} {H':Hp} {s':g8} {acc':List V} {m':Nat},Inv Y ([(D,({ cls:=.type "list",data:=.seq its'.toArray ep' }:Obj))] ++ kM fp s7.heap) σ8 H' s'->aU acc' its'->W (i + 1) m' acc' H'->m' < n ->
     ∃ m,m < n/\∃ i acc its ep H'',Inv Y [(D,({ cls:=.type "list",data:=.seq its.toArray ep }:Obj))] (eX own cap σ) H'' s'/\tn i s'.heap/\(∀ b∈fp,H'' b=none)/\aU acc its/\W i m acc H'':=fun {its' ep' H' s' acc' m'} J v' w' hm=>by
    refine⟨m',hm,i + 1,acc',its',ep',H',(J.unpinned).weak wk8.len.symm wk8.val,T.keep _ _ _ st7 fun b hb o e=>(J.pin (b,o) (C3 _ (C3 _ (jF hb e)))).1,fun b hb=>?_,v',w'⟩;obtain⟨o,e,d⟩:=T.obj _ _ st7 b hb;exact(J.pin (b,o) (C3 _ (C3 _ (jF hb e)))).2.1
   cases ok with
   | false =>
    rw [if_neg y8] at q9 ⊢;obtain⟨m',hm,w'⟩:=q9;exact unpin I9 vl w' hm
   | true =>
    rw [if_pos rfl] at q9 ⊢;refine thn (he cl C s2 H2 fp _ s9 σ8 H9 _ I9 q9) fun v s10 ⟨y,H10,I10,r10,m',hm,w'⟩=>?_;have pD:=I10.pin (D,({ cls:=.type "list",data:=.seq its.toArray ep }:Obj)) (C3 _ (P6 _ (A5.mpr rfl)));refine M9 O4 ⟨_,pD.1,rfl⟩ F.entry_list_append (am7 _ _) (am8 D its.toArray ep v (by rw [l9]; omega)) ⟨pD.1,?_⟩
    have eD:=am6 pD.1 (·.push v)
    have ea:its.toArray.push v=(its ++ [v]).toArray:=by simp
    rw [ea] at eD;generalize (if (its ++ [v]).toArray.size == its.toArray.size then ep else ep + 1)=ep2 at eD
    have pl:∀ p∈kM fp s7.heap,p.1≠D:=fun p hp=>flD p.1 (wf hp).1;have I11:Inv Y (kM fp s7.heap) σ8 H10 s10:=I10.pins_of fun p hp=>I10.pin p (C3 _ (C3 _ hp));have I12:=I11.turned (it:=D) (t':=s10.toks) (h':=s10.heap.update D (A3 (·.push v))) (fun b o hb e=>(G8 _ _ (w9 hb)).trans e) pD.2.1 hDC (.inr hDs) celD (fun p hp=>pl p ((B3.mp hp).elim (fun z=>absurd (show p∈([]:List (Addr×Obj)) from z) (by simp)) id))
    have I13:=I12.pins_of (pins':=[(D,({ cls:=.type "list",data:=.seq (its ++ [v]).toArray ep2 }:Obj))] ++ kM fp s7.heap) fun p hp=>by
     rcases B3.mp hp with hp | hp
     ·have e:p=(D,({ cls:=.type "list",data:=.seq (its ++ [v]).toArray ep2 }:Obj)):=by simpa using hp
      subst e;exact⟨eD,pD.2.1,hDC,pD.2.2.2.1,lo _ _⟩
     ·exact I12.pin p (C3 _ hp)
    exact unpin I13 (vl.append (.cons r10 .nil)) w' hm
 exact codeAny_compStart_list (loop _ rfl) (T.self _ 0 _ _ _ (T.keep 0 _ _ st2 fun b _ o e=>kp b o e) (loop _ rfl))
end
section
variable {X:Cx} {tg elt iter:Expr} {ifs:List Expr} {scope:j9} {pos:Pos} {own:List Str} {cap:List Nat} {wi:TI} {g:TG} {tt:TT} {te:TE}
theorem yw{pins:List (Addr×Obj)}{σ:St}{H:Hp}{s:g8}(B:Blk X.env.scope X.N scope own cap)(I:Inv X pins σ H s):∃ cl,closureFor scope X.env=pure cl/\(∀ x c,cl.lookup x=some c->X.env.cells.lookup x=some c)/\∀ x,(x,B2)∈scope.names->∃ c,cl.lookup x=some c :=
 tU fun x hx=>I.ok.has x (B.free (x,.free) hx rfl)
def KJ (wi:TI)(own:List Str)(cap:List Nat)(g:TG)(tt:TT)(te:TE):TE:=fun σ H Q=>wi σ H fun J H1=>oU own cap g tt te σ (fun acc H2 => ∀ p,H2 p=none->Q (.ref p) (upd H2 p (.lst acc))) J H1
theorem bO(B:Blk X.env.scope X.N scope own cap)(hc:X.calm=true)(hi:PI X tg iter wi)(hg:∀ cl C s2 H2 ex,PG (X.blk scope cl C (cy X.N own cap) s2 H2 ex) tg g)(ht:∀ cl C s2 H2 ex,PIf (X.blk scope cl C (cy X.N own cap) s2 H2 ex) ifs tt)
  (he:∀ cl C s2 H2 ex,PE (X.blk scope cl C (cy X.N own cap) s2 H2 ex) elt te) (hs:∀ x,foldedSetIterable iter X.env x=pure x:=by intro _; rfl):PE X (.ListComp elt [⟨tg,iter,ifs,0⟩] scope pos) (KJ wi own cap g tt te):=by
 intro pins s σ H Q I h;obtain⟨cl,hcl,h1,h2⟩:=yw B I;rw [eval_ListComp];refine an0 (use:=none) rfl hs hcl B.kind B.names (thn (hi pins s σ H _ I h) fun v s1 q1=>thn q1 fun itv s2 q2=>?_);obtain⟨it,fp,tn,J,H2,e,I2,T,st2,f2,w⟩:=q2;subst e;refine BZ (RR:=fun acc C=>compPost (model X.prog X.w) X.A X.xe none (EP X pins σ Q) acc C) hc B I2 T st2 f2 h1 h2 hg ht he w ?_;intro D C acc H' s' IX hDC fD fC hn tu _ _ z;obtain⟨m,hn⟩:=hn;exact⟨m,hn,fun h' hs'=>⟨.ref D,_,tu σ _ s' h' IX (by rw [am (w9 hDC)]; exact fC) hs',rfl,z D fD⟩⟩
theorem nG{i:Nat}{y:Str}{py spos:Pos}(B:Blk X.env.scope X.N scope own cap)(hc:X.calm=true)(hi:PI X tg iter wi)(hg:∀ cl C s2 H2 ex,PG (X.blk scope cl C (cy X.N own cap) s2 H2 ex) tg g)(ht:∀ cl C s2 H2 ex,PIf (X.blk scope cl C (cy X.N own cap) s2 H2 ex) ifs tt)
  (he:∀ cl C s2 H2 ex,PE (X.blk scope cl C (cy X.N own cap) s2 H2 ex) elt te) (hN:X.N.Nodup) (hy:X.N[i]? = some y) (hl:X.env.scope.names.lookup y=some .local)
  (hsw:swapsWith (.ListComp elt [⟨tg,iter,ifs,0⟩] scope pos) (some (.Name y py)) spos.line X.env=pure true:=by rfl)
  (hs:∀ x,foldedSetIterable iter X.env x=pure x:=by intro _; rfl):PS X (.Assign [.Name y py] (.ListComp elt [⟨tg,iter,ifs,0⟩] scope pos) spos) (MB (KJ wi own cap g tt te) (bC i)):=by
 intro pins s σ H D0 I h;obtain⟨cl,hcl,h1,h2⟩:=yw B I;rw [exec_Assign_Name_used _ _ _ _ hsw];refine g9 (Y9 (g9 ?_));show wpAny _ X.A (do let _ <- comprehension (.ListComp elt [⟨tg,iter,ifs,0⟩] scope pos) scope X.env _ (newList []) false (eval iter X.env) (some (assign (.Name y py) X.env))) _ _ s
 refine g9 (thn (Q:=fun _ s'=>SP X pins D0 .next s') (an0 (use:=some (assign (.Name y py) X.env)) rfl hs hcl B.kind B.names (thn (hi pins s σ H _ I h) fun v s1 q1=>thn q1 fun itv s2 q2=>?_)) fun _ s' q=>j8 (j8 q));obtain⟨it,fp,tn,J,H2,e,I2,T,st2,f2,w⟩:=q2;subst e;refine BZ (RR:=fun acc C=>compPost (model X.prog X.w) X.A X.xe (some (assign (.Name y py) X.env)) (fun _ s'=>SP X pins D0 .next s') acc C) hc B I2 T st2 f2 h1 h2 hg ht he w ?_;intro D C acc H' s' IX hDC fD fC hn tu cC lC z;obtain⟨m,hn⟩:=hn;show wpAny _ X.A (assign (.Name y py) X.env (.ref D)) _ _ s';refine wpAny_assign_Name (vX IX hN hy (.inl hl) (v:=.ref D) rfl (fun s'' I'' ⟨a,sb,ha⟩=>?_) (.inr hl));have aC:C≠a:=by
  rcases ha with e | e
  ·rw [e]; exact lC
  ·exact w9 (cC _ _ e)
 exact⟨m,hn.sameBut sb aC,fun h' hs'=>⟨_,_,tu _ _ s'' h' I'' (by rw [am (w9 hDC)]; exact fC) hs',z D fD⟩⟩
end
section
variable {P:i8} {w:i7} {H:Hp} {h:Heap} {a:Addr} {o:HO}
theorem bG.there(x:bG P w H h a o):∃ u,h.get? a=some u:=by
 induction o with
 | lst xs=>obtain⟨_,_,_,_,e⟩:=x; exact⟨_,e⟩
 | tup xs=>obtain⟨_,_,_,q,e,_⟩:=x; exact⟨_,e⟩
 | dK kvs=>obtain⟨_,_,_,_,q,_,_,e,_⟩:=x; exact⟨_,e⟩
 | dT kvs=>obtain⟨_,_,_,_,q,_,_,e,_⟩:=x; exact⟨_,e⟩
 | set S n=>obtain⟨q,_,_,_,e,_⟩:=x; exact⟨_,e⟩
 | ins C dx fs=>obtain⟨_,_,_,e,_⟩:=x; exact⟨_,e⟩
 | own y=>exact x
 | xd fs=>obtain⟨_,⟨q,_,_,e,_⟩,_⟩:=x; exact⟨_,e⟩
 | rng lo hi=>obtain⟨_,_,_,e⟩:=x; exact⟨_,e⟩
 | frz ob u ih=>obtain⟨e,_⟩:=x; exact⟨_,e⟩
 | tbl ps=>exact⟨_,(show h.get? a=some _ from x)⟩
 | met f y=>exact⟨_,(show h.get? a=some _ from x)⟩
 | ext φ=>obtain⟨_,e,_⟩:=x; exact e
end
section
variable {X:Cx} {pins:List (Addr×Obj)} {σ:St} {H:Hp} {s:g8} {h':Heap} {a:Addr} {o:HO} {t':Nat}
theorem Inv.no(I:Inv X pins σ H s)(hn:s.heap.get? a=none):H a=none:=by
 cases q:H a with
 | none=>rfl
 | some u =>
  obtain⟨v,e⟩:=(I.hok a u q).there;rw [hn] at e; cases e
theorem Inv.gain(I:Inv X pins σ H s)(k:∀ b u,s.heap.get? b=some u->h'.get? b=some u)(hn:s.heap.get? a=none)(new:bG X.prog X.w (upd H a o) h' a o) :
  Inv X pins σ (upd H a o) { s with heap:=h',toks:=t' }:=by
 have hf:=I.no hn;have ne:∀ b u,H b=some u->b≠a:=fun b u e z=>by rw [z,hf] at e; cases e
 have nb:∀ b u,s.heap.get? b=some u->b≠a:=fun b u e z=>by rw [z,hn] at e; cases e
 refine I.un ⟨fun b u e _ _ _=>k b u e,fun b u e _ _ _=>⟨u.slots,k b u e⟩,fun b u e n _=>by rw [am (nb b u e)]; exact n,fun b u e _=>⟨u,k b u e⟩,
  fun b xs e=>by rw [am (ne b _ e)]; exact e,fun b u v e=>by rw [am (ne b _ e)]; exact e,fun b ps e=>⟨#[],by rw [am (ne b _ e),e]; simp⟩⟩ fun b u e=>?_
 by_cases hb:b=a
 ·subst hb; rw [af] at e; cases e; exact new
 ·rw [am hb] at e
  exact(I.hok b u e).stay (fun c v _ q=>k c v q) (fun c q=>by rw [am (ne c _ q)]; exact q) fun c xs q=>by rw [am (ne c _ q)]; exact q
theorem gR(hc:X.calm=true):gS X (.builtin "all") (fun xs H Q => ∃(p:Addr) (bs:List Bool),xs=[.ref p]/\SqL X.K H p (bs.map V.bl)/\Q (.bl (bs.all id)) H):=by
 intro pins s σ H xs us Q I r h;obtain⟨p,bs,rfl,hq,q⟩:=h;obtain⟨u,rfl,rx⟩:=iy r;cases rx;have hh:=I.ok.hd hc;obtain⟨its,rv,pl,_⟩:=I.list hq;have hl:s.heap.IsList p its.toArray:=pl.isList;obtain⟨ol,hol,_⟩:=id hl;have hlen:=rv.length;rw [i4] at hlen;refine call_all_walk (Z2 hl ⟨s.heap.objs.size,_,_,_,_,_,fun i=>bs.getD i false,rfl,Walks.list (A:=X.A.in1) hh s.heap.objs.size p (w6 (j5 hol)) its.toArray,⟨⟨_,y6 _ rfl,rfl,rfl⟩,hl.at fun o e=>l7 _ e⟩,?_,fun h' tk hk=>?_⟩)
 ·intro i v s1 Q1 E1 hv hq1
  have e':its[i]? = some v:=by simpa using hv
  have hil:i < bs.length:=by have:=(r9.mp e').1; omega
  obtain⟨u,hu,ru⟩:=rv.get (i:=i) (x:=.bl bs[i]) (by rw [o0,i5 hil]; rfl)
  rw [e'] at hu;cases hu;obtain rfl:v=R8 bs[i]:=ru;have eg:bs.getD i false=bs[i]:=by rw [A4,i5 hil]; rfl
  exact K7 (eg ▸ hq1)
 ·have e:(x6 its.toArray.size).all (fun i=>bs.getD i false)=bs.all id:=by
   rw [l9,<- hlen];rw [M4,E8,E8]
   constructor
   ·intro z x hx
    obtain⟨i,hi,rfl⟩:=af7.mp hx;have:=z i (I0.mpr hi);rw [A4,i5 hi] at this;exact this
   ·intro z i hi
    have hi':=I0.mp hi;rw [A4,i5 hi'];exact z _ (E9 hi')
  rw [e];exact⟨.bl (bs.all id),H,I.kept (t':=tk) fun b u e=>hk b u (fun z=>absurd (j5 e) (by rw [A5.mp z]; exact B6 _)) (l7 _ e),rfl,q⟩
def xy:List V->List V->Bool
 | [],[]=>true
 | x :: xs,y :: ys=>eqV x y && xy xs ys
 | _,_=>false
theorem rq:∀ {xs ys:List V},xs.length≠ys.length->xy xs ys=false
 | [],[],h=>absurd rfl h
 | [],_ :: _,_=>rfl
 | _ :: _,[],_=>rfl
 | x :: xs,y :: ys,h=>by
  show(eqV x y && xy xs ys)=false;rw [rq (xs:=xs) (ys:=ys) (fun z=>h (by simp [z])),af4]
theorem rW:∀(xs ys:List V),xs.length=ys.length->xy xs ys=(x6 xs.length).all fun i=>eqV (xs.getD i .non) (ys.getD i .non)
 | [],[],_=>rfl
 | x :: xs,y :: ys,h=>by
  show(eqV x y && xy xs ys)=_;rw [x9,List.range_succ_eq_map,Q4,N0,rW xs ys (by simpa using h)]
  rfl
def Pn (K:i3)(neg:Bool):R2:=fun x y H Q => ∃ p b xs ys,x = .ref p/\y = .ref b/\SqL K H p xs/\SqL K H b ys/\xs.all dJ=true/\ys.all dJ=true/\Q (.bl (if neg then !xy xs ys else xy xs ys)) H
theorem rg{xs:List V}(h:xs.all dJ=true){i:Nat}(hi:i < xs.length):dJ (xs.getD i .non)=true:=by
 rw [A4,i5 hi];exact E8.mp h _ (E9 hi)
theorem xg{xs:List V}{its:List g7}(r:aU xs its){i:Nat}(hi:i < its.toArray.size):bg (xs.getD i .non) its.toArray[i]:=by
 have hx:i < xs.length:=by rw [r.length]; simpa using hi
 obtain⟨u,hu,ru⟩:=r.get (i:=i) (x:=xs[i]) (i5 hx);rw [i5 (by simpa using hi)] at hu
 rw [A4,i5 hx];have e:its.toArray[i]=u:=by simpa using B1 hu
 rw [e]; exact ru
theorem Fg(hu:X.A.units < cLine):OpR X (compareOp .Eq) (Pn X.K false):=by
 intro pins s σ H x y v u Q I rx ry h;obtain⟨p,b,xs,ys,rfl,rfl,hp,hb,fx,fy,q⟩:=h;cases rx;cases ry;obtain⟨its,r1,p1,_⟩:=I.list hp;obtain⟨jts,r2,p2,_⟩:=I.list hb;have l1:=r1.length;have l2:=r2.length;simp only [E7,if_false] at q
 by_cases e:xs.length=ys.length
 ·rw [rW _ _ e] at q
  refine SeqAt.eq_listAt (e:=fun i=>eqV (xs.getD i .non) (ys.getD i .non)) p1.isList p2.isList (by simp only [l9]; omega) hu (fun j h1 h2=>BW (xg r1 h1) (xg r2 h2) (rg fx (by simp only [l9] at h1; omega)) (rg fy (by simp only [l9] at h2; omega))) ?_
  rw [l9,<- l1];exact⟨.bl _,H,I,rfl,q⟩
 ·rw [rq e] at q
  refine SeqAt.eq_list_lengthsAt p1.isList p2.isList (by simp only [l9,bne_iff_ne]; omega) hu ?_
  exact⟨.bl false,H,I,rfl,q⟩
theorem AD(hu:X.A.units < cLine):OpR X (compareOp .NotEq) (Pn X.K true):=by
 intro pins s σ H x y v u Q I rx ry h;obtain⟨p,b,xs,ys,rfl,rfl,hp,hb,fx,fy,q⟩:=h;cases rx;cases ry;obtain⟨its,r1,p1,_⟩:=I.list hp;obtain⟨jts,r2,p2,_⟩:=I.list hb;have l1:=r1.length;have l2:=r2.length;simp only [if_true] at q
 by_cases e:xs.length=ys.length
 ·rw [rW _ _ e] at q
  refine SeqAt.RcNeAt.lists (e:=fun i=>eqV (xs.getD i .non) (ys.getD i .non)) p1.isList p2.isList (by simp only [l9]; omega) hu (fun j h1 h2=>BW (xg r1 h1) (xg r2 h2) (rg fx (by simp only [l9] at h1; omega)) (rg fy (by simp only [l9] at h2; omega))) _ _ _ _ ?_
  rw [l9,<- l1];exact⟨.bl _,H,I,rfl,q⟩
 ·rw [rq e] at q
  refine SeqAt.RcNeAt.lists_lengths p1.isList p2.isList (by simp only [l9,bne_iff_ne]; omega) hu _ _ _ _ ?_
  exact⟨.bl true,H,I,rfl,q⟩
theorem NQ{x:V}{u t:g7}(I:Inv X pins σ H s)(rx:bg x u)(ty:TyOf X.K H x t){A:j0}{E:g7->g8->Prop}{Q:g7->g8->Prop}{tp:Addr}{dd:Option Addr}{its:List g7}{n:Nat}{sl:Array (Option g7)}{b:Bool}
  (htp:s.heap.get? tp=some ⟨.type "tuple",dd,.seq its.toArray n,sl⟩) (e:T4 X.K t its=some b) (h:∀ tk,Q (.bool b) { s with toks:=tk }) :
  wpAny (model X.prog X.w) A (call (.builtin "isinstance") [u,.ref tp]) Q E s:=by
 cases ty with
 | non=>cases (show u=E4 from rx); exact L4 al2 I.kIn E2 htp e (fun z=>nomatch z) h
 | bl y=>cases (show u=R8 y from rx); exact L4 al3 I.kIn E2 htp e (fun z=>nomatch z) h
 | int i=>obtain⟨t,q⟩:=(show ∃ t,u=G0 i t from rx); cases q; exact L4 al4 I.kIn E2 htp e (fun z=>nomatch z) h
 | str y=>obtain⟨t,q⟩:=(show ∃ t,u=O7 y t from rx); cases q; exact L4 al5 I.kIn E2 htp e (fun z=>nomatch z) h
 | flt y=>obtain⟨t,q⟩:=(show ∃ t,u=Y3 y t from rx); cases q; exact L4 al6 I.kIn E2 htp e (fun z=>nomatch z) h
 | @lst a xs ea =>
  cases (show u=j7 a from rx)
  obtain⟨_,_,m,_,h1⟩:=(show bG X.prog X.w H s.heap a (.lst xs) from I.hok a _ ea)
  exact L4 Z6 I.kIn ⟨_,h1,rfl⟩ htp e (fun z=>nomatch z) h
 | @frz a ob xs ea =>
  cases (show u=j7 a from rx)
  obtain⟨_,_,_,m,_,h1⟩:=(show bG X.prog X.w H s.heap a (.frz ob (.lst xs)) from I.hok a _ ea)
  exact L4 Z6 I.kIn ⟨_,h1,rfl⟩ htp e (fun z=>nomatch z) h
 | @tup a xs ea =>
  cases (show u=j7 a from rx)
  obtain⟨_,_,_,p⟩:=(show bG X.prog X.w H s.heap a (.tup xs) from I.hok a _ ea)
  obtain⟨o,h1,h2,_⟩:=p;exact L4 al7 I.kIn ⟨o,h1,h2⟩ htp e (fun z=>nomatch z) h
 | @dK a kvs ea =>
  cases (show u=j7 a from rx)
  obtain⟨_,_,vs,_,p⟩:=(show bG X.prog X.w H s.heap a (.dK kvs) from I.hok a _ ea)
  obtain⟨o,es,ep,h1,h2,_⟩:=p;exact L4 Z7 I.kIn ⟨o,h1,h2.1⟩ htp e (fun z=>nomatch z) h
 | @dT a kvs ea =>
  cases (show u=j7 a from rx)
  obtain⟨_,_,xs,_,o,es,ep,h1,h2,_⟩:=(show bG X.prog X.w H s.heap a (.dT kvs) from I.hok a _ ea)
  exact L4 Z7 I.kIn ⟨o,h1,h2.1⟩ htp e (fun z=>nomatch z) h
 | @ins a C dx fs ea cl ha hn htk hm =>
  cases (show u=j7 a from rx)
  obtain⟨mA,O,_⟩:=nT I.hok ea;obtain⟨od,J,_⟩:=O.look;exact L4 (al8 (cl.get _) cl.hd ha hn htk hm) I.kIn J htp e (fun z=>nomatch z) h
theorem bF:gS X (.builtin "isinstance") (fun xs H Q => ∃ x T t b,xs=[x,.ty T]/\TyOf X.K H x t/\P0 X.K t (.type T)=some b/\Q (.bl b) H):=by
 intro pins s σ H xs us Q I r h;obtain⟨x,T,t,b,rfl,ty,e,q⟩:=h;obtain⟨u,w',rfl,rx,ry⟩:=Hd r;cases (show w'=C7 T from ry)
 exact DX I rx ty e fun tk=>⟨.bl b,H,I.tok tk,rfl,q⟩
theorem Dp:gS X (.builtin "isinstance") (fun xs H Q => ∃ x p S T t b,xs=[x,.ref p]/\H p=some (.tup [.ty S,.ty T])/\TyOf X.K H x t/\T4 X.K t [.type S,.type T]=some b/\Q (.bl b) H):=by
 intro pins s σ H xs us Q I r h;obtain⟨x,p,S,T,t,b,rfl,hp,ty,e,q⟩:=h;obtain⟨u,w',rfl,rx,ry⟩:=Hd r;cases (show w'=j7 p from ry)
 obtain⟨_,its,rv,o,ho,hc,n,hd⟩:=I.hok p _ hp;obtain⟨v1,v2,rfl,a1,a2⟩:=Hd rv;cases (show v1=C7 S from a1)
 cases (show v2=C7 T from a2)
 obtain⟨oc,od,odt,osl⟩:=o;simp only at hc hd
 subst hc hd;exact NQ (its:=[.type S,.type T]) I rx ty ho e fun tk=>⟨.bl b,H,I.tok tk,rfl,q⟩
end
end L2
namespace SS
open PySem PyProof.Rows
def K2 (xs:Array A6)(i:Nat):Int:=match xs[i]? with
 | some p=>numOf p.2
 | none=>0
def Up (xs:Array A6)(k:Nat):Prop := ∀ i j,i < j->j < k->K xs i < K xs j\/(K xs i=K xs j/\K2 xs i < K2 xs j)
def Dn (xs:Array A6)(k:Nat):Prop := ∀ i j,i < j->j < k->K xs j < K xs i\/(K xs i=K xs j/\K2 xs j < K2 xs i)
structure Left(xs:Array A6)(k:Nat):Prop where
 same:∀ i,k<=i->i < xs.size->K2 xs i=i
 ahead:∀ i,i < k->i < xs.size->K2 xs i < k
section
variable {prog:i8} {w:i7} {A:j0} {E:g7→g8→Prop} {s:g8} {a₀:Array A6}
structure Fall(xs:Array A6)(x g:Nat):Prop where
 lt:g < x
 d1:Dn xs g
 d2:∀ i j,i < g->g<=j->j < x->K xs j < K xs i
 d3:∀ i,g<=i->i < x->K xs i=K xs (x - 1)/\K2 xs i=i
 same:∀ i,x<=i->i < xs.size->K2 xs i=i
 ahead:∀ i,i < g->i < xs.size->K2 xs i < g
end
def Places (vs:List g7)(n:Nat):Prop:=vs.length=n/\∀(i:Nat) v,vs[i]? = some v->∃ t,v = .int (i:Int) t
structure Sorted(key:Nat->Int)(n:Nat)(ps:List Nat):Prop where
 perm:ps.Perm (x6 n)
 ord:∀(i j p q:Nat),i < j->ps[i]? = some p->ps[j]? = some q->key p < key q\/(key p=key q/\p < q)
theorem pN(i:Int)(t:Tok):numOf (.int i t)=i:=rfl
section
variable {prog:i8} {w:i7} {A:j0} {E:g7→g8→Prop} {s:g8} {a f:Addr} {vs:List g7} {n e0:Nat} {key:Nat→Int} {P:PySem.Fin→g8→Prop}
def But (a:Addr)(h h':Heap):Prop := ∀ b o,b≠a->h.get? b=some o->h'.get? b=some o
end
end SS
namespace L2
open PySem PySem.Spec PyProof.Rows
def Tb (P:Addr)(lp:Pos)(lq:Str)(H:Hp):Prop :=
 ∃ ps,H P=some (.tbl ps)/\(ps = #[]\/∃ c',ps = #[rawInt lp.line,rawInt lp.col,.ref c']/\H c'=some (.ext fun h=>h.CodeRec (.ref c') lq))
theorem Tb.at{P:Addr}{lp:Pos}{lq:Str}{H H':Hp}(t:Tb P lp lq H)(e:aS H H'):Tb P lp lq H':=by
 obtain⟨ps,h,r⟩:=t;refine⟨ps,e _ _ h,?_⟩;rcases r with r | ⟨c',r,q⟩
 ·exact .inl r
 ·exact .inr ⟨c',r,e _ _ q⟩
section
variable {X:Cx} {tg:Expr}
def QQ (K:i3)(tl:TE):TI:=fun σ H R=>tl σ H fun x H1 => ∃ a,x = .ref a/\(((∃ xs,SqL K H1 a xs)/\R (Itl K a) H1)\/((∃ xs,SqT K H1 a xs)/\R (Itt K a) H1))
theorem cZ{l:Expr}{tl:TE}(hl:PE X l tl):PI X tg l (QQ X.K tl):=by
 intro pins s σ H R I h;refine thn (hl pins s σ H _ I h) fun v s1 ⟨x,H1,I1,r1,q1⟩=>?_;obtain⟨a,e,q⟩:=q1;subst e;cases r1;rcases q with ⟨⟨xs,hq⟩,q⟩ | ⟨⟨xs,hq⟩,q⟩
 ·obtain⟨its,rv,p,hz⟩:=I1.list hq
  refine Z2 p.isList ?_;refine⟨s1.heap.objs.size,[s1.heap.objs.size],_,_,H1,rfl,I1.kept (t':=s1.toks) fun b o e=>l7 _ e,vB a _,⟨_,y6 _ rfl,rfl,rfl⟩,fun b hb=>?_,q⟩;have e:b=s1.heap.objs.size:=by simpa using hb
  subst e;exact I1.fpOk (i6 _) (I1.hok.fresh (i6 _))
 ·obtain⟨its,rv,p,hz⟩:=I1.tuple hq
  refine R9 (show s1.heap.IsTuple a its.toArray from p) ?_
  refine⟨s1.heap.objs.size,[s1.heap.objs.size],_,_,H1,rfl,I1.kept (t':=s1.toks) fun b o e=>l7 _ e,tI a _,⟨_,y6 _ rfl,rfl,rfl⟩,fun b hb=>?_,q⟩;have e:b=s1.heap.objs.size:=by simpa using hb
  subst e;exact I1.fpOk (i6 _) (I1.hok.fresh (i6 _))
end
section
variable {K:i3} {a:Addr} {xs:List V} {y:Str} {cap:List Nat} {tt:TT} {te:TE} {σ:St} {Z:List V→Hp→Prop} {H1:Hp}
theorem sU(y:Str)(cap:List Nat)(σ:St)(x:V):Wk (eX [y] cap σ) ((eX [y] cap σ).set 0 (some x)):=Wk.set (by show(none :: _:St)[0]? = some none; rfl)
theorem iN(Pv:Nat->List V->Hp->Prop)(h0:Pv 0 [] H1)(hS:∀ i acc H,Pv i acc H->SqL K H a xs)(hz:∀ i acc H,Pv i acc H->acc.length < sizeLine)
  (step:∀ i x acc H (R:List V->Hp->Prop),(∀ acc' H',Pv (i + 1) acc' H'->R acc' H')->xs[i]? = some x->Pv i acc H->tt ((eX [y] cap σ).set 0 (some x)) H fun b H5=>if b=true then te ((eX [y] cap σ).set 0 (some x)) H5 fun v H6=>R (acc ++ [v]) H6 else R acc H5)
  (hd:∀ acc H,Pv xs.length acc H->Z acc H):oU [y] cap (bC 0) tt te σ Z (Itl K a) H1:=by
 refine⟨fun i m acc H=>m=xs.length - i/\i<=xs.length/\Pv i acc H,⟨zQa,x5 _,h0⟩,?_⟩;rintro i m acc H ⟨rfl,hi,p⟩;refine⟨hz i acc H p,?_⟩;have q:=hS i acc H p;by_cases hlt:i < xs.length
 ·refine .inr ⟨⟨xs,xs[i],q,i5 hlt⟩,fun x H3 yl=>?_⟩
  obtain⟨e,yx⟩:=yl;subst e;exact⟨sU y cap σ x,step i x acc H3 (fun acc' H' => ∃ m',m' < xs.length - i/\m'=xs.length - (i + 1)/\i + 1<=xs.length/\Pv (i + 1) acc' H') (fun acc' H' p'=>⟨_,by omega,rfl,hlt,p'⟩) (yx xs q) p⟩
 ·have e:i=xs.length:=by omega
  subst e;exact .inl ⟨⟨xs,q,i6 _⟩,hd acc H p⟩
theorem oB(Pv:Nat->List V->Hp->Prop)(h0:Pv 0 [] H1)(hS:∀ i acc H,Pv i acc H->SqT K H a xs)(hz:∀ i acc H,Pv i acc H->acc.length < sizeLine)
  (step:∀ i x acc H (R:List V->Hp->Prop),(∀ acc' H',Pv (i + 1) acc' H'->R acc' H')->xs[i]? = some x->Pv i acc H->tt ((eX [y] cap σ).set 0 (some x)) H fun b H5=>if b=true then te ((eX [y] cap σ).set 0 (some x)) H5 fun v H6=>R (acc ++ [v]) H6 else R acc H5)
  (hd:∀ acc H,Pv xs.length acc H->Z acc H):oU [y] cap (bC 0) tt te σ Z (Itt K a) H1:=by
 refine⟨fun i m acc H=>m=xs.length - i/\i<=xs.length/\Pv i acc H,⟨zQa,x5 _,h0⟩,?_⟩;rintro i m acc H ⟨rfl,hi,p⟩;refine⟨hz i acc H p,?_⟩;have q:=hS i acc H p;by_cases hlt:i < xs.length
 ·refine .inr ⟨⟨xs,xs[i],q,i5 hlt⟩,fun x H3 yl=>?_⟩
  obtain⟨e,yx⟩:=yl;subst e;exact⟨sU y cap σ x,step i x acc H3 (fun acc' H' => ∃ m',m' < xs.length - i/\m'=xs.length - (i + 1)/\i + 1<=xs.length/\Pv (i + 1) acc' H') (fun acc' H' p'=>⟨_,by omega,rfl,hlt,p'⟩) (yx xs q) p⟩
 ·have e:i=xs.length:=by omega
  subst e;exact .inl ⟨⟨xs,q,i6 _⟩,hd acc H p⟩
theorem nU{n:Nat}(Pv:Nat->List V->Hp->Prop)(h0:Pv 0 [] H1)(hz:∀ i acc H,Pv i acc H->acc.length < sizeLine)
  (step:∀ i acc H (R:List V->Hp->Prop),(∀ acc' H',Pv (i + 1) acc' H'->R acc' H')->i < n->Pv i acc H->tt ((eX [y] cap σ).set 0 (some (.int (0 + (i:Int))))) H fun b H5=>if b=true then te ((eX [y] cap σ).set 0 (some (.int (0 + (i:Int))))) H5 fun v H6=>R (acc ++ [v]) H6 else R acc H5)
  (hd:∀ acc H,Pv n acc H->Z acc H):oU [y] cap (bC 0) tt te σ Z (Itr 0 n) H1:=by
 refine⟨fun i m acc H=>m=n - i/\i<=n/\Pv i acc H,⟨zQa,x5 _,h0⟩,?_⟩;rintro i m acc H ⟨rfl,hi,p⟩;refine⟨hz i acc H p,?_⟩;by_cases hlt:i < n
 ·refine .inr ⟨hlt,fun x H3 yl=>?_⟩
  obtain⟨e,yx⟩:=yl;subst e;subst yx;exact⟨sU y cap σ _,step i acc H3 (fun acc' H' => ∃ m',m' < n - i/\m'=n - (i + 1)/\i + 1<=n/\Pv (i + 1) acc' H') (fun acc' H' p'=>⟨_,by omega,rfl,hlt,p'⟩) hlt p⟩
 ·have e:i=n:=by omega
  subst e;exact .inl ⟨i6 _,hd acc H p⟩
end
section
variable {X:Cx} {K:i3}
theorem oE(e:X.K=K):IxR X (JI K):=by subst e; exact aY
theorem KB(e:X.K=K):IxR X (Nf K):=by subst e; exact aP
end
def lR:List String:=["NoneType","bool","int","str","list","tuple","dict"]
def zb (S T:String):Bool:=S == T || (S == "bool" && T == "int")
def wJ (K:i3):Bool:=lR.all fun S=>lR.all fun T=>P0 K (.type S) (.type T) == some (zb S T)
theorem BG{K:i3}(h:wJ K=true){S T:String}(hS:lR.contains S=true)(hT:lR.contains T=true):P0 K (.type S) (.type T)=some (zb S T):=by
 have h1:=E8.mp h S (by simpa using hS)
 have h2:=E8.mp h1 T (by simpa using hT)
 exact beq_iff_eq.mp h2
structure Is(K:i3)(H:Hp)(v:V)(S:String):Prop where
 ty:TyOf K H v (.type S)
 mem:lR.contains S=true
theorem Is.kit{K:i3}{H:Hp}{v:V}{S:String}(x:Is K H v S)(h:wJ K=true)(T:String)(hT:lR.contains T=true:=by rfl):P0 K (.type S) (.type T)=some (zb S T):=BG h x.mem hT
section
variable {K:i3} {H:Hp}
theorem Is.int(i:Int):Is K H (.int i) "int" := ⟨.int i,rfl⟩
theorem Is.bl(b:Bool):Is K H (.bl b) "bool" := ⟨.bl b,rfl⟩
theorem Is.non:Is K H .non "NoneType" := ⟨.non,rfl⟩
theorem Is.str(x:Str):Is K H (.str x) "str" := ⟨.str x,rfl⟩
theorem Is.lst{a:Addr}{xs:List V}(e:H a=some (.lst xs)):Is K H (.ref a) "list" := ⟨.lst e,rfl⟩
theorem Is.tup{a:Addr}{xs:List V}(e:H a=some (.tup xs)):Is K H (.ref a) "tuple" := ⟨.tup e,rfl⟩
theorem Is.dK{a:Addr}{xs:List (Key×V)}(e:H a=some (.dK xs)):Is K H (.ref a) "dict" := ⟨.dK e,rfl⟩
end
end L2
namespace HT
open PySem PyProof.Rows
end HT
namespace PySem
open Sem (wp)
end PySem
namespace L2
open PySem PySem.Spec PyProof.Rows
def ltP (a b:Int×Int):Prop:=a.1 < b.1\/(a.1=b.1/\a.2 < b.2)
instance (a b:Int×Int):Decidable (ltP a b):=inferInstanceAs (Decidable (_\/_))
end L2
namespace SM
def BA (l:List Int):Nat:=l.idxOf (l.foldl max (l.headD 0))
def KR:Nat->List Int->List Int->List Int×List Int
 | 0,f,l=>(f,l)
 | n + 1,f,l=>KR n (f.set (BA l) (f.getD (BA l) 0 + 1)) (l.set (BA l) (-1))
def KZ (t:Int)(ws:List Int):List Int:=ws.map fun w=>t * w / ws.sum
def Ps (t:Int)(ws:List Int):List Int:=ws.map fun w=>t * w % ws.sum
def PM (t:Int)(ws:List Int):Int:=t - (KZ t ws).sum
def QL (t:Int)(ws:List Int):List Int:=if ws.sum=0 then ws.map fun _=>0 else(KR (PM t ws).toNat (KZ t ws) (Ps t ws)).1
end SM
namespace L2
open PySem
theorem tS{x:V}(h:dJ x=true):eqV x x=true:=by
 cases x <;> first | rfl | (simp [eqV]; done) | (cases h)
theorem pM:∀ {xs:List V},xs.all dJ=true->xy xs xs=true
 | [],_=>rfl
 | x :: xs,h=>by
  rw [Q4,y9] at h;show(eqV x x && xy xs xs)=true;rw [tS h.1,pM h.2]; rfl
open PySem PySem.Spec PyProof.Rows
end L2
namespace PySem
open Sem (wp)
end PySem
namespace L2
open PySem PySem.Spec PyProof.Rows
section
variable {X:Cx} {pins:List (Addr×Obj)} {σ:St} {H:Hp} {s:g8} {h':Heap}
theorem Inv.turnedL{t':Nat}{ch:List Addr}(I:Inv X pins σ H s)(k:∀ b o,b ∉ ch->s.heap.get? b=some o->h'.get? b=some o)(hf:∀ b∈ch,qR X pins H b) :
  Inv X pins σ H { s with heap:=h',toks:=t' }:=by
 have nit:∀ b u,H b=some u->b ∉ ch:=fun b u e z=>by rw [(hf b z).1] at e; cases e
 refine I.step (g':=s.gens) (d':=s.drawn) (ch:=ch) (fun b hb=>?_) (fun b o _ _ hc e _=>k b o hc e) (fun b o _ _ hc e _=>⟨o.slots,k b o hc e⟩) (fun _ _ _ _ n=>n)
  (fun b o hc e=>⟨o,k b o hc e⟩) (fun _ _ e=>e) (fun _ _ _ e=>e) (fun b ps e=>⟨#[],by rw [e]; simp⟩) (fun m hm=>?_) (fun b u e=>?_) I.bare
 ·obtain⟨_,f1,_,f3,f4,f5⟩:=hf b hb
  exact⟨f3,f1,f4,f5⟩
 ·obtain⟨o,es,ep,ho,r⟩:=hm
  exact⟨o,es,ep,k _ o (fun z=>(hf _ z).2.1 rfl) ho,r⟩
 ·refine(I.hok b u e).stay (fun c v hc q=>k c v ?_ q) (fun _ q=>q) fun _ _ q=>q
  rcases hc with z | z
  ·rw [z]; exact nit b u e
  ·exact nit c _ z
theorem Inv.turnedT{t':Nat}{ch:List Addr}{T:Addr}{o:HO}(I:Inv X pins σ H s)(k:∀ b o,b ∉ ch->s.heap.get? b=some o->h'.get? b=some o)(hf:∀ b∈ch,qR X pins H b)
  (hT:s.heap.objs.size<=T) (new:bG X.prog X.w (upd H T o) h' T o):Inv X pins σ (upd H T o) { s with heap:=h',toks:=t' }:=by
 have fT:H T=none:=I.hok.fresh hT;have nit:∀ b u,H b=some u->b ∉ ch:=fun b u e z=>by rw [(hf b z).1] at e; cases e
 have neT:∀ b u,s.heap.get? b=some u->b≠T:=fun b u e=>w6 (A9 (j5 e) hT);refine I.step (g':=s.gens) (d':=s.drawn) (ch:=ch) (fun b hb=>?_) (fun b o _ _ hc e _=>k b o hc e) (fun b o _ _ hc e _=>⟨o.slots,k b o hc e⟩) (fun b o _ e n=>by rw [am (neT b o e)]; exact n)
  (fun b o hc e=>⟨o,k b o hc e⟩) (fun b xs e=>by rw [am (aH e fT)]; exact e) (fun b u v e=>by rw [am (aH e fT)]; exact e) (fun b ps e=>⟨#[],by rw [am (aH e fT),e]; simp⟩) (fun m hm=>?_) (fun b u e=>?_) I.bare
 ·obtain⟨_,f1,_,f3,f4,f5⟩:=hf b hb
  exact⟨f3,f1,f4,f5⟩
 ·obtain⟨o,es,ep,ho,r⟩:=hm
  exact⟨o,es,ep,k _ o (fun z=>(hf _ z).2.1 rfl) ho,r⟩
 ·by_cases hb:b=T
  ·subst hb; rw [af] at e; cases e; exact new
  ·rw [am hb] at e
   refine(I.hok b u e).stay (fun c v hc q=>k c v ?_ q) (fun c q=>by rw [am (aH q fT)]; exact q) fun c xs q=>by rw [am (aH q fT)]; exact q
   rcases hc with z | z
   ·rw [z]; exact nit b u e
   ·exact nit c _ z
end
section
variable {J:It} {own:List Str} {cap:List Nat} {g:TG} {tt:TT} {te:TE} {σ:St} {Z:List V→Hp→Prop} {H1:Hp}
theorem Cq(n:Nat)(Pv:Nat->List V->Hp->Prop)(h0:Pv 0 [] H1)(hz:∀ i acc H,Pv i acc H->acc.length < sizeLine)(hgo:∀ i acc H,i < n->Pv i acc H->J.go i H)(hst:∀ acc H,Pv n acc H->J.stop n H)
  (step:∀ i x acc H H3 (R:List V->Hp->Prop),(∀ acc' H',Pv (i + 1) acc' H'->R acc' H')->i < n->Pv i acc H->J.yld i H x H3->g x (eX own cap σ) H3 fun σ4 H4=>Wk (eX own cap σ) σ4/\tt σ4 H4 fun b H5 =>
   if b=true then te σ4 H5 fun v H6=>R (acc ++ [v]) H6 else R acc H5)
  (hd:∀ acc H,Pv n acc H->Z acc H):oU own cap g tt te σ Z J H1:=by
 refine⟨fun i m acc H=>m=n - i/\i<=n/\Pv i acc H,⟨zQa,x5 _,h0⟩,?_⟩;rintro i m acc H ⟨rfl,hi,p⟩;refine⟨hz i acc H p,?_⟩;by_cases hlt:i < n
 ·refine .inr ⟨hgo i acc H hlt p,fun x H3 yl=>?_⟩
  exact step i x acc H H3 (fun acc' H' => ∃ m',m' < n - i/\m'=n - (i + 1)/\i + 1<=n/\Pv (i + 1) acc' H') (fun acc' H' p'=>⟨_,by omega,rfl,hlt,p'⟩) hlt p yl
 ·have e:i=n:=by omega
  subst e;exact .inl ⟨hst acc H p,hd acc H p⟩
end
def g2 (K:i3):TG:=Kb K 2 (rZ (bC 0) (rZ (bC 1) Mu))
def g4 (K:i3):TG:=Kb K 4 (rZ (bC 0) (rZ (bC 1) (rZ (bC 2) (rZ (bC 3) Mu))))
section
variable {X:Cx} {K:i3} {pos:Pos}
theorem Kp{es:List Expr}{k:Nat}{t:TGs}{n:Nat}(eK:X.K=K)(hc:X.calm=true)(h:PGs X es t)
  (hn:(assignEach es X.env).length=n) (hst:(assignEach es X.env).findIdx? (·.1)=none):PG X (.Tuple es k pos) (Kb K n t):=by
 subst eK; exact xD hc h hn hst
end
end L2
namespace FM
open SM
structure Pt where
 b:Int
 l:Int
 m:Int
 w:Int
 deriving DecidableEq
def wts (ps:List Pt)(rooms:List Int):List Int:=af8 (fun p r=>if 0 < r then p.w else 0) ps rooms
def HD (lack:Int)(ps:List Pt)(rooms:List Int):List Int:=af8 min (QL lack (wts ps rooms)) rooms
def st (ps:List Pt)(lack:Int):Nat->List Int×Int
 | 0=>(ps.map fun p=>p.m - p.b,lack)
 | k + 1=>(af8 (· - ·) (st ps lack k).1 (HD (st ps lack k).2 ps (st ps lack k).1),(st ps lack k).2 - (HD (st ps lack k).2 ps (st ps lack k).1).sum)
def gv (ps:List Pt)(lack:Int)(k:Nat):List Int:=HD (st ps lack k).2 ps (st ps lack k).1
structure Ends(ps:List Pt)(lack:Int)(i:Nat):Prop where
 on:∀ k,k < i->0 < (st ps lack k).2/\(gv ps lack k).sum≠0
 off:¬ 0 < (st ps lack i).2\/(gv ps lack i).sum=0
def above (ps:List Pt):List Int:=ps.map fun p=>p.b - p.l
end FM
namespace L2
open PySem PySem.Spec PyProof.Rows
def Ite (K:i3)(a:Addr):It :=
 ⟨fun i H => ∃ xs x,SqL K H a xs/\xs[i]? = some x,
  fun i H v H' => ∃ T x,v = .ref T/\H T=none/\H'=upd H T (.tup [.int i,x])/\∀ xs,SqL K H a xs->xs[i]? = some x,
  fun i H => ∃ xs,SqL K H a xs/\xs.length<=i⟩
theorem EC{P:i8}{w:i7}{K:i3}{es:List Expr}{kk:Nat}{tp:Pos}{e it l:Addr}(hne:e≠it) :
  Turn P w K (.Tuple es kk tp) (Ite K l) [e,it] e (fun i h=>(∃ old,IsEnum h e it i old)/\h.IsListIter it l i) where
 mem:=by simp
 obj:=by
  rintro i h ⟨⟨old,e1⟩,e2⟩ c hc;simp only [l6,C1,or_false] at hc
  rcases hc with rfl | rfl
  ·exact⟨_,e1,fun v q=>by have q':Z0 _=Z1 v:=q; cases q'⟩
  ·obtain⟨o,q,c,d⟩:=e2
   exact⟨o,q,fun v z=>by rw [d] at z; cases z⟩
 keep:=by
  rintro i h h' ⟨⟨old,e1⟩,e2⟩ k;exact⟨⟨old,k e (by simp) _ e1⟩,e2.at fun o q=>k it (by simp) o q⟩
 item:=by
  intro X hP hw hK hc i pins s σ H E I hf st hg;subst hP hw hK;obtain⟨xs,x,hx,ex⟩:=hg;obtain⟨⟨old,e1⟩,e2⟩:=st;obtain⟨its,rx,pl,_⟩:=I.list hx;obtain⟨u,hu,ru⟩:=rx.get ex;refine wpAny_pyNext_enum_item e1 e2 pl.isList (x:=u) (by simpa using hu) hne fun h1 o1 i1 t1 _ kp=>?_
  refine⟨zQa,an1 (s:={ s with heap:=h1,toks:=s.toks + 1 }) o1 fun h2 z2 sb=>?_⟩
  have le:e < s.heap.objs.size:=j5 e1;have kp2:∀ b o,b ∉ [e,it]->s.heap.get? b=some o->h2.get? b=some o:=fun b o hb q=>by
   simp only [l6,C1,or_false,not_or] at hb
   exact sb.extBut _ _ hb.1 (kp b o hb.1 hb.2 q)
  have t2:=sb.extBut _ _ (M2 le) t1;have fT:H s.heap.objs.size=none:=I.hok.fresh (i6 _);have IN:Inv X pins σ (upd H s.heap.objs.size (.tup [.int i,x])) { s with heap:=h2,toks:=s.toks + 1 }:=I.turnedT (t':=s.toks + 1) (ch:=[e,it]) kp2 hf (i6 _)
   ⟨E5 (az (by show 2<=1000; decide)),[.int i s.toks,u],.cons ⟨zQa⟩ (.cons ru .nil),_,t2,rfl,zQa⟩
  refine⟨.ref s.heap.objs.size,_,IN,rfl,⟨_,x,rfl,fT,rfl,fun ys q=>by rw [I.list_inj q hx]; exact ex⟩,⟨⟨_,z2⟩,i1.extBut sb.extBut hne.symm⟩,fun b hb=>?_⟩
  have hlt:b≠s.heap.objs.size:=by
   have ob:∃ o,s.heap.get? b=some o:=by
    simp only [l6,C1,or_false] at hb
    rcases hb with rfl | rfl
    ·exact⟨_,e1⟩
    ·obtain⟨o,q,_⟩:=e2; exact⟨o,q⟩
   obtain⟨o,q⟩:=ob;exact w6 (j5 q)
  rw [am hlt]; exact(hf b hb).1
 done:=by
  intro X hP hw hK hc i pins s σ H E I hf st hg;subst hP hw hK;obtain⟨xs,hx,hle⟩:=hg;obtain⟨⟨old,e1⟩,e2⟩:=st;obtain⟨its,rx,pl,_⟩:=I.list hx;have lx:=rx.length;exact wpAny_pyNext_enum_end (I.ok.hd hc) e1 e2 pl.isList (by simp; omega) fun h' eb=>⟨rfl,I.turnedL (t':=s.toks) (ch:=[e,it]) (fun b o hb q=>eb b o (fun z=>hb (by simp [z])) q) hf⟩
 self:=fun _ _ _ _ _ st h=>let ⟨_,e1⟩:=st.1; aa4 e1 h
section
variable {X:Cx}
theorem rO:bootBuiltins "enumerate"=some (.type "enumerate"):=by decide +kernel
end
theorem Ju{J:It}{g:TG}{tb:TS}{D:Ends}{σ:St}{H:Hp}(n:Nat)(Pv:Nat->St->Hp->Prop)(h0:Pv 0 σ H)(hgo:∀ i σ H,i < n->Pv i σ H->J.go i H)(hst:∀ σ H,Pv n σ H->J.stop n H)
  (hs:∀ i x σ H H',i < n->Pv i σ H->J.yld i H x H'->g x σ H' fun σ2 H2=>tb { D with nx:=Pv (i + 1),ct:=Pv (i + 1),bk:=D.nx } σ2 H2) (hd:∀ σ H,Pv n σ H->D.nx σ H) :
  ∃ W:Nat->Nat->St->Hp->Prop,(∃ m,W 0 m σ H)/\∀ i m σ H,W i m σ H ->
   (J.stop i H/\D.nx σ H)\/(J.go i H/\∃ N:St->Hp->Prop,(∀ σ' H',N σ' H'->∃ m',m' < m/\W (i + 1) m' σ' H')/\∀ x H',J.yld i H x H'->g x σ H' fun σ2 H2=>tb { D with nx:=N,ct:=N,bk:=D.nx } σ2 H2):=by
 refine⟨fun i m σ H=>m=n - i/\i<=n/\Pv i σ H,⟨n,by simp,x5 _,h0⟩,?_⟩
 rintro i m σ H ⟨rfl,hi,p⟩;by_cases hlt:i < n
 ·exact .inr ⟨hgo i σ H hlt p,Pv (i + 1),fun σ' H' p'=>⟨n - (i + 1),by omega,rfl,hlt,p'⟩,fun x H' y=>hs i x σ H H' hlt p y⟩
 ·have e:i=n:=by omega
  subst e;exact .inl ⟨hst σ H p,hd σ H p⟩
open PySem PySem.W PyProof.Rows
def N2 (o:Obj):Prop := ∃ vs,o.data = .fields vs/\vs[2]? = some .none
def mR (h:Heap)(e:Addr):Prop := ∃ o,h.get? e=some o/\N2 o
def bE {α:Type}:Sem α->Prop
 | .pure _=>True
 | .raise _=>True
 | .unsupported _=>True
 | .finish _=>True
 | .rule _ k => ∀ x,bE (k x)
 | .at _ k => ∀ x,bE (k x)
 | .load _ _ k => ∀ x,bE (k x)
 | .update _ _ f k=>(∀ o,N2 o->N2 (f o))/\∀ x,bE (k x)
 | .alloc _ k => ∀ x,bE (k x)
 | .loadIfAlive _ k => ∀ x,bE (k x)
 | .point _ k => ∀ x,bE (k x)
 | .register _ _=>True
 | .fresh k => ∀ x,bE (k x)
 | .ask k => ∀ x,bE (k x)
 | .choose _ _ k => ∀ x,bE (k x)
 | .os _ _ k => ∀ x,bE (k x)
 | .call .. => False
 | .handled _ k => ∀ x,bE (k x)
 | .newGen _ k => ∀ x,bE (k x)
 | .genState _ k => ∀ x,bE (k x)
 | .resume .. => False
 | .yield .. => True
 | .stack k => ∀ x,bE (k x)
 | .fork .. => True
 | .thread k => ∀ x,bE (k x)
 | .await .. => True
theorem mR.push{h:Heap}{e:Addr}(n:mR h e)(o:Obj):mR (h.push o) e:=let ⟨x,e1,e2⟩:=n; ⟨x,l7 _ e1,e2⟩
theorem mR.update{h:Heap}{e a:Addr}{f:Obj->Obj}(n:mR h e)(k:∀ o,N2 o->N2 (f o)):mR (h.update a f) e:=by
 obtain⟨o,e1,e2⟩:=n;by_cases q:a=e
 ·subst q
  obtain⟨vs,hd,h2⟩:=k o e2;exact⟨f o,N5 f e1 (aa5 hd),vs,hd,h2⟩
 ·exact⟨o,(G8 _ _ q).trans e1,e2⟩
open Sem in
theorem Fu{α:Type}{M:Model}{Γ:PySem.Ctx}{e:Addr}{Q:α->Pos->g8->Prop}{E:g7->Pos->g8->Prop}:∀(t:Sem α) {p:Pos} {s:g8},bE t->mR s.heap e ->
  wp M Γ t (fun a p s'=>mR s'.heap e->Q a p s') (fun x p s'=>mR s'.heap e->E x p s') p s->wp M Γ t Q E p s:=by
 intro t
 induction t with
 | pure a=>intro p s c n h; unfold wp at h ⊢; exact h n
 | raise a=>intro p s c n h; unfold wp at h ⊢; exact h n
 | unsupported a=>intro p s c n h; unfold wp at h ⊢; exact h
 | finish a=>intro p s c n h; unfold wp at h ⊢; exact h
 | rule a k ih=>intro p s c n h; unfold wp at h ⊢; exact ih _ (c _) n h
 | «at» a k ih=>intro p s c n h; unfold wp at h ⊢; exact ih _ (c _) n h
 | load a b k ih=>intro p s c n h; unfold wp at h ⊢; obtain⟨o,h1,h2⟩:=h; exact⟨o,h1,ih _ (c _) n h2⟩
 | update a b f k ih=>intro p s c n h; unfold wp at h ⊢; exact⟨h.1,ih _ (c.2 _) (n.update c.1) h.2⟩
 | alloc o k ih=>intro p s c n h; unfold wp at h ⊢; exact ih _ (c _) (n.push _) h
 | loadIfAlive a k ih=>intro p s c n h; unfold wp at h ⊢; exact ih _ (c _) n h
 | point a k ih=>intro p s c n h; unfold wp at h ⊢; exact ih _ (c _) n h
 | register a k ih=>intro p s c n h; unfold wp at h ⊢; exact h
 | fresh k ih=>intro p s c n h; unfold wp at h ⊢; exact ih _ (c _) n h
 | ask k ih=>intro p s c n h; unfold wp at h ⊢; exact ih _ (c _) n h
 | choose a b k ih=>intro p s c n h; unfold wp at h ⊢; exact⟨h.1,ih _ (c _) n h.2⟩
 | os a b k ih=>intro p s c n h; unfold wp at h ⊢; exact ih _ (c _) n h
 | call a b d l k ih=>intro p s c n h; exact c.elim
 | handled a k ih=>intro p s c n h; unfold wp at h ⊢; exact ih _ (c _) n h
 | newGen a k ih=>intro p s c n h; unfold wp at h ⊢; exact ih _ (c _) n h
 | genState a k ih=>intro p s c n h; unfold wp at h ⊢; obtain⟨o,h1,h2⟩:=h; exact⟨o,h1,ih _ (c _) n h2⟩
 | resume a b d k ih=>intro p s c n h; exact c.elim
 | yield a b d k ih=>intro p s c n h; unfold wp at h ⊢; exact h
 | stack k ih=>intro p s c n h; unfold wp at h ⊢; exact ih _ (c _) n h
 | fork a k ih=>intro p s c n h; unfold wp at h ⊢; exact h
 | thread k ih=>intro p s c n h; unfold wp at h ⊢; exact ih _ (c _) n h
 | await a b d l k ih=>intro p s c n h; unfold wp at h ⊢; exact h
theorem vI{α:Type}{M:Model}{A:j0}{e:Addr}{t:Sem α}{Q:α->g8->Prop}{E:g7->g8->Prop}{s:g8}(c:bE t)(n:mR s.heap e)
  (h:wpAny M A t (fun a s'=>mR s'.heap e->Q a s') (fun x s'=>mR s'.heap e->E x s') s):wpAny M A t Q E s:=fun Γ p g=>Fu t c n (h Γ p g)
theorem Bd{α β:Type}{f:α->Sem β}(hf:∀ a,bE (f a)):∀(t:Sem α),bE t->bE (t.bind f):=by
 intro t
 induction t with
 | pure a=>intro c; exact hf a
 | raise a=>intro c; exact c
 | unsupported a=>intro c; exact c
 | finish a=>intro c; exact c
 | rule a k ih=>intro c x; exact ih x (c x)
 | «at» a k ih=>intro c x; exact ih x (c x)
 | load a b k ih=>intro c x; exact ih x (c x)
 | update a b f k ih=>intro c; exact⟨c.1,fun x=>ih x (c.2 x)⟩
 | alloc o k ih=>intro c x; exact ih x (c x)
 | loadIfAlive a k ih=>intro c x; exact ih x (c x)
 | point a k ih=>intro c x; exact ih x (c x)
 | register a k ih=>intro c; exact c
 | fresh k ih=>intro c x; exact ih x (c x)
 | ask k ih=>intro c x; exact ih x (c x)
 | choose a b k ih=>intro c x; exact ih x (c x)
 | os a b k ih=>intro c x; exact ih x (c x)
 | call a b d l k ih=>intro c; exact c.elim
 | handled a k ih=>intro c x; exact ih x (c x)
 | newGen a k ih=>intro c x; exact ih x (c x)
 | genState a k ih=>intro c x; exact ih x (c x)
 | resume a b d k ih=>intro c; exact c.elim
 | yield a b d k ih=>intro c; exact c
 | stack k ih=>intro c x; exact ih x (c x)
 | fork a k ih=>intro c; exact c
 | thread k ih=>intro c x; exact ih x (c x)
 | await a b d l k ih=>intro c; exact c
theorem bH{α β:Type}{t:Sem α}{f:α->Sem β}(c:bE t)(hf:∀ a,bE (f a)):bE (t >>= f):=Bd hf t c
theorem bP{α:Type}{a:α}:bE (pure a:Sem α):=trivial
theorem xW{a:Addr}:bE (load a):=fun _=>trivial
theorem sS:bE stack:=fun _=>trivial
theorem iD{α:Type}{w:String}:bE (unsupported w:Sem α):=trivial
theorem IJ{o:Obj}:bE (alloc o):=fun _=>trivial
theorem FD{a:Addr}{f:Obj->Obj}(h:∀ o,N2 o->N2 (f o)):bE (update a f):=⟨h,fun _=>trivial⟩
theorem NO{i:Nat}{v:g7}(hi:i≠2):∀ o,N2 o->N2 (W5 (·.setIfInBounds i v) o):=fun o ⟨vs,hd,h2⟩ =>
 ⟨_,Q6 hd _,by rw [Array.getElem?_setIfInBounds_ne hi]; exact h2⟩
theorem oe{v:g7}{i:Nat}:bE (field v i):=by
 unfold field fieldsOf;refine bH ?_ fun x=>?_
 ·split
  ·refine bH xW fun o=>?_
   split
   ·exact bP
   ·exact iD
  ·exact iD
 ·split
  ·exact bP
  ·exact iD
theorem kx{v x:g7}{i:Nat}(hi:i≠2):bE (setField v i x):=by
 unfold setField updateField;split
 ·refine bH xW fun o=>?_
  split
  ·split
   ·exact FD (NO hi)
   ·exact iD
  ·exact iD
 ·exact iD
theorem xH{v:g7}{f:Option Addr}:bE (setFlight v f):=by
 unfold setFlight;refine bH oe fun t=>?_;split
 ·exact kx (by decide)
 ·exact bP
theorem Ji{env:Env}{b:Bool}{l:List Env}:bE (keptBack env b l):=by
 unfold keptBack;split
 ·split
  ·exact bP
  ·unfold underTheClaimsCaller
   exact bH (bH sS fun _=>bP) fun _=>bP
 ·exact bP
theorem MC{env:Env}{l:List Env}:bE (behindIsImport env l):=by
 unfold behindIsImport;split
 ·exact bP
 ·split
  ·exact bP
  ·exact bH oe fun _=>bP
theorem yM:∀(l:List Env),bE (readyFrames l)
 | []=>bP
 | env :: outer=>by
  unfold readyFrames;split
  ·refine bH xW fun o=>?_
   split
   ·exact bP
   ·refine bH MC fun i=>bH Ji fun b=>bH (FD ?_) fun _=>yM outer
    exact fun o ⟨vs,hd,h2⟩=>⟨vs,hd,h2⟩
  ·exact iD
theorem AR{env:Env}:bE (af9 env):=by
 unfold af9 frameEnvs;refine bH (bH sS fun _=>bP) fun l=>bH ?_ fun r=>?_
 ·unfold frameObject
  split
  ·exact bP
  ·exact bH (yM _) fun _=>bP
 ·split
  ·exact bP
  ·exact iD
theorem Fb{f:Addr}{b:Bool}:bE (entryPlaceOf f b):=by
 unfold entryPlaceOf;refine bH sS fun l=>?_;split
 ·exact bP
 ·exact bP
theorem Kc{ty:String}{vs:List g7}:bE (newFields ty vs):=by
 unfold newFields newObj;dsimp only;split
 ·exact iD
 ·exact bH IJ fun _=>bP
theorem JX{env:Env}{e:g7}:bE (noteFrame e env):=by
 unfold noteFrame;split
 ·rename_i f _
  refine bH oe fun h=>?_;have fin:∀ b:Bool,bE (do let a <- af9 env; let pl <- entryPlaceOf f b; let b <- EntryCells.newEntry h a .none (rawInt f) .none pl; setField e 1 b):=fun b =>
   bH AR fun a=>bH Fb fun pl=>bH Kc fun b=>kx (by decide)
  split
  ·refine bH oe fun x=>?_
   split
   ·exact bP
   ·exact bH (kx (by decide)) fun _=>fin _
  ·exact fin _
 ·exact iD
theorem sO{env:Env}{e:g7}:bE (leaving env e):=by
 unfold leaving;exact bH JX fun _=>xH
def CXW (P:i8)(w:i7):CXT:=fun outer H s E e s' => ∃(a C:Addr) (a0:g7) (H':Hp) (B:Heap),e = .ref a/\s'.os=s.os/\K6 s'.gens/\Un (frs outer) [] H H' s.heap s'.heap/\HOk P w H' s'.heap /\
 Heap.FlyingW B outer a (.ref C) a0 s'.heap/\(∀ b o,s.heap.get? b=some o->H b=none->b ∉ frs outer->B.get? b=some o)/\(∀ b u o,H' b=some u->s'.heap.get? b=some o->B.get? b=some o) /\
 (∀ b o,s.heap.get? b=some o->b ∉ frs outer->∃ o',B.get? b=some o')/\mR s'.heap a/\E (.ref C) none H'
theorem bG.is{P:i8}{w:i7}{H:Hp}{h:Heap}{a:Addr}{o:HO}(x:bG P w H h a o):∃ u,h.get? a=some u:=by
 cases o with
 | lst xs=>obtain⟨_,_,_,_,e⟩:=x; exact⟨_,e⟩
 | tup xs=>obtain⟨_,_,_,_,e,_⟩:=x; exact⟨_,e⟩
 | dK kvs=>obtain⟨_,_,_,_,o,_,_,e,_⟩:=x; exact⟨_,e⟩
 | dT kvs=>obtain⟨_,_,_,_,o,_,_,e,_⟩:=x; exact⟨_,e⟩
 | set S n=>obtain⟨o,_,_,_,e,_⟩:=x; exact⟨_,e⟩
 | ins C dx fs=>obtain⟨_,_,_,e,_⟩:=x; exact⟨_,e⟩
 | own y=>obtain⟨_,e⟩:=x; exact⟨_,e⟩
 | xd fs=>obtain⟨_,⟨_,_,_,e,_⟩,_⟩:=x; exact⟨_,e⟩
 | rng lo hi=>obtain⟨_,_,_,e⟩:=x; exact⟨_,e⟩
 | frz ob u=>obtain⟨e,_⟩:=x; exact⟨_,e⟩
 | tbl ps=>exact⟨_,(show h.get? a=some _ from x)⟩
 | met f y=>exact⟨_,(show h.get? a=some _ from x)⟩
 | ext φ=>obtain⟨_,e,_⟩:=x; exact e
theorem EV{P:i8}{w:i7}{outer:List Env}{H H':Hp}{s s':g8}{g B:Heap}{E:XK}{a C:Addr}{a0:g7}(un:Un (frs outer) [] H H' s.heap g)(hok:HOk P w H' g)(up:g.UpToSlots s'.heap)
  (fl:Heap.FlyingW B outer a (.ref C) a0 s'.heap) (fr:∀ b∈frs outer,∃ o,g.get? b=some o/\∀ vs,o.data≠.fields vs)
  (c1:∀ b o,s.heap.get? b=some o->H b=none->b ∉ frs outer->B.get? b=some o) (c2:∀ b u o,H' b=some u->g.get? b=some o->B.get? b=some o)
  (c3:∀ b o,s.heap.get? b=some o->b ∉ frs outer->∃ o',B.get? b=some o') (os:s'.os=s.os) (bare:K6 s'.gens) (nc:mR s'.heap a) (e:E (.ref C) none H'):CXW P w outer H s E (.ref a) s':=by
 refine⟨a,C,a0,H',B,rfl,os,bare,⟨fun b o q n hb _=>fl.1 b o (c1 b o q n hb),fun b o q n hb hx=>?_,un.free,fun b o q hx=>?_,un.tups,un.frzs,un.tbls⟩,
  fun b u q=>(hok b u q).stay (fun c v hc r=>fl.1 c v ?_) (fun _ z=>z) fun _ _ z=>z,fl,c1,fun b u o q r=>?_,c3,nc,e⟩
 ·obtain⟨sl,h1⟩:=un.slot b o q n hb hx
  obtain⟨o1,h2,h3⟩:=fr b hb;rw [h1] at h2;cases h2;obtain⟨sl2,h4⟩:=up b _ h1 h3;exact⟨sl2,h4⟩
 ·by_cases hb:b∈frs outer
  ·obtain⟨o1,h2,h3⟩:=fr b hb
   obtain⟨sl2,h4⟩:=up b _ h2 h3;exact⟨_,h4⟩
  ·obtain⟨o',h1⟩:=c3 b o q hb
   exact⟨o',fl.1 b o' h1⟩
 ·rcases hc with rfl | hc
  ·exact c2 _ _ _ q r
  ·exact c2 _ _ _ hc r
 ·obtain⟨o1,h1⟩:=(hok b u q).is
  have h2:=c2 b u o1 q h1;have h3:=fl.1 b o1 h2;rw [r] at h3;cases h3;exact h2
section
variable {P:i8} {w:i7} {K:i3} {mg:Str→Option g7} {base:Heap} {N:List Str} {qual:Str} {scope:j9} {f:Addr} {cd:g7} {A:j0} {outer:List Env} {s:g8} {H:Hp} {E:XK}
theorem oi{b:Addr}{n:Addr}:b∈frs (envOfC qual scope n f cd :: outer)↔b=n\/b∈frs outer:=by
 unfold frs;rw [Y6];show b∈n :: _↔_;exact l6
theorem Me{E':XK}(hE:∀ c x H',E' c x H'->E c x H'):jI (CXW P w) (fV (CXW P w) P w K mg base N qual scope f cd A outer s H E) E':=by
 rintro pins σ H1 s1 e s' I ⟨a,C,a0,H',B,rfl,os,bare,un,hok,fl,c1,c2,c3,nc,ee⟩;have J:Inv (fV (CXW P w) P w K mg base N qual scope f cd A outer s H E) pins σ H' s':=I.call' os un hok bare fun b z=>absurd z (by simp)
 have lt:∀ b o,s.heap.get? b=some o->b ∉ frs outer->b ∉ frs (envOfC qual scope s.heap.objs.size f cd :: outer):=fun b o q hb z=>by
  rcases oi.mp z with z | z
  ·rw [z] at q; exact absurd (j5 q) (B6 _)
  ·exact hb z
 show wpAny (model P w) (A.deeper (envOfC qual scope s.heap.objs.size f cd)) (leaving (envOfC qual scope s.heap.objs.size f cd) (.ref a)) _ _ s';refine vI sO nc (wpAny_leaves_onW I.ok.frames rfl fl fun h' fl' up nc'=>?_);refine EV (s':={ s' with heap:=h' }) (g:=s'.heap) J.base hok up fl' (fun b hb=>(fl.2.2.1.mem (oi.mpr (.inr hb))).2) (fun b o q n hb=>?_) c2 (fun b o q hb=>?_) J.os bare nc' (hE _ _ _ ee)
 ·exact c1 b o (I.base.keep b o q n hb (by simp [fV])) (I.base.free b o q n (by simp [fV])) (lt b o q hb)
 ·obtain⟨o1,h1⟩:=I.base.there b o q (by simp [fV])
  exact c3 b o1 h1 (lt b o q hb)
theorem NU{pins:List (Addr×Obj)}{σ:St}{H1:Hp}{s1:g8}{a C:Addr}{args:List g7}{h1:Heap}(I:Inv (fV (CXW P w) P w K mg base N qual scope f cd A outer s H E) pins σ H1 s1)
  (mk:Heap.MadeExcOf s1.heap h1 a (.ref C) args) (e:E (.ref C) none H1):(fV (CXW P w) P w K mg base N qual scope f cd A outer s H E).xe (.ref a) { s1 with heap:=h1 }:=by
 have hin:∀ env∈(envOfC qual scope s.heap.objs.size f cd :: outer),∀ b,env.frame=some b->b∈frs (envOfC qual scope s.heap.objs.size f cd :: outer):=fun env he b hb=>ad8.mpr ⟨env,he,hb⟩;have lt:∀ b o,s.heap.get? b=some o->b ∉ frs outer->b ∉ frs (envOfC qual scope s.heap.objs.size f cd :: outer):=fun b o q hb z=>by
  rcases oi.mp z with z | z
  ·rw [z] at q; exact absurd (j5 q) (B6 _)
  ·exact hb z
 have hst:s1.heap.FunFrames base (envOfC qual scope s.heap.objs.size f cd :: outer):=I.stack;show wpAny (model P w) (A.deeper (envOfC qual scope s.heap.objs.size f cd)) (leaving (envOfC qual scope s.heap.objs.size f cd) (.ref a)) _ _ { s1 with heap:=h1 }
 have nc:mR h1 a:=let ⟨t,h,_⟩:=mk.there; ⟨_,h,zQa,rfl⟩
 refine vI (s:={ s1 with heap:=h1 }) sO nc (wpAny_leaves_madeW (base:=hideAll s1.heap (frs (envOfC qual scope s.heap.objs.size f cd :: outer))) I.ok.frames rfl (fun b o q=>of_hideAll _ q) (funFrames_hide hst hin) mk fun h' t fl _ _ up nc'=>?_)
 refine EV (s':={ s1 with heap:=h' }) (g:=s1.heap) I.base I.hok ((Heap.UpToSlots.of_keeps mk.keeps).trans up) fl (fun b hb=>(hst.mem (oi.mpr (.inr hb))).2) (fun b o q n hb=>?_) (fun b u o q r=>?_) (fun b o q hb=>?_) I.os I.bare nc' e
 ·exact hideAll_get _ (I.base.keep b o q n hb (by simp [fV])) (lt b o q hb)
 ·refine hideAll_get _ r fun z=>?_
  have:=I.stkFree b z;rw [q] at this; cases this
 ·obtain⟨o1,h2⟩:=I.base.there b o q (by simp [fV])
  exact⟨o1,hideAll_get _ h2 (lt b o q hb)⟩
end
theorem NN{K:Frag}{h:Heap}{mg:Str->Option g7}{x:Str}{C:Addr}{bmB:List g7}{newId:String}(X:K.In h)(e:mg x=some (.ref C))(q:excIn K C bmB newId=true):OwnCls x C bmB newId mg h:=by
 refine⟨e,?_⟩;rw [excIn] at q;cases hl:K.lookup C with
 | none=>rw [hl] at q; cases q
 | some ob =>
  rw [hl] at q;obtain⟨oc,odd,odt,⟨l⟩⟩:=ob;split at q
  ·rename_i eq0
   cases eq0
   rename_i cd
   split at q
   ·rename_i z1 z2 z3 z4 z5 z6 z7 z8 hm hs
    simp only [y9,beq_iff_eq,an2] at q
    have hs':l=[z3,z4,z5,z6,some (.builtin z7),z8]:=hs;obtain⟨⟨⟨⟨⟨rfl,rfl⟩,hdel⟩,ht⟩,hok⟩,hni⟩:=q;cases cd;dsimp only at hm hdel hok hni;subst hm hdel hs';exact⟨_,_,_,_,_,_,_,_,_,_,_,_,_,_,_,_,_,X _ _ hl,.of_isNs (isNs_of_in X hok),nsMap_none_of_in X hok hni,tail_of_in X ht⟩
   ·cases q
  ·cases q
def zv (X:Cx)(E:XK):Prop := ∀(pins:List (Addr×Obj)) (σ:St) (H1:Hp) (s1:g8) (a C:Addr) (args:List g7) (h1:Heap),Inv X pins σ H1 s1->Heap.MadeExcOf s1.heap h1 a (.ref C) args->E (.ref C) none H1->X.xe (.ref a) { s1 with heap:=h1 }
theorem wZ{P:i8}{w:i7}{K:i3}{mg:Str->Option g7}{base:Heap}{N:List Str}{qual:Str}{scope:j9}{f:Addr}{cd:g7}{A:j0}{outer:List Env}{s:g8}{H:Hp}{E:XK} :
  zv (fV (CXW P w) P w K mg base N qual scope f cd A outer s H E) E:=fun _ _ _ _ _ _ _ _ I mk e=>NU I mk e
def wV (E:XK)(C:Addr)(ta:TA):TS:=fun _ σ H=>ta σ H fun _ H1=>E (.ref C) none H1
theorem sw{X:Cx}{E:XK}{x:Str}{C:Addr}{bmB:List g7}{newId:String}{e:Expr}{es:List Expr}{ta:TA}{np cpos pos:Pos}{B Bn nid initId inN:String}{bmN:List g7}
  (hE:zv X E) (hc:X.calm=true) (hg:Gl X x) (hm:X.mg x=some (.ref C)) (hq:excIn X.K C bmB newId=true) (Fn:ExcBaseFacts Bn newId inN bmN) (FB:ExcBaseFacts B nid initId bmB) (hBn:bmB.contains (.type Bn)=true)
  (hn:(e :: es).length<=1000) (ha:PA X (e :: es) ta) (hlen:∀ σ H Q,ta σ H Q->ta σ H fun vs H1=>vs.length<=sizeLine/\Q vs H1) (hd:(x == ("__debug__" : Str))=false:=by decide)
  (he:starEach (e :: es) X.env=(false,eval e X.env) :: starEach es X.env:=by rfl) (hplain:(backTo cpos (starEach es X.env)).any (·.1)=false:=by rfl) :
  PS X (.Raise (some (.Call (.Name x np) (e :: es) [] cpos)) none pos) (wV E C ta):=by
 intro pins s σ H D I h;have O:∀ h,X.K.In h->OwnCls x C bmB newId X.mg h:=fun h k=>NN k hm hq;obtain⟨tl,N,nm,q,bs,hdct,sn,sub,ab,col,dd,k0,k1,k2,k3,k5,mN,hC,hN,hni,T⟩:=(O _ I.ok.mod.kin).obj;refine wpAny_Raise_call_subU (C:=C) (nm:=nm) (q:=q) (N:=N) (bs:=bs) (bm:=tl) (hdct:=hdct) (sn:=sn) (sub:=sub) (ab:=ab) (col:=col) (dd:=dd) (k0:=k0) (k1:=k1) (k2:=k2) (k3:=k3) (k5:=k5)
  Fn hBn FB (mN:=mN) (T.hasType FB.hasBase) (I.ok.hd hc) (by rw [he]; show(false || (backTo cpos (starEach es X.env)).any (·.1))=false; rw [hplain]; rfl) hni (nX I hg hm ⟨rfl,?_⟩ hd)
 have h2:=ha cpos pins s σ H _ I (hlen _ _ _ h);rw [he] at h2 ⊢;refine af1 (C8 h2 (fun vs s₂ h₃=>?_) fun _ _ y=>y);obtain⟨zs,H1,I1,r,hl,ee⟩:=h₃;exact⟨rfl,by rw [<- r.length]; exact hl,I1.bk _ _ hC,hN.keeps I1.bk,T.keeps I1.bk,fun h' a mk=>hE pins σ H1 s₂ a C vs h' I1 mk ee⟩
theorem Fun.okW{P:i8}{w:i7}{K:i3}{mg:Str->Option g7}{base:Heap}{x qual:Str}{st:Stmt}{f:Addr}{fd:i9}{N ps:List Str}{k:Nat}{sp:Sp}(F:Fun K x qual st f fd)(S:FnScope N ps (aj st))(len:∀ vs H Q E,sp vs H Q E->vs.length=ps.length)
  (hbody:∀(cdv:g7) (A:j0) (outer:List Env) (s:g8) (H:Hp) (vs:List V) (Q:VK) (E:XK),Room k (A.deeper (envOfC qual (aj st) s.heap.objs.size f cdv))->sp vs H Q E ->
   ∃ t,PSs (fV (CXW P w) P w K mg base N qual (aj st) f cdv A outer s H E) (aW st) t/\t { nx:=fun _ H'=>Q .non H',rt:=Q } (kt N vs) H):FnOk P w K mg base (CXW P w) (k + 1) f fd ps sp:=by
 obtain⟨oc,od,kV,doc,pm,an,cdv,ct,osl,rfl,lk,hcd⟩:=F.ex;exact Ii lk hcd S len fun A outer s H vs Q E hr hsp=>hbody cdv A outer s H vs Q E hr hsp
def CV (K:Frag)(C C0:Addr):Bool:=match K.lookup C with
 | some ⟨_,_,.cls cd,_⟩=>cd.mro.contains (.ref C0)
 | _=>false
open PySem PySem.W PySem.Spec PySem.Calls PyProof.Rows
section
variable {prog:i8} {w:i7} {A:j0} {E:g7→g8→Prop} {h:Heap} {g:Array V5} {d:Drawn} {t:Nat} {os:OsState} {K:Frag} {a C:Addr} {o:Obj}
structure ExcIsi(K:Frag)(C:Addr):Prop where
 obj:mroIn K C (.type "object")=some true
 base:mroIn K C (.type "BaseException")=some true
 cls:findIn K (.ref C) "__class__"=some (some (.builtin "object.__class__"))
 ga:findIn K (.ref C) "__getattribute__"=some (some (.builtin "BaseException.__getattribute__"))
 no:findIn K (.ref C) "__getattr__"=some none
end
abbrev Ki:List g7:=[.type "ValueError",.type "Exception",.type "BaseException",.type "object"]
def wT (K:Frag)(pe:Addr)(cs:List Addr):Bool:=decide cs.Nodup && excIn K pe Ki "ValueError.__new__" && cs.all fun c=>excIn K c Ki "ValueError.__new__" && CV K c pe && (mroIn K c (.type "object") == some true) && (mroIn K c (.type "BaseException") == some true) &&
 (findIn K (.ref c) "__class__" == some (some (.builtin "object.__class__"))) && (findIn K (.ref c) "__getattribute__" == some (some (.builtin "BaseException.__getattribute__"))) && (findIn K (.ref c) "__getattr__" == some none) &&
 (kitOne K (.ref c) (.type "ValueError") == some true) && cs.all fun c'=>kitOne K (.ref c) (.ref c') == some (c == c')
structure ClsAt(K:Frag)(pe:Addr)(cs:List Addr)(c:Addr):Prop where
 exc:excIn K c Ki "ValueError.__new__"=true
 below:CV K c pe=true
 isi:ExcIsi K c
 ve:kitOne K (.ref c) (.type "ValueError")=some true
 each:∀ c'∈cs,kitOne K (.ref c) (.ref c')=some (c == c')
theorem AC{K:Frag}{pe:Addr}{cs:List Addr}(h:wT K pe cs=true):excIn K pe Ki "ValueError.__new__"=true/\∀ c∈cs,ClsAt K pe cs c:=by
 unfold wT at h;simp only [y9,E8,beq_iff_eq] at h
 refine⟨h.1.2,fun c hc=>?_⟩;obtain⟨⟨⟨⟨⟨⟨⟨⟨h1,h2⟩,h3⟩,h4⟩,h5⟩,h6⟩,h7⟩,h8⟩,h9⟩:=h.2 c hc;exact⟨h1,h2,⟨h3,h4,h5,h6,h7⟩,h8,h9⟩
def tD0:TE:=fun _ H Q => ∀ a,H a=none->Q (.ref a) (upd H a (.dK []))
theorem yS{X:Cx}{pos:Pos}:PE X (.Dict [] [] pos) tD0:=by
 intro pins s σ H Q I h;refine wpAny_Dict_empty ?_;refine⟨.ref s.heap.objs.size,upd H s.heap.objs.size (.dK []),I.laid (t':=s.toks) (fun b u e=>l7 _ e) (i6 _) ?_,rfl,h _ (I.hok.fresh (i6 _))⟩;refine⟨by show 0<=sizeLine; decide,beq_eq_false_iff_ne.mpr (w9 (w6 (aa6 (show sysModules < mainGlobals by decide) (let ⟨_,_,_,e,_⟩:=I.mod.glob.keeps I.bk; j5 e)))),[],.nil,an3 s.heap⟩
section
variable {κ:Type} [DecidableEq κ]
def cm (kvs:List (κ×V))(k:κ):Option V:=(kvs.find? fun kv=>decide (kv.1=k)).map (·.2)
def iE (kvs:List (κ×V))(k:κ)(v:V):List (κ×V) :=
 if (kvs.any fun kv=>decide (kv.1=k))=true then kvs.map (fun kv=>if kv.1=k then(kv.1,v) else kv) else kvs ++ [(k,v)]
theorem fK{p:κ×V}{r:List (κ×V)}{k:κ}(e:p.1=k):cm (p :: r) k=some p.2:=by simp [cm,N8,e]
theorem eC{p:κ×V}{r:List (κ×V)}{k:κ}(e:¬ p.1=k):cm (p :: r) k=cm r k:=by simp [cm,N8,e]
theorem oh(k:κ):∀ kvs:List (κ×V),(kvs.any fun kv=>decide (kv.1=k))=(cm kvs k).isSome
 | []=>rfl
 | p :: r=>by
  rw [P2];by_cases e:p.1=k
  ·simp only [fK e,decide_eq_true e,W6,Option.isSome_some]
  ·rw [eC e,decide_eq_false e,W7]; exact oh k r
theorem vY(k j:κ)(y:V):∀ kvs:List (κ×V),cm kvs k=none->cm (kvs ++ [(k,y)]) j=if j=k then some y else cm kvs j
 | [],_=>by
  by_cases e:k=j
  ·rw [if_pos e.symm]; exact fK (p:=(k,y)) e
  ·rw [if_neg (fun z=>e z.symm)]; exact eC (p:=(k,y)) e
 | p :: r,hn=>by
  rw [List.cons_append];have hk:¬ p.1=k:=fun z=>by rw [fK z] at hn; cases hn
  rw [eC hk] at hn;have ih:=vY k j y r hn;by_cases e:p.1=j
  ·rw [fK e,fK e,if_neg (fun z=>hk (e.trans z))]
  ·rw [eC e,eC e,ih]
theorem kI(kvs:List (κ×V))(k:κ)(v:V):(iE kvs k v).length<=kvs.length + 1:=by
 unfold iE;split
 ·rw [i4]; omega
 ·rw [A2,x9,List.length_nil]; omega
theorem tT{kvs:List (κ×V)}{k:κ}(v:V)(h:cm kvs k=none):iE kvs k v=kvs ++ [(k,v)]:=by
 unfold iE;rw [oh,h];exact if_neg (by decide)
theorem jd.isSome_eq{o:Option V}{u:Option g7}(r:jd o u):o.isSome=u.isSome:=by
 cases o with
 | none=>cases u with
  | none=>rfl
  | some _=>exact(show False from r).elim
 | some _=>cases u with
  | none=>exact(show False from r).elim
  | some _=>rfl
theorem jd.getD{o:Option V}{u:Option g7}{d:V}{d':g7}(r:jd o u)(rd:bg d d'):bg (o.getD d) (u.getD d'):=by
 cases o with
 | none=>cases u with
  | none=>exact rd
  | some _=>exact(show False from r).elim
 | some _=>cases u with
  | none=>exact(show False from r).elim
  | some _=>exact r
theorem KV.val{kvs:List (κ×V)}{vs:List (κ×g7)}(r:KV kvs vs)(k:κ):jd (cm kvs k) (valueAt vs k):=by
 unfold KV at r
 induction r with
 | nil=>exact E2
 | @cons p q ps qs h t ih =>
  obtain⟨h1,h2⟩:=h;by_cases e:p.1=k
  ·have e':q.1=k:=h1.symm.trans e
   have b:valueAt (q :: qs) k=some q.2:=by simp [valueAt,N8,e']
   rw [fK e,b]; exact h2
  ·have e':¬ q.1=k:=fun z=>e (h1.trans z)
   have b:valueAt (q :: qs) k=valueAt qs k:=by simp [valueAt,N8,e']
   rw [eC e,b]; exact ih
theorem KV.any{kvs:List (κ×V)}{vs:List (κ×g7)}(r:KV kvs vs)(k:κ):(kvs.any fun kv=>decide (kv.1=k))=vs.any fun kv=>decide (kv.1=k):=by
 unfold KV at r
 induction r with
 | nil=>rfl
 | cons h t ih=>rw [P2,P2,ih,h.1]
theorem KV.repl{kvs:List (κ×V)}{vs:List (κ×g7)}(r:KV kvs vs)(k:κ){y:V}{u:g7}(ry:bg y u) :
  KV (kvs.map fun kv=>if kv.1=k then(kv.1,y) else kv) (vs.map fun kv=>if kv.1=k then(kv.1,u) else kv):=by
 unfold KV at r ⊢
 induction r with
 | nil=>exact .nil
 | @cons p q ps qs h t ih =>
  rw [u6,u6];refine .cons ?_ ih;obtain⟨h1,h2⟩:=h;by_cases e:p.1=k
  ·rw [if_pos e,if_pos (h1.symm.trans e)]; exact⟨h1,ry⟩
  ·rw [if_neg e,if_neg (fun z=>e (h1.trans z))]; exact⟨h1,h2⟩
theorem KV.put{kvs:List (κ×V)}{vs:List (κ×g7)}(r:KV kvs vs)(k:κ){y:V}{u:g7}(ry:bg y u):KV (iE kvs k y) (stored vs k u):=by
 unfold iE stored;rw [r.any k];by_cases e:(vs.any fun kv=>decide (kv.1=k))=true
 ·rw [if_pos e,if_pos e]; exact r.repl k ry
 ·rw [if_neg e,if_neg e]; exact Paired.snoc r ⟨rfl,ry⟩
theorem KV.length{kvs:List (κ×V)}{vs:List (κ×g7)}(r:KV kvs vs):kvs.length=vs.length:=Y4 r
end
theorem qm{P:i8}{w:i7}{k:Key}{u:g7}(r:bg (kV k) u):(bJ P w).is k u=true:=by
 cases k with
 | inl i=>obtain⟨t,e⟩:=(show ∃ t,u=G0 i t from r); subst e; exact zW P w i t
 | inr x=>obtain⟨t,e⟩:=(show ∃ t,u=O7 x t from r); subst e; exact qw P w x t
theorem wn{P:i8}{w:i7}:∀ {ks:List Key} {us:List g7},aU (ks.map kV) us->ItemsAre (bJ P w) ks us
 | [],_,r=>by rw [T1] at r; cases r; exact .nil
 | k :: ks,_,r=>by
  rw [u6] at r;cases r with
  | cons h t=>exact .cons (qm h) (wn t)
abbrev KT (H:Hp):List (List Key×V)->List (List Key×Addr×g7)->Prop:=K4 fun p q=>p.1=q.1/\H q.2.1=some (.tup (p.1.map kV))/\bg p.2 q.2.2
theorem KT.val{H:Hp}{kvs:List (List Key×V)}{xs:List (List Key×Addr×g7)}(r:KT H kvs xs)(k:List Key):jd (cm kvs k) ((atKey xs k).map (·.2)):=by
 induction r with
 | nil=>exact E2
 | @cons p q ps qs h t ih =>
  obtain⟨h1,_,h2⟩:=h;by_cases e:p.1=k
  ·have e':q.1=k:=h1.symm.trans e
   have b:atKey (q :: qs) k=some q.2:=by simp [atKey,N8,e']
   rw [fK e,b]; exact h2
  ·have e':¬ q.1=k:=fun z=>e (h1.trans z)
   have b:atKey (q :: qs) k=atKey qs k:=by simp [atKey,N8,e']
   rw [eC e,b]; exact ih
theorem KT.repl{H:Hp}{kvs:List (List Key×V)}{xs:List (List Key×Addr×g7)}(r:KT H kvs xs)(k:List Key){y:V}{u:g7}(ry:bg y u) :
  KT H (kvs.map fun kv=>if kv.1=k then(kv.1,y) else kv) (xs.map (putAt k u)):=by
 induction r with
 | nil=>exact .nil
 | @cons p q ps qs h t ih =>
  rw [u6,u6];refine .cons ?_ ih;obtain⟨h1,h2,h3⟩:=h;unfold putAt;by_cases e:p.1=k
  ·rw [if_pos e,if_pos (h1.symm.trans e)]; exact⟨h1,h2,ry⟩
  ·rw [if_neg e,if_neg (fun z=>e (h1.trans z))]; exact⟨h1,h2,h3⟩
theorem KT.put{H:Hp}{kvs:List (List Key×V)}{xs:List (List Key×Addr×g7)}(r:KT H kvs xs)(k:List Key){b:Addr}{y:V}{u:g7}(hb:H b=some (.tup (k.map kV)))(ry:bg y u) :
  KT H (iE kvs k y) (storedH xs k b u):=by
 have e:(kvs.any fun kv=>decide (kv.1=k))=(atKey xs k).isSome:=by
  rw [oh,(r.val k).isSome_eq,ag0]
 unfold iE storedH;rw [e];by_cases q:(atKey xs k).isSome=true
 ·rw [if_pos q,if_pos q]; exact r.repl k ry
 ·rw [if_neg q,if_neg q]; exact Paired.snoc r ⟨rfl,hb,ry⟩
theorem KT.keeps{H H':Hp}{kvs:List (List Key×V)}{xs:List (List Key×Addr×g7)}(r:KT H kvs xs)(ht:∀ b ys,H b=some (.tup ys)->H' b=some (.tup ys)):KT H' kvs xs :=
 K4.mapP r fun _ _ z=>⟨z.1,ht _ _ z.2.1,z.2.2⟩
section
variable {P:i8} {w:i7} {H:Hp} {h:Heap} {a:Addr}
theorem KS{u:HO}(ok:HOk P w H h)(e:Rd H a u):bG P w H h a u:=e.ok ok
theorem tW{kvs:List (Key×V)}(ok:HOk P w H h)(e:Rd H a (.dK kvs)):kvs.length<=sizeLine/\(a == sysModules)=false/\∃ vs,KV kvs vs/\h.DictOf (bJ P w) a vs :=
 show bG P w H h a (.dK kvs) from KS ok e
theorem KI{kvs:List (Key×V)}(ok:HOk P w H h)(e:H a=some (.dK kvs)):kvs.length<=sizeLine/\(a == sysModules)=false/\∃ vs,KV kvs vs/\h.DictOf (bJ P w) a vs:=tW ok (.inl e)
theorem sQ{ks:List Key}(ok:HOk P w H h)(e:H a=some (.tup (ks.map kV))):(tupleKind (bJ P w)).is h ks a:=by
 obtain⟨_,its,r,o,h1,h2,n,h3⟩:=(show bG P w H h a (.tup (ks.map kV)) from ok a _ e)
 exact⟨o,its.toArray,n,h1,h2,h3,by simpa using wn r⟩
theorem vK{kvs:List (List Key×V)}(ok:HOk P w H h)(e:Rd H a (.dT kvs)):kvs.length<=sizeLine/\(a == sysModules)=false /\
  ∃ xs,KT H kvs xs/\h.DictOfH (tupleKind (bJ P w)) a xs:=by
 obtain⟨z,y,xs,r,o,es,ep,h1,h2,h3,h4,h5⟩:=(show bG P w H h a (.dT kvs) from KS ok e)
 refine⟨z,y,xs,r,o,es,ep,h1,h2,h3,h4,fun x hx=>?_,h5⟩;have all:∀ {l:List (List Key×V)} {m:List (List Key×Addr×g7)},KT H l m->∀ x∈m,(tupleKind (bJ P w)).is h x.1 x.2.1:=by
  intro l m q
  induction q with
  | nil=>intro x hx; exact nomatch hx
  | @cons p q ps qs hq t ih =>
   intro x hx;rcases l6.mp hx with e | hx
   ·subst e
    exact sQ ok (by rw [<- hq.1]; exact hq.2.1)
   ·exact ih x hx
 exact all r x hx
theorem Pc{kvs:List (List Key×V)}(ok:HOk P w H h)(e:H a=some (.dT kvs)):kvs.length<=sizeLine/\(a == sysModules)=false /\
  ∃ xs,KT H kvs xs/\h.DictOfH (tupleKind (bJ P w)) a xs:=vK ok (.inl e)
end
def iC (H:Hp)(a:Addr)(y:V)(r:Option V):Prop :=
 (∃ kvs k,Rd H a (.dK kvs)/\y=kV k/\r=cm kvs k)\/∃ kvs k b,Rd H a (.dT kvs)/\y = .ref b/\H b=some (.tup (k.map kV))/\r=cm kvs k
def zx (H:Hp)(a:Addr)(y v:V)(H':Hp):Prop :=
 (∃ kvs k,H a=some (.dK kvs)/\y=kV k/\kvs.length < sizeLine/\H'=upd H a (.dK (iE kvs k v))) \/
 ∃ kvs k b,H a=some (.dT kvs)/\y = .ref b/\H b=some (.tup (k.map kV))/\kvs.length < sizeLine/\H'=upd H a (.dT (iE kvs k v))
theorem iC.k{H:Hp}{a:Addr}{kvs:List (Key×V)}{k:Key}(e:H a=some (.dK kvs)):iC H a (kV k) (cm kvs k):=.inl ⟨kvs,k,.inl e,rfl,rfl⟩
theorem zx.k{H:Hp}{a:Addr}{kvs:List (Key×V)}{k:Key}{v:V}(e:H a=some (.dK kvs))(hl:kvs.length < sizeLine):zx H a (kV k) v (upd H a (.dK (iE kvs k v))):=.inl ⟨kvs,k,e,rfl,hl,rfl⟩
section
variable {X:Cx} {pins:List (Addr×Obj)} {σ:St} {H:Hp} {s:g8} {a:Addr} {y v:V} {u r:g7} {o:Option V} {A:j0} {E:g7→g8→Prop}
theorem Inv.big(I:Inv X pins σ H s):sysModules < s.heap.objs.size:=by
 have h:mainGlobals < s.heap.objs.size:=(I.mod.glob.keeps I.bk).lt;exact aa6 (by decide) h
theorem Dd{Q:g7->g8->Prop}(hu:A.units + 1 < cLine)(I:Inv X pins σ H s)(g:iC H a y (some v))(ry:bg y u)(h:∀ w' s',Inv X pins σ H s'->bg v w'->Q w' s') :
  wpAny (model X.prog X.w) A (getItem (.ref a) u) Q E s:=by
 rcases g with ⟨kvs,k,e,ey,l⟩ | ⟨kvs,k,b,e,ey,eb,l⟩
 ·subst ey
  obtain⟨z,hd,vs,rel,dd⟩:=tW I.hok e;obtain⟨w',hw,rw'⟩:=jd.some_of (v:=v) (o:=valueAt vs k) (by rw [l]; exact rel.val k)
  exact wpAny_getItem_of (qm ry) dd.mapOf hw (h w' _ (I.tok _) rw')
 ·subst ey
  cases (show u=j7 b from ry)
  obtain⟨z,hd,xs,rel,dd⟩:=vK I.hok e;obtain⟨w',hw,rw'⟩:=jd.some_of (v:=v) (o:=(atKey xs k).map (·.2)) (by rw [l]; exact rel.val k)
  obtain⟨p,hp,hp2⟩:=Option.map_eq_some_iff.mp hw;refine wpAny_getItem_heap (aa7 hu) (sQ I.hok eb) dd hp ?_;rw [hp2];exact h w' _ (I.tok _) rw'
theorem Qu{Q:g7->g8->Prop}(hu:A.units + 1 < cLine)(I:Inv X pins σ H s)(g:iC H a y o)(ry:bg y u)(h:∀ s',Inv X pins σ H s'->Q (.bool o.isSome) s') :
  wpAny (model X.prog X.w) A (compareOp .In u (.ref a)) Q E s:=by
 rcases g with ⟨kvs,k,e,ey,l⟩ | ⟨kvs,k,b,e,ey,eb,l⟩
 ·subst ey
  obtain⟨z,hd,vs,rel,dd⟩:=tW I.hok e;refine wpAny_in_of (qm ry) hd dd.mapOf ?_;rw [<- (rel.val k).isSome_eq,<- l];exact h _ (I.tok _)
 ·subst ey
  cases (show u=j7 b from ry)
  obtain⟨z,hd,xs,rel,dd⟩:=vK I.hok e;refine wpAny_in_heap (aa7 hu) (sQ I.hok eb) hd dd ?_;have q:=(rel.val k).isSome_eq;rw [ag0] at q;rw [<- q,<- l];exact h _ (I.tok _)
theorem wL{h':Heap}{t':Nat}{ob:HO}(I:Inv X pins σ H s)(mu:Mut (H a))(hs:P7 a s.heap h')(he:∃ q,h'.get? a=some q)(new:bG X.prog X.w (upd H a ob) h' a ob) :
  Inv X pins σ (upd H a ob) { s with heap:=h',toks:=t' } :=
 I.write (x:=a) (e:=a) mu (.inl rfl) (fun b q hb z=>(hs.2 b hb).trans z) he new
theorem AT{P:i8}{w:i7}{H':Hp}{h':Heap}{kvs:List (Key×V)}{vs:List (Key×g7)}(z:kvs.length<=sizeLine)(hd:(a == sysModules)=false)(rel:KV kvs vs)(dd:h'.DictOf (bJ P w) a vs) :
  bG P w H' h' a (.dK kvs):=⟨z,hd,vs,rel,dd⟩
theorem EH{H':Hp}{Q:Unit->g8->Prop}(hu:A.units + 1 < cLine)(I:Inv X pins σ H s)(g:zx H a y v H')(ry:bg y u)(rv:bg v r)(h:∀ s',Inv X pins σ H' s'->Q () s') :
  wpAny (model X.prog X.w) A (setItem (.ref a) u r) Q E s:=by
 rcases g with ⟨kvs,k,e,ey,l,eH⟩ | ⟨kvs,k,b,e,ey,eb,l,eH⟩
 ·subst ey eH
  obtain⟨z,hd,vs,rel,dd⟩:=KI I.hok e;have hz:vs.length<=sizeLine:=by rw [<- rel.length]; exact z
  have hl:(iE kvs k v).length<=sizeLine:=by have:=kI kvs k v; omega
  refine wpAny_setItem_pairs (hsz:=hz) (qm ry) dd fun h' dd' hs=>h _ ?_;have he:∃ q,h'.get? a=some q:=let ⟨q,_,_,hq,_⟩:=dd'; ⟨q,hq⟩
  exact wL I (by rw [e]; exact E2) hs he (AT hl hd (rel.put k rv) dd')
 ·subst ey eH
  cases (show u=j7 b from ry)
  obtain⟨z,hd,xs,rel,dd⟩:=Pc I.hok e;have hz:xs.length<=sizeLine:=by rw [<- Y4 rel]; exact z
  have hl:(iE kvs k v).length<=sizeLine:=by have:=kI kvs k v; omega
  refine wpAny_setItem_heap (hsz:=hz) (aa7 hu) (sQ I.hok eb) dd fun h' dd' hs=>h _ ?_;obtain⟨q,es,ep,hq,h2,h3,h4,_,h5⟩:=dd';refine wL I (by rw [e]; exact E2) hs ⟨q,hq⟩ ⟨hl,hd,_,(rel.put k eb rv).keeps fun c ys ec=>?_,q,es,ep,hq,h2,h3,h4,h5⟩
  rw [am (PQ ec e (fun z=>nomatch z))];exact ec
end
section
variable {X:Cx} {pins:List (Addr×Obj)} {σ:St} {H:Hp} {s:g8} {a:Addr} {kvs:List (Key×V)} {k:Key} {u:g7} {A:j0} {E:g7→g8→Prop}
theorem NY{Q:g7->g8->Prop}(I:Inv X pins σ H s)(e:Rd H a (.dK kvs))(h:∀ t s',Inv X pins σ H s'->Q (.int kvs.length t) s'):wpAny (model X.prog X.w) A (call (.builtin "len") [.ref a]) Q E s:=by
 obtain⟨z,hd,vs,rel,dd⟩:=tW I.hok e;refine call_len_dict hd dd (by rw [<- rel.length]; rw [J8] at z; omega) ?_
 rw [<- rel.length];exact h _ _ (I.tok _)
end
def Nn (i:Expr):Prop := ∀ ov iv,subscripted i false ov iv=operate [ov,iv] (getItem ov iv)
theorem Co{prog:i8}{w:i7}{A:j0}{E:g7->g8->Prop}{s:g8}{env:Env}{value slice:Expr}{pos:Pos}{T id:String}{Q:g7->g8->Prop}
  (hl:typeLookup (.type T) "__getitem__"=pure (some (.builtin id))) (hs:Nn slice)
  (h:wpAny (model prog w) A (eval value env) (fun o s₁=>wpAny (model prog w) A (eval slice env) (fun i s₂=>s₂.TypeIs o T/\wpAny (model prog w) A (getItem o i) Q E s₂) E s₁) E s) :
  wpAny (model prog w) A (eval (.Subscript value slice pos) env) Q E s:=by
 refine W2 (C8 h (fun o s₁ h₁=>C8 h₁ (fun i s₂ h₂=>?_) fun _ _ x=>x) fun _ _ x=>x);obtain⟨hT,h₂⟩:=h₂;unfold subscriptTail;refine g9 ?_;rw [getitemInPython_of_ne hT.not_modules];refine g9 (P3 hT hl ?_);have fin:wpAny (model prog w) A (subscripted slice false o i) (fun r s₃=>wpAny (model prog w) A (letTemporaryGo value o r >>= fun _=>pure r) Q E s₃) E s₂:=by
  rw [hs o i];exact wpAny_operating (C8 h₂ (fun r s₃ h₃=>g9 (wpAny_letTemporaryGo (j8 h₃))) fun _ _ x=>x)
 first
  | exact j8 (g9 fin)
  | exact g9 (j8 (g9 fin))
  | exact g9 fin
theorem yB{X:Cx}{pins:List (Addr×Obj)}{σ:St}{H:Hp}{s:g8}{a:Addr}{y:V}{o:Option V}(I:Inv X pins σ H s)(g:iC H a y o):s.TypeIs (.ref a) "dict" := by
 rcases g with ⟨kvs,k,e,_,_⟩ | ⟨kvs,k,b,e,_,_,_⟩
 ·obtain⟨_,_,vs,_,dd⟩:=tW I.hok e
  exact dd.typeIs
 ·obtain⟨_,_,xs,_,dd⟩:=vK I.hok e
  exact dd.typeIs
def Pz (td ty:TE):TE:=fun σ H Q=>td σ H fun x H1=>ty σ H1 fun y H2 => ∃ a v,x = .ref a/\iC H2 a y (some v)/\Q v H2
def QA (ty td:TE):TE:=fun σ H Q=>ty σ H fun y H1=>td σ H1 fun x H2 => ∃ a o,x = .ref a/\iC H2 a y o/\Q (.bl o.isSome) H2
def Pu (td ty tv:TE):TS:=fun D σ H=>tv σ H fun v H1=>td σ H1 fun x H2=>ty σ H2 fun y H3 => ∃ a H4,x = .ref a/\zx H3 a y v H4/\D.nx σ H4
section
variable {X:Cx} {o i e value:Expr} {pos pos' tpos:Pos} {td ty tv:TE}
theorem fH(hu:X.A.units + 1 < cLine)(ho:PE X o td)(hi:PE X i ty)(hs:Nn i):PE X (.Subscript o i pos) (Pz td ty):=by
 intro pins s σ H Q I h;refine Co an4.lookup hs (thn (ho pins s σ H _ I h) fun u s1 ⟨x,H1,I1,rx,q1⟩=>thn (hi pins s1 σ H1 _ I1 q1) fun iv s2 ⟨y,H2,I2,ry,a,v,ex,g,q2⟩=>?_);subst ex;obtain rfl:u=j7 a:=rx;exact⟨yB I2 g,Dd hu I2 g ry fun w' s3 I3 rw'=>⟨v,H2,I3,rw',q2⟩⟩
theorem MK(hu:X.A.units + 1 < cLine)(hi:PE X i ty)(ho:PE X o td):PC X .In i o (QA ty td):=by
 intro pins s σ H Q I h;refine thn (hi pins s σ H _ I h) fun iv s1 ⟨y,H1,I1,ry,q1⟩=>thn (ho pins s1 σ H1 _ I1 q1) fun u s2 ⟨x,H2,I2,rx,a,ov,ex,g,q2⟩=>?_;subst ex;obtain rfl:u=j7 a:=rx;exact Qu hu I2 g ry fun s3 I3=>⟨.bl ov.isSome,H2,I3,rfl,q2⟩
theorem rj(hu:X.A.units + 1 < cLine)(ho:PE X o td)(hi:PE X i ty)(hv:PE X value tv)(hs:swapsWith value (some (.Subscript o i pos')) pos.line X.env=pure false) :
  PS X (.Assign [.Subscript o i pos'] value pos) (Pu td ty tv):=by
 intro pins s σ H D I h;refine wpAny_Assign_Subscript (thn (hv pins s σ H _ I h) fun r s1 ⟨v,H1,I1,rv,q1⟩=>thn (ho pins s1 σ H1 _ I1 q1) fun u s2 ⟨x,H2,I2,rx,q2⟩=>thn (hi pins s2 σ H2 _ I2 q2) fun iv s3 ⟨y,H3,I3,ry,a,H4,ex,g,q3⟩=>?_) hs;subst ex;obtain rfl:u=j7 a:=rx;exact EH hu I3 g ry rv fun s4 I4=>⟨σ,H4,I4,q3⟩
end
theorem Ip{P:i8}{w:i7}{H:Hp}(h:Heap)(hb:sysModules < h.objs.size):bG P w H (h.push { cls:=.type "dict",data:=.dict #[] }) h.objs.size (.dK []) :=
 ⟨x5 _,beq_eq_false_iff_ne.mpr (w9 (w6 hb)),[],.nil,an3 h⟩
def AG:List (TE×TE)->St->Hp->(List (V×V)->Hp->Prop)->Prop
  | [],_,H,Q=>Q [] H
  | (tk,tv) :: r,σ,H,Q=>tk σ H fun x H1=>tv σ H1 fun y H2=>AG r σ H2 fun ps H3=>Q ((x,y) :: ps) H3
abbrev VV:List (V×V)->List (g7×g7)->Prop:=K4 fun p q=>bg p.1 q.1/\bg p.2 q.2
def PPs (X:Cx)(pos:Pos)(keys:List (Option Expr))(values:List Expr)(trs:List (TE×TE)):Prop :=
 ∀(pins:List (Addr×Obj)) (s:g8) (σ:St) (H:Hp) (Q:List (V×V)->Hp->Prop),Inv X pins σ H s->AG trs σ H Q ->
  wpAny (model X.prog X.w) X.A (evalPairs (pairTrees keys values X.env pos)) (fun vs s' => ∃ ps H',Inv X pins σ H' s'/\VV ps vs/\Q ps H') X.xe s
theorem KA{X:Cx}{pos:Pos}:PPs X pos [] [] []:=fun pins s σ H Q I h=>pairTrees_nil_walk ⟨[],H,I,.nil,h⟩
theorem zO{X:Cx}{pos:Pos}{k v:Expr}{ks:List (Option Expr)}{vs:List Expr}{tk tv:TE}{trs:List (TE×TE)}(hk:PE X k tk)(hv:PE X v tv)(hr:PPs X pos ks vs trs) :
  PPs X pos (some k :: ks) (v :: vs) ((tk,tv) :: trs):=fun pins s σ H Q I h =>
 pairTrees_cons_walk (thn (hk pins s σ H _ I h) fun u s1 ⟨x,H1,I1,rx,q1⟩=>thn (hv pins s1 σ H1 _ I1 q1) fun w2 s2 ⟨y,H2,I2,ry,q2⟩ =>
  thn (hr pins s2 σ H2 _ I2 q2) fun ws s3 ⟨ps,H3,I3,rel,q3⟩=>⟨(x,y) :: ps,H3,I3,.cons ⟨rx,ry⟩ rel,q3⟩)
def kO (kvs more:List (Key×V)):List (Key×V):=more.foldl (fun acc kv=>iE acc kv.1 kv.2) kvs
theorem KV.merge:∀ {more:List (Key×V)} {rs:List (Key×g7)} {kvs:List (Key×V)} {vs:List (Key×g7)},KV more rs->KV kvs vs->KV (kO kvs more) (merged vs rs):=by
 intro more rs kvs vs r;unfold KV at r
 induction r generalizing kvs vs with
 | nil=>intro q; exact q
 | @cons p q ps qs h t ih =>
  intro r0;have e:KV (iE kvs p.1 p.2) (stored vs q.1 q.2):=by
   have:=r0.put p.1 h.2;rw [<- h.1]; exact this
  exact ih e
theorem mz:∀(more kvs:List (Key×V)),(kO kvs more).length<=kvs.length + more.length
 | [],kvs=>by show kvs.length<=kvs.length + 0; omega
 | p :: r,kvs=>by
  have h1:=mz r (iE kvs p.1 p.2);have h2:=kI kvs p.1 p.2;show(kO (iE kvs p.1 p.2) r).length<=_;rw [x9]; omega
theorem rT{P:i8}{w:i7}:∀ {kvs:List (Key×V)} {ws:List (g7×g7)},VV (kvs.map fun kv=>(kV kv.1,kv.2)) ws->∃ rs,Carries (bJ P w) ws rs/\KV kvs rs
 | [],_,r=>by rw [T1] at r; cases r; exact⟨[],E2,.nil⟩
 | p :: kvs,_,r=>by
  rw [u6] at r;cases r with
  | @cons a b as bs h t =>
   obtain⟨rs,c,q⟩:=rT (P:=P) (w:=w) t;obtain⟨b1,b2⟩:=b;exact⟨(p.1,b2) :: rs,⟨qm h.1,rfl,c⟩,.cons ⟨rfl,h.2⟩ q⟩
def Ql (trs:List (TE×TE)):TE:=fun σ H Q => ∀ p,H p=none->AG trs σ (upd H p (.dK [])) fun ps H2=>H2 p=some (.dK [])/\∃ kvs:List (Key×V),ps=kvs.map (fun kv=>(kV kv.1,kv.2))/\kvs.length<=15/\Q (.ref p) (upd H2 p (.dK (kO [] kvs)))
theorem IV{X:Cx}{pos:Pos}{keys:List (Option Expr)}{values:List Expr}{trs:List (TE×TE)}(h:PPs X pos keys values trs)(hall:keys.all (·.isSome)=true)(hl:keys.length=values.length)(h0:keys≠[])
  (h15:keys.length<=15):PE X (.Dict keys values pos) (Ql trs):=by
 intro pins s σ H Q I q;have hn:=I.hok.fresh (i6 s.heap.objs.size);have I1:=I.laid (a:=s.heap.objs.size) (o:=.dK []) (h':=s.heap.push { cls:=.type "dict",data:=.dict #[] }) (t':=s.toks) (fun _ _ q=>l7 _ q) (i6 _) (Ip s.heap I.big);refine wpAny_Dict_walk (knd:=bJ X.prog X.w) hall hl h0 h15 (thn (h pins _ σ _ _ I1 (q _ hn)) fun ws s2 ⟨ps,H2,I2,rel,e,kvs,ep,lk,q2⟩=>?_);subst ep;obtain⟨rs,c,rk⟩:=rT (P:=X.prog) (w:=X.w) rel;obtain⟨z,hd,vs0,r0,dd⟩:=KI I2.hok e;cases r0;refine⟨rs,c,dd,fun h' dd' hs=>⟨.ref s.heap.objs.size,_,?_,rfl,q2⟩⟩;have hz:(kO [] kvs).length<=sizeLine:=by
  have h1:=mz kvs [];rw [List.length_nil] at h1;rw [J8]; omega
 have he:∃ q,h'.get? s.heap.objs.size=some q:=let ⟨q,_,_,hq,_⟩:=dd'; ⟨q,hq⟩
 exact wL I2 (by rw [e]; exact E2) hs he (AT hz hd (rk.merge .nil) dd')
structure M1(X:Cx)(o:Expr)(m:Str)(apos:Pos)(e:Expr)(cpos:Pos):Prop where
 base:attributeBase o m X.env (eval o X.env)=eval o X.env
 few:((backTo cpos (starEach [e] X.env)).all (fun x => !x.1) && (backToKw cpos (keywordEach [] X.env)).all (fun x=>x.1.isSome)
  && decide (([e]:List Expr).length + ([]:List Keyword).length + (if ([]:List Keyword).isEmpty then 0 else 1) < 30))=true
 line:(apos.endLine == cpos.line)=true
 trees:backTo cpos (starEach [e] X.env)=[(false,eval e X.env)]
def IsD (H:Hp)(a:Addr):Prop:=(∃ kvs,Rd H a (.dK kvs))\/∃ kvs,Rd H a (.dT kvs)
theorem Nq{X:Cx}{pins:List (Addr×Obj)}{σ:St}{H:Hp}{s:g8}{a:Addr}(I:Inv X pins σ H s)(d:IsD H a) :
  s.TypeIs (.ref a) "dict"/\(∀ b,j7 a = .ref b->∃ ob,s.heap.get? b=some ob/\ob.dict=none)/\(a == sysModules)=false:=by
 rcases d with ⟨kvs,e⟩ | ⟨kvs,e⟩
 ·obtain⟨_,hd,vs,_,dd⟩:=tW I.hok e
  refine⟨dd.typeIs,fun b q=>?_,hd⟩;cases q;obtain⟨ob,_,_,h1,h2,_⟩:=dd;exact⟨ob,h1,h2.2.1⟩
 ·obtain⟨_,hd,xs,_,dd⟩:=vK I.hok e
  refine⟨dd.typeIs,fun b q=>?_,hd⟩;cases q;obtain⟨ob,_,_,h1,h2,_⟩:=dd;exact⟨ob,h1,h2.2.1⟩
section
variable {X:Cx} {pins:List (Addr×Obj)} {σ:St} {H:Hp} {s:g8} {a:Addr} {y d:V} {u r:g7} {o:Option V} {A:j0} {E:g7→g8→Prop}
theorem Mv{Q:g7->g8->Prop}(hu:A.units + 1 < cLine)(I:Inv X pins σ H s)(g:iC H a y o)(ry:bg y u)(h:∀ w' s',Inv X pins σ H s'->bg (o.getD .non) w'->Q w' s') :
  wpAny (model X.prog X.w) A (call (.builtin "dict.get") [.ref a,u]) Q E s:=by
 rcases g with ⟨kvs,k,e,ey,l⟩ | ⟨kvs,k,b,e,ey,eb,l⟩
 ·subst ey
  obtain⟨z,hd,vs,rel,dd⟩:=tW I.hok e;refine call_meetsIn ag1 dd.typeIs an5 (an6 _ _) (meets_dict_get (bJ X.prog X.w) a (qm ry) hd) ⟨_,dd.mapOf,h _ _ (I.tok _) ?_⟩;rw [l];exact(rel.val k).getD rfl
 ·subst ey
  cases (show u=j7 b from ry)
  obtain⟨z,hd,xs,rel,dd⟩:=vK I.hok e;refine call_meetsIn ag1 dd.typeIs an5 (an6 _ _) (meetsH_dict_get (tupleKind (bJ X.prog X.w)) a b hd) ⟨aa7 hu,k,xs,sQ I.hok eb,dd,h _ _ (I.tok _) ?_⟩;rw [l];exact(rel.val k).getD rfl
end
def Nv (td ty:TE):TE:=fun σ H Q=>td σ H fun x H1 => ∃ a,x = .ref a/\IsD H1 a/\ty σ H1 fun y H2 => ∃ o,iC H2 a y o/\Q (o.getD .non) H2
section
variable {X:Cx} {o e f:Expr} {apos cpos:Pos} {td ty tx:TE}
theorem Fh(hu:X.A.units + 1 < cLine)(ho:PE X o td)(he:PE X e ty)(m:M1 X o "get" apos e cpos):PE X (.Call (.Attribute o "get" apos) [e] [] cpos) (Nv td ty):=by
 intro pins s σ H Q I h;refine wpAny_Call_method m.base m.few m.line PySem.F.plainAttrs_dict ag1 PySem.F.type_dict_get (thn (ho pins s σ H _ I h) fun u s1 ⟨x,H1,I1,rx,a,ex,d,q1⟩=>?_);subst ex;obtain rfl:u=j7 a:=rx;obtain⟨t1,t2,_⟩:=Nq I1 d;refine⟨t1,t2,?_⟩;rw [m.trees];refine af0 rfl (af1 (M6 (thn (he pins s1 σ H1 _ I1 q1) fun iv s2 ⟨y,H2,I2,ry,ov,g,q2⟩=>M5 ?_)));exact Mv hu I2 g ry fun w' s3 I3 rw'=>⟨_,H2,I3,rw',q2⟩
end
end L2
namespace Att
open PySem PySem.W PySem.Calls PyProof.Rows
end Att
namespace L2
open PySem PySem.Spec PyProof.Rows
section
variable {X:Cx}
theorem DP:gS X (.builtin "len") (fun xs H Q => ∃ a kvs,xs=[V.ref a]/\H a=some (.dK kvs)/\Q (.int kvs.length) H):=by
 intro pins s σ H xs us Q I r h;obtain⟨a,kvs,rfl,ha,q⟩:=h;obtain⟨u,rfl,ru⟩:=iy r;cases ru;exact NY I (.inl ha) fun t s' I'=>⟨.int kvs.length,H,I',⟨t,rfl⟩,q⟩
end
section
variable {κ:Type} [DecidableEq κ]
theorem JQ{kvs:List (κ×V)}{k:κ}{v:V}(h:cm kvs k=some v):k∈kvs.map (·.1):=by
 have q:(kvs.any fun kv=>decide (kv.1=k))=true:=by
  rw [oh,h]
  all_goals rfl
 obtain⟨p,hp,e⟩:=G4.mp q;exact w8.mpr ⟨p,hp,of_decide_eq_true e⟩
end
open PySem PySem.W PySem.Spec PySem.Calls PyProof.Rows
section
variable {X:Cx}
theorem zH:bootBuiltins "sorted"=some (.builtin "sorted"):=by decide +kernel
end
def QW (z:Str):List V:=z.cps.toList.map fun c=>V.str ⟨#[c]⟩
section
variable {X:Cx}
theorem CU:∀ {ts:List Str} {its:List g7},aU (ts.map V.str) its->∃ l:List (Str×Tok),strValues l=its/\l.map (·.1)=ts
 | [],_,.nil=>⟨[],rfl,rfl⟩
 | x :: ts,_,.cons ⟨t,e⟩ r=>by
  obtain⟨l,h1,h2⟩:=CU r;exact⟨(x,t) :: l,by rw [<- h1,e]; rfl,by rw [<- h2]; rfl⟩
theorem Ep{sep:Str}{ts:List Str}(h:(ts.map (·.length)).sum + ts.length * sep.length<=1000):JoinOk sep ts=true:=by
 unfold JoinOk B4.Str.tooLong;rw [StrLaws.joinTotal];simp only [an2,decide_eq_false_iff_not,gt_iff_lt,Q7]
 exact E5 (az h)
def Px (K:i3):V->List V->Hp->VK->Prop:=fun x vs H Q => ∃(sep:Str) (p:Addr) (ts:List Str),x = .str sep/\vs=[.ref p]/\SqL K H p (ts.map V.str)/\(ts.map (·.length)).sum + ts.length * sep.length<=1000/\Q (.str (C2 sep ts)) H
theorem xJ:MtM X "str.join" (Px X.K):=by
 intro pins s σ H x vs v us Q I rx rv h;obtain⟨sep,p,ts,rfl,rfl,hp,hz,q⟩:=h;obtain⟨t,rfl⟩:=rx;obtain⟨u,rfl,ru⟩:=rv.one;cases ru;obtain⟨its,r,pl,_⟩:=I.list hp;obtain⟨l,e1,e2⟩:=CU r;rw [<- e1] at pl;refine SC.join pl.isList e2 (Ep hz) fun t' k=>⟨.str (C2 sep ts),H,I.tok _,⟨t',?_⟩,q⟩;show O7 (B4.Str.glued sep ts) t'=_;rw [StrLaws.glued_eq_join]
def QE:V->Option Int->Option Int->Hp->VK->Prop:=fun x lo hi H Q => ∃(z:Str) (a b:Nat),x = .str z/\((lo=none/\a=0)\/lo=some (a:Int))/\((hi=none/\b=z.length)\/hi=some (b:Int))/\a<=b/\b<=z.length/\z.length<=1000 /\
 Q (.str ⟨((z.cps.toList.drop a).take (b - a)).toArray⟩) H
theorem yD{z:Str}{lo hi:Option Int}{a b:Nat}(hlo:(lo=none/\a=0)\/lo=some (a:Int))(hhi:(hi=none/\b=z.length)\/hi=some (b:Int))(hab:a<=b)(hb:b<=z.length) :
  Txt.slice z lo hi=⟨((z.cps.toList.drop a).take (b - a)).toArray⟩:=by
 have e:aa8 lo hi 1 z.length=aa8 (some (a:Int)) (some (b:Int)) 1 z.length:=by
  have e2:aa8 lo hi 1 z.length=aa8 (some (a:Int)) hi 1 z.length:=by
   rcases hlo with ⟨rfl,rfl⟩ | rfl
   ·rw [StrLaws.sliceIdx_none_lo]; rfl
   ·rfl
  rw [e2];rcases hhi with ⟨rfl,rfl⟩ | rfl
  ·rw [StrLaws.sliceIdx_none_hi]
  ·rfl
 unfold Txt.slice;rw [e];split
 ·rename_i h
  rw [StrLaws.strSliceIndices_plain hab hb] at h;have hl:b - a=z.length:=by simpa using h
  have ea:a=0:=by omega
  have eb:b=z.cps.toList.length:=by rw [J7]; show b=z.length; omega
  subst ea;rw [eb,List.drop_zero,ag2,B5]
 ·rw [StrLaws.sliced_plain z hab hb]
theorem FC:SlR X QE:=by
 intro pins s σ H x v vl vu lo hi sl Q I rx hs pl pu h;obtain⟨z,a,b,rfl,hlo,hhi,hab,hb,hz,q⟩:=h;obtain⟨t,rfl⟩:=rx;obtain⟨l,rfl,el⟩:∃ l:Option (Int×Tok),vl=partValue l/\l.map (·.1)=lo:=by
  cases pl with
  | none=>exact⟨none,rfl,rfl⟩
  | int i t=>exact⟨some (i,t),rfl,rfl⟩
 obtain⟨u,rfl,eu⟩:∃ l:Option (Int×Tok),vu=partValue l/\l.map (·.1)=hi:=by
  cases pu with
  | none=>exact⟨none,rfl,rfl⟩
  | int i t=>exact⟨some (i,t),rfl,rfl⟩
 refine⟨"str",_,F.slot_str_getitem.lookup,S7 _ _ _,wpAny_getItem_str_slice (l:=l) (u:=u) (st:=none) hs rfl ?_⟩;unfold sliceMade slicePicked;rw [el,eu];have hS:∀ y:Str,y=Txt.slice z lo hi->y.length<=sizeLine/\∀ t' k,EP X pins σ Q (.str y t') { s with toks:=k }:=fun y ey=>by
  refine⟨by rw [ey]; exact B8 (Txt.slice_le z lo hi) (E5 (az hz)),fun t' k=>?_⟩
  rw [ey,yD hlo hhi hab hb];exact⟨.str ⟨((z.cps.toList.drop a).take (b - a)).toArray⟩,H,I.tok _,⟨zQa⟩,q⟩
 exact post_val_or_str (hS _ rfl)
end
open PySem PyProof.Rows
theorem Eu{t u:TS}{D:Ends}{σ:St}{H:Hp}(R:St->Hp->Prop)(h1:∀ N:St->Hp->Prop,(∀ σ' H',R σ' H'->N σ' H')->t { D with nx:=N } σ H)(h2:∀ σ' H',R σ' H'->u D σ' H'):Ec t u D σ H:=h1 (u D) h2
end L2
namespace WM
open PySem
def jn:List (List Nat)->List Nat
 | []=>[]
 | [x]=>x
 | x :: y :: r=>x ++ 32 :: jn (y :: r)
theorem Cl:∀ {p w A B:List Nat},32 ∉ p->32 ∉ w->p ++ 32 :: A=w ++ 32 :: B->p=w/\A=B
 | [],[],A,B,_,_,h=>by injection h with _ h; exact⟨rfl,h⟩
 | [],b :: w,A,B,_,hw,h=>by injection h with h _; exact absurd (h ▸ l8 ..) hw
 | a :: p,[],A,B,hp,_,h=>by injection h with h _; exact absurd (h ▸ l8 ..) hp
 | a :: p,b :: w,A,B,hp,hw,h=>by
  injection h with h1 h2
  obtain⟨e1,e2⟩:=Cl (fun z=>hp (u9 _ z)) (fun z=>hw (u9 _ z)) h2;exact⟨by rw [h1,e1],e2⟩
theorem FR:∀ {ps ws:List (List Nat)},(∀ p∈ps,32 ∉ p)->(∀ w∈ws,32 ∉ w)->ps≠[]->ws≠[]->jn ps=jn ws->ps=ws
 | [],_,_,_,h,_,_=>absurd rfl h
 | _ :: _,[],_,_,_,h,_=>absurd rfl h
 | [p],[w],_,_,_,_,e=>by rw [show p=w from e]
 | [p],w :: w2 :: r,hp,_,_,_,e=>by
  have e':p=w ++ 32 :: jn (w2 :: r):=e;exact absurd (by rw [e']; exact C3 _ (l8 ..)) (hp p (l8 ..))
 | p :: p2 :: r,[w],_,hw,_,_,e=>by
  have e':p ++ 32 :: jn (p2 :: r)=w:=e;exact absurd (by rw [<- e']; exact C3 _ (l8 ..)) (hw w (l8 ..))
 | p :: p2 :: r,w :: w2 :: q,hp,hw,_,_,e=>by
  have e':p ++ 32 :: jn (p2 :: r)=w ++ 32 :: jn (w2 :: q):=e;obtain⟨e1,e2⟩:=Cl (hp p (l8 ..)) (hw w (l8 ..)) e';rw [e1,FR (fun z hz=>hp z (u9 _ hz)) (fun z hz=>hw z (u9 _ hz)) (by simp) (by simp) e2]
abbrev bl:Str:=u5 " "
theorem Ik:bl=⟨#[32]⟩:=by decide +kernel
abbrev J (ws:List Str):Str:=C2 bl ws
def ls (z:Str):List Nat:=z.cps.toList
theorem Np{a b:Str}(h:ls a=ls b):a=b:=by
 obtain⟨x⟩:=a; obtain⟨y⟩:=b;have:x=y:=an7.mp h;rw [this]
theorem FI(a b:Str):ls (a ++ b)=ls a ++ ls b:=by
 obtain⟨x⟩:=a; obtain⟨y⟩:=b;show(x ++ y).toList=_;simp [ls]
theorem Pr:ls bl=[32]:=by rw [Ik]; rfl
theorem ND:∀ ws:List Str,ls (J ws)=jn (ws.map ls)
 | []=>rfl
 | [x]=>rfl
 | x :: y :: r=>by
  show ls (x ++ bl ++ J (y :: r))=_;rw [FI,FI,Pr,ND (y :: r)];show _=ls x ++ 32 :: jn ((y :: r).map ls);rw [K0]; rfl
theorem split_words{ws:List Str}(hw:∀ w∈ws,32 ∉ ls w)(hne:ws≠[]):B0 (J ws) bl=ws:=by
 have h1:=ag3 (J ws) bl;have h2:∀ p∈B0 (J ws) bl,32 ∉ ls p:=by rw [Ik]; exact StrLaws.split_free _ 32
 have h3:B0 (J ws) bl≠[]:=fun z=>by have:=PyProof.Rows.split_pos (J ws) bl; rw [z] at this; exact absurd this (by decide)
 generalize B0 (J ws) bl=ps at h1 h2 h3;have e:jn (ps.map ls)=jn (ws.map ls):=by
  have:=congrArg ls h1
  rwa [show C2 bl ps=J ps from rfl,ND,ND] at this
 have e2:=FR (fun p hp=>by obtain⟨q,hq,rfl⟩:=w8.mp hp; exact h2 q hq) (fun p hp=>by obtain⟨q,hq,rfl⟩:=w8.mp hp; exact hw q hq) (by simpa using h3) (by simpa using hne) e
 have inj:∀(a b:List Str),a.map ls=b.map ls->a=b:=fun a=>by
  induction a with
  | nil=>intro b h; cases b with
   | nil=>rfl
   | cons y b=>cases h
  | cons x a ih=>intro b h; cases b with
   | nil=>cases h
   | cons y b =>
    rw [u6,u6] at h;injection h with h1 h2
    rw [Np h1,ih b h2]
 exact inj _ _ e2
end WM
namespace L2
open PySem PySem.Spec PySem.Calls PyProof.Rows
open Builtin Builtin.Str
section
variable {X:Cx}
theorem Ky{l:List (Str×Tok)}{ts:List Str}(h:l.map (·.1)=ts):aU (ts.map V.str) (strValues l):=by
 subst h
 induction l with
 | nil=>exact .nil
 | cons p l ih=>exact .cons ⟨zQa⟩ ih
def MS:V->List V->Hp->VK->Prop:=fun x vs H Q => ∃(z sep:Str),x = .str z/\vs=[.str sep]/\(sep.length == 0)=false/\z.length<=500/\(B0 z sep).length<=900/\∀ l,H l=none->Q (.ref l) (upd H l (.lst ((B0 z sep).map V.str)))
theorem IH:MtM X "str.split" MS:=by
 intro pins s σ H x vs v us Q I rx rv h;obtain⟨x,y,rfl,rfl,hy,hz,hn,q⟩:=h;obtain⟨t,rfl⟩:=rx;obtain⟨u0,rfl,ru⟩:=rv.one;obtain⟨u,rfl⟩:=ru;have fin:∀(l:List (Str×Tok)) (k:Nat),l.map (·.1)=B0 x y->EP X pins σ Q (.ref s.heap.objs.size) { s with toks:=k,heap:=s.heap.push { cls:=.type "list",data:=.seq (strValues l).toArray } }:=fun l k e=>by
  refine⟨.ref s.heap.objs.size,_,I.laid (t':=k) (o:=.lst ((B0 x y).map V.str)) (fun b ob q=>l7 _ q) (i6 _) ?_,rfl,q _ (I.hok.fresh (i6 _))⟩;exact⟨by rw [i4]; exact E5 (az (by omega)),_,0,Ky e,y6 _ rfl⟩
 have hsz:x.length<=sizeLine:=E5 (az (by omega))
 cases h1:(decide (x.length < y.length) || decide (strKind x < strKind y))
 ·cases hf:(occurrences x y 0 x.length (x.length + 1)).isEmpty
  ·have hs2:(partsBetween x (occurrences x y 0 x.length (x.length + 1)) y.length).length<=sizeLine:=by
    have e:B0 x y=partsBetween x (occurrences x y 0 x.length (x.length + 1)) y.length:=(if_neg (ne_true_of_eq_false h1)).trans (if_neg (ne_true_of_eq_false hf));rw [<- e]; exact E5 (az (by omega))
   refine M9 ag4 (S7 _ _ _) ag5 (ag6 _ _) (meets_str_split_sep x y t u h1 hy hf hsz hs2) ?_;show wants _ _ _ { s with toks:=_,heap:=s.heap.push { cls:=.type "list",data:=.seq (strsFrom s.toks (partsBetween x (occurrences x y 0 x.length (x.length + 1)) y.length)).toArray } }
   rw [strsFrom_eq];exact fin (numbered s.toks _) _ ((numbered_texts _ _).trans ((if_neg (ne_true_of_eq_false h1)).trans (if_neg (ne_true_of_eq_false hf))).symm)
  ·exact M9 ag4 (S7 _ _ _) ag5 (ag6 _ _) (meets_str_split_not_found x y t u h1 hy hf)
    (fin [(x,t)] _ ((if_neg (ne_true_of_eq_false h1)).trans (if_pos hf)).symm)
 ·exact M9 ag4 (S7 _ _ _) ag5 (ag6 _ _) (meets_str_split_cannot_occur x y t u h1)
   (fin [(x,t)] _ (if_pos h1).symm)
end
open PySem PySem.Spec PyProof.Rows
open PySem PyProof.Rows
end L2
namespace PySem
open Sem (wp)
namespace F
theorem pc:Manifest.owners.lookup (String.ofList ['d','e','s','r','e','v','e','r'].reverse)=some Manifest.sig_reversed:=by kernel_rfl
theorem slot_rev_next:Slot "reversed" "__next__" "reversed.__next__" :=
 .of (owner:="reversed") (n:="__next__") (by rw [N9,O1]; kernel_rfl) (by decide +kernel) (by decide +kernel) (by decide +kernel)
  (by first | exact .inl (by decide +kernel) | exact .inr (by decide +kernel)) (by rw [K1]; kernel_rfl)
theorem entry_rev_next:entryFor table "reversed.__next__"=some B4.«reversed.__next__» := ag7 (by kernel_rfl)
theorem args_rev_next_1(a:g7):argsOk "reversed.__next__" ⟨[a],[]⟩:=by
 unfold argsOk; rw [ag8 (id := "reversed.__next__") (n := ['_', '_', 't', 'x', 'e', 'n', '_', '_']) (o := ['d', 'e', 's', 'r', 'e', 'v', 'e', 'r']) (by kernel_rfl) pc]; kernel_rfl
theorem slot_rev_iter:Slot "reversed" "__iter__" "reversed.__iter__" :=
 .of (owner:="reversed") (n:="__iter__") (by rw [N9,O1]; kernel_rfl) (by decide +kernel) (by decide +kernel) (by decide +kernel)
  (by first | exact .inl (by decide +kernel) | exact .inr (by decide +kernel)) (by rw [K1]; kernel_rfl)
theorem args_rev_iter_1(a:g7):argsOk "reversed.__iter__" ⟨[a],[]⟩:=by
 unfold argsOk; rw [ag8 (id := "reversed.__iter__") (n := ['_', '_', 'r', 'e', 't', 'i', '_', '_']) (o := ['d', 'e', 's', 'r', 'e', 'v', 'e', 'r']) (by kernel_rfl) pc]; kernel_rfl
theorem entry_rev_iter:entryFor table "reversed.__iter__"=some B4.«dict_keyiterator.__iter__» :=
 entryFor_alias (id':="dict_keyiterator.__iter__") (by kernel_rfl) (by first | rfl | decide +kernel | (unfold String.splitOn; simp +decide [String.splitOnAux])) (by decide +kernel) (by kernel_rfl)
theorem slot_rev_hint:Slot "reversed" "__length_hint__" "reversed.__length_hint__" :=
 .of (owner:="reversed") (n:="__length_hint__") (by rw [N9,O1]; kernel_rfl) (by decide +kernel) (by decide +kernel) (by decide +kernel)
  (by first | exact .inl (by decide +kernel) | exact .inr (by decide +kernel)) (by rw [K1]; kernel_rfl)
theorem entry_rev_hint:entryFor table "reversed.__length_hint__"=some B4.«reversed.__length_hint__» := ag7 (by kernel_rfl)
theorem args_rev_hint_1(a:g7):argsOk "reversed.__length_hint__" ⟨[a],[]⟩:=by
 unfold argsOk; rw [ag8 (id := "reversed.__length_hint__") (n := ['_', '_', 't', 'n', 'i', 'h', '_', 'h', 't', 'g', 'n', 'e', 'l', '_', '_']) (o := ['d', 'e', 's', 'r', 'e', 'v', 'e', 'r']) (by kernel_rfl) pc]; kernel_rfl
theorem uR:Slot "reversed" "__init__" "object.__init__" :=
 .of (owner:="object") (n:="__init__") (by rw [N9,O1]; kernel_rfl) (by decide +kernel) (by decide +kernel) (by decide +kernel)
  (by first | exact .inl (by decide +kernel) | exact .inr (by decide +kernel)) (by rw [K1]; kernel_rfl)
theorem FZ:mroOf (.type "reversed")=pure [.type "reversed",.type "object"]:=by rw [mroOf_type]; kernel_rfl
theorem MJ:typeLookup (.type "reversed") "__new__"=pure (some (.builtin "reversed.__new__")):=by rw [N9,O1]; kernel_rfl
theorem JV:Bind.madeBy (.type "reversed")=pure (some "reversed.__new__"):=madeBy_type FZ MJ (by decide +kernel)
theorem rv_typeCall(a:g7):checkTypeCall "reversed" ⟨[a],[]⟩=pure ():=by kernel_rfl
theorem rv_newCall(a:g7):checkBuiltinCall "reversed.__new__" ⟨[.type "reversed",a],[]⟩=pure ():=by kernel_rfl
theorem rv_entry_new:entryFor table "reversed.__new__"=some B4.«reversed.__new__» := ag7 (by kernel_rfl)
theorem rv_sub:isSubtype (.type "reversed") (.type "reversed")=pure true:=by rw [K1]; kernel_rfl
theorem called_rev:TypeCalled "reversed" "reversed.__new__" "object.__init__" :=
 ⟨zQd,zQd,⟨_,_,FZ⟩,JV,zQd,by rw [K1]; kernel_rfl,uR⟩
theorem nolen_rev:typeLookup (.type "reversed") "__len__"=pure none:=by rw [N9,O1]; kernel_rfl
theorem norev_tuple:typeLookup (.type "tuple") "__reversed__"=pure none:=by rw [N9,O1]; kernel_rfl
end F
open Sem (wp)
def IS (t:Addr)(i:Int):Obj:={ cls:=.type "reversed",data:=.fields #[.ref t,rawInt i] }
def Heap.IsRev (h:Heap)(a t:Addr)(i:Int):Prop := ∃ o,h.get? a=some o/\o.cls = .type "reversed"/\o.data = .fields #[.ref t,rawInt i]
section
variable {prog:i8} {w:i7} {A:j0} {E:g7→g8→Prop} {s:g8}
theorem Heap.IsRev.typeIs{a t:Addr}{i:Int}(x:s.heap.IsRev a t i):s.TypeIs (.ref a) "reversed" := let ⟨o,ho,hc,_⟩:=x; ⟨o,ho,hc⟩
theorem Heap.IsRev.at{h h':Heap}{a t:Addr}{i:Int}(x:h.IsRev a t i)(e:∀ o,h.get? a=some o->h'.get? a=some o):h'.IsRev a t i:=let ⟨o,ho,r⟩:=x; ⟨o,e _ ho,r⟩
theorem zA(a:g7):an8 "reversed" ⟨[.type "reversed",a],[]⟩=pure (.type "reversed",[a]):=by
 unfold an8;simp only [isType,F.rv_sub,pure_bind,Bool.not_true,E7,if_false]
theorem HY(t:Addr)(items:Array g7)(hfit:(items.size:Int) < 2 ^ 63) :
  Meets (B4.«reversed.__new__» ⟨[.type "reversed",.ref t],[]⟩) (fun _ R s=>K5 s.heap t items/\∀ tk,R (.ok (.ret (.ref s.heap.objs.size))) { s with heap:=s.heap.push (IS t ((items.size:Int) - 1)),toks:=tk }):=fun prog w A R s h=>by
 obtain⟨ht,h⟩:=h;unfold B4.«reversed.__new__»;refine g9 (O2 (zA _) ?_)
 try dsimp only
 refine g9 (O2 (a:=()) (by first | rfl | kernel_rfl) ?_)
 refine g9 (O2 (a:=()) (by first | rfl | kernel_rfl) ?_)
 try dsimp only
 refine g9 (P3 ht.typeIs F.norev_tuple ?_)
 try dsimp only
 refine g9 ?_;show wpAny _ _ (isInstance (j7 t) (.type "dict") >>= _) _ _ _;refine g9 (aa9 (b:=false) ht.typeIs F.sub_tuple_dict ?_);rw [if_neg (by decide)]
 refine g9 (P3 ht.typeIs am4.lookup ?_);dsimp only;rw [if_pos (by decide)]
 refine j8 ?_;rw [if_neg (by decide)]
 refine g9 (an9 ht hfit ?_);refine g9 (m:=asInt? _) (j8 ?_);dsimp only;unfold B4.SmallTypes.newRecord;refine g9 (T3 (data:=.fields #[.ref t,rawInt ((items.size:Int) - 1)]) ?_);exact j8 (h _)
theorem rL{t:Addr}{items:Array g7}{Q:g7->g8->Prop}(ht:K5 s.heap t items)(hfit:(items.size:Int) < 2 ^ 63)
  (h:∀ tk,Q (.ref s.heap.objs.size) { s with heap:=s.heap.push (IS t ((items.size:Int) - 1)),toks:=tk }):wpAny (model prog w) A (call (.type "reversed") [.ref t]) Q E s :=
 callType_new F.called_rev (by decide) (F.rv_typeCall _) (F.rv_newCall _) (fun obj=>ao0 obj _) F.rv_entry_new (HY t items hfit) ⟨ht,fun tk=>⟨⟨_,y6 _ rfl,rfl⟩,h tk⟩⟩
theorem IR{it t:Addr}{i:Nat}{items:Array g7}{x:g7}{Q:Option g7->g8->Prop}(hit:s.heap.IsRev it t (i:Int))(ht:K5 s.heap t items)(hi:(i:Int) < 2 ^ 63)(hx:items[i]? = some x)
  (hQ:∀ h' tk,h'.IsRev it t ((i:Int) - 1)->P7 it s.heap h'->Q (some x) { s with heap:=h',toks:=tk }):wpAny (model prog w) A (pyNext (.ref it)) Q E s:=by
 obtain⟨o,ho,hc,hd⟩:=id hit;unfold pyNext;refine g9 (W8 (ab0 (name:=u5 "__next__") hit.typeIs F.slot_rev_next (T6 F.slot_rev_next hit.typeIs F.entry_rev_next ?_ (F.args_rev_next_1 _))));unfold B4.«reversed.__next__»;refine g9 (O2 (a:=(j7 it,[])) rfl ?_)
 try dsimp only
 refine g9 (L5 ho hd (x:=.ref t) rfl ?_);refine g9 (L5 ho hd (x:=rawInt (i:Int)) rfl ?_);show wpAny _ _ (if (i:Int) < 0 then _ else _) _ _ s
 rw [if_neg (by omega)]
 refine g9 (P3 ht.typeIs am4.lookup ?_);rw [if_neg (by simp)]
 refine g9 (wpAny_mkInt ?_);have hsz:i < items.size:=(ag9.mp hx).1;refine g9 (W8 (PyProof.Rows.getItem_tuple (s:={ s with toks:=s.toks + 1 }) (j:=i) ht (by omega) hi ?_ hx ?_))
 ·unfold seqIndex?
  have e:(if (i:Int) < 0 then(i:Int) + (items.size:Int) else(i:Int))=(i:Int):=if_neg (by omega)
  simp [hsz,e]
 ·dsimp only
  refine g9 (L5 ho hd (x:=rawInt (i:Int)) rfl ?_);dsimp only [rawInt];refine g9 (W9 ho hd (by simp) ?_)
  refine j8 ⟨x,rfl,j8 (hQ _ _ ?_ (X0 ..))⟩;exact⟨_,N5 _ ho (aa5 (Q6 hd _)),(Obj.cls_mapFields ..).trans hc,by
   rw [Q6 hd]; simp [rawInt]⟩
theorem MI{it t:Addr}{Q:Option g7->g8->Prop}(hh:A.handled=none)(hit:s.heap.IsRev it t (-1))
  (hQ:∀ h',ab1 it s.heap h'->Q none { s with heap:=h' }):wpAny (model prog w) A (pyNext (.ref it)) Q E s:=by
 obtain⟨o,ho,hc,hd⟩:=id hit;unfold pyNext;refine g9 (W8 (ab0 (name:=u5 "__next__") hit.typeIs F.slot_rev_next (T6 F.slot_rev_next hit.typeIs F.entry_rev_next ?_ (F.args_rev_next_1 _))));unfold B4.«reversed.__next__»;refine g9 (O2 (a:=(j7 it,[])) rfl ?_)
 try dsimp only
 refine g9 (L5 ho hd (x:=.ref t) rfl ?_);refine g9 (L5 ho hd (x:=rawInt (-1)) rfl ?_);show wpAny _ _ (if (-1:Int) < 0 then _ else _) _ _ s
 rw [if_pos (by decide)]
 refine g9 (Q8 ?_);refine g9 ?_;show wpAny _ _ (setField (j7 it) 1 (rawInt (-1)) >>= fun _=>setField (j7 it) 0 .none) _ _ _;refine g9 (W9 ho hd (by simp) ?_)
 refine W9 (N5 _ ho (aa5 (Q6 hd _))) (Q6 hd _) (by simp) ?_
 show wpAny _ _ (B4.SmallTypes.stopIteration >>= _) _ _ _;refine g9 ?_;show wpAny _ _ (newExc (.type "StopIteration") [] >>= _) _ _ _;refine g9 ?_;simp only [newExc,newTuple]
 refine g9 (T3 ?_ (by size_fits))
 refine g9 (m:=firstArgMember _ _) (O2 (a:=E4) (by first | rfl | (simp only [firstArgMember]; rfl)) ?_)
 refine T3 ?_ (by size_fits)
 simp only [raiseNew]
 refine g9 (wpAny_handled ?_)
 first | rw [show A.in1.handled=none from hh] | rw [hh]
 refine g9 (j8 (wpAny_throw ?_));refine g9 (aa9 (T:="StopIteration") (b:=true) ⟨_,y6 _ rfl,rfl⟩ isSubtype_stop ?_);rw [if_pos rfl];have e1:ab1 it s.heap (s.heap.update it (W5 fun x=>x.setIfInBounds 1 (rawInt (-1)))):=(X0 ..).extBut;have e2:ab1 it (s.heap.update it (W5 fun x=>x.setIfInBounds 1 (rawInt (-1)))) ((s.heap.update it (W5 fun x=>x.setIfInBounds 1 (rawInt (-1)))).update it (W5 fun x=>x.setIfInBounds 0 E4)):=(X0 ..).extBut;exact j8 (hQ _ (((e1.trans e2).push _).push _))
theorem Ch{it t:Addr}{i:Int}{Q:g7->g8->Prop}(hit:s.heap.IsRev it t i)(h:Q (.ref it) s):wpAny (model prog w) A (pyIter (.ref it)) Q E s:=by
 refine wpAny_pyIter_slot hit.typeIs F.slot_rev_iter (T6 F.slot_rev_iter hit.typeIs F.entry_rev_iter ?_ (F.args_rev_iter_1 _));show wpAny _ _ (ret (.ref it)) _ _ s;exact j8 ⟨zQa,"reversed",_,hit.typeIs,F.slot_rev_next.lookup,h⟩
theorem Walks.tupRev{prog:i8}{w:i7}{A:j0}(hh:A.handled=none)(I t:Addr)(hne:t≠I)(items:Array g7)(hfit:(items.size:Int) < 2 ^ 63) :
  Walks prog w A I [I,t] [I] items.size (fun i v=>items[items.size - 1 - i]? = some v) (fun i h=>i<=items.size/\h.IsRev I t ((items.size:Int) - 1 - (i:Int))/\K5 h t items) where
 sub:=fun b hb=>by simp at hb; simp [hb]
 frame:=fun _ _ _ x hk=>⟨x.1,x.2.1.at fun o e=>hk I (by simp) o e,let ⟨o,ho,r⟩:=x.2.2; ⟨o,hk t (by simp) o ho,r⟩⟩
 item:=fun i s Q E hi x hQ=>by
  have e:(items.size:Int) - 1 - (i:Int)=((items.size - 1 - i:Nat):Int):=by omega
  have hit:=x.2.1;rw [e] at hit
  have hx:items[items.size - 1 - i]? = some (items[items.size - 1 - i]'(by omega)):=X1 (by omega)
  refine IR hit x.2.2 (by omega) hx fun h' tk hit' hs'=>?_
  have e2:((items.size - 1 - i:Nat):Int) - 1=(items.size:Int) - 1 - ((i + 1:Nat):Int):=by omega
  rw [e2] at hit';exact hQ _ h' tk hx ⟨hi,hit',let ⟨o,ho,r⟩:=x.2.2; ⟨o,(hs'.2 t hne).trans ho,r⟩⟩ fun b o hb eo=>hs'.extBut b o (fun h=>hb (by simp [h])) eo
 done:=fun s Q E x hQ=>by
  have e:(items.size:Int) - 1 - (items.size:Int) = -1:=by omega
  have hit:=x.2.1;rw [e] at hit;exact MI hh hit fun h' he'=>hQ h' s.toks fun b o hb eo=>he' b o (fun h=>hb (by simp [h])) eo
 self:=fun _ _ _ _ x hQ=>Ch x.2.1 hQ
theorem JB{I t:Addr}{items:Array g7}{Q:g7->g8->Prop}(hfit:(items.size:Int) < 2 ^ 63)(hit:s.heap.IsRev I t ((items.size:Int) - 1))(ht:K5 s.heap t items)
  (h:∀ u tk,s.toks<=tk->Q (.int (items.size:Int) u) { s with toks:=tk }):wpAny (model prog w) A (call (.builtin "reversed.__length_hint__") [.ref I]) Q E s:=by
 obtain⟨o,ho,hc,hd⟩:=id hit;refine T6 F.slot_rev_hint hit.typeIs F.entry_rev_hint ?_ (F.args_rev_hint_1 _);unfold B4.«reversed.__length_hint__»;refine g9 (O2 (a:=j7 I) rfl ?_);refine g9 (L5 ho hd (x:=.ref t) rfl ?_);rw [if_neg (show ¬ ((j7 t == E4)=true) from y8)]
 refine g9 (an9 ht hfit ?_);refine g9 (m:=asInt? _) (j8 ?_);dsimp only;refine g9 (L5 (s:={ s with toks:=s.toks + 1 + 1 }) ho hd (x:=rawInt ((items.size:Int) - 1)) rfl ?_)
 dsimp only [rawInt];rw [if_neg (by omega)]
 refine g9 (wpAny_mkInt (j8 ⟨zQa,?_⟩));rw [show(items.size:Int) - 1 + 1=(items.size:Int) by omega]
 exact h _ _ (Nat.le_succ_of_le (Nat.le_succ_of_le (E6 _)))
end
section
variable {prog:i8} {w:i7} {A:j0} {s:g8} {R:Result→g8→Prop}
theorem DO(hh:A.handled=none){I t S:Addr}{items:Array g7}{res:g7}{c₀:Nat}(hfit:(items.size:Int) < 2 ^ 63)(hn:items.size<=sizeLine)(hit:s.heap.IsRev I t ((items.size:Int) - 1))(ht:K5 s.heap t items)(h1:S≠I)(h2:S≠t)(h3:t≠I)
  (hS:s.heap.get? S=some { cls:=.type "list",data:=.seq #[] c₀ })
  (hR:∀ s' acc' c',L6 [S,I] (fun a b=>b=a) s s'->s'.heap.get? S=some { cls:=.type "list",dict:=none,data:=.seq acc' c',slots := #[] }->ItemsOf (fun i v=>items[items.size - 1 - i]? = some v) acc' items.size->R (.ok (.ret res)) s') :
  wpAny (model prog w) A.in1 (P4 (.ref S) (.ref I) res)
   (fun fin s'=>match fin with | .done f=>R (.ok f) s' | .again c'=>c'.quiet=true/\codeAny (model prog w) A c' R s') (fun e s'=>R (.error e) s') s:=by
 have W:=(Walks.tupRev (prog:=prog) (w:=w) (A:=A.in1) hh I t h3 items hfit).toS;have hSf:S ∉ [I,t]:=by simp [h1,h2]
 unfold P4;refine g9 (wpAny_typeOf hit.typeIs ?_);have z1:ab2 (.ref S) (.ref I)=false:=by simp [ab2,h1]
 have z2:(C7 "reversed" == C7 "list")=false:=by decide
 have z3:(C7 "reversed" == C7 "tuple")=false:=by decide
 simp only [z1,z2,z3,aa1,E7,if_false]
 refine g9 (Ch hit ?_);refine g9 (M0 ?_);unfold ao1;refine g9 (P3 hit.typeIs F.nolen_rev ?_);show wpAny _ A.in1 (specialOf (j7 I) (u5 "__length_hint__") >>= _) _ _ _;refine g9 (P3 hit.typeIs F.slot_rev_hint.lookup ?_)
 (generalize hid:("reversed.__length_hint__" : String)=id0; (fail_if_success (clear hid id0)); wp_delta; rw [show splitId id0=some ("reversed","__length_hint__") from by subst hid; decide +kernel]; subst hid)
 refine g9 (aa9 (b:=true) hit.typeIs F.rv_sub ?_);rw [if_neg (by decide)]
 dsimp only;rw [if_neg (by decide +kernel)]
 refine g9 (Q8 ?_);refine g9 (O2 (F.slot_rev_hint.bind _) ?_);show wpAny _ A.in1 (Sem.attempt (call (ah0 "reversed.__length_hint__") [j7 I]) >>= _) _ _ _;refine g9 (W8 (JB hfit hit ht fun u tk htk=>?_));show wpAny _ A.in1 (asInt? (G0 (items.size:Int) u) >>= _) _ _ _;have ea:asInt? (G0 (items.size:Int) u)=pure (some (items.size:Int)):=rfl;rw [ea,pure_bind];dsimp only;have hf:ao2 (items.size:Int)=true:=by
  unfold ao2;rw [y9];exact⟨decide_eq_true (by omega),decide_eq_true hfit⟩
 have hl:S8 (items.size:Int).toNat=false:=by
  unfold S8;rw [J9];exact decide_eq_false (Q7.mpr hn)
 rw [hf,hl];rw [if_neg (show ¬ ((!true)=true) by decide),if_neg (show ¬ ((items.size:Int) < 0) by omega),if_neg y8]
 refine j8 ?_;have fin:∀(h':Heap) (c1:Nat),(∀ b o,b≠S->s.heap.get? b=some o->h'.get? b=some o)->h'.get? S=some { cls:=.type "list",data:=.seq #[] c1 } ->
   wpAny (model prog w) A.in1 (again (.builtin "list.extend.loop" ⟨[.ref S,.ref I,res],[]⟩))
    (fun fin s'=>match fin with | .done f=>R (.ok f) s' | .again c'=>c'.quiet=true/\codeAny (model prog w) A c' R s') (fun e s'=>R (.error e) s') { s with heap:=h',toks:=tk }:=fun h' c1 oth hS3=>by
  have hst:(0:Nat)<=items.size/\s.heap.IsRev I t ((items.size:Int) - 1 - ((0:Nat):Int))/\K5 s.heap t items:=⟨x5 _,by rw [show(items.size:Int) - 1 - ((0:Nat):Int)=(items.size:Int) - 1 by omega]; exact hit,ht⟩
  refine j8 ⟨ah1 F.plain_extend_loop _,codeAny_extend_loopS W hn _ hSf _ items.size 0 _ _ _ rfl (x5 _)
   (W.frame 0 s h' tk hst htk fun b hb o e=>oth b o (fun h=>hSf (h ▸ hb)) e) hS3 (ItemsOf.nil _) fun s' acc' c' hm hS' hacc=>?_⟩
  have m0:L6 [S,I] (fun a b=>b=a) s { s with heap:=h',toks:=tk }:=(ab3 (wr:=[S,I]) (G:=fun a b=>b=a) fun _=>rfl).then_heap htk fun b o hb e=>oth b o (fun h=>hb (by rw [h]; exact l8)) e
  exact hR s' acc' c' (X2 W.gtrans m0 hm) hS' hacc
 by_cases hz:items.size=0
 ·rw [if_neg (by rw [hz]; decide)]
  exact fin s.heap _ (fun _ _ _ e=>e) hS
 ·have hb:((items.size:Int) != 0)=true:=by simp; exact fun e=>hz (by rw [e]; rfl)
  rw [hb,W6,if_pos rfl];refine g9 (Q8 ?_);refine g9 ?_;show wpAny _ A.in1 (updateSeq S (·.push .none) >>= fun _=>updateSeq S (·.pop)) _ _ _
  refine g9 (ab4 (hz:=x5 _) (_hz':=Nat.succ_le_succ (x5 _)) hS rfl ?_);have hS₂:=N5 (A3 (·.push E4)) hS rfl
  refine ab4 (hz:=B8 (show(1:Nat)<=1000 by decide) (show 1000<=sizeLine by decide)) (_hz':=x5 _) hS₂ rfl ?_
  have hS₃:=N5 (A3 (·.pop)) hS₂ rfl
  exact fin _ _ (fun b o hb e=>(G8 _ _ (w9 hb)).trans ((G8 _ _ (w9 hb)).trans e)) hS₃
theorem Kf(hh:A.handled=none){I t S:Addr}{items:Array g7}(hfit:(items.size:Int) < 2 ^ 63)(hn:items.size<=sizeLine)(hit:s.heap.IsRev I t ((items.size:Int) - 1))(ht:K5 s.heap t items)(h1:S≠I)(h2:S≠t)(h3:t≠I)
  (hS:s.heap.get? S=some { cls:=.type "list",data:=.seq #[] })
  (hR:∀ s' acc' c',L6 [S,I] (fun a b=>b=a) s s'->s'.heap.get? S=some { cls:=.type "list",dict:=none,data:=.seq acc' c',slots := #[] }->ItemsOf (fun i v=>items[items.size - 1 - i]? = some v) acc' items.size->R (.ok (.ret .none)) s') :
  wpAny (model prog w) A.in1 (B4.«list.__init__» ⟨[.ref S,.ref I],[]⟩)
   (fun fin s'=>match fin with | .done f=>R (.ok f) s' | .again c'=>c'.quiet=true/\codeAny (model prog w) A c' R s') (fun e s'=>R (.error e) s') s:=by
 have W:=(Walks.tupRev (prog:=prog) (w:=w) (A:=A.in1) hh I t h3 items hfit).toS;show wpAny _ A.in1 (do let old <- ab5 (.ref S); ao3 (.ref S) (fun _ => #[]); letGo old.toList.reverse; P4 (.ref S) (.ref I) .none) _ _ s
 refine g9 ?_;unfold ab5;refine g9 (ab6 hS rfl (j8 ?_));show wpAny _ A.in1 (updateSeq S (fun _ => #[]) >>= fun _=>letGo (#[]:Array g7).toList.reverse >>= fun _=>P4 (.ref S) (.ref I) .none) _ _ s;refine g9 (ab4 (hz:=x5 _) (_hz':=x5 _) hS rfl ?_);have hS₂:=N5 (A3 (fun _=>(#[]:Array g7))) hS rfl;have oth:∀ b o,b≠S->s.heap.get? b=some o->(s.heap.update S (A3 (fun _=>(#[]:Array g7)))).get? b=some o :=
  fun b o hb e=>(G8 _ _ (w9 hb)).trans e
 refine g9 (wpAny_letGo ?_);refine DO hh hfit hn (hit.at fun o e=>oth I o (w9 h1) e) (let ⟨o,ho,r⟩:=ht; ⟨o,oth t o (w9 h2) ho,r⟩) h1 h2 h3 hS₂ fun s' acc' c' hm hS' hacc=>?_
 have m0:L6 [S,I] (fun a b=>b=a) s { s with heap:=s.heap.update S (A3 (fun _=>(#[]:Array g7))) }:=(ab3 (wr:=[S,I]) (G:=fun a b=>b=a) fun _=>rfl).then_heap (i6 _) fun b o hb e=>oth b o (fun h=>hb (by rw [h]; exact l8)) e
 exact hR s' acc' c' (X2 W.gtrans m0 hm) hS' hacc
end
section
variable {prog:i8} {w:i7} {A:j0} {E:g7→g8→Prop} {s:g8}
theorem JK(hh:A.handled=none){I t:Addr}{items:Array g7}{Q:g7->g8->Prop}(hfit:(items.size:Int) < 2 ^ 63)(hn:items.size<=sizeLine)(hit:s.heap.IsRev I t ((items.size:Int) - 1))(ht:K5 s.heap t items)(h3:t≠I)
  (hQ:∀ s' c',L6 [s.heap.objs.size,I] (fun a b=>b=a) { s with heap:=s.heap.push { cls:=.type "list",data:=.seq #[] } } s' ->
   s'.heap.get? s.heap.objs.size=some { cls:=.type "list",dict:=none,data:=.seq items.reverse c',slots := #[] }->Q (.ref s.heap.objs.size) s') :
  wpAny (model prog w) A (call (.type "list") [.ref I]) Q E s:=by
 have lI:I < s.heap.objs.size:=let ⟨o,ho,_⟩:=hit; j5 ho
 have lt:t < s.heap.objs.size:=ht.lt;refine callType_codes (Q₁:=fun obj s₁=>obj = .ref s.heap.objs.size/\s₁ = { s with heap:=s.heap.push { cls:=.type "list",data:=.seq #[] } }) F.called_list (F.typeCall_list_1 _) F.entry_list_init
  (code_list_new _ ⟨rfl,rfl⟩) fun obj s₁ h₁=>?_
 obtain⟨rfl,rfl⟩:=h₁;have hS:(s.heap.push { cls:=.type "list",data:=.seq #[] }).get? s.heap.objs.size=some { cls:=.type "list",data:=.seq #[] }:=y6 _ rfl;refine⟨⟨_,hS,rfl⟩,F.args_list_init_2 _ _,Kf (A:=A.in1) hh hfit hn (hit.at fun o e=>l7 _ e) (ht.push _) (M2 lI) (M2 lt) h3 hS fun s' acc' c' hm hS' hacc=>?_⟩;refine⟨rfl,hQ s' c' hm ?_⟩;have e:acc'=items.reverse:=by
  apply Array.ext (by rw [hacc.1,ao4])
  intro i h1 h2;have h4:=hacc.2 i acc'[i] (X1 h1);rw [ao5];rw [hacc.1] at h1;exact(B1 ((X1 (by omega)).symm.trans h4)).symm
 rw [<- e]; exact hS'
end
end PySem
namespace L2
open PySem PySem.W PySem.Spec PyProof.Rows
section
variable {X:Cx} {K:i3}
theorem PS.nox{st:Stmt}{t:TS}(h:PS X.nox st t):PS X st t:=fun pins s σ H D I hw =>
 C8 (h pins s σ H D (I.wish _) hw) (fun _ _ q=>q.unwish) fun _ _ z=>C9 z
theorem FnOk.calm{P:i8}{w:i7}{mg:Str->Option g7}{base:Heap}{k:Nat}{f:Addr}{fd:i9}{ps:List Str}{sp sp':Sp}(F:FnOk P w K mg base (CXW P w) k f fd ps sp)
  (h:∀ vs H Q E,sp' vs H Q E->sp vs H Q E0):FnOk P w K mg base CX0 k f fd ps sp' :=
 ⟨fun vs H Q E q=>F.len vs H Q E0 (h _ _ _ _ q),fun A outer s H args us vs Q E hr he hb hv hs =>
  P1 (F.run A outer s H args us vs Q E0 hr he hb hv (h _ _ _ _ hs)) fun r s' hq=>by
   cases r with
   | error e=>obtain⟨_,_,_,_,_,_,_,_,_,_,_,_,_,_,_,z⟩:=hq; exact z.elim
   | ok fl=>cases fl <;> exact hq⟩
end
theorem BL{X:Cx}{e:Expr}{t:TE}{p1 p2 pos2 pos:Pos}(hg1:Gl X "list")(n1:X.mg "list"=none)(b1:bootBuiltins "list"=some (.type "list"))(hg2:Gl X "reversed")(n2:X.mg "reversed"=none)(b2:bootBuiltins "reversed"=some (.type "reversed"))(he:PE X e t)(hc:X.calm=true:=by rfl)
  (hs:starEach [e] X.env=[(false,eval e X.env)]:=by rfl) :
  PE X (.Call (.Name "list" p1) [.Call (.Name "reversed" p2) [e] [] pos2] [] pos) (fun σ H Q=>t σ H fun x H1 => ∃ p ys,x = .ref p/\SqT X.K H1 p ys/\∀ l,H1 l=none->Q (.ref l) (upd H1 l (.lst ys.reverse))):=by
 intro pins s σ H Q I h;refine G6 (dE I hg1 n1 b1 ?_);refine M3 ?_ rfl rfl;show wpAny _ _ (spliced ((false,eval (.Call (.Name "reversed" p2) [e] [] pos2) X.env) :: backTo pos (starEach [] X.env))) _ _ s;refine M6 ?_;refine G6 (dE I hg2 n2 b2 ?_);refine M3 ?_ hs rfl;rw [hs];show wpAny _ _ (spliced ((false,eval e X.env) :: backTo pos2 (starEach [] X.env))) _ _ s;refine M6 (thn (he pins s σ H _ I h) fun u s1 ⟨x,H1,I1,r1,p,ys,ex,hq,q⟩=>?_);subst ex;cases r1;refine M5 ?_;obtain⟨its,rv,pl,hz⟩:=I1.tuple hq;have hlen:=rv.length;have hn:=jf;have hfit:((its.toArray.size:Nat):Int) < 2 ^ 63:=by simp only [l9] <;> omega
 have hsz:its.toArray.size<=sizeLine:=by simp only [l9] <;> omega
 refine rL pl hfit fun tk=>?_;refine M5 ?_;have lp:p < s1.heap.objs.size:=pl.lt;refine JK (s:={ s1 with heap:=s1.heap.push (IS p (((its.toArray.size:Nat):Int) - 1)),toks:=tk }) (I1.ok.hd hc) hfit hsz ⟨_,y6 _ rfl,rfl,rfl⟩ (pl.push _) (w6 lp) fun s' c' hm hS'=>?_
 have e1:(s1.heap.push (IS p (((its.toArray.size:Nat):Int) - 1))).objs.size=s1.heap.objs.size + 1:=G1 ..;dsimp only at hS' hm ⊢;rw [e1] at hS' hm ⊢;obtain⟨h5,g5,d5,t5,o5⟩:=s';obtain⟨k1,k2,k3,k4,k5⟩:=hm;dsimp only at k1 k2 k3 k4 hS' ⊢;subst k2 k3 k4;have kp:∀ b o,s1.heap.get? b=some o->h5.get? b=some o:=fun b o eb=>k1 b o (fun hm=>by
  have lt:=j5 eb;rcases l6.mp hm with e | hm
  ·rw [e] at lt; exact absurd lt (Q7.mpr (E6 _))
  ·rw [A5.mp hm] at lt; exact B6 _ lt) (l7 _ (l7 _ eb))
 refine⟨.ref (s1.heap.objs.size + 1),_,I1.laid (t':=t5) kp (E6 _) (show bG X.prog X.w _ h5 _ (.lst ys.reverse) from⟨by rw [Q9]; omega,its.reverse,c',aU.reverse rv,?_⟩),rfl,q _ (I1.hok.fresh (E6 _))⟩
 rw [hS'];simp
end L2
namespace PySem
open PyProof.Rows
def sV (σ:List Str)(v:Str):List Str:=if σ.any (· == v) then σ else σ ++ [v]
def bR (val:Nat->Str)(n:Nat):List Str:=((x6 n).map val).foldl sV []
theorem iA(val:Nat->Str)(i:Nat):bR val (i + 1)=sV (bR val i) (val i):=by
 unfold bR; rw [T7,j6,X3]; rfl
theorem DD(σ:List Str)(v k:Str):(sV σ v).any (· == k)=(σ.any (· == k) || decide (k=v)):=by
 unfold sV;split
 ·rename_i h
  by_cases e:k=v
  ·subst e; rw [h]; simp
  ·rw [decide_eq_false e,aa1]
 ·rw [List.any_append]
  congr 1
  by_cases e:k=v
  ·subst e; simp
  ·rw [decide_eq_false e]; simpa using fun z=>e z.symm
theorem vP(σ:List Str)(v:Str):(sV σ v).length=if σ.any (· == v) then σ.length else σ.length + 1:=by
 unfold sV; split <;> simp
theorem lY(val:Nat->Str):∀ i,(bR val i).length<=i
 | 0=>by simp [bR]
 | i + 1=>by
  rw [iA,vP];have:=lY val i;split <;> omega
theorem xF:∀ {vs:List g7} {ns:List Str},StrsAre vs ns->∀(i:Nat) (v:g7),vs[i]? = some v->∃ t,v = .str (ns.getD i u7) t
 | _,_,.nil,i,v,h=>by simp at h
 | _,_,.cons y t r,0,v,h=>by simp at h; exact⟨t,by rw [<- h]; rfl⟩
 | _,_,.cons y t r,i + 1,v,h=>by
  obtain⟨t',e⟩:=xF r i v (by simpa using h)
  exact⟨t',by rw [e]; simp⟩
section
variable {prog:i8} {w:i7} {A:j0} {R:Result→g8→Prop} {I:Addr} {fp wr:List Addr} {G:Array V5→Array V5→Prop} {n:Nat} {P:Nat→g7→Prop} {St:Nat→g8→Prop}
theorem vh(W:WalksS prog w A.in1 I fp wr G n P St)(S:Addr)(nSf:S ∉ fp)(val:Nat->Str)(hv:∀ i v,P i v->∃ t,v = .str (val i) t)(hb:n + 1 < scanBound) :
  ∀(k i:Nat) (s:g8),n - i=k->i<=n->St i s->s.heap.SetOf (strKind prog w) S (fun z=>(bR val i).any (· == z)) (bR val i).length ->
   (∀ s',L6 (S :: wr) G s s'->s'.heap.SetOf (strKind prog w) S (fun z=>(bR val n).any (· == z)) (bR val n).length->R (.ok (.ret .none)) s') ->
   codeAny (model prog w) A (.builtin "set.update.loop" ⟨[.ref S,.ref I],[]⟩) R s:=by
 have nSw:S ∉ wr:=fun h=>nSf (W.sub _ h);have up:∀ b∈wr,b∈S :: wr:=fun b hb=>u9 _ hb;intro k
 induction k with
 | zero =>
  intro i s hk hi st zs fin;have e:i=n:=by omega
  subst e;refine ah2 ao6 ?_;rw [ao7 ah3 _];show wpAny _ A.in1 (pyNext (.ref I) >>= _) _ _ s;refine g9 (W.done s _ _ st fun s' mv=>?_);show wpAny _ A.in1 (ret E4) _ _ s';exact j8 (fin s' (mv.mono up) (let ⟨o,es,ep,t,ho,rr⟩:=zs; ⟨o,es,ep,t,mv.heap S _ nSw ho,rr⟩))
 | succ k ih =>
  intro i s hk hi st zs fin;have lt:i < n:=by omega
  refine ah2 ao6 ?_;rw [ao7 ah3 _];show wpAny _ A.in1 (pyNext (.ref I) >>= _) _ _ s;refine g9 (W.item i s _ _ lt st fun v s' hp st' mv=>?_);obtain⟨t,rfl⟩:=hv i v hp;have zs':s'.heap.SetOf (strKind prog w) S (fun z=>(bR val i).any (· == z)) (bR val i).length:=let ⟨o,es,ep,tb,ho,rr⟩:=zs; ⟨o,es,ep,tb,mv.heap S _ nSw ho,rr⟩
  show wpAny _ A.in1 (holding [O7 (val i) t] (setAdd S (.str (val i) t)) >>= _) _ _ s';refine g9 (M0 ?_);unfold setAdd;refine M0 ?_;refine g9 ((strKind prog w).pyHash (k:=val i) (strKind_is _ _ _ _) ?_);have room:(bR val i).length + 1 < scanBound:=by have:=lY val i; omega
  refine wpAny_setAddHashed_of (knd:=strKind prog w) (s:={ s' with toks:=s'.toks + 1 }) (strKind_is _ _ _ _) rfl zs' room fun h' sb z2=>?_
  have z3:h'.SetOf (strKind prog w) S (fun z=>(bR val (i + 1)).any (· == z)) (bR val (i + 1)).length:=SetOf_congr z2 (fun z=>by rw [iA,DD]) (by rw [iA,vP])
  refine j8 ⟨ah1 ah3 _,ih (i + 1) _ (by omega) lt (W.frame _ s' _ _ st' (E6 _) fun b hb o e=>?_) z3 fun s'' mv' z4=>?_⟩
  ·rw [sb.2 b (fun h:b=S=>nSf (by rw [<- h]; exact hb))]; exact e
  ·refine fin s'' (X2 W.gtrans ((mv.mono up).then_heap (E6 _) fun b o hb e=>?_) mv') z4
   rw [sb.2 b (fun h:b=S=>hb (by rw [h]; exact l8))]; exact e
end
namespace F
theorem sv_sub1:isSubtype (.type "tuple") (.type "set")=pure false:=by rw [K1]; kernel_rfl
theorem sv_sub2:isSubtype (.type "tuple") (.type "frozenset")=pure false:=by rw [K1]; kernel_rfl
end F
section
variable {prog:i8} {w:i7} {A:j0} {E:g7→g8→Prop} {s:g8}
abbrev fY (led:Bool):Obj:={ cls:=.type "set",dict:=none,data:=.set #[] 0 (.fresh 0 0 led) }
theorem Iq{l:Addr}{Z:Heap->Prop}{Q:g7->g8->Prop}(hw:∀ led,wpAny (model prog w) A.in1.in1 (B4.«set.__init__» { pos:=[j7 s.heap.objs.size] ++ ({ pos:=[j7 l] }:Args).pos })
   (fun fin s'=>match fin with
    | .done f=>wants (fun r s₂=>r = .none/\∃ h' tk,s₂ = { s with heap:=h',toks:=tk }/\Z h') E (.ok f) s'
    | .again c'=>c'.quiet=true/\codeAny (model prog w) A.in1 c' (wants (fun r s₂=>r = .none/\∃ h' tk,s₂ = { s with heap:=h',toks:=tk }/\Z h') E) s')
   (fun e s'=>wants (fun r s₂=>r = .none/\∃ h' tk,s₂ = { s with heap:=h',toks:=tk }/\Z h') E (.error e) s') { s with heap:=s.heap.push (fY led) })
  (h:∀(h':Heap) (tk:Nat),Z h'->Q (.ref s.heap.objs.size) { s with heap:=h',toks:=tk }):wpAny (model prog w) A (call (.type "set") [.ref l]) Q E s:=by
 obtain⟨c,tl,hmro⟩:=P5.mro;have hmade:=P5.made;have hsub:=P5.sub;refine V9 (codeAny_of_tree ?_);show wpAny _ _ (callAny (.type "set") _) _ _ _;refine j8 ⟨Code.quiet_builtin _ (by decide +kernel),ah2 F.entry_type_call ?_⟩
 rw [j0.under_plain (weight_type_call_type "set" [.ref l] []) rfl];have h1:=P5.notType;have h2:=P5.canCreate;have hct:=F.typeCall_set_1 (.ref l)
 repeat (any_goals (first | assumption | wp_step))
 refine P1 (code_set_new_1 (.ref l) (E:=E) (Q₁:=fun obj t => ∃ led:Bool,obj = .ref s.heap.objs.size/\t = { s with heap:=s.heap.push (fY led) }) fun led=>⟨led,rfl,rfl⟩) fun r s₁ hr=>?_
 cases r with
 | error e=>exact hr
 | ok fl =>
  cases fl with
  | ret obj =>
   obtain⟨led,rfl,rfl⟩:=hr;have hS:(s.heap.push (fY led)).get? s.heap.objs.size=some (fY led):=y6 _ rfl;have hT:ah4 { s with heap:=s.heap.push (fY led) } (.ref s.heap.objs.size) "set" := ⟨_,hS,rfl⟩
   have hli:=P5.init.lookup;have hbi:=P5.init.bind (.ref s.heap.objs.size)
   repeat (any_goals (first | assumption | wp_step))
   refine P1 (codeAny_call_builtin (R:=wants (fun r s₂=>r = .none/\∃ h' tk,s₂ = { s with heap:=h',toks:=tk }/\Z h') E) P5.init.plain F.entry_set_init (check_set_init_1 hT (hw led))) fun r₂ s₂ hr₂=>?_
   cases r₂ with
   | error e=>exact hr₂
   | ok fl₂ =>
    cases fl₂ with
    | ret r =>
     obtain⟨rfl,h',tk,rfl,hz⟩:=hr₂
     repeat (any_goals (first | assumption | wp_step))
     exact h _ _ hz
    | _=>exact hr₂.elim
  | _=>exact hr.elim
theorem Du{l:Addr}{items:Array g7}{ns:List Str}{Q:g7->g8->Prop}(hh:A.handled=none)(hl:s.heap.IsTuple l items)(hi:StrsAre items.toList ns)(hb:items.size + 1 < scanBound)
  (h:∀(h':Heap) (tk:Nat),h'.SetOf (strKind prog w) s.heap.objs.size (fun z=>(bR (fun i=>ns.getD i u7) items.size).any (· == z)) (bR (fun i=>ns.getD i u7) items.size).length ->
   (∀ b o,b < s.heap.objs.size->s.heap.get? b=some o->h'.get? b=some o)->Q (.ref s.heap.objs.size) { s with heap:=h',toks:=tk }) :
  wpAny (model prog w) A (call (.type "set") [.ref l]) Q E s :=
 Iq (Z:=fun h'=>h'.SetOf (strKind prog w) s.heap.objs.size (fun z=>(bR (fun i=>ns.getD i u7) items.size).any (· == z)) (bR (fun i=>ns.getD i u7) items.size).length/\∀ b o,b < s.heap.objs.size->s.heap.get? b=some o->h'.get? b=some o) (fun led=>by
  have hS:(s.heap.push (fY led)).get? s.heap.objs.size=some (fY led):=y6 _ rfl;have hT:ah4 { s with heap:=s.heap.push (fY led) } (.ref s.heap.objs.size) "set" := ⟨_,hS,rfl⟩
  obtain⟨ol,hol,hcl,nl,hdl⟩:=hl;obtain⟨ocls,odict,odata,oslots⟩:=ol;simp only at hcl hdl
  subst hcl; subst hdl;have hol':(s.heap.push (fY led)).get? l=some { cls:=.type "tuple",dict:=odict,data:=.seq items nl,slots:=oslots }:=l7 _ hol;have hsls:=F.sv_sub1;have hslf:=F.sv_sub2;have hne:(C7 "tuple" == C7 "dict")=false:=by decide
  have hl1:(s.heap.push (fY led)).IsTuple l items:=⟨_,hol',rfl,nl,rfl⟩;unfold B4.«set.__init__» noKeywords ao8;generalize hPI:pyIter=PI
  wp_walk
  subst hPI;refine R9 hl1 ?_;refine g9 (wpAny_runValue ?_);have hlS:l < s.heap.objs.size:=j5 hol;have hh3:A.in1.in1.in1.handled=none:=by simp [hh]
  have hneI:l≠(s.heap.push (fY led)).objs.size:=by
   rw [G1]; exact w6 (T8 hlS)
  have hSf:s.heap.objs.size ∉ [(s.heap.push (fY led)).objs.size,l]:=by
   rw [G1]; simp only [l6,A5,C1,or_false,not_or];exact⟨w6 (P9 _),M2 hlS⟩
  have hval:∀(i:Nat) (v:g7),items[i]? = some v->∃ t,v = .str ((fun i=>ns.getD i u7) i) t:=fun i v hv=>xF hi i v (by rw [Q5]; exact hv)
  refine vh ((Walks.tuple hh3 _ l hneI items).toS) s.heap.objs.size hSf (fun i=>ns.getD i u7) hval hb (items.size - 0) 0 _ (by omega) (x5 _)
   ⟨⟨_,y6 _ rfl,rfl,rfl⟩,⟨_,l7 _ hol',rfl,nl,rfl⟩⟩ ?hS0 ?hR
  case hS0 =>
   have hget:((s.heap.push (fY led)).push { cls:=.type "tuple_iterator",data:=.fields #[.ref l,.int 0 0] }).get? s.heap.objs.size=some (fY led):=l7 _ hS;exact SetOf_congr ((setObjOf_fresh (knd:=strKind prog w) led).setOf hget (by unfold scanBound; omega)) (fun _=>rfl) rfl
  case hR =>
   intro s' hm hS';obtain⟨h',g',d',tk',os'⟩:=s';have eg:g'=s.gens:=hm.gens;have ed:d'=s.drawn:=hm.drawn;have eo:os'=s.os:=hm.os;subst eg; subst ed; subst eo;show wpAny _ _ _ _ _ _;refine j8 ?_;show wpAny _ _ (ret E4) _ _ _;refine j8 ⟨rfl,h',tk',rfl,hS',fun b o hb e=>?_⟩;have hb1:b≠s.heap.objs.size:=w6 hb;have hb2:b≠(s.heap.push (fY led)).objs.size:=by
    rw [G1]; exact w6 (T8 hb)
   exact hm.heap b o (by simp only [l6,A5,C1,or_false,not_or]; exact⟨hb1,hb2⟩) (l7 _ (l7 _ e))
) fun h' tk z=>h h' tk z.1 z.2
end
namespace F
theorem svl_sub1:isSubtype (.type "list") (.type "set")=pure false:=by rw [K1]; kernel_rfl
theorem svl_sub2:isSubtype (.type "list") (.type "frozenset")=pure false:=by rw [K1]; kernel_rfl
end F
section
variable {prog:i8} {w:i7} {A:j0} {E:g7→g8→Prop} {s:g8}
theorem AE{l:Addr}{items:Array g7}{ns:List Str}{Q:g7->g8->Prop}(hh:A.handled=none)(hl:s.heap.IsList l items)(hi:StrsAre items.toList ns)(hb:items.size + 1 < scanBound)
  (h:∀(h':Heap) (tk:Nat),h'.SetOf (strKind prog w) s.heap.objs.size (fun z=>(bR (fun i=>ns.getD i u7) items.size).any (· == z)) (bR (fun i=>ns.getD i u7) items.size).length ->
   (∀ b o,b < s.heap.objs.size->s.heap.get? b=some o->h'.get? b=some o)->Q (.ref s.heap.objs.size) { s with heap:=h',toks:=tk }) :
  wpAny (model prog w) A (call (.type "set") [.ref l]) Q E s :=
 Iq (Z:=fun h'=>h'.SetOf (strKind prog w) s.heap.objs.size (fun z=>(bR (fun i=>ns.getD i u7) items.size).any (· == z)) (bR (fun i=>ns.getD i u7) items.size).length/\∀ b o,b < s.heap.objs.size->s.heap.get? b=some o->h'.get? b=some o) (fun led=>by
  have hS:(s.heap.push (fY led)).get? s.heap.objs.size=some (fY led):=y6 _ rfl;have hT:ah4 { s with heap:=s.heap.push (fY led) } (.ref s.heap.objs.size) "set" := ⟨_,hS,rfl⟩
  obtain⟨ol,hol,hcl,nl,hdl⟩:=hl;obtain⟨ocls,odict,odata,oslots⟩:=ol;simp only at hcl hdl
  subst hcl; subst hdl;have hol':(s.heap.push (fY led)).get? l=some { cls:=.type "list",dict:=odict,data:=.seq items nl,slots:=oslots }:=l7 _ hol;have hsls:=F.svl_sub1;have hslf:=F.svl_sub2;have hne:(C7 "list" == C7 "dict")=false:=by decide
  have hl1:(s.heap.push (fY led)).IsList l items:=⟨_,hol',rfl,nl,rfl⟩;unfold B4.«set.__init__» noKeywords ao8;generalize hPI:pyIter=PI
  wp_walk
  subst hPI;refine Z2 hl1 ?_;refine g9 (wpAny_runValue ?_);have hlS:l < s.heap.objs.size:=j5 hol;have hh3:A.in1.in1.in1.handled=none:=by simp [hh]
  have hneI:l≠(s.heap.push (fY led)).objs.size:=by
   rw [G1]; exact w6 (T8 hlS)
  have hSf:s.heap.objs.size ∉ [(s.heap.push (fY led)).objs.size,l]:=by
   rw [G1]; simp only [l6,A5,C1,or_false,not_or];exact⟨w6 (P9 _),M2 hlS⟩
  have hval:∀(i:Nat) (v:g7),items[i]? = some v->∃ t,v = .str ((fun i=>ns.getD i u7) i) t:=fun i v hv=>xF hi i v (by rw [Q5]; exact hv)
  refine vh ((Walks.list hh3 _ l hneI items).toS) s.heap.objs.size hSf (fun i=>ns.getD i u7) hval hb (items.size - 0) 0 _ (by omega) (x5 _)
   ⟨⟨_,y6 _ rfl,rfl,rfl⟩,⟨_,l7 _ hol',rfl,nl,rfl⟩⟩ ?hS0 ?hR
  case hS0 =>
   have hget:((s.heap.push (fY led)).push { cls:=.type "list_iterator",data:=.fields #[.ref l,.int 0 0] }).get? s.heap.objs.size=some (fY led):=l7 _ hS;exact SetOf_congr ((setObjOf_fresh (knd:=strKind prog w) led).setOf hget (by unfold scanBound; omega)) (fun _=>rfl) rfl
  case hR =>
   intro s' hm hS';obtain⟨h',g',d',tk',os'⟩:=s';have eg:g'=s.gens:=hm.gens;have ed:d'=s.drawn:=hm.drawn;have eo:os'=s.os:=hm.os;subst eg; subst ed; subst eo;show wpAny _ _ _ _ _ _;refine j8 ?_;show wpAny _ _ (ret E4) _ _ _;refine j8 ⟨rfl,h',tk',rfl,hS',fun b o hb e=>?_⟩;have hb1:b≠s.heap.objs.size:=w6 hb;have hb2:b≠(s.heap.push (fY led)).objs.size:=by
    rw [G1]; exact w6 (T8 hb)
   exact hm.heap b o (by simp only [l6,A5,C1,or_false,not_or]; exact⟨hb1,hb2⟩) (l7 _ (l7 _ e))
) fun h' tk z=>h h' tk z.1 z.2
end
end PySem
namespace L2
open PySem PySem.W PySem.Spec PyProof.Rows
theorem ju:∀ {ts:List Str} {its:List g7},aU (ts.map V.str) its->StrsAre its ts
 | [],_,.nil=>.nil
 | x :: ts,_,.cons ⟨t,e⟩ r=>by
  subst e;exact .cons x t (ju r)
def eY (ns:List Str):Nat:=(bR (fun i=>ns.getD i u7) ns.length).length
theorem Dl{X:Cx}{e:Expr}{t:TE}{p1 p2 pos2 pos:Pos}(hg1:Gl X "len")(n1:X.mg "len"=none)(b1:bootBuiltins "len"=some (.builtin "len"))(hg2:Gl X "set")(n2:X.mg "set"=none)(b2:bootBuiltins "set"=some (.type "set"))(he:PE X e t)(hc:X.calm=true:=by rfl)
  (hs:starEach [e] X.env=[(false,eval e X.env)]:=by rfl) :
  PE X (.Call (.Name "len" p1) [.Call (.Name "set" p2) [e] [] pos2] [] pos) (fun σ H Q=>t σ H fun x H1 => ∃(p:Addr) (ns:List Str),x = .ref p/\SqT X.K H1 p (ns.map V.str)/\ns.length<=100/\Q (.int (eY ns)) H1):=by
 intro pins s σ H Q I h;refine G6 (dE I hg1 n1 b1 ?_);refine ae8 ?_ rfl rfl;show wpAny _ _ (spliced ((false,eval (.Call (.Name "set" p2) [e] [] pos2) X.env) :: backTo pos (starEach [] X.env))) _ _ s;refine M6 ?_;refine G6 (dE I hg2 n2 b2 ?_);refine M3 ?_ hs rfl;rw [hs];show wpAny _ _ (spliced ((false,eval e X.env) :: backTo pos2 (starEach [] X.env))) _ _ s;refine M6 (thn (he pins s σ H _ I h) fun u s1 ⟨x,H1,I1,r1,p,ns,ex,hq,hn,q⟩=>?_);subst ex;cases r1;refine M5 ?_;obtain⟨its,rv,pl,hz⟩:=I1.tuple hq;have hlen:=rv.length;rw [i4] at hlen;have pt:s1.heap.IsTuple p its.toArray:=pl;have esz:its.toArray.size=ns.length:=by simp [hlen]
 refine Du (I1.ok.hd hc) pt (by simpa using ju rv) (by rw [esz]; unfold scanBound; omega) fun h' tk zs kp=>?_
 refine M5 ?_;obtain⟨o,es,ep,tb,ho,ex,hd,_,_,_,hf,en⟩:=zs;rw [esz] at en;have le:=lY (fun i=>ns.getD i u7) ns.length;refine call_len_set (s:={ s1 with heap:=h',toks:=tk }) ho ex hd hf (by rw [en]; omega) ?_
 refine⟨.int (eY ns),H1,I1.kept (t':=tk + 1 + 1) fun b o eb=>kp b o (j5 eb) eb,⟨_,by rw [en]; rfl⟩,q⟩
def Itc (z:Str):It :=
 ⟨fun i _=>i < z.cps.size,fun i H v H'=>H'=H/\∃ c,v = .str ⟨#[c]⟩/\z.cps[i]? = some c,fun i _=>z.cps.size<=i⟩
theorem Ma{P:i8}{w:i7}{A:j0}(hh:A.handled=none)(it:Addr)(z:Str)(t:Tok):Walks P w A it [it] [it] z.cps.size (SignAt z) (fun i h=>h.IsStrIter it (strIterType z) z t i):=by
 cases ha:z.cps.all (· < 128)
 ·rw [show strIterType z="str_iterator" by simp [strIterType,ha]]; exact Walks.strWide hh it z t
 ·rw [show strIterType z="str_ascii_iterator" by simp [strIterType,ha]]; exact Walks.strAscii hh it z t
theorem IG{P:i8}{w:i7}{K:i3}{tg:Expr}(z:Str)(t:Tok)(it:Addr):Turn P w K tg (Itc z) [it] it (fun i h=>i<=z.cps.size/\h.IsStrIter it (strIterType z) z t i) where
 mem:=by simp
 obj:=fun i h st b hb=>by
  have e:b=it:=by simpa using hb
  subst e;obtain⟨_,o,e,c,d⟩:=st;exact⟨o,e,fun v z=>by rw [d] at z; cases z⟩
 keep:=fun i h h' st k=>⟨st.1,let ⟨o,ho,r⟩:=st.2; ⟨o,k it (by simp) o ho,r⟩⟩
 item:=by
  intro X hP hw hK hc i pins s σ H E I hf st hg;subst hP hw hK;obtain⟨f0,f1,f2,f3,f4,f5⟩:=hf it (by simp)
  refine(Ma (I.ok.hd hc) it z t).item i s _ _ hg st.2 fun v h' tk pv st' kp=>?_;obtain⟨c,u,ec,rfl⟩:=pv;have I1:Inv X pins σ H { s with heap:=h',toks:=tk }:=I.turned (t':=tk) (fun b o hb e=>kp b o (by simpa using hb) e) f0 f1 f3 f4 f5
  obtain⟨o,e,cl,d⟩:=id st';refine⟨zQa,?_⟩;cases ha:z.cps.all (· < 128)
  ·rw [show strIterType z="str_iterator" by simp [strIterType,ha]] at cl
   exact yF (s:={ s with heap:=h',toks:=tk }) e cl d (by decide) ⟨.str ⟨#[c]⟩,H,I1,⟨zQa⟩,⟨rfl,c,rfl,ec⟩,⟨hg,st'⟩,fun b hb=>(hf b hb).1⟩
  ·rw [show strIterType z="str_ascii_iterator" by simp [strIterType,ha]] at cl
   exact yF (s:={ s with heap:=h',toks:=tk }) e cl d (by decide) ⟨.str ⟨#[c]⟩,H,I1,⟨zQa⟩,⟨rfl,c,rfl,ec⟩,⟨hg,st'⟩,fun b hb=>(hf b hb).1⟩
 done:=by
  intro X hP hw hK hc i pins s σ H E I hf st hg;subst hP hw hK;obtain⟨f0,f1,f2,f3,f4,f5⟩:=hf it (by simp)
  have e:i=z.cps.size:=Nat.le_antisymm st.1 hg;subst e;exact(Ma (I.ok.hd hc) it z t).done s _ _ st.2 fun h' tk kp=>⟨rfl,I.turned (t':=tk) (fun b o hb e=>kp b o (by simpa using hb) e) f0 f1 f3 f4 f5⟩
 self:=fun A i s Q E st h=>by
  cases ha:z.cps.all (· < 128)
  ·have s2:=st.2
   rw [show strIterType z="str_iterator" by simp [strIterType,ha]] at s2
   exact wpAny_pyIter_striter_wide s2 h
  ·have s2:=st.2
   rw [show strIterType z="str_ascii_iterator" by simp [strIterType,ha]] at s2
   exact wpAny_pyIter_striter_ascii s2 h
section
variable {X:Cx} {tg:Expr}
def PP (tl:TE):TI:=fun σ H R=>tl σ H fun x H1 => ∃ z:Str,x = .str z/\R (Itc z) H1
theorem Jr{l:Expr}{tl:TE}(hl:PE X l tl):PI X tg l (PP tl):=by
 intro pins s σ H R I h;refine thn (hl pins s σ H _ I h) fun v s1 ⟨x,H1,I1,r1,q1⟩=>?_;obtain⟨z,e,q⟩:=q1;subst e;obtain⟨t,rfl⟩:=r1;refine wpAny_pyIter_strU ?_;refine⟨s1.heap.objs.size,[s1.heap.objs.size],_,_,H1,rfl,I1.kept (t':=s1.toks) fun b o e=>l7 _ e,IG z t _,⟨x5 _,⟨_,y6 _ rfl,rfl,rfl⟩⟩,fun b hb=>?_,q⟩;have e:b=s1.heap.objs.size:=by simpa using hb
 subst e;exact I1.fpOk (i6 _) (I1.hok.fresh (i6 _))
end
section
variable {z:Str} {y:Str} {cap:List Nat} {tt:TT} {te:TE} {σ:St} {Z:List V→Hp→Prop} {H1:Hp}
theorem Jv(f:Nat->V)(hz:z.cps.size < sizeLine)(he:∀ c,∀ Q:VK,Q (f c) H1->te ((eX [y] cap σ).set 0 (some (.str ⟨#[c]⟩))) H1 Q)(hd:Z (z.cps.toList.map f) H1):oU [y] cap (bC 0) gW te σ Z (Itc z) H1:=by
 refine⟨fun i m acc H=>m=z.cps.size - i/\i<=z.cps.size/\acc=(z.cps.toList.take i).map f/\H=H1,⟨zQa,x5 _,by simp,rfl⟩,?_⟩
 rintro i m acc H ⟨rfl,hi,rfl,rfl⟩;refine⟨by rw [i4,A0,J7]; omega,?_⟩
 by_cases hlt:i < z.cps.size
 ·refine .inr ⟨hlt,fun x H3 yl=>?_⟩
  obtain⟨e,c,rfl,ec⟩:=yl;subst e;refine⟨sU y cap σ _,?_⟩;unfold gW;dsimp only;rw [if_pos rfl];refine he c _ ⟨z.cps.size - (i + 1),by omega,rfl,hlt,?_,rfl⟩
  have ec':z.cps.toList[i]? = some c:=by simpa using ec
  rw [B7,ec'];simp
 ·have e:i=z.cps.size:=by omega
  subst e;refine .inl ⟨i6 _,?_⟩;rw [show z.cps.size=z.cps.toList.length from(J7).symm,B5]
  exact hd
end
def eQ (K:Frag)(a:Addr)(ss:List Str):Bool:=match K.lookup a with
 | some ⟨.type "tuple",_,.seq its _,_⟩=>decide (its.size<=1000) && (its.toList.map fun v=>match v with | .str x _=>some x | _=>none) == ss.map some
 | _=>false
theorem kh{K:Frag}{a:Addr}{ss:List Str}(h:eQ K a ss=true)(H:Hp):SqT K H a (ss.map V.str):=by
 unfold eQ at h;split at h
 ·rename_i od its n sl e
  rw [y9] at h;obtain⟨h1,h2⟩:=h;have h3:=beq_iff_eq.mp h2;refine .inr ⟨_,its,n,e,rfl,rfl,E5 (az (of_decide_eq_true h1)),?_⟩;generalize its.toList=l at h3;clear h1 h2 e
  induction l generalizing ss with
  | nil=>cases ss with
   | nil=>exact .nil
   | cons _ _=>cases h3
  | cons v l ih=>cases ss with
   | nil=>cases h3
   | cons x ss =>
    rw [u6,u6] at h3;injection h3 with h4 h5
    refine .cons ?_ (ih h5);cases v <;> first | cases h4 | skip
    exact⟨zQa⟩
 ·cases h
open PySem PySem.W PyProof.Rows
open PySem PySem.W PySem.Spec PySem.Calls PyProof.Rows
open Builtin Builtin.Str
end L2
namespace PySem
open Sem (wp)
namespace F
end F
end PySem
namespace L2
open PySem PySem.W PySem.Spec PySem.Calls PyProof.Rows
section
variable {X:Cx}
theorem rF:∀(more kvs:List (Key×V)),((kvs ++ more).map (·.1)).Nodup->kO kvs more=kvs ++ more
 | [],kvs,_=>by show kvs=kvs ++ []; simp
 | kv :: more,kvs,h=>by
  have h1:cm kvs kv.1=none:=by
   cases e:cm kvs kv.1 with
   | none=>rfl
   | some v =>
    exfalso
    have:=JQ e;rw [j6,ah5] at h;exact h.2.2 _ this _ (l8 ..) rfl
  show kO (iE kvs kv.1 kv.2) more=_;rw [tT _ h1,rF more (kvs ++ [(kv.1,kv.2)]) (by rw [K0]; exact h),K0]; rfl
theorem Ex{kvs:List (Key×V)}(h:(kvs.map (·.1)).Nodup):kO [] kvs=kvs:=rF kvs [] h
end
end L2
namespace PySem
open PySem.W
end PySem
namespace L2
open PySem PySem.Spec PySem.Calls PyProof.Rows
end L2
namespace PySem
end PySem
namespace L2
open PySem PySem.Spec PySem.Calls PyProof.Rows
end L2
namespace PySem.W
open PySem PySem.Calls PyProof.Rows PyProof.V PySem.Spec
end PySem.W
namespace L2
open PySem PySem.Spec PySem.Calls PyProof.Rows PySem.W
open PySem PySem.Spec PySem.Calls PyProof.Rows
section
variable {K:i3} {H1:Hp} {a:Addr} {y1 y2:Str} {cap:List Nat} {σ:St} {te:TE} {Z:List V→Hp→Prop}
theorem JJ(y1 y2:Str)(cap:List Nat)(σ:St)(x1 x2:V):Wk (eX [y1,y2] cap σ) (((eX [y1,y2] cap σ).set 0 (some x1)).set 1 (some x2)):=by
 refine⟨by simp,fun i v e=>?_⟩
 match i with
 | 0=>cases e
 | 1=>cases e
 | i + 2=>exact e
theorem DU{α:Type}(adr:α->Addr)(v1 v2:α->V)(f:α->V){xs:List α}(hS:SqL K H1 a (xs.map fun x=>V.ref (adr x))\/SqT K H1 a (xs.map fun x=>V.ref (adr x)))(hz:xs.length < sizeLine)
  (ht:∀ x∈xs,SqT K H1 (adr x) [v1 x,v2 x])
  (he:∀ x∈xs,∀ Q:VK,Q (f x) H1->te (((eX [y1,y2] cap σ).set 0 (some (v1 x))).set 1 (some (v2 x))) H1 Q) (hd:Z (xs.map f) H1) :
  ((∃ xs,SqL K H1 a xs)/\oU [y1,y2] cap (g2 K) gW te σ Z (Itl K a) H1)\/((∃ xs,SqT K H1 a xs)/\oU [y1,y2] cap (g2 K) gW te σ Z (Itt K a) H1):=by
 have stp:∀(i:Nat) (x:V) (acc:List V) (H:Hp) (R:List V->Hp->Prop),(∀ acc' H',(acc'=(xs.take (i + 1)).map f/\H'=H1)->R acc' H')->i < xs.length->(acc=(xs.take i).map f/\H=H1)->(xs.map fun x=>V.ref (adr x))[i]? = some x ->
   g2 K x (eX [y1,y2] cap σ) H fun σ4 H4=>Wk (eX [y1,y2] cap σ) σ4/\gW σ4 H4 fun b H5=>if b=true then te σ4 H5 fun v H6=>R (acc ++ [v]) H6 else R acc H5:=by
  rintro i x acc H R k hi ⟨rfl,rfl⟩ hx;rw [o0,i5 hi] at hx;cases hx;have hm:xs[i]∈xs:=E9 hi;refine⟨_,zQa,ht _ hm,rfl,_,zQa,zQb,JJ y1 y2 cap σ _ _,?_⟩;unfold gW;dsimp only;rw [if_pos rfl];refine he _ hm _ (k _ _ ⟨?_,rfl⟩);rw [B7,i5 hi,j6]; rfl
 have len:∀(i:Nat) acc (H:Hp),(acc=(xs.take i).map f/\H=H1)->acc.length < sizeLine:=by
  rintro i acc H ⟨rfl,_⟩;rw [i4,A0]; omega
 have fin:∀ acc H,(acc=(xs.take xs.length).map f/\H=H1)->Z acc H:=by
  rintro acc H ⟨rfl,rfl⟩;rw [B5]; exact hd
 have at_:∀ i (hi:i < xs.length),(xs.map fun x=>V.ref (adr x))[i]? = some (V.ref (adr (xs[i]'hi))):=fun i hi=>by rw [o0,i5 hi]; rfl
 rcases hS with h | h
 ·refine .inl ⟨⟨_,h⟩,Cq xs.length (fun i acc H=>acc=(xs.take i).map f/\H=H1) ⟨by simp,rfl⟩ len (fun i acc H hi p=>⟨xs.map fun x=>V.ref (adr x),_,p.2 ▸ h,at_ i hi⟩) (fun acc H p=>⟨xs.map fun x=>V.ref (adr x),p.2 ▸ h,by rw [i4]; exact i6 _⟩) (fun i x acc H H3 R k hi p yl=>?_) fin⟩
  obtain⟨e,yx⟩:=yl;subst e;exact stp i x acc _ R k hi p (yx _ (p.2 ▸ h))
 ·refine .inr ⟨⟨_,h⟩,Cq xs.length (fun i acc H=>acc=(xs.take i).map f/\H=H1) ⟨by simp,rfl⟩ len (fun i acc H hi p=>⟨xs.map fun x=>V.ref (adr x),_,p.2 ▸ h,at_ i hi⟩) (fun acc H p=>⟨xs.map fun x=>V.ref (adr x),p.2 ▸ h,by rw [i4]; exact i6 _⟩) (fun i x acc H H3 R k hi p yl=>?_) fin⟩
  obtain⟨e,yx⟩:=yl;subst e;exact stp i x acc _ R k hi p (yx _ (p.2 ▸ h))
end
open PySem PySem.W PySem.Spec PySem.Calls PyProof.Rows
def DcP (w:i7):List V7->List (Key×V)->Prop
 | [],[]=>True
 | e :: es,kv :: r=>(∃ x t,kv.1 = .inr x/\e.key = .str x t/\e.hash=hashStr w x)/\bg kv.2 e.val/\DcP w es r
 | _,_=>False
def oF (w:i7)(K:Frag)(a:Addr)(kvs:List (Key×V)):Prop :=
 (a == sysModules)=false/\kvs.length<=1000/\∃ es ep,K.lookup a=some ⟨.type "dict",none,.dict es ep,#[]⟩/\DcP w es.toList kvs
theorem oF.mk{w:i7}{K:Frag}{a:Addr}{kvs:List (Key×V)}{es:Array V7}{ep:Nat}(z:(a == sysModules)=false)(h:K.lookup a=some ⟨.type "dict",none,.dict es ep,#[]⟩)(l:kvs.length<=1000)(p:DcP w es.toList kvs):oF w K a kvs:=⟨z,l,es,ep,h,p⟩
theorem DcP.keys{P:i8}{w:i7}:∀ {es:List V7} {kvs:List (Key×V)},DcP w es kvs->∃ vs,KV kvs vs/\(∀ e∈es,∃ k,(bJ P w).is k e.key=true/\e.hash=(bJ P w).hash k)/\Pairs (bJ P w) es vs/\vs.map (·.1)=kvs.map (·.1)
 | [],[],_=>⟨[],.nil,fun _ h=>(nomatch h),.nil,rfl⟩
 | [],_ :: _,h=>h.elim
 | _ :: _,[],h=>h.elim
 | e :: es,kv :: r,h=>by
  obtain⟨⟨x,t,h1,h2,h3⟩,h4,h5⟩:=h;obtain⟨vs,a1,a2,a3,a4⟩:=DcP.keys (P:=P) h5;have hk:(bJ P w).is (.inr x) e.key=true:=by rw [h2]; exact qw P w x t
  refine⟨(.inr x,e.val) :: vs,.cons ⟨h1,h4⟩ a1,fun e' he=>?_,.cons hk rfl a3,by rw [u6,u6,a4,h1]⟩
  rcases l6.mp he with rfl | he
  ·exact⟨.inr x,hk,h3⟩
  ·exact a2 e' he
theorem oF.of{P:i8}{w:i7}{K:Frag}{a:Addr}{kvs:List (Key×V)}{h:Heap}(d:oF w K a kvs)(nd:(kvs.map (·.1)).Nodup)(kin:K.In h):kvs.length<=sizeLine/\(a == sysModules)=false/\∃ vs,KV kvs vs/\h.DictOf (bJ P w) a vs:=by
 obtain⟨z,l,es,ep,e,p⟩:=d;obtain⟨vs,a1,a2,a3,a4⟩:=DcP.keys (P:=P) p;refine⟨E5 (az l),z,vs,a1,_,es,ep,kin _ _ e,⟨rfl,rfl,rfl⟩,rfl,fun e' he=>a2 e' (Z4.mpr he),a3,?_⟩;rw [a4]; exact nd
section
variable {X:Cx}
theorem Am:gS X (.type "dict") (fun xs H Q => ∃ a kvs,xs=[V.ref a]/\oF X.w X.K a kvs/\(kvs.map (·.1)).Nodup/\∀ p,H p=none->Q (.ref p) (upd H p (.dK kvs))):=by
 intro pins s σ H xs us Q I r h;obtain⟨a,kvs,rfl,ha,nd,q⟩:=h;obtain⟨u,rfl,ru⟩:=iy r;cases ru;obtain⟨z,hd,vs,rel,dd⟩:=ha.of (P:=X.prog) nd I.kIn;refine kt_call_dict hd dd (by rw [<- rel.length]; exact z) fun h' dd' hs=>?_
 refine⟨.ref _,_,I.laid (a:=s.heap.objs.size) (o:=.dK kvs) (t':=s.toks) (fun b q hq=>?_) (i6 _) (AT z (beq_eq_false_iff_ne.mpr (w9 (w6 I.big))) rel dd'),rfl,q _ (I.hok.fresh (i6 _))⟩;exact(hs.2 b (w6 (j5 hq))).trans (l7 _ hq)
end
end L2
namespace HT
open PySem PyProof.Rows
end HT
namespace L2
open PySem PySem.Spec PyProof.Rows PySem.W
def kin {α:Type}(lt:Nat->Nat->Bool)(n:Nat):KasT α->Bool
 | .ret _=>true
 | .ask i j k=>decide (i < n) && decide (j < n) && kin lt n (k (lt i j))
open PySem PySem.W PySem.Spec PySem.Calls PyProof.Rows
def II (f:Addr)(fd:i9):HO:=.ext fun h=>h.get? f=some { cls:=.type "function",data:=.func fd }
def FA (c:Addr)(v:g7):HO:=.ext fun h=>h.IsCell c (some v)
def Ht (c:Addr)(lq:Str):HO:=.ext fun h=>h.CodeRec (.ref c) lq
theorem Je{P:i8}{w:i7}{H:Hp}{h:Heap}{f:Addr}{fd:i9}(e:h.get? f=some { cls:=.type "function",data:=.func fd }):bG P w H h f (II f fd):=⟨e,⟨_,e⟩,fun _ _ q k=>k _ q⟩
theorem CO{P:i8}{w:i7}{H:Hp}{h:Heap}{c:Addr}{v:g7}(e:h.IsCell c (some v)):bG P w H h c (FA c v) :=
 let ⟨o,ho,_⟩:=e
 ⟨e,⟨o,ho⟩,fun _ _ ⟨o,ho,hd⟩ k=>⟨o,k o ho,hd⟩⟩
section
variable {X:Cx} {pins:List (Addr×Obj)} {σ:St} {H:Hp} {s:g8} {P c:Addr} {lp:Pos} {la:M7} {lb:Expr} {lsc:j9}
theorem vo{E:g7->g8->Prop}{Q:g7->g8->Prop}(hcode:X.env.code = .ref c)(hC:E3 X.base c P)(hbm:X.base.BuiltinsAt X.mg P)(hfr:∀ y∈lsc.names,y.2 = .free->X.env.scope.names.lookup y.1=some .cell\/X.env.scope.names.lookup y.1=some .free)(hdf:defaultsOf la X.env=([],[]))
  (I:Inv X pins σ H s) (tb:Tb P lp (X.env.qual ++ "<lambda>") H)
  (h:∀(f:Addr) (cl:List (Str×Addr)) (cd:Addr) (ct:g7) (H':Hp) (s':g8),Inv X pins σ H' s'->H f=none->H' f=some (II f (X4 "<lambda>" (X.env.qual ++ "<lambda>") la lb lsc cl ((X.mg "__name__").getD .none) (.ref cd) ct)) ->
   H' cd=some (Ht cd (X.env.qual ++ "<lambda>"))->(∀ x c,cl.lookup x=some c->X.env.cells.lookup x=some c)->(∀ x,(x,B2)∈lsc.names->∃ c,cl.lookup x=some c) ->
   (∀ b o,b≠P->H b=some o->H' b=some o)->Tb P lp (X.env.qual ++ "<lambda>") H'->Q (.ref f) s') :
  wpAny (model X.prog X.w) X.A (eval (.Lambda la lb lsc lp) X.env) Q E s:=by
 obtain⟨cl,hcl,h1,h2⟩:=tU (scope:=lsc) (env:=X.env) fun x hx=>I.ok.has x (hfr (x,.free) hx rfl);obtain⟨ps,hP,alt⟩:=tb;have gP:s.heap.get? P=some (X5 ps):=I.hok P _ hP;have hg:s.heap.Ns mainGlobals X.mg:=I.mod.glob.keeps I.bk;have hgP:mainGlobals≠P:=fun e=>by
  obtain⟨o,es,ep,ho,hd,_⟩:=hg;rw [e,gP] at ho;cases ho;cases hd
 have hb:s.heap.BuiltinsAt X.mg P:=by
  obtain⟨bm,o,a1,a2,a3,a4,a5,r⟩:=hbm;exact⟨bm,o,a1,a2,a3,a4,I.bk _ _ a5,r⟩
 have hC':=hC.keeps I.bk;rw [arm_eval_Lambda,hdf];show wpAny _ _ (evalAll [] >>= fun dv=>holding dv (evalAllOpt []) >>= fun kdv=>makeFunction "<lambda>" (X.env.qual ++ "<lambda>") la (.expr lb) lsc X.env dv kdv [] lp lp.line) _ _ s;refine g9 (j8 (g9 (M0 (j8 ?_))));have fin:∀(c':Addr) (ctv:g7) (H1:Hp) (s1:g8),Inv X pins σ H1 s1->s1.heap.objs.size > 0->H1 c'=some (Ht c' (X.env.qual ++ "<lambda>"))->(∀ b o,b≠P->H b=some o->H1 b=some o)->Tb P lp (X.env.qual ++ "<lambda>") H1->(∀ b,H1 b=none->b≠P->H b=none) ->
   Q (.ref s1.heap.objs.size) { s1 with heap:=s1.heap.push (PySem.W.kla_obj "<lambda>" (X.env.qual ++ "<lambda>") la lb lsc cl ((X.mg "__name__").getD .none) c' ctv) }:=fun c' ctv H1 s1 I1 _ e1 k1 t1 n1=>by
  have hf:H1 s1.heap.objs.size=none:=I1.hok.fresh (i6 _);have nP:s1.heap.objs.size≠P:=fun z=>by obtain⟨_,hp,_⟩:=t1; rw [<- z,hf] at hp; cases hp
  have s12:aS H1 (upd H1 s1.heap.objs.size (II s1.heap.objs.size (X4 "<lambda>" (X.env.qual ++ "<lambda>") la lb lsc cl ((X.mg "__name__").getD .none) (.ref c') ctv))):=fun b o e=>by rw [am (aH e hf)]; exact e
  refine h s1.heap.objs.size cl c' ctv _ _ (I1.laid (t':=s1.toks) (fun b u e=>l7 _ e) (i6 _) (Je (y6 _ rfl))) (n1 _ hf nP) af (s12 _ _ e1) h1 h2 (fun b o n e=>s12 _ _ (k1 b o n e)) (t1.at s12)
 rcases alt with rfl | ⟨c',rfl,hc'⟩
 ·refine PySem.W.kla_makeFunction hcl I.ok.glob hg hcode hC' gP trivial rfl hgP hb fun c' ctv h' tk ex hge hlt hrec htb=>?_
  have hcN:H c'=none:=I.hok.fresh hge;have hPc:P≠c':=fun e=>by rw [e] at hP; rw [hcN] at hP; cases hP
  have nc:∀ b o,s.heap.get? b=some o->b≠c':=fun b o e z=>by have:=j5 e; rw [z] at this; exact absurd (A9 this hge) (B6 _)
  have hc2:∀ b u,H b=some u->b≠c':=fun b u e z=>by rw [z,hcN] at e; cases e
  have I':Inv X pins σ (upd (upd H P (.tbl (#[] ++ #[rawInt lp.line,rawInt lp.col,.ref c']))) c' (Ht c' (X.env.qual ++ "<lambda>")))
    { s with heap:=h',toks:=tk }:=by
   have hup:∀ b u,H b=some u->b≠P->(upd (upd H P (.tbl (#[] ++ #[rawInt lp.line,rawInt lp.col,.ref c']))) c' (Ht c' (X.env.qual ++ "<lambda>"))) b=some u:=fun b u e n=>by rw [am (hc2 b u e),am n]; exact e
   refine I.un ⟨fun b o e n _ _=>ex b o (fun z=>by rw [z,hP] at n; cases n) e,fun b o e n _ _=>⟨o.slots,ex b o (fun z=>by rw [z,hP] at n; cases n) e⟩,fun b o e n _=>?_,fun b o e _=>?_,fun b xs e=>hup b _ e (fun z=>by rw [z,hP] at e; cases e),
    fun b o u e=>hup b _ e (fun z=>by rw [z,hP] at e; cases e),fun b qs e=>?_⟩ fun b u e=>?_
   ·rw [am (nc b o e),am (fun z=>by rw [z,hP] at n; cases n)]; exact n
   ·by_cases z:b=P
    ·rw [z]; exact⟨_,htb⟩
    ·exact⟨o,ex b o z e⟩
   ·by_cases z:b=P
    ·subst z
     rw [hP] at e;cases e;exact⟨_,by rw [am hPc,af]⟩
    ·exact⟨#[],by rw [hup b _ e z]; simp⟩
   ·by_cases z:b=c'
    ·subst z
     rw [af] at e;cases e;refine⟨hrec,?_,fun g1 g2 q k=>?_⟩
     ·obtain⟨d,od,vs,t,e1,e2,_⟩:=hrec
      cases e1;exact⟨od,e2⟩
     ·obtain⟨d,od,vs,t,e1,e2,r⟩:=q
      cases e1;exact⟨_,od,vs,t,rfl,k od e2,r⟩
    ·rw [am z] at e
     by_cases y:b=P
     ·subst y
      rw [af] at e;cases e;exact htb
     ·rw [am y] at e
      refine(I.hok b u e).stay (fun d v hd q=>ex d v ?_ q) (fun d q=>hup d _ q fun w=>by rw [w,hP] at q; cases q) fun d xs q=>hup d _ q fun w=>by rw [w,hP] at q; cases q
      rcases hd with hd | hd
      ·rw [hd]; exact y
      ·intro w; rw [w,hP] at hd; cases hd
  refine fin c' ctv _ { s with heap:=h',toks:=tk } I' (aa3 (x5 _) hlt) af (fun b o n e=>by rw [am (hc2 b o e),am n]; exact e) ⟨#[rawInt lp.line,rawInt lp.col,.ref c'],by rw [am hPc,af]; rfl,.inr ⟨c',rfl,af⟩⟩ fun b hb n=>?_
  by_cases z:b=c'
  ·rw [z]; exact hcN
  ·rw [am z,am n] at hb; exact hb
 ·have hf:codeAmong lp (#[rawInt lp.line,rawInt lp.col,j7 c']:Array g7).toList=some (.ref c'):=by simp [codeAmong,rawInt]
  refine PySem.W.kla_makeFunctionHit hcl I.ok.glob hg hcode hC' gP trivial hf hb fun ctv h' tk kp hsz=>?_;exact fin c' ctv H { s with heap:=h',toks:=tk } (I.kept (t':=tk) kp) (aa3 (x5 _) (j5 (kp _ _ gP))) hc' (fun _ _ _ e=>e) ⟨_,hP,.inr ⟨c',rfl,hc'⟩⟩ fun _ e _=>e
end
structure Clo(H:Hp)(la:M7)(lb:Expr)(lsc:j9)(lq tn:Str)(pm:g7)(f c0:Addr)(v:g7):Prop where
 ex:∃(cl:List (Str×Addr)) (cd:Addr) (ct:g7),H f=some (II f (kla_fn "<lambda>" lq la lb lsc cl pm (.ref cd) ct))/\H cd=some (Ht cd lq)/\cl.lookup tn=some c0/\∀ x c,cl.lookup x=some c->x=tn
 cel:H c0=some (FA c0 v)
def Po (PT:Addr)(lp:Pos)(lq tn:Str)(la:M7)(lb:Expr)(lsc:j9)(pm:g7):Sp:=fun vs H Q _ => ∃ a:Addr,vs=[.ref a]/\Tb PT lp lq H /\
 ∀(g c0:Addr) (H':Hp),H g=none->H c0=none->g≠c0->(∀ b o,b≠PT->H b=some o->H' b=some o)->Tb PT lp lq H'->Clo H' la lb lsc lq tn pm g c0 (.ref a)->Q (.ref g) H'
theorem NI{P:i8}{w:i7}{K:i3}{mg:Str->Option g7}{base:Heap}{k:Nat}{f:Addr}{name qual:Str}{params:M7}{scope:j9}{dV kV doc pm cdv ct oc:g7}{an od:Option Addr}
  {osl:Array (Option g7)} {tn:Str} {la:M7} {lb:Expr} {lsc:j9} {lp rp:Pos} {c PT:Addr} (lk:K.lookup f=some ⟨oc,od,.func (M8 name qual params [.Return (some (.Lambda la lb lsc lp)) rp] scope dV kV doc pm an cdv ct),osl⟩) (hcd:L3 K cdv qual=true) (S:FnScope [tn] [tn] scope)
  (hce:scope.names.lookup tn=some .cell) (hcode:cdv = .ref c) (hC:CodeHd base c PT) (hbm:base.BuiltinsAt mg PT) (hfr:∀ y∈lsc.names,y.2 = .free->scope.names.lookup y.1=some .cell\/scope.names.lookup y.1=some .free) (hfn:(tn,B2)∈lsc.names)
  (hone:∀ n x c,(cellsFrom n scope.names []).lookup x=some c->x=tn) (hdf:∀ env,defaultsOf la env=([],[])) :
  FnOk P w K mg base CX0 (k + 1) f (M8 name qual params [.Return (some (.Lambda la lb lsc lp)) rp] scope dV kV doc pm an cdv ct) [tn] (Po PT lp (qual ++ ".<locals>." ++ "<lambda>") tn la lb lsc ((mg "__name__").getD .none)):=by
 refine⟨fun vs H Q E h=>by obtain⟨a,rfl,_⟩:=h; rfl,fun A outer s H args us vs Q E hr e0 hb r hsp=>?_⟩
 obtain⟨a,rfl,tb,q⟩:=hsp;have KX:K.In s.heap:=e0.mod.kin.keeps fun b o e=>(e0.bs b o e).1;have lim:s.heap.NoLimit:=e0.mod.nolimit.keeps fun b o e=>(e0.bs b o e).1;have hkind:∀ y∈[tn].zip us,scope.names.lookup y.1=some .local\/(scope.names.lookup y.1=some .cell/\((cellsFrom (s.heap.objs.size + 1) scope.names []).lookup y.1).isSome=true):=fun⟨n,v⟩ hy=>by
  rcases S.par n (Z8 hy).1 with q | q
  ·exact .inl q
  ·exact .inr ⟨q,ae7 _ _ _ (.inl q)⟩
 refine codeAny_call_function hr.depth (KX _ _ lk) rfl S.co S.gen rfl (am2 KX hcd) (hb _ _ _ _ ?_);refine am3 S.kind hkind fun env he s1 x=>?_;subst he;refine⟨lim.keeps x.toInCall.keep,codeAny_func ?_⟩;have I:Inv (fV CX0 P w K mg base [tn] qual scope f cdv A outer s H E) [] (kt [tn] [.ref a]) H s1:=vp S hr.hd e0 rfl r x;refine ad7 (wpAny_Return_some ?_);refine vo (X:=fV CX0 P w K mg base [tn] qual scope f cdv A outer s H E) hcode hC hbm hfr (hdf _) I tb fun g cl cd ct H1 s2 I2 fg hg hcd' c1 c2 k1 t1=>?_;obtain⟨c0,hc0⟩:=c2 tn hfn;have ec:=c1 tn c0 hc0;have n0:H1 c0=none:=I2.freeC tn c0 ec;have lc:s.heap.objs.size<=c0:=I2.ok.cab tn c0 rfl ec;have hcell:s2.heap.IsCell c0 (some (.ref a)):=by
  obtain⟨m,_,hl⟩:=I2.loc;obtain⟨u,ru,lk⟩:=hl 0 tn (.ref a) rfl rfl (.inr (.inl hce));cases (show u=j7 a from ru)
  rcases lk with ⟨z,_⟩ | ⟨_,d,ed,ic⟩
  ·have z':scope.names.lookup tn=some .local:=z
   rw [hce] at z'; cases z'
  ·rw [ec] at ed; cases ed; exact ic
 have nb:∀ b u,H1 b=some u->b≠c0:=fun b u e z=>by rw [z,n0] at e; cases e
 have u1:Un (frs outer) [] H H1 s.heap s2.heap:=I2.base;have fc:H c0=none:=e0.hok.fresh lc;refine⟨.ref g,upd H1 c0 (FA c0 (.ref a)),I2.os,I2.bare,⟨u1.keep,u1.slot,fun b o e n hx=>?_,u1.there,fun b xs e=>?_,fun b o u e=>?_,fun b ps e=>?_⟩,fun b u e=>?_,rfl,q g c0 _ fg fc (nb g _ hg) (fun b o n e=>?_) (t1.at fun b o e=>by rw [am (nb b o e)]; exact e) ⟨⟨cl,cd,ct,?_,?_,hc0,fun x c e=>hone _ x c (c1 x c e)⟩,af⟩⟩
 ·rw [am (fun z=>by rw [z] at e; exact absurd (A9 (j5 e) lc) (B6 _))]; exact u1.free b o e n hx
 ·have:=u1.tups b xs e; rw [am (nb b _ this)]; exact this
 ·have:=u1.frzs b o u e; rw [am (nb b _ this)]; exact this
 ·obtain⟨more,this⟩:=u1.tbls b ps e; exact⟨more,by rw [am (nb b _ this)]; exact this⟩
 ·by_cases z:b=c0
  ·subst z; rw [af] at e; cases e; exact CO hcell
  ·rw [am z] at e
   exact(I2.hok b u e).stay (fun _ _ _ q=>q) (fun d q=>by rw [am (nb d _ q)]; exact q) fun d xs q=>by rw [am (nb d _ q)]; exact q
 ·have:=k1 b o n e; rw [am (nb b _ this)]; exact this
 ·rw [am (nb _ _ hg)]; exact hg
 ·rw [am (nb _ _ hcd')]; exact hcd'
def jU (H:Hp)(c:Addr):Hp:=fun b=>if b=c then none else H b
theorem vq{H:Hp}{c:Addr}:jU H c c=none:=if_pos rfl
theorem hW{H:Hp}{c b:Addr}(h:b≠c):jU H c b=H b:=if_neg h
theorem Do{H:Hp}{c b:Addr}{o:HO}(h:jU H c b=some o):b≠c/\H b=some o:=by
 unfold jU at h;split at h
 ·cases h
 ·rename_i n; exact⟨n,h⟩
theorem iI{H:Hp}{c b:Addr}(h:H b=none):jU H c b=none:=by
 unfold jU; split
 ·rfl
 ·exact h
abbrev DA (lq:Str)(lsc:j9)(L f:Addr)(cd:g7)(cells:List (Str×Addr)):Env:=newEnv lsc L mainGlobals cells (lq ++ ".<locals>.") (some f) cd none builtinsNs
abbrev cxL (P:i8)(w:i7)(K:i3)(mg:Str->Option g7)(base:Heap)(pn tn lq:Str)(lsc:j9)(f:Addr)(cd:g7)(cl:List (Str×Addr))(A:j0)(outer:List Env)(s:g8)(H:Hp):Cx where
 prog:=P
 w:=w
 K:=K
 mg:=mg
 base:=base
 A:=A.deeper (DA lq lsc s.heap.objs.size f cd ((pn,s.heap.objs.size + 1) :: cl))
 N:=[pn,tn]
 s₀:=s
 H₀:=H
 env:=DA lq lsc s.heap.objs.size f cd ((pn,s.heap.objs.size + 1) :: cl)
 outer:=outer
 stack:=DA lq lsc s.heap.objs.size f cd ((pn,s.heap.objs.size + 1) :: cl) :: outer
 ex:=[]
 calm:=true
 fn:=fun x=>x == pn
 pn:=[]
 xe:=fun _ _=>False
structure LamSc(lsc:j9)(pn tn:Str):Prop where
 kind:lsc.kind = .function
 co:lsc.isCoroutine=false
 gen:lsc.isGenerator=false
 par:lsc.names.lookup pn=some .cell
 fre:lsc.names.lookup tn=some .free
 cells:∀ n acc,cellsFrom n lsc.names acc=(pn,n) :: acc
 one:∀ x,lsc.names.lookup x=some .cell\/lsc.names.lookup x=some .free->x=pn\/x=tn
 ne:pn≠tn
theorem Jc{P:i8}{w:i7}{K:i3}{mg:Str->Option g7}{base:Heap}{k:Nat}{A:j0}{outer:List Env}{s:g8}{H:Hp}{f c0:Addr}{u:g7}{la:M7}{lb:Expr}{lsc:j9}{lq pn tn:Str}{pm av:g7}{v a:V}{Q:VK}{E:XK}
  (S:LamSc lsc pn tn) (hbind:∀(cl:List (Str×Addr)) (cd ct:g7) (u:g7),bindArgs (kla_fn "<lambda>" lq la lb lsc cl pm cd ct) ⟨[u],[]⟩=pure [(pn,u)])
  (hr:Room (k + 1) A) (e0:Env0 P w K mg base A outer s H) (C:Clo H la lb lsc lq tn pm f c0 av) (ra:bg a av) (rv:bg v u)
  (hb:∀(cd:g7) (cl:List (Str×Addr)),Room k (A.deeper (DA lq lsc s.heap.objs.size f cd ((pn,s.heap.objs.size + 1) :: cl)))->∃ t,PE (cxL P w K mg base pn tn lq lsc f cd cl A outer s (jU H c0)) lb t/\t [some v,some a] (jU H c0) (fun r H'=>Q r (upd H' c0 (FA c0 av)))) :
  codeAny (model P w) A (.call (.ref f) ⟨[u],[]⟩) (CR CX0 outer P w H s Q E) s:=by
 obtain⟨cl,cd,ct,hf,hcd,hc0,hcl⟩:=C.ex;have gf:s.heap.get? f=some { cls:=.type "function",data:=.func (kla_fn "<lambda>" lq la lb lsc cl pm (.ref cd) ct) }:=(e0.hok f _ hf).1;have grec:s.heap.CodeRec (.ref cd) lq:=(e0.hok cd _ hcd).1;have gcell:s.heap.IsCell c0 (some av):=(e0.hok c0 _ C.cel).1;have lim:s.heap.NoLimit:=e0.mod.nolimit.keeps fun b o e=>(e0.bs b o e).1;obtain⟨oc,hoc,hdc⟩:=gcell;have lc0:=j5 hoc;refine kla_callFunE hr.depth gf rfl S.co S.gen rfl grec ((BindsTo.of_eq (hbind cl (.ref cd) ct u)) _ _ _ _ ?_);show wpAny _ _ (newFunctionEnv lsc mainGlobals cl [(pn,u)] (lq ++ ".<locals>.") (some f) (.ref cd) none builtinsNs) _ _ s;simp only [newFunctionEnv,Option.isSome_none,E7,if_false]
 refine g9 (wpAny_alloc ?_);refine g9 (wpAny_layCells _ (fun name kind cells=>by cases hkc:kind == T2 <;> simp [hkc]) _ _ _ _ ?_)
 have ok:=cellsFrom_ok lsc.names (s.heap.push { cls:=.type "frame",data:=.dict #[] }) (s.heap.objs.size + 1) [] ⟨fun _ _ hm=>(nomatch hm),am9⟩ (by rw [G1]; exact i6 _)
 rw [G1,S.cells] at ok;rw [show({ s with heap:=s.heap.push { cls:=.type "frame",data:=.dict #[] } }:g8).heap.objs.size=s.heap.objs.size + 1 from G1 ..,S.cells]
 have kp0:∀ b o,s.heap.get? b=some o->(pushCells (s.heap.push { cls:=.type "frame",data:=.dict #[] }) lsc.names).get? b=some o:=fun b o e=>pushCells_keeps _ _ b o (l7 _ e);have ns0:(pushCells (s.heap.push { cls:=.type "frame",data:=.dict #[] }) lsc.names).Ns s.heap.objs.size fun _=>none:=(Heap.Ns.new s.heap (.type "frame")).keeps (pushCells_keeps _ _);have ic0:=(ok.empty pn (s.heap.objs.size + 1) l8).1;generalize pushCells (s.heap.push { cls:=.type "frame",data:=.dict #[] }) lsc.names=h0 at kp0 ns0 ic0 ⊢;refine g9 ?_;rw [List.forIn_cons];have lkp:(DA lq lsc s.heap.objs.size f (.ref cd) ((pn,s.heap.objs.size + 1) :: cl)).cells.lookup pn=some (s.heap.objs.size + 1):=by
  show((pn,s.heap.objs.size + 1) :: cl).lookup pn=_;rw [F5,beq_self_eq_true]
 refine g9 (g9 (wpAny_storeName_cell (env:=DA lq lsc s.heap.objs.size f (.ref cd) ((pn,s.heap.objs.size + 1) :: cl)) (c:=s.heap.objs.size + 1) (v:=u) S.kind S.par lkp ic0 fun h1 hc1 hs1=>j8 ?_));dsimp only;rw [List.forIn_nil];refine j8 (j8 ?_);have kp1:∀ b o,s.heap.get? b=some o->h1.get? b=some o:=fun b o e=>(hs1.2 b (w6 (T8 (j5 e)))).trans (kp0 b o e);have ns1:h1.Ns s.heap.objs.size fun _=>none:=ns0.sameBut hs1 (w6 (P9 _));refine⟨lim.keeps kp1,kla_codeExpr ?_⟩;obtain⟨t,ht,hq⟩:=hb (.ref cd) cl (hr.deeper _);have nc0:∀ b o,H b=some o->(∀ φ,o≠.ext φ)->b≠c0:=fun b o e n z=>by rw [z,C.cel] at e; cases e; exact n _ rfl
 have lkx:∀ x c,((pn,s.heap.objs.size + 1) :: cl).lookup x=some c->(x=pn/\c=s.heap.objs.size + 1)\/(x=tn/\c=c0):=fun x c e=>by
  rw [F5] at e;cases z:x == pn with
  | true=>rw [z] at e; cases e; exact .inl ⟨J5 z,rfl⟩
  | false =>
   rw [z] at e;have e':cl.lookup x=some c:=e;have:=hcl x c e';subst this;rw [hc0] at e';cases e';exact .inr ⟨rfl,rfl⟩
 have lkt:((pn,s.heap.objs.size + 1) :: cl).lookup tn=some c0:=by
  rw [F5];have:(tn == pn)=false:=beq_eq_false_iff_ne.mpr fun z=>S.ne z.symm;rw [this]; exact hc0
 have hokH:HOk P w (jU H c0) s.heap:=fun b o e=>by
  obtain⟨n,e⟩:=Do e;exact(e0.hok b o e).stay (fun _ _ _ q=>q) (fun d q=>by rw [hW (nc0 d _ q (fun _ z=>by cases z))]; exact q) fun d xs q=>by rw [hW (nc0 d _ q (fun _ z=>by cases z))]; exact q
 have noA:∀ b:Addr,b ∉ (cxL P w K mg base pn tn lq lsc f (.ref cd) cl A outer s (jU H c0)).ex:=fun b z=>absurd (show b∈([]:List Addr) from z) (by simp)
 have I:Inv (cxL P w K mg base pn tn lq lsc f (.ref cd) cl A outer s (jU H c0)) [] [some v,some a] (jU H c0) { s with heap:=h1 }:=by
  refine⟨⟨e0.mod,S.kind,rfl,rfl,i6 _,fun x y c h1 h2=>?_,fun x hx=>?_,fun x c hfn h=>?_,fun _=>hr.hd,am0 e0.frames,.inr ⟨rfl,rfl⟩,fun b z=>absurd z (noA b),fun b o e=>⟨(e0.bs b o e).1,iI (e0.bs b o e).2⟩,e0.bsz,fun b _ _=>noA b,fun b z=>absurd z (noA b),e0.funs,fun b hb=>iI (e0.frf b hb)⟩,
   rfl,e0.bare,Un.kept kp1,⟨_,ns1,fun i y v' h1' h2 h3=>?_⟩,fun x c h=>?_,hokH.fresh (i6 _),fun x c h=>?_,fun p hp=>absurd (show p∈([]:List (Addr×Obj)) from hp) (by simp),hokH.kept kp1,rfl⟩
  ·rcases lkx x c h1 with ⟨e1,e2⟩ | ⟨e1,e2⟩ <;> rcases lkx y c h2 with ⟨e3,e4⟩ | ⟨e3,e4⟩
   ·rw [e1,e3]
   ·exact absurd lc0 (by rw [e4.symm.trans e2]; exact Q7.mpr (E6 _))
   ·exact absurd lc0 (by rw [e2.symm.trans e4]; exact Q7.mpr (E6 _))
   ·rw [e1,e3]
  ·rcases S.one x hx with rfl | rfl
   ·exact⟨_,lkp⟩
   ·exact⟨_,lkt⟩
  ·rcases lkx x c h with ⟨e1,e2⟩ | ⟨e1,e2⟩
   ·rw [e2]; exact E6 _
   ·have:(x == pn)=true:=hfn
    rw [e1] at this;exact absurd (J5 this).symm S.ne
  ·match i,h1',h2 with
   | 0,h1',h2 =>
    cases h1';cases h2;exact⟨u,rv,.inr ⟨.inl S.par,_,lkp,hc1⟩⟩
   | 1,h1',h2 =>
    cases h1';cases h2;exact⟨av,ra,.inr ⟨.inr S.fre,_,lkt,oc,kp1 _ _ hoc,hdc⟩⟩
   | i + 2,h1',h2=>cases h1'
  ·rcases lkx x c h with ⟨e1,e2⟩ | ⟨e1,e2⟩
   ·rw [e2]; exact⟨_,hc1⟩
   ·rw [e2]; exact⟨_,oc,kp1 _ _ hoc,hdc⟩
  ·rcases lkx x c h with ⟨e1,e2⟩ | ⟨e1,e2⟩
   ·rw [e2]; exact hokH.fresh (E6 _)
   ·rw [e2]; exact vq
 refine C8 (ht [] { s with heap:=h1 } [some v,some a] (jU H c0) _ I hq) (fun u2 s2 hs=>?_) fun e s2 hs=>hs.elim
 obtain⟨v2,H2,J,r2,q2⟩:=hs;have ub:Un (frs outer) [] (jU H c0) H2 s.heap s2.heap:=J.base;have n2:H2 c0=none:=J.freeC tn c0 lkt;have nb:∀ b o,H2 b=some o->b≠c0:=fun b o e z=>by rw [z,n2] at e; cases e
 have nfs:c0 ∉ frs outer:=fun z=>by have:=e0.frf c0 z; rw [C.cel] at this; cases this
 have oc2:=ub.keep c0 oc hoc vq nfs (by simp)
 refine⟨v2,upd H2 c0 (FA c0 av),J.os,J.bare,⟨fun b o e n=>ub.keep b o e (iI n),fun b o e n=>ub.slot b o e (iI n),fun b o e n hx=>?_,ub.there,fun b xs e=>?_,fun b o u e=>?_,fun b ps e=>?_⟩,fun b o e=>?_,r2,q2⟩
 ·rw [am (fun z=>by rw [z,C.cel] at n; cases n)]; exact ub.free b o e (iI n) hx
 ·have:=ub.tups b xs (by rw [hW (nc0 b _ e (fun _ z=>by cases z))]; exact e); rw [am (nb b _ this)]; exact this
 ·have:=ub.frzs b o u (by rw [hW (nc0 b _ e (fun _ z=>by cases z))]; exact e); rw [am (nb b _ this)]; exact this
 ·obtain⟨more,this⟩:=ub.tbls b ps (by rw [hW (nc0 b _ e (fun _ z=>by cases z))]; exact e); exact⟨more,by rw [am (nb b _ this)]; exact this⟩
 ·by_cases z:b=c0
  ·subst z; rw [af] at e; cases e; exact CO ⟨oc,oc2,hdc⟩
  ·rw [am z] at e
   exact(J.hok b o e).stay (fun _ _ _ q=>q) (fun d q=>by rw [am (nb d _ q)]; exact q) fun d xs q=>by rw [am (nb d _ q)]; exact q
def CFn (P:i8)(w:i7)(K:i3)(mg:Str->Option g7)(base:Heap)(k:Nat)(sp:Addr->V->Hp->VK->Prop):Prop :=
 ∀(A:j0) (outer:List Env) (s:g8) (H:Hp) (f:Addr) (u:g7) (v:V) (Q:VK),Room k A->Env0 P w K mg base A outer s H->bg v u->sp f v H Q ->
  (∃ fd,H f=some (II f fd))/\codeAny (model P w) A (.call (.ref f) ⟨[u],[]⟩) (CR CX0 outer P w H s Q E0) s
def Nm (sp:Addr->V->Hp->VK->Prop)(tf te:TE):TE:=fun σ H Q=>tf σ H fun x H1=>te σ H1 fun v H2 => ∃ f,x = .ref f/\sp f v H2 Q
theorem EO{X:Cx}{k:Nat}{sp:Addr->V->Hp->VK->Prop}{fe e:Expr}{tf te:TE}{pos:Pos}(F:CFn X.prog X.w X.K X.mg X.base k sp)(hr:Room k X.A)(hf:PE X fe tf)(he:PE X e te)
  (ht:eval (.Call fe [e] [] pos) X.env=(do callWith pos (<- eval fe X.env) [] (backTo pos (starEach [e] X.env)) (backToKw pos (keywordEach [] X.env))):=by rfl)
  (hs:starEach [e] X.env=(false,eval e X.env) :: starEach [] X.env:=by rfl):PE X (.Call fe [e] [] pos) (Nm sp tf te):=by
 intro pins s σ H Q I h;rw [ht];refine g9 (thn (hf pins s σ H _ I h) fun u s1 ⟨x,H1,I1,rx,q1⟩=>?_);have pA:PA X [e] (jP te qQ):=aa he ae hs;have key:wpAny (model X.prog X.w) X.A (spliced (backTo pos (starEach [e] X.env))) (fun vs s₂=>(∃ f fd,u=j7 f/\s₂.heap.get? f=some { cls:=.type "function",data:=.func fd })/\wpAny (model X.prog X.w) X.A (call u ([] ++ vs)) (EP X pins σ Q) X.xe s₂) X.xe s1:=by
  refine thn (pA pos pins s1 σ H1 (fun vs H2 => ∃ f v,vs=[v]/\x = .ref f/\sp f v H2 Q) I1 ?_) fun us s2 ⟨vs,H2,I2,r2,f,v,e1,e2,q2⟩=>?_
  ·refine(?_:te σ H1 fun v H2 => ∃ f v',[v]=[v']/\x = .ref f/\sp f v' H2 Q)
   have:(fun v H2 => ∃ f,x=V.ref f/\sp f v H2 Q)=(fun v H2 => ∃ f v',[v]=[v']/\x = .ref f/\sp f v' H2 Q):=by
    funext v H2
    exact propext ⟨fun⟨f,a,b⟩=>⟨f,v,rfl,a,b⟩,fun⟨f,v',z,a,b⟩=>by cases z; exact⟨f,a,b⟩⟩
   rw [<- this];exact q1
  ·subst e1 e2
   cases rx;obtain⟨u2,rfl,ru⟩:=iy r2;obtain⟨⟨fd,hfd⟩,run⟩:=F X.A X.stack s2 H2 f u2 v Q hr I2.env0 ru q2;refine⟨⟨f,fd,rfl,(I2.hok f _ hfd).1⟩,V9 (P1 run fun r s' hq=>?_)⟩;cases r with
   | error e=>exact C9 hq
   | ok fl =>
    cases fl with
    | ret u=>exact I2.after hq
    | next=>exact C9 hq
    | brk=>exact C9 hq
    | cont=>exact C9 hq
 rw [hs] at key ⊢;refine callWith_of (P:=fun h => ∃ f fd,u=j7 f/\h.get? f=some { cls:=.type "function",data:=.func fd }) rfl (fun h ⟨f,fd,e1,e2⟩=>?_) (evalArgs_plain key);subst e1;exact⟨.frame,.inl rfl,(Looks.ld (part:=none) e2).andThen .now⟩
open PySem PySem.Spec PyProof.Rows
section
variable {X:Cx}
def Ke:V->List V->Hp->VK->Prop:=fun x vs H Q => ∃(l:Addr) (xs:List V) (v:V) (j:Nat),x = .ref l/\vs=[v]/\H l=some (.lst xs)/\dJ v=true/\xs.all dJ=true/\xs.length<=1000/\j < xs.length/\eqV (xs.getD j .non) v=true/\(∀ m,m < j->eqV (xs.getD m .non) v=false)/\Q (.int (j:Nat)) H
theorem vx:MtM X "list.index" Ke:=by
 intro pins s σ H x vs v us Q I rx rv h;obtain⟨l,xs,w,j,rfl,rfl,hH,fw,fx,hz,hj,hit,hno,q⟩:=h;cases rx;obtain⟨u,rfl,ru⟩:=rv.one;obtain⟨_,its,n,r,hl,e⟩:=I.lstM hH;have hlen:=r.length;have at_:∀ m (hm:m < its.toArray.size),eqU w its.toArray[m]=eqV (xs.getD m .non) w:=fun m hm=>by
  rw [l9] at hm;have hm':m < xs.length:=by omega
  have e1:xs[m]? = some xs[m]:=i5 hm';obtain⟨u',hu',ru'⟩:=r.get e1;have e2:its[m]? = some its[m]:=i5 hm;rw [e2] at hu';cases hu';have fm:dJ xs[m]=true:=E8.mp fx _ (E9 hm');have:=AK (x:=w) ru' fm;rw [A4,e1];show eqU w its[m]=_;rw [this]; rfl
 refine M9 F.slot_list_index ⟨_,e,rfl⟩ F.entry_list_index (F.args_list_index_2 _ _)
  (SeqAt.list_indexAt l its.toArray n none #[] u (eqU w) j (by rw [l9]; omega) (by omega) ?_ ?_) ⟨e,fun y hy=>iX ru fw r fx y (by simpa using hy),?_⟩
 ·rw [at_ j (by rw [l9]; omega)]; exact hit
 ·intro m hm hlt
  rw [at_ m hm]; exact hno m hlt
 ·exact⟨.int (j:Nat),H,I.tok _,⟨zQa⟩,q⟩
end
section
variable {X:Cx}
def Qe (X:Cx):R2:=fun y x H Q => ∃(a:Addr) (kvs:List (Key×V)) (k:Key),x = .ref a/\y=kV k/\oF X.w X.K a kvs/\(kvs.map (·.1)).Nodup/\Q (.bl (cm kvs k).isSome) H
theorem Cg:OpR X (compareOp .In) (Qe X):=by
 intro pins s σ H y x v u Q I ry rx h;obtain⟨a,kvs,k,rfl,rfl,ha,nd,q⟩:=h;cases rx;obtain⟨z,hd,vs,rel,dd⟩:=ha.of (P:=X.prog) nd I.kIn;refine wpAny_in_of (qm ry) hd dd.mapOf ?_;rw [<- (rel.val k).isSome_eq];exact⟨.bl (cm kvs k).isSome,H,I.tok _,rfl,q⟩
def NF (X:Cx)(td ty:TE):TE:=fun σ H Q=>td σ H fun x H1=>ty σ H1 fun y H2 => ∃(a:Addr) (kvs:List (Key×V)) (k:Key) (v:V),x = .ref a/\y=kV k/\oF X.w X.K a kvs/\(kvs.map (·.1)).Nodup/\cm kvs k=some v/\Q v H2
theorem Fo{o i:Expr}{td ty:TE}{pos:Pos}(ho:PE X o td)(hi:PE X i ty)(hs:Nn i):PE X (.Subscript o i pos) (NF X td ty):=by
 intro pins s σ H Q I h;refine Co an4.lookup hs (thn (ho pins s σ H _ I h) fun u s1 ⟨x,H1,I1,rx,q1⟩=>thn (hi pins s1 σ H1 _ I1 q1) fun iv s2 ⟨y,H2,I2,ry,a,kvs,k,v,ex,ey,ha,nd,l,q2⟩=>?_);subst ex;subst ey;obtain rfl:u=j7 a:=rx;obtain⟨z,hd,vs,rel,dd⟩:=ha.of (P:=X.prog) nd I2.kIn;obtain⟨w',hw,rw'⟩:=jd.some_of (v:=v) (o:=valueAt vs k) (by rw [<- l]; exact rel.val k)
 exact⟨dd.typeIs,wpAny_getItem_of (qm ry) dd.mapOf hw ⟨v,H2,I2.tok _,rw',q2⟩⟩
theorem Av:gS X (.builtin "len") (fun xs H Q => ∃ a kvs,xs=[V.ref a]/\oF X.w X.K a kvs/\(kvs.map (·.1)).Nodup/\Q (.int kvs.length) H):=by
 intro pins s σ H xs us Q I r h;obtain⟨a,kvs,rfl,ha,nd,q⟩:=h;obtain⟨u,rfl,ru⟩:=iy r;cases ru;obtain⟨z,hd,vs,rel,dd⟩:=ha.of (P:=X.prog) nd I.kIn;refine call_len_dict hd dd (by rw [<- rel.length]; rw [J8] at z; omega) ?_
 rw [<- rel.length];exact⟨.int kvs.length,H,I.tok _,⟨zQa⟩,q⟩
def leS (x y:Str):Bool := !decide (y.cps.toList < x.cps.toList)
def Qy:R2:=fun a b H Q => ∃ x y:Str,a = .str x/\b = .str y/\Q (.bl (leS x y)) H
theorem EU:OpR X (compareOp .LtE) Qy:=by
 intro pins s σ H a b v u Q I rx ry h;obtain⟨x,y,rfl,rfl,q⟩:=h;obtain⟨_,rfl⟩:=rx;obtain⟨_,rfl⟩:=ry;exact P.le_str ⟨.bl (leS x y),H,I,rfl,q⟩
theorem PV:bootBuiltins "ord"=some (.builtin "ord"):=by decide +kernel
end
theorem sj{X:Cx}{e:Expr}{t:TE}{p1 p2 pos2 pos:Pos}(hg1:Gl X "len")(n1:X.mg "len"=none)(b1:bootBuiltins "len"=some (.builtin "len"))(hg2:Gl X "set")(n2:X.mg "set"=none)(b2:bootBuiltins "set"=some (.type "set"))(he:PE X e t)(hc:X.calm=true:=by rfl)
  (hs:starEach [e] X.env=[(false,eval e X.env)]:=by rfl) :
  PE X (.Call (.Name "len" p1) [.Call (.Name "set" p2) [e] [] pos2] [] pos) (fun σ H Q=>t σ H fun x H1 => ∃(p:Addr) (ns:List Str),x = .ref p/\SqL X.K H1 p (ns.map V.str)/\ns.length<=100/\Q (.int (eY ns)) H1):=by
 intro pins s σ H Q I h;refine G6 (dE I hg1 n1 b1 ?_);refine ae8 ?_ rfl rfl;show wpAny _ _ (spliced ((false,eval (.Call (.Name "set" p2) [e] [] pos2) X.env) :: backTo pos (starEach [] X.env))) _ _ s;refine M6 ?_;refine G6 (dE I hg2 n2 b2 ?_);refine M3 ?_ hs rfl;rw [hs];show wpAny _ _ (spliced ((false,eval e X.env) :: backTo pos2 (starEach [] X.env))) _ _ s;refine M6 (thn (he pins s σ H _ I h) fun u s1 ⟨x,H1,I1,r1,p,ns,ex,hq,hn,q⟩=>?_);subst ex;cases r1;refine M5 ?_;obtain⟨its,rv,pl,hz⟩:=I1.list hq;have hlen:=rv.length;rw [i4] at hlen;have pt:s1.heap.IsList p its.toArray:=pl.isList;have esz:its.toArray.size=ns.length:=by simp [hlen]
 refine AE (I1.ok.hd hc) pt (by simpa using ju rv) (by rw [esz]; unfold scanBound; omega) fun h' tk zs kp=>?_
 refine M5 ?_;obtain⟨o,es,ep,tb,ho,ex,hd,_,_,_,hf,en⟩:=zs;rw [esz] at en;have le:=lY (fun i=>ns.getD i u7) ns.length;refine call_len_set (s:={ s1 with heap:=h',toks:=tk }) ho ex hd hf (by rw [en]; omega) ?_
 refine⟨.int (eY ns),H1,I1.kept (t':=tk + 1 + 1) fun b o eb=>kp b o (j5 eb) eb,⟨_,by rw [en]; rfl⟩,q⟩
end L2
namespace SL
open PySem PyProof.Rows
class Lab where
 lab:g7->Int
section
variable [Lab]
def K2 (xs:Array A6)(i:Nat):Int:=match xs[i]? with
 | some p=>Lab.lab p.2
 | none=>0
theorem yP{xs ys:Array A6}{i j:Nat}(h:xs[i]? = ys[j]?):K2 xs i=K2 ys j:=by unfold K2; rw [h]
theorem wR{xs:Array A6}{src d:Nat}(hs:src < xs.size)(hd:d<=src)(k:Nat) :
  K2 (bubble xs src d) k=if k=src - d then K2 xs src else if src - d < k/\k<=src then K2 xs (k - 1) else K2 xs k:=by
 have e:=getElem?_bubble hs d hd k;split
 ·rename_i h1; rw [if_pos h1] at e; exact yP e
 ·rename_i h1
  rw [if_neg h1] at e;split
  ·rename_i h2; rw [if_pos h2] at e; exact yP e
  ·rename_i h2; rw [if_neg h2] at e; exact yP e
theorem iH{xs:Array A6}{i j:Nat}(hj:j<=xs.size)(k:Nat) :
  K2 (mirror xs i j ((j - i) / 2)) k=if i<=k/\k < j then K2 xs (i + j - 1 - k) else K2 xs k:=by
 have e:=getElem?_mirror_all (i:=i) hj k;split
 ·rename_i h1; rw [if_pos h1] at e; exact yP e
 ·rename_i h1; rw [if_neg h1] at e; exact yP e
def Up (xs:Array A6)(k:Nat):Prop := ∀ i j,i < j->j < k->K xs i < K xs j\/(K xs i=K xs j/\K2 xs i < K2 xs j)
def Dn (xs:Array A6)(k:Nat):Prop := ∀ i j,i < j->j < k->K xs j < K xs i\/(K xs i=K xs j/\K2 xs j < K2 xs i)
structure Left(xs:Array A6)(k:Nat):Prop where
 same:∀ i,k<=i->i < xs.size->K2 xs i=i
 ahead:∀ i,i < k->i < xs.size->K2 xs i < k
theorem Up.le{xs:Array A6}{k:Nat}(h:Up xs k){i j:Nat}(hij:i<=j)(hj:j < k):K xs i<=K xs j:=by
 by_cases e:i=j
 ·subst e; exact ab7 _
 ·rcases h i j (by omega) hj with q | q <;> omega
theorem Dn.le{xs:Array A6}{k:Nat}(h:Dn xs k){i j:Nat}(hij:i<=j)(hj:j < k):K xs j<=K xs i:=by
 by_cases e:i=j
 ·subst e; exact ab7 _
 ·rcases h i j (by omega) hj with q | q <;> omega
section
variable {prog:i8} {w:i7} {A:j0} {E:g7→g8→Prop} {s:g8} {a₀:Array A6}
theorem Jp{xs:Array A6}{x:Nat}(hu:Up xs x)(hl:Left xs x)(hx:x < xs.size)(h1:1<=x)(hle:K xs (x - 1)<=K xs x):Up xs (x + 1):=by
 intro i j hij hj;by_cases hjx:j < x
 ·exact hu i j hij hjx
 ·have ej:j=x:=by omega
  subst ej;have q1:=hu.le (i:=i) (j:=j - 1) (by omega) (by omega)
  have q2:=hl.ahead i (by omega) (by omega)
  have q3:=hl.same j (i6 _) hx;omega
theorem wu{xs:Array A6}{x:Nat}(hl:Left xs x):Left xs (x + 1):=by
 refine⟨fun i h1 h2=>hl.same i (by omega) h2,fun i h1 h2=>?_⟩
 by_cases e:i < x
 ·have:=hl.ahead i e h2; omega
 ·have ei:i=x:=by omega
  subst ei;have:=hl.same i (i6 _) h2;omega
theorem EN{st:F6}{a nrem:Nat}{Q:AscSt->F6->Prop}(h0:IntKeys a₀)(hn:nrem<=a₀.size)(ha:1<=a)(han:a<=nrem)(hB:F0 a₀ st)
  (hu:Up (arrOf st) a) (hl:Left (arrOf st) a)
  (h:∀ n,a<=n->n<=nrem->Up (arrOf st) n->Left (arrOf st) n->(n=nrem\/K (arrOf st) n < K (arrOf st) (n - 1))->Q (none,n) st) :
  wpS (model prog w) A E s (ascLoop a nrem) Q st:=by
 unfold ascLoop;have hsz:=hB.size;refine T9 (I:=fun x c st'=>st'=st/\c=(none,x)/\Up (arrOf st) x/\Left (arrOf st) x) ?turn ?fin ⟨rfl,rfl,hu,hl⟩
 case fin =>
  rintro c st' ⟨rfl,rfl,u',l'⟩;have e:max a nrem=nrem:=by omega
  rw [e] at u' l' ⊢;exact h nrem han (i6 _) u' l' (.inl rfl)
 case turn =>
  rintro x c st' hax hxn ⟨rfl,rfl,u',l'⟩;dsimp only;refine A8 (wpS_ltK hB h0 (by omega) (by omega) ?_)
  by_cases hc:K (arrOf st') x < K (arrOf st') (x - 1)
  ·simp only [hc,decide_true,if_true]
   exact C6 (h x hax (by omega) u' l' (.inr hc))
  ·simp only [hc,decide_false,E7,if_false]
   exact C6 ⟨rfl,rfl,Jp u' l' (by omega) (by omega) (by omega),wu l'⟩
theorem yG{xs:Array A6}{i j k:Nat}(hj:j<=xs.size)(hjk:j<=k)(hl:Left xs k)(hk:k<=xs.size):Left (mirror xs i j ((j - i) / 2)) k:=by
 refine⟨fun m h1 h2=>?_,fun m h1 h2=>?_⟩
 ·rw [iH hj,if_neg (by omega)]
  rw [U0] at h2;exact hl.same m h1 h2
 ·rw [U0] at h2
  rw [iH hj];split
  ·exact hl.ahead _ (by omega) (by omega)
  ·exact hl.ahead _ h1 h2
theorem FN{xs:Array A6}{n:Nat}(hn:n<=xs.size)(hd:Dn xs n):Up (mirror xs 0 n ((n - 0) / 2)) n:=by
 intro i j hij hj;rw [N1 hn,N1 hn,iH hn,iH hn,if_pos (by omega),if_pos (by omega),if_pos (by omega),if_pos (by omega)]
 have q:=hd (0 + n - 1 - j) (0 + n - 1 - i) (by omega) (by omega)
 omega
theorem Cy{st:F6}{n nrem:Nat}{Q:Option Nat->F6->Prop}(h0:IntKeys a₀)(hn:nrem<=a₀.size)(h1:1<=n)(hnn:n<=nrem)(hB:F0 a₀ st)
  (hd:Dn (arrOf st) n) (hl:Left (arrOf st) n) (h:∀ m st',F0 a₀ st'->1<=m->m<=nrem->Up (arrOf st') m->Left (arrOf st') m->Q (some m) st') :
  wpS (model prog w) A E s (tail3 n nrem) Q st:=by
 unfold tail3;have hsz:=hB.size;refine A8 (ab8 ?_);have hB':F0 a₀ (setArr st (mirror (arrOf st) 0 n ((n - 0) / 2))):=hB.setArr (ab9 _ _ _ _);refine A8 (EN h0 hn h1 hnn hB' (FN (by omega) hd) (yG (by omega) (i6 _) hl (by omega)) ?_)
 intro m hm1 hm2 hum hlm _;exact C6 (h m _ hB' (by omega) hm2 hum hlm)
structure Fall(xs:Array A6)(x g:Nat):Prop where
 lt:g < x
 d1:Dn xs g
 d2:∀ i j,i < g->g<=j->j < x->K xs j < K xs i
 d3:∀ i,g<=i->i < x->K xs i=K xs (x - 1)/\K2 xs i=i
 same:∀ i,x<=i->i < xs.size->K2 xs i=i
 ahead:∀ i,i < g->i < xs.size->K2 xs i < g
theorem Fall.dn{xs:Array A6}{x g:Nat}(f:Fall xs x g)(hx:x<=xs.size):Dn (mirror xs g x ((x - g) / 2)) x/\Left (mirror xs g x ((x - g) / 2)) x:=by
 refine⟨fun i j hij hj=>?_,⟨fun i h1 h2=>?_,fun i h1 h2=>?_⟩⟩
 ·rw [N1 hx,N1 hx,iH hx,iH hx]
  have hl:=f.lt;by_cases hi:i < g
  ·rw [if_neg (by omega:¬ (g<=i/\i < x)),if_neg (by omega:¬ (g<=i/\i < x))]
   by_cases hjg:j < g
   ·rw [if_neg (by omega),if_neg (by omega)]
    exact f.d1 i j hij hjg
   ·rw [if_pos (by omega),if_pos (by omega)]
    exact .inl (f.d2 i (g + x - 1 - j) hi (by omega) (by omega))
  ·rw [if_pos (by omega:g<=i/\i < x),if_pos (by omega:g<=i/\i < x),if_pos (by omega),if_pos (by omega)]
   have q1:=f.d3 (g + x - 1 - i) (by omega) (by omega)
   have q2:=f.d3 (g + x - 1 - j) (by omega) (by omega)
   right
   constructor
   ·rw [q1.1,q2.1]
   ·rw [q1.2,q2.2]; omega
 ·rw [U0] at h2
  rw [iH hx,if_neg (by omega)]
  exact f.same i h1 h2
 ·rw [U0] at h2
  have hl:=f.lt;rw [iH hx];split
  ·rw [(f.d3 (g + x - 1 - i) (by omega) (by omega)).2]; omega
  ·have:=f.ahead i (by omega) h2; omega
theorem sE(xs:Array A6)(i:Nat):mirror xs i (i + 1) ((i + 1 - i) / 2)=xs:=by
 have e:(i + 1 - i) / 2=0:=by omega
 rw [e]; rfl
theorem oC{xs:Array A6}{x:Nat}(hd:Dn xs x)(hl:Left xs x)(hx:x < xs.size)(h1:1<=x)(hc:K xs x < K xs (x - 1)):Fall xs (x + 1) x:=by
 refine⟨by omega,hd,fun i j h2 h3 h4=>?_,fun i h2 h3=>?_,fun i h2 h3=>hl.same i (by omega) h3,fun i h2 h3=>hl.ahead i h2 h3⟩
 ·have ej:j=x:=by omega
  subst ej;have:=hd.le (i:=i) (j:=j - 1) (by omega) (by omega)
  omega
 ·have ei:i=x:=by omega
  subst ei;exact⟨rfl,hl.same i (i6 _) hx⟩
theorem EA{xs:Array A6}{x g:Nat}(f:Fall xs x g)(hx:x < xs.size)(he:K xs x=K xs (x - 1)):Fall xs (x + 1) g:=by
 have hl:=f.lt;refine⟨by omega,f.d1,fun i j h2 h3 h4=>?_,fun i h2 h3=>?_,fun i h2 h3=>f.same i (by omega) h3,f.ahead⟩
 ·by_cases e:j < x
  ·exact f.d2 i j h2 h3 e
  ·have ej:j=x:=by omega
   subst ej;rw [he];exact f.d2 i (j - 1) h2 (by omega) (by omega)
 ·rw [show x + 1 - 1=x by omega]
  by_cases e:i < x
  ·have q:=f.d3 i h2 e
   exact⟨by rw [he]; exact q.1,q.2⟩
  ·have ei:i=x:=by omega
   subst ei;exact⟨rfl,f.same i (i6 _) hx⟩
theorem IW{st:F6}{n nrem:Nat}{Q:DescSt->F6->Prop}(h0:IntKeys a₀)(hn:nrem<=a₀.size)(h1:1<=n)(hnn:n<=nrem)(hB:F0 a₀ st)
  (hf:Fall (arrOf st) n (n - 1))
  (h:∀ m neq st',F0 a₀ st'->n<=m->m<=nrem->neq + 1<=m->Fall (arrOf st') m (m - (neq + 1))->Q (none,m,neq) st') :
  wpS (model prog w) A E s (descLoop n nrem) Q st:=by
 unfold descLoop;refine T9 (I:=fun x c st' => ∃ neq,c=(none,x,neq)/\F0 a₀ st'/\neq + 1<=x/\Fall (arrOf st') x (x - (neq + 1))) ?turn ?fin ⟨0,rfl,hB,by omega,hf⟩
 case fin =>
  rintro c st' ⟨neq,rfl,hB',hq,f'⟩;have e:max n nrem=nrem:=by omega
  rw [e] at hq f' ⊢;exact h nrem neq st' hB' hnn (i6 _) hq f'
 case turn =>
  rintro x c st' hax hxn ⟨neq,rfl,hB',hq,f'⟩;dsimp only;have hsz:=hB'.size;refine A8 (wpS_ltK hB' h0 (by omega) (by omega) ?_)
  by_cases hc:K (arrOf st') x < K (arrOf st') (x - 1)
  ·simp only [hc,decide_true,if_true]
   have hdn:=f'.dn (by omega)
   by_cases hp:neq > 0
   ·rw [if_pos hp]
    refine A8 (ab8 (C6 ⟨0,rfl,hB'.setArr (ab9 _ _ _ _),by omega,?_⟩))
    show Fall (mirror (arrOf st') (x - (neq + 1)) x ((x - (x - (neq + 1))) / 2)) (x + 1) (x + 1 - (0 + 1));have ex:x + 1 - (0 + 1)=x:=by omega
    rw [ex];refine oC hdn.1 hdn.2 (by rw [U0]; omega) (by omega) ?_
    rw [N1 (by omega),N1 (by omega),if_neg (by omega),if_pos (by omega)]
    have q:=(f'.d3 (x - (neq + 1) + x - 1 - (x - 1)) (by omega) (by omega)).1
    rw [q]; exact hc
   ·rw [if_neg hp]
    have en:neq=0:=by omega
    subst en;have eg:x - (0 + 1) + 1=x:=by omega
    have hm:=sE (arrOf st') (x - (0 + 1));rw [eg] at hm;rw [hm] at hdn;refine C6 ⟨0,rfl,hB',by omega,?_⟩
    have ex:x + 1 - (0 + 1)=x:=by omega
    rw [ex];exact oC hdn.1 hdn.2 (by omega) (by omega) hc
  ·simp only [hc,decide_false,E7,if_false]
   refine A8 (wpS_ltK hB' h0 (by omega) (by omega) ?_)
   by_cases hb:K (arrOf st') (x - 1) < K (arrOf st') x
   ·simp only [hb,decide_true,if_true]
    exact C6 (h x neq st' hB' hax (by omega) hq f')
   ·simp only [hb,decide_false,E7,if_false]
    refine C6 ⟨neq + 1,rfl,hB',by omega,?_⟩
    have ex:x + 1 - (neq + 1 + 1)=x - (neq + 1):=by omega
    rw [ex];exact EA f' (by omega) (by omega)
theorem qy{st:F6}{n nrem:Nat}{Q:Option Nat->F6->Prop}(h0:IntKeys a₀)(hn:nrem<=a₀.size)(hnn:n + 1<=nrem)(hB:F0 a₀ st)
  (hf:Fall (arrOf st) (n + 1) n) (h:∀ m st',F0 a₀ st'->1<=m->m<=nrem->Up (arrOf st') m->Left (arrOf st') m->Q (some m) st') :
  wpS (model prog w) A E s (descPart n nrem) Q st:=by
 unfold descPart;refine A8 (wpS_lift (Q8 ⟨rfl,?_⟩));refine A8 (IW h0 hn (by omega) hnn hB hf fun m neq st' hB' hm1 hm2 hq f'=>?_)
 dsimp only;have hsz:=hB'.size;have hdn:=f'.dn (by omega)
 by_cases hp:neq > 0
 ·rw [if_pos hp]
  exact A8 (ab8 (Cy h0 hn (by omega) hm2 (hB'.setArr (ab9 _ _ _ _)) hdn.1 hdn.2 h))
 ·rw [if_neg hp]
  have en:neq=0:=by omega
  subst en;have eg:m - (0 + 1) + 1=m:=by omega
  have hm:=sE (arrOf st') (m - (0 + 1));rw [eg] at hm;rw [hm] at hdn;exact Cy h0 hn (by omega) hm2 hB' hdn.1 hdn.2 h
theorem ID{st:F6}{nrem:Nat}{Q:Option Nat->F6->Prop}(h0:IntKeys a₀)(hn:nrem<=a₀.size)(h1:1<=nrem)(hB:F0 a₀ st)(hl:Left (arrOf st) 0)
  (h:∀ m st',F0 a₀ st'->1<=m->m<=nrem->Up (arrOf st') m->Left (arrOf st') m->Q (some m) st') :
  wpS (model prog w) A E s (countRun' 0 nrem) Q st:=by
 rw [countRun0_eq];have hsz:=hB.size;have l1:Left (arrOf st) 1:=wu hl;refine A8 (EN h0 hn (i6 1) h1 hB (fun i j hij hj=>by omega) l1 fun n hn1 hn2 hu hln hor=>?_)
 dsimp only;by_cases hnn:n=nrem
 ·rw [if_pos (by simpa using hnn)]
  exact C6 (h n st hB hn1 hn2 hu hln)
 ·rw [if_neg (by simpa using hnn)]
  have hlt:K (arrOf st) n < K (arrOf st) (n - 1):=hor.resolve_left hnn;by_cases hgt:n > 1
  ·rw [if_pos hgt]
   refine A8 (wpS_ltK hB h0 (by omega) (by omega) ?_)
   by_cases hrose:K (arrOf st) 0 < K (arrOf st) (n - 1)
   ·simp only [hrose,decide_true,if_true]
    exact C6 (h n st hB hn1 hn2 hu hln)
   ·simp only [hrose,decide_false,E7,if_false]
    have hns:n<=(arrOf st).size:=by omega
    have all1:∀ k,k < n->K (arrOf st) k=K (arrOf st) (n - 1):=by
     intro k hk;have a1:=hu.le (i:=0) (j:=k) (by omega) hk
     have a2:=hu.le (i:=k) (j:=n - 1) (by omega) (by omega)
     omega
    refine A8 (ab8 (qy h0 hn (by omega) (hB.setArr (ab9 _ _ _ _)) ?_ h))
    show Fall (mirror (arrOf st) 0 n ((n - 0) / 2)) (n + 1) n;refine oC (fun i j hij hj=>?_) (yG hns (i6 _) hln hns) (by rw [U0]; omega) (by omega) ?_
    ·rw [N1 hns,N1 hns,iH hns,iH hns,if_pos (by omega),if_pos (by omega),if_pos (by omega),if_pos (by omega)]
     have b1:=all1 (0 + n - 1 - i) (by omega)
     have b2:=all1 (0 + n - 1 - j) (by omega)
     have b3:=hu (0 + n - 1 - j) (0 + n - 1 - i) (by omega) (by omega)
     omega
    ·rw [N1 hns,N1 hns,if_neg (by omega),if_pos (by omega)]
     have b1:=all1 (0 + n - 1 - (n - 1)) (by omega)
     omega
  ·rw [if_neg hgt]
   have e1:n=1:=by omega
   subst e1;exact qy h0 hn (by omega) hB (oC (fun i j hij hj=>by omega) hln (by omega) (by omega) hlt) h
theorem MG{st:F6}{n ok:Nat}{Q:Bool->F6->Prop}(h0:IntKeys a₀)(hn:n<=a₀.size)(hok:ok<=n)(hok1:1<=ok)(hB:F0 a₀ st)(hu:Up (arrOf st) ok)(hl:Left (arrOf st) ok)
  (h:∀ st',F0 a₀ st'->Up (arrOf st') n->Q true st'):wpS (model prog w) A E s (binarySort' 0 n ok) Q st:=by
 rw [binarySort'_eq];simp only [U1]
 have eo:max ok 1=ok:=by omega
 rw [eo];refine A8 (wpS_mono (T9 (I:=fun k c st'=>c=(none,())/\F0 a₀ st'/\Up (arrOf st') k/\Left (arrOf st') k)
  (Q:=fun c st'=>c=(none,())/\F0 a₀ st'/\Up (arrOf st') n) ?turn ?fin ⟨rfl,hB,hu,hl⟩) ?post)
 case post =>
  rintro c st' ⟨rfl,hB',hu'⟩;exact C6 (h st' hB' hu')
 case fin =>
  rintro c st' ⟨hc,hB',hu',_⟩;have e:max ok n=n:=by omega
  rw [e] at hu';exact⟨hc,hB',hu'⟩
 case turn =>
  rintro k c st' hak hkn ⟨rfl,hB',hu',hl'⟩;have hsz:=hB'.size;have hk:k < a₀.size:=by omega
  refine A8 (wpS_mono (T9 (I:=fun x c st''=>st''=st'/\∃ l r,c=(none,l,r)/\l<=r/\r<=k/\r - l<=k - x /\
    (∀ i,i < l->K (arrOf st') i<=K (arrOf st') k)/\(∀ i,r<=i->i < k->K (arrOf st') k < K (arrOf st') i))
   (Q:=fun c st''=>st''=st'/\∃ l r,c=(none,l,r)/\l<=k /\
    (∀ i,i < l->K (arrOf st') i<=K (arrOf st') k)/\(∀ i,l<=i->i < k->K (arrOf st') k < K (arrOf st') i)) ?t2 ?f2 ?i2) ?p2)
  case i2=>exact⟨rfl,0,k,rfl,by omega,by omega,by omega,fun i hi=>by omega,fun i h1 h2=>by omega⟩
  case f2 =>
   rintro c st'' ⟨rfl,l,r,rfl,hlr,hrk,hm,hlo,hhi⟩;have e:l=r:=by omega
   subst e;exact⟨rfl,l,l,rfl,hrk,hlo,hhi⟩
  case t2 =>
   rintro x c st'' _ hxk ⟨rfl,l,r,rfl,hlr,hrk,hm,hlo,hhi⟩;dsimp only;by_cases hge:l ≥ r
   ·rw [if_pos hge]
    have e:l=r:=by omega
    subst e;exact C6 ⟨rfl,l,l,rfl,hrk,hlo,hhi⟩
   ·rw [if_neg hge]
    refine A8 (wpS_ltK hB' h0 hk (by omega) ?_)
    by_cases hless:K (arrOf st'') k < K (arrOf st'') ((l + r) / 2)
    ·simp only [hless,decide_true,if_true]
     refine C6 ⟨rfl,l,(l + r) / 2,rfl,by omega,by omega,by omega,hlo,fun i h1 h2=>?_⟩
     have q:=hu'.le h1 h2;omega
    ·simp only [hless,decide_false,E7,if_false]
     refine C6 ⟨rfl,(l + r) / 2 + 1,r,rfl,by omega,by omega,by omega,fun i h1=>?_,hhi⟩
     have q:=hu'.le (i:=i) (j:=(l + r) / 2) (by omega) (by omega)
     omega
  case p2 =>
   rintro c st'' ⟨rfl,l,r,rfl,hlk,hlo,hhi⟩;show wpS _ _ _ _ (do moveDown' k l; pure (W4 (none,()))) _ _
   rw [moveDown'_eq];have hks:k < (arrOf st'').size:=by omega
   have ekl:k - (k - l)=l:=by omega
   have mine:=hl'.same k (i6 _) hks;refine A8 (wpS_modify (C6 ⟨rfl,hB'.setArr (bubble_perm _ _ _),?_,?_⟩))
   ·intro i j hij hj
    show K (bubble (arrOf st'') k (k - l)) i < K (bubble (arrOf st'') k (k - l)) j\/(K (bubble (arrOf st'') k (k - l)) i=K (bubble (arrOf st'') k (k - l)) j/\K2 (bubble (arrOf st'') k (k - l)) i < K2 (bubble (arrOf st'') k (k - l)) j);rw [K_bubble hks (by omega),K_bubble hks (by omega),wR hks (by omega),wR hks (by omega),ekl]
    by_cases hi:i < l
    ·rw [if_neg (by omega:¬ i=l),if_neg (by omega:¬ (l < i/\i<=k)),if_neg (by omega:¬ i=l),if_neg (by omega:¬ (l < i/\i<=k))]
     by_cases hjl:j < l
     ·rw [if_neg (by omega),if_neg (by omega),if_neg (by omega),if_neg (by omega)]
      exact hu' i j hij (by omega)
     ·by_cases hje:j=l
      ·rw [if_pos hje,if_pos hje]
       have q1:=hlo i hi;have q2:=hl'.ahead i (by omega) (by omega)
       omega
      ·rw [if_neg hje,if_pos (by omega),if_neg hje,if_pos (by omega)]
       exact hu' i (j - 1) (by omega) (by omega)
    ·by_cases hie:i=l
     ·rw [if_pos hie,if_pos hie,if_neg (by omega),if_pos (by omega),if_neg (by omega),if_pos (by omega)]
      exact .inl (hhi (j - 1) (by omega) (by omega))
     ·have c1:l < i/\i<=k:=by omega
      have c2:¬ j=l:=by omega
      have c3:l < j/\j<=k:=by omega
      simp only [if_neg hie,if_pos c1,if_neg c2,if_pos c3]
      exact hu' (i - 1) (j - 1) (by omega) (by omega)
   ·refine⟨fun i h1 h2=>?_,fun i h1 h2=>?_⟩
    ·show K2 (bubble (arrOf st'') k (k - l)) i=i
     have h2':i < (bubble (arrOf st'') k (k - l)).size:=h2;rw [bubble_size] at h2';rw [wR hks (by omega),ekl,if_neg (by omega),if_neg (by omega)]
     exact hl'.same i (by omega) h2'
    ·show K2 (bubble (arrOf st'') k (k - l)) i < ((k + 1:Nat):Int)
     have h2':i < (bubble (arrOf st'') k (k - l)).size:=h2;rw [bubble_size] at h2';rw [wR hks (by omega),ekl]
     split
     ·omega
     ·split
      ·have q:=hl'.ahead (i - 1) (by omega) (by omega)
       omega
      ·have q:=hl'.ahead i (by omega) (by omega)
       omega
theorem Jg{st:F6}{Q:Unit->F6->Prop}(h0:IntKeys a₀)(hB:F0 a₀ st)(h2:2<=a₀.size)(h64:a₀.size < 64)(hl:Left (arrOf st) 0)
  (h:∀ st',(arrOf st').Perm a₀->failedOf st'=none->Up (arrOf st') a₀.size->Q () st'):wpS (model prog w) A E s sortRuns' Q st:=by
 rw [sortRuns'_eq];refine A8 (wpS_get ?_);dsimp only;have hmr:minRun' a₀.size a₀.size 0=a₀.size:=by
  obtain⟨f,hf⟩:∃ f,a₀.size=f + 1:=⟨a₀.size - 1,by omega⟩
  have q:minRun' (f + 1) a₀.size 0=a₀.size:=by rw [minRun'_succ,if_pos h64]; rfl
  rwa [<- hf] at q
 simp only [hB.size,hmr]
 let Dn1:F6->Prop:=fun st'=>(arrOf st').Perm a₀/\failedOf st'=none/\pendingOf st' = #[(0,a₀.size,0)]/\Up (arrOf st') a₀.size
 have fin1:∀ st',F0 a₀ st'->Up (arrOf st') a₀.size->Dn1 (setPending st' ((pendingOf st').push (0,a₀.size,0))):=fun st' b u =>
  ⟨b.perm,b.failed,by show(pendingOf st').push _=_; rw [b.pend]; rfl,u⟩
 refine A8 (wpS_mono (T9
  (I:=fun x c st'=>(x=0/\c=(none,0)/\st'=st)\/(1<=x/\c=(none,a₀.size)/\Dn1 st'))
  (Q:=fun c st'=>c=(none,a₀.size)/\Dn1 st') ?turn ?fin (.inl ⟨rfl,rfl,rfl⟩)) ?post)
 case fin =>
  rintro c st' (⟨hx,_,_⟩ | ⟨_,hc,hD⟩)
  ·omega
  ·exact⟨hc,hD⟩
 case turn =>
  rintro x c st' _ hx (⟨rfl,rfl,rfl⟩ | ⟨hx1,rfl,hD⟩)
  ·dsimp only
   rw [if_neg (by omega)]
   simp only [ag2,Nat.min_self,U1]
   refine A8 (ID h0 (i6 _) (by omega) hB hl fun m st2 hB2 hm1 hm2 hu2 hl2=>?_)
   dsimp only;by_cases hlt:m < a₀.size
   ·rw [if_pos hlt]
    refine A8 (wpS_lift (Q8 ⟨rfl,?_⟩));refine A8 (MG h0 (i6 _) hm2 hm1 hB2 hu2 hl2 fun st3 hB3 hu3=>?_);simp only [Bool.not_true,E7,if_false]
    refine A8 (wpS_get ?_);have hb:(pendingOf st3).back? = none:=by rw [hB3.pend]; rfl
    rw [hb];dsimp only;exact A8 (wpS_modify (C6 (.inr ⟨by omega,rfl,fin1 _ hB3 hu3⟩)))
   ·rw [if_neg hlt]
    have hm:m=a₀.size:=by omega
    subst hm;refine A8 (wpS_get ?_);have hb:(pendingOf st2).back? = none:=by rw [hB2.pend]; rfl
    rw [hb];dsimp only;exact A8 (wpS_modify (C6 (.inr ⟨by omega,rfl,fin1 _ hB2 hu2⟩)))
  ·dsimp only
   rw [if_pos (i6 _)];exact C6 ⟨rfl,hD⟩
 case post =>
  rintro c st' ⟨rfl,hD⟩;dsimp only;refine A8 (wpS_mono (T9 (I:=fun _ c st''=>st''=st'/\c=(none,())) (Q:=fun c st''=>st''=st'/\c=(none,())) ?_ (fun _ _ hh=>hh) ⟨rfl,rfl⟩) ?_)
  ·rintro x c st'' _ _ ⟨rfl,rfl⟩
   refine A8 (wpS_get ?_);rw [if_pos (by rw [hD.2.2.1]; exact i6 1)]
   exact C6 ⟨rfl,rfl⟩
  ·rintro c st'' ⟨rfl,rfl⟩
   exact C6 (h _ hD.1 hD.2.1 hD.2.2.2)
end
end
open SS (Sorted pN But)
def PlY (vs:List g7)(ps:List Nat):Prop:=vs.length=ps.length/\∀(i:Nat) v,vs[i]? = some v->∃ t,v = .int ((ps.getD i 0:Nat):Int) t
def jR (ps:List Nat):g7->Int:=fun v=>((ps.idxOf (numOf v).toNat:Nat):Int)
section
variable {keys:Array g7} {vs:List g7} {ps:List Nat} {key:Nat→Int} {xs:Array A6}
theorem wG(hk:G3 keys.toList ((x6 ps.length).map key))(hv:PlY vs ps){i:Nat}(hi:i < ps.length) :
  ∃ t u,(keys.zip vs.toArray)[i]? = some (.int (key i) t,.int ((ps.getD i 0:Nat):Int) u):=by
 have hl:keys.size=ps.length:=by have q:=hk.length; simpa using q
 obtain⟨x,h1⟩:∃ x,vs[i]? = some x:=⟨_,i5 (by rw [hv.1]; exact hi)⟩
 obtain⟨u,hu⟩:=hv.2 i _ h1;obtain⟨y,h2⟩:∃ y,keys.toList[i]? = some y:=⟨_,i5 (by simpa [hl] using hi)⟩
 obtain⟨m,t,hm⟩:=hk.all y (C5 h2);have h3:(keys.toList.map numOf)[i]? = some (key i):=by
  rw [hk.nums,o0,ah6 hi]; rfl
 rw [o0,h2,hm] at h3;have h4:m=key i:=by simpa [numOf] using h3
 refine⟨t,u,?_⟩;rw [<- Q5,ksk_zip,List.getElem?_zip_eq_some];exact⟨by rw [h2,hm,h4],by rw [h1,hu]⟩
theorem jK(hk:G3 keys.toList ((x6 ps.length).map key))(hv:PlY vs ps):(keys.zip vs.toArray).size=ps.length:=by
 have hl:keys.size=ps.length:=by have q:=hk.length; simpa using q
 rw [Array.size_zip,hl,l9,hv.1,Nat.min_self]
theorem xc(nd:ps.Nodup){i:Nat}(hi:i < ps.length)(u:Tok):jR ps (.int ((ps.getD i 0:Nat):Int) u)=i:=by
 unfold jR;have e:(numOf (.int ((ps.getD i 0:Nat):Int) u)).toNat=ps[i]:=by rw [pN,J9,A4,i5 hi]; rfl
 rw [e,nd.idxOf_getElem]
theorem PH(nd:ps.Nodup)(hk:G3 keys.toList ((x6 ps.length).map key))(hv:PlY vs ps):@Left ⟨jR ps⟩ (keys.zip vs.toArray) 0:=by
 letI:Lab:=⟨jR ps⟩
 refine⟨fun i _ h2=>?_,fun i h1 _=>by omega⟩
 rw [jK hk hv] at h2;obtain⟨t,u,e⟩:=wG hk hv h2;unfold K2;rw [e];exact xc nd h2 u
theorem Hs(hk:G3 keys.toList ((x6 ps.length).map key))(hv:PlY vs ps){p:A6}(hp:p∈(keys.zip vs.toArray).toList) :
  ∃(i:Nat) (t u:Tok),i < ps.length/\p=(.int (key i) t,.int ((ps.getD i 0:Nat):Int) u):=by
 obtain⟨i,hi,e⟩:=af7.mp hp;have hi':i < ps.length:=by rw [J7,jK hk hv] at hi; exact hi
 obtain⟨t,u,q⟩:=wG hk hv hi';rw [<- Q5,i5 hi,e] at q;exact⟨i,t,u,hi',B1 q⟩
def Ix (ps:List Nat)(xs:Array A6):List Nat:=xs.toList.map fun q=>ps.idxOf (numOf q.2).toNat
theorem DH(nd:ps.Nodup)(hk:G3 keys.toList ((x6 ps.length).map key))(hv:PlY vs ps)(hp:xs.Perm (keys.zip vs.toArray))(hu:@Up ⟨jR ps⟩ xs xs.size) :
  Sorted key ps.length (Ix ps xs)/\G3 (xs.map (·.2)).toList ((Ix ps xs).map fun i:Nat=>((ps.getD i 0:Nat):Int)):=by
 letI:Lab:=⟨jR ps⟩
 have hl:xs.toList.Perm (keys.zip vs.toArray).toList:=Array.perm_iff_toList_perm.mp hp;have hm:∀ p∈xs.toList,∃(i:Nat) (t u:Tok),i < ps.length/\p=(.int (key i) t,.int ((ps.getD i 0:Nat):Int) u):=fun p h=>Hs hk hv (hl.mem_iff.mp h);have ix:∀ {i:Nat} (u:Tok),i < ps.length->ps.idxOf (numOf (.int ((ps.getD i 0:Nat):Int) u)).toNat=i:=fun {i} u hi=>by
  have:=xc nd hi u;unfold jR at this;omega
 refine⟨⟨?_,?_⟩,?_⟩
 ·have e:((keys.zip vs.toArray).toList.map fun q=>ps.idxOf (numOf q.2).toNat)=x6 ps.length:=by
   refine ao9 fun i=>?_;rw [o0,Q5];by_cases hi:i < ps.length
   ·obtain⟨t,u,q⟩:=wG hk hv hi
    rw [q,ah6 hi];exact congrArg some (ix u hi)
   ·rw [Array.getElem?_eq_none (by rw [jK hk hv]; omega),X6 (by simp; omega)]
    rfl
  rw [<- e];exact hl.map _
 ·intro i j p q hij hi hj
  unfold Ix at hi hj;rw [o0,Q5] at hi hj;cases ei:xs[i]? with
  | none=>rw [ei] at hi; cases hi
  | some a =>
   cases ej:xs[j]? with
   | none=>rw [ej] at hj; cases hj
   | some b =>
    rw [ei] at hi;rw [ej] at hj;have hjs:j < xs.size:=(ag9.mp ej).1;have q1:=hu i j hij hjs;obtain⟨x,t,u,hx,rfl⟩:=hm a (by rw [Z4]; exact ap0 ei)
    obtain⟨y,t',u',hy,rfl⟩:=hm b (by rw [Z4]; exact ap0 ej)
    have ex:x=p:=(ix u hx).symm.trans (B1 hi);have ey:y=q:=(ix u' hy).symm.trans (B1 hj);unfold K K2 at q1;rw [ei,ej] at q1;have q2:key x < key y\/(key x=key y/\jR ps (G0 ((ps.getD x 0:Nat):Int) u) < jR ps (G0 ((ps.getD y 0:Nat):Int) u')):=q1;rw [xc nd hx u,xc nd hy u'] at q2;rw [<- ex,<- ey];omega
 ·have e1:(xs.map (·.2)).toList=xs.toList.map (·.2):=by simp
  have e2:(Ix ps xs).map (fun i:Nat=>((ps.getD i 0:Nat):Int))=(xs.toList.map (·.2)).map numOf:=by
   unfold Ix;rw [A7,A7];refine K3 fun p hpm=>?_;obtain⟨i,t,u,hi,rfl⟩:=hm p hpm;show((ps.getD (ps.idxOf (numOf (G0 ((ps.getD i 0:Nat):Int) u)).toNat) 0:Nat):Int)=numOf (G0 ((ps.getD i 0:Nat):Int) u);rw [ix u hi,pN]
  rw [e1,e2];refine intsAre_map _ fun v hvm=>?_;obtain⟨p,hpm,rfl⟩:=w8.mp hvm;obtain⟨i,t,u,_,rfl⟩:=hm p hpm;exact⟨_,zQa⟩
end
section
variable {prog:i8} {w:i7} {A:j0} {E:g7→g8→Prop} {s:g8} {a f:Addr} {vs:List g7} {ps:List Nat} {e0:Nat} {key:Nat→Int} {P:PySem.Fin→g8→Prop}
theorem Hi (nd : ps.Nodup) (ho : s.heap.get? a = some (seqObj "list" vs.toArray e0)) (hv : PlY vs ps) (h64 : ps.length < 64)
    (turn:∀(i:Nat) (t:Tok) (h:Heap) (tk:Nat),i < ps.length->But a s.heap h ->
      wpAny (model prog w) A (call (.ref f) [.int ((ps.getD i 0:Nat):Int) t]) (fun v s₂ => ∃ h' tk' t',s₂ = { s with heap:=h',toks:=tk' }/\v = .int (key i) t'/\∀ b o,h.get? b=some o->h'.get? b=some o) (fun _ _=>False) { s with heap:=h,toks:=tk })
    (fin:∀(h':Heap) (tk:Nat) (qs:List Nat) (out:Array g7) (c:Nat),But a s.heap h'->h'.get? a=some (seqObj "list" out c)->G3 out.toList (qs.map fun i:Nat=>((ps.getD i 0:Nat):Int))->Sorted key ps.length qs ->
      P (.done (.ret .none)) { s with heap:=h',toks:=tk }) :
    wpAny (model prog w) A (ksk_tree a (.ref f) false) P E s:=by
  have hlen:=hv.1;have hz:vs.length<=sizeLine:=by rw [J8]; omega
  obtain⟨e1,ho1⟩:∃ e1,(s.heap.update a (A3 fun _=>(#[]:Array g7))).get? a=some (seqObj "list" #[] e1):=⟨_,ah7 ho fun _ => #[]⟩;have b1:But a s.heap (s.heap.update a (A3 fun _=>(#[]:Array g7))):=fun b o hb e=>(G8 _ _ (w9 hb)).trans e;have ha:a < s.heap.objs.size:=j5 ho;unfold ksk_tree;refine g9 (listItems_at ho rfl ?_);refine g9 (ac0 ho rfl ?_ (by rw [l9]; exact hz) (x5 _))
  refine g9 (seqEpoch_at ho1 rfl ?_);refine g9 (wpAny_newTuple ?_ (by show vs.length<=_; exact hz))
  refine g9 (wpAny_newList ?_ (x5 _));refine M0 ?_;show wpAny _ _ (ksk_rest a (.ref f) false vs.toArray e1 (.ref ((s.heap.update a (A3 fun _=>(#[]:Array g7))).push (seqObj "tuple" vs.toArray 0)).objs.size)) _ _ { s with heap:=((s.heap.update a (A3 fun _=>(#[]:Array g7))).push (seqObj "tuple" vs.toArray 0)).push (seqObj "list" #[] 0) }
  generalize hH:(s.heap.update a (A3 fun _=>(#[]:Array g7))).push (seqObj "tuple" vs.toArray 0)=H;have hHs:s.heap.objs.size < H.objs.size:=by rw [<- hH,size_push',Heap.size_update]; exact P9 _
  have b2:But a s.heap (H.push (seqObj "list" #[] 0)):=fun b o hb e=>l7 _ (by rw [<- hH]; exact l7 _ (b1 b o hb e))
  have a2:(H.push (seqObj "list" #[] 0)).get? a=some (seqObj "list" #[] e1):=l7 _ (by rw [<- hH]; exact l7 _ ho1)
  have k2:(H.push (seqObj "list" #[] 0)).get? H.objs.size=some (seqObj "list" #[] 0):=y6 _ rfl;have hka:H.objs.size≠a:=fun e=>by rw [e] at hHs; exact B6 _ (aa6 ha hHs)
  have kNew:∀ b o,s.heap.get? b=some o->b≠H.objs.size:=fun b o e z=>by have:=j5 e; rw [z] at this; exact B6 _ (aa6 this hHs)
  unfold ksk_rest;refine g9 (Q8 ?_)
  first
    | rw [List.forIn_toArray]
    | (rw [<- Array.forIn_toList]; simp only [List.toList_toArray])
  refine g9 (ksk_fold (fun i s' => ∃ h' tk kA e,s' = { s with heap:=h',toks:=tk }/\But a s.heap h'/\h'.get? a=some (seqObj "list" #[] e1)/\h'.get? H.objs.size=some (seqObj "list" kA e)/\G3 kA.toList ((x6 i).map key)/\i<=ps.length) vs 0 _
    ⟨_,s.toks,#[],0,rfl,b2,a2,k2,by simpa using G3.nil,x5 _⟩ ?step ?done)
  case step =>
    rintro j x s' hx ⟨h',tk,kA,e,rfl,b3,a3,k3,hk,_⟩;simp only [U1] at hk ⊢
    have hj:j < ps.length:=by have:=(r9.mp hx).1; omega
    obtain⟨t,rfl⟩:=hv.2 j x hx;have hkz:kA.size<=ps.length:=by have q:=hk.length; simp at q; omega
    refine g9 (W8 (C8 (turn j t h' tk hj b3) (fun v s'' he=>?_) fun _ _ hF=>hF.elim));obtain⟨g,tk2,t2,rfl,rfl,kp⟩:=he
    try dsimp only
    have a4:=kp _ _ a3;have k4:=kp _ _ k3;obtain⟨c2,hc2⟩:∃ c2,(g.update H.objs.size (A3 (·.push (.int (key j) t2)))).get? H.objs.size=some (seqObj "list" (kA.push (.int (key j) t2)) c2):=⟨_,ah7 k4 (·.push (.int (key j) t2))⟩
    refine g9 (ac0 k4 rfl ?_ (by rw [J8]; omega) (B8 (V8 (Array.size_push ..)) (by rw [J8]; omega)))
    refine j8 ⟨rfl,_,_,kA.push (.int (key j) t2),c2,rfl,fun b o hb q=>?_,?_,hc2,?_,by omega⟩
    · exact(G8 _ _ (w9 (kNew b o q))).trans (kp _ _ (b3 b o hb q))
    · exact(G8 _ _ hka).trans a4
    · have ea:(kA.push (G0 (key j) t2)).toList=kA.toList ++ [G0 (key j) t2]:=by simp
      rw [ea,T7,j6];exact ksk_snoc hk
  case done =>
    rintro s' ⟨h',tk,kA,e,rfl,b3,a3,k3,hk,_⟩;have en:0 + vs.length=ps.length:=by omega
    rw [en] at hk
    try dsimp only
    refine g9 (listItems_at k3 rfl ?_);have hks:kA.size=ps.length:=by have q:=hk.length; simpa using q
    have hps:=jK hk hv;have last:∀ st:F6,(arrOf st).Perm (kA.zip vs.toArray)→failedOf st=none→@Up ⟨jR ps⟩ (arrOf st) (arrOf st).size →
        wpAny (model prog w) A (ksk_tail a false e1 (.ref H.objs.size) st) P E { s with heap:=h',toks:=tk }:=by
      intro st hp hfl hu;obtain⟨so,io⟩:=DH nd hk hv hp hu;have hos:((arrOf st).map (·.2)).size=ps.length:=by rw [Array.size_map,hp.size_eq,hps]
      have a5:(h'.update H.objs.size (A3 fun _=>(#[]:Array g7))).get? a=some (seqObj "list" #[] e1):=(G8 _ _ hka).trans a3;obtain⟨c2,hc2⟩:∃ c2,((h'.update H.objs.size (A3 fun _=>(#[]:Array g7))).update a (A3 fun _=>(arrOf st).map (·.2))).get? a=some (seqObj "list" ((arrOf st).map (·.2)) c2):=⟨_,ah7 a5 fun _=>(arrOf st).map (·.2)⟩
      unfold ksk_tail;simp only [E7,if_false]
      refine g9 (ac0 k3 rfl ?_ (by rw [hks,J8]; omega) (x5 _))
      refine g9 (wpAny_letGo ?_);refine g9 (seqEpoch_at a5 rfl ?_);refine g9 (ac0 a5 rfl ?_ (x5 _) (B8 (V8 hos) (by rw [J8]; omega)))
      rw [hfl];simp only [bne_self_eq_false,E7,if_false]
      refine j8 (fin _ _ _ _ c2 (fun b o hb q=>?_) hc2 io so);exact(G8 _ _ (w9 hb)).trans ((G8 _ _ (w9 (kNew b o q))).trans (b3 b o hb q))
    unfold ksk_end;simp only [E7,if_false]
    by_cases hsm:vs.toArray.size < 2
    · rw [if_pos hsm,if_pos hsm]
      refine g9 (j8 ?_);rw [StateT.run_pure];refine g9 (j8 ?_)
      try dsimp only
      refine last (SortSt.mk' general' (kA.zip vs.toArray) #[] 7 none) (ap1 _) rfl ?_;intro i j hij hj;have hj2:j < (kA.zip vs.toArray).size:=hj;rw [hps] at hj2;rw [l9] at hsm;omega
    · rw [if_neg hsm,if_neg hsm]
      rw [l9] at hsm;rw [ksk_kind hk (by rw [hks]; omega)]
      refine g9 (j8 ?_);refine g9 (C8 (@Jg ⟨jR ps⟩ _ _ _ _ _ (kA.zip vs.toArray) (SortSt.mk' oneType' (kA.zip vs.toArray) #[] 7 none)
        (fun _ st'=>(arrOf st').Perm (kA.zip vs.toArray)/\failedOf st'=none/\@Up ⟨jR ps⟩ (arrOf st') (kA.zip vs.toArray).size)
        (ksk_intKeys hk) ⟨ap1 _,rfl,rfl,rfl⟩ (by rw [hps]; omega) (by rw [hps]; exact h64) (PH nd hk hv) fun st' q1 q2 q3=>⟨q1,q2,q3⟩) ?_ fun _ _ e=>e)
      rintro⟨⟨⟩,st'⟩ s' ⟨rfl,hp,hf,hu⟩
      try dsimp only
      exact last st' hp hf (by rw [hp.size_eq]; exact hu)
theorem sorted_lst{l f:Addr}{vs:List g7}{ps:List Nat}{key:Nat->Int}{Q:g7->g8->Prop}(nd:ps.Nodup)(hh:A.handled=none)(hl:s.heap.IsList l vs.toArray)(hv:PlY vs ps)(h64:ps.length < 64)
  (turn:∀(i:Nat) (t:Tok) (h:Heap) (tk:Nat),i < ps.length->(∀ b o,s.heap.get? b=some o->h.get? b=some o) ->
   wpAny (model prog w) A.in1.in1 (call (.ref f) [.int ((ps.getD i 0:Nat):Int) t]) (fun v s₂ => ∃ h' tk' t',s₂ = { s with heap:=h',toks:=tk' }/\v = .int (key i) t'/\∀ b o,h.get? b=some o->h'.get? b=some o) (fun _ _=>False) { s with heap:=h,toks:=tk })
  (fin:∀(D:Addr) (h':Heap) (tk:Nat) (qs:List Nat) (out:Array g7) (c:Nat),(∀ b o,s.heap.get? b=some o->h'.get? b=some o)->s.heap.get? D=none->h'.get? D=some (seqObj "list" out c)->G3 out.toList (qs.map fun i:Nat=>((ps.getD i 0:Nat):Int))->Sorted key ps.length qs ->
   Q (.ref D) { s with heap:=h',toks:=tk }) :
  wpAny (model prog w) A (call (.builtin "sorted") [.ref l] [(u5 "key",.ref f)]) Q E s:=by
 refine call_function_entry_kw kind_sorted plain_sorted entry_sorted (ksk_s1 _ _) ?_;unfold B4.«sorted»;refine g9 (m:=checkCount "sorted" 1 1 _) (j8 ?_);have hz:vs.length<=sizeLine:=by rw [J8,hv.1]; omega
 refine g9 (collect_list hl ?_ hz);refine g9 (wpAny_newList ?_ hz);have hsz:((s.heap.push (seqObj "list" #[] 0)).update s.heap.objs.size (A3 (· ++ vs.toArray))).objs.size=s.heap.objs.size + 1:=by
  rw [Heap.size_update,size_push']
 have hoL:(((s.heap.push (seqObj "list" #[] 0)).update s.heap.objs.size (A3 (· ++ vs.toArray))).push (seqObj "list" vs.toArray 0)).get? (s.heap.objs.size + 1)=some (seqObj "list" vs.toArray 0):=by
  rw [<- hsz]; exact y6 _ rfl
 have keep:∀ b o,s.heap.get? b=some o->(((s.heap.push (seqObj "list" #[] 0)).update s.heap.objs.size (A3 (· ++ vs.toArray))).push (seqObj "list" vs.toArray 0)).get? b=some o:=fun b o q=>by
  have hlt:b < s.heap.objs.size:=j5 q;rw [ap2 _ _ _ (by rw [hsz]; exact w6 (T8 hlt)),Heap.get?_update_ne _ _ _ _ (w6 hlt),ap2 _ _ _ (w6 hlt)]
  exact q
 have sz1:s.heap.get? (s.heap.objs.size + 1)=none:=by
  cases q:s.heap.get? (s.heap.objs.size + 1) with
  | none=>rfl
  | some o=>exact absurd (j5 q) (Q7.mpr (E6 _))
 show wpAny _ _ _ _ _ { s with heap:=((s.heap.push (seqObj "list" #[] 0)).update s.heap.objs.size (A3 (· ++ vs.toArray))).push (seqObj "list" vs.toArray 0) }
 rw [hsz];refine g9 (M0 (wpAny_call_entry_kw slot_list_sort ⟨_,hoL,rfl⟩ entry_list_sort ?body (ksk_l1 _ _)));show wpAny (model prog w) A.in1.in1 (B4.«list.sort» ⟨[.ref (s.heap.objs.size + 1)],[(u5 "key",.ref f)]⟩) _ _ _;rw [ksk_t1];refine Hi (s:={ s with heap:=((s.heap.push (seqObj "list" #[] 0)).update s.heap.objs.size (A3 (· ++ vs.toArray))).push (seqObj "list" vs.toArray 0) }) nd hoL hv h64 (fun i t h tk hi hb=>?_) fun h' tk qs out c hb ho io so=>⟨zQa,j8 ⟨zQa,fin _ h' tk qs out c (fun b o e=>?_) sz1 ho io so⟩⟩
 ·exact turn i t h tk hi fun b o e=>hb b o (fun z=>by rw [z,sz1] at e; cases e) (keep b o e)
 ·exact hb b o (fun z=>by rw [z,sz1] at e; cases e) (keep b o e)
end
end SL
namespace L2
open PySem PySem.Spec PyProof.Rows
theorem wo{prog:i8}{w:i7}{A:j0}{E:g7->g8->Prop}{s:g8}{value slice:Expr}{l:Addr}{items:Array g7}{k:Int}{u:Tok}{x:g7}{Q:g7->g8->Prop}(hl:K5 s.heap l items)
  (h0:0<=k) (hfit:k < 2 ^ 63) (hx:items[k.toNat]? = some x) (h:Q x s)
  (hs:subscripted slice false (.ref l) (.int k u)=operate [.ref l,.int k u] (getItem (.ref l) (.int k u)):=by with_unfolding_all rfl) :
  wpAny (model prog w) A (subscriptTail value slice (.ref l) (.int k u)) Q E s :=
 ae9 hl.typeIs am4.lookup (getItem_tuple (j:=k.toNat) (Q:=fun r s'=>r=x/\Q r s') hl (by omega) hfit (aa0 h0 (by have:=(ag9.mp hx).1; omega)) hx ⟨rfl,h⟩) hs
section
variable {X:Cx} {pins:List (Addr×Obj)} {σ:St} {H:Hp} {s:g8} {P c:Addr} {lp:Pos} {la:M7} {lsc:j9}
theorem Dv{A:j0}{f a r:Addr}{cl:List (Str×Addr)}{pm cd ct:g7}{lq rn pn:Str}{rp pp sp sp2 cp:Pos}{j:_}{its tps:List g7}{h:Heap}{tk:Nat}{i:Nat}{t t0:Tok}{k:Int}{c0:Addr}(hroom:A.depth < recursionLimit)
  (hf:h.get? f=some { cls:=.type "function",data:=.func (X4 "<lambda>" lq la (.Subscript (.Subscript (.Name rn rp) (.Name pn pp) sp) (.Constant (.int 0) j cp) sp2) lsc cl pm cd ct) }) (hrec:h.CodeRec cd lq) (hlim:h.NoLimit)
  (hkind:lsc.kind = .function) (hco:lsc.isCoroutine=false) (hgen:lsc.isGenerator=false) (nocell:∀ y∈lsc.names,y.2≠.cell) (hpn:lsc.names.lookup pn=some .local) (hrn:lsc.names.lookup rn=some .free)
  (hd1:(rn == ("__debug__" : Str))=false) (hd2:(pn == ("__debug__" : Str))=false) (hd3:(rn == ("__classdict__" : Str))=false)
  (hbind:∀ v:g7,bindArgs (X4 "<lambda>" lq la (.Subscript (.Subscript (.Name rn rp) (.Name pn pp) sp) (.Constant (.int 0) j cp) sp2) lsc cl pm cd ct) ⟨[v],[]⟩=pure [(pn,v)])
  (hc0:cl.lookup rn=some c0) (hcell:h.IsCell c0 (some (.ref a))) (hl:h.IsList a its.toArray\/K5 h a its.toArray) (hit:its[i]? = some (.ref r)) (hz:its.length<=1000) (ht:K5 h r tps.toArray) (h0:tps[0]? = some (.int k t0)) (hz2:tps.length<=1000) :
  wpAny (model X.prog X.w) A (call (.ref f) [.int (i:Int) t]) (fun v s₂ => ∃ h' tk' t',s₂ = { s with heap:=h',toks:=tk' }/\v = .int k t'/\∀ b o,h.get? b=some o->h'.get? b=some o) (fun _ _=>False) { s with heap:=h,toks:=tk }:=by
 have hil:=(r9.mp hit).1;refine V9 (PySem.W.kla_callFunE (s:={ s with heap:=h,toks:=tk }) hroom hf rfl hco hgen rfl hrec ((BindsTo.of_eq (hbind _)) _ _ _ _ ?_))
 refine wpAny_newFunctionEnv nocell (fun y hy=>by rw [A5.mp hy]; exact hpn) (fun h2 hns hsb=>⟨?_,PySem.W.kla_codeExpr ?_⟩) hkind
 ·exact hlim.keeps fun b o e=>hsb.extBut b o (w6 (j5 e)) (l7 _ e)
 ·have kp:∀ b o,h.get? b=some o->h2.get? b=some o:=fun b o e=>hsb.extBut b o (w6 (j5 e)) (l7 _ e)
  obtain⟨oc,hoc,hdc⟩:=hcell;have ht2:K5 h2 r tps.toArray:=by
   obtain⟨n,e,q⟩:=ht;exact⟨n,kp _ _ e,q⟩
  refine W2 (W2 (V6 (wpAny_loadName_free hkind hrn hc0 ⟨oc,kp _ _ hoc,hdc⟩ ?_ hd3) hd1));refine V6 (wpAny_loadName_local (v:=.int (i:Int) t) hkind hpn hns (by simp [F5]) ?_) hd2
  have last:∀(A':j0) (en:Env) (tk:Nat) (Q:g7->g8->Prop) (E:g7->g8->Prop),(∀ tk',Q (.int k t0) { s with heap:=h2,toks:=tk' })->wpAny (model X.prog X.w) A' (eval (.Constant (.int 0) j cp) en) (fun u s'=>wpAny (model X.prog X.w) A' (subscriptTail (.Subscript (.Name rn rp) (.Name pn pp) sp) (.Constant (.int 0) j cp) (.ref r) u) Q E s') E { s with heap:=h2,toks:=tk }:=fun A' en tk Q E q=>by
   refine wpAny_Constant_int ?_;exact wo (s:={ s with heap:=h2,toks:=tk + 1 }) ht2 (by decide) (by decide) (by simpa using h0) (q _) rfl
  rcases hl with hl | hl
  ·have hl2:h2.IsList a its.toArray:=hl.at fun o e=>kp _ o e
   exact item_listR hl2 (by omega) (by omega) (by simpa using hit) (last _ _ _ _ _ fun tk'=>⟨zQc,kp⟩) rfl
  ·have hl2:K5 h2 a its.toArray:=by
    obtain⟨n,e,q⟩:=hl;exact⟨n,kp _ _ e,q⟩
   exact wo hl2 (by omega) (by omega) (by simpa using hit) (last _ _ _ _ _ fun tk'=>⟨zQc,kp⟩) rfl
def MV (K:i3)(P:Addr)(lp:Pos)(lq:Str)(i:Nat)(σ:St)(Q:VK)(vs:List V)(H1:Hp):Prop :=
 ∃(l a:Addr) (ps:List Nat) (rs:List Addr) (key:Nat->Int),vs=[.ref l]/\SqL K H1 l (ps.map fun p:Nat=>V.int (p:Int))/\l≠P/\ps.length < 64/\ps.Pairwise (· < ·)/\Tb P lp lq H1/\σ[i]? = some (some (.ref a))/\(SqL K H1 a (rs.map V.ref)\/SqT K H1 a (rs.map V.ref))/\a≠P/\rs.length<=1000 /\
  (∀ p∈ps,∃ r more,rs[p]? = some r/\H1 r=some (.tup (.int (key p) :: more))/\more.length<=900) /\
  ∀(zs:List Nat) (H2:Hp) (l':Addr),zs.Perm ps->zs.Pairwise (fun p q=>key p < key q\/(key p=key q/\p < q))->(∀ b o,b≠P->H1 b=some o->H2 b=some o)->Tb P lp lq H2->H1 l'=none->H2 l'=some (.lst (zs.map fun p:Nat=>V.int (p:Int)))->Q (.ref l') H2
def MM (K:i3)(P:Addr)(lp:Pos)(lq:Str)(ta:TE)(i:Nat):TE:=fun σ H Q=>jP ta qQ σ H (MV K P lp lq i σ Q)
theorem Pw{key:Nat->Int}{ps qs:List Nat}(hp:ps.Pairwise (· < ·))(so:SS.Sorted (fun i=>key (ps.getD i 0)) ps.length qs):(qs.map fun i=>ps.getD i 0).Perm ps/\(qs.map fun i=>ps.getD i 0).Pairwise (fun p q=>key p < key q\/(key p=key q/\p < q)):=by
 have e:(x6 ps.length).map (fun i=>ps.getD i 0)=ps:=by
  refine List.ext_getElem (by simp) fun i h1 h2=>?_
  simp [A4,i5 h2]
 refine⟨by have:=so.perm.map (fun i=>ps.getD i 0); rw [e] at this; exact this,?_⟩
 rw [ah8,List.pairwise_iff_getElem];intro i j hi hj hij;have mem:∀ x∈qs,x < ps.length:=fun x hx=>I0.mp (so.perm.mem_iff.mp hx);have hx:=mem _ (E9 hi);have hy:=mem _ (E9 hj);rcases so.ord i j _ _ hij (i5 hi) (i5 hj) with h | ⟨h1,h2⟩
 ·exact .inl h
 ·refine .inr ⟨h1,?_⟩
  have:=List.pairwise_iff_getElem.mp hp _ _ hx hy h2
  simpa [A4,i5 hx,i5 hy] using this
theorem FL{ln:Str}{pl0:Pos}{ta:TE}{i:Nat}{rn pn:Str}{p pos kpos rp pp sp sp2 cp:Pos}{j:_}(hcode:X.env.code = .ref c)(hC:E3 X.base c P)(hbm:X.base.BuiltinsAt X.mg P)(B:Blk X.env.scope X.N lsc [pn] [i])(hdf:defaultsOf la X.env=([],[]))
  (hc:X.calm=true) (hr:Room 1 X.A) (hN:X.N[i]? = some rn) (hco:lsc.isCoroutine=false) (hgen:lsc.isGenerator=false) (hpn:lsc.names.lookup pn=some .local) (hd1:(rn == ("__debug__" : Str))=false) (hd2:(pn == ("__debug__" : Str))=false) (hd3:(rn == ("__classdict__" : Str))=false)
  (hbind:∀(cl:List (Str×Addr)) (pm cd ct v:g7),bindArgs (X4 "<lambda>" (X.env.qual ++ "<lambda>") la (.Subscript (.Subscript (.Name rn rp) (.Name pn pp) sp) (.Constant (.int 0) j cp) sp2) lsc cl pm cd ct) ⟨[v],[]⟩=pure [(pn,v)])
  (g1:Gl X "sorted") (m1:X.mg "sorted"=none) (ha:PE X (.Name ln pl0) ta) :
  PE X (.Call (.Name "sorted" p) [.Name ln pl0] [⟨some "key",.Lambda la (.Subscript (.Subscript (.Name rn rp) (.Name pn pp) sp) (.Constant (.int 0) j cp) sp2) lsc lp,kpos⟩] pos) (MM X.K P lp (X.env.qual ++ "<lambda>") ta i):=by
 intro pins s σ H Q I h;refine G6 (dE I g1 m1 PyProof.Rows.boot_sorted ?_);have pA:PA X [.Name ln pl0] (jP ta qQ):=aa ha ae;refine callWith_kw (thn (pA pos pins s σ H _ I h) fun us s1 q1=>?_);obtain⟨vs,H1,I1,r1,l,a',ps,rs,key,rfl,hl,hlP,h64,hps,tb,hσ,hq,haP,hrs,hk,q⟩:=q1;obtain⟨ur,rfl,hur⟩:=iy r1;cases (show ur=j7 l from hur)
 show wpAny _ _ (evalAll [do let v <- eval (.Lambda la (.Subscript (.Subscript (.Name rn rp) (.Name pn pp) sp) (.Constant (.int 0) j cp) sp2) lsc lp) X.env; standAt pos; pure v]) _ _ s1
 refine wpAny_evalAll_cons (g9 (vo hcode hC hbm (fun y hy e=>B.free y hy e) hdf I1 tb fun f cl cd ct H2 s2 I2 _ ef ec c1 c2 kH tb2=>g9 (Y9 (j8 ?_))));have hf:=(I2.hok f _ ef).1;have hrec:=(I2.hok cd _ ec).1;refine wpAny_evalAll_nil ?_;show wpAny _ _ (call (.builtin "sorted") [.ref l] [(u5 "key",.ref f)]) _ _ s2;have sqL:∀ {b:Addr} {xs:List V},b≠P->SqL X.K H1 b xs->SqL X.K H2 b xs:=fun n h=>by
  rcases h with (e | ⟨o,e⟩) | e
  ·exact .inl (.inl (kH _ _ n e))
  ·exact .inl (.inr ⟨o,kH _ _ n e⟩)
  ·exact .inr e
 have sqT:∀ {b:Addr} {xs:List V},b≠P->SqT X.K H1 b xs->SqT X.K H2 b xs:=fun n h=>by
  rcases h with (e | ⟨o,e⟩) | e
  ·exact .inl (.inl (kH _ _ n e))
  ·exact .inl (.inr ⟨o,kH _ _ n e⟩)
  ·exact .inr e
 have hrn:lsc.names.lookup rn=some .free:=by
  have e:=B.capf i (A5.mpr rfl);rw [A4,hN] at e;exact e
 have hrm:=mem_of_lookup hrn;obtain⟨c0,hc0⟩:=c2 rn hrm;have vis:=B.free (rn,.free) hrm rfl;have hcell:s2.heap.IsCell c0 (some (.ref a')):=by
  obtain⟨m,_,hl⟩:=I2.loc;obtain⟨u,ru,lk⟩:=hl i rn _ hN hσ (.inr vis);cases (show u=j7 a' from ru)
  rcases lk with ⟨z,_⟩ | ⟨_,d,ed,ic⟩
  ·have z':X.env.scope.names.lookup rn=some .local:=z
   rcases vis with v | v <;> (rw [z'] at v; cases v)
  ·have e:=c1 rn c0 hc0
   rw [ed] at e;cases e;exact ic
 obtain⟨vl,rvl,pll,_⟩:=I2.list (sqL hlP hl);have hpl:SL.PlY vl ps:=by
  have e:=rvl.length;rw [i4] at e;refine⟨e.symm,fun n v hv=>?_⟩;have hn:n < ps.length:=by have:=(r9.mp hv).1; omega
  obtain⟨w,ew,rw'⟩:=rvl.get (i:=n) (x:=V.int ((ps.getD n 0:Nat):Int)) (by rw [o0,i5 hn,A4,i5 hn]; rfl)
  rw [hv] at ew;cases ew;exact rw'
 obtain⟨its,rv,hseq,hlenI⟩:∃ its:List g7,aU (rs.map V.ref) its/\(s2.heap.IsList a' its.toArray\/K5 s2.heap a' its.toArray)/\its.length=rs.length:=by
  rcases hq with h | h
  ·obtain⟨its,rv,pl,_⟩:=I2.list (sqL haP h)
   exact⟨its,rv,.inl pl.isList,by have:=rv.length; rw [i4] at this; exact this.symm⟩
  ·obtain⟨its,rv,pl,_⟩:=I2.tuple (sqT haP h)
   exact⟨its,rv,.inr pl,by have:=rv.length; rw [i4] at this; exact this.symm⟩
 refine SL.sorted_lst (key:=fun n=>key (ps.getD n 0)) (hps.imp fun h=>w6 h) (I.ok.hd hc) pll.isList hpl h64 (fun n t' g tk hn kp=>?_) fun D g tk qs out cc kp hn ho io so=>?_
 ·obtain⟨oc,hoc,hdc⟩:=hcell
  have hpn':ps.getD n 0∈ps:=by rw [A4,i5 hn]; exact E9 hn
  obtain⟨r,more,e1,e2,e3⟩:=hk _ hpn';have rP:r≠P:=fun z=>by obtain⟨_,hP,_⟩:=tb; rw [z,hP] at e2; cases e2
  obtain⟨w,ew,rw'⟩:=rv.get (x:=V.ref r) (i:=ps.getD n 0) (by rw [o0,e1]; rfl)
  cases (show w=j7 r from rw')
  obtain⟨tps,rt,pt,_⟩:=I2.tuple (SqT.of (K:=X.K) (kH r _ rP e2));obtain⟨w0,ew0,rw0⟩:=rt.get (i:=0) (x:=V.int (key (ps.getD n 0))) rfl;obtain⟨t0,rfl⟩:=(show ∃ t,w0=G0 (key (ps.getD n 0)) t from rw0)
  have lt:=rt.length;rw [x9] at lt;have hs2:s2.heap.IsList a' its.toArray\/K5 s2.heap a' its.toArray:=hseq;exact Dv (X:=X) (s:=s2) (A:=X.A.in1.in1) hr.depth (kp _ _ hf) (hrec.keeps kp) (I2.nolimit.keeps kp) B.kind hco hgen B.nocell hpn hrn hd1 hd2 hd3 (hbind cl _ (.ref cd) ct) hc0 ⟨oc,kp _ _ hoc,hdc⟩
   (hseq.imp (fun pl=>pl.at fun o e=>kp _ o e) fun⟨o,e,q⟩=>⟨o,kp _ _ e,q⟩) ew (by omega) (let ⟨o,e,q⟩:=pt; ⟨o,kp _ _ e,q⟩) ew0 (by omega)
 ·obtain⟨zp,zo⟩:=Pw (key:=key) hps so
  have hvs:aU ((qs.map fun i=>ps.getD i 0).map fun p:Nat=>V.int (p:Int)) out.toList:=by
   have e:=pi io;rw [A7] at e;rw [A7];exact e
  have hz:((qs.map fun i=>ps.getD i 0).map fun p:Nat=>V.int (p:Int)).length<=sizeLine:=by
   have e:=zp.length_eq;rw [i4,e];exact E5 (az (by omega))
  have hD2:H2 D=none:=I2.no hn;have I3:Inv X pins σ (upd H2 D (.lst ((qs.map fun i=>ps.getD i 0).map fun p:Nat=>V.int (p:Int)))) { s2 with heap:=g,toks:=tk } :=
   I2.gain kp hn ⟨hz,out.toList,cc,hvs,by simpa using ho⟩
  have nD:∀ b o,H2 b=some o->b≠D:=fun b o e z=>by rw [z,hD2] at e; cases e
  refine⟨.ref D,_,I3,rfl,q _ _ D zp zo (fun b o n' e=>?_) (tb2.at fun b o e=>by rw [am (nD b o e)]; exact e) ?_ af⟩
  ·have e2:=kH b o n' e
   rw [am (nD b o e2)]; exact e2
  ·cases z:H1 D with
   | none=>rfl
   | some o =>
    by_cases dp:D=P
    ·obtain⟨ps',hP,_⟩:=tb2
     rw [<- dp,hD2] at hP; cases hP
    ·have e2:=kH D o dp z
     rw [hD2] at e2; cases e2
end
end L2
namespace PySem
section
variable {prog:i8} {w:i7} {A:j0} {E:g7→g8→Prop} {s:g8} {it t:Addr} {i:Nat} {xs:Array g7} {Q:g7→g8→Prop}
theorem Kv{x:g7}(a1:s.heap.IsTupleIter it t i)(a2:s.heap.IsTuple t xs)(a3:xs[i]? = some x)(k:∀ h',h'.IsTupleIter it t (i + 1)->P7 it s.heap h'->Q x { s with heap:=h' }) :
  wpAny (model prog w) A (ac1 (.ref it)) Q E s:=by
 obtain⟨o1,g1,c1,d1⟩:=id a1;obtain⟨o2,g2,_,n2,d2⟩:=a2;unfold ac1; refine g9 (ab0 (name:=u5 "__next__") a1.typeIs ac2 (T6 ac2 a1.typeIs ap3 ?_ (ap4 _)));show wpAny _ _ (field (.ref it) 0 >>= _) _ _ s; refine g9 (L5 g1 d1 (x:=.ref t) rfl ?_);show wpAny _ _ (if (j7 t == E4)=true then _ else _) _ _ s; rw [if_neg (show ¬ ((j7 t == E4)=true) from y8)]
 show wpAny _ _ (field (.ref it) 1 >>= _) _ _ s; refine g9 (L5 g1 d1 (x:=.int i 0) rfl ?_);show wpAny _ _ (seqItems? (.ref t) >>= _) _ _ s; refine g9 (ab6 g2 d2 ?_);simp only [J9,a3]; refine g9 (W9 g1 d1 (by simp) (j8 ⟨x,rfl,j8 (k _ ?_ (X0 ..))⟩))
 exact⟨_,N5 _ g1 (aa5 (Q6 d1 _)),(Obj.cls_mapFields ..).trans c1,by rw [Q6 d1]; simp [rawInt]⟩
theorem Nu(hh:A.handled=none)(a1:s.heap.IsTupleIter it t i)(a2:s.heap.IsTuple t xs)(a3:xs[i]? = none)(k:∀ h' e,ab1 it s.heap h'->(∃ o,h'.get? e=some o/\o.cls = .type "StopIteration")->E (.ref e) { s with heap:=h' }) :
  wpAny (model prog w) A (ac1 (.ref it)) Q E s:=by
 obtain⟨o1,g1,c1,d1⟩:=id a1;obtain⟨o2,g2,_,n2,d2⟩:=a2;unfold ac1; refine g9 (ab0 (name:=u5 "__next__") a1.typeIs ac2 (T6 ac2 a1.typeIs ap3 ?_ (ap4 _)));show wpAny _ _ (field (.ref it) 0 >>= _) _ _ s; refine g9 (L5 g1 d1 (x:=.ref t) rfl ?_);show wpAny _ _ (if (j7 t == E4)=true then _ else _) _ _ s; rw [if_neg (show ¬ ((j7 t == E4)=true) from y8)]
 show wpAny _ _ (field (.ref it) 1 >>= _) _ _ s; refine g9 (L5 g1 d1 (x:=.int i 0) rfl ?_);show wpAny _ _ (seqItems? (.ref t) >>= _) _ _ s; refine g9 (ab6 g2 d2 ?_);simp only [J9,a3]; refine g9 (Q8 (g9 (W9 g1 d1 (by simp) ?_)))
 show wpAny _ _ (newExc (.type "StopIteration") [] >>= _) _ _ _; refine g9 ?_;simp only [newExc,newTuple]; refine g9 (T3 ?_ (x5 _))
 refine g9 (m:=firstArgMember _ _) (O2 (a:=E4) (by first | rfl | (simp only [firstArgMember]; rfl)) ?_); refine T3 ?_ (by size_fits)
 simp only [raiseNew]; refine g9 (wpAny_handled ?_)
 rw [show A.in1.handled=none from hh]; refine g9 (j8 (wpAny_throw ?_))
 exact k _ _ (((X0 ..).extBut.push _).push _) ⟨_,y6 _ rfl,rfl⟩
end
theorem Ic{prog:i8}{w:i7}{A:j0}(hh:A.handled=none)(it t:Addr)(hne:t≠it)(xs:Array g7) :
  Draws prog w A it [it,t] xs.size (fun i v=>xs[i]? = some v) (fun i h=>h.IsTupleIter it t i/\h.IsTuple t xs) where
 live:=fun _ _ st=>let ⟨o,ho,_⟩:=st.1; ⟨o,ho⟩
 frame:=fun _ _ _ st hk=>⟨st.1.at fun o e=>hk it (by simp) o e,let ⟨o,ho,r⟩:=st.2; ⟨o,hk t (by simp) o ho,r⟩⟩
 item:=fun i s Q E hi st hQ=>Kv st.1 st.2 (x:=xs[i]) (by simp [hi]) fun h' b1 b2=>hQ _ h' s.toks (by simp [hi]) ⟨b1,st.2.extBut b2.extBut hne⟩ b2
 done:=fun s Q E st hE=>Nu hh st.1 st.2 (by simp) hE
theorem NE(t:Addr)(xs:Array g7)(n:Nat)(dc:Option Addr)(sl:Array (Option g7)) :
  Meets (B4.«enumerate.__new__» ⟨[.type "enumerate",.ref t],[]⟩) (fun _ R s=>s.heap.get? t=some { cls:=.type "tuple",dict:=dc,data:=.seq xs n,slots:=sl } /\
   R (.ok (.ret (.ref (s.heap.push { cls:=.type "tuple_iterator",data:=.fields #[.ref t,.int 0 0] }).objs.size)))
    { s with heap:=(s.heap.push { cls:=.type "tuple_iterator",data:=.fields #[.ref t,.int 0 0] }).push { cls:=.type "enumerate",data:=.fields #[.none,.bool false,.ref s.heap.objs.size,rawInt 0,.none,.none] } }) :=
 .of_wp fun prog w A R s h=>by
  obtain⟨hp,g,d,tk,os⟩:=s; obtain⟨gt,fin⟩:=h;have sub:=sub_enumerate;have iT:Heap.IsTuple (g8.heap ⟨hp,g,d,tk,os⟩) t xs:=⟨_,gt,rfl,n,rfl⟩
  wp_walk using ac3 gt
  refine wpAny_stack_any fun st=>j8 ?_;split
  ·rename_i c _ _ _ _ _
   cases (c == C7 "enumerate")
   ·wp_walk using ac3 gt,R9 iT
    exact⟨zQa,fin⟩
   ·wp_walk using ac3 gt,R9 iT
    exact⟨zQa,fin⟩
  ·wp_walk using ac3 gt,R9 iT
   exact⟨zQa,fin⟩
section
variable {prog:i8} {w:i7} {A:j0} {E:g7→g8→Prop} {s:g8}
theorem Jq{t:Addr}{xs:Array g7}{Q:g7->g8->Prop}(hT:s.heap.IsTuple t xs)
  (h:∀ h',IsEnum h' (s.heap.objs.size + 1) s.heap.objs.size 0 .none->h'.IsTupleIter s.heap.objs.size t 0->(∀ b o,s.heap.get? b=some o->h'.get? b=some o)->Q (.ref (s.heap.objs.size + 1)) { s with heap:=h' }) :
  wpAny (model prog w) A (call (.type "enumerate") [.ref t]) Q E s:=by
 obtain⟨⟨c,dct,dt,sl⟩,gt,hc,n,hd⟩:=hT;simp only at hc hd
 subst hc hd;refine callType_new F.called_enumerate (by decide) (F.typeCall_enumerate_1 _) (F.newCall_enumerate_1 _) (fun obj=>ao0 obj _) F.entry_enumerate_new (NE t xs n dct sl) ⟨gt,?_⟩
 have z1:(s.heap.push { cls:=.type "tuple_iterator",data:=.fields #[.ref t,.int 0 0] }).objs.size=s.heap.objs.size + 1:=G1 ..;have e1:=y6 (s.heap.push { cls:=.type "tuple_iterator",data:=.fields #[.ref t,.int 0 0] }) (o:={ cls:=.type "enumerate",data:=.fields #[.none,.bool false,.ref s.heap.objs.size,rawInt 0,.none,.none] }) rfl;rw [z1] at e1;show _/\_;rw [z1];exact⟨⟨_,e1,rfl⟩,h _ e1 ⟨_,l7 _ (y6 _ rfl),rfl,rfl⟩ fun b o x=>l7 _ (l7 _ x)⟩
end
end PySem
namespace L2
open PySem PySem.W PySem.Spec PySem.Calls PyProof.Rows
def Qc (K:i3)(a:Addr)(xs:List V):It :=
 ⟨fun i H=>SqT K H a xs/\i < xs.length,
  fun i H v H' => ∃ T x,v = .ref T/\H T=none/\H'=upd H T (.tup [.int i,x])/\xs[i]? = some x,
  fun i H=>SqT K H a xs/\xs.length<=i⟩
theorem pF{h:Heap}{a:Addr}{its:List g7}(p:K5 h a its.toArray):h.IsTuple a its.toArray:=by
 obtain⟨o,e,c,n,d⟩:=p;exact⟨o,e,c,n,d⟩
theorem Bk{P:i8}{w:i7}{K:i3}{es:List Expr}{kk:Nat}{tp:Pos}{e it a:Addr}{xs:List V}(hne:e≠it) :
  Turn P w K (.Tuple es kk tp) (Qc K a xs) [e,it] e (fun i h=>i<=xs.length/\(∃ old,IsEnum h e it i old)/\h.IsTupleIter it a i) where
 mem:=by simp
 obj:=by
  rintro i h ⟨_,⟨old,e1⟩,e2⟩ c hc;simp only [l6,C1,or_false] at hc
  rcases hc with rfl | rfl
  ·exact⟨_,e1,fun v q=>by have q':Z0 _=Z1 v:=q; cases q'⟩
  ·obtain⟨o,q,c,d⟩:=e2
   exact⟨o,q,fun v z=>by rw [d] at z; cases z⟩
 keep:=by
  rintro i h h' ⟨hi,⟨old,e1⟩,e2⟩ k;exact⟨hi,⟨old,k e (by simp) _ e1⟩,e2.at fun o q=>k it (by simp) o q⟩
 item:=by
  intro X hP hw hK hc i pins s σ H E I hf st hg;subst hP hw hK;obtain⟨hx,hlt⟩:=hg;obtain⟨hi,⟨old,e1⟩,e2⟩:=st;obtain⟨its,rx,pt,_⟩:=I.tuple hx;have lx:=rx.length;have nta:a≠it:=fun z=>by
   obtain⟨o,q,c,d⟩:=e2;obtain⟨o',q',c',_⟩:=pF pt;rw [z,q] at q'; cases q'; rw [c] at c'; exact absurd (ah9 c') (by decide)
  have nea:e≠a:=fun z=>by
   obtain⟨o',q',c',_⟩:=pF pt;rw [<- z,e1] at q'; cases q'; exact absurd (ah9 c') (by decide)
  refine wpAny_pyNext_enum_itemD (Ic (show X.A.in1.handled=none from I.ok.hd hc) it a nta its.toArray) e1 ⟨e2,pF pt⟩ (by rw [l9]; omega) hne (by simp; exact⟨hne,nea⟩) fun x h1 tk px o1 i1 t1 _ kp=>?_
  obtain⟨v,ev⟩:∃ v,xs[i]? = some v:=⟨_,i5 hlt⟩;obtain⟨u,hu,ru⟩:=rx.get ev;have exu:x=u:=by
   have px':its[i]? = some x:=by simpa using px
   rw [hu] at px'; cases px'; rfl
  subst exu;refine⟨zQa,an1 (s:={ s with heap:=h1,toks:=tk + 1 }) o1 fun h2 z2 sb=>?_⟩
  have le:e < s.heap.objs.size:=j5 e1;have kp2:∀ b o,b ∉ [e,it]->s.heap.get? b=some o->h2.get? b=some o:=fun b o hb q=>by
   simp only [l6,C1,or_false,not_or] at hb
   exact sb.extBut _ _ hb.1 (kp b o hb.1 hb.2 q)
  have t2:=sb.extBut _ _ (M2 le) t1;have fT:H s.heap.objs.size=none:=I.hok.fresh (i6 _);have IN:Inv X pins σ (upd H s.heap.objs.size (.tup [.int i,v])) { s with heap:=h2,toks:=tk + 1 }:=I.turnedT (t':=tk + 1) (ch:=[e,it]) kp2 hf (i6 _)
   ⟨E5 (az (by show 2<=1000; decide)),[.int i tk,x],.cons ⟨zQa⟩ (.cons ru .nil),_,t2,rfl,zQa⟩
  refine⟨.ref s.heap.objs.size,_,IN,rfl,⟨_,v,rfl,fT,rfl,ev⟩,⟨hlt,⟨_,z2⟩,i1.1.extBut sb.extBut hne.symm⟩,fun b hb=>?_⟩;have hlt:b≠s.heap.objs.size:=by
   have ob:∃ o,s.heap.get? b=some o:=by
    simp only [l6,C1,or_false] at hb
    rcases hb with rfl | rfl
    ·exact⟨_,e1⟩
    ·obtain⟨o,q,_⟩:=e2; exact⟨o,q⟩
   obtain⟨o,q⟩:=ob;exact w6 (j5 q)
  rw [am hlt]; exact(hf b hb).1
 done:=by
  intro X hP hw hK hc i pins s σ H E I hf st hg;subst hP hw hK;obtain⟨hx,hle⟩:=hg;obtain⟨hi,⟨old,e1⟩,e2⟩:=st;obtain⟨its,rx,pt,_⟩:=I.tuple hx;have lx:=rx.length;have nta:a≠it:=fun z=>by
   obtain⟨o,q,c,d⟩:=e2;obtain⟨o',q',c',_⟩:=pF pt;rw [z,q] at q'; cases q'; rw [c] at c'; exact absurd (ah9 c') (by decide)
  have ei:i=its.toArray.size:=by rw [l9]; omega
  subst ei;exact wpAny_pyNext_enum_endD (Ic (show X.A.in1.handled=none from I.ok.hd hc) it a nta its.toArray) e1 ⟨e2,pF pt⟩ fun h' eb=>⟨rfl,I.turnedL (t':=s.toks) (ch:=[e,it]) (fun b o hb q=>eb b o (fun z=>hb (by simp [z])) q) hf⟩
 self:=fun _ _ _ _ _ st h=>let ⟨_,e1⟩:=st.2.1; aa4 e1 h
end L2
namespace PySem.W
open PySem PySem.Calls PyProof.Rows PyProof.V PySem.Spec PySem.SeqAt PySem.MeetsSeq PySem.MeetsSeq2 PySem.MeetsSeq3
end PySem.W
namespace L2
open PySem PySem.W PySem.Spec PySem.Calls PyProof.Rows
section
variable {X:Cx}
structure EnJ(Pp:Hp->Prop)(xs:List V)(J:It):Prop where
 go:∀ i H',Pp H'->i < xs.length->J.go i H'
 yld:∀ i H' x H'',Pp H'->J.yld i H' x H''->∃ T y,x = .ref T/\H' T=none/\H''=upd H' T (.tup [.int i,y])/\xs[i]? = some y
 stop:∀ H',Pp H'->J.stop xs.length H'
theorem EnJ.lst{K:i3}{a:Addr}{xs:List V}{Pp:Hp->Prop}(h:∀ H',Pp H'->SqL K H' a xs):EnJ Pp xs (Ite K a) :=
 ⟨fun i H' p hi=>⟨xs,_,h H' p,i5 hi⟩,fun i H' x H'' p y=>let ⟨T,z,e1,e2,e3,e4⟩:=y; ⟨T,z,e1,e2,e3,e4 _ (h H' p)⟩,fun H' p=>⟨xs,h H' p,i6 _⟩⟩
theorem EnJ.tup{K:i3}{a:Addr}{xs:List V}{Pp:Hp->Prop}(h:∀ H',Pp H'->SqT K H' a xs):EnJ Pp xs (Qc K a xs) :=
 ⟨fun i H' p hi=>⟨h H' p,hi⟩,fun i H' x H'' p y=>let ⟨T,z,e1,e2,e3,e4⟩:=y; ⟨T,z,e1,e2,e3,e4⟩,fun H' p=>⟨h H' p,i6 _⟩⟩
def NG (K:i3)(ta:TA):TI:=fun σ H R=>ta σ H fun vs H1 => ∃(a:Addr) (xs:List V) (Pp:Hp->Prop),vs=[.ref a]/\Pp H1/\((∀ H',Pp H'->SqL K H' a xs)\/(∀ H',Pp H'->SqT K H' a xs))/\∀ J,EnJ Pp xs J->R J H1
theorem Hh{a:Expr}{es:List Expr}{kk:Nat}{tp:Pos}{ta:TA}{p pos:Pos}(hg:Gl X "enumerate")(hm:X.mg "enumerate"=none)(ha:PA X [a] ta)(hs:starEach [a] X.env=[(false,eval a X.env)]:=by rfl) :
  PI X (.Tuple es kk tp) (.Call (.Name "enumerate" p) [a] [] pos) (NG X.K ta):=by
 intro pins s σ H R I h;refine Call_ (dE I hg hm rO (M3 (thn (ha pos pins s σ H _ I h) fun us s1 ⟨vs,H1,I1,r1,q1⟩=>?_) hs rfl));obtain⟨a,xs,Pp,e,hp,q,R1⟩:=q1;subst e;cases r1 with
 | cons r rr =>
  cases rr;cases r;rcases q with hq | hq
  ·have hx:=hq _ hp
   have hR:=R1 _ (EnJ.lst hq);obtain⟨its,rx,pl,_⟩:=I1.list hx;refine call_enumerate_list pl.isList fun h' e1 e2 _ kp=>aa4 e1 ⟨_,[s1.heap.objs.size + 1,s1.heap.objs.size],_,_,H1,rfl,I1.kept (t':=s1.toks) kp,EC (Nat.succ_ne_self _),⟨⟨_,e1⟩,e2⟩,fun c hc=>?_,hR⟩;have hge:s1.heap.objs.size<=c:=by
    simp only [l6,C1,or_false] at hc
    rcases hc with rfl | rfl <;> omega
   exact I1.fpOk hge (I1.hok.fresh hge)
  ·have hx:=hq _ hp
   have hR:=R1 _ (EnJ.tup hq);obtain⟨its,rx,pt,_⟩:=I1.tuple hx;refine Jq (pF pt) fun h' e1 e2 kp=>aa4 e1 ⟨_,[s1.heap.objs.size + 1,s1.heap.objs.size],_,_,H1,rfl,I1.kept (t':=s1.toks) kp,Bk (Nat.succ_ne_self _),⟨x5 _,⟨_,e1⟩,e2⟩,fun c hc=>?_,hR⟩;have hge:s1.heap.objs.size<=c:=by
    simp only [l6,C1,or_false] at hc
    rcases hc with rfl | rfl <;> omega
   exact I1.fpOk hge (I1.hok.fresh hge)
end
end L2
namespace PySem
open AutoSeq1 (wpAny_loadPart')
open MeetsSeq MeetsSeq2 MeetsSeq3 PyProof.Rows
end PySem
namespace L2
open PySem PySem.Spec PyProof.Rows
open PySem PySem.W PySem.Spec PySem.Calls PyProof.Rows
open PySem PySem.W PyProof.Rows
end L2
namespace PySem
open Sem (wp)
end PySem
namespace L2
open PySem PySem.W PySem.Spec PyProof.Rows
def He (K:Frag)(b:Addr)(cs:List Addr)(ms:List (Str×Addr))(as:List Str)(c:Addr):Bool:=plainGet K c u7 && hasDictIn K c && plainOver K c && (findIn K (.ref c) "__setattr__" == some (some (.builtin "object.__setattr__"))) && makesIn K c && keepIn K (.ref c) &&
 (ms.all fun m=>findIn K (.ref c) m.1 == some (some (.ref m.2))) && (as.all fun a=>findIn K (.ref c) a == some none) && (findIn K (.ref c) "__class__" == some (some (.builtin "object.__class__"))) && (mroIn K c (.type "object") == some true) && (kitOne K (.ref c) (.ref b) == some true) &&
 cs.all fun c'=>kitOne K (.ref c) (.ref c') == some (c == c')
def wY (K:Frag)(b:Addr)(cs:List Addr)(ms:List (Str×Addr))(as:List Str):Bool:=decide (b :: cs).Nodup && (ms.all fun m=>isFn K (.ref m.2) && keepIn K (.ref m.2)) && (specialIn K (.builtin "object.__class__") "__get__" == some (some (.builtin "getset_descriptor.__get__"))) &&
 (takesIn K (.builtin "object.__class__") == some true) && (b :: cs).all (He K b cs ms as)
structure InsAt(K:Frag)(b:Addr)(cs:List Addr)(ms:List (Str×Addr))(as:List Str)(c:Addr):Prop where
 cl:Cls K c
 made:∀ f,(("__init__" : Str),f)∈ms->Mk K c f
 meth:∀ m∈ms,Meth K c m.1 m.2
 no:∀ a∈as,nA K c a
 ty:∀ {H:Hp} {a dx:Addr} {fs:List (Str×V)},H a=some (.ins c dx fs)->TyOf K H (.ref a) (.ref c)
 up:kitOne K (.ref c) (.ref b)=some true
 each:∀ c'∈cs,kitOne K (.ref c) (.ref c')=some (c == c')
theorem kK{K:Frag}{b:Addr}{cs:List Addr}{ms:List (Str×Addr)}{as:List Str}(h:wY K b cs ms as=true){c:Addr}(hc:c∈b :: cs):InsAt K b cs ms as c:=by
 unfold wY at h;rw [y9,y9,y9,y9] at h;obtain⟨⟨⟨⟨_,h1⟩,h2⟩,h3⟩,h4⟩:=h;have h5:=E8.mp h4 c hc;unfold He at h5;simp only [y9,E8,beq_iff_eq] at h5 h1 h2 h3
 obtain⟨⟨⟨⟨⟨⟨⟨⟨⟨⟨⟨a1,a2⟩,a3⟩,a4⟩,a5⟩,a6⟩,a7⟩,a8⟩,a9⟩,a10⟩,a11⟩,a12⟩:=h5;have cl:Cls K c:=⟨a1,a2,a3,a4⟩;exact⟨cl,fun f hf=>⟨a5,a7 _ hf,(h1 _ hf).1,a6⟩,fun m hm=>⟨a7 m hm,(h1 m hm).1,(h1 m hm).2⟩,a8,fun e=>.ins e cl a9 h2 h3 a10,a11,a12⟩
section
variable {X:Cx} {CX:CXT} {k:Nat} {f C:Addr} {fd:i9} {ps:List Str} {sp:Sp} {E:XK} {m:Str} {pos apos:Pos} {o:Expr} {ta:TE} {dvs:List V} {ds:List g7}
def MP (K:Frag)(f:Addr)(m:Str)(sp:Sp)(dvs:List V)(E:XK)(ta:TE):TE:=fun σ H Q=>ta σ H fun x H1 => ∃ a C dx fs,x = .ref a/\H1 a=some (.ins C dx fs)/\Cls K C/\Meth K C m f/\fs.lookup m=none/\sp (x :: dvs) H1 Q E
theorem fv{pl:Sem Bool}(he:PE X o ta)(F:FnOk X.prog X.w X.K X.mg X.base CX k f fd ps sp)(hr:Room k X.A)(hb:fP X.K fd ps ds)(hd:aU dvs ds)(hx:jI CX X E)
  (ht:eval (.Call (.Attribute o m apos) [] [] pos) X.env=(do
   let ov <- eval o X.env
   standAt apos.atName
   let (f,first) <- holding [ov] (getMethod ov m pl)
   callWith pos f first (backTo pos (starEach [] X.env)) (backToKw pos (keywordEach [] X.env))):=by rfl) :
  PE X (.Call (.Attribute o m apos) [] [] pos) (MP X.K f m sp dvs E ta):=by
 intro pins s σ H Q I h;refine ae3 (pl:=pl) (thn (he pins s σ H _ I h) fun u s1 ⟨x,H1,I1,rx,a,C,dx,fs,ex,ea,c,hm,l,q⟩=>?_) ht;subst ex;obtain rfl:u=j7 a:=rx;refine nR I1 ea c hm l ?_;exact al9 (first:=[.ref a]) I1.kIn hm.kp (xR (us:=[.ref a]) (vs:=[.ref a]) F hr hb hd hx I1 (.cons rfl .nil) q)
end
end L2
namespace PySem
open Sem (wp)
namespace F
theorem slot_lri_hint:Slot "list_reverseiterator" "__length_hint__" "list_reverseiterator.__length_hint__" :=
 .of (owner:="list_reverseiterator") (n:="__length_hint__") (by rw [N9,O1]; kernel_rfl) (by decide +kernel) (by decide +kernel) (by decide +kernel)
  (by first | exact .inl (by decide +kernel) | exact .inr (by decide +kernel)) (by rw [K1]; kernel_rfl)
theorem nolen_lri:typeLookup (.type "list_reverseiterator") "__len__"=pure none:=by rw [N9,O1]; kernel_rfl
theorem lri_sub:isSubtype (.type "list_reverseiterator") (.type "list_reverseiterator")=pure true:=by rw [K1]; kernel_rfl
end F
section
variable {prog:i8} {w:i7} {A:j0} {s:g8} {R:Result→g8→Prop}
theorem Al (hh:A.handled=none) {I t S:Addr} {items:Array g7} {res:g7} {c₀:Nat} (hfit:(items.size:Int) < 2 ^ 63) (hn:items.size≤sizeLine) (hit:s.heap.IsRevIter I t ((items.size:Int) - 1)) (ht:s.heap.IsList t items) (h1:S≠I) (h2:S≠t) (h3:t≠I)
    (hS:s.heap.get? S=some { cls:=.type "list",data:=.seq #[] c₀ })
    (hR:∀ s' acc' c',L6 [S,I] (fun a b=>b=a) s s'->s'.heap.get? S=some { cls:=.type "list",dict:=none,data:=.seq acc' c',slots := #[] }->ItemsOf (fun i v=>items[items.size - 1 - i]? = some v) acc' items.size->R (.ok (.ret res)) s') :
    wpAny (model prog w) A.in1 (P4 (.ref S) (.ref I) res)
      (fun fin s'=>match fin with | .done f=>R (.ok f) s' | .again c'=>c'.quiet=true/\codeAny (model prog w) A c' R s') (fun e s'=>R (.error e) s') s:=by
  have W:=(Walks.listRev (prog:=prog) (w:=w) (A:=A.in1) hh I t h3 items).toS;have hSf:S ∉ [I,t]:=by simp [h1,h2]
  unfold P4;refine g9 (wpAny_typeOf hit.typeIs ?_);have z1:ab2 (.ref S) (.ref I)=false:=by simp [ab2,h1]
  have z2:(C7 "list_reverseiterator" == C7 "list")=false:=by decide
  have z3:(C7 "list_reverseiterator" == C7 "tuple")=false:=by decide
  simp only [z1,z2,z3,aa1,E7,if_false]
  refine g9 (wpAny_pyIter_revIter hit ?_);refine g9 (M0 ?_);unfold ao1;refine g9 (P3 hit.typeIs F.nolen_lri ?_);show wpAny _ A.in1 (specialOf (j7 I) (u5 "__length_hint__") >>= _) _ _ _;refine g9 (P3 hit.typeIs F.slot_lri_hint.lookup ?_)
  (generalize hid:("list_reverseiterator.__length_hint__" : String)=id0; (fail_if_success (clear hid id0)); wp_delta; rw [show splitId id0=some ("list_reverseiterator","__length_hint__") from by subst hid; decide +kernel]; subst hid)
  refine g9 (aa9 (b:=true) hit.typeIs F.lri_sub ?_);rw [if_neg (by decide)]
  dsimp only;rw [if_pos (by decide +kernel)]
  have hrg:(ah0 "list_reverseiterator.__length_hint__" == ah0 "range_iterator.__length_hint__")=false:=by decide +kernel
  rw [hrg];refine j8 ?_;have fin : ∀ (h' : Heap) (c1 : Nat), (∀ b o, b ≠ S → s.heap.get? b = some o → h'.get? b = some o) → h'.get? S = some { cls := .type "list", data := .seq #[] c1 } →
      wpAny (model prog w) A.in1 (again (.builtin "list.extend.loop" ⟨[.ref S,.ref I,res],[]⟩))
        (fun fin s'=>match fin with | .done f=>R (.ok f) s' | .again c'=>c'.quiet=true/\codeAny (model prog w) A c' R s') (fun e s'=>R (.error e) s') { s with heap:=h',toks:=s.toks }:=fun h' c1 oth hS3=>by
    have hst:(0:Nat)<=items.size/\s.heap.IsRevIter I t ((items.size:Int) - 1 - ((0:Nat):Int))/\s.heap.IsList t items:=⟨x5 _,by rw [show(items.size:Int) - 1 - ((0:Nat):Int)=(items.size:Int) - 1 by omega]; exact hit,ht⟩
    refine j8 ⟨ah1 F.plain_extend_loop _,codeAny_extend_loopS W hn _ hSf _ items.size 0 _ _ _ rfl (x5 _)
      (W.frame 0 s h' s.toks hst (i6 _) fun b hb o e=>oth b o (fun h=>hSf (h ▸ hb)) e) hS3 (ItemsOf.nil _) fun s' acc' c' hm hS' hacc=>?_⟩
    have m0:L6 [S,I] (fun a b=>b=a) s { s with heap:=h',toks:=s.toks }:=(ab3 (wr:=[S,I]) (G:=fun a b=>b=a) fun _=>rfl).then_heap (i6 _) fun b o hb e=>oth b o (fun h=>hb (by rw [h]; exact l8)) e
    exact hR s' acc' c' (X2 W.gtrans m0 hm) hS' hacc
  first
  | exact fin s.heap _ (fun _ _ _ e=>e) hS
  | (rw [if_neg y8]; exact fin s.heap _ (fun _ _ _ e=>e) hS)
theorem FY(hh:A.handled=none){I t S:Addr}{items:Array g7}(hfit:(items.size:Int) < 2 ^ 63)(hn:items.size<=sizeLine)(hit:s.heap.IsRevIter I t ((items.size:Int) - 1))(ht:s.heap.IsList t items)(h1:S≠I)(h2:S≠t)(h3:t≠I)
  (hS:s.heap.get? S=some { cls:=.type "list",data:=.seq #[] })
  (hR:∀ s' acc' c',L6 [S,I] (fun a b=>b=a) s s'->s'.heap.get? S=some { cls:=.type "list",dict:=none,data:=.seq acc' c',slots := #[] }->ItemsOf (fun i v=>items[items.size - 1 - i]? = some v) acc' items.size->R (.ok (.ret .none)) s') :
  wpAny (model prog w) A.in1 (B4.«list.__init__» ⟨[.ref S,.ref I],[]⟩)
   (fun fin s'=>match fin with | .done f=>R (.ok f) s' | .again c'=>c'.quiet=true/\codeAny (model prog w) A c' R s') (fun e s'=>R (.error e) s') s:=by
 have W:=(Walks.listRev (prog:=prog) (w:=w) (A:=A.in1) hh I t h3 items).toS;show wpAny _ A.in1 (do let old <- ab5 (.ref S); ao3 (.ref S) (fun _ => #[]); letGo old.toList.reverse; P4 (.ref S) (.ref I) .none) _ _ s
 refine g9 ?_;unfold ab5;refine g9 (ab6 hS rfl (j8 ?_));show wpAny _ A.in1 (updateSeq S (fun _ => #[]) >>= fun _=>letGo (#[]:Array g7).toList.reverse >>= fun _=>P4 (.ref S) (.ref I) .none) _ _ s;refine g9 (ab4 (hz:=x5 _) (_hz':=x5 _) hS rfl ?_);have hS₂:=N5 (A3 (fun _=>(#[]:Array g7))) hS rfl;have oth:∀ b o,b≠S->s.heap.get? b=some o->(s.heap.update S (A3 (fun _=>(#[]:Array g7)))).get? b=some o :=
  fun b o hb e=>(G8 _ _ (w9 hb)).trans e
 refine g9 (wpAny_letGo ?_);refine Al hh hfit hn (hit.at fun o e=>oth I o (w9 h1) e) (let ⟨o,ho,r⟩:=ht; ⟨o,oth t o (w9 h2) ho,r⟩) h1 h2 h3 hS₂ fun s' acc' c' hm hS' hacc=>?_
 have m0:L6 [S,I] (fun a b=>b=a) s { s with heap:=s.heap.update S (A3 (fun _=>(#[]:Array g7))) }:=(ab3 (wr:=[S,I]) (G:=fun a b=>b=a) fun _=>rfl).then_heap (i6 _) fun b o hb e=>oth b o (fun h=>hb (by rw [h]; exact l8)) e
 exact hR s' acc' c' (X2 W.gtrans m0 hm) hS' hacc
end
section
variable {prog:i8} {w:i7} {A:j0} {E:g7→g8→Prop} {s:g8}
theorem Iu(hh:A.handled=none){I t:Addr}{items:Array g7}{Q:g7->g8->Prop}(hfit:(items.size:Int) < 2 ^ 63)(hn:items.size<=sizeLine)(hit:s.heap.IsRevIter I t ((items.size:Int) - 1))(ht:s.heap.IsList t items)(h3:t≠I)
  (hQ:∀ s' c',L6 [s.heap.objs.size,I] (fun a b=>b=a) { s with heap:=s.heap.push { cls:=.type "list",data:=.seq #[] } } s' ->
   s'.heap.get? s.heap.objs.size=some { cls:=.type "list",dict:=none,data:=.seq items.reverse c',slots := #[] }->Q (.ref s.heap.objs.size) s') :
  wpAny (model prog w) A (call (.type "list") [.ref I]) Q E s:=by
 have lI:I < s.heap.objs.size:=let ⟨o,ho,_⟩:=hit; j5 ho
 have lt:t < s.heap.objs.size:=(let ⟨o,ho,_⟩:=ht; j5 ho)
 refine callType_codes (Q₁:=fun obj s₁=>obj = .ref s.heap.objs.size/\s₁ = { s with heap:=s.heap.push { cls:=.type "list",data:=.seq #[] } }) F.called_list (F.typeCall_list_1 _) F.entry_list_init
  (code_list_new _ ⟨rfl,rfl⟩) fun obj s₁ h₁=>?_
 obtain⟨rfl,rfl⟩:=h₁;have hS:(s.heap.push { cls:=.type "list",data:=.seq #[] }).get? s.heap.objs.size=some { cls:=.type "list",data:=.seq #[] }:=y6 _ rfl;refine⟨⟨_,hS,rfl⟩,F.args_list_init_2 _ _,FY (A:=A.in1) hh hfit hn (hit.at fun o e=>l7 _ e) (let ⟨o,ho,r⟩:=ht; ⟨o,l7 _ ho,r⟩) (M2 lI) (M2 lt) h3 hS fun s' acc' c' hm hS' hacc=>?_⟩
 refine⟨rfl,hQ s' c' hm ?_⟩;have e:acc'=items.reverse:=by
  apply Array.ext (by rw [hacc.1,ao4])
  intro i h1 h2;have h4:=hacc.2 i acc'[i] (X1 h1);rw [ao5];rw [hacc.1] at h1;exact(B1 ((X1 (by omega)).symm.trans h4)).symm
 rw [<- e]; exact hS'
end
end PySem
namespace L2
open PySem PySem.W PySem.Spec PySem.Calls PyProof.Rows
theorem qe{X:Cx}{e:Expr}{t:TE}{p1 p2 pos2 pos:Pos}(hg1:Gl X "list")(n1:X.mg "list"=none)(b1:bootBuiltins "list"=some (.type "list"))(hg2:Gl X "reversed")(n2:X.mg "reversed"=none)(b2:bootBuiltins "reversed"=some (.type "reversed"))(he:PE X e t)(hc:X.calm=true:=by rfl)
  (hs:starEach [e] X.env=[(false,eval e X.env)]:=by rfl) :
  PE X (.Call (.Name "list" p1) [.Call (.Name "reversed" p2) [e] [] pos2] [] pos) (fun σ H Q=>t σ H fun x H1 => ∃ p ys,x = .ref p/\SqL X.K H1 p ys/\∀ l,H1 l=none->Q (.ref l) (upd H1 l (.lst ys.reverse))):=by
 intro pins s σ H Q I h;refine G6 (dE I hg1 n1 b1 ?_);refine M3 ?_ rfl rfl;show wpAny _ _ (spliced ((false,eval (.Call (.Name "reversed" p2) [e] [] pos2) X.env) :: backTo pos (starEach [] X.env))) _ _ s;refine M6 ?_;refine G6 (dE I hg2 n2 b2 ?_);refine M3 ?_ hs rfl;rw [hs];show wpAny _ _ (spliced ((false,eval e X.env) :: backTo pos2 (starEach [] X.env))) _ _ s;refine M6 (thn (he pins s σ H _ I h) fun u s1 ⟨x,H1,I1,r1,p,ys,ex,hq,q⟩=>?_);subst ex;cases r1;refine M5 ?_;obtain⟨its,rv,pl,hz⟩:=I1.list hq;have hlen:=rv.length;have hn:=jf;have hfit:((its.toArray.size:Nat):Int) < 2 ^ 63:=by simp only [l9] <;> omega
 have hsz:its.toArray.size<=sizeLine:=by simp only [l9] <;> omega
 have ptl:s1.heap.IsList p its.toArray:=pl.isList;refine call_reversed_list ptl ?_;refine M5 ?_;have lp:p < s1.heap.objs.size:=let ⟨o,ho,_⟩:=ptl; j5 ho
 refine Iu (s:={ s1 with heap:=s1.heap.push (revObj p (((its.toArray.size:Nat):Int) - 1)) }) (I1.ok.hd hc) hfit hsz ⟨_,y6 _ rfl,rfl,rfl⟩ (let ⟨o,ho,r⟩:=ptl; ⟨o,l7 _ ho,r⟩) (w6 lp) fun s' c' hm hS'=>?_
 have e1:(s1.heap.push (revObj p (((its.toArray.size:Nat):Int) - 1))).objs.size=s1.heap.objs.size + 1:=G1 ..;dsimp only at hS' hm ⊢;rw [e1] at hS' hm ⊢;obtain⟨h5,g5,d5,t5,o5⟩:=s';obtain⟨k1,k2,k3,k4,k5⟩:=hm;dsimp only at k1 k2 k3 k4 hS' ⊢;subst k2 k3 k4;have kp:∀ b o,s1.heap.get? b=some o->h5.get? b=some o:=fun b o eb=>k1 b o (fun hm=>by
  have lt:=j5 eb;rcases l6.mp hm with e | hm
  ·rw [e] at lt; exact absurd lt (Q7.mpr (E6 _))
  ·rw [A5.mp hm] at lt; exact B6 _ lt) (l7 _ (l7 _ eb))
 refine⟨.ref (s1.heap.objs.size + 1),_,I1.laid (t':=t5) kp (E6 _) (show bG X.prog X.w _ h5 _ (.lst ys.reverse) from⟨by rw [Q9]; omega,its.reverse,c',aU.reverse rv,?_⟩),rfl,q _ (I1.hok.fresh (E6 _))⟩
 rw [hS'];simp
end L2
namespace KP
open PySem L2
def top (i:Nat):Stmt:=PySem.Challenge.pw_panehouse_k75_whole_ring_once.main.body.getD i (.Pass ⟨0,0,0,0⟩)
abbrev kG:Stmt:=top 10
abbrev ku:Stmt:=top 11
abbrev fz:Stmt:=top 12
abbrev pK:Stmt:=top 13
abbrev ph:Stmt:=top 25
abbrev fi:Stmt:=top 26
abbrev oV:Stmt:=top 27
abbrev ce:Stmt:=top 28
abbrev pP:Stmt:=top 29
abbrev nO:Stmt:=top 30
abbrev gV:Stmt:=top 31
abbrev cb:Stmt:=top 32
abbrev nC:Stmt:=top 33
abbrev qD:Stmt:=top 34
abbrev fh:Stmt:=top 35
abbrev iV:Stmt:=top 36
abbrev gF:Stmt:=top 38
abbrev ug:Stmt:=top 39
abbrev mW:Stmt:=top 40
abbrev mU:Stmt:=top 41
abbrev nF:Stmt:=top 42
abbrev gY:Stmt:=me (top 43) 0
abbrev lS:Stmt:=me (top 43) 1
abbrev lU:Stmt:=me (top 43) 2
abbrev lh:Stmt:=me (top 43) 3
abbrev iq:Stmt:=me (top 43) 4
abbrev ir:Stmt:=me (top 43) 5
abbrev iG:Stmt:=top 54
abbrev iB:Stmt:=top 55
abbrev mM:Stmt:=top 56
abbrev pO:Stmt:=top 57
abbrev gN:Stmt:=top 58
abbrev nM:Stmt:=top 59
abbrev sD:Stmt:=top 60
abbrev cx:Stmt:=top 61
abbrev oW:Stmt:=top 62
abbrev dH:Stmt:=top 63
abbrev oR:Stmt:=top 64
abbrev cW:Stmt:=top 65
abbrev qt:Stmt:=top 66
abbrev mK:Stmt:=top 67
abbrev wS:Stmt:=top 68
abbrev cR:Stmt:=top 69
abbrev cV:Stmt:=top 72
abbrev mT:Stmt:=top 73
abbrev kP:Stmt:=top 74
abbrev kc:Stmt:=top 76
abbrev xU:Stmt:=top 77
abbrev cQ:Stmt:=top 78
abbrev dN:Stmt:=top 79
abbrev gB:Stmt:=top 80
abbrev lj:Stmt:=top 81
abbrev oQ:Stmt:=top 82
abbrev cP:Stmt:=top 83
abbrev nS:Stmt:=top 84
abbrev Aq:Stmt:=top 85
abbrev gO:Stmt:=top 86
abbrev yu:List Str:=["thing"]
abbrev hU:List Str:=["thing"]
theorem fsc{N P:List Str}{sc:j9}(a:sc.kind = .function)(b:sc.isCoroutine=false)(c:sc.isGenerator=false)(d:N.take P.length=P)(e:N.Nodup/\(∀ x∈P,sc.names.lookup x=some .local\/sc.names.lookup x=some .cell)/\∀ y∈sc.names,y.2≠.free):FnScope N P sc:=⟨a,b,c,e.1,d,e.2.1,e.2.2⟩
theorem wD:FnScope yu hU (aj kG):=fsc rfl rfl rfl rfl (by decide +kernel)
abbrev zg:List Str:=["thing","least","most"]
abbrev iw:List Str:=["thing","least","most"]
theorem wK:FnScope zg iw (aj ku):=fsc rfl rfl rfl rfl (by decide +kernel)
abbrev nL:List Str:=["text","signs"]
abbrev jc:List Str:=["text","signs"]
theorem Af:FnScope nL jc (aj fz):=fsc rfl rfl rfl rfl (by decide +kernel)
abbrev DN:List Str:=["thing"]
abbrev lL:List Str:=["thing"]
theorem BB:FnScope DN lL (aj pK):=fsc rfl rfl rfl rfl (by decide +kernel)
abbrev Dh:List Str:=["thing"]
abbrev lw:List Str:=["thing"]
theorem AF:FnScope Dh lw (aj ph):=fsc rfl rfl rfl rfl (by decide +kernel)
abbrev mQ:List Str:=["thing"]
abbrev jJ:List Str:=["thing"]
theorem zC:FnScope mQ jJ (aj fi):=fsc rfl rfl rfl rfl (by decide +kernel)
abbrev Dc:List Str:=["text"]
abbrev lG:List Str:=["text"]
theorem AO:FnScope Dc lG (aj oV):=fsc rfl rfl rfl rfl (by decide +kernel)
abbrev gg:List Str:=["thing"]
abbrev du:List Str:=["thing"]
theorem pT:FnScope gg du (aj ce):=fsc rfl rfl rfl rfl (by decide +kernel)
abbrev DW:List Str:=["kind","thing"]
abbrev lE:List Str:=["kind","thing"]
theorem AB:FnScope DW lE (aj pP):=fsc rfl rfl rfl rfl (by decide +kernel)
abbrev BU:List Str:=["kind","thing","most"]
abbrev jg:List Str:=["kind","thing"]
theorem qH:FnScope BU jg (aj nO):=fsc rfl rfl rfl rfl (by decide +kernel)
abbrev tz:List Str:=["thing"]
abbrev dO:List Str:=["thing"]
theorem qV:FnScope tz dO (aj gV):=fsc rfl rfl rfl rfl (by decide +kernel)
abbrev gb:List Str:=["thing","names","waiting","entry","box","deep"]
abbrev cE:List Str:=["thing"]
theorem bX:FnScope gb cE (aj cb):=fsc rfl rfl rfl rfl (by decide +kernel)
abbrev BX:List Str:=["doc","boxes","waiting","box"]
abbrev jA:List Str:=["doc"]
theorem hZ:FnScope BX jA (aj nC):=fsc rfl rfl rfl rfl (by decide +kernel)
abbrev qh:List Str:=["box"]
abbrev mX:List Str:=["doc"]
abbrev jt:List Str:=["doc"]
theorem yv:FnScope mX jt (aj fh):=fsc rfl rfl rfl rfl (by decide +kernel)
abbrev uf:List Str:=["doc","name","waiting","way"]
abbrev kB:List Str:=["doc","name"]
theorem pX:FnScope uf kB (aj iV):=fsc rfl rfl rfl rfl (by decide +kernel)
abbrev oY:List Str:=["doc","shapes"]
abbrev lW:List Str:=["doc","shapes"]
theorem Bj:FnScope oY lW (aj gF):=fsc rfl rfl rfl rfl (by decide +kernel)
abbrev EM:List Str:=["names","name","place"]
abbrev oa:List Str:=["names","name"]
theorem wm:FnScope EM oa (aj ug):=fsc rfl rfl rfl rfl (by decide +kernel)
abbrev As:List Str:=["names","ring","name"]
abbrev jB:List Str:=["names","ring"]
theorem qI:FnScope As jB (aj mW):=fsc rfl rfl rfl rfl (by decide +kernel)
abbrev Bg:List Str:=["doc","shapes","name"]
abbrev gU:List Str:=["doc","shapes","name"]
theorem Ah:FnScope Bg gU (aj mU):=fsc rfl rfl rfl rfl (by decide +kernel)
abbrev Br:List Str:=["doc","shapes","name"]
abbrev gK:List Str:=["doc","shapes","name"]
theorem zN:FnScope Br gK (aj nF):=fsc rfl rfl rfl rfl (by decide +kernel)
abbrev zT:List Str:=["self","doc","shapes"]
abbrev gX:List Str:=["self","doc","shapes"]
theorem yc:FnScope zT gX (aj gY):=fsc rfl rfl rfl rfl (by decide +kernel)
abbrev EF:List Str:=["self"]
abbrev md:List Str:=["self"]
theorem AX:FnScope EF md (aj lS):=fsc rfl rfl rfl rfl (by decide +kernel)
abbrev DF:List Str:=["self","name"]
abbrev lA:List Str:=["self","name"]
theorem Bt:FnScope DF lA (aj lU):=fsc rfl rfl rfl rfl (by decide +kernel)
abbrev EE:List Str:=["self"]
abbrev lf:List Str:=["self"]
theorem Ax:FnScope EE lf (aj lh):=fsc rfl rfl rfl rfl (by decide +kernel)
abbrev yE:List Str:=["self"]
abbrev ib:List Str:=["self"]
theorem xn:FnScope yE ib (aj iq):=fsc rfl rfl rfl rfl (by decide +kernel)
abbrev yy:List Str:=["self","ring"]
abbrev ia:List Str:=["self","ring"]
theorem xj:FnScope yy ia (aj ir):=fsc rfl rfl rfl rfl (by decide +kernel)
abbrev ut:List Str:=[]
abbrev fF:List Str:=[]
theorem sy:FnScope ut fF (aj iG):=fsc rfl rfl rfl rfl (by decide +kernel)
abbrev uJ:List Str:=["thing"]
abbrev fE:List Str:=["thing"]
theorem tw:FnScope uJ fE (aj iB):=fsc rfl rfl rfl rfl (by decide +kernel)
abbrev AW:List Str:=["thing"]
abbrev jL:List Str:=["thing"]
theorem yz:FnScope AW jL (aj mM):=fsc rfl rfl rfl rfl (by decide +kernel)
abbrev Ez:List Str:=["thing"]
abbrev lP:List Str:=["thing"]
theorem AU:FnScope Ez lP (aj pO):=fsc rfl rfl rfl rfl (by decide +kernel)
abbrev sP:List Str:=["thing"]
abbrev dS:List Str:=["thing"]
theorem qW:FnScope sP dS (aj gN):=fsc rfl rfl rfl rfl (by decide +kernel)
abbrev BS:List Str:=["word","thing"]
abbrev jh:List Str:=["word","thing"]
theorem zJ:FnScope BS jh (aj nM):=fsc rfl rfl rfl rfl (by decide +kernel)
abbrev Ie:List Str:=["thing"]
abbrev oz:List Str:=["thing"]
theorem EB:FnScope Ie oz (aj sD):=fsc rfl rfl rfl rfl (by decide +kernel)
abbrev gI:List Str:=["thing"]
abbrev jM:List Str:=["thing"]
theorem zD:FnScope gI jM (aj cx):=fsc rfl rfl rfl rfl (by decide +kernel)
abbrev Dr:List Str:=["thing"]
abbrev lV:List Str:=["thing"]
theorem Bc:FnScope Dr lV (aj oW):=fsc rfl rfl rfl rfl (by decide +kernel)
abbrev jZ:List Str:=["thing"]
abbrev ie:List Str:=["thing"]
theorem ye:FnScope jZ ie (aj dH):=fsc rfl rfl rfl rfl (by decide +kernel)
abbrev EJ:List Str:=["thing"]
abbrev lK:List Str:=["thing"]
theorem BI:FnScope EJ lK (aj oR):=fsc rfl rfl rfl rfl (by decide +kernel)
abbrev jH:List Str:=["thing"]
abbrev dX:List Str:=["thing"]
theorem uS:FnScope jH dX (aj cW):=fsc rfl rfl rfl rfl (by decide +kernel)
abbrev qp:List Str:=["box","name"]
abbrev mG:List Str:=["test","way"]
abbrev Jy:List Str:=["test","way","box"]
abbrev nY:List Str:=["test","way"]
theorem zV:FnScope Jy nY (aj wS):=fsc rfl rfl rfl rfl (by decide +kernel)
abbrev El:List Str:=["tests"]
abbrev lN:List Str:=["tests"]
theorem AZ:FnScope El lN (aj cR):=fsc rfl rfl rfl rfl (by decide +kernel)
abbrev nZ:List Str:=["rules","way","places","place","rule","is_for"]
abbrev gr:List Str:=["rules","way"]
theorem de:FnScope nZ gr (aj cV):=fsc rfl rfl rfl rfl (by decide +kernel)
abbrev Ao:List Str:=["rules","way","shapes","shape","word","place","value"]
abbrev jG:List Str:=["rules","way","shapes"]
theorem dL:FnScope Ao jG (aj mT):=fsc rfl rfl rfl rfl (by decide +kernel)
abbrev yT:List Str:=["doc","rules","shapes","box"]
abbrev ip:List Str:=["doc","rules"]
theorem jy:FnScope yT ip (aj kP):=fsc rfl rfl rfl rfl (by decide +kernel)
abbrev yW:List Str:=["_law_script","_law_k"]
abbrev im:List Str:=["_law_script","_law_k"]
theorem xu:FnScope yW im (aj kc):=fsc rfl rfl rfl rfl (by decide +kernel)
abbrev Jd:List Str:=["_law_state","_law_cell"]
abbrev oq:List Str:=["_law_state","_law_cell"]
theorem Im:FnScope Jd oq (aj xU):=fsc rfl rfl rfl rfl (by decide +kernel)
abbrev iM:List Str:=["_law_cell","_law_many","_law_signs","_law_state","_law_size","_law_base","_law_at","_law_shift"]
abbrev ly:List Str:=["_law_cell","_law_many"]
theorem dw:FnScope iM ly (aj cQ):=fsc rfl rfl rfl rfl (by decide +kernel)
abbrev ki:List Str:=["_law_state","_law_signs","_law_words","_law_k","_law_size"]
abbrev gZ:List Str:=["_law_state"]
theorem eG:FnScope ki gZ (aj dN):=fsc rfl rfl rfl rfl (by decide +kernel)
abbrev pH:List Str:=["_law_k","_law_kinds","_law_abouts","_law_names_here","_law_mores","_law_kids"]
abbrev gA:List Str:=["_law_k","_law_kinds","_law_abouts","_law_names_here","_law_mores"]
theorem rQ:FnScope pH gA (aj gB):=fsc rfl rfl rfl rfl (by decide +kernel)
abbrev xV:List Str:=["_law_script","_law_names_here","_law_state","_law_some","_law_kinds","_law_abouts","_law_deeps","_law_k","_law_room","_law_mores","_law_kind"]
abbrev rh:List Str:=["_law_script","_law_names_here"]
theorem dj:FnScope xV rh (aj lj):=fsc rfl rfl rfl rfl (by decide +kernel)
abbrev DB:List Str:=["_law_word","_law_state","_law_more"]
abbrev mi:List Str:=["_law_word","_law_state"]
theorem rz:FnScope DB mi (aj oQ):=fsc rfl rfl rfl rfl (by decide +kernel)
abbrev iJ:List Str:=["_law_cell","_law_names_here","_law_state","_law_words","_law_rules_here","_law_k","_law_tests","_law_at","_law_by","_law_sets","_law_pairs"]
abbrev lX:List Str:=["_law_cell","_law_names_here"]
theorem bQ:FnScope iJ lX (aj cP):=fsc rfl rfl rfl rfl (by decide +kernel)
abbrev BE:List Str:=["_law_script","_law_names_here","_law_cell","_law_doc_here"]
abbrev je:List Str:=["_law_script","_law_names_here","_law_cell"]
theorem qu:FnScope BE je (aj nS):=fsc rfl rfl rfl rfl (by decide +kernel)
abbrev NL:List Str:=["_law_keys","_law_by","_law_steps","_law_turn"]
abbrev xY:List Str:=["_law_keys","_law_by","_law_steps"]
theorem Cj:FnScope NL xY (aj Aq):=fsc rfl rfl rfl rfl (by decide +kernel)
abbrev ou:List Str:=["_law_script","_law_names_here","_law_doc_here","_law_shapes","_law_ring","_law_order","_law_keys","_law_by","_law_name","_law_gone","_law_turn","_law_steps"]
abbrev Da:List Str:=["_law_script"]
theorem fX:FnScope ou Da (aj gO):=fsc rfl rfl rfl rfl (by decide +kernel)
set_option genInjectivity false in
set_option genSizeOfSpec false in
structure Adr where
 wd:i7
 qf:Addr
 qF:i9
 qC:Addr
 qi:i9
 rG:Addr
 tR:i9
 vH:Addr
 wq:i9
 wc:Addr
 vM:i9
 sB:Addr
 sL:i9
 wz:Addr
 vT:i9
 jT:Addr
 jO:i9
 wa:Addr
 vC:i9
 tG:Addr
 sG:i9
 ko:Addr
 kR:i9
 gj:Addr
 fZ:i9
 rH:Addr
 tX:i9
 zj:Addr
 yU:i9
 rM:Addr
 sF:i9
 rJ:Addr
 um:i9
 vw:Addr
 vc:i9
 zF:Addr
 zn:i9
 sI:Addr
 tM:i9
 nE:Addr
 na:i9
 mO:Addr
 mY:i9
 ik:Addr
 kC:i9
 iR:Addr
 pf:i9
 iQ:Addr
 pU:i9
 fA:Addr
 pL:i9
 cN:Addr
 kF:i9
 cO:Addr
 jW:i9
 mB:Addr
 mw:i9
 mt:Addr
 mJ:i9
 sf:Addr
 sv:i9
 vL:Addr
 vd:i9
 kU:Addr
 kS:i9
 tD:Addr
 rN:i9
 zf:Addr
 ze:i9
 sC:Addr
 sW:i9
 vG:Addr
 wB:i9
 qG:Addr
 qd:i9
 wk:Addr
 vi:i9
 jD:Addr
 jz:i9
 Ae:Addr
 zX:i9
 uG:Addr
 uO:i9
 xB:Addr
 xT:i9
 wy:Addr
 pS:i9
 oy:Addr
 jv:i9
 ul:Addr
 ue:i9
 qo:Addr
 qB:i9
 ql:Addr
 qc:i9
 xE:Addr
 xa:i9
 wv:Addr
 wA:i9
 pZ:Addr
 qr:i9
 lO:Addr
 lM:i9
 CB:Addr
 Cr:i9
 vj:Addr
 vR:i9
 vm:Addr
 vQ:i9
 rR:Addr
 sJ:i9
 Hm:Addr
 FP:i9
 KG:Addr
 yK:i9
 cC:Addr
 cT:Addr
 cC2:Addr
 cT2:Addr
 c_PaneError:Addr
 c_NoBox:Addr
 c_NoRule:Addr
 c_NoName:Addr
 c_Keys:Addr
abbrev Adr.clsL (A:Adr):List Addr:=[A.c_NoBox,A.c_NoRule,A.c_NoName]
structure Dx(K:i3)(mg:Str->Option g7)(x:Str)(s:Stmt)(ps:List Str)(f:Addr)(d:i9):Prop where
 F:Fun K x x s f d
 b:fP K d ps []
 m:mg x=some (.ref f)
theorem b9{X:Cx}{k:Nat}{f:Addr}{d:i9}{ps:List Str}{sp:Sp}{x:Str}{s:Stmt}{p pos:Pos}{e:Expr}{es:List Expr}{t:TA}(F:FnOk X.prog X.w X.K X.mg X.base CX0 k f d ps sp)(hr:Room k X.A)(hg:Gl X x)(D:Dx X.K X.mg x s ps f d)(ha:PA X (e :: es) t)(hb:(x == ("__debug__" : Str))=false:=by decide)(he:starEach (e :: es) X.env=(false,eval e X.env) :: starEach es X.env:=by rfl)(hl:(backTo pos (starEach es X.env)).any (·.1)=false:=by rfl):PE X (.Call (.Name x p) (e :: es) [] pos) (CL sp [] E0 t):=ao F hr hg D.m D.F.kp D.b .nil au ha hb he hl
structure Txt(K:i3)(mg:Str->Option g7)(A:Adr):Prop where
 ig:Dx K mg "is_number" kG hU A.qf A.qF
 aX:Dx K mg "is_within" ku iw A.qC A.qi
 dF:Dx K mg "has_only" fz jc A.rG A.tR
 cH:Dx K mg "is_name" pK lL A.vH A.wq
 ft:Dx K mg "is_kind" ph lw A.wc A.vM
 ja:Dx K mg "are_tags" fi jJ A.sB A.sL
 mf:Dx K mg "is_word" oV lG A.wz A.vT
 dq:Dx K mg "is_words_text" ce du A.jT A.jO
 lz:Dx K mg "is_more" pP lE A.wa A.vC
 jm:Dx K mg "are_kids" nO jg A.tG A.sG
 eU:Dx K mg "is_box_alone" gV dO A.ko A.kR
 dr:Dx K mg "need_document" cb cE A.gj A.fZ
 dy:Dx K mg "boxes_of" nC jA A.rH A.tX
 KY:Dx K mg "kid_names" qD qh A.zj A.yU
 bo:Dx K mg "names_of" fh jt A.rM A.sF
 dm:Dx K mg "way_to" iV kB A.rJ A.um
 bY:Dx K mg "ring_of" gF lW A.vw A.vc
 df:Dx K mg "around" ug oa A.zF A.zn
 dz:Dx K mg "first_of" mW jB A.sI A.tM
 dC:Dx K mg "next_key" mU gU A.nE A.na
 dA:Dx K mg "last_key" nF gK A.mO A.mY
 F_Keys_init:Fun K "__init__" "Keys.__init__" gY A.ik A.kC
 b_Keys_init:fP K A.kC gX []
 F_Keys_at:Fun K "at" "Keys.at" lS A.iR A.pf
 b_Keys_at:fP K A.pf md []
 F_Keys_to:Fun K "to" "Keys.to" lU A.iQ A.pU
 b_Keys_to:fP K A.pU lA []
 F_Keys_on:Fun K "on" "Keys.on" lh A.fA A.pL
 b_Keys_on:fP K A.pL lf []
 F_Keys_back:Fun K "back" "Keys.back" iq A.cN A.kF
 b_Keys_back:fP K A.kF ib []
 F_Keys_turn:Fun K "turn" "Keys.turn" ir A.cO A.jW
 b_Keys_turn:fP K A.jW ia []
 fG:Dx K mg "plain_shape" iG fF A.mB A.mw
 fI:Dx K mg "is_property" iB fE A.mt A.mJ
 dD:Dx K mg "has_word" mM jL A.sf A.sv
 li:Dx K mg "is_size" pO lP A.vL A.vd
 dR:Dx K mg "is_fill_sign" gN dS A.kU A.kS
 iZ:Dx K mg "is_value" nM jh A.tD A.rN
 oH:Dx K mg "is_set" sD oz A.zf A.ze
 jE:Dx K mg "are_sets" cx jM A.sC A.sW
 mh:Dx K mg "is_test" oW lV A.vG A.wB
 hX:Dx K mg "are_tests" dH ie A.qG A.qd
 lF:Dx K mg "is_rule" oR lK A.wk A.vi
 gy:Dx K mg "need_rules" cW dX A.jD A.jz
 KH:Dx K mg "is_called" qt qp A.Ae A.zX
 IP:Dx K mg "holds_about" mK mG A.uG A.uO
 rb:Dx K mg "holds" wS nY A.xB A.xT
 lQ:Dx K mg "test_of" cR lN A.wy A.pS
 gw:Dx K mg "places_for" cV gr A.oy A.jv
 ji:Dx K mg "shape_of" mT jG A.ul A.ue
 iz:Dx K mg "shapes_of" kP ip A.qo A.qB
 aO:Dx K mg "_law_cell_at" kc im A.ql A.qc
 aw:Dx K mg "_law_mix" xU oq A.xE A.xa
 ma:Dx K mg "_law_names" cQ ly A.wv A.wA
 hV:Dx K mg "_law_text_by" dN gZ A.pZ A.qr
 fu:Dx K mg "_law_built" gB gA A.lO A.lM
 re:Dx K mg "_law_doc" lj rh A.CB A.Cr
 kZ:Dx K mg "_law_value" oQ mi A.vj A.vR
 lZ:Dx K mg "_law_rules" cP lX A.vm A.vQ
 jj:Dx K mg "_law_shaped" nS je A.rR A.sJ
 nJ:Dx K mg "_law_go" Aq xY A.Hm A.FP
 KW:Dx K mg "law" gO Da A.KG A.yK
 ck:∃ t,mg "MOST_NAME_SIGNS"=some (.int 8 t)
 fQ:∃ t,mg "MOST_TAGS"=some (.int 4 t)
 dI:∃ t,mg "MOST_KIDS"=some (.int 12 t)
 cM:∃ t,mg "MOST_COLUMNS"=some (.int 9 t)
 cg:∃ t,mg "MOST_TEXT_SIGNS"=some (.int 80 t)
 cf:∃ t,mg "MOST_WORD_SIGNS"=some (.int 20 t)
 eB:∃ t,mg "MOST_BOXES"=some (.int 40 t)
 fO:∃ t,mg "MOST_DEEP"=some (.int 8 t)
 eJ:∃ t,mg "MOST_RULES"=some (.int 40 t)
 fR:∃ t,mg "MOST_RANK"=some (.int 99 t)
 eE:∃ t,mg "MOST_TESTS"=some (.int 4 t)
 dQ:∃ t,mg "MOST_CELLS"=some (.int 400 t)
 eO:∃ t,mg "MOST_SHARE"=some (.int 99 t)
 iS:∃ t,mg "PERCENT"=some (.int 37 t)
 iY:∃ t,mg "LETTERS"=some (.str "abcdefghijklmnopqrstuvwxyz" t)
 eV:∃ t,mg "NAME_SIGNS"=some (.str "abcdefghijklmnopqrstuvwxyz0123456789" t)
 eh:∃ t,mg "TEXT_SIGNS"=some (.str "ABCDEFGHIJKLMNOPQRSTUVWXYZabcdefghijklmnopqrstuvwxyz0123456789" t)
 oo:∃ a,mg "KINDS"=some (.ref a)/\eQ K a ["blank","words","row","flow","column","grid","pile"]=true
 iW:∃ a,mg "KIDLESS"=some (.ref a)/\eQ K a ["blank","words"]=true
 uc:∃ a,mg "INKS"=some (.ref a)/\eQ K a ["as","great","small"]=true
 fN:∃ a,mg "GOES_DOWN"=some (.ref a)/\eQ K a ["gap","ink"]=true
 jk:∃ a x_PLAIN0 x_PLAIN1:Addr,mg "PLAIN"=some (.ref a)/\oF A.wd K a [(i0 "wide",.ref x_PLAIN0),(i0 "high",.ref x_PLAIN1),(i0 "leastw",.int 0),(i0 "mostw",.int 400),(i0 "leasth",.int 0),(i0 "mosth",.int 400),(i0 "pad",.int 0),(i0 "gap",.int 0),(i0 "over",.bl false),(i0 "able",.bl false),(i0 "fill",.str ""),(i0 "ink",.str "as")]
 oO:∃ a  : Addr,mg "MOSTS"=some (.ref a)/\oF A.wd K a [(i0 "leastw",.int 400),(i0 "mostw",.int 400),(i0 "leasth",.int 400),(i0 "mosth",.int 400),(i0 "pad",.int 9),(i0 "gap",.int 9)]
 h_PLAIN:∃ a x_PLAIN0 x_PLAIN1:Addr,mg "PLAIN"=some (.ref a)/\oF A.wd K a [(i0 "wide",.ref x_PLAIN0),(i0 "high",.ref x_PLAIN1),(i0 "leastw",.int 0),(i0 "mostw",.int 400),(i0 "leasth",.int 0),(i0 "mosth",.int 400),(i0 "pad",.int 0),(i0 "gap",.int 0),(i0 "over",.bl false),(i0 "able",.bl false),(i0 "fill",.str ""),(i0 "ink",.str "as")]/\eQ K x_PLAIN0 ["hold"]=true/\eQ K x_PLAIN1 ["hold"]=true
 kL:mg "all"=none
 CM:mg "any"=none
 pb:mg "bool"=none
 uk:mg "dict"=none
 fL:mg "enumerate"=none
 vD:mg "int"=none
 aF:mg "isinstance"=none
 bM:mg "len"=none
 km:mg "list"=none
 zm:mg "ord"=none
 cq:mg "range"=none
 dB:mg "reversed"=none
 rK:mg "set"=none
 gH:mg "sorted"=none
 gQ:mg "str"=none
 cw:mg "tuple"=none
 m_PaneError:mg "PaneError"=some (.ref A.c_PaneError)
 m_NoBox:mg "NoBox"=some (.ref A.c_NoBox)
 m_NoRule:mg "NoRule"=some (.ref A.c_NoRule)
 m_NoName:mg "NoName"=some (.ref A.c_NoName)
 m_Keys:mg "Keys"=some (.ref A.c_Keys)
 cls:wT K A.c_PaneError [A.c_NoBox,A.c_NoRule,A.c_NoName]=true
 ins:wY K A.c_Keys [] [("__init__",A.ik),("at",A.iR),("to",A.iQ),("on",A.fA),("back",A.cN),("turn",A.cO)] ["names","ring","key"]=true
 code:A.pS.code = .ref A.cC
 code2:A.jv.code = .ref A.cC2
 kit:wJ K=true
open PySem L2 PyProof.Rows
theorem aL:bootBuiltins "isinstance"=some (.builtin "isinstance"):=by decide +kernel
theorem KK:bootBuiltins "int"=some (.type "int"):=by decide +kernel
theorem Iv:bootBuiltins "bool"=some (.type "bool"):=by decide +kernel
theorem xK:bootBuiltins "list"=some (.type "list"):=by decide +kernel
theorem eI:bootBuiltins "tuple"=some (.type "tuple"):=by decide +kernel
theorem tY:bootBuiltins "all"=some (.builtin "all"):=by decide +kernel
theorem bT:bootBuiltins "len"=some (.builtin "len"):=by decide +kernel
theorem Fun.okC{P:i8}{w:i7}{K:i3}{mg:Str->Option g7}{base:Heap}{x qual:Str}{st:Stmt}{f:Addr}{fd:i9}{N ps:List Str}{k:Nat}{sp:Sp}(F:Fun K x qual st f fd)(S:FnScope N ps (aj st))(len:∀ vs H Q E,sp vs H Q E->vs.length=ps.length)
  (hbody:∀(cdv:g7) (A:j0) (outer:List Env) (s:g8) (H:Hp) (vs:List V) (Q:VK) (E:XK),fd.code=cdv->Room k (A.deeper (envOfC qual (aj st) s.heap.objs.size f cdv))->sp vs H Q E ->
   ∃ t,PSs (fV CX0 P w K mg base N qual (aj st) f cdv A outer s H E).nox (aW st) t/\t { nx:=fun _ H'=>Q .non H',rt:=Q } (kt N vs) H):FnOk P w K mg base CX0 (k + 1) f fd ps sp:=by
 obtain⟨oc,od,kV,doc,pm,an,cdv,ct,osl,rfl,lk,hcd⟩:=F.ex;refine Ii lk hcd S len fun A outer s H vs Q E hr hsp=>?_;obtain⟨t,h,q⟩:=hbody cdv A outer s H vs Q E rfl hr hsp;exact⟨t,h.nox,q⟩
theorem ai{H:Hp}{p:Addr}(h:H p=none)(o:HO):aS H (upd H p o):=fun b u q=>by rw [am (aH q h)]; exact q
theorem aK{n:Nat}(h:n<=1000):n<=sizeLine:=E5 (az h)
theorem Jt{xs:List Int}{j:Nat}(h:j < xs.length):atI (xs.map V.int) (j:Int)=some (.int (xs.getD j 0)):=by
 refine bA ?_;rw [o0,i5 h,A4,i5 h]; rfl
theorem yL(xs:List V)(n:Int)(h0:0<=n):oG xs none (some n)=xs.take n.toNat:=by
 obtain⟨k,rfl⟩:=O3 h0;unfold oG;rw [HT.sIx_none,HT.sIx_nat,ag2,List.drop_zero];by_cases h:k<=xs.length
 ·rw [ac4 h]; simp
 ·rw [Nat.min_eq_right (by omega),B5,ap5 (by simp; omega)]
theorem IZ{xs:List V}{i:Int}(h0:0<=i)(h:i < xs.length):∃ v,atI xs i=some v/\v∈xs:=by
 obtain⟨k,rfl⟩:=O3 h0;have hk:k < xs.length:=by omega
 exact⟨xs[k],bA (i5 hk),E9 hk⟩
section
variable {P:i8} {w:i7} {K:i3} {mg:Str→Option g7} {base:Heap} {A:Adr}
def Ni (K:i3):Sp:=fun vs H Q _ => ∃(a:Addr) (ns:List Int) (k:Int),vs=[.ref a,.int k]/\SqL K H a (ns.map V.int)/\ns.length<=63/\0<=k/\∀ v:Int,Q (.int v) H
theorem yf(T:Txt K mg A):FnOk P w K mg base CX0 1 A.ql A.qc im (Ni K):=by
 exists T.aO.F.ok xu
 ·obtain⟨a,ns,k,rfl,_⟩:=h; rfl
 obtain⟨a,ns,k,rfl,hS,hn,h0,q⟩:=h;refine⟨_,ah (bc (aB Mg (pv 1) (aq aG rfl T.bM bT (aa (pv 0) ae)) (aJ _)) (ak (ar (aA aY (pv 0) (pv 1) (fun _ _=>rfl)))) aE) (ak (ar ag)),?_⟩;refine⟨zQa,zQa,a,zQa,.inl hS,zQb,zQa,xC (fun c=>?_) (fun c=>?_)⟩
 ·have c':k < (((ns.map V.int).length:Nat):Int):=of_decide_eq_true c
  rw [i4] at c';obtain⟨j,rfl⟩:=O3 h0;exact⟨zQa,zQa,a,zQc,hS,Jt (by omega),q _⟩
 ·exact q 0
def St (st:Addr)(H:Hp):Prop := ∃ s:Int,H st=some (.lst [.int s])/\0<=s/\s < 2147483648
structure Ms(st:Addr)(H H':Hp):Prop where
 keep:∀ b o,b≠st->H b=some o->H' b=some o
 st:St st H'
theorem Ms.trans{st:Addr}{H H1 H2:Hp}(a:Ms st H H1)(b:Ms st H1 H2):Ms st H H2:=⟨fun c o n h=>b.keep c o n (a.keep c o n h),b.st⟩
theorem Ms.of{st:Addr}{H H':Hp}(h:St st H)(e:aS H H'):Ms st H H':=⟨fun b o _ q=>e b o q,let ⟨s,a,b⟩:=h; ⟨s,e _ _ a,b⟩⟩
theorem Ms.grow{st:Addr}{H H1 H2:Hp}(a:Ms st H H1)(e:aS H1 H2):Ms st H H2:=a.trans (.of a.st e)
theorem Ms.free{st:Addr}{H H':Hp}(m:Ms st H H')(hs:St st H){l:Addr}(h:H' l=none):H l=none:=by
 cases q:H l with
 | none=>rfl
 | some o =>
  by_cases e:l=st
  ·obtain⟨s,a,_⟩:=m.st
   rw [e,a] at h; cases h
  ·rw [m.keep l o e q] at h; cases h
def KQ:Sp:=fun vs H Q _ => ∃(p:Addr) (c:Int),vs=[.ref p,.int c]/\St p H/\∀(r:Int) (H':Hp),0<=r->r < 2147483648->Ms p H H'->(∀ b,H b=none->H' b=none)->Q (.int r) H'
theorem se(T:Txt K mg A):FnOk P w K mg base CX0 1 A.xE A.xa oq KQ:=by
 exists T.aw.F.ok Im
 ·obtain⟨p,c,rfl,_⟩:=h; rfl
 obtain⟨p,c,rfl,⟨s0,hp,h0,h1⟩,q⟩:=h;refine⟨_,ah (IM (aD aZ (aD bZ (aD bZ (aD wO (aA aY (pv 0) ag (fun _ _=>rfl)) ag) (aD wO (pv 1) ag)) ag) ag) (Mt (pv 0) ag HV))
  (ak (ar (aD lJ (aD aZ (aD wO (aA aY (pv 0) ag (fun _ _=>rfl)) (aA aY (pv 0) ag (fun _ _=>rfl))) ag) ag))),?_⟩
 refine⟨zQa,p,zQc,.of hp,rfl,zQb,.inl ⟨by omega,by omega⟩,zQa,zQb,.inr ⟨by decide,by decide⟩,zQb,zQb,zQb,(by show(0:Int) < 2147483647; decide),?_⟩
 refine⟨zQa,p,_,_,0,rfl,rfl,hp,rfl,?_⟩;generalize hs1:(s0 * 48271 + c * 16807 + 11) % 2147483647=s1;have b0:0<=s1:=by rw [<- hs1]; exact ac5 _ (by decide)
 have b1:s1 < 2147483647:=by rw [<- hs1]; exact ac6 _ (by decide)
 refine⟨zQa,p,zQc,.of af,rfl,zQa,p,zQc,.of af,rfl,zQb,.inl ⟨by omega,by omega⟩,zQb,(by show(0:Int) < 2147483647; decide),zQb,⟨by decide,by decide⟩,?_⟩
 generalize hz:s1 * s1 % 2147483647=z;have c0:0<=z:=by rw [<- hz]; exact ac5 _ (by decide)
 have c1:z < 2147483647:=by rw [<- hz]; exact ac6 _ (by decide)
 refine q _ _ (by omega) (by omega) ⟨fun b o n e=>by rw [am n]; exact e,⟨s1,by rw [af]; show some (HO.lst [V.int ((s0 * 48271 + c * 16807 + 11) % 2147483647)])=_; rw [hs1],b0,by omega⟩⟩ fun b e=>?_
 rw [am (fun z=>by rw [z,hp] at e; cases e)]; exact e
theorem St.ne{st:Addr}{H:Hp}(h:St st H){l:Addr}(e:H l=none):l≠st:=fun z=>by obtain⟨s,a,_⟩:=h; rw [z,a] at e; cases e
theorem Ms.set{st:Addr}{H H':Hp}(m:Ms st H H'){l:Addr}(o:HO)(e:H l=none)(n:l≠st):Ms st H (upd H' l o) :=
 ⟨fun b u hb q=>by rw [am (aH q e)]; exact m.keep b u hb q,let ⟨s,a,b⟩:=m.st; ⟨s,by rw [am n.symm]; exact a,b⟩⟩
theorem Ms.new{st:Addr}{H H':Hp}(m:Ms st H H'){l:Addr}(o:HO)(e:H' l=none):Ms st H (upd H' l o):=m.grow (ai e o)
theorem St.mk'{H:Hp}{st:Addr}(c:Int):St st (upd H st (.lst [.int (1 + c % 2147483646)])) :=
 ⟨1 + c % 2147483646,af,by have:=ac5 c (show(2147483646:Int)≠0 by decide); omega,by have:=ac6 c (show(0:Int) < 2147483646 by decide); omega⟩
theorem MN{H:Hp}{p:Addr}{xs:List V}{i:Int}{Q:VK}(hS:SqL K H p xs)(h0:0<=i)(h1:i < xs.length)(hq:∀ v∈xs,Q v H):JI K (.ref p) (.int i) H Q:=by
 obtain⟨v,hv,hm⟩:=IZ h0 h1;exact⟨p,xs,i,v,rfl,rfl,hS,hv,hq v hm⟩
end
open WM (J bl ls)
def sgT:Str:="abcdefghijklmnopqrstuvwxyzABCDEFGHIJKLMNOPQRSTUVWXYZ0123456789"
structure Wd(z:Str):Prop where
 n0:1<=z.length
 n1:z.length<=9
 sg:∀ c∈ls z,c∈ls sgT
structure Wds(ws:List Str):Prop where
 n:ws.length<=7
 w:∀ w∈ws,Wd w
theorem Qk(ts:List Str):ls (C2 (u5 "") ts)=(ts.map ls).flatten:=by
 induction ts with
 | nil=>rfl
 | cons x r ih =>
  cases r with
  | nil=>show ls x=_; simp
  | cons y r =>
   have e:ls (u5 "")=[]:=by decide +kernel
   show(x ++ u5 "" ++ C2 (u5 "") (y :: r)).cps.toList=_;have a:∀ u v:Str,ls (u ++ v)=ls u ++ ls v:=fun u v=>ai0;show ls (x ++ u5 "" ++ C2 (u5 "") (y :: r))=_;rw [a,a,e,Q0,ih]; rfl
def sg1 (c:Nat):Str:=⟨#[c]⟩
theorem Iy(cs:List Nat):ls (C2 (u5 "") (cs.map sg1))=cs:=by
 rw [Qk,A7]
 induction cs with
 | nil=>rfl
 | cons c r ih=>rw [u6,N6,ih]; rfl
theorem CN(cs:List Nat):((cs.map sg1).map (·.length)).sum=cs.length:=by
 induction cs with
 | nil=>rfl
 | cons c r ih=>rw [u6,u6,U2,ih,x9]; show 1 + _=_; omega
theorem Mp:∀(l:List Str),(∀ w∈l,Wd w)->(l.map (·.length)).sum<=l.length * 9
 | [],_=>by simp
 | w :: l,h=>by
  have:=Mp l fun z hz=>h z (u9 _ hz);have h1:=(h w (l8 ..)).n1;rw [u6,U2,x9,af5]; omega
theorem KM(cs:List Nat):(C2 (u5 "") (cs.map sg1)).length=cs.length:=by
 show(C2 (u5 "") (cs.map sg1)).cps.size=_;rw [<- J7]; exact congrArg Q2 (Iy cs)
theorem Pe{xs:List Nat}{i:Int}(h0:0<=i)(h:i < xs.length):∃ c,atI xs i=some c/\c∈xs:=by
 obtain⟨k,rfl⟩:=O3 h0;have hk:k < xs.length:=by omega
 exact⟨xs[k],bA (i5 hk),E9 hk⟩
theorem emd{r m:Int}(h:0 < m):0<=r % m/\r % m < m:=⟨ac5 _ (by omega),ac6 _ h⟩
def sgA:Str:="abcdefghijklmnopqrstuvwxyz"
theorem wP:sgA.cps.toList.length=26:=by decide +kernel
theorem MU:∀ p q:Fin 26,sgA.cps.toList.getD p.val 0=sgA.cps.toList.getD q.val 0->p=q:=by decide +kernel
structure Cn where
 b:Str
 p:Nat
 f:Int
 hp:p < b.length
 h8:b.length<=8
 hs:∀ c∈b.cps.toList,c∈sgA.cps.toList
def nmN (c:Cn):Int:=c.b.length
def nmJ (c:Cn)(k:Nat):Nat:=((c.f + (0 + (k:Int))) % 26).toNat
def nm (c:Cn)(k:Nat):Str:=⟨((c.b.cps.toList.drop 0).take (c.p - 0)).toArray⟩ ++ ⟨#[sgA.cps.toList.getD (nmJ c k) 0]⟩ ++ ⟨((c.b.cps.toList.drop (c.p + 1)).take (c.b.length - (c.p + 1))).toArray⟩
def nmL (c:Cn)(n:Nat):List Str:=(x6 n).map (nm c)
def nms (c:Cn):List Str:=nmL c 24
theorem IA(c:Cn):1<=nmN c/\nmN c<=8:=by
 have h1:=c.hp;have h2:=c.h8;unfold nmN; omega
theorem xw(c:Cn)(k:Nat):(c.f + (0 + (k:Int))) % 26=(nmJ c k:Int)/\nmJ c k < 26:=by
 have:=emd (r:=c.f + (0 + (k:Int))) (show(0:Int) < 26 by decide)
 unfold nmJ; omega
theorem xQ(c:Cn)(k:Nat):(nm c k).cps.toList=c.b.cps.toList.take c.p ++ sgA.cps.toList.getD (nmJ c k) 0 :: (c.b.cps.toList.drop (c.p + 1)).take (c.b.length - (c.p + 1)):=by
 unfold nm;show(_ ++ _:Array Nat).toList=_;rw [ai0];show(_ ++ _:Array Nat).toList ++ _=_;rw [ai0,K0]; rfl
theorem Fq(c:Cn)(k:Nat):(nm c k).length=(nmN c).toNat:=by
 have e:(nm c k).length=(nm c k).cps.toList.length:=(J7).symm;have h:c.b.cps.toList.length=c.b.length:=J7;have h1:=c.hp;rw [e,xQ,A2,x9,A0,A0,G2];unfold nmN;omega
theorem wI{c:Cn}{i j:Nat}(hi:i < 24)(hj:j < 24)(e:nm c i=nm c j):i=j:=by
 have e2:(nm c i).cps.toList=(nm c j).cps.toList:=by rw [e]
 rw [xQ,xQ] at e2;have e3:=ai1 e2;injection e3 with e4 _
 obtain⟨a1,a2⟩:=xw c i;obtain⟨b1,b2⟩:=xw c j;have e5:=congrArg Fin.val (MU ⟨_,a2⟩ ⟨_,b2⟩ e4);dsimp only at e5;omega
theorem Ml{c:Cn}{k x:Nat}(h:x∈(nm c k).cps.toList):x∈sgA.cps.toList:=by
 rw [xQ] at h;rcases B3.mp h with h | h
 ·exact c.hs x (R0 h)
 rcases l6.mp h with rfl | h
 ·have:=(xw c k).2
  have hl:=wP;rw [A4,i5 (by omega)]
  exact E9 _
 ·exact c.hs x (ai2 (R0 h))
def tgs (p:Int)(ns:List Str):List Str:=[([("t0" : Str),"t1","t2"]).getD (p % 3).toNat "t0"]
theorem none_of{H H1:Hp}(s:aS H H1){l:Addr}(h:H1 l=none):H l=none:=by
 cases e:H l with
 | none=>rfl
 | some o=>rw [s _ _ e] at h; cases h
section
variable {P:i8} {w:i7} {K:i3} {mg:Str→Option g7} {base:Heap} {A:Adr}
abbrev xP:j9:=(match aW cQ with | _ :: _ :: _ :: (.Assign _ (.Call _ ((.ListComp _ _ sc _) :: _) _ _) _) :: _=>sc | _=>aj cQ)
theorem uW:Blk (aj cQ) iM xP ["_law_k"] [2,3]:=⟨rfl,zQd,zQd,zQd,zQd⟩
theorem xG:(cy iM ["_law_k"] [2,3]).Nodup:=by decide +kernel
abbrev xv:j9:=(match aW cQ with | _ :: _ :: _ :: _ :: _ :: _ :: (.Return (some (.ListComp _ _ sc _)) _) :: _=>sc | _=>aj cQ)
theorem ux:Blk (aj cQ) iM xv ["_law_k"] [2,5,6,7]:=⟨rfl,zQd,zQd,zQd,zQd⟩
theorem yk:(cy iM ["_law_k"] [2,5,6,7]).Nodup:=by decide +kernel
def Qn:Sp:=fun vs H Q _ => ∃(x:Int) (n:Nat),vs=[.int x,.int n]/\n<=13/\∀(l:Addr) (c:Cn) (H':Hp),H l=none->aS H H'->H' l=some (.lst ((nmL c n).map V.str))->Q (.ref l) H'
seal PE PS PSs L2.PA PT PI PG in
theorem HX(T:Txt K mg A):FnOk P w K mg base CX0 2 A.wv A.wA ly Qn:=by
 have bu:=se (P:=P) (w:=w) (base:=base) T
 exists T.ma.F.ok dw
 ·obtain⟨x,n,rfl,_⟩:=h; rfl
 obtain⟨x,n,rfl,hn,q⟩:=h;refine⟨_,@ah _ _ _ _ _ (aR (i:=2) dw.nd rfl (B9 rfl) ap)
  (@ah _ _ _ _ _ (aR (i:=3) dw.nd rfl (B9 rfl) (bb (aa (aD bZ ag (aD aZ (pv 0) ag)) ae)))
  (@ah _ _ _ _ _ (aR (i:=4) dw.nd rfl (m9 rfl) (aD bZ ag (aD aZ (b9 bu hr rfl T.aw (aa (pv 3) (aa ag ae))) ag)))
  (@ah _ _ _ _ _ (aR (i:=5) dw.nd rfl (B9 rfl) (eZ ac7 ai3 ai4 xJ ap (aa (bO uW rfl (cG rfl T.cq (aa (pv 4) ae)) (fun _ _ _ _ _=>aN (i:=0) xG rfl (.inl rfl)) (fun _ _ _ _ _=>cr) (fun _ _ _ _ _=>aA ui (pv 1) (aD aZ (b9 bu hr rfl T.aw (aa (pv 2) (aa ag ae))) ag) (fun _ _=>rfl))) ae)))
  (@ah _ _ _ _ _ (aR (i:=6) dw.nd rfl (B9 rfl) (aD aZ (b9 bu hr rfl T.aw (aa (pv 3) (aa ag ae))) (pv 4)))
  (@ah _ _ _ _ _ (aR (i:=7) dw.nd rfl (B9 rfl) (aD aZ (b9 bu hr rfl T.aw (aa (pv 3) (aa ag ae))) ag))
  (ak (ar (bO ux rfl (cG rfl T.cq (aa (pv 1) ae)) (fun _ _ _ _ _=>aN (i:=0) yk rfl (.inl rfl)) (fun _ _ _ _ _=>cr) (fun _ _ _ _ _=>aD jw (aD jw (iU FC (pv 2) lB (lD (pv 3))) (aA ui (pv 1) (aD aZ (aD bZ (pv 4) (pv 0)) ag) (fun _ _=>rfl))) (iU FC (pv 2) (lD (aD bZ (pv 3) ag)) lB)))))))))),?_⟩
 refine⟨zQa,zQb,(by show(0:Int) < 2147483646; decide),zQb,aK (by simp),fun st hst=>?_⟩
 have s0:=ai hst (.lst [.int (1 + x % 2147483646)]);have S0:St st (upd H st (.lst [.int (1 + x % 2147483646)])):=St.mk' x;have hf0:∀ b,H b=none->b≠st->upd H st (.lst [.int (1 + x % 2147483646)]) b=none:=fun b e n=>by rw [am n]; exact e
 generalize upd H st (.lst [.int (1 + x % 2147483646)])=H0 at s0 S0 ⊢;refine⟨zQa,st,0,rfl,S0,fun r1 H1 _ _ m1 _=>⟨zQb,(by show(0:Int) < 8; decide),zQb,?_⟩⟩
 have h1:=emd (r:=r1) (show(0:Int) < 8 by decide)
 generalize e8:r1 % 8=z8 at h1 ⊢;refine⟨rfl,zQa,zQa,by omega,by omega,nU (n:=(1 + z8).toNat) (fun j acc H' => ∃ cs:List Nat,acc=(cs.map sg1).map V.str/\cs.length=j/\j<=8/\(∀ c∈cs,c∈sgA.cps.toList)/\Ms st H0 H') ⟨[],rfl,rfl,by decide,fun c h=>(by cases h),m1⟩ (fun j acc H' z=>?_) (fun j acc H' R k hj z=>?_) fun acc H' z=>?_⟩
 ·obtain⟨cs,rfl,h1,h2,_⟩:=z
  rw [i4,i4]; exact az (by omega)
 ·obtain⟨cs,rfl,h2,h3,h4,m2⟩:=z
  dsimp only [gW]; rw [if_pos rfl];refine⟨zQa,zQa,st,0,rfl,m2.st,fun u H6 _ _ m8 _=>?_⟩;have hu:=emd (r:=u) (show(0:Int) < 26 by decide)
  obtain⟨c,hc,hcm⟩:=Pe (xs:=sgA.cps.toList) hu.1 (by rw [wP]; exact hu.2)
  refine⟨zQb,(by show(0:Int) < 26; decide),sgA,_,c,rfl,rfl,(by decide +kernel),hc,?_⟩
  refine k _ _ ⟨cs ++ [c],?_,by simp; omega,by omega,fun c' hc'=>?_,m2.trans m8⟩
  ·rw [j6,j6]; rfl
  ·rcases B3.mp hc' with hc' | hc'
   ·exact h4 c' hc'
   ·rw [A5.mp hc']; exact hcm
 obtain⟨cs,rfl,h2,h3,h4,m2⟩:=z;intro jl hjl;have m3:=m2.new (.lst ((cs.map sg1).map V.str)) hjl;refine⟨u5 "",jl,cs.map sg1,rfl,rfl,.of af,?_,?_⟩
 ·have e:(u5 "").length=0:=by decide +kernel
  rw [CN,e]; omega
 have hbl:=KM cs;have hbs:∀ c∈(C2 (u5 "") (cs.map sg1)).cps.toList,c∈sgA.cps.toList:=fun c hc=>h4 c (by have:=Iy cs; unfold WM.ls at this; rw [this] at hc; exact hc)
 generalize C2 (u5 "") (cs.map sg1)=b at hbl hbs ⊢;generalize upd H' jl (.lst ((cs.map sg1).map V.str))=H3 at m3 ⊢;refine⟨zQa,st,0,rfl,m3.st,fun r4 H4 _ _ m4 _=>⟨zQa,zQb,(by show(0:Int) < 1 + z8; omega),?_⟩⟩
 have hp:=emd (r:=r4) (show(0:Int) < 1 + z8 by omega)
 obtain⟨p,ep⟩:=O3 hp.1;refine⟨zQa,st,0,rfl,m4.st,fun r5 H5 _ _ m5 _=>⟨zQb,(by show(0:Int) < 26; decide),?_⟩⟩
 have m6:=(m3.trans m4).trans m5;obtain⟨c,hcb,hcp,hcf⟩:∃ c:Cn,c.b=b/\c.p=p/\c.f=r5 % 26:=⟨⟨b,p,r5 % 26,by omega,by omega,hbs⟩,rfl,rfl,rfl⟩
 refine⟨zQa,zQa,by omega,by omega,nU (n:=((n:Nat):Int).toNat) (fun i acc H'=>H'=H5/\acc=(nmL c i).map V.str/\i<=n) ⟨rfl,rfl,x5 _⟩ (fun i acc H' z=>?_) (fun i acc H' R k hi z=>?_) fun acc H' z=>?_⟩
 ·rw [z.2.1,i4,nmL,i4,R5]; exact az (by have:=z.2.2; omega)
 ·obtain⟨rfl,rfl,h⟩:=z
  dsimp only [gW]; rw [if_pos rfl];obtain⟨j1,j2⟩:=xw c i;rw [hcf] at j1;refine⟨zQa,zQa,zQa,b,0,p,rfl,.inl ⟨rfl,rfl⟩,.inr (congrArg some ep),x5 _,by omega,by omega,zQa,zQa,zQa,zQb,zQb,(by show(0:Int) < 26; decide),sgA,_,sgA.cps.toList.getD (nmJ c i) 0,rfl,rfl,(by decide +kernel),?_,?_⟩
  ·rw [j1]
   refine bA ?_;have h:=wP;rw [A4,i5 (by omega)]; rfl
  have hl:b.cps.toList.length=b.length:=J7;refine⟨zQb,?_,zQa,zQa,zQb,zQa,b,p + 1,b.length,rfl,.inr (by rw [ep]; rfl),.inl ⟨rfl,rfl⟩,by omega,i6 _,by omega,zQb,?_,?_⟩
  ·show((b.cps.toList.drop 0).take (p - 0)).toArray.size + 1<=sizeLine
   rw [l9,A0]; exact aK (by omega)
  ·rw [X7]
   show((b.cps.toList.drop 0).take (p - 0)).toArray.size + 1 + ((b.cps.toList.drop (p + 1)).take (b.length - (p + 1))).toArray.size<=sizeLine;rw [l9,l9,A0,A0]; exact aK (by omega)
  ·refine k _ _ ⟨rfl,?_,by omega⟩
   unfold nmL;rw [T7,j6,j6,ap6,ap6,nm,hcb,hcp]
 ·obtain⟨rfl,rfl,_⟩:=z
  intro l hl;have nl:H0 l=none:=m6.free S0 hl;refine q l c _ (none_of s0 nl) (fun b o e=>?_) (by rw [af]; rfl)
  have nb:b≠st:=fun z=>by rw [z,hst] at e; cases e
  exact ai hl _ _ _ (m6.keep _ _ nb (s0 _ _ e))
def sgX:Str:="abcxyzABCXYZ059"
theorem IY:sgX.cps.toList.length=15:=by decide +kernel
theorem MX:∀ c∈sgX.cps.toList,c∈ls sgT:=by decide +kernel
abbrev sN:j9:=(match aW dN with | _ :: _ :: (.For _ _ (_ :: (.Expr (.Call _ ((.Call _ ((.ListComp _ _ sc _) :: _) _ _) :: _) _ _) _) :: _) _ _) :: _=>sc | _=>aj dN)
theorem qX:Blk (aj dN) ki sN ["_law_j"] [0,1]:=⟨rfl,zQd,zQd,zQd,zQd⟩
theorem sZ:(cy ki ["_law_j"] [0,1]).Nodup:=by decide +kernel
def Nr:Sp:=fun vs H Q _ => ∃(st:Addr),vs=[.ref st]/\St st H/\∀(ws:List Str) (H':Hp),Ms st H H'->Wds ws->Q (.str (J ws)) H'
seal PE PS PSs L2.PA PT PI PG in
theorem Jw(T:Txt K mg A):FnOk P w K mg base CX0 2 A.pZ A.qr gZ Nr:=by
 have bu:=se (P:=P) (w:=w) (base:=base) T
 exists T.hV.F.ok eG
 ·obtain⟨st,rfl,_⟩:=h; rfl
 obtain⟨st,rfl,hst,q⟩:=h;refine⟨_,@ah _ _ _ _ _ (aR (i:=1) eG.nd rfl (B9 rfl) ap)
  (@ah _ _ _ _ _ (aR (i:=2) eG.nd rfl (m9 rfl) (bb ae))
  (@ah _ _ _ _ _ (dZ F7 rfl (cG rfl T.cq (aa (aD aZ (b9 bu hr rfl T.aw (aa (pv 0) (aa ag ae))) ag) ae)) (aN (i:=3) eG.nd rfl (m9 rfl)) (@ah _ _ _ _ _ (aR (i:=4) eG.nd rfl (m9 rfl) (aD bZ ag (aD aZ (b9 bu hr rfl T.aw (aa (pv 0) (aa ag ae))) ag)))
  (ak (bB (eZ F1 O4 O5 cX (pv 2) (aa (eZ ac7 ai3 ai4 xJ ap (aa (bO qX rfl (cG rfl T.cq (aa (pv 4) ae)) (fun _ _ _ _ _=>aN (i:=0) sZ rfl (.inl rfl)) (fun _ _ _ _ _=>cr) (fun _ _ _ _ _=>aA ui (pv 2) (aD aZ (b9 bu hr rfl T.aw (aa (pv 1) (aa ag ae))) ag) (fun _ _=>rfl))) ae)) ae))))))
  (ak (ar (eZ ac7 ai3 ai4 xJ ap (aa (pv 2) ae)))))),?_⟩
 refine⟨aK (by simp),fun wl hwl=>?_⟩
 have nw:=hst.ne hwl;have m1:Ms st H (upd H wl (.lst [])):=.of hst (ai hwl _);have e1:upd H wl (.lst []) wl=some (.lst []):=af;generalize upd H wl (.lst [])=H1 at m1 e1 ⊢;refine⟨zQa,st,0,rfl,m1.st,fun r H2 _ _ m3 _=>⟨zQb,(by show(0:Int) < 6; decide),?_⟩⟩
 have hr6:=emd (r:=r) (show(0:Int) < 6 by decide)
 refine⟨_,rfl,by omega,by omega,gG (n:=(r % 6).toNat) (fun i σ H' => ∃(v4 v5:Option V) (ws:List Str),σ=[some (.ref st),some (.str sgX),some (.ref wl),v4,v5]/\Ms st H H'/\H' wl=some (.lst (ws.map V.str))/\ws.length=i/\∀ w∈ws,Wd w)
  ⟨none,none,[],rfl,m1.trans m3,m3.keep _ _ nw e1,rfl,fun w h=>(by cases h)⟩ ?_ ?_⟩
 ·rintro i σ H3 hi ⟨v4,v5,ws,rfl,m4,e4,hl,hw⟩
  refine⟨zQa,st,0,rfl,m4.st,fun p H4 _ _ m5 _=>⟨zQb,(by show(0:Int) < 6; decide),zQb,?_⟩⟩
  have hp6:=emd (r:=p) (show(0:Int) < 6 by decide)
  have m6:=m4.trans m5;have e6:=m5.keep _ _ nw e4;refine⟨zQa,.inl ⟨rfl,_,.of e6⟩,rfl,zQa,zQa,by omega,by omega,nU (n:=(1 + p % 6).toNat) (fun j acc H' => ∃ cs:List Nat,acc=(cs.map sg1).map V.str/\cs.length=j/\j<=9/\(∀ c∈cs,c∈ls sgT)/\Ms st H H'/\H' wl=some (.lst (ws.map V.str))) ⟨[],rfl,rfl,by decide,fun c h=>(by cases h),m6,e6⟩ (fun j acc H' z=>?_) (fun j acc H' R k hj z=>?_) fun acc H' z=>?_⟩
  ·obtain⟨cs,rfl,h1,h2,_⟩:=z
   rw [i4,i4]; exact az (by omega)
  ·obtain⟨cs,rfl,h1,h2,h3,m7,e7⟩:=z
   dsimp only [gW]; rw [if_pos rfl];refine⟨zQa,zQa,st,0,rfl,m7.st,fun u H6 _ _ m8 _=>?_⟩;have hu:=emd (r:=u) (show(0:Int) < 15 by decide)
   obtain⟨c,hc,hcm⟩:=Pe (xs:=sgX.cps.toList) hu.1 (by rw [IY]; exact hu.2)
   refine⟨zQb,(by show(0:Int) < 15; decide),sgX,_,c,rfl,rfl,(by decide +kernel),hc,?_⟩
   refine k _ _ ⟨cs ++ [c],?_,by simp; omega,by omega,fun c' hc'=>?_,m7.trans m8,m8.keep _ _ nw e7⟩
   ·rw [j6,j6]; rfl
   ·rcases B3.mp hc' with hc' | hc'
    ·exact h3 c' hc'
    ·rw [A5.mp hc']; exact MX _ hcm
  ·obtain⟨cs,rfl,h1,h2,h3,m7,e7⟩:=z
   intro jl hjl;have m8:=m7.new (.lst ((cs.map sg1).map V.str)) hjl;have e8:upd H' jl (.lst ((cs.map sg1).map V.str)) wl=some (.lst (ws.map V.str)):=by rw [am (aH e7 hjl)]; exact e7
   refine⟨u5 "",jl,cs.map sg1,rfl,rfl,.of af,?_,wl,zQb,e8,?_,?_⟩
   ·have e:(u5 "").length=0:=by decide +kernel
    rw [CN,e]; omega
   ·rw [i4]; exact az (by omega)
   ·refine⟨_,_,ws ++ [C2 (u5 "") (cs.map sg1)],rfl,m8.set _ hwl nw,?_,by simp; omega,fun w hw'=>?_⟩
    ·rw [af,j6]; rfl
    ·rcases B3.mp hw' with h | h
     ·exact hw w h
     ·rw [A5.mp h]
      have el:=KM cs;exact⟨by omega,by omega,fun c hc=>h3 c (by rw [Iy cs] at hc; exact hc)⟩
 ·rintro σ H3 ⟨v4,v5,ws,rfl,m4,e4,hl,hw⟩
  refine⟨rfl,zQa,bl,wl,ws,rfl,rfl,.of e4,?_,q ws H3 m4 ⟨by omega,hw⟩⟩
  have:=Mp ws hw;have e:bl.length=1:=by decide +kernel
  rw [e]; omega
end
inductive Mo where
 | no:Mo
 | tx (ws:List Str):Mo
 | nu (n:Int):Mo
def Mo.v:Mo->V
 | .no=>.non
 | .tx ws=>.str (J ws)
 | .nu n=>.int n
structure Rw where
 kind:Str
 name:Str
 tags:List Str
 more:Mo
 about:Int
 deep:Int
def Rw.vs (r:Rw)(t:Addr):List V:=[.str r.kind,.str r.name,.ref t,r.more.v,.int r.about,.int r.deep]
structure Lr where
 a:Addr
 t:Addr
 r:Rw
def Az:Str:="blank"
def jb:Str:="words"
def vz:Str:="grid"
def vt:List Str:=["row","column","words","blank","flow","grid","pile"]
def QR (r:Rw):Prop:=r.kind≠Az/\r.kind≠jb/\r.deep < 8
def EK (k:Str)(m:Mo):Prop:=(k=jb/\∃ ws,m = .tx ws/\Wds ws)\/(k=vz/\∃ n:Int,m = .nu n/\1<=n/\n<=9)\/(k≠jb/\k≠vz/\m = .no)
structure RowOk(c:Cn)(xs:List Lr)(i:Nat)(r:Rw):Prop where
 name:r.name=nm c i
 kind:r.kind∈vt
 more:EK r.kind r.more
 tags:∃ p,r.tags=tgs p (nms c)
 about:(i=0/\r.about = -1/\r.deep=1)\/∃(j:Nat) (h:Lr),j < i/\xs[j]? = some h/\r.about=(j:Int)/\QR h.r/\r.deep=h.r.deep + 1
structure RwsOk(c:Cn)(xs:List Lr):Prop where
 n:xs.length<=12
 row:∀(i:Nat) (x:Lr),xs[i]? = some x->RowOk c xs i x.r
theorem RwsOk.deep{c:Cn}{xs:List Lr}(h:RwsOk c xs):∀(i:Nat) (x:Lr),xs[i]? = some x->1<=x.r.deep/\x.r.deep<=8:=by
 intro i
 induction i using ai5 with
 | ind i ih =>
  intro x hx;rcases(h.row i x hx).about with ⟨_,_,e⟩ | ⟨j,y,hj,hy,_,hh,e⟩
  ·omega
  ·have:=ih j hj y hy
   have h3:=hh.2.2;omega
theorem RowOk.more'{c:Cn}{xs:List Lr}{i:Nat}{r:Rw}(h:RowOk c xs i r)(ys:List Lr):RowOk c (xs ++ ys) i r:=⟨h.name,h.kind,h.more,h.tags,h.about.imp id fun⟨j,y,hj,hy,e⟩=>⟨j,y,hj,by rw [Z9 (r9.mp hy).1]; exact hy,e⟩⟩
theorem RwsOk.snoc{c:Cn}{xs:List Lr}{x:Lr}(h:RwsOk c xs)(n:xs.length < 12)(hx:RowOk c xs xs.length x.r):RwsOk c (xs ++ [x]):=by
 refine⟨by simp; omega,fun i y hy=>?_⟩
 rw [X8] at hy;split at hy
 ·exact(h.row i y hy).more' _
 ·rename_i hi
  have e:i=xs.length:=by
   have:=(r9.mp hy).1;simp at this; omega
  subst e;rw [U4] at hy;cases hy;exact hx.more' _
inductive Bx where
 | mk (kind name:Str) (tags:List Str) (more:Mo) (kids:List Bx):Bx
inductive IsBx(H:Hp):Addr->Bx->Prop where
 | mk {a t ks:Addr} {kind name:Str} {tags:List Str} {more:Mo} {kids:List Bx} {as:List Addr} (box:H a=some (.tup [.str kind,.str name,.ref t,more.v,.ref ks])) (tg:H t=some (.tup (tags.map V.str)))
   (ks:H ks=some (.tup (as.map V.ref))) (n:as.length=kids.length) (k:∀(i:Nat) (b:Addr) (z:Bx),as[i]? = some b->kids[i]? = some z->IsBx H b z):IsBx H a (.mk kind name tags more kids)
theorem IsBx.same{H H':Hp}(s:aS H H'){a:Addr}{b:Bx}(h:IsBx H a b):IsBx H' a b:=by
 induction h with
 | mk h1 h2 h3 h4 h5 ih=>exact .mk (s _ _ h1) (s _ _ h2) (s _ _ h3) h4 ih
def ay (xs:List Lr)(k:Nat):List Nat:=(x6 xs.length).filter fun j=>match xs[j]? with | some x=>x.r.about == (k:Int) | none=>false
theorem cA{xs:List Lr}{k j:Nat}:j∈ay xs k↔∃ x,xs[j]? = some x/\x.r.about=(k:Int):=by
 unfold ay;rw [G5,I0]
 constructor
 ·rintro⟨h,e⟩
  rw [i5 h] at e;exact⟨_,i5 h,by simpa using e⟩
 ·rintro⟨x,hx,e⟩
  refine⟨(r9.mp hx).1,?_⟩;rw [hx]
  simpa using e
theorem aQ{c:Cn}{xs:List Lr}(h:RwsOk c xs){k j:Nat}(hj:j∈ay xs k):k < j/\j < xs.length:=by
 obtain⟨x,hx,e⟩:=cA.mp hj;refine⟨?_,(r9.mp hx).1⟩;rcases(h.row j x hx).about with ⟨_,e2,_⟩ | ⟨i,y,hi,_,e2,_⟩ <;> omega
def bx (xs:List Lr):Nat->Nat->Bx
 | 0,_=>.mk u7 u7 [] .no []
 | n + 1,k=>match xs[k]? with
  | some x=>.mk x.r.kind x.r.name x.r.tags x.r.more ((ay xs k).map (bx xs n))
  | none=>.mk u7 u7 [] .no []
theorem Cu{c:Cn}{xs:List Lr}(h:RwsOk c xs):∀(n m k:Nat),xs.length - k<=n->n<=m->k < xs.length->bx xs m k=bx xs n k
 | 0,_,k,h1,_,h3=>by omega
 | n + 1,0,_,_,h2,_=>by omega
 | n + 1,m + 1,k,h1,h2,h3=>by
  unfold bx;rw [i5 h3];have:(ay xs k).map (bx xs m)=(ay xs k).map (bx xs n):=K3 fun j hj=>by
   obtain⟨a,b⟩:=aQ h hj;exact Cu h n m j (by omega) (by omega) b
  simp only [this]
def kr (xs:List Lr)(k:Nat):Bx:=bx xs (xs.length - k) k
theorem Ci{c:Cn}{xs:List Lr}(h:RwsOk c xs){k:Nat}{x:Lr}(hx:xs[k]? = some x):kr xs k = .mk x.r.kind x.r.name x.r.tags x.r.more ((ay xs k).map (kr xs)):=by
 have hk:=(r9.mp hx).1;obtain⟨n,hn⟩:∃ n,xs.length - k=n + 1:=⟨xs.length - k - 1,by omega⟩
 have e:kr xs k=bx xs (n + 1) k:=by unfold kr; rw [hn]
 have e2:bx xs (n + 1) k = .mk x.r.kind x.r.name x.r.tags x.r.more ((ay xs k).map (bx xs n)):=by rw [bx,hx]
 have:(ay xs k).map (bx xs n)=(ay xs k).map (kr xs):=K3 fun j hj=>by
  obtain⟨a,b⟩:=aQ h hj;exact Cu h _ _ j (i6 _) (by omega) b
 rw [e,e2,this]
def od (xs:List Lr):Nat->Nat->List Nat
 | 0,_=>[]
 | n + 1,k=>k :: ((ay xs k).map (od xs n)).flatten
theorem CF{c:Cn}{xs:List Lr}(h:RwsOk c xs):∀(n m k:Nat),xs.length - k<=n->n<=m->k < xs.length->od xs m k=od xs n k
 | 0,_,k,h1,_,h3=>by omega
 | n + 1,0,_,_,h2,_=>by omega
 | n + 1,m + 1,k,h1,h2,h3=>by
  have:(ay xs k).map (od xs m)=(ay xs k).map (od xs n):=K3 fun j hj=>by
   obtain⟨a,b⟩:=aQ h hj;exact CF h n m j (by omega) (by omega) b
  rw [od,od,this]
def bp (xs:List Lr)(k:Nat):List Nat:=od xs (xs.length - k) k
theorem gx{c:Cn}{xs:List Lr}(h:RwsOk c xs){k:Nat}(hk:k < xs.length):bp xs k=k :: ((ay xs k).map (bp xs)).flatten:=by
 obtain⟨n,hn⟩:∃ n,xs.length - k=n + 1:=⟨xs.length - k - 1,by omega⟩
 have e:bp xs k=od xs (n + 1) k:=by unfold bp; rw [hn]
 have:(ay xs k).map (od xs n)=(ay xs k).map (bp xs):=K3 fun j hj=>by
  obtain⟨a,b⟩:=aQ h hj;exact CF h _ _ j (i6 _) (by omega) b
 rw [e,od,this]
theorem jN{c:Cn}{xs:List Lr}(h:RwsOk c xs):∀(n k:Nat),xs.length - k<=n->k < xs.length->∀ j∈bp xs k,k<=j/\j < xs.length
 | 0,k,h1,h2,_,_=>by omega
 | n + 1,k,h1,h2,j,hj=>by
  rw [gx h h2] at hj;rcases l6.mp hj with rfl | hj
  ·omega
  ·obtain⟨l,hl,hj⟩:=G9.mp hj
   obtain⟨i,hi,rfl⟩:=w8.mp hl;obtain⟨a,b⟩:=aQ h hi;have:=jN h n i (by omega) b j hj
   omega
theorem CC:∀(l:List Nat) (m N:Nat),l.Pairwise (· < ·)->(∀ j∈l,m<=j/\j < N)->(l.map fun j=>2 ^ (N - j)).sum + 2<=2 ^ (N - m + 1)
 | [],m,N,_,_=>by
  have:1<=2 ^ (N - m):=Nat.one_le_two_pow;rw [Nat.pow_succ]; simp; omega
 | j :: l,m,N,hp,hb=>by
  have hj:=hb j (l8 ..);have ih:=CC l (j + 1) N (X9.mp hp).2 fun i hi=>⟨(X9.mp hp).1 i hi,(hb i (u9 _ hi)).2⟩;have e:N - (j + 1) + 1=N - j:=by omega
  rw [e] at ih;rw [u6,U2];have e2:2 ^ (N - j + 1)=2 ^ (N - j) * 2:=Nat.pow_succ ..;have e3:2 ^ (N - j + 1)<=2 ^ (N - m + 1):=ap7 (by decide) (by omega)
  omega
theorem pE(xs:List Lr)(k:Nat):(ay xs k).Pairwise (· < ·):=ap8 _ ap9
theorem yY{c:Cn}{xs:List Lr}(h:RwsOk c xs):∀(n k:Nat),xs.length - k<=n->k < xs.length->(bp xs k).length<=2 ^ (xs.length - k)
 | 0,k,h1,h2=>by omega
 | n + 1,k,h1,h2=>by
  rw [gx h h2,x9,List.length_flatten,A7];have le:∀ l:List Nat,(∀ j∈l,j∈ay xs k)->(l.map (Q2 ∘ bp xs)).sum<=(l.map fun j=>2 ^ (xs.length - j)).sum:=fun l=>by
   induction l with
   | nil=>intro _; simp
   | cons j l ih =>
    intro hl;have h1':=ih fun i hi=>hl i (u9 _ hi);obtain⟨a,b⟩:=aQ h (hl j (l8 ..));have h2':=yY h n j (by omega) b
    rw [u6,u6,U2,U2];exact Nat.add_le_add h2' h1'
  have h3:=le _ fun j hj=>hj;have h4:=CC (ay xs k) (k + 1) xs.length (pE xs k) fun j hj=>by
   obtain⟨a,b⟩:=aQ h hj;omega
  have e:xs.length - (k + 1) + 1=xs.length - k:=by omega
  rw [e] at h4;omega
theorem Kj{c:Cn}{xs:List Lr}(h:RwsOk c xs){k:Nat}(hk:k < xs.length):(bp xs k).length<=4096:=by
 have h1:=yY h _ k (i6 _) hk;have h2:2 ^ (xs.length - k)<=2 ^ 12:=ap7 (by decide) (by have:=h.n; omega)
 exact B8 h1 (B8 h2 (by decide))
theorem aI{c:Bool}{A B:Prop}(h:c=false)(b:B):if c=true then A else B:=by subst h; exact aV b
theorem aM{c:Bool}{A B:Prop}(h:c=true)(a:A):if c=true then A else B:=by subst h; exact ax a
inductive F2{α β:Type}(R:α->β->Prop):List α->List β->Prop where
 | nil:F2 R [] []
 | cons {a:α} {b:β} {l:List α} {m:List β} (h:R a b) (t:F2 R l m):F2 R (a :: l) (b :: m)
section
variable {α β:Type} {R S:α→β→Prop}
theorem F2.mono(h:∀ a b,R a b->S a b){l:List α}{m:List β}(x:F2 R l m):F2 S l m:=by
 induction x with
 | nil=>exact .nil
 | cons r _ ih=>exact .cons (h _ _ r) ih
theorem F2.len{l:List α}{m:List β}(x:F2 R l m):l.length=m.length:=by
 induction x with
 | nil=>rfl
 | cons _ _ ih=>rw [x9,x9,ih]
theorem F2.append{l l':List α}{m m':List β}(x:F2 R l m)(y:F2 R l' m'):F2 R (l ++ l') (m ++ m'):=by
 induction x with
 | nil=>exact y
 | cons r _ ih=>exact .cons r ih
theorem F2.one{a:α}{b:β}(h:R a b):F2 R [a] [b]:=.cons h .nil
theorem F2.get{l:List α}{m:List β}(x:F2 R l m):∀ {i:Nat} {a:α} {b:β},l[i]? = some a->m[i]? = some b->R a b:=by
 induction x with
 | nil=>intro i a b h; cases h
 | cons r _ ih =>
  intro i a b h1 h2;cases i with
  | zero=>cases h1; cases h2; exact r
  | succ i=>exact ih (by simpa using h1) (by simpa using h2)
theorem F2.of:∀ {l:List α} {m:List β},l.length=m.length->(∀(i:Nat) (a:α) (b:β),l[i]? = some a->m[i]? = some b->R a b)->F2 R l m
 | [],[],_,_=>.nil
 | [],_ :: _,h,_=>by cases h
 | _ :: _,[],h,_=>by cases h
 | a :: l,b :: m,h,k=>.cons (k 0 a b rfl rfl) (F2.of (by simpa using h) fun i x y h1 h2=>k (i + 1) x y (by simpa using h1) (by simpa using h2))
theorem F2.last{l:List α}{m:List β}{b:β}(x:F2 R l (m ++ [b])):∃ l' a,l=l' ++ [a]/\F2 R l' m/\R a b:=by
 induction m generalizing l with
 | nil =>
  cases x with
  | cons r t=>cases t; exact⟨[],zQa,.nil,r⟩
 | cons c m ih =>
  cases x with
  | cons r t =>
   obtain⟨l',a,rfl,t',r'⟩:=ih t;exact⟨_ :: l',a,rfl,.cons r t',r'⟩
end
abbrev fU (xs:List Lr)(H:Hp)(as:List Addr)(js:List Nat):Prop:=F2 (fun a j=>IsBx H a (kr xs j)) as js
theorem fU.same{xs:List Lr}{H H':Hp}(s:aS H H'){as:List Addr}{js:List Nat}(h:fU xs H as js):fU xs H' as js:=h.mono fun _ _ x=>x.same s
theorem IsBx.row{c:Cn}{xs:List Lr}(ok:RwsOk c xs){H:Hp}{a:Addr}{k:Nat}{x:Lr}(hx:xs[k]? = some x)(h:IsBx H a (kr xs k)):∃(t ks:Addr) (as:List Addr),H a=some (.tup [.str x.r.kind,.str x.r.name,.ref t,x.r.more.v,.ref ks])/\H t=some (.tup (x.r.tags.map V.str))/\H ks=some (.tup (as.map V.ref))/\fU xs H as (ay xs k):=by
 rw [Ci ok hx] at h;cases h with
 | @mk _ t ks _ _ _ _ _ as h1 h2 h3 h4 h5 =>
  refine⟨t,ks,as,h1,h2,h3,F2.of (by rw [h4,i4]) fun i b j hb hj=>h5 i b _ hb ?_⟩
  rw [o0,hj]; rfl
def anc (xs:List Lr):Nat->Nat->List Nat
 | 0,_=>[]
 | n + 1,k=>match xs[k]? with
  | some x=>(if x.r.about < 0 then [] else anc xs n x.r.about.toNat) ++ [k]
  | none=>[]
theorem zh{c:Cn}{xs:List Lr}(h:RwsOk c xs):∀(n m k:Nat),k < n->n<=m->k < xs.length->anc xs m k=anc xs n k
 | 0,_,k,h1,_,_=>by omega
 | n + 1,0,_,_,h2,_=>by omega
 | n + 1,m + 1,k,h1,h2,h3=>by
  have ex:xs[k]? = some xs[k]:=i5 h3;unfold anc;rw [ex];dsimp only;rcases(h.row k _ ex).about with ⟨_,e,_⟩ | ⟨j,y,hj,hy,e,_⟩
  ·rw [e,if_pos (by decide),if_pos (by decide)]
  ·rw [e,if_neg (by omega),if_neg (by omega),J9,zh h n m j (by omega) (by omega) (by omega)]
def dG (xs:List Lr)(k:Nat):List Nat:=anc xs (k + 1) k
theorem jr{c:Cn}{xs:List Lr}(h:RwsOk c xs){k:Nat}{x:Lr}(hx:xs[k]? = some x)(e:x.r.about = -1):dG xs k=[k]:=by
 unfold dG anc;rw [hx];dsimp only;rw [e,if_pos (by decide)]; rfl
theorem cF{c:Cn}{xs:List Lr}(h:RwsOk c xs){j k:Nat}(hk:k∈ay xs j):dG xs k=dG xs j ++ [k]:=by
 obtain⟨x,hx,e⟩:=cA.mp hk;obtain⟨h1,h2⟩:=aQ h hk;unfold dG;rw [show anc xs (k + 1) k=_ from by rw [anc,hx]]
 dsimp only;rw [e,if_neg (by omega),J9,zh h (j + 1) k j (by omega) (by omega) (by omega)]
theorem Ed{c:Cn}{xs:List Lr}(h:RwsOk c xs):∀(k:Nat),k < xs.length->(dG xs k).length<=k + 1:=by
 intro k
 induction k using ai5 with
 | ind k ih =>
  intro hk;have ex:xs[k]? = some xs[k]:=i5 hk;rcases(h.row k _ ex).about with ⟨_,e,_⟩ | ⟨j,y,hj,hy,e,_⟩
  ·rw [jr h ex e]; simp
  ·rw [cF h (cA.mpr ⟨_,ex,e⟩),A2]
   have:=ih j hj (by omega)
   simp; omega
theorem Il{c:Cn}{xs:List Lr}(h:RwsOk c xs){k:Nat}(hk:k < xs.length)(h0:k≠0):∃ j,j < k/\k∈ay xs j:=by
 have ex:xs[k]? = some xs[k]:=i5 hk;rcases(h.row k _ ex).about with ⟨e0,_⟩ | ⟨j,y,hj,hy,e,_⟩
 ·exact absurd e0 h0
 ·exact⟨j,hj,cA.mpr ⟨_,ex,e⟩⟩
theorem tN{c:Cn}{xs:List Lr}(h:RwsOk c xs){x:Lr}(hx:xs[0]? = some x):x.r.about = -1:=by
 rcases(h.row 0 _ hx).about with ⟨_,e,_⟩ | ⟨j,y,hj,_⟩
 ·exact e
 ·omega
theorem zk{c:Cn}{xs:List Lr}(h:RwsOk c xs):∀(n i j k:Nat),xs.length - i<=n->i < xs.length->j∈bp xs i->k∈ay xs j->k∈bp xs i
 | 0,i,_,_,h1,h2,_,_=>by omega
 | n + 1,i,j,k,h1,h2,hj,hk=>by
  have hkl:=aQ h hk;rw [gx h h2] at hj ⊢;rcases l6.mp hj with rfl | hj
  ·refine u9 _ (G9.mpr ⟨_,w8.mpr ⟨k,hk,rfl⟩,?_⟩)
   rw [gx h hkl.2]; exact l8 ..
  ·obtain⟨l,hl,hj⟩:=G9.mp hj
   obtain⟨m,hm,rfl⟩:=w8.mp hl;obtain⟨m1,m2⟩:=aQ h hm;exact u9 _ (G9.mpr ⟨_,w8.mpr ⟨m,hm,rfl⟩,zk h n m j k (by omega) m2 hj hk⟩)
theorem zQ{c:Cn}{xs:List Lr}(h:RwsOk c xs):∀(k:Nat),k < xs.length->k∈bp xs 0:=by
 intro k
 induction k using ai5 with
 | ind k ih =>
  intro hk;by_cases h0:k=0
  ·subst h0; rw [gx h hk]; exact l8 ..
  ·obtain⟨j,hj,hm⟩:=Il h hk h0
   exact zk h _ 0 j k (i6 _) (by omega) (ih j hj (by omega)) hm
def di (xs:List Lr)(js:List Nat):Nat:=((js.map (bp xs)).flatten).length
theorem gE{xs:List Lr}(js ks:List Nat):di xs (js ++ ks)=di xs js + di xs ks:=by unfold di; simp
theorem zM{c:Cn}{xs:List Lr}(h:RwsOk c xs){js:List Nat}{j:Nat}(hj:j < xs.length):di xs (js ++ ay xs j) < di xs (js ++ [j]):=by
 rw [gE,gE];unfold di;rw [u6,T1,gx h hj];simp
theorem nH(xs:List Lr)(k:Nat):(ay xs k).length<=xs.length:=by
 unfold ay;have:=R6 (fun j=>match xs[j]? with | some x=>x.r.about == (k:Int) | none=>false) (x6 xs.length)
 rw [R5] at this;exact this
inductive Tr where
 | non:Tr
 | bl (b:Bool):Tr
 | int (i:Int):Tr
 | str (x:Str):Tr
 | tup (l:List Tr):Tr
 | lst (l:List Tr):Tr
 | dic:Tr
inductive TrAt(H:Hp):Tr->V->Prop where
 | non:TrAt H .non .non
 | bl (b:Bool):TrAt H (.bl b) (.bl b)
 | int (i:Int):TrAt H (.int i) (.int i)
 | str (x:Str) (h:x.length<=400):TrAt H (.str x) (.str x)
 | tup {a:Addr} {vs:List V} {l:List Tr} (e:H a=some (.tup vs)) (n:vs.length=l.length) (k:∀(i:Nat) (v:V) (t:Tr),vs[i]? = some v->l[i]? = some t->TrAt H t v):TrAt H (.tup l) (.ref a)
 | lst {a:Addr} {vs:List V} {l:List Tr} (e:H a=some (.lst vs)) (n:vs.length=l.length) (k:∀(i:Nat) (v:V) (t:Tr),vs[i]? = some v->l[i]? = some t->TrAt H t v):TrAt H (.lst l) (.ref a)
 | dic {a:Addr} (e:H a=some (.dK [])):TrAt H .dic (.ref a)
theorem TrAt.same{H H':Hp}(s:aS H H'){t:Tr}{v:V}(h:TrAt H t v):TrAt H' t v:=by
 induction h with
 | non=>exact .non
 | bl b=>exact .bl b
 | int i=>exact .int i
 | str x h=>exact .str x h
 | tup e n _ ih=>exact .tup (s _ _ e) n ih
 | lst e n _ ih=>exact .lst (s _ _ e) n ih
 | dic e=>exact .dic (s _ _ e)
abbrev cL (H:Hp)(l:List Tr)(vs:List V):Prop:=F2 (TrAt H) l vs
theorem cL.same{H H':Hp}(s:aS H H'){l:List Tr}{vs:List V}(h:cL H l vs):cL H' l vs:=h.mono fun _ _ x=>x.same s
theorem TrAt.tup'{H:Hp}{a:Addr}{vs:List V}{l:List Tr}(e:H a=some (.tup vs))(k:cL H l vs):TrAt H (.tup l) (.ref a):=.tup e k.len.symm fun _ _ _ h1 h2=>k.get h2 h1
theorem TrAt.lst'{H:Hp}{a:Addr}{vs:List V}{l:List Tr}(e:H a=some (.lst vs))(k:cL H l vs):TrAt H (.lst l) (.ref a):=.lst e k.len.symm fun _ _ _ h1 h2=>k.get h2 h1
theorem TrAt.tupE{H:Hp}{v:V}{l:List Tr}(h:TrAt H (.tup l) v):∃ a vs,v = .ref a/\H a=some (.tup vs)/\cL H l vs:=by
 cases h with
 | tup e n k=>exact⟨_,zQa,e,F2.of n.symm fun i t v h1 h2=>k i v t h2 h1⟩
def tyT:Tr->String
 | .non=>"NoneType"
 | .bl _=>"bool"
 | .int _=>"int"
 | .str _=>"str"
 | .tup _=>"tuple"
 | .lst _=>"list"
 | .dic=>"dict"
theorem TrAt.is{K:i3}{H:Hp}{t:Tr}{v:V}(h:TrAt H t v):Is K H v (tyT t):=by
 cases h with
 | non=>exact .non
 | bl b=>exact .bl b
 | int i=>exact .int i
 | str x _=>exact .str x
 | tup e _ _=>exact .tup e
 | lst e _ _=>exact .lst e
 | dic e=>exact .dK e
def gc (z:Str)(c:Nat):Bool := !(ak8 z ⟨#[c]⟩ 0 z.length 1).isEmpty
def eM (x z:Str):Bool:=x.cps.toList.all (gc z)
def oA:Str:="abcdefghijklmnopqrstuvwxyz"
def sM:Str:="abcdefghijklmnopqrstuvwxyz0123456789"
def CZ:Str:="ABCDEFGHIJKLMNOPQRSTUVWXYZabcdefghijklmnopqrstuvwxyz0123456789"
abbrev bl1:Str:=WM.bl
def QB:Tr->Bool
 | .int i=>decide (0<=i)
 | _=>false
def bV (t:Tr)(a b:Int):Bool:=match t with
 | .int i=>decide (0<=i) && (decide (a<=i) && decide (i<=b))
 | _=>false
def mL (x:Str):Bool:=(decide (1<=(x.length:Int)) && decide ((x.length:Int)<=8)) && (gc oA (x.cps.toList.getD 0 0) && eM x sM)
def cY:Tr->Bool
 | .str x=>mL x
 | _=>false
def AQ:List Str:=["blank","words","row","flow","column","grid","pile"]
def jC:List Str:=["blank","words"]
def mD:Tr->Bool
 | .str x=>AQ.any fun y=>y == x
 | _=>false
def jS:Tr->Str
 | .str x=>x
 | _=>u7
def mx:Tr->Bool
 | .tup l=>decide (l.length<=4) && (l.all cY && decide (eY (l.map jS)=l.length))
 | _=>false
def mE (x:Str):Bool:=(decide (1<=(x.length:Int)) && decide ((x.length:Int)<=20)) && eM x CZ
def An (x:Str):Bool:=decide ((x.length:Int)<=80) && (decide (x=u7) || (B0 x bl1).all mE)
def BF:Tr->Bool
 | .str x=>An x
 | _=>false
def Pg:Tr->Bool
 | .non=>true
 | _=>false
def og (k:Str)(m:Tr):Bool:=if k="words" then BF m else if k="grid" then bV m 1 9 else Pg m
def qa (k:Str):Tr->Bool
 | .tup l=>decide (l.length<=if (jC.any fun y=>y == k)=true then 0 else 12)
 | _=>false
def gh:Tr->Bool
 | .tup [k,n,tg,m,ks]=>mD k && cY n && mx tg && (og (jS k) m && qa (jS k) ks)
 | _=>false
def kW:Tr->Str
 | .tup [_,n,_,_,_]=>jS n
 | _=>u7
def rS:Tr->List Tr
 | .tup [_,_,_,_,.tup l]=>l
 | _=>[]
def Ay:Nat->List (Tr×Nat)->List Str->Bool
 | 0,_,_=>false
 | _ + 1,[],_=>true
 | n + 1,(t,d) :: st,ns=>if gh t && decide (d<=8) && !ns.contains (kW t) && decide (ns.length < 40) then Ay n ((rS t).reverse.map (fun k=>(k,d + 1)) ++ st) (kW t :: ns) else false
def By (t:Tr):Bool:=Ay 42 [(t,1)] []
theorem kz:bootBuiltins "str"=some (.type "str"):=by decide +kernel
theorem Fa:bootBuiltins "set"=some (.type "set"):=by decide +kernel
theorem Cw:∀(l:List Str),l.length<=(C2 bl1 l).length + 1
 | []=>by simp
 | [x]=>by simp
 | x :: y :: r=>by
  have h:=Cw (y :: r);have e:C2 bl1 (x :: y :: r)=x ++ bl1 ++ C2 bl1 (y :: r):=rfl;rw [e,X7,X7];have b1:bl1.length=1:=by decide +kernel
  rw [x9] at h;rw [x9,x9];omega
theorem Dw(x:Str):(B0 x bl1).length<=x.length + 1:=by
 have h:=Cw (B0 x bl1);rw [ag3] at h;exact h
section
variable {P:i8} {w:i7} {K:i3} {mg:Str→Option g7} {base:Heap} {A:Adr}
def Nz:Sp:=fun vs H Q _ => ∃(v:V) (t:Tr),vs=[v]/\TrAt H t v/\Q (.bl (QB t)) H
seal PE PS PSs L2.PA PT PI PG in
theorem xX(T:Txt K mg A):FnOk P w K mg base CX0 1 A.qf A.qF hU Nz:=by
 exists T.ig.F.ok wD
 ·obtain⟨v,t,rfl,_⟩:=h; rfl
 obtain⟨v,t,rfl,h,q⟩:=h;refine⟨_,ak (ar (cu (aq bF rfl T.aF aL (aa (pv 0) (aa (bL rfl T.vD KK (v:=.ty "int") rfl) ae))) (cu (NJ (aq bF rfl T.aF aL (aa (pv 0) (aa (bL rfl T.pb Iv (v:=.ty "bool") rfl) ae)))) (cz (br Qd (pv 0) ag (aJ _)))))),?_⟩;have I:=h.is (K:=K);refine⟨zQa,v,"int",_,zQa,I.ty,I.kit T.kit "int",zQa,?_⟩;cases h with
 | int i=>exact ax ⟨zQa,_,"bool",_,zQa,I.ty,I.kit T.kit "bool",zQa,zQa,ax ⟨zQa,zQb,q⟩⟩
 | bl b=>exact ax ⟨zQa,_,"bool",_,zQa,I.ty,I.kit T.kit "bool",zQa,zQa,aV q⟩
 | non=>exact aV q
 | str x _=>exact aV q
 | tup e n k=>exact aV q
 | lst e n k=>exact aV q
 | dic e=>exact aV q
def FS:Sp:=fun vs H Q _ => ∃(v:V) (t:Tr) (a b:Int),vs=[v,.int a,.int b]/\TrAt H t v/\Q (.bl (bV t a b)) H
seal PE PS PSs L2.PA PT PI PG in
theorem dU(T:Txt K mg A):FnOk P w K mg base CX0 2 A.qC A.qi iw FS:=by
 have yA:=xX (P:=P) (w:=w) (base:=base) T
 exists T.aX.F.ok wK
 ·obtain⟨v,t,a,b,rfl,_⟩:=h; rfl
 obtain⟨v,t,a,b,rfl,h,q⟩:=h;refine⟨_,ak (ar (cu (b9 yA hr rfl T.ig (aa (pv 0) ae)) (cz (nW kg kg (pv 1) (pv 0) (pv 2))))),?_⟩;refine⟨zQa,v,t,rfl,h,zQa,?_⟩;cases h with
 | int i =>
  by_cases h0:0<=i
  ·refine aM (decide_eq_true h0) ⟨zQa,zQa,zQb,zQa,?_⟩
   have e:bV (.int i) a b=(decide (a<=i) && decide (i<=b)):=by
    show(decide (0<=i) && (decide (a<=i) && decide (i<=b)))=_;rw [decide_eq_true h0,y4]
   rw [e] at q;by_cases h1:a<=i
   ·refine aM (decide_eq_true h1) ⟨zQa,zQb,?_⟩
    rw [decide_eq_true h1,y4] at q;exact q
   ·refine aI (decide_eq_false h1) ?_
    rw [decide_eq_false h1,x8] at q;exact q
  ·refine aI (decide_eq_false h0) ?_
   have e:bV (.int i) a b=false:=by
    show(decide (0<=i) && (decide (a<=i) && decide (i<=b)))=_;rw [decide_eq_false h0,x8]
   rw [e] at q;exact q
 | bl b=>exact aV q
 | non=>exact aV q
 | str x _=>exact aV q
 | tup e n k=>exact aV q
 | lst e n k=>exact aV q
 | dic e=>exact aV q
abbrev uL:j9:=(match aW fz with | (.Return (some (.Call _ ((.ListComp _ _ sc _) :: _) _ _)) _) :: _=>sc | _=>aj fz)
theorem uh:Blk (aj fz) nL uL ["sign"] [1]:=⟨rfl,zQd,zQd,zQd,zQd⟩
theorem uK:(cy nL ["sign"] [1]).Nodup:=by decide +kernel
def Ny:Sp:=fun vs H Q _ => ∃ x z:Str,vs=[.str x,.str z]/\x.length<=400/\∀ H',aS H H'->Q (.bl (eM x z)) H'
seal PE PS PSs L2.PA PT PI PG in
theorem qj(T:Txt K mg A):FnOk P w K mg base CX0 1 A.rG A.tR jc Ny:=by
 exists T.dF.F.ok Af
 ·obtain⟨x,z,rfl,_⟩:=h; rfl
 obtain⟨x,z,rfl,hx,q⟩:=h;refine⟨_,ak (ar (aq (gR rfl) rfl T.kL tY (aa (bO uh rfl (Jr (pv 0)) (fun _ _ _ _ _=>aN (i:=0) uK rfl (.inl rfl)) (fun _ _ _ _ _=>cr) (fun _ _ _ _ _=>br vN (pv 0) (pv 1) rfl)) ae))),?_⟩;refine⟨zQa,x,rfl,Jv (fun c=>V.bl (gc z c)) (az (show x.cps.size<=1000 from B8 hx (by decide))) (fun c Q hQ=>⟨zQa,zQa,zQb,hQ⟩) fun l hl=>?_⟩
 refine⟨l,x.cps.toList.map (gc z),rfl,.of (by rw [af,A7]; rfl),?_⟩
 have e:(x.cps.toList.map (gc z)).all id=eM x z:=by unfold eM; rw [N0]; rfl
 rw [e];exact q _ (ai hl _)
def EQ:Sp:=fun vs H Q _ => ∃(v:V) (t:Tr),vs=[v]/\TrAt H t v/\∀ H',aS H H'->Q (.bl (cY t)) H'
seal PE PS PSs L2.PA PT PI PG in
theorem nz(T:Txt K mg A):FnOk P w K mg base CX0 2 A.vH A.wq lL EQ:=by
 have mV:=qj (P:=P) (w:=w) (base:=base) T;obtain⟨t1,nQ⟩:=T.ck;obtain⟨t2,BJ⟩:=T.iY;obtain⟨t3,uw⟩:=T.eV
 exists T.cH.F.ok BB
 ·obtain⟨v,t,rfl,_⟩:=h; rfl
 obtain⟨v,t,rfl,h,q⟩:=h;refine⟨_,@ah _ _ _ _ _ (bc (PW.pt (gp (ca (bS (aq bF rfl T.aF aL (aa (pv 0) (aa (bL rfl T.gQ kz (v:=.ty "str") rfl) ae))))) (dY (ca (zy kg kg ag (aq gu rfl T.bM bT (aa (pv 0) ae)) (bi rfl nQ (v:=.int 8) ⟨zQa⟩)))))) (ak (ar dW)) aE)
  (ak (ar (cu (br vN (aA ui (pv 0) ag (fun _ _=>rfl)) (bi rfl BJ (v:=.str "abcdefghijklmnopqrstuvwxyz") ⟨zQa⟩) rfl) (cz (b9 mV hr rfl T.dF (aa (pv 0) (aa (bi rfl uw (v:=.str "abcdefghijklmnopqrstuvwxyz0123456789") ⟨zQa⟩) ae))))))),?_⟩
 have I:=h.is (K:=K);refine⟨zQa,v,"str",_,zQa,I.ty,I.kit T.kit "str",zQa,?_⟩;cases h with
 | str x hx =>
  have sz:x.length<=sizeLine:=aK (by omega)
  refine aV ⟨zQa,x,rfl,sz,zQb,zQa,?_⟩;by_cases h1:1<=(x.length:Int)
  ·refine aM (decide_eq_true h1) ⟨zQb,zQa,?_⟩
   by_cases h8:(x.length:Int)<=8
   ·refine aI (by show(!decide ((x.length:Int)<=8))=false; rw [decide_eq_true h8]; rfl) ?_
    have e:cY (.str x)=(gc oA (x.cps.toList.getD 0 0) && eM x sM):=by
     show((decide (1<=(x.length:Int)) && decide ((x.length:Int)<=8)) && (gc oA (x.cps.toList.getD 0 0) && eM x sM))=_;rw [decide_eq_true h1,decide_eq_true h8,y4,y4]
    rw [e] at q;have hl:0 < x.cps.toList.length:=by rw [J7]; show 0 < x.length; omega
    refine⟨zQa,x,_,x.cps.toList.getD 0 0,rfl,rfl,sz,?_,zQb,zQa,?_⟩
    ·refine bA (j:=0) ?_
     rw [A4,i5 hl]; rfl
    ·show if gc oA (x.cps.toList.getD 0 0)=true then _ else _
     cases hs:gc oA (x.cps.toList.getD 0 0) with
     | true =>
      rw [hs,y4] at q;exact ax ⟨zQa,x,sM,rfl,hx,q⟩
     | false =>
      rw [hs,x8] at q;exact aV (q _ (.refl _))
   ·refine aM (by show(!decide ((x.length:Int)<=8))=true; rw [decide_eq_false h8]; rfl) ?_
    have e:cY (.str x)=false:=by
     show((decide (1<=(x.length:Int)) && decide ((x.length:Int)<=8)) && (gc oA (x.cps.toList.getD 0 0) && eM x sM))=_;rw [decide_eq_false h8,af4,x8]
    rw [e] at q;exact q _ (.refl _)
  ·refine aI (decide_eq_false h1) ⟨zQa,ax ?_⟩
   have e:cY (.str x)=false:=by
    show((decide (1<=(x.length:Int)) && decide ((x.length:Int)<=8)) && (gc oA (x.cps.toList.getD 0 0) && eM x sM))=_;rw [decide_eq_false h1,x8,x8]
   rw [e] at q;exact q _ (.refl _)
 | int i=>exact ax (ax (q _ (.refl _)))
 | bl b=>exact ax (ax (q _ (.refl _)))
 | non=>exact ax (ax (q _ (.refl _)))
 | tup e n k=>exact ax (ax (q _ (.refl _)))
 | lst e n k=>exact ax (ax (q _ (.refl _)))
 | dic e=>exact ax (ax (q _ (.refl _)))
theorem lH(x:Str):∀ ss:List Str,inV (.str x) (ss.map V.str)=ss.any fun y=>y == x
 | []=>rfl
 | s :: ss=>by
  show(eqV (.str s) (.str x) || inV (.str x) (ss.map V.str))=_
  rw [lH x ss,P2]; rfl
theorem bh:∀ ss:List Str,(ss.map V.str).all dJ=true
 | []=>rfl
 | _ :: ss=>by rw [u6,Q4,bh ss]; rfl
def Ir:Sp:=fun vs H Q _ => ∃(v:V) (t:Tr),vs=[v]/\TrAt H t v/\Q (.bl (mD t)) H
seal PE PS PSs L2.PA PT PI PG in
theorem tV(T:Txt K mg A):FnOk P w K mg base CX0 1 A.wc A.vM lw Ir:=by
 obtain⟨CP,IL,hq⟩:=T.oo
 exists T.ft.F.ok AF
 ·obtain⟨v,t,rfl,_⟩:=h; rfl
 obtain⟨v,t,rfl,h,q⟩:=h;refine⟨_,ak (ar (cu (aq bF rfl T.aF aL (aa (pv 0) (aa (bL rfl T.gQ kz (v:=.ty "str") rfl) ae))) (cz (br bK (pv 0) (bi rfl IL (v:=.ref CP) rfl) rfl)))),?_⟩;have I:=h.is (K:=K);refine⟨zQa,v,"str",_,zQa,I.ty,I.kit T.kit "str",zQa,?_⟩;cases h with
 | str x _ =>
  refine ax ⟨zQa,CP,zQa,.inr (kh hq H),rfl,bh _,?_⟩;rw [if_neg (by decide),lH]
  exact q
 | int i=>exact aV q
 | bl b=>exact aV q
 | non=>exact aV q
 | tup e n k=>exact aV q
 | lst e n k=>exact aV q
 | dic e=>exact aV q
theorem CD{H:Hp}:∀ {l:List Tr} {vs:List V},cL H l vs->l.all cY=true->vs=(l.map jS).map V.str
 | [],_,.nil,_=>rfl
 | t :: l,_,.cons h k,ha=>by
  rw [Q4,y9] at ha;cases h with
  | str x _=>rw [u6,u6,<- CD k ha.2]; rfl
  | int i=>cases ha.1
  | bl b=>cases ha.1
  | non=>cases ha.1
  | tup e n k=>cases ha.1
  | lst e n k=>cases ha.1
  | dic e=>cases ha.1
abbrev uX:j9:=(match aW fi with | _ :: (.Return (some (.BoolOp _ ((.Call _ ((.ListComp _ _ sc _) :: _) _ _) :: _) _)) _) :: _=>sc | _=>aj fi)
theorem tj:Blk (aj fi) mQ uX ["tag"] []:=⟨rfl,zQd,zQd,zQd,zQd⟩
theorem uA:(cy mQ ["tag"] []).Nodup:=by decide +kernel
def ED:Sp:=fun vs H Q _ => ∃(v:V) (t:Tr),vs=[v]/\TrAt H t v/\∀ H',aS H H'->Q (.bl (mx t)) H'
seal PE PS PSs L2.PA PT PI PG in
theorem zL(T:Txt K mg A):FnOk P w K mg base CX0 3 A.sB A.sL jJ ED:=by
 have iO:=nz (P:=P) (w:=w) (base:=base) T;obtain⟨t1,yg⟩:=T.fQ
 exists T.ja.F.ok zC
 ·obtain⟨v,t,rfl,_⟩:=h; rfl
 obtain⟨v,t,rfl,h,q⟩:=h;refine⟨_,@ah _ _ _ _ _ (bc (PW.pt (gp (ca (bS (aq bF rfl T.aF aL (aa (pv 0) (aa (bL rfl T.cw eI (v:=.ty "tuple") rfl) ae))))) (dY (aB oM (aq aG rfl T.bM bT (aa (pv 0) ae)) (bi rfl yg (v:=.int 4) ⟨zQa⟩) (aJ _))))) (ak (ar dW)) aE)
  (ak (ar (cu (aq (gR rfl) rfl T.kL tY (aa (bO tj rfl (cZ (pv 0)) (fun _ _ _ _ _=>aN (i:=0) uA rfl (.inl rfl)) (fun _ _ _ _ _=>cr) (fun _ _ _ _ _=>b9 iO hr rfl T.cH (aa (pv 0) ae))) ae)) (cz (br cB (Dl rfl T.bM bT rfl T.rK Fa (pv 0)) (aq aG rfl T.bM bT (aa (pv 0) ae)) (aJ _)))))),?_⟩
 have I:=h.is (K:=K);refine⟨zQa,v,"tuple",_,zQa,I.ty,I.kit T.kit "tuple",zQa,?_⟩;cases t with
 | tup l =>
  obtain⟨a,vs,rfl,ea,k⟩:=h.tupE;have lk:=k.len;refine aV ⟨zQa,a,vs,rfl,.inr (.of ea),zQb,zQa,?_⟩;by_cases h4:l.length<=4
  ·refine aI (decide_eq_false (by omega)) ?_
   have eT:mx (.tup l)=(l.all cY && decide (eY (l.map jS)=l.length)):=by
    show(decide (l.length<=4) && _)=_;rw [decide_eq_true h4,y4]
   rw [eT] at q;refine⟨zQa,a,rfl,.inr ⟨⟨_,.of ea⟩,oB (xs:=vs) (fun i acc H'=>acc=((l.take i).map fun t=>V.bl (cY t))/\aS H H') ⟨rfl,.refl _⟩ (fun i acc H' z=>.of (z.2 _ _ ea)) (fun i acc H' z=>?_) (fun i x acc H' N kk hx z=>?_) fun acc H' z=>?_⟩⟩
   ·rw [z.1,i4,A0]; exact az (by omega)
   ·obtain⟨rfl,s1⟩:=z
    dsimp only [gW];rw [if_pos rfl];have hi:i < l.length:=by have:=(r9.mp hx).1; omega
    have et:l[i]? = some l[i]:=i5 hi;refine⟨zQa,x,l[i],rfl,(k.get et hx).same s1,fun H2 s2=>kk _ _ ⟨?_,s1.trans s2⟩⟩;rw [B7,et,j6]; rfl
   ·obtain⟨rfl,s1⟩:=z
    rw [<- lk,B5];intro p hp;have s2:=s1.trans (ai hp (.lst (l.map fun t=>V.bl (cY t))));refine⟨p,l.map cY,rfl,.of (by rw [af,A7]; rfl),zQa,?_⟩
    have e:(l.map cY).all id=l.all cY:=by rw [N0]; rfl
    rw [e];cases ha:l.all cY with
    | true =>
     rw [ha,y4] at q;have evs:=CD k ha;have ea2:=s2 _ _ ea;refine ax ⟨zQa,a,l.map jS,rfl,.of (by rw [<- evs]; exact ea2),by rw [i4]; omega,zQa,a,vs,rfl,.inr (.of ea2),rfl,?_⟩
     have e2:decide (V.int (eY (l.map jS):Nat)=V.int (vs.length:Nat))=decide (eY (l.map jS)=l.length):=by
      rw [lk];by_cases c:eY (l.map jS)=vs.length
      ·rw [decide_eq_true c,decide_eq_true (by rw [c])]
      ·rw [decide_eq_false c,decide_eq_false]
       intro z;injection z with z
       exact c (by omega)
     rw [e2];exact q _ s2
    | false =>
     rw [ha,x8] at q;exact aV (q _ s2)
  ·refine aM (decide_eq_true (by omega)) ?_
   have eT:mx (.tup l)=false:=by
    show(decide (l.length<=4) && _)=_;rw [decide_eq_false h4,x8]
   rw [eT] at q;exact q _ (.refl _)
 | str x=>exact ax (ax (q _ (.refl _)))
 | int i=>exact ax (ax (q _ (.refl _)))
 | bl b=>exact ax (ax (q _ (.refl _)))
 | non=>exact ax (ax (q _ (.refl _)))
 | lst l=>exact ax (ax (q _ (.refl _)))
 | dic=>exact ax (ax (q _ (.refl _)))
def FQ:Sp:=fun vs H Q _ => ∃ x:Str,vs=[.str x]/\x.length<=400/\∀ H',aS H H'->Q (.bl (mE x)) H'
seal PE PS PSs L2.PA PT PI PG in
theorem Bq(T:Txt K mg A):FnOk P w K mg base CX0 2 A.wz A.vT lG FQ:=by
 have mV:=qj (P:=P) (w:=w) (base:=base) T;obtain⟨t1,mZ⟩:=T.cf;obtain⟨t2,uu⟩:=T.eh
 exists T.mf.F.ok AO
 ·obtain⟨x,rfl,_⟩:=h; rfl
 obtain⟨x,rfl,hx,q⟩:=h;refine⟨_,ak (ar (cu (nW kg kg ag (aq gu rfl T.bM bT (aa (pv 0) ae)) (bi rfl mZ (v:=.int 20) ⟨zQa⟩)) (cz (b9 mV hr rfl T.dF (aa (pv 0) (aa (bi rfl uu (v:=.str "ABCDEFGHIJKLMNOPQRSTUVWXYZabcdefghijklmnopqrstuvwxyz0123456789") ⟨zQa⟩) ae)))))),?_⟩;have sz:x.length<=sizeLine:=aK (by omega)
 refine⟨zQa,x,rfl,sz,zQb,zQa,?_⟩;have eW:mE x=((decide (1<=(x.length:Int)) && decide ((x.length:Int)<=20)) && eM x CZ):=rfl;rw [eW] at q;by_cases h1:1<=(x.length:Int)
 ·rw [decide_eq_true h1,y4] at q
  refine aM (decide_eq_true h1) ⟨zQb,zQa,?_⟩;by_cases h2:(x.length:Int)<=20
  ·rw [decide_eq_true h2,y4] at q
   exact aM (decide_eq_true h2) ⟨zQa,x,CZ,rfl,hx,q⟩
  ·rw [decide_eq_false h2,x8] at q
   exact aI (decide_eq_false h2) (q _ (.refl _))
 ·rw [decide_eq_false h1,x8,x8] at q
  exact aI (decide_eq_false h1) ⟨zQa,aV (q _ (.refl _))⟩
abbrev nq:j9:=(match aW ce with | _ :: (.Return (some (.BoolOp _ (_ :: (.Call _ ((.ListComp _ _ sc _) :: _) _ _) :: _) _)) _) :: _=>sc | _=>aj ce)
theorem mn:Blk (aj ce) gg nq ["word"] []:=⟨rfl,zQd,zQd,zQd,zQd⟩
theorem mP:(cy gg ["word"] []).Nodup:=by decide +kernel
def Ks:Sp:=fun vs H Q _ => ∃(v:V) (t:Tr),vs=[v]/\TrAt H t v/\∀ H',aS H H'->Q (.bl (BF t)) H'
theorem DK(x:Str):∀ p∈B0 x bl1,p.length<=x.length:=by
 have h:=ag3 x bl1;have go:∀(l:List Str),∀ p∈l,p.length<=(C2 bl1 l).length:=by
  intro l
  induction l with
  | nil=>intro p hp; cases hp
  | cons y l ih =>
   intro p hp;cases l with
   | nil=>rw [A5.mp hp]; exact i6 _
   | cons z r =>
    have e:C2 bl1 (y :: z :: r)=y ++ bl1 ++ C2 bl1 (z :: r):=rfl;rw [e,X7,X7];rcases l6.mp hp with rfl | hp
    ·omega
    ·have:=ih p hp; omega
 intro p hp;have:=go _ p hp;rw [h] at this;exact this
seal PE PS PSs L2.PA PT PI PG in
theorem pJ(T:Txt K mg A):FnOk P w K mg base CX0 3 A.jT A.jO du Ks:=by
 have Ea:=Bq (P:=P) (w:=w) (base:=base) T;obtain⟨t1,mS⟩:=T.cg
 exists T.dq.F.ok pT
 ·obtain⟨v,t,rfl,_⟩:=h; rfl
 obtain⟨v,t,rfl,h,q⟩:=h;refine⟨_,@ah _ _ _ _ _ (bc (PW.pt (gp (ca (bS (aq bF rfl T.aF aL (aa (pv 0) (aa (bL rfl T.gQ kz (v:=.ty "str") rfl) ae))))) (dY (aB oM (aq gu rfl T.bM bT (aa (pv 0) ae)) (bi rfl mS (v:=.int 80) ⟨zQa⟩) (aJ _))))) (ak (ar dW)) aE)
  (ak (ar (KF (br cB (pv 0) ap (aJ _)) (cz (aq (gR rfl) rfl T.kL tY (aa (bO mn rfl (cZ (eZ ac7 PySem.F.slot_str_split PySem.F.type_str_split IH (pv 0) (aa ap ae))) (fun _ _ _ _ _=>aN (i:=0) mP rfl (.inl rfl)) (fun _ _ _ _ _=>cr) (fun _ _ _ _ _=>b9 Ea hr rfl T.mf (aa (pv 0) ae))) ae)))))),?_⟩
 have I:=h.is (K:=K);refine⟨zQa,v,"str",_,zQa,I.ty,I.kit T.kit "str",zQa,?_⟩;cases h with
 | str x hx =>
  have sz:x.length<=sizeLine:=aK (by omega)
  have eW:BF (.str x)=(decide ((x.length:Int)<=80) && (decide (x=u7) || (B0 x bl1).all mE)):=rfl
  rw [eW] at q;refine aV ⟨zQa,x,rfl,sz,zQb,zQa,?_⟩;by_cases h8:(x.length:Int)<=80
  ·rw [decide_eq_true h8,y4] at q
   refine aI (decide_eq_false (by omega)) ⟨zQa,rfl,zQa,?_⟩
   by_cases he:x=u7
   ·rw [decide_eq_true he,W6] at q
    exact aM (decide_eq_true (by rw [he]; rfl)) (q _ (.refl _))
   ·rw [decide_eq_false he,W7] at q
    refine aI (decide_eq_false fun z=>he (by injection z)) ?_
    have sl:=Dw x;refine⟨zQa,rfl,x,bl1,rfl,rfl,zQd,by omega,by omega,fun l hl=>?_⟩
    have s0:=ai hl (.lst ((B0 x bl1).map V.str));have e0:upd H l (.lst ((B0 x bl1).map V.str)) l=some (.lst ((B0 x bl1).map V.str)):=af;generalize upd H l (.lst ((B0 x bl1).map V.str))=H0 at s0 e0 ⊢;refine⟨l,rfl,.inl ⟨⟨_,.of e0⟩,iN (xs:=(B0 x bl1).map V.str) (fun i acc H'=>acc=(((B0 x bl1).take i).map fun z=>V.bl (mE z))/\aS H0 H') ⟨rfl,.refl _⟩ (fun i acc H' z=>.of (z.2 _ _ e0)) (fun i acc H' z=>?_) (fun i y acc H' N kk hy z=>?_) fun acc H' z=>?_⟩⟩
    ·rw [z.1,i4,A0]; exact az (by omega)
    ·obtain⟨rfl,s1⟩:=z
     dsimp only [gW];rw [if_pos rfl];rw [o0] at hy;cases ez:(B0 x bl1)[i]? with
     | none=>rw [ez] at hy; cases hy
     | some z =>
      rw [ez] at hy;cases hy;refine⟨zQa,z,rfl,by have:=DK x z (C5 ez); omega,fun H2 s2=>kk _ _ ⟨?_,s1.trans s2⟩⟩
      rw [B7,ez,j6]; rfl
    ·obtain⟨rfl,s1⟩:=z
     rw [i4,B5];intro p hp;have s2:=s0.trans (s1.trans (ai hp (.lst ((B0 x bl1).map fun z=>V.bl (mE z)))));refine⟨p,(B0 x bl1).map mE,rfl,.of (by rw [af,A7]; rfl),?_⟩
     have e:((B0 x bl1).map mE).all id=(B0 x bl1).all mE:=by rw [N0]; rfl
     rw [e];exact q _ s2
  ·rw [decide_eq_false h8,x8] at q
   exact aM (decide_eq_true (by omega)) (q _ (.refl _))
 | int i=>exact ax (ax (q _ (.refl _)))
 | bl b=>exact ax (ax (q _ (.refl _)))
 | non=>exact ax (ax (q _ (.refl _)))
 | tup e n k=>exact ax (ax (q _ (.refl _)))
 | lst e n k=>exact ax (ax (q _ (.refl _)))
 | dic e=>exact ax (ax (q _ (.refl _)))
def MY:Sp:=fun vs H Q _ => ∃(k:Str) (v:V) (t:Tr),vs=[.str k,v]/\TrAt H t v/\∀ H',aS H H'->Q (.bl (og k t)) H'
seal PE PS PSs L2.PA PT PI PG in
theorem AH(T:Txt K mg A):FnOk P w K mg base CX0 4 A.wa A.vC lE MY:=by
 have qL:=pJ (P:=P) (w:=w) (base:=base) T;have bW:=(dU (P:=P) (w:=w) (base:=base) T).mono (show 2<=3 by decide)
 obtain⟨t1,qP⟩:=T.cM
 exists T.lz.F.ok AB
 ·obtain⟨k,v,t,rfl,_⟩:=h; rfl
 obtain⟨k,v,t,rfl,h,q⟩:=h;refine⟨_,@ah _ _ _ _ _ (bc (aB cB (pv 0) ap (aJ _)) (ak (ar (b9 qL hr rfl T.dq (aa (pv 1) ae)))) aE)
  (@ah _ _ _ _ _ (bc (aB cB (pv 0) ap (aJ _)) (ak (ar (b9 bW hr rfl T.aX (aa (pv 1) (aa ag (aa (bi rfl qP (v:=.int 9) ⟨zQa⟩) ae)))))) aE)
  (ak (ar (br At (pv 1) nN (aJ _))))),?_⟩
 unfold og at q;refine⟨zQa,rfl,zQa,xC (fun c=>?_) (fun c=>?_)⟩
 ·have e:k="words" := by
   have:=of_decide_eq_true c;injection this
  rw [if_pos e] at q;exact⟨zQa,v,t,rfl,h,q⟩
 ·have e:¬ k="words" := fun e=>c (decide_eq_true (by rw [e]))
  rw [if_neg e] at q;refine⟨zQa,rfl,zQa,xC (fun c2=>?_) (fun c2=>?_)⟩
  ·have e2:k="grid" := by
    have:=of_decide_eq_true c2;injection this
   rw [if_pos e2] at q;exact⟨zQa,v,t,1,9,rfl,h,q _ (.refl _)⟩
  ·have e2:¬ k="grid" := fun e=>c2 (decide_eq_true (by rw [e]))
   rw [if_neg e2] at q;refine⟨zQa,rfl,?_⟩;have e3:decide (v = .non)=Pg t:=by
    cases h with
    | non=>rfl
    | _=>exact decide_eq_false (fun z=>by cases z)
   rw [e3];exact q _ (.refl _)
def Jo:Sp:=fun vs H Q _ => ∃(k:Str) (v:V) (t:Tr),vs=[.str k,v]/\TrAt H t v/\Q (.bl (qa k t)) H
seal PE PS PSs L2.PA PT PI PG in
theorem Ad(T:Txt K mg A):FnOk P w K mg base CX0 1 A.tG A.sG jg Jo:=by
 obtain⟨vn,AV,hq⟩:=T.iW;obtain⟨t1,jo⟩:=T.dI
 exists T.jm.F.ok qH
 ·obtain⟨k,v,t,rfl,_⟩:=h; rfl
 obtain⟨k,v,t,rfl,h,q⟩:=h;refine⟨_,@ah _ _ _ _ _ (aR (i:=2) qH.nd rfl (m9 rfl) (tZ (aB bK (pv 0) (bi rfl AV (v:=.ref vn) rfl) rfl) ag (bi rfl jo (v:=.int 12) ⟨zQa⟩)))
  (ak (ar (cu (aq bF rfl T.aF aL (aa (pv 1) (aa (bL rfl T.cw eI (v:=.ty "tuple") rfl) ae))) (cz (br kg (aq aG rfl T.bM bT (aa (pv 1) ae)) (pv 2) (aJ _)))))),?_⟩
 refine⟨zQa,vn,zQa,.inr (kh hq H),rfl,bh _,zQa,?_⟩;rw [if_neg (show ¬ (false=true) by decide),lH]
 have I:=h.is (K:=K);have fin:∀ m:Int,(∀ l,qa k (.tup l)=decide ((l.length:Int)<=m))->PJ (KO (tCB (fun xs H Q => ∃ x T t b,xs=[x,.ty T]/\TyOf K H x t/\P0 K t (.type T)=some b/\Q (.bl b) H) (jP (BQ 1) (jP (tC (.ty "tuple")) qQ))) (tOp (rI0 fun i j=>.bl (decide (i<=j))) (tCB (fun xs H Q => ∃ p ys,xs=[.ref p]/\(SqL K H p ys\/SqT K H p ys)/\Q (.int ys.length) H) (jP (BQ 1) qQ)) (BQ 2))) { nx:=fun _ H'=>Q .non H',rt:=Q } [some (.str k),some v,some (.int m)] H:=fun m hm=>by
  refine⟨zQa,v,"tuple",_,zQa,I.ty,I.kit T.kit "tuple",zQa,?_⟩;cases t with
  | tup l =>
   obtain⟨a,vs,rfl,ea,kk⟩:=h.tupE;have lk:=kk.len;rw [hm,lk] at q;exact ax ⟨zQa,a,vs,rfl,.inr (.of ea),zQa,zQb,q⟩
  | str x=>exact aV q
  | int i=>exact aV q
  | bl b=>exact aV q
  | non=>exact aV q
  | lst l=>exact aV q
  | dic=>exact aV q
 cases hk:jC.any fun y=>y == k with
 | true =>
  refine aM hk (fin 0 fun l=>?_);show decide (l.length<=if (jC.any fun y=>y == k)=true then 0 else 12)=_
  rw [hk,if_pos rfl];by_cases c:l.length<=0
  ·rw [decide_eq_true c,decide_eq_true (by omega)]
  ·rw [decide_eq_false c,decide_eq_false (by omega)]
 | false =>
  refine aI hk (fin 12 fun l=>?_);show decide (l.length<=if (jC.any fun y=>y == k)=true then 0 else 12)=_
  rw [hk,if_neg (by decide)]
  by_cases c:l.length<=12
  ·rw [decide_eq_true c,decide_eq_true (by omega)]
  ·rw [decide_eq_false c,decide_eq_false (by omega)]
theorem vU{t:Tr}(h:mD t=true):∃ x,t = .str x:=by
 cases t with
 | str x=>exact⟨x,rfl⟩
 | _=>cases h
theorem Df{t:Tr}(h:cY t=true):∃ x,t = .str x:=by
 cases t with
 | str x=>exact⟨x,rfl⟩
 | _=>cases h
theorem Ee{k:Str}{t:Tr}(h:qa k t=true):∃ l,t = .tup l/\l.length<=12:=by
 cases t with
 | tup l =>
  refine⟨l,rfl,?_⟩;have:=of_decide_eq_true (show decide (l.length<=if (jC.any fun y=>y == k)=true then 0 else 12)=true from h)
  split at this <;> omega
 | _=>cases h
theorem AL{t:Tr}(h:gh t=true):∃(k n:Str) (tg m:Tr) (l:List Tr),t = .tup [.str k,.str n,tg,m,.tup l]/\l.length<=12:=by
 unfold gh at h;split at h
 ·rename_i k n tg m ks
  simp only [y9] at h
  obtain⟨⟨⟨h1,h2⟩,_⟩,_,h5⟩:=h;obtain⟨x,rfl⟩:=vU h1;obtain⟨y,rfl⟩:=Df h2;obtain⟨l,rfl,hl⟩:=Ee h5;exact⟨x,y,tg,m,l,rfl,hl⟩
 ·cases h
theorem Hy{l:List Tr}(h:l.length≠5):gh (.tup l)=false:=by
 unfold gh;split
 ·rename_i k n tg m ks e
  injection e with e
  rw [e] at h;exact absurd rfl h
 ·rfl
theorem Qq{α:Type}:∀ {l:List α},l.length=5->∃ a b c d e,l=[a,b,c,d,e]
 | [a,b,c,d,e],_=>⟨a,b,c,d,e,rfl⟩
theorem rC{H H':Hp}(s:aS H H'){l:Addr}(h:H' l=none):H l=none:=by
 cases e:H l with
 | none=>rfl
 | some o=>rw [s _ _ e] at h; cases h
theorem DG{α:Type}(f:α->V)(l:List α)(a:α):((l ++ [a]).map f)[((l ++ [a]).map f).length - 1]? = some (f a):=by simp
def Fe:Sp:=fun vs H Q _ => ∃(v:V) (t:Tr),vs=[v]/\TrAt H t v/\∀ H',aS H H'->Q (.bl (gh t)) H'
seal PE PS PSs L2.PA PT PI PG in
theorem qU(T:Txt K mg A):FnOk P w K mg base CX0 5 A.ko A.kR dO Fe:=by
 have pr:=(tV (P:=P) (w:=w) (base:=base) T).mono (show 1<=4 by decide)
 have iO:=(nz (P:=P) (w:=w) (base:=base) T).mono (show 2<=4 by decide)
 have Bz:=(zL (P:=P) (w:=w) (base:=base) T).mono (show 3<=4 by decide)
 have DL:=AH (P:=P) (w:=w) (base:=base) T;have AY:=(Ad (P:=P) (w:=w) (base:=base) T).mono (show 1<=4 by decide)
 exists T.eU.F.ok qV
 ·obtain⟨v,t,rfl,_⟩:=h; rfl
 obtain⟨v,t,rfl,h,q⟩:=h;refine⟨_,@ah _ _ _ _ _ (bc (PW.pt (gp (ca (bS (aq bF rfl T.aF aL (aa (pv 0) (aa (bL rfl T.cw eI (v:=.ty "tuple") rfl) ae))))) (dY (aB mF (aq aG rfl T.bM bT (aa (pv 0) ae)) ag (aJ _))))) (ak (ar dW)) aE)
  (@ah _ _ _ _ _ (bc (PW.pt (gp (ca (bS (b9 pr hr rfl T.ft (aa (aA aP (pv 0) ag (fun _ _=>rfl)) ae)))) (gp (ca (bS (b9 iO hr rfl T.cH (aa (aA aP (pv 0) ag (fun _ _=>rfl)) ae)))) (dY (ca (bS (b9 Bz hr rfl T.ja (aa (aA aP (pv 0) ag (fun _ _=>rfl)) ae)))))))) (ak (ar dW)) aE)
  (ak (ar (cu (b9 DL hr rfl T.lz (aa (aA aP (pv 0) ag (fun _ _=>rfl)) (aa (aA aP (pv 0) ag (fun _ _=>rfl)) ae))) (cz (b9 AY hr rfl T.jm (aa (aA aP (pv 0) ag (fun _ _=>rfl)) (aa (aA aP (pv 0) ag (fun _ _=>rfl)) ae)))))))),?_⟩
 have I:=h.is (K:=K);refine⟨zQa,v,"tuple",_,zQa,I.ty,I.kit T.kit "tuple",zQa,?_⟩;cases t with
 | tup l =>
  obtain⟨a,vs,rfl,ea,k⟩:=h.tupE;have lk:=k.len;refine aV ⟨zQa,a,vs,rfl,.inr (.of ea),rfl,zQa,?_⟩;by_cases h5:l.length=5
  ·refine aI (by simp; omega) ?_
   obtain⟨t0,t1,t2,t3,t4,rfl⟩:=Qq h5;cases k with
   | @cons _ v0 _ _ a0 k =>
   cases k with
   | @cons _ v1 _ _ a1 k =>
   cases k with
   | @cons _ v2 _ _ a2 k =>
   cases k with
   | @cons _ v3 _ _ a3 k =>
   cases k with
   | @cons _ v4 _ _ a4 k =>
   cases k;have eA:gh (.tup [t0,t1,t2,t3,t4])=(mD t0 && cY t1 && mx t2 && (og (jS t0) t3 && qa (jS t0) t4)):=rfl;rw [eA] at q;refine⟨zQa,a,zQc,.of ea,rfl,v0,t0,rfl,a0,zQa,?_⟩;cases hk:mD t0 with
   | false =>
    rw [hk,x8,x8,x8] at q;exact ax (ax (q _ (.refl _)))
   | true =>
    rw [hk,y4] at q;obtain⟨x0,rfl⟩:=vU hk;cases a0 with
    | str _ hx0 =>
    refine aV ⟨zQa,a,zQc,.of ea,rfl,v1,t1,rfl,a1,fun H1 s1=>⟨zQa,?_⟩⟩;cases hn:cY t1 with
    | false =>
     rw [hn,x8,x8] at q;exact ax (ax (q _ s1))
    | true =>
     rw [hn,y4] at q;refine aV ⟨zQa,a,zQc,.of (s1 _ _ ea),rfl,v2,t2,rfl,a2.same s1,fun H2 s2=>⟨zQa,?_⟩⟩;replace s2:=s1.trans s2;cases ht:mx t2 with
     | false =>
      rw [ht,x8] at q;exact ax (q _ s2)
     | true =>
      rw [ht,y4] at q;refine aV ⟨zQa,a,zQc,.of (s2 _ _ ea),rfl,zQa,a,zQc,.of (s2 _ _ ea),rfl,x0,v3,t3,rfl,a3.same s2,fun H3 s3=>⟨zQa,?_⟩⟩;replace s3:=s2.trans s3;change ∀ H',aS H H'->Q (.bl (og x0 t3 && qa x0 t4)) H' at q;cases hm:og x0 t3 with
      | false =>
       rw [hm,x8] at q;exact aV (q _ s3)
      | true =>
       rw [hm,y4] at q;exact ax ⟨zQa,a,zQc,.of (s3 _ _ ea),rfl,zQa,a,zQc,.of (s3 _ _ ea),rfl,x0,v4,t4,rfl,a4.same s3,q _ s3⟩
  ·rw [Hy h5] at q
   refine aM (by simp; omega) ?_
   exact q _ (.refl _)
 | str x=>exact ax (ax (q _ (.refl _)))
 | int i=>exact ax (ax (q _ (.refl _)))
 | bl b=>exact ax (ax (q _ (.refl _)))
 | non=>exact ax (ax (q _ (.refl _)))
 | lst l=>exact ax (ax (q _ (.refl _)))
 | dic=>exact ax (ax (q _ (.refl _)))
theorem Txt.nb(T:Txt K mg A):ClsAt K A.c_PaneError A.clsL A.c_NoBox:=(AC T.cls).2 _ (by simp)
theorem Cm(T:Txt K mg A){N:List Str}{qual:Str}{scope:j9}{f:Addr}{cd:g7}{B:j0}{outer:List Env}{s:g8}{H:Hp}{E:XK}{x:Str}{j np cp pp pos:_}(hg:Gl (fV (CXW P w) P w K mg base N qual scope f cd B outer s H E) "NoBox") :
  PS (fV (CXW P w) P w K mg base N qual scope f cd B outer s H E) (.Raise (some (.Call (.Name "NoBox" np) [.Constant (.str x) j cp] [] pp)) none pos) (wV E A.c_NoBox (jP (tC (.str x)) qQ)) :=
 sw wZ rfl hg T.m_NoBox T.nb.exc V0 V0 (by decide) (by show 1<=1000; omega) (aa ap ae) (fun σ H Q h=>⟨by show 1<=sizeLine; decide,h⟩)
def my (H H1:Hp)(e:Addr)(p:Tr×Nat):Prop := ∃ v,H1 e=some (.tup [v,.int p.2])/\TrAt H p.1 v
theorem my.same{H H1 H2:Hp}{e:Addr}{p:Tr×Nat}(s:aS H1 H2)(h:my H H1 e p):my H H2 e p:=let ⟨v,h1,h2⟩:=h; ⟨v,s _ _ h1,h2⟩
theorem my.upd{H H1:Hp}{e l:Addr}{p:Tr×Nat}{o o':HO}(h:my H H1 e p)(hl:H1 l=some o)(ho:∀ xs,o≠.tup xs):my H (upd H1 l o') e p:=by
 obtain⟨v,h1,h2⟩:=h;refine⟨v,?_,h2⟩;rw [am (fun z=>by rw [z,hl] at h1; cases h1; exact ho _ rfl)]
 exact h1
abbrev nv:j9:=(match aW cb with | _ :: _ :: (.While _ (_ :: _ :: _ :: _ :: _ :: _ :: _ :: _ :: (.Expr (.Call _ ((.ListComp _ _ sc _) :: _) _ _) _) :: _) _ _) :: _=>sc | _=>aj cb)
theorem mq:Blk (aj cb) gb nv ["kid"] [5]:=⟨rfl,zQd,zQd,zQd,zQd⟩
theorem ng:(cy gb ["kid"] [5]).Nodup:=by decide +kernel
def PK (c0:Addr):Sp:=fun vs H Q E => ∃(v:V) (t:Tr),vs=[v]/\TrAt H t v/\(By t=true->∀ H',aS H H'->Q .non H')/\(By t=false->∀ H',aS H H'->E (.ref c0) none H')
seal PE PS PSs L2.PA PT PI PG in
theorem pR(T:Txt K mg A):FnOk P w K mg base (CXW P w) 6 A.gj A.fZ cE (PK A.c_NoBox):=by
 have rV:=qU (P:=P) (w:=w) (base:=base) T;obtain⟨g1,xS⟩:=T.fO;obtain⟨g2,uB⟩:=T.eB
 exists T.dr.F.okW bX
 ·obtain⟨v,t,rfl,_⟩:=h; rfl
 obtain⟨v,t,rfl,h,qg,qb⟩:=h;refine⟨_,@ah _ _ _ _ _ (aR (i:=1) bX.nd rfl (m9 rfl) yS)
  (@ah _ _ _ _ _ (aR (i:=2) bX.nd rfl (m9 rfl) (bb (aa (bU (aa (pv 0) (aa ag ae))) ae)))
  (ak (sT PassesOwn.leaving (ox (pv 2) (fun _=>rfl)) (@ah _ _ _ _ _ (aR (i:=3) bX.nd rfl (m9 rfl) (Bm F1 ai6 ai7 AM (pv 2)))
  (@ah _ _ _ _ _ (aR (i:=4) bX.nd rfl (m9 rfl) (aA aP (pv 3) ag (fun _ _=>rfl)))
  (@ah _ _ _ _ _ (aR (i:=5) bX.nd rfl (B9 rfl) (aA aP (pv 3) ag (fun _ _=>rfl)))
  (@ah _ _ _ _ _ (bc (ca (bS (b9 rV hr rfl T.eU (aa (pv 4) ae)))) (ak (Cm T rfl)) aE)
  (@ah _ _ _ _ _ (bc (aB oM (pv 5) (bi rfl xS (v:=.int 8) ⟨zQa⟩) (aJ _)) (ak (Cm T rfl)) aE)
  (@ah _ _ _ _ _ (bc (MZ (MK (gk hr) (aA aP (pv 4) ag (fun _ _=>rfl)) (pv 1))) (ak (Cm T rfl)) aE)
  (@ah _ _ _ _ _ (rj (gk hr) (pv 1) (aA aP (pv 4) ag (fun _ _=>rfl)) dW rfl)
  (@ah _ _ _ _ _ (bc (aB oM (aq DP rfl T.bM bT (aa (pv 1) ae)) (bi rfl uB (v:=.int 40) ⟨zQa⟩) (aJ _)) (ak (Cm T rfl)) aE)
  (ak (bB (eZ F1 ai8 ai9 pq (pv 2) (aa (bO mq rfl (cZ (aA aP (pv 4) ag (fun _ _=>rfl))) (fun _ _ _ _ _=>aN (i:=0) ng rfl (.inl rfl)) (fun _ _ _ _ _=>cr) (fun _ _ _ _ _=>bU (aa (pv 0) (aa (aD bZ (pv 1) ag) ae)))) ae))))))))))))))),?_⟩
 intro dn hdn;have s1:=ai hdn (.dK []);refine⟨zQa,aK (by simp),fun e1 he1=>⟨aK (by simp),fun wl hwl=>?_⟩⟩
 have s2:=ai he1 (.tup [v,V.int 1]);have s3:=ai hwl (.lst [V.ref e1]);have hdn':=hdn;have nwd:wl≠dn:=fun z=>by
  rw [z,s2 _ _ (af:upd H dn (.dK []) dn=_)] at hwl; cases hwl
 have hwl':H wl=none:=rC (s1.trans s2) hwl;have n40:(1000:Nat) < sizeLine:=az (i6 _);refine⟨fun m σ H1 => ∃(js:List (Tr×Nat)) (es:List Addr) (ns:List Str) (kvs:List (Key×V)) (v3 v4 v5:Option V),σ=[some v,some (.ref dn),some (.ref wl),v3,v4,v5]/\aS H H1/\H1 dn=some (.dK kvs)/\H1 wl=some (.lst (es.map V.ref))/\F2 (my H H1) es js /\
   (∀ y:Str,(cm kvs (i0 y:Key)).isSome=ns.contains y)/\kvs.length=ns.length/\ns.length<=40/\js.length<=12 * ns.length + 1/\m + ns.length=42/\By t=Ay m js.reverse ns,
  ⟨42,[(t,1)],[e1],[],[],none,none,none,rfl,(s1.trans s2).trans s3,?_,af,.one ⟨v,s3 _ _ af,h⟩,fun y=>rfl,rfl,by decide,by simp,rfl,rfl⟩,?_⟩
 ·exact s3 _ _ (s2 _ _ af)
 rintro m σ H1 ⟨js,es,ns,kvs,v3,v4,v5,rfl,sH,ed,ew,be,hv,hl,h40,hj,hm,hd⟩;rcases ac8 js with rfl | ⟨js',p,rfl⟩
 ·cases be
  refine⟨zQa,_,.inl ⟨_,.of ew,rfl⟩,aI (by simp) ?_⟩
  refine qg ?_ _ sH;rw [hd];obtain⟨m',rfl⟩:∃ m',m=m' + 1:=⟨m - 1,by omega⟩
  rfl
 ·rw [ac9] at be hj hd
  obtain⟨es',e,rfl,be',⟨bv,ee,bt⟩⟩:=be.last;obtain⟨bt0,d⟩:=p;obtain⟨m',rfl⟩:∃ m',m=m' + 1:=⟨m - 1,by omega⟩
  refine⟨zQa,_,.inl ⟨_,.of ew,rfl⟩,aM (by simp) ?_⟩
  refine⟨fun σ' H'=>_,fun σ' H' h=>h,?_⟩;rw [aj0,List.reverse_singleton,List.singleton_append] at hd;have hd':By t=if (gh bt0 && decide (d<=8) && !ns.contains (kW bt0) && decide (ns.length < 40))=true then Ay m' ((rS bt0).reverse.map (fun k=>(k,d + 1)) ++ js'.reverse) (kW bt0 :: ns) else false:=hd
  refine⟨zQa,.inl ⟨rfl,_,.of ew⟩,wl,zQb,ew,DG _ _ _,?_⟩;have edl:((es' ++ [e]).map V.ref).dropLast=es'.map V.ref:=by rw [j6]; exact aj1
  rw [edl];have k1:upd H1 wl (.lst (es'.map V.ref)) e=some (.tup [bv,.int (d:Int)]):=by
   rw [am (fun z=>by rw [z,ew] at ee; cases ee)]; exact ee
  have k2:upd H1 wl (.lst (es'.map V.ref)) wl=some (.lst (es'.map V.ref)):=af;have k3:upd H1 wl (.lst (es'.map V.ref)) dn=some (.dK kvs):=by rw [am nwd.symm]; exact ed
  have k4:F2 (my H (upd H1 wl (.lst (es'.map V.ref)))) es' js':=be'.mono fun _ _ x=>x.upd ew (fun xs z=>by cases z)
  have k5:aS H (upd H1 wl (.lst (es'.map V.ref))):=fun b u z=>by rw [am (aH z hwl')]; exact sH _ _ z
  generalize upd H1 wl (.lst (es'.map V.ref))=H2 at k1 k2 k3 k4 k5 ⊢;refine⟨zQa,e,zQc,.of k1,rfl,?_⟩;refine⟨zQa,e,zQc,.of k1,rfl,?_⟩;refine⟨zQa,bv,bt0,rfl,bt.same k5,fun H3 s4=>⟨zQa,?_⟩⟩;have k6:=k5.trans s4;cases ha:gh bt0 with
  | false =>
   refine ax (qb ?_ _ k6);rw [hd',ha]; rfl
  | true =>
   rw [ha] at hd';refine aV ⟨zQa,zQb,zQa,?_⟩;by_cases h8:d<=8
   ·refine aI (decide_eq_false (by omega)) ?_
    rw [decide_eq_true h8] at hd';obtain⟨bk,bn,tg,mo,l,rfl,hl12⟩:=AL ha;have eN:kW (.tup [.str bk,.str bn,tg,mo,.tup l])=bn:=rfl;have eK:rS (.tup [.str bk,.str bn,tg,mo,.tup l])=l:=rfl;rw [eN,eK] at hd';obtain⟨ba,bvs,rfl,eb,kb⟩:=bt.tupE;cases kb with
    | @cons _ w0 _ _ a0 kb =>
    cases kb with
    | @cons _ w1 _ _ a1 kb =>
    cases kb with
    | @cons _ w2 _ _ a2 kb =>
    cases kb with
    | @cons _ w3 _ _ a3 kb =>
    cases kb with
    | @cons _ w4 _ _ a4 kb =>
    cases kb;cases a1 with
    | str _ hbn =>
    obtain⟨ka,kvs4,rfl,ek,kk4⟩:=a4.tupE;have lk4:=kk4.len;have eb3:=k6 _ _ eb;have ek3:=k6 _ _ ek;have ed3:=s4 _ _ k3;refine⟨zQa,ba,zQc,.of eb3,rfl,zQa,dn,zQa,iC.k (k:=i0 bn) ed3,zQa,?_⟩;rw [hv bn];cases hc:ns.contains bn with
    | true =>
     refine ax (qb ?_ _ k6);rw [hd',hc]; rfl
    | false =>
     rw [hc] at hd';refine aV ?_;have hnone:cm kvs (i0 bn:Key)=none:=by
      have:=hv bn;rw [hc] at this;cases ev:cm kvs (i0 bn:Key) with
      | none=>rfl
      | some o=>rw [ev] at this; cases this
     refine⟨zQa,zQa,ba,zQc,.of eb3,rfl,dn,zQa,zx.k (k:=i0 bn) ed3 (by omega),?_⟩
     rw [tT _ hnone];have j1:upd H3 dn (.dK (kvs ++ [(i0 bn,V.bl true)])) dn=some (.dK (kvs ++ [(i0 bn,V.bl true)])):=af;have j2:upd H3 dn (.dK (kvs ++ [(i0 bn,V.bl true)])) wl=some (.lst (es'.map V.ref)):=by rw [am nwd]; exact s4 _ _ k2
     have j3:F2 (my H (upd H3 dn (.dK (kvs ++ [(i0 bn,V.bl true)])))) es' js':=(k4.mono fun _ _ x=>x.same s4).mono fun _ _ x=>x.upd ed3 (fun xs z=>by cases z)
     have j4:aS H (upd H3 dn (.dK (kvs ++ [(i0 bn,V.bl true)]))):=fun b u z=>by rw [am (aH z hdn')]; exact k6 _ _ z
     generalize upd H3 dn (.dK (kvs ++ [(i0 bn,V.bl true)]))=H4 at j1 j2 j3 j4 ⊢;refine⟨zQa,dn,zQa,j1,zQb,zQa,?_⟩;have lkv:(kvs ++ [((i0 bn:Key),V.bl true)]).length=ns.length + 1:=by rw [A2,hl]; rfl
     by_cases h39:ns.length < 40
     ·refine aI (decide_eq_false (by rw [lkv]; omega)) ?_
      rw [decide_eq_true h39] at hd';have hd2:By t=Ay m' (l.reverse.map (fun k=>(k,d + 1)) ++ js'.reverse) (bn :: ns):=hd';have eb4:=j4 _ _ eb;have ek4:=j4 _ _ ek;rw [A2,N7] at hj;have lbe:=be'.len;refine⟨_,rfl,.inl ⟨rfl,_,.of j2⟩,_,rfl,ba,_,_,_,rfl,rfl,.of eb4,rfl,ka,rfl,.inr ⟨⟨_,.of ek4⟩,
       oB (xs:=kvs4) (fun i acc H' => ∃ us:List Addr,acc=us.map V.ref/\aS H4 H'/\F2 (my H H') us ((l.take i).map fun k=>(k,d + 1))) ⟨[],rfl,.refl _,.nil⟩ (fun i acc H' z=>?_) (fun i acc H' z=>?_) (fun i x acc H' N kk hx z=>?_) fun acc H' z=>?_⟩⟩
      ·obtain⟨_,_,s5,_⟩:=z; exact .of (s5 _ _ ek4)
      ·obtain⟨us,rfl,_,u1⟩:=z
       have:=u1.len;rw [i4,A0] at this;rw [i4]; exact az (by omega)
      ·obtain⟨us,rfl,s5,u1⟩:=z
       dsimp only [gW];rw [if_pos rfl];have hi:i < l.length:=by have:=(r9.mp hx).1; omega
       have et:l[i]? = some l[i]:=i5 hi;refine⟨zQa,zQa,zQb,aK (by simp),fun p1 hp1=>?_⟩
       have s6:=ai hp1 (.tup [x,V.int ((d:Int) + 1)]);refine kk _ _ ⟨us ++ [p1],by rw [j6]; rfl,s5.trans s6,?_⟩
       rw [B7,et,j6];exact(u1.mono fun _ _ z=>z.same s6).append (.one ⟨x,by rw [af]; rfl,kk4.get et hx⟩)
      ·obtain⟨us,rfl,s5,u1⟩:=z
       rw [<- lk4,B5] at u1;have lu:=u1.len;rw [i4] at lu;intro l3 hl3;have s6:=ai hl3 (.lst (us.map V.ref));have s7:=s5.trans s6;refine⟨wl,l3,zQb,s7 _ _ j2,af,by rw [i4,i4]; exact aK (by omega),?_⟩
       have ew7:=s7 _ _ j2;refine⟨m',by omega,js' ++ l.map (fun k=>(k,d + 1)),es' ++ us,bn :: ns,kvs ++ [(i0 bn,V.bl true)],_,_,zQa,fun b u z=>by rw [am (aH z hwl')]; exact s7 _ _ (j4 _ _ z),?_,by rw [af,j6],?_,fun y=>?_,by rw [lkv]; rfl,by rw [x9]; omega,by rw [A2,i4,x9]; omega,by rw [x9]; omega,?_⟩
       ·rw [am nwd.symm]; exact s7 _ _ j1
       ·exact(((j3.mono fun _ _ x=>x.same s7).append (u1.mono fun _ _ x=>x.same s6))).mono fun _ _ x=>x.upd ew7 (fun xs z=>by cases z)
       ·rw [vY _ _ _ _ hnone]
        by_cases c:y=bn
        ·rw [if_pos (by rw [c]),c]; simp
        ·rw [if_neg (fun z=>c (by injection z)),hv y]
         simp [c]
       ·rw [hd2,aj0,V1]
     ·refine aM (decide_eq_true (by rw [lkv]; omega)) (qb ?_ _ j4)
      rw [hd',decide_eq_false h39]; rfl
   ·refine aM (decide_eq_true (by omega)) (qb ?_ _ k6)
    rw [hd',decide_eq_false h8]; rfl
theorem wH{α:Type}{l:List α}(h:l.Nodup):l.reverse.Nodup:=by
 refine List.pairwise_reverse.mpr ?_;exact List.Pairwise.imp (fun a e=>a e.symm) h
def Mo.t:Mo->Tr
 | .no=>.non
 | .tx ws=>.str (WM.J ws)
 | .nu n=>.int n
def wg (r:Rw)(kids:List Tr):Tr:=.tup [.str r.kind,.str r.name,.tup (r.tags.map Tr.str),r.more.t,.tup kids]
def wN (xs:List Lr)(p:Nat)(sp:Tr->Tr):Nat->Nat->Tr
 | 0,_=>.non
 | n + 1,k=>match xs[k]? with
  | some x=>if k=p then sp (wg x.r ((ay xs k).map (wN xs p sp n))) else wg x.r ((ay xs k).map (wN xs p sp n))
  | none=>.non
theorem Cb{c:Cn}{xs:List Lr}(h:RwsOk c xs)(p:Nat)(sp:Tr->Tr):∀(n m k:Nat),xs.length - k<=n->n<=m->k < xs.length->wN xs p sp m k=wN xs p sp n k
 | 0,_,k,h1,_,h3=>by omega
 | n + 1,0,_,_,h2,_=>by omega
 | n + 1,m + 1,k,h1,h2,h3=>by
  unfold wN;rw [i5 h3];have:(ay xs k).map (wN xs p sp m)=(ay xs k).map (wN xs p sp n):=K3 fun j hj=>by
   obtain⟨a,b⟩:=aQ h hj;exact Cb h p sp n m j (by omega) (by omega) b
  simp only [this]
def wOf (xs:List Lr)(p:Nat)(sp:Tr->Tr)(k:Nat):Tr:=wN xs p sp (xs.length - k) k
theorem Mz{c:Cn}{xs:List Lr}(h:RwsOk c xs)(p:Nat)(sp:Tr->Tr){k:Nat}{x:Lr}(hx:xs[k]? = some x):wOf xs p sp k=if k=p then sp (wg x.r ((ay xs k).map (wOf xs p sp))) else wg x.r ((ay xs k).map (wOf xs p sp)):=by
 have hk:=(r9.mp hx).1;obtain⟨n,hn⟩:∃ n,xs.length - k=n + 1:=⟨xs.length - k - 1,by omega⟩
 have e:wOf xs p sp k=wN xs p sp (n + 1) k:=by unfold wOf; rw [hn]
 have:(ay xs k).map (wN xs p sp n)=(ay xs k).map (wOf xs p sp):=K3 fun j hj=>by
  obtain⟨a,b⟩:=aQ h hj;exact Cb h p sp _ _ j (i6 _) (by omega) b
 rw [e,wN,hx];simp only [this]
abbrev tOf (xs:List Lr)(k:Nat):Tr:=wOf xs 0 id k
theorem Ib{c:Cn}{xs:List Lr}(h:RwsOk c xs){k:Nat}{x:Lr}(hx:xs[k]? = some x):tOf xs k=wg x.r ((ay xs k).map (tOf xs)):=by
 have:=Mz h 0 id hx;unfold tOf;rw [this];split <;> rfl
def jq (xs:List Lr):Nat->Nat->List Nat
 | 0,_=>[]
 | n + 1,k=>k :: ((ay xs k).reverse.map (jq xs n)).flatten
theorem xz{c:Cn}{xs:List Lr}(h:RwsOk c xs):∀ {f i j:Nat},i∈jq xs f j->∃ s,dG xs i=dG xs j ++ s
 | 0,_,_,hi=>by cases hi
 | f + 1,i,j,hi=>by
  rcases l6.mp hi with rfl | hi
  ·exact⟨[],by simp⟩
  ·obtain⟨l,hl,hi⟩:=G9.mp hi
   obtain⟨m,hm,rfl⟩:=w8.mp hl;obtain⟨s,e⟩:=xz h hi;rw [cF h (J6.mp hm),K0] at e;exact⟨_,e⟩
theorem tF{c:Cn}{xs:List Lr}(h:RwsOk c xs):∀ {f i j:Nat},j < xs.length->i∈jq xs f j->j<=i/\i < xs.length
 | 0,_,_,_,hi=>by cases hi
 | f + 1,i,j,hj,hi=>by
  rcases l6.mp hi with rfl | hi
  ·omega
  ·obtain⟨l,hl,hi⟩:=G9.mp hi
   obtain⟨m,hm,rfl⟩:=w8.mp hl;obtain⟨a,b⟩:=aQ h (J6.mp hm);have:=tF h b hi;omega
theorem yd{α:Type}{f:Nat->List α}:∀ {l:List Nat},(∀ x∈l,(f x).Nodup)->l.Nodup->(∀ x∈l,∀ y∈l,x≠y->∀ z∈f x,z ∉ f y)->((l.map f).flatten).Nodup
 | [],_,_,_=>Y0
 | a :: l,h1,h2,h3=>by
  rw [u6,N6,ah5];obtain⟨h4,h5⟩:=G7.mp h2;refine⟨h1 a (l8 ..),yd (fun x hx=>h1 x (u9 _ hx)) h5 fun x hx y hy=>h3 x (u9 _ hx) y (u9 _ hy),fun z hz w hw e=>?_⟩;subst e;obtain⟨m,hm,hz2⟩:=G9.mp hw;obtain⟨y,hy,rfl⟩:=w8.mp hm;exact h3 a (l8 ..) y (u9 _ hy) (fun e=>h4 (e ▸ hy)) z hz hz2
theorem IF{c:Cn}{xs:List Lr}(h:RwsOk c xs):∀(f j:Nat),j < xs.length->(jq xs f j).Nodup
 | 0,_,_=>Y0
 | f + 1,j,hj=>by
  show(j :: ((ay xs j).reverse.map (jq xs f)).flatten).Nodup;rw [G7];refine⟨fun hm=>?_,yd (fun x hx=>IF h f x (aQ h (J6.mp hx)).2) (wH ((pE xs j).imp fun a=>w6 a)) fun x hx y hy hne z hz hz2=>?_⟩
  ·obtain⟨l,hl,hi⟩:=G9.mp hm
   obtain⟨m,hm,rfl⟩:=w8.mp hl;obtain⟨a,b⟩:=aQ h (J6.mp hm);have:=tF h b hi;omega
  ·obtain⟨s1,e1⟩:=xz h hz
   obtain⟨s2,e2⟩:=xz h hz2;rw [cF h (J6.mp hx),K0] at e1;rw [cF h (J6.mp hy),K0,e1] at e2;have e3:=ai1 e2;injection e3 with e4 _
   exact hne e4
theorem FO:∀(n:Nat) (l:List Nat),l.Nodup->(∀ x∈l,x < n)->l.length<=n
 | 0,[],_,_=>i6 _
 | 0,a :: _,_,h=>absurd (h a (l8 ..)) (by omega)
 | n + 1,l,hn,h=>by
  have h1:=FO n (l.erase n) (hn.erase n) fun x hx=>by
   have a:=h x (List.mem_of_mem_erase hx);have b:x≠n:=fun e=>by subst e; exact(List.Nodup.not_mem_erase hn) hx
   omega
  by_cases hm:n∈l
  ·rw [List.length_erase_of_mem hm] at h1; omega
  ·rw [List.erase_of_not_mem hm] at h1; omega
theorem vA(z:Str)(c:Nat):gc z c=decide (c∈z.cps.toList):=StrLaws.found_one z c
theorem CJ{x z:Str}(h:∀ c∈x.cps.toList,c∈z.cps.toList):eM x z=true:=E8.mpr fun c hc=>by rw [vA]; exact decide_eq_true (h c hc)
theorem Mj:∀ x∈sgA.cps.toList,x∈oA.cps.toList/\x∈sM.cps.toList:=by decide +kernel
theorem CA(c:Cn)(k:Nat):mL (nm c k)=true:=by
 have h1:=IA c;have h3:=Fq c k;unfold mL;rw [vA,h3,decide_eq_true (by omega),decide_eq_true (by omega),CJ fun x hx=>(Mj x (Ml hx)).2]
 have hl:0 < (nm c k).cps.toList.length:=by rw [J7]; show 0 < (nm c k).length; omega
 have e1:(nm c k).cps.toList.getD 0 0∈oA.cps.toList:=by
  rw [A4,i5 hl];exact(Mj _ (Ml (E9 hl))).1
 rw [decide_eq_true e1]; rfl
theorem si(l:List Str)(h:l.Nodup):∀ i,i<=l.length->bR (fun i=>l.getD i u7) i=l.take i
 | 0,_=>by simp [bR]
 | i + 1,hi=>by
  have hi':i < l.length:=hi;rw [iA,si l h i (by omega)]
  have e:l.getD i u7=l[i]:=by rw [A4,i5 hi']; rfl
  rw [e];unfold sV;have no:¬ (l.take i).any (fun x=>x == l[i])=true:=fun z=>by
   obtain⟨x,hx,ex⟩:=G4.mp z;have ex':x=l[i]:=by simpa using ex
   subst ex';have hd:l=l.take i ++ l[i] :: l.drop (i + 1):=by rw [<- aq0 hi',V2]
   rw [hd] at h;exact(ah5.mp h).2.2 _ hx _ (l8 ..) rfl
  rw [if_neg no,B7,i5 hi']
  rfl
theorem zS{l:List Str}(h:l.Nodup):eY l=l.length:=by
 unfold eY;rw [si l h _ (i6 _),B5]
theorem Mr(p:Int):∃ z∈[("t0" : Str),"t1","t2"],∀ ns,tgs p ns=[z]:=by
 have:=emd (r:=p) (show(0:Int) < 3 by decide)
 have h:p % 3=0\/p % 3=1\/p % 3=2:=by omega
 unfold tgs;rcases h with e | e | e <;> rw [e]
 ·exact⟨"t0",by simp,fun _=>rfl⟩
 ·exact⟨"t1",by simp,fun _=>rfl⟩
 ·exact⟨"t2",by simp,fun _=>rfl⟩
theorem tg3:∀ z∈[("t0" : Str),"t1","t2"],mL z=true/\mx (.tup [.str z])=true/\z.length<=400:=by decide +kernel
theorem JZ(p:Int)(c:Cn):mx (.tup ((tgs p (nms c)).map Tr.str))=true:=by
 obtain⟨z,hz,e⟩:=Mr p;rw [e];exact(tg3 z hz).2.1
theorem HJ{p:Int}{ns:List Str}{x:Str}(h:x∈tgs p ns):x.length<=400:=by
 obtain⟨z,hz,e⟩:=Mr p;rw [e] at h;rw [A5.mp h];exact(tg3 z hz).2.2
theorem HM:∀ k∈vt,(AQ.any fun y=>y == k)=true:=by decide +kernel
theorem DS:∀ k∈vt,k.length<=400:=by decide +kernel
theorem My:∀ c∈ls sgT,c∈CZ.cps.toList:=by decide +kernel
theorem Nl:(32:Nat) ∉ ls sgT:=by decide +kernel
theorem MH{l:List Nat}{b:Nat}(h:∀ x∈l,x<=b):l.sum<=l.length * b:=by
 induction l with
 | nil=>simp
 | cons x l ih =>
  have h1:=h x (l8 ..);have h2:=ih fun y hy=>h y (u9 _ hy);rw [U2,x9,af5]; omega
theorem KC{ws:List Str}(h:Wds ws):(J ws).length<=70:=by
 have h1:=StrLaws.join_length_le bl ws;have h2:(ws.map (·.length)).sum<=(ws.map (·.length)).length * 9:=MH fun x hx=>by
  obtain⟨w,hw,rfl⟩:=w8.mp hx;exact(h.w w hw).n1
 have b1:bl.length=1:=by decide +kernel
 rw [i4] at h2;rw [b1,V3] at h1;have:=h.n;show(C2 bl ws).length<=70;omega
theorem JD{ws:List Str}(h:Wds ws):An (J ws)=true:=by
 have hl:=KC h;unfold An;rw [decide_eq_true (by omega),y4]
 by_cases hw:ws=[]
 ·subst hw; rw [decide_eq_true (show J []=u7 from rfl)]; rfl
 ·have nb:∀ w∈ws,32 ∉ ls w:=fun w hw' hb=>Nl ((h.w w hw').sg _ hb)
  rw [show B0 (J ws) bl1=ws from WM.split_words nb hw]
  refine Bool.or_eq_true_iff.mpr (.inr (E8.mpr fun w hw'=>?_));have W:=h.w w hw';have a1:=W.n0;have a2:=W.n1;unfold mE;rw [decide_eq_true (by omega),decide_eq_true (by omega),CJ fun c hc=>My c (W.sg c hc)]; rfl
theorem Kr:∀ k∈vt,k≠Az->k≠jb->(jC.any fun y=>y == k)=false:=by decide +kernel
theorem Dj{c:Cn}{xs:List Lr}(h:RwsOk c xs){k:Nat}{x:Lr}(hx:xs[k]? = some x)(kids:List Tr)(hk:kids.length<=(ay xs k).length):gh (wg x.r kids)=true:=by
 have R:=h.row k x hx;obtain⟨p,ep⟩:=R.tags;have n12:=h.n;have hl:=nH xs k;show(mD (.str x.r.kind) && cY (.str x.r.name) && mx (.tup (x.r.tags.map Tr.str)) && (og x.r.kind x.r.more.t && qa x.r.kind (.tup kids)))=true;have e1:mD (.str x.r.kind)=true:=HM _ R.kind;have e2:cY (.str x.r.name)=true:=by rw [R.name]; exact CA c k
 have e3:mx (.tup (x.r.tags.map Tr.str))=true:=by rw [ep]; exact JZ p c
 have e4:og x.r.kind x.r.more.t=true:=by
  unfold og;rcases R.more with ⟨a,ws,b,W⟩ | ⟨a,n,b,n1,n9⟩ | ⟨a1,a2,b⟩
  ·rw [b,a,if_pos (show jb="words" from rfl)]
   exact JD W
  ·rw [b,a,if_neg (by decide +kernel),if_pos (show vz="grid" from rfl)]
   show(decide (0<=n) && (decide (1<=n) && decide (n<=9)))=true;rw [decide_eq_true (by omega),decide_eq_true n1,decide_eq_true n9]; rfl
  ·rw [b,if_neg (show ¬ x.r.kind="words" from a1),if_neg (show ¬ x.r.kind="grid" from a2)]; rfl
 have e5:qa x.r.kind (.tup kids)=true:=by
  show decide (kids.length<=if (jC.any fun y=>y == x.r.kind)=true then 0 else 12)=true
  refine decide_eq_true ?_;by_cases h0:ay xs k=[]
  ·rw [h0] at hk
   have:kids.length=0:=by simpa using hk
   omega
  ·obtain⟨j,hj⟩:=List.exists_mem_of_ne_nil _ h0
   obtain⟨y,hy,ey⟩:=cA.mp hj;rcases(h.row j y hy).about with ⟨_,e,_⟩ | ⟨i,z,hi,hz,e,hh,_⟩
   ·omega
   ·have:i=k:=by omega
    subst this;rw [hx] at hz;cases hz;rw [Kr _ R.kind hh.1 hh.2.1,if_neg (by decide)]
    omega
 rw [e1,e2,e3,e4,e5]; rfl
theorem Ac{c:Cn}{xs:List Lr}(h:RwsOk c xs):∀(n:Nat) (js:List (Nat×Nat)) (ns:List Str),(∀ p∈js,p.1 < xs.length/\p.2=12 - p.1)->(((js.map fun p=>jq xs p.2 p.1).flatten).Nodup)->(∀ i∈(js.map fun p=>jq xs p.2 p.1).flatten,ns.contains (nm c i)=false) ->
  ns.length + (js.map fun p=>jq xs p.2 p.1).flatten.length<=40->(js.map fun p=>jq xs p.2 p.1).flatten.length < n->Ay n (js.map fun p=>(tOf xs p.1,match xs[p.1]? with | some x=>x.r.deep.toNat | none=>0)) ns=true
 | 0,_,_,_,_,_,_,hn=>by omega
 | n + 1,[],_,_,_,_,_,_=>rfl
 | n + 1,(j,f) :: js,ns,h1,h2,h3,h4,h5=>by
  obtain⟨hj,hf⟩:=h1 (j,f) (l8 ..);have hj':j < xs.length:=hj;have n12:=h.n;have ex:xs[j]? = some xs[j]:=i5 hj';obtain⟨g,hg⟩:∃ g,f=g + 1:=⟨f - 1,by have:f=12 - j:=hf; omega⟩
  subst hg;have hf':g + 1=12 - j:=hf;have eL:(((j,g + 1) :: js).map fun p:Nat×Nat=>jq xs p.2 p.1).flatten=j :: (((ay xs j).reverse.map (jq xs g)).flatten ++ (js.map fun p=>jq xs p.2 p.1).flatten):=rfl;rw [eL] at h2 h3 h4 h5;have hd:=h.deep j _ ex;have R:=h.row j _ ex;show(if (gh (tOf xs j) && decide ((match xs[j]? with | some x=>x.r.deep.toNat | none=>0)<=8) && !ns.contains (kW (tOf xs j)) && decide (ns.length < 40))=true then Ay n ((rS (tOf xs j)).reverse.map (fun k=>(k,(match xs[j]? with | some x=>x.r.deep.toNat | none=>0) + 1)) ++ js.map fun p=>(tOf xs p.1,match xs[p.1]? with | some x=>x.r.deep.toNat | none=>0)) (kW (tOf xs j) :: ns) else false)=true
  rw [ex];dsimp only;have et:=Ib h ex;have ea:gh (tOf xs j)=true:=by rw [et]; exact Dj h ex _ (by rw [i4]; exact i6 _)
  have en:kW (tOf xs j)=nm c j:=by rw [et]; exact R.name
  have ek:rS (tOf xs j)=(ay xs j).map (tOf xs):=by rw [et]; rfl
  rw [ea,en,ek,decide_eq_true (show xs[j].r.deep.toNat<=8 by omega),h3 j (l8 ..),decide_eq_true (show ns.length < 40 by rw [x9] at h4; omega),if_pos (show(true && true && !false && true)=true from rfl)]
  rw [G7] at h2;rw [x9] at h4 h5;have eR:∀ k∈(ay xs j),xs[k]?.map (fun x=>x.r.deep.toNat)=some (xs[j].r.deep.toNat + 1):=fun k hk=>by
   obtain⟨y,hy,ey⟩:=cA.mp hk;rcases(h.row k y hy).about with ⟨_,e,_⟩ | ⟨i,z,hi,hz,e,hh,e2⟩
   ·omega
   ·have:i=j:=by omega
    subst this;rw [ex] at hz;cases hz;rw [hy];show some y.r.deep.toNat=_
    congr 1
    omega
  have eS:((ay xs j).map (tOf xs)).reverse.map (fun k=>(k,xs[j].r.deep.toNat + 1))=(((ay xs j).reverse.map fun k=>(k,12 - k)).map fun p:Nat×Nat=>(tOf xs p.1,match xs[p.1]? with | some x=>x.r.deep.toNat | none=>0)):=by
   rw [<- V1,A7,A7];refine K3 fun k hk=>?_;have:=eR k (J6.mp hk);cases exk:xs[k]? with
   | none=>rw [exk] at this; cases this
   | some y =>
    rw [exk] at this;show(tOf xs k,xs[j].r.deep.toNat + 1)=(tOf xs k,match xs[k]? with | some x=>x.r.deep.toNat | none=>0)
    rw [exk];injection this with this
    rw [<- this]
  rw [eS,<- j6];have eF:(((ay xs j).reverse.map fun k=>(k,12 - k)).map fun p:Nat×Nat=>jq xs p.2 p.1)=(ay xs j).reverse.map (jq xs g):=by
   rw [A7];refine K3 fun k hk=>?_;obtain⟨a,b⟩:=aQ h (J6.mp hk);exact(rod_fuel h (12 - k) g k (by omega) (by omega) b)
  have eL2:((((ay xs j).reverse.map fun k=>(k,12 - k)) ++ js).map fun p:Nat×Nat=>jq xs p.2 p.1).flatten=((ay xs j).reverse.map (jq xs g)).flatten ++ (js.map fun p=>jq xs p.2 p.1).flatten:=by
   rw [j6,eF,aq1]
  refine Ac h n _ _ (fun p hp=>?_) (by rw [eL2]; exact h2.2) (fun i hi=>?_) (by rw [eL2,x9]; omega) (by rw [eL2]; omega)
  ·rcases B3.mp hp with hp | hp
   ·obtain⟨k,hk,rfl⟩:=w8.mp hp
    exact⟨(aQ h (J6.mp hk)).2,rfl⟩
   ·exact h1 p (u9 _ hp)
  ·rw [eL2] at hi
   rw [List.contains_cons,Bool.or_eq_false_iff];refine⟨?_,h3 i (u9 _ hi)⟩;have hij:i≠j:=fun e=>h2.1 (e ▸ hi)
   have hil:i < xs.length:=by
    rcases B3.mp hi with hi | hi
    ·obtain⟨l,hl,hi⟩:=G9.mp hi
     obtain⟨m,hm,rfl⟩:=w8.mp hl;exact(tF h (aQ h (J6.mp hm)).2 hi).2
    ·obtain⟨l,hl,hi⟩:=G9.mp hi
     obtain⟨p,hp,rfl⟩:=w8.mp hl;exact(tF h (h1 p (u9 _ hp)).1 hi).2
   exact beq_eq_false_iff_ne.mpr fun e=>hij (wI (by omega) (by omega) e)
where
 rod_fuel {c:Cn} {xs:List Lr} (h:RwsOk c xs):∀(n m k:Nat),12 - k<=n->12 - k<=m->k < xs.length->jq xs n k=jq xs m k:=by
  intro n
  induction n with
  | zero=>intro m k h1 _ h3; have:=h.n; omega
  | succ n ih =>
   intro m k h1 h2 h3;have n12:=h.n;obtain⟨m',rfl⟩:∃ m',m=m' + 1:=⟨m - 1,by omega⟩
   show k :: _=k :: _
   congr 2
   refine K3 fun j hj=>?_;obtain⟨a,b⟩:=aQ h (J6.mp hj);exact ih m' j (by omega) (by omega) b
theorem Hl{c:Cn}{xs:List Lr}(h:RwsOk c xs)(h0:0 < xs.length):By (tOf xs 0)=true:=by
 have ex:xs[0]? = some xs[0]:=i5 h0;have nd:=IF h 12 0 h0;have lim:=FO 12 _ nd fun i hi=>by have:=tF h h0 hi; have:=h.n; omega
 have d1:xs[0].r.deep.toNat=1:=by
  rcases(h.row 0 _ ex).about with ⟨_,_,e⟩ | ⟨j,_,hj,_⟩
  ·rw [e]; rfl
  ·omega
 have:=Ac h 42 [(0,12)] [] (by intro p hp; rw [A5.mp hp]; exact⟨h0,rfl⟩) (by simpa using nd) (fun i _=>rfl) (by simp; omega) (by simp; omega)
 rw [u6,T1,ex] at this;dsimp only at this;rw [d1] at this;exact this
theorem KD{c:Cn}{xs:List Lr}(h:RwsOk c xs){H:Hp}:∀(n k:Nat) (a:Addr),xs.length - k<=n->k < xs.length->IsBx H a (kr xs k)->TrAt H (tOf xs k) (.ref a)
 | 0,k,_,h1,h2,_=>by omega
 | n + 1,k,a,h1,h2,x=>by
  have ex:xs[k]? = some xs[k]:=i5 h2;obtain⟨t,ks,as,x1,x2,x3,x4⟩:=x.row h ex;have R:=h.row k _ ex;have n1:=IA c;obtain⟨p,ep⟩:=R.tags;rw [Ib h ex];refine TrAt.tup' x1 (.cons (.str _ (DS _ R.kind)) (.cons (.str _ (by rw [R.name,Fq]; omega)) (.cons (TrAt.tup' x2 ?_) (.cons ?_ (.cons (TrAt.tup' x3 ?_) .nil)))))
  ·have hb:∀ z∈xs[k].r.tags,z.length<=400:=fun z hz=>by
    rw [ep] at hz;exact HJ hz
   generalize xs[k].r.tags=l at hb;clear ep x2
   induction l with
   | nil=>exact .nil
   | cons z l ih=>exact .cons (.str z (hb z (l8 ..))) (ih fun y hy=>hb y (u9 _ hy))
  ·rcases R.more with ⟨_,ws,b,W⟩ | ⟨_,m,b,_⟩ | ⟨_,_,b⟩ <;> rw [b]
   ·exact .str _ (by have:=KC W; omega)
   ·exact .int m
   ·exact .non
  ·have go:∀(js:List Nat),(∀ j∈js,j∈ay xs k)->∀(l:List Addr),fU xs H l js->cL H (js.map (tOf xs)) (l.map V.ref):=by
    intro js
    induction js with
    | nil=>intro _ l u; cases u; exact .nil
    | cons j js ih =>
     intro hm l u;cases u with
     | cons ua ub =>
      obtain⟨z1,z2⟩:=aQ h (hm j (l8 ..));exact .cons (KD h n j _ (by omega) z2 ua) (ih (fun i hi=>hm i (u9 _ hi)) _ ub)
   exact go _ (fun _ z=>z) _ x4
theorem ny:bootBuiltins "reversed"=some (.type "reversed"):=by decide +kernel
theorem MF{c:Cn}{xs:List Lr}(h:RwsOk c xs){k:Nat}(hk:k < xs.length):1<=(bp xs k).length:=by rw [gx h hk]; simp
theorem xN{c:Cn}{xs:List Lr}(h:RwsOk c xs):∀(zs:List Nat),(∀ z∈zs,z < xs.length)->zs.length<=di xs zs
 | [],_=>by simp
 | z :: zs,hz=>by
  have h1:=MF h (hz z (l8 ..));have h2:=xN h zs fun y hy=>hz y (u9 _ hy);unfold di at h2 ⊢;rw [u6,N6,A2,x9];omega
theorem zI{α:Type}(f:α->V)(l:List α)(a:α):((l ++ [a]).map f)[((l ++ [a]).map f).length - 1]? = some (f a):=by
 simp
def Jz:Sp:=fun vs H Q _ => ∃(d:Addr) (xs:List Lr) (c:Cn) (k:Nat),vs=[.ref d]/\RwsOk c xs/\k < xs.length/\IsBx H d (kr xs k) /\
 ∀(l:Addr) (as:List Addr) (H':Hp),H l=none->aS H H'->H' l=some (.lst (as.map V.ref))->fU xs H' as (bp xs k)->Q (.ref l) H'
seal PE PS PSs L2.PA PT PI PG in
theorem qA(T:Txt K mg A):FnOk P w K mg base CX0 1 A.rH A.tX jA Jz:=by
 exists T.dy.F.ok hZ
 ·obtain⟨d,xs,c,k,rfl,_⟩:=h; rfl
 obtain⟨d,xs,c,k,rfl,ok,hk,hd,q⟩:=h;refine⟨_,@ah _ _ _ _ _ (aR (i:=1) hZ.nd rfl (m9 rfl) (bb ae))
  (@ah _ _ _ _ _ (aR (i:=2) hZ.nd rfl (m9 rfl) (bb (aa (pv 0) ae)))
  (@ah _ _ _ _ _ (sT F7 (ox (pv 2) (fun _=>rfl)) (@ah _ _ _ _ _ (aR (i:=3) hZ.nd rfl (m9 rfl) (Bm F1 ai6 ai7 AM (pv 2)))
  (@ah _ _ _ _ _ (bB (eZ F1 O4 O5 cX (pv 1) (aa (pv 3) ae)))
  (ak (bB (eZ F1 ai8 ai9 pq (pv 2) (aa (BL rfl T.km xK rfl T.dB ny (aA aP (pv 3) ag (fun _ _=>rfl))) ae)))))))
  (ak (ar (pv 1))))),?_⟩
 refine⟨aK (by simp),fun l1 hl1=>⟨zQa,aK (by simp),fun l2 hl2=>?_⟩⟩
 have s1:=ai hl1 (.lst []);have s2:=ai hl2 (.lst [V.ref d]);have n12:l1≠l2:=fun e=>by rw [<- e,af] at hl2; cases hl2
 have hl2':H l2=none:=by rw [am n12.symm] at hl2; exact hl2
 have lim:(bp xs k).length<=4096:=Kj ok hk;have n40:(5000:Nat)<=sizeLine:=by decide
 refine⟨fun m σ H1 => ∃(ds zs:List Nat) (da za:List Addr) (v3:Option V),σ=[some (.ref d),some (.ref l1),some (.ref l2),v3]/\aS H H1/\H1 l1=some (.lst (da.map V.ref))/\H1 l2=some (.lst (za.reverse.map V.ref)) /\
   fU xs H da ds/\fU xs H za zs/\ds ++ (zs.map (bp xs)).flatten=bp xs k/\(∀ z∈zs,z < xs.length)/\m=di xs zs,
  ⟨_,[],[k],[],[d],none,rfl,s1.trans s2,by rw [am n12,af]; rfl,af,.nil,.one hd,by simp,by simpa using hk,rfl⟩,?_⟩
 rintro m σ H1 ⟨ds,zs,da,za,v3,rfl,s3,e1,e2,bd,bz,eo,hz,rfl⟩;cases bz with
 | nil =>
  refine⟨zQa,_,.inl ⟨_,.of e2,rfl⟩,aI (by simp) ?_⟩
  refine⟨zQa,q l1 da H1 hl1 s3 e1 ?_⟩;rw [<- eo]
  simpa using bd.same s3
 | @cons a z za zs ha bz =>
  refine⟨zQa,_,.inl ⟨_,.of e2,rfl⟩,aM (by simp) ?_⟩
  refine⟨fun σ' H'=>_,fun σ' H' h=>h,?_⟩;have hzx:=hz z (l8 ..);have ex:xs[z]? = some xs[z]:=i5 hzx;obtain⟨t,ks,as,b1,b2,b3,b4⟩:=ha.row ok ex;have er:(a :: za).reverse.map V.ref=(za.reverse ++ [a]).map V.ref:=by rw [af2]
  rw [er] at e2;have len1:ds.length + ((z :: zs).map (bp xs)).flatten.length=(bp xs k).length:=by rw [<- eo,A2]
  have len2:(z :: zs).length<=di xs (z :: zs):=xN ok _ hz;have len3:=bd.len;have len4:=bz.len;have len5:=b4.len;have len6:=nH xs z;have len7:=ok.n;unfold di at len2;rw [x9] at len2;refine⟨zQa,.inl ⟨rfl,_,.of e2⟩,l2,zQb,e2,zI _ _ _,?_⟩;have ed:((za.reverse ++ [a]).map V.ref).dropLast=za.reverse.map V.ref:=by rw [j6]; exact aj1
  rw [ed];have k1:upd H1 l2 (.lst (za.reverse.map V.ref)) l1=some (.lst (da.map V.ref)):=by rw [am n12]; exact e1
  refine⟨zQa,.inl ⟨rfl,_,.of k1⟩,zQa,l1,zQb,k1,by rw [i4]; omega,?_⟩
  have k2:upd (upd H1 l2 (.lst (za.reverse.map V.ref))) l1 (.lst (da.map V.ref ++ [V.ref a])) l2=some (.lst (za.reverse.map V.ref)):=by rw [am n12.symm,af]
  have k3:upd (upd H1 l2 (.lst (za.reverse.map V.ref))) l1 (.lst (da.map V.ref ++ [V.ref a])) l1=some (.lst (da.map V.ref ++ [V.ref a])):=af;have s4:aS H (upd (upd H1 l2 (.lst (za.reverse.map V.ref))) l1 (.lst (da.map V.ref ++ [V.ref a]))):=fun b u e=>by
   rw [am (aH e hl1),am (aH e hl2')]; exact s3 _ _ e
  generalize upd (upd H1 l2 (.lst (za.reverse.map V.ref))) l1 (.lst (da.map V.ref ++ [V.ref a]))=H2 at k2 k3 s4 ⊢;refine⟨zQa,.inl ⟨rfl,_,.of k2⟩,zQa,a,zQc,.of (s4 _ _ b1),rfl,ks,as.map V.ref,rfl,.of (s4 _ _ b3),fun l3 hl3=>?_⟩;have n3:l3≠l2:=fun e=>by rw [e,k2] at hl3; cases hl3
  have n4:l3≠l1:=fun e=>by rw [e,k3] at hl3; cases hl3
  have s5:=ai hl3 (.lst (as.map V.ref).reverse);refine⟨l2,l3,zQb,s5 _ _ k2,af,by simp only [i4,Q9]; omega,?_⟩
  refine⟨_,zM (js:=zs) ok hzx |> fun h=>?_,ds ++ [z],ay xs z ++ zs,da ++ [a],as ++ za,some (.ref a),rfl,fun b u e=>by rw [am (aH e hl2')]; exact s5 _ _ (s4 _ _ e),?_,?_,bd.append (.one ha),b4.append bz,?_,?_,rfl⟩
  ·have:di xs (ay xs z ++ zs)=di xs (zs ++ ay xs z):=by rw [gE,gE,aa2]
   rw [this];have:di xs (z :: zs)=di xs (zs ++ [z]):=by rw [gE,aa2,<- gE]; rfl
   rw [this]; exact h
  ·rw [am n12,s5 _ _ k3,j6]; rfl
  ·rw [af,<- V1,<- j6,<- aj0]
  ·rw [<- eo,u6,N6,gx ok hzx]
   simp
  ·intro y hy
   rcases B3.mp hy with hy | hy
   ·exact(aQ ok hy).2
   ·exact hz y (u9 _ hy)
theorem RowOk.nm{c:Cn}{xs:List Lr}(ok:RwsOk c xs){k:Nat}(hk:k < xs.length):(xs[k]).r.name=nm c k:=(ok.row k _ (i5 hk)).name
def xr (xs:List Lr)(H H1:Hp)(l2:Addr)(a:Addr)(j:Nat):Prop := ∃ bs,H1 a=some (.lst (bs.map V.ref))/\fU xs H bs (dG xs j)/\a≠l2/\H a=none
theorem xr.same{xs:List Lr}{H H1 H2:Hp}{l2 a:Addr}{j:Nat}(s:aS H1 H2)(h:xr xs H H1 l2 a j):xr xs H H2 l2 a j:=let ⟨bs,h1,h2⟩:=h; ⟨bs,s _ _ h1,h2⟩
theorem xr.upd{xs:List Lr}{H H1:Hp}{l2 a:Addr}{j:Nat}(o:HO)(h:xr xs H H1 l2 a j):xr xs H (upd H1 l2 o) l2 a j:=let ⟨bs,h1,h2,h3,h4⟩:=h; ⟨bs,by rw [am h3]; exact h1,h2,h3,h4⟩
theorem Ba{c:Cn}{xs:List Lr}(ok:RwsOk c xs){j:Nat}(hj:j < xs.length):∃ l,dG xs j=l ++ [j]:=by
 have ex:xs[j]? = some xs[j]:=i5 hj;by_cases h0:j=0
 ·subst h0; exact⟨[],jr ok ex (tN ok ex)⟩
 ·obtain⟨i,_,hi⟩:=Il ok hj h0
  exact⟨_,cF ok hi⟩
theorem Txt.nn(T:Txt K mg A):ClsAt K A.c_PaneError A.clsL A.c_NoName:=(AC T.cls).2 _ (by simp)
theorem PF(T:Txt K mg A){N:List Str}{qual:Str}{scope:j9}{f:Addr}{cd:g7}{B:j0}{outer:List Env}{s:g8}{H:Hp}{E:XK}{x:Str}{j np cp pp pos:_}(hg:Gl (fV (CXW P w) P w K mg base N qual scope f cd B outer s H E) "NoName") :
  PS (fV (CXW P w) P w K mg base N qual scope f cd B outer s H E) (.Raise (some (.Call (.Name "NoName" np) [.Constant (.str x) j cp] [] pp)) none pos) (wV E A.c_NoName (jP (tC (.str x)) qQ)) :=
 sw wZ rfl hg T.m_NoName T.nn.exc V0 V0 (by decide) (by show 1<=1000; omega) (aa ap ae) (fun σ H Q h=>⟨by show 1<=sizeLine; decide,h⟩)
def PN (K:i3)(c:Cn)(xs:List Lr)(H:Hp)(v:V):Prop:=(∃ z:Str,v = .str z/\∀ k,k < xs.length->nm c k≠z)\/∃ S,Is K H v S/\zb S "str"=false
abbrev yp:j9:=(match aW iV with | _ :: (.While _ (_ :: _ :: (.Expr (.Call _ ((.ListComp _ _ sc _) :: _) _ _) _) :: _) _ _) :: _=>sc | _=>aj iV)
theorem xo:Blk (aj iV) uf yp ["kid"] [3]:=⟨rfl,zQd,zQd,zQd,zQd⟩
theorem zG:(cy uf ["kid"] [3]).Nodup:=by decide +kernel
def Pk (K:i3)(c0:Addr):Sp:=fun vs H Q E => ∃(d:Addr) (v:V) (xs:List Lr) (c:Cn),vs=[.ref d,v]/\RwsOk c xs/\0 < xs.length/\IsBx H d (kr xs 0) /\
 ((∃ k:Nat,v = .str (nm c k)/\k < xs.length/\∀(l:Addr) (as:List Addr) (H':Hp),H l=none->aS H H'->H' l=some (.lst (as.map V.ref))->fU xs H' as (dG xs k)->Q (.ref l) H') \/
  (PN K c xs H v/\∀ H',aS H H'->E (.ref c0) none H'))
seal PE PS PSs L2.PA PT PI PG in
theorem oP(T:Txt K mg A):FnOk P w K mg base (CXW P w) 1 A.rJ A.um kB (Pk K A.c_NoName):=by
 exists T.dm.F.okW pX
 ·obtain⟨d,v,xs,c,rfl,_⟩:=h; rfl
 obtain⟨d,v,xs,c,rfl,ok,h0,hd,alt⟩:=h;refine⟨_,@ah _ _ _ _ _ (aR (i:=2) pX.nd rfl (m9 rfl) (tZ (bS (aq bF rfl T.aF aL (aa (pv 1) (aa (bL rfl T.gQ kz (v:=.ty "str") rfl) ae)))) (bb (aa (bb (aa (pv 0) ae)) ae)) (bb ae)))
  (@ah _ _ _ _ _ (PS.nox (sT F7 (ox (pv 2) (fun _=>rfl)) (@ah _ _ _ _ _ (aR (i:=3) pX.nd rfl (B9 rfl) (Bm F1 ai6 ai7 AM (pv 2)))
  (@ah _ _ _ _ _ (bc (aB cB (aA aP (aA aY (pv 3) (vb pW ag) (fun _ _=>rfl)) ag (fun _ _=>rfl)) (pv 1) (aJ _)) (ak (ar (pv 3))) aE)
  (ak (bB (eZ F1 ai8 ai9 pq (pv 2) (aa (bO xo rfl (cZ (aA aP (aA aY (pv 3) (vb pW ag) (fun _ _=>rfl)) ag (fun _ _=>rfl))) (fun _ _ _ _ _=>aN (i:=0) zG rfl (.inl rfl)) (fun _ _ _ _ _=>cr) (fun _ _ _ _ _=>aD rA (pv 1) (bb (aa (pv 0) ae)))) ae))))))))
  (ak (PF T rfl))),?_⟩
 have ex0:xs[0]? = some xs[0]:=i5 h0;have n40:(5000:Nat)<=sizeLine:=by decide
 have lim:(bp xs 0).length<=4096:=Kj ok h0;by_cases hs:∃ S,Is K H v S/\zb S "str"=false
 ·-- no text
  obtain⟨S,hS,hb⟩:=hs;rcases alt with ⟨k,rfl,_⟩ | ⟨_,q⟩
  ·obtain⟨ty,mem⟩:=hS
   cases ty;cases hb
  refine⟨zQa,v,"str",_,false,rfl,hS.ty,((hS.kit T.kit "str").trans (by rw [hb])),zQa,aV ⟨aK (by simp),fun l2 hl2=>?_⟩⟩
  refine⟨fun m σ H1=>σ=[some (.ref d),some v,some (.ref l2),none]/\aS H H1/\H1 l2=some (.lst []),⟨0,rfl,ai hl2 _,af⟩,?_⟩;rintro m σ H1 ⟨rfl,s1,e1⟩;refine⟨zQa,_,.inl ⟨_,.of e1,rfl⟩,aI (by simp) ?_⟩
  exact q _ s1
 obtain⟨z,rfl⟩:∃ z,v = .str z:=by
  rcases alt with ⟨k,rfl,_⟩ | ⟨⟨z,rfl,_⟩ | h,_⟩
  ·exact⟨zQa⟩
  ·exact⟨zQa⟩
  ·exact absurd h hs
 refine⟨zQa,_,"str",_,true,rfl,.str z,BG T.kit (S:="str") (T:="str") rfl rfl,zQa,ax ⟨zQa,aK (by simp),fun l1 hl1=>⟨aK (by simp),fun l2 hl2=>?_⟩⟩⟩
 have s1:=ai hl1 (.lst [V.ref d]);have s2:=ai hl2 (.lst [V.ref l1]);have n12:l1≠l2:=fun e=>by rw [<- e,af] at hl2; cases hl2
 have hl2':H l2=none:=by rw [am n12.symm] at hl2; exact hl2
 refine⟨fun m σ H1 => ∃(js:List Nat) (ws:List Addr) (v3:Option V),σ=[some (.ref d),some (.str z),some (.ref l2),v3]/\aS H H1/\H1 l2=some (.lst (ws.map V.ref))/\F2 (xr xs H H1 l2) ws js/\(∀ j∈js,j < xs.length) /\
   (∀ k:Nat,k < xs.length->nm c k=z->k∈(js.map (bp xs)).flatten)/\di xs js<=4096/\m=di xs js,
  ⟨_,[0],[l1],none,rfl,s1.trans s2,af,.one ⟨[d],by rw [am n12,af]; rfl,by rw [jr ok ex0 (tN ok ex0)]; exact .one hd,n12,hl1⟩,by simpa using h0,fun k hk _=>by simpa using zQ ok k hk,by unfold di; simpa using lim,rfl⟩,?_⟩
 rintro m σ H1 ⟨js,ws,v3,rfl,s3,e2,bw,hj,hin,hm,rfl⟩;rcases ac8 js with rfl | ⟨js',j,rfl⟩
 ·cases bw
  refine⟨zQa,_,.inl ⟨_,.of e2,rfl⟩,aI (by simp) ?_⟩
  rcases alt with ⟨k,e,hk,_⟩ | ⟨_,q⟩
  ·injection e with e
   have:=hin k hk e.symm;simp at this
  ·exact q _ s3
 ·rw [ac9] at bw hj hin hm ⊢
  obtain⟨ws',wj,rfl,bw',bj⟩:=bw.last;refine⟨zQa,_,.inl ⟨_,.of e2,rfl⟩,aM (by simp) ?_⟩
  refine⟨fun σ' H'=>_,fun σ' H' h=>h,?_⟩;have hjx:=hj j (by simp)
  have ex:xs[j]? = some xs[j]:=i5 hjx;obtain⟨bs,g1,g2,g3,g4⟩:=bj;obtain⟨al,eal⟩:=Ba ok hjx;rw [eal] at g2;obtain⟨bs',b,rfl,g5,g6⟩:=g2.last;obtain⟨t,ks,as,c1,c2,c3,c4⟩:=g6.row ok ex;have lena:=Ed ok j hjx;have len0:=(g5.append (F2.one g6)).len;rw [<- eal] at len0;have len7:=ok.n;have len5:=c4.len;have len6:=nH xs j;have len2:=xN ok _ hj;have len3:=bw'.len;rw [A2,N7] at len2;refine⟨zQa,.inl ⟨rfl,_,.of e2⟩,l2,zQb,e2,zI _ _ _,?_⟩;have ed:((ws' ++ [wj]).map V.ref).dropLast=ws'.map V.ref:=by rw [j6]; exact aj1
  rw [ed];have bw2:F2 (xr xs H (upd H1 l2 (.lst (ws'.map V.ref))) l2) ws' js':=bw'.mono fun _ _ x=>x.upd _;have k1:upd H1 l2 (.lst (ws'.map V.ref)) wj=some (.lst ((bs' ++ [b]).map V.ref)):=by rw [am g3]; exact g1
  have k2:upd H1 l2 (.lst (ws'.map V.ref)) l2=some (.lst (ws'.map V.ref)):=af;have s4:aS H (upd H1 l2 (.lst (ws'.map V.ref))):=fun b u e=>by rw [am (aH e hl2')]; exact s3 _ _ e
  generalize upd H1 l2 (.lst (ws'.map V.ref))=H2 at bw2 k1 k2 s4 ⊢;have hat:atI ((bs' ++ [b]).map V.ref) (-1)=some (.ref b):=by rw [j6]; exact zw _ _
  refine⟨zQa,zQa,wj,zQc,.of k1,hat,b,zQc,.of (s4 _ _ c1),rfl,zQa,rfl,zQa,xC (fun cc=>?_) (fun cc=>?_)⟩
  ·have en:nm c j=z:=by
    have e:=of_decide_eq_true cc;injection e with e
    rw [<- RowOk.nm ok hjx]; exact e
   rcases alt with ⟨k,e,hk,q⟩ | ⟨⟨z',e,hz⟩ | h,_⟩
   ·injection e with e
    have ekj:j=k:=wI (by omega) (by omega) (en.trans e)
    subst ekj;refine⟨zQa,q wj (bs' ++ [b]) H2 g4 s4 k1 ?_⟩;rw [eal];exact fU.same s4 (g5.append (F2.one g6))
   ·injection e with e
    exact absurd (en.trans e) (hz j hjx)
   ·exact absurd h hs
  ·have en:nm c j≠z:=fun e=>cc (decide_eq_true (by rw [RowOk.nm ok hjx,e]))
   refine⟨_,rfl,.inl ⟨rfl,_,.of k2⟩,_,rfl,_,rfl,wj,_,_,_,rfl,rfl,.of k1,hat,b,_,_,_,rfl,rfl,.of (s4 _ _ c1),rfl,ks,rfl,.inr ⟨⟨_,.of (s4 _ _ c3)⟩,
    oB (xs:=as.map V.ref) (fun i acc H' => ∃ us:List Addr,acc=us.map V.ref/\aS H2 H'/\F2 (xr xs H H' l2) us ((ay xs j).take i)) ⟨[],rfl,.refl _,.nil⟩ (fun i acc H' z=>?_) (fun i acc H' z=>?_) (fun i x acc H' N kk hx z=>?_) fun acc H' z=>?_⟩⟩
   ·obtain⟨_,_,s5,_⟩:=z; exact .of (s5 _ _ (s4 _ _ c3))
   ·obtain⟨us,rfl,_,u1⟩:=z
    have:=u1.len;rw [A0] at this;rw [i4];omega
   ·obtain⟨us,rfl,s5,u1⟩:=z
    dsimp only [gW];rw [if_pos rfl];rw [o0] at hx;cases ea:as[i]? with
    | none=>rw [ea] at hx; cases hx
    | some a =>
     rw [ea] at hx;cases hx;have hi:i < (ay xs j).length:=by rw [<- len5]; exact(r9.mp ea).1
     have ej:(ay xs j)[i]? = some (ay xs j)[i]:=i5 hi;have hkid:=E9 hi;refine⟨zQa,zQa,aK (by simp),fun p1 hp1=>?_⟩
     have s6:=ai hp1 (.lst [V.ref a]);refine⟨wj,p1,zQb,s6 _ _ (s5 _ _ k1),af,by simp only [i4,A2,N7] at len0 ⊢; omega,fun p2 hp2=>?_⟩
     have s7:=ai hp2 (.lst ((bs' ++ [b]).map V.ref ++ [V.ref a]));have s8:=(s4.trans s5).trans (s6.trans s7);have n2:p2≠l2:=fun e=>by rw [e,s6 _ _ (s5 _ _ k2)] at hp2; cases hp2
     have hp2':H p2=none:=by
      cases e:H p2 with
      | none=>rfl
      | some o=>rw [s6 _ _ (s5 _ _ (s4 _ _ e))] at hp2; cases hp2
     refine kk _ _ ⟨us ++ [p2],by rw [j6]; rfl,s5.trans (s6.trans s7),?_⟩
     rw [B7,ej];refine(u1.mono fun _ _ x=>x.same (s6.trans s7)).append (.one ⟨bs' ++ [b] ++ [a],by rw [af,j6 (l₂:=[a])]; rfl,?_,n2,hp2'⟩)
     rw [cF ok hkid,eal];exact(g5.append (F2.one g6)).append (.one (c4.get ea ej))
   ·obtain⟨us,rfl,s5,u1⟩:=z
    rw [i4,len5,B5] at u1;have lenu:=u1.len;intro l3 hl3;have s6:=ai hl3 (.lst (us.map V.ref));have s7:=s5.trans s6;refine⟨l2,l3,zQb,s7 _ _ k2,af,by rw [i4,i4]; omega,?_⟩
    have lt:=zM (js:=js') ok hjx;refine⟨_,lt,js' ++ ay xs j,ws' ++ us,some (.ref wj),rfl,fun b u e=>by rw [am (aH e hl2')]; exact s7 _ _ (s4 _ _ e),by rw [af,j6],((bw2.mono fun _ _ x=>x.same s7).append (u1.mono fun _ _ x=>x.same s6)).mono fun _ _ x=>x.upd _,fun i hi=>?_,fun k hk e=>?_,by omega,rfl⟩
    ·rcases B3.mp hi with hi | hi
     ·exact hj i (P6 _ hi)
     ·exact(aQ ok hi).2
    ·have h1:=hin k hk e
     rw [j6,aq1] at h1 ⊢;rcases B3.mp h1 with h1 | h1
     ·exact P6 _ h1
     ·refine C3 _ ?_
      simp only [u6,T1,N6,List.flatten_nil,Q0] at h1
      rw [gx ok hjx] at h1;rcases l6.mp h1 with rfl | h1
      ·exact absurd e en
      ·exact h1
def bf:List Str:=["wide","high","leastw","mostw","leasth","mosth","pad","gap","over","able","fill","ink"]
def db (x:Str):Bool:=bf.any fun y=>y == x
def HU:Tr->Bool
 | .str x=>db x
 | _=>false
def inS (x:Str)(ss:List Str):Bool:=ss.any fun y=>y == x
def yO:List (Key×V):=[(i0 "leastw",.int 400),(i0 "mostw",.int 400),(i0 "leasth",.int 400),(i0 "mosth",.int 400),(i0 "pad",.int 9),(i0 "gap",.int 9)]
def fj (x:Str):Option Int:=if x="leastw" then some 400 else if x="mostw" then some 400 else if x="leasth" then some 400 else if x="mosth" then some 400 else if x="pad" then some 9 else if x="gap" then some 9 else none
theorem cI{κ:Type}[DecidableEq κ](k k':κ)(v:V)(r:List (κ×V)):cm ((k,v) :: r) k'=if k=k' then some v else cm r k':=by
 unfold cm;rw [N8];by_cases h:k=k'
 ·rw [if_pos h]; simp [h]
 ·rw [if_neg h]; simp [h]
theorem NC{x y:Str}:((i0 y:Key)=i0 x)=(x=y):=propext ⟨fun h=>by injection h with h; exact h.symm,fun h=>by rw [h]⟩
theorem vS(x:Str):cm yO (i0 x:Key)=(fj x).map V.int:=by
 unfold yO fj;rw [cI,cI,cI,cI,cI,cI];simp only [NC]
 repeat (split; · rfl)
 rfl
theorem zB:(yO.map (·.1)).Nodup:=by decide +kernel
theorem rB:(bf.map i0:List Key).Nodup:=by decide +kernel
theorem DZ{r:List (Key×V)}(x:Str)(e:r.map (·.1)=bf.map i0):(cm r (i0 x:Key)).isSome=db x:=by
 have:∀(r:List (Key×V)) (ps:List Str),r.map (·.1)=ps.map i0->(cm r (i0 x:Key)).isSome=ps.any fun y=>y == x:=by
  intro r
  induction r with
  | nil=>intro ps h; cases ps with
   | nil=>rfl
   | cons _ _=>cases h
  | cons p r ih=>intro ps h; cases ps with
   | nil=>cases h
   | cons y ps =>
    rw [u6,u6] at h;injection h with h1 h2
    obtain⟨k,v⟩:=p;rw [cI,P2,<- ih ps h2];dsimp only at h1;rw [h1];by_cases c:y=x
    ·rw [if_pos (by rw [c]),c]; simp
    ·rw [if_neg (by intro z; injection z with z; exact c z)]
     have:(y == x)=false:=by simp [c]
     rw [this,W7]
 exact this r bf e
def gL:Tr->Bool
 | .tup [.str x]=>decide (x="hold")
 | .tup [.str x,t]=>if x="fixed" then bV t 0 400 else decide (x="share") && bV t 1 99
 | _=>false
def kJ:Tr->Bool
 | .tup [.str _]=>true
 | .tup [.str _,_]=>true
 | _=>false
def KU (x:Str):Bool:=decide (x.length<=1) && (decide (x=u7) || ((leS "!" x && leS x "~") && !decide (x.cps.getD 0 0=37)))
def rY:Tr->Bool
 | .str x=>KU x
 | _=>false
def zE:Tr->Bool
 | .bl _=>true
 | _=>false
def NX:List Str:=["as","great","small"]
def Eb:Tr->Bool
 | .str x=>NX.any fun y=>y == x
 | _=>false
def dg (w:Str)(t:Tr):Bool:=match fj w with
 | some m=>bV t 0 m
 | none=>if inS w ["wide","high"]=true then gL t else if inS w ["over","able"]=true then zE t else if w="fill" then rY t else Eb t
def jV:Tr->Bool
 | .tup [.str w,t]=>db w && dg w t
 | _=>false
def iF:Tr->Str
 | .tup [.str w,_]=>w
 | _=>u7
def sx:Tr->Bool
 | .tup l=>(decide (1<=l.length) && decide (l.length<=12)) && (l.all jV && decide (eY (l.map iF)=l.length))
 | _=>false
def iu:Tr->Bool
 | .tup [.str x]=>inS x ["first","last"]
 | .tup [.str x,t]=>if inS x ["kind","in"]=true then mD t else if inS x ["name","tag","under"]=true then cY t else decide (x="nth") && bV t 1 12
 | _=>false
def kQ:Tr->Bool
 | .tup l=>decide (l.length<=4) && l.all iu
 | _=>false
def dh:Tr->Bool
 | .tup [r,ts,ss]=>bV r 0 99 && (kQ ts && sx ss)
 | _=>false
theorem we{t:Tr}(h:kJ t=true):(∃ x,t = .tup [.str x])\/∃ x u,t = .tup [.str x,u]:=by
 unfold kJ at h;split at h
 ·exact .inl ⟨zQa⟩
 ·exact .inr ⟨_,zQa⟩
 ·cases h
theorem TrAt.one{H:Hp}{v:V}{x:Str}(h:TrAt H (.tup [.str x]) v):∃ a,v = .ref a/\H a=some (.tup [.str x]):=by
 obtain⟨a,vs,rfl,ea,k⟩:=h.tupE;cases k with
 | @cons _ v0 _ _ a0 k =>
 cases k;cases a0;exact⟨a,rfl,ea⟩
theorem TrAt.two{H:Hp}{v:V}{x:Str}{u:Tr}(h:TrAt H (.tup [.str x,u]) v):∃ a v1,v = .ref a/\H a=some (.tup [.str x,v1])/\TrAt H u v1/\x.length<=400:=by
 obtain⟨a,vs,rfl,ea,k⟩:=h.tupE;cases k with
 | @cons _ v0 _ _ a0 k =>
 cases k with
 | @cons _ v1 _ _ a1 k =>
 cases k;cases a0 with
 | str _ hx=>exact⟨a,v1,rfl,ea,a1,hx⟩
theorem fB{x y:Str}:decide (V.str x=V.str y)=decide (x=y):=by
 by_cases c:x=y
 ·rw [decide_eq_true c,decide_eq_true (by rw [c])]
 ·rw [decide_eq_false c,decide_eq_false (by intro z; injection z with z; exact c z)]
theorem jQ(x:Str)(ss:List Str):inV (.str x) (ss.map V.str)=inS x ss:=lH x ss
theorem Ho{x:Str}(h:x.length<=1)(n:x≠u7):x.length=1:=by
 have:x.length≠0:=fun z=>n (by cases x with | mk c=>exact congrArg Str.mk (Array.size_eq_zero_iff.mp z))
 omega
def Nd:Tr->Option (List Tr)
 | .tup l=>some l
 | .lst l=>some l
 | _=>none
def pY (t:Tr):Bool:=match Nd t with
 | some l=>decide (l.length<=40) && l.all dh
 | none=>false
def spT (f:Tr->Bool):Sp:=fun vs H Q _ => ∃(v:V) (t:Tr),vs=[v]/\TrAt H t v/\∀ H',aS H H'->Q (.bl (f t)) H'
seal PE PS PSs L2.PA PT PI PG in
theorem ud(T:Txt K mg A)(hw:A.wd=w):FnOk P w K mg base CX0 1 A.mt A.mJ fE (spT HU):=by
 obtain⟨ii,x0,x1,kY,hq⟩:=T.jk;rw [hw] at hq
 exists T.fI.F.ok tw
 ·obtain⟨v,t,rfl,_⟩:=h; rfl
 obtain⟨v,t,rfl,h,q⟩:=h;refine⟨_,ak (ar (cu (aq bF rfl T.aF aL (aa (pv 0) (aa (bL rfl T.gQ kz (v:=.ty "str") rfl) ae))) (cz (br Cg (pv 0) (bi rfl kY (v:=.ref ii) rfl) rfl)))),?_⟩;have I:=h.is (K:=K);refine⟨zQa,v,"str",_,zQa,I.ty,I.kit T.kit "str",zQa,?_⟩;cases h with
 | str x _ =>
  refine ax ⟨zQa,ii,_,i0 x,rfl,rfl,hq,rB,?_⟩;rw [DZ x rfl];exact q _ (.refl _)
 | int i=>exact aV (q _ (.refl _))
 | bl b=>exact aV (q _ (.refl _))
 | non=>exact aV (q _ (.refl _))
 | tup e n k=>exact aV (q _ (.refl _))
 | lst e n k=>exact aV (q _ (.refl _))
 | dic e=>exact aV (q _ (.refl _))
seal PE PS PSs L2.PA PT PI PG in
theorem qv(T:Txt K mg A):FnOk P w K mg base CX0 1 A.sf A.sv jL (spT kJ):=by
 exists T.dD.F.ok yz
 ·obtain⟨v,t,rfl,_⟩:=h; rfl
 obtain⟨v,t,rfl,h,q⟩:=h;refine⟨_,ak (ar (cu (aq bF rfl T.aF aL (aa (pv 0) (aa (bL rfl T.cw eI (v:=.ty "tuple") rfl) ae))) (cu (nW kg kg ag (aq aG rfl T.bM bT (aa (pv 0) ae)) ag) (cz (aq bF rfl T.aF aL (aa (aA aP (pv 0) ag (fun _ _=>rfl)) (aa (bL rfl T.gQ kz (v:=.ty "str") rfl) ae))))))),?_⟩;have I:=h.is (K:=K);refine⟨zQa,v,"tuple",_,zQa,I.ty,I.kit T.kit "tuple",zQa,?_⟩;cases t with
 | tup l =>
  obtain⟨a,vs,rfl,ea,k⟩:=h.tupE;have lk:=k.len;refine ax ⟨zQa,a,vs,rfl,.inr (.of ea),zQb,zQa,?_⟩;cases k with
  | nil=>exact aV ⟨zQa,aV (q _ (.refl _))⟩
  | @cons t0 v0 l vs a0 k =>
  refine aM (decide_eq_true (by rw [x9]; omega)) ⟨zQb,zQa,?_⟩
  cases k with
  | nil =>
   refine ax ⟨zQa,a,_,_,v0,rfl,rfl,.of ea,rfl,v0,"str",_,zQa,(a0.is (K:=K)).ty,(a0.is (K:=K)).kit T.kit "str",?_⟩;cases t0 <;> exact q _ (.refl _)
  | @cons t1 v1 l vs a1 k =>
  cases k with
  | nil =>
   refine ax ⟨zQa,a,_,_,v0,rfl,rfl,.of ea,rfl,v0,"str",_,zQa,(a0.is (K:=K)).ty,(a0.is (K:=K)).kit T.kit "str",?_⟩;cases t0 <;> exact q _ (.refl _)
  | @cons t2 v2 l vs a2 k =>
  refine aI (decide_eq_false (by simp only [x9]; omega)) ?_
  cases t0 <;> exact q _ (.refl _)
 | str x=>exact aV (q _ (.refl _))
 | int i=>exact aV (q _ (.refl _))
 | bl b=>exact aV (q _ (.refl _))
 | non=>exact aV (q _ (.refl _))
 | lst l=>exact aV (q _ (.refl _))
 | dic=>exact aV (q _ (.refl _))
seal PE PS PSs L2.PA PT PI PG in
theorem Aw(T:Txt K mg A):FnOk P w K mg base CX0 3 A.vL A.vd lP (spT gL):=by
 have ni:=(qv (P:=P) (w:=w) (base:=base) T).mono (show 1<=2 by decide)
 have bW:=dU (P:=P) (w:=w) (base:=base) T;obtain⟨g1,uI⟩:=T.dQ;obtain⟨g2,uv⟩:=T.eO
 exists T.li.F.ok AU
 ·obtain⟨v,t,rfl,_⟩:=h; rfl
 obtain⟨v,t,rfl,h,q⟩:=h;refine⟨_,@ah _ _ _ _ _ (bc (ca (bS (b9 ni hr rfl T.dD (aa (pv 0) ae)))) (ak (ar dW)) aE)
  (@ah _ _ _ _ _ (bc (aB cB (aq aG rfl T.bM bT (aa (pv 0) ae)) ag (aJ _)) (ak (ar (br cB (aA aP (pv 0) ag (fun _ _=>rfl)) ap (aJ _)))) aE)
  (@ah _ _ _ _ _ (bc (aB cB (aA aP (pv 0) ag (fun _ _=>rfl)) ap (aJ _)) (ak (ar (b9 bW hr rfl T.aX (aa (aA aP (pv 0) ag (fun _ _=>rfl)) (aa ag (aa (bi rfl uI (v:=.int 400) ⟨zQa⟩) ae)))))) aE)
  (ak (ar (cu (br cB (aA aP (pv 0) ag (fun _ _=>rfl)) ap (aJ _)) (cz (b9 bW hr rfl T.aX (aa (aA aP (pv 0) ag (fun _ _=>rfl)) (aa ag (aa (bi rfl uv (v:=.int 99) ⟨zQa⟩) ae)))))))))),?_⟩
 refine⟨zQa,v,t,rfl,h,fun H1 s1=>⟨zQa,?_⟩⟩;cases hh:kJ t with
 | false =>
  have e:gL t=false:=by
   unfold gL;split
   ·cases hh
   ·cases hh
   ·rfl
  rw [e] at q;exact ax (q _ s1)
 | true =>
  refine aV ?_;dsimp only [bN];replace h:=h.same s1;rcases we hh with ⟨x,rfl⟩ | ⟨x,u,rfl⟩
  ·obtain⟨a,rfl,ea⟩:=h.one
   refine⟨zQa,a,zQa,.inr (.of ea),rfl,zQa,ax ?_⟩;refine⟨zQa,a,zQc,.of ea,rfl,rfl,?_⟩;rw [fB];exact q _ s1
  ·obtain⟨a,v1,rfl,ea,h1,_⟩:=h.two
   refine⟨zQa,a,zQa,.inr (.of ea),rfl,zQa,aV ?_⟩;dsimp only [bN];refine⟨zQa,a,zQc,.of ea,rfl,rfl,zQa,?_⟩;rw [fB];have e:gL (.tup [.str x,u])=if x="fixed" then bV u 0 400 else decide (x="share") && bV u 1 99:=rfl
   rw [e] at q;by_cases c1:x="fixed"
   ·rw [if_pos c1] at q
    refine aM (decide_eq_true c1) ?_;exact⟨zQa,a,zQc,.of ea,rfl,v1,u,0,400,rfl,h1,q _ s1⟩
   ·rw [if_neg c1] at q
    refine aI (decide_eq_false c1) ?_;dsimp only [bN];refine⟨zQa,a,zQc,.of ea,rfl,rfl,zQa,?_⟩;rw [fB];by_cases c2:x="share"
    ·rw [decide_eq_true c2,y4] at q
     refine aM (decide_eq_true c2) ?_;exact⟨zQa,a,zQc,.of ea,rfl,v1,u,1,99,rfl,h1,q _ s1⟩
    ·rw [decide_eq_false c2,x8] at q
     exact aI (decide_eq_false c2) (q _ s1)
seal PE PS PSs L2.PA PT PI PG in
theorem qM(T:Txt K mg A):FnOk P w K mg base CX0 1 A.kU A.kS dS (spT rY):=by
 obtain⟨g1,BV⟩:=T.iS
 exists T.dR.F.ok qW
 ·obtain⟨v,t,rfl,_⟩:=h; rfl
 obtain⟨v,t,rfl,h,q⟩:=h;refine⟨_,@ah _ _ _ _ _ (bc (PW.pt (gp (ca (bS (aq bF rfl T.aF aL (aa (pv 0) (aa (bL rfl T.gQ kz (v:=.ty "str") rfl) ae))))) (dY (aB oM (aq gu rfl T.bM bT (aa (pv 0) ae)) ag (aJ _))))) (ak (ar dW)) aE)
  (ak (ar (KF (br cB (pv 0) ap (aJ _)) (cz (cu (nW EU EU ap (pv 0) ap) (cz (br mF (aq EX rfl T.zm PV (aa (pv 0) ae)) (bi rfl BV (v:=.int 37) ⟨zQa⟩) (aJ _)))))))),?_⟩
 have I:=h.is (K:=K);refine⟨zQa,v,"str",_,zQa,I.ty,I.kit T.kit "str",zQa,?_⟩;cases h with
 | str x hx =>
  have sz:x.length<=sizeLine:=aK (by omega)
  refine aV ⟨zQa,x,rfl,sz,zQb,zQa,?_⟩;have e:rY (.str x)=(decide (x.length<=1) && (decide (x=u7) || ((leS "!" x && leS x "~") && !decide (x.cps.getD 0 0=37)))):=rfl
  rw [e] at q;by_cases h1:x.length<=1
  ·refine aI (decide_eq_false (by omega)) ?_
   dsimp only [bN];rw [decide_eq_true h1,y4] at q;refine⟨zQa,rfl,zQa,?_⟩;by_cases c0:x=u7
   ·rw [decide_eq_true c0,W6] at q
    exact aM (decide_eq_true (by rw [c0]; rfl)) (q _ (.refl _))
   ·rw [decide_eq_false c0,W7] at q
    refine aI (decide_eq_false (by intro z; injection z with z; exact c0 z)) ?_
    refine⟨zQa,zQb,zQa,?_⟩;cases d1:leS "!" x with
    | false =>
     rw [d1,x8,x8] at q;exact aV ⟨zQa,aV (q _ (.refl _))⟩
    | true =>
    rw [d1,y4] at q;refine ax ⟨zQb,zQa,?_⟩;cases d2:leS x "~" with
    | false =>
     rw [d2,x8] at q;exact aV (q _ (.refl _))
    | true =>
    rw [d2,y4] at q;refine ax ⟨zQa,x,rfl,Ho h1 c0,rfl,?_⟩;have e2:(!decide (V.int ((x.cps.getD 0 0:Nat):Int)=V.int 37)) = !decide (x.cps.getD 0 0=37):=by
     by_cases c:x.cps.getD 0 0=37
     ·rw [decide_eq_true c,decide_eq_true (by rw [c]; rfl)]
     ·rw [decide_eq_false c,decide_eq_false (by intro z; injection z with z; exact c (by omega))]
    rw [e2];exact q _ (.refl _)
  ·refine aM (decide_eq_true (by omega)) ?_
   rw [decide_eq_false h1,x8] at q;exact q _ (.refl _)
 | int i=>exact ax (ax (q _ (.refl _)))
 | bl b=>exact ax (ax (q _ (.refl _)))
 | non=>exact ax (ax (q _ (.refl _)))
 | tup e n k=>exact ax (ax (q _ (.refl _)))
 | lst e n k=>exact ax (ax (q _ (.refl _)))
 | dic e=>exact ax (ax (q _ (.refl _)))
def Py:Sp:=fun vs H Q _ => ∃(x:Str) (v:V) (t:Tr),vs=[.str x,v]/\TrAt H t v/\∀ H',aS H H'->Q (.bl (dg x t)) H'
seal PE PS PSs L2.PA PT PI PG in
theorem yt(T:Txt K mg A)(hw:A.wd=w):FnOk P w K mg base CX0 4 A.tD A.rN jh Py:=by
 have bW:=(dU (P:=P) (w:=w) (base:=base) T).mono (show 2<=3 by decide)
 have En:=Aw (P:=P) (w:=w) (base:=base) T;have tL:=(qM (P:=P) (w:=w) (base:=base) T).mono (show 1<=3 by decide)
 obtain⟨rc,ym,hq⟩:=T.oO;rw [hw] at hq;obtain⟨Hq,JY,hi⟩:=T.uc
 exists T.iZ.F.ok zJ
 ·obtain⟨x,v,t,rfl,_⟩:=h; rfl
 obtain⟨x,v,t,rfl,h,q⟩:=h;refine⟨_,@ah _ _ _ _ _ (bc (aB Cg (pv 0) (bi rfl ym (v:=.ref rc) rfl) rfl) (ak (ar (b9 bW hr rfl T.aX (aa (pv 1) (aa ag (aa (Fo (bi rfl ym (v:=.ref rc) rfl) (pv 0) (fun _ _=>rfl)) ae)))))) aE)
  (@ah _ _ _ _ _ (bc (aB bK (pv 0) (bU (aa ap (aa ap ae))) rfl) (ak (ar (b9 En hr rfl T.li (aa (pv 1) ae)))) aE)
  (@ah _ _ _ _ _ (bc (aB bK (pv 0) (bU (aa ap (aa ap ae))) rfl) (ak (ar (aq bF rfl T.aF aL (aa (pv 1) (aa (bL rfl T.pb Iv (v:=.ty "bool") rfl) ae))))) aE)
  (@ah _ _ _ _ _ (bc (aB cB (pv 0) ap (aJ _)) (ak (ar (b9 tL hr rfl T.dR (aa (pv 1) ae)))) aE)
  (ak (ar (cu (aq bF rfl T.aF aL (aa (pv 1) (aa (bL rfl T.gQ kz (v:=.ty "str") rfl) ae))) (cz (br bK (pv 1) (bi rfl JY (v:=.ref Hq) rfl) rfl)))))))),?_⟩
 refine⟨zQa,rc,yO,i0 x,rfl,rfl,hq,zB,zQa,?_⟩;rw [vS,ag0];cases hm:fj x with
 | some m =>
  have e:dg x t=bV t 0 m:=by unfold dg; rw [hm]
  rw [e] at q;refine ax ?_;refine⟨zQa,zQa,rc,yO,i0 x,zQa,rfl,hq,zB,by rw [vS,hm]; rfl,v,t,0,m,rfl,h,q _ (.refl _)⟩
 | none =>
  refine aV ?_;dsimp only [bN];have e:dg x t=if inS x ["wide","high"]=true then gL t else if inS x ["over","able"]=true then zE t else if x="fill" then rY t else Eb t:=by unfold dg; rw [hm]
  rw [e] at q;refine⟨zQa,aK (by simp),fun p1 hp1=>⟨p1,zQa,.inr (.of af),rfl,bh ["wide","high"],zQa,?_⟩⟩
  have s1:=ai hp1 (.tup [V.str "wide",.str "high"]);rw [if_neg (by decide),show inV (.str x) [V.str "wide",.str "high"]=inS x ["wide","high"] from jQ x ["wide","high"]]
  cases c1:inS x ["wide","high"] with
  | true =>
   rw [if_pos c1] at q;exact ax ⟨zQa,v,t,rfl,h.same s1,fun H2 s2=>q _ (s1.trans s2)⟩
  | false =>
  rw [if_neg (by rw [c1]; decide)] at q
  refine aV ?_;dsimp only [bN];refine⟨zQa,aK (by simp),fun p2 hp2=>⟨p2,zQa,.inr (.of af),rfl,bh ["over","able"],zQa,?_⟩⟩
  have s2:=s1.trans (ai hp2 (.tup [V.str "over",.str "able"]));rw [if_neg (by decide),show inV (.str x) [V.str "over",.str "able"]=inS x ["over","able"] from jQ x ["over","able"]]
  have h2:=h.same s2;have I:=h2.is (K:=K);cases c2:inS x ["over","able"] with
  | true =>
   rw [if_pos c2] at q;refine ax ⟨zQa,v,"bool",_,zQa,I.ty,I.kit T.kit "bool",?_⟩;cases t <;> exact q _ s2
  | false =>
  rw [if_neg (by rw [c2]; decide)] at q
  refine aV ?_;dsimp only [bN];refine⟨zQa,rfl,zQa,?_⟩;rw [fB];by_cases c3:x="fill"
  ·rw [if_pos c3] at q
   exact aM (decide_eq_true c3) ⟨zQa,v,t,rfl,h2,fun H3 s3=>q _ (s2.trans s3)⟩
  ·rw [if_neg c3] at q
   refine aI (decide_eq_false c3) ?_;dsimp only [bN];refine⟨zQa,v,"str",_,zQa,I.ty,I.kit T.kit "str",zQa,?_⟩;cases h2 with
   | str y _ =>
    refine ax ⟨zQa,Hq,zQa,.inr (kh hi _),rfl,bh _,?_⟩;rw [if_neg (by decide),lH]
    exact q _ s2
   | int i=>exact aV (q _ s2)
   | bl b=>exact aV (q _ s2)
   | non=>exact aV (q _ s2)
   | tup e n k=>exact aV (q _ s2)
   | lst e n k=>exact aV (q _ s2)
   | dic e=>exact aV (q _ s2)
end
theorem EG{t:Tr}(h:HU t=true):∃ x,t = .str x:=by
 cases t with
 | str x=>exact⟨x,rfl⟩
 | _=>cases h
theorem MA{l:List Tr}(h:l.length≠2):jV (.tup l)=false:=by
 unfold jV;split
 ·rename_i e
  injection e with e
  rw [e] at h;exact absurd rfl h
 ·rfl
theorem zP{t:Tr}(h:jV t=true):∃ x u,t = .tup [.str x,u]/\db x=true/\dg x u=true:=by
 unfold jV at h;split at h
 ·rw [y9] at h
  exact⟨_,zQa,h.1,h.2⟩
 ·cases h
theorem Ca{H:Hp}:∀ {l:List Tr} {vs:List V},cL H l vs->l.all jV=true->∃ ps:List (Addr×Str×V),vs=(ps.map fun p=>V.ref p.1)/\(∀ p∈ps,H p.1=some (.tup [.str p.2.1,p.2.2]))/\l.map iF=ps.map (·.2.1)
 | [],_,.nil,_=>⟨[],rfl,by exact⟨fun p h=>(nomatch h),rfl⟩⟩
 | t :: l,_,.cons h k,ha=>by
  rw [Q4,y9] at ha;obtain⟨ps,e1,e2,e3⟩:=Ca k ha.2;obtain⟨x,u,rfl,_⟩:=zP ha.1;obtain⟨a,v1,rfl,ea,_,_⟩:=h.two;exact⟨(a,x,v1) :: ps,by rw [e1]; rfl,fun p hp=>by
   rcases l6.mp hp with rfl | hp
   ·exact ea
   ·exact e2 p hp,by rw [u6,e3]; rfl⟩
section
variable {K:i3} {H:Hp} {y:Str} {cap:List Nat} {σ:L2.St} {Z:List V→Hp→Prop} {a:Addr}
theorem uj{f:Tr->Bool}{l:List Tr}{vs:List V}(k:cL H l vs)(ea:H a=some (.tup vs))(hz:l.length<=999)(hd:∀ H',aS H H'->Z ((l.map f).map V.bl) H'):oU [y] cap (bC 0) gW (CL (spT f) [] E0 (jP (BQ 0) qQ)) σ Z (Itt K a) H:=by
 have lk:=k.len;refine oB (xs:=vs) (fun i acc H'=>acc=((l.take i).map fun t=>V.bl (f t))/\aS H H') ⟨rfl,.refl _⟩ (fun i acc H' z=>.of (z.2 _ _ ea)) (fun i acc H' z=>?_) (fun i x acc H' N kk hx z=>?_) fun acc H' z=>?_
 ·rw [z.1,i4,A0]; exact az (by omega)
 ·obtain⟨rfl,s1⟩:=z
  dsimp only [gW];rw [if_pos rfl];have hi:i < l.length:=by have:=(r9.mp hx).1; omega
  have et:l[i]? = some l[i]:=i5 hi;refine⟨zQa,x,l[i],rfl,(k.get et hx).same s1,fun H2 s2=>kk _ _ ⟨?_,s1.trans s2⟩⟩;rw [B7,et,j6]; rfl
 ·obtain⟨rfl,s1⟩:=z
  rw [<- lk,B5];have:=hd _ s1;rw [A7] at this;exact this
end
section
variable {P:i8} {w:i7} {K:i3} {mg:Str→Option g7} {base:Heap} {A:Adr}
seal PE PS PSs L2.PA PT PI PG in
theorem Ef(T:Txt K mg A)(hw:A.wd=w):FnOk P w K mg base CX0 5 A.zf A.ze oz (spT jV):=by
 have uq:=(ud (P:=P) (w:=w) (base:=base) T hw).mono (show 1<=4 by decide)
 have BM:=yt (P:=P) (w:=w) (base:=base) T hw
 exists T.oH.F.ok EB
 ·obtain⟨v,t,rfl,_⟩:=h; rfl
 obtain⟨v,t,rfl,h,q⟩:=h;refine⟨_,@ah _ _ _ _ _ (bc (PW.pt (gp (ca (bS (aq bF rfl T.aF aL (aa (pv 0) (aa (bL rfl T.cw eI (v:=.ty "tuple") rfl) ae))))) (dY (aB mF (aq aG rfl T.bM bT (aa (pv 0) ae)) ag (aJ _))))) (ak (ar dW)) aE)
  (ak (ar (cu (b9 uq hr rfl T.fI (aa (aA aP (pv 0) ag (fun _ _=>rfl)) ae)) (cz (b9 BM hr rfl T.iZ (aa (aA aP (pv 0) ag (fun _ _=>rfl)) (aa (aA aP (pv 0) ag (fun _ _=>rfl)) ae))))))),?_⟩
 have I:=h.is (K:=K);refine⟨zQa,v,"tuple",_,zQa,I.ty,I.kit T.kit "tuple",zQa,?_⟩;cases t with
 | tup l =>
  obtain⟨a,vs,rfl,ea,k⟩:=h.tupE;have lk:=k.len;refine aV ⟨zQa,a,vs,rfl,.inr (.of ea),rfl,zQa,?_⟩;by_cases h2:l.length=2
  ·refine aI (by simp; omega) ?_
   dsimp only [bN]
   match l,h2 with
   | [t0,t1],_ =>
   cases k with
   | @cons _ v0 _ _ a0 k =>
   cases k with
   | @cons _ v1 _ _ a1 k =>
   cases k;refine⟨zQa,a,zQc,.of ea,rfl,v0,t0,rfl,a0,fun H1 s1=>⟨zQa,?_⟩⟩;cases hp:HU t0 with
   | true =>
    obtain⟨x,rfl⟩:=EG hp;have e:jV (.tup [.str x,t1])=dg x t1:=by
     show(db x && dg x t1)=_;rw [show db x=true from hp,y4]
    rw [e] at q;cases a0 with
    | str _ hx =>
    exact ax ⟨zQa,a,zQc,.of (s1 _ _ ea),rfl,zQa,a,zQc,.of (s1 _ _ ea),rfl,x,v1,t1,rfl,a1.same s1,fun H2 s2=>q _ (s1.trans s2)⟩
   | false =>
    have e:jV (.tup [t0,t1])=false:=by
     cases t0 with
     | str x =>
      show(db x && dg x t1)=_;rw [show db x=false from hp,x8]
     | _=>rfl
    rw [e] at q;exact aV (q _ s1)
  ·rw [MA h2] at q
   refine aM (by simp; omega) ?_
   exact q _ (.refl _)
 | str x=>exact ax (ax (q _ (.refl _)))
 | int i=>exact ax (ax (q _ (.refl _)))
 | bl b=>exact ax (ax (q _ (.refl _)))
 | non=>exact ax (ax (q _ (.refl _)))
 | lst l=>exact ax (ax (q _ (.refl _)))
 | dic=>exact ax (ax (q _ (.refl _)))
abbrev uy:j9:=(match aW cx with | _ :: (.If (.UnaryOp _ (.Call _ ((.ListComp _ _ sc _) :: _) _ _) _) _ _ _) :: _=>sc | _=>aj cx)
theorem sK:Blk (aj cx) gI uy ["pair"] []:=⟨rfl,zQd,zQd,zQd,zQd⟩
theorem uD:(cy gI ["pair"] []).Nodup:=by decide +kernel
abbrev uP:j9:=(match aW cx with | _ :: _ :: (.Return (some (.Compare (.Call _ ((.Call _ ((.ListComp _ _ sc _) :: _) _ _) :: _) _ _) _ _ _)) _) :: _=>sc | _=>aj cx)
theorem sR:Blk (aj cx) gI uP ["word","value"] []:=⟨rfl,zQd,zQd,zQd,zQd⟩
theorem mr:(cy gI ["word","value"] []).Nodup:=by decide +kernel
seal PE PS PSs L2.PA PT PI PG in
theorem yq(T:Txt K mg A)(hw:A.wd=w):FnOk P w K mg base CX0 6 A.sC A.sW jM (spT sx):=by
 have Hj:=Ef (P:=P) (w:=w) (base:=base) T hw;obtain⟨ii,x0,x1,kY,hq⟩:=T.jk;rw [hw] at hq
 exists T.jE.F.ok zD
 ·obtain⟨v,t,rfl,_⟩:=h; rfl
 obtain⟨v,t,rfl,h,q⟩:=h;refine⟨_,@ah _ _ _ _ _ (bc (PW.pt (gp (ca (bS (aq bF rfl T.aF aL (aa (pv 0) (aa (bL rfl T.cw eI (v:=.ty "tuple") rfl) ae))))) (dY (ca (zy kg kg ag (aq aG rfl T.bM bT (aa (pv 0) ae)) (aq Av rfl T.bM bT (aa (bi rfl kY (v:=.ref ii) rfl) ae))))))) (ak (ar dW)) aE)
  (@ah _ _ _ _ _ (bc (ca (bS (aq (gR rfl) rfl T.kL tY (aa (bO sK rfl (cZ (pv 0)) (fun _ _ _ _ _=>aN (i:=0) uD rfl (.inl rfl)) (fun _ _ _ _ _=>cr) (fun _ _ _ _ _=>b9 Hj hr rfl T.oH (aa (pv 0) ae))) ae)))) (ak (ar dW)) aE)
  (ak (ar (br cB (sj rfl T.bM bT rfl T.rK Fa (bO sR rfl (cZ (pv 0)) (fun _ _ _ _ _=>Kp (K:=K) (n:=2) rfl rfl (fM (aN (i:=0) mr rfl (.inl rfl)) (fM (aN (i:=1) mr rfl (.inl rfl)) qZ)) rfl rfl) (fun _ _ _ _ _=>cr) (fun _ _ _ _ _=>pv 0))) (aq aG rfl T.bM bT (aa (pv 0) ae)) (aJ _))))),?_⟩
 have I:=h.is (K:=K);refine⟨zQa,v,"tuple",_,zQa,I.ty,I.kit T.kit "tuple",zQa,?_⟩;cases t with
 | tup l =>
  obtain⟨a,vs,rfl,ea,k⟩:=h.tupE;have lk:=k.len;refine aV ?_;refine⟨zQa,a,vs,rfl,.inr (.of ea),zQb,zQa,?_⟩;have lq:[((i0 "wide" : Key),V.ref x0),(i0 "high",.ref x1),(i0 "leastw",.int 0),(i0 "mostw",.int 400),(i0 "leasth",.int 0),(i0 "mosth",.int 400),(i0 "pad",.int 0),(i0 "gap",.int 0),(i0 "over",.bl false),(i0 "able",.bl false),(i0 "fill",.str ""),(i0 "ink",.str "as")].length=12:=rfl;have e:sx (.tup l)=((decide (1<=l.length) && decide (l.length<=12)) && (l.all jV && decide (eY (l.map iF)=l.length))):=rfl;rw [e] at q;by_cases h1:1<=l.length
  ·refine aM (decide_eq_true (by omega)) ⟨ii,zQa,hq,rB,zQb,zQa,?_⟩
   rw [decide_eq_true h1,y4] at q;by_cases h12:l.length<=12
   ·refine aI (by rw [lq]; show(!decide ((vs.length:Int)<=((12:Nat):Int)))=false; rw [decide_eq_true (by omega)]; rfl) ?_
    dsimp only [bN];rw [decide_eq_true h12,y4] at q;refine⟨zQa,a,rfl,.inr ⟨⟨_,.of ea⟩,uj k ea (by omega) fun H1 s1 p hp=>?_⟩⟩
    have s2:=s1.trans (ai hp (.lst ((l.map jV).map V.bl)));refine⟨p,l.map jV,rfl,.of (by rw [af]),zQa,?_⟩
    have e3:(l.map jV).all id=l.all jV:=by rw [N0]; rfl
    rw [e3];cases ha:l.all jV with
    | false =>
     rw [ha,x8] at q;exact ax (q _ s2)
    | true =>
     rw [ha,y4] at q;refine aV ?_;dsimp only [bN];obtain⟨ps,rfl,e2,e4⟩:=Ca k ha;have ea2:=s2 _ _ ea;have lp:ps.length<=12:=by rw [i4] at lk; omega
     refine⟨zQa,a,rfl,DU (fun p:Addr×Str×V=>p.1) (fun p=>.str p.2.1) (fun p=>p.2.2) (fun p=>.str p.2.1) (.inr (.of ea2)) (az (by omega)) (fun p h=>.of (s2 _ _ (e2 p h))) (fun p h Q hQ=>⟨zQa,hQ⟩) fun l2 hl2=>?_⟩
     have s3:=s2.trans (ai hl2 (.lst (ps.map fun p=>V.str p.2.1)));refine⟨l2,l.map iF,rfl,.of (by rw [af,e4,A7]; rfl),by rw [i4]; omega,zQa,a,zQa,.inr (.of (s3 _ _ ea)),rfl,?_⟩
     have e5:decide (V.int (eY (l.map iF):Nat)=V.int ((ps.map fun p=>V.ref p.1).length:Nat))=decide (eY (l.map iF)=l.length):=by
      rw [lk];by_cases c:eY (l.map iF)=(ps.map fun p=>V.ref p.1).length
      ·rw [decide_eq_true c,decide_eq_true (by rw [c])]
      ·rw [decide_eq_false c,decide_eq_false]
       intro z;injection z with z
       exact c (by omega)
     rw [e5];exact q _ s3
   ·refine aM (by rw [lq]; show(!decide ((vs.length:Int)<=((12:Nat):Int)))=true; rw [decide_eq_false (by omega)]; rfl) ?_
    rw [decide_eq_false h12,x8] at q;exact q _ (.refl _)
  ·rw [decide_eq_false h1,x8,x8] at q
   exact aI (decide_eq_false (by omega)) ⟨zQa,ax (q _ (.refl _))⟩
 | str x=>exact ax (ax (q _ (.refl _)))
 | int i=>exact ax (ax (q _ (.refl _)))
 | bl b=>exact ax (ax (q _ (.refl _)))
 | non=>exact ax (ax (q _ (.refl _)))
 | lst l=>exact ax (ax (q _ (.refl _)))
 | dic=>exact ax (ax (q _ (.refl _)))
end
theorem Kt{l:List Tr}(h:l.length≠3):dh (.tup l)=false:=by
 unfold dh;split
 ·rename_i e
  injection e with e
  rw [e] at h;exact absurd rfl h
 ·rfl
section
variable {K:i3} {H:Hp} {y:Str} {cap:List Nat} {σ:L2.St} {Z:List V→Hp→Prop} {a:Addr}
theorem Hv{f:Tr->Bool}{l:List Tr}{vs:List V}(k:cL H l vs)(ea:H a=some (.lst vs))(hz:l.length<=999)(hd:∀ H',aS H H'->Z ((l.map f).map V.bl) H'):oU [y] cap (bC 0) gW (CL (spT f) [] E0 (jP (BQ 0) qQ)) σ Z (Itl K a) H:=by
 have lk:=k.len;refine iN (xs:=vs) (fun i acc H'=>acc=((l.take i).map fun t=>V.bl (f t))/\aS H H') ⟨rfl,.refl _⟩ (fun i acc H' z=>.of (z.2 _ _ ea)) (fun i acc H' z=>?_) (fun i x acc H' N kk hx z=>?_) fun acc H' z=>?_
 ·rw [z.1,i4,A0]; exact az (by omega)
 ·obtain⟨rfl,s1⟩:=z
  dsimp only [gW];rw [if_pos rfl];have hi:i < l.length:=by have:=(r9.mp hx).1; omega
  have et:l[i]? = some l[i]:=i5 hi;refine⟨zQa,x,l[i],rfl,(k.get et hx).same s1,fun H2 s2=>kk _ _ ⟨?_,s1.trans s2⟩⟩;rw [B7,et,j6]; rfl
 ·obtain⟨rfl,s1⟩:=z
  rw [<- lk,B5];have:=hd _ s1;rw [A7] at this;exact this
end
theorem IQ{K:i3}{t c1 c2:g7}{b1 b2:Bool}(h1:P0 K t c1=some b1)(h2:P0 K t c2=some b2):T4 K t [c1,c2]=some (b1 || b2):=by
 have e:T4 K t [c2]=some b2:=by
  unfold T4;rw [h2];cases b2 <;> rfl
 unfold T4;rw [h1];cases b1
 ·exact e
 ·rfl
theorem TrAt.lstE{H:Hp}{v:V}{l:List Tr}(h:TrAt H (.lst l) v):∃ a vs,v = .ref a/\H a=some (.lst vs)/\cL H l vs:=by
 cases h with
 | lst e n k=>exact⟨_,zQa,e,F2.of n.symm fun i t v h1 h2=>k i v t h2 h1⟩
section
variable {P:i8} {w:i7} {K:i3} {mg:Str→Option g7} {base:Heap} {A:Adr}
seal PE PS PSs L2.PA PT PI PG in
theorem BR(T:Txt K mg A):FnOk P w K mg base CX0 3 A.vG A.wB lV (spT iu):=by
 have ni:=(qv (P:=P) (w:=w) (base:=base) T).mono (show 1<=2 by decide)
 have bW:=dU (P:=P) (w:=w) (base:=base) T;have pr:=(tV (P:=P) (w:=w) (base:=base) T).mono (show 1<=2 by decide)
 have iO:=nz (P:=P) (w:=w) (base:=base) T;obtain⟨g1,jo⟩:=T.dI
 exists T.mh.F.ok Bc
 ·obtain⟨v,t,rfl,_⟩:=h; rfl
 obtain⟨v,t,rfl,h,q⟩:=h;refine⟨_,@ah _ _ _ _ _ (bc (ca (bS (b9 ni hr rfl T.dD (aa (pv 0) ae)))) (ak (ar dW)) aE)
  (@ah _ _ _ _ _ (bc (aB cB (aq aG rfl T.bM bT (aa (pv 0) ae)) ag (aJ _)) (ak (ar (br bK (aA aP (pv 0) ag (fun _ _=>rfl)) (bU (aa ap (aa ap ae))) rfl))) aE)
  (@ah _ _ _ _ _ (bc (aB bK (aA aP (pv 0) ag (fun _ _=>rfl)) (bU (aa ap (aa ap ae))) rfl) (ak (ar (b9 pr hr rfl T.ft (aa (aA aP (pv 0) ag (fun _ _=>rfl)) ae)))) aE)
  (@ah _ _ _ _ _ (bc (aB bK (aA aP (pv 0) ag (fun _ _=>rfl)) (bU (aa ap (aa ap (aa ap ae)))) rfl) (ak (ar (b9 iO hr rfl T.cH (aa (aA aP (pv 0) ag (fun _ _=>rfl)) ae)))) aE)
  (ak (ar (cu (br cB (aA aP (pv 0) ag (fun _ _=>rfl)) ap (aJ _)) (cz (b9 bW hr rfl T.aX (aa (aA aP (pv 0) ag (fun _ _=>rfl)) (aa ag (aa (bi rfl jo (v:=.int 12) ⟨zQa⟩) ae))))))))))),?_⟩
 refine⟨zQa,v,t,rfl,h,fun H1 s1=>⟨zQa,?_⟩⟩;cases hh:kJ t with
 | false =>
  have e:iu t=false:=by
   unfold iu;split
   ·cases hh
   ·cases hh
   ·rfl
  rw [e] at q;exact ax (q _ s1)
 | true =>
  refine aV ?_;dsimp only [bN];replace h:=h.same s1;rcases we hh with ⟨x,rfl⟩ | ⟨x,u,rfl⟩
  ·obtain⟨a,rfl,ea⟩:=h.one
   refine⟨zQa,a,zQa,.inr (.of ea),rfl,zQa,ax ?_⟩;refine⟨zQa,a,zQc,.of ea,rfl,aK (by simp),fun p1 hp1=>⟨p1,zQa,.inr (.of af),rfl,bh ["first","last"],?_⟩⟩
   rw [if_neg (by decide),show inV (.str x) [V.str "first",.str "last"]=inS x ["first","last"] from jQ x ["first","last"]]
   exact q _ (s1.trans (ai hp1 _))
  ·obtain⟨a,v1,rfl,ea,h1,_⟩:=h.two
   refine⟨zQa,a,zQa,.inr (.of ea),rfl,zQa,aV ?_⟩;dsimp only [bN];have e:iu (.tup [.str x,u])=if inS x ["kind","in"]=true then mD u else if inS x ["name","tag","under"]=true then cY u else decide (x="nth") && bV u 1 12:=rfl
   rw [e] at q;refine⟨zQa,a,zQc,.of ea,rfl,aK (by simp),fun p1 hp1=>⟨p1,zQa,.inr (.of af),rfl,bh ["kind","in"],zQa,?_⟩⟩
   have s2:=s1.trans (ai hp1 (.tup [V.str "kind",.str "in"]));have ea2:=ai hp1 (.tup [V.str "kind",.str "in"]) _ _ ea;have h2:=h1.same (ai hp1 (.tup [V.str "kind",.str "in"]));rw [if_neg (by decide),show inV (.str x) [V.str "kind",.str "in"]=inS x ["kind","in"] from jQ x ["kind","in"]]
   cases c1:inS x ["kind","in"] with
   | true =>
    rw [if_pos c1] at q;exact ax ⟨zQa,a,zQc,.of ea2,rfl,v1,u,rfl,h2,q _ s2⟩
   | false =>
   rw [if_neg (by rw [c1]; decide)] at q
   refine aV ?_;dsimp only [bN];refine⟨zQa,a,zQc,.of ea2,rfl,aK (by simp),fun p2 hp2=>⟨p2,zQa,.inr (.of af),rfl,bh ["name","tag","under"],zQa,?_⟩⟩
   have s3:=s2.trans (ai hp2 (.tup [V.str "name",.str "tag",.str "under"]));have ea3:=ai hp2 (.tup [V.str "name",.str "tag",.str "under"]) _ _ ea2;have h3:=h2.same (ai hp2 (.tup [V.str "name",.str "tag",.str "under"]));rw [if_neg (by decide),show inV (.str x) [V.str "name",.str "tag",.str "under"]=inS x ["name","tag","under"] from jQ x ["name","tag","under"]]
   cases c2:inS x ["name","tag","under"] with
   | true =>
    rw [if_pos c2] at q;exact ax ⟨zQa,a,zQc,.of ea3,rfl,v1,u,rfl,h3,fun H4 s4=>q _ (s3.trans s4)⟩
   | false =>
   rw [if_neg (by rw [c2]; decide)] at q
   refine aV ?_;dsimp only [bN];refine⟨zQa,a,zQc,.of ea3,rfl,rfl,zQa,?_⟩;rw [fB];by_cases c3:x="nth"
   ·rw [decide_eq_true c3,y4] at q
    refine aM (decide_eq_true c3) ?_;exact⟨zQa,a,zQc,.of ea3,rfl,v1,u,1,12,rfl,h3,q _ s3⟩
   ·rw [decide_eq_false c3,x8] at q
    exact aI (decide_eq_false c3) (q _ s3)
abbrev tQ:j9:=(match aW dH with | _ :: (.Return (some (.Call _ ((.ListComp _ _ sc _) :: _) _ _)) _) :: _=>sc | _=>aj dH)
theorem qO:Blk (aj dH) jZ tQ ["test"] []:=⟨rfl,zQd,zQd,zQd,zQd⟩
theorem su:(cy jZ ["test"] []).Nodup:=by decide +kernel
seal PE PS PSs L2.PA PT PI PG in
theorem xZ(T:Txt K mg A):FnOk P w K mg base CX0 4 A.qG A.qd ie (spT kQ):=by
 have Em:=BR (P:=P) (w:=w) (base:=base) T;obtain⟨g1,va⟩:=T.eE
 exists T.hX.F.ok ye
 ·obtain⟨v,t,rfl,_⟩:=h; rfl
 obtain⟨v,t,rfl,h,q⟩:=h;refine⟨_,@ah _ _ _ _ _ (bc (PW.pt (gp (ca (bS (aq bF rfl T.aF aL (aa (pv 0) (aa (bL rfl T.cw eI (v:=.ty "tuple") rfl) ae))))) (dY (aB oM (aq aG rfl T.bM bT (aa (pv 0) ae)) (bi rfl va (v:=.int 4) ⟨zQa⟩) (aJ _))))) (ak (ar dW)) aE)
  (ak (ar (aq (gR rfl) rfl T.kL tY (aa (bO qO rfl (cZ (pv 0)) (fun _ _ _ _ _=>aN (i:=0) su rfl (.inl rfl)) (fun _ _ _ _ _=>cr) (fun _ _ _ _ _=>b9 Em hr rfl T.mh (aa (pv 0) ae))) ae)))),?_⟩
 have I:=h.is (K:=K);refine⟨zQa,v,"tuple",_,zQa,I.ty,I.kit T.kit "tuple",zQa,?_⟩;cases t with
 | tup l =>
  obtain⟨a,vs,rfl,ea,k⟩:=h.tupE;have lk:=k.len;have e:kQ (.tup l)=(decide (l.length<=4) && l.all iu):=rfl;rw [e] at q;refine aV ⟨zQa,a,vs,rfl,.inr (.of ea),zQb,zQa,?_⟩;by_cases h4:l.length<=4
  ·refine aI (decide_eq_false (by omega)) ?_
   dsimp only [bN];rw [decide_eq_true h4,y4] at q;refine⟨zQa,a,rfl,.inr ⟨⟨_,.of ea⟩,uj k ea (by omega) fun H1 s1 p hp=>?_⟩⟩
   refine⟨p,l.map iu,rfl,.of (by rw [af]),?_⟩
   have e3:(l.map iu).all id=l.all iu:=by rw [N0]; rfl
   rw [e3];exact q _ (s1.trans (ai hp _))
  ·rw [decide_eq_false h4,x8] at q
   exact aM (decide_eq_true (by omega)) (q _ (.refl _))
 | str x=>exact ax (ax (q _ (.refl _)))
 | int i=>exact ax (ax (q _ (.refl _)))
 | bl b=>exact ax (ax (q _ (.refl _)))
 | non=>exact ax (ax (q _ (.refl _)))
 | lst l=>exact ax (ax (q _ (.refl _)))
 | dic=>exact ax (ax (q _ (.refl _)))
seal PE PS PSs L2.PA PT PI PG in
theorem Bs(T:Txt K mg A)(hw:A.wd=w):FnOk P w K mg base CX0 7 A.wk A.vi lK (spT dh):=by
 have bW:=(dU (P:=P) (w:=w) (base:=base) T).mono (show 2<=6 by decide)
 have yr:=(xZ (P:=P) (w:=w) (base:=base) T).mono (show 4<=6 by decide)
 have Ar:=yq (P:=P) (w:=w) (base:=base) T hw;obtain⟨g1,xm⟩:=T.fR
 exists T.lF.F.ok BI
 ·obtain⟨v,t,rfl,_⟩:=h; rfl
 obtain⟨v,t,rfl,h,q⟩:=h;refine⟨_,@ah _ _ _ _ _ (bc (PW.pt (gp (ca (bS (aq bF rfl T.aF aL (aa (pv 0) (aa (bL rfl T.cw eI (v:=.ty "tuple") rfl) ae))))) (dY (aB mF (aq aG rfl T.bM bT (aa (pv 0) ae)) ag (aJ _))))) (ak (ar dW)) aE)
  (ak (ar (cu (b9 bW hr rfl T.aX (aa (aA aP (pv 0) ag (fun _ _=>rfl)) (aa ag (aa (bi rfl xm (v:=.int 99) ⟨zQa⟩) ae)))) (cu (b9 yr hr rfl T.hX (aa (aA aP (pv 0) ag (fun _ _=>rfl)) ae)) (cz (b9 Ar hr rfl T.jE (aa (aA aP (pv 0) ag (fun _ _=>rfl)) ae))))))),?_⟩
 have I:=h.is (K:=K);refine⟨zQa,v,"tuple",_,zQa,I.ty,I.kit T.kit "tuple",zQa,?_⟩;cases t with
 | tup l =>
  obtain⟨a,vs,rfl,ea,k⟩:=h.tupE;have lk:=k.len;refine aV ⟨zQa,a,vs,rfl,.inr (.of ea),rfl,zQa,?_⟩;by_cases h3:l.length=3
  ·refine aI (by simp; omega) ?_
   dsimp only [bN]
   match l,h3 with
   | [t0,t1,t2],_ =>
   cases k with
   | @cons _ v0 _ _ a0 k =>
   cases k with
   | @cons _ v1 _ _ a1 k =>
   cases k with
   | @cons _ v2 _ _ a2 k =>
   cases k;have e:dh (.tup [t0,t1,t2])=(bV t0 0 99 && (kQ t1 && sx t2)):=rfl;rw [e] at q;refine⟨zQa,a,zQc,.of ea,rfl,v0,t0,0,99,rfl,a0,zQa,?_⟩;cases c1:bV t0 0 99 with
   | false =>
    rw [c1,x8] at q;exact aV (q _ (.refl _))
   | true =>
   rw [c1,y4] at q;refine ax ⟨zQa,a,zQc,.of ea,rfl,v1,t1,rfl,a1,fun H1 s1=>⟨zQa,?_⟩⟩;cases c2:kQ t1 with
   | false =>
    rw [c2,x8] at q;exact aV (q _ s1)
   | true =>
   rw [c2,y4] at q;exact ax ⟨zQa,a,zQc,.of (s1 _ _ ea),rfl,v2,t2,rfl,a2.same s1,fun H2 s2=>q _ (s1.trans s2)⟩
  ·rw [Kt h3] at q
   refine aM (by simp; omega) ?_
   exact q _ (.refl _)
 | str x=>exact ax (ax (q _ (.refl _)))
 | int i=>exact ax (ax (q _ (.refl _)))
 | bl b=>exact ax (ax (q _ (.refl _)))
 | non=>exact ax (ax (q _ (.refl _)))
 | lst l=>exact ax (ax (q _ (.refl _)))
 | dic=>exact ax (ax (q _ (.refl _)))
theorem Txt.nr(T:Txt K mg A):ClsAt K A.c_PaneError A.clsL A.c_NoRule:=(AC T.cls).2 _ (by simp)
theorem HR(T:Txt K mg A){N:List Str}{qual:Str}{scope:j9}{f:Addr}{cd:g7}{B:j0}{outer:List Env}{s:g8}{H:Hp}{E:XK}{x:Str}{j np cp pp pos:_}(hg:Gl (fV (CXW P w) P w K mg base N qual scope f cd B outer s H E) "NoRule") :
  PS (fV (CXW P w) P w K mg base N qual scope f cd B outer s H E) (.Raise (some (.Call (.Name "NoRule" np) [.Constant (.str x) j cp] [] pp)) none pos) (wV E A.c_NoRule (jP (tC (.str x)) qQ)) :=
 sw wZ rfl hg T.m_NoRule T.nr.exc V0 V0 (by decide) (by show 1<=1000; omega) (aa ap ae) (fun σ H Q h=>⟨by show 1<=sizeLine; decide,h⟩)
abbrev qJ:j9:=(match aW cW with | _ :: _ :: (.If (.UnaryOp _ (.Call _ ((.ListComp _ _ sc _) :: _) _ _) _) _ _ _) :: _=>sc | _=>aj cW)
theorem pQ:Blk (aj cW) jH qJ ["rule"] []:=⟨rfl,zQd,zQd,zQd,zQd⟩
theorem qK:(cy jH ["rule"] []).Nodup:=by decide +kernel
def Kz (c0:Addr):Sp:=fun vs H Q E => ∃(v:V) (t:Tr),vs=[v]/\TrAt H t v/\(pY t=true->∀ H',aS H H'->Q .non H')/\(pY t=false->∀ H',aS H H'->E (.ref c0) none H')
seal PE PS PSs L2.PA PT PI PG in
theorem uM(T:Txt K mg A)(hw:A.wd=w):FnOk P w K mg base (CXW P w) 8 A.jD A.jz dX (Kz A.c_NoRule):=by
 have Dz:=Bs (P:=P) (w:=w) (base:=base) T hw;obtain⟨g1,uE⟩:=T.eJ
 exists T.gy.F.okW uS
 ·obtain⟨v,t,rfl,_⟩:=h; rfl
 obtain⟨v,t,rfl,h,qg,qb⟩:=h;refine⟨_,@ah _ _ _ _ _ (bc (ca (bS (aq Dp rfl T.aF aL (aa (pv 0) (aa (bU (aa (bL rfl T.km xK (v:=.ty "list") rfl) (aa (bL rfl T.cw eI (v:=.ty "tuple") rfl) ae))) ae))))) (ak (HR T rfl)) aE)
  (@ah _ _ _ _ _ (bc (aB oM (aq aG rfl T.bM bT (aa (pv 0) ae)) (bi rfl uE (v:=.int 40) ⟨zQa⟩) (aJ _)) (ak (HR T rfl)) aE)
  (ak (bc (ca (bS (aq (gR rfl) rfl T.kL tY (aa (bO pQ rfl (cZ (pv 0)) (fun _ _ _ _ _=>aN (i:=0) qK rfl (.inl rfl)) (fun _ _ _ _ _=>cr) (fun _ _ _ _ _=>b9 Dz hr rfl T.lF (aa (pv 0) ae))) ae)))) (ak (HR T rfl)) aE))),?_⟩
 have I:=h.is (K:=K);refine⟨zQa,(by show 2<=sizeLine; decide),fun p hp=>?_⟩
 have s1:=ai hp (.tup [.ty "list",.ty "tuple"]);replace h:=h.same s1;have I1:=h.is (K:=K);refine⟨v,p,"list","tuple",_,zQa,af,I1.ty,IQ (I1.kit T.kit "list") (I1.kit T.kit "tuple"),zQa,?_⟩;cases t with
 | tup l =>
  obtain⟨a,vs,rfl,ea,k⟩:=h.tupE;have lk:=k.len;have e:pY (.tup l)=(decide (l.length<=40) && l.all dh):=rfl;rw [e] at qg qb;refine aV ?_;dsimp only [bN];refine⟨zQa,a,vs,rfl,.inr (.of ea),zQb,zQa,?_⟩;by_cases h40:l.length<=40
  ·refine aI (decide_eq_false (by omega)) ?_
   dsimp only [bN];rw [decide_eq_true h40,y4] at qg qb;refine⟨zQa,a,rfl,.inr ⟨⟨_,.of ea⟩,uj k ea (by omega) fun H1 s2 p2 hp2=>?_⟩⟩
   refine⟨p2,l.map dh,rfl,.of (by rw [af]),zQa,?_⟩
   have s3:=s1.trans (s2.trans (ai hp2 (.lst ((l.map dh).map V.bl))));have e3:(l.map dh).all id=l.all dh:=by rw [N0]; rfl
   rw [e3];cases ha:l.all dh with
   | true=>exact aV (qg ha _ s3)
   | false=>exact ax (qb ha _ s3)
  ·rw [decide_eq_false h40,x8] at qb
   exact aM (decide_eq_true (by omega)) (qb rfl _ s1)
 | lst l =>
  obtain⟨a,vs,rfl,ea,k⟩:=h.lstE;have lk:=k.len;have e:pY (.lst l)=(decide (l.length<=40) && l.all dh):=rfl;rw [e] at qg qb;refine aV ?_;dsimp only [bN];refine⟨zQa,a,vs,rfl,.inl (.of ea),zQb,zQa,?_⟩;by_cases h40:l.length<=40
  ·refine aI (decide_eq_false (by omega)) ?_
   dsimp only [bN];rw [decide_eq_true h40,y4] at qg qb;refine⟨zQa,a,rfl,.inl ⟨⟨_,.of ea⟩,Hv k ea (by omega) fun H1 s2 p2 hp2=>?_⟩⟩
   refine⟨p2,l.map dh,rfl,.of (by rw [af]),zQa,?_⟩
   have s3:=s1.trans (s2.trans (ai hp2 (.lst ((l.map dh).map V.bl))));have e3:(l.map dh).all id=l.all dh:=by rw [N0]; rfl
   rw [e3];cases ha:l.all dh with
   | true=>exact aV (qg ha _ s3)
   | false=>exact ax (qb ha _ s3)
  ·rw [decide_eq_false h40,x8] at qb
   exact aM (decide_eq_true (by omega)) (qb rfl _ s1)
 | str x=>exact ax (qb rfl _ s1)
 | int i=>exact ax (qb rfl _ s1)
 | bl b=>exact ax (qb rfl _ s1)
 | non=>exact ax (qb rfl _ s1)
 | dic=>exact ax (qb rfl _ s1)
inductive Ts where
 | kind (w:Str) | name (w:Str) | tag (w:Str) | first | last | nth (n:Int) | inn (w:Str) | under (w:Str)
def Ts.vs:Ts->List V
 | .kind w=>[.str "kind",.str w]
 | .name w=>[.str "name",.str w]
 | .tag w=>[.str "tag",.str w]
 | .first=>[.str "first"]
 | .last=>[.str "last"]
 | .nth n=>[.str "nth",.int n]
 | .inn w=>[.str "in",.str w]
 | .under w=>[.str "under",.str w]
def Ts.w0:Ts->Str
 | .kind _=>"kind"
 | .name _=>"name"
 | .tag _=>"tag"
 | .first=>"first"
 | .last=>"last"
 | .nth _=>"nth"
 | .inn _=>"in"
 | .under _=>"under"
theorem Ts.at0(t:Ts):atI t.vs 0=some (.str t.w0):=by cases t <;> rfl
theorem Ts.is_kind{t:Ts}(h:V.str t.w0=V.str (u5 "kind")):∃ w,t = .kind w:=by cases t <;> first | exact⟨zQa⟩ | (dsimp only [Ts.w0] at h; exact absurd h (by decide +kernel))
theorem Ts.is_name{t:Ts}(h:V.str t.w0=V.str (u5 "name")):∃ w,t = .name w:=by cases t <;> first | exact⟨zQa⟩ | (dsimp only [Ts.w0] at h; exact absurd h (by decide +kernel))
theorem Ts.is_tag{t:Ts}(h:V.str t.w0=V.str (u5 "tag")):∃ w,t = .tag w:=by cases t <;> first | exact⟨zQa⟩ | (dsimp only [Ts.w0] at h; exact absurd h (by decide +kernel))
def Ts.Ok:Ts->Prop
 | .kind _=>True
 | .name _=>True
 | .tag _=>True
 | _=>False
def l0:Lr:=⟨0,0,⟨u7,u7,[],.no,0,0⟩⟩
def cn (xs:List Lr)(k:Nat):Rw:=(xs.getD k l0).r
theorem gs{xs:List Lr}{k:Nat}{x:Lr}(h:xs[k]? = some x):cn xs k=x.r:=by unfold cn; rw [A4,h]; rfl
def Kw (r:Rw)(w:Str):Bool:=decide (r.name=w) || inV (.str w) (r.tags.map V.str)
def AN (xs:List Lr)(k:Nat):List Nat:=if (cn xs k).about < 0 then [] else ay xs (cn xs k).about.toNat
def jX (xs:List Lr)(k:Nat):Ts->Bool
 | .kind w=>decide ((cn xs k).kind=w)
 | .name w=>decide ((cn xs k).name=w)
 | .tag w=>inV (.str w) ((cn xs k).tags.map V.str)
 | .first=>decide ((AN xs k).head? = some k)
 | .last=>decide ((AN xs k).getLast? = some k)
 | .nth n=>decide ((AN xs k)[(n - 1).toNat]? = some k)
 | .inn w => !decide ((cn xs k).about < 0) && decide ((cn xs (cn xs k).about.toNat).kind=w)
 | .under w=>(dG xs k).dropLast.any fun i=>Kw (cn xs i) w
theorem CT{c:Cn}{xs:List Lr}(ok:RwsOk c xs){k:Nat}(hk:k < xs.length):((cn xs k).about = -1/\dG xs k=[k]/\AN xs k=[])\/∃ j,j < k/\(cn xs k).about=(j:Int)/\k∈ay xs j/\dG xs k=dG xs j ++ [k]/\AN xs k=ay xs j:=by
 have ex:xs[k]? = some xs[k]:=i5 hk;have er:=gs ex;rcases(ok.row k _ ex).about with ⟨_,e,_⟩ | ⟨j,y,hj,hy,e,_⟩
 ·refine .inl ⟨by rw [er]; exact e,jr ok ex e,?_⟩
  unfold AN; rw [er,e,if_pos (by decide)]
 ·have hm:k∈ay xs j:=cA.mpr ⟨_,ex,e⟩
  refine .inr ⟨j,hj,by rw [er]; exact e,hm,cF ok hm,?_⟩
  unfold AN; rw [er,e,if_neg (by omega),J9]
theorem Hr{xs:List V}{v:V}:atI (xs ++ [v]) (-1)=some v:=by
 unfold atI ixN;rw [if_neg (by decide),if_pos (by rw [A2,N7]; omega)]
 have:(-1 + (((xs ++ [v]).length:Nat):Int)).toNat=xs.length:=by rw [A2,N7]; omega
 show(xs ++ [v])[(-1 + (((xs ++ [v]).length:Nat):Int)).toNat]? = some v;rw [this,Q3 (i6 _),U4]; rfl
theorem FX{xs:List V}{u v:V}:atI (xs ++ [u] ++ [v]) (-2)=some u:=by
 have hl:(xs ++ [u] ++ [v]).length=xs.length + 2:=by rw [A2,A2]; rfl
 unfold atI ixN;rw [if_neg (by decide),if_pos (by rw [hl]; omega)]
 have:(-2 + (((xs ++ [u] ++ [v]).length:Nat):Int)).toNat=xs.length:=by rw [hl]; omega
 show(xs ++ [u] ++ [v])[(-2 + (((xs ++ [u] ++ [v]).length:Nat):Int)).toNat]? = some u;rw [this,K0,Q3 (i6 _),U4]; rfl
theorem zi{c:Cn}{xs:List Lr}(ok:RwsOk c xs){k:Nat}(hk:k < xs.length):∃ p,dG xs k=p ++ [k]:=by
 rcases CT ok hk with ⟨_,e,_⟩ | ⟨j,_,_,_,e,_⟩
 ·exact⟨[],e⟩
 ·exact⟨_,e⟩
structure WayAt(H:Hp)(xs:List Lr)(wl:Addr)(k:Nat)(as:List Addr):Prop where
 lst:H wl=some (.lst (as.map V.ref))
 bxs:fU xs H as (dG xs k)
theorem WayAt.same{H H':Hp}{xs:List Lr}{wl:Addr}{k:Nat}{as:List Addr}(h:WayAt H xs wl k as)(s:aS H H'):WayAt H' xs wl k as:=⟨s _ _ h.lst,h.bxs.same s⟩
def CQ:Sp:=fun vs H Q _ => ∃(ta wl:Addr) (xs:List Lr) (c:Cn) (k:Nat) (as:List Addr) (t:Ts),vs=[.ref ta,.ref wl]/\RwsOk c xs/\k < xs.length/\WayAt H xs wl k as/\H ta=some (.tup t.vs)/\t.Ok /\
 ∀ H',aS H H'->Q (.bl (jX xs k t)) H'
seal PE PS PSs L2.PA PT PI PG in
theorem EW(T:Txt K mg A):FnOk P w K mg base CX0 3 A.xB A.xT nY CQ:=by
 exists T.rb.F.ok zV
 ·obtain⟨ta,wl,xs,c,k,as,t,rfl,_⟩:=h; rfl
 obtain⟨ta,wl,xs,c,k,as,t,rfl,ok,hk,W,et,tok,q⟩:=h;refine⟨_,@ah _ _ _ _ _ (aR (i:=2) zV.nd rfl (m9 rfl) (aA aY (pv 1) (vb pW ag) (fun _ _=>rfl)))
  (@ah _ _ _ _ _ (bc (aB cB (aA aP (pv 0) ag (fun _ _=>rfl)) ap (aJ _)) (ak (ar (br cB (aA aP (pv 2) ag (fun _ _=>rfl)) (aA aP (pv 0) ag (fun _ _=>rfl)) (aJ _)))) aE)
  (@ah _ _ _ _ _ (bc (aB cB (aA aP (pv 0) ag (fun _ _=>rfl)) ap (aJ _)) (ak (ar (br cB (aA aP (pv 2) ag (fun _ _=>rfl)) (aA aP (pv 0) ag (fun _ _=>rfl)) (aJ _)))) aE)
  (@ah _ _ _ _ _ (bc (aB cB (aA aP (pv 0) ag (fun _ _=>rfl)) ap (aJ _)) (ak (ar (br bK (aA aP (pv 0) ag (fun _ _=>rfl)) (aA aP (pv 2) ag (fun _ _=>rfl)) rfl))) aE)
  (vv)))),?_⟩
 have exk:xs[k]? = some xs[k]:=i5 hk;obtain⟨pk,ek⟩:=zi ok hk;have hb:=W.bxs;rw [ek] at hb;obtain⟨as1,a,rfl,hb1,ha⟩:=hb.last;obtain⟨tga,ksa,asa,a1,a2,a3,a4⟩:=ha.row ok exk;have ew:=W.lst;rw [j6] at ew;refine⟨zQa,zQa,wl,zQc,.of ew,Hr,?_⟩;refine⟨zQa,ta,zQc,.of et,t.at0,rfl,zQa,xC (fun c1=>?_) (fun c1=>?_)⟩
 ·obtain⟨w,rfl⟩:=Ts.is_kind (of_decide_eq_true c1)
  refine⟨zQa,a,zQc,.of a1,rfl,zQa,ta,zQc,.of et,rfl,rfl,?_⟩;have e:jX xs k (.kind w)=decide (V.str xs[k].r.kind=V.str w):=by
   show decide ((cn xs k).kind=w)=_;rw [gs exk,fB]
  rw [<- e];exact q H (.refl _)
 dsimp only [bN];refine⟨zQa,ta,zQc,.of et,t.at0,rfl,zQa,xC (fun c2=>?_) (fun c2=>?_)⟩
 ·obtain⟨w,rfl⟩:=Ts.is_name (of_decide_eq_true c2)
  refine⟨zQa,a,zQc,.of a1,rfl,zQa,ta,zQc,.of et,rfl,rfl,?_⟩;have e:jX xs k (.name w)=decide (V.str xs[k].r.name=V.str w):=by
   show decide ((cn xs k).name=w)=_;rw [gs exk,fB]
  rw [<- e];exact q H (.refl _)
 dsimp only [bN];refine⟨zQa,ta,zQc,.of et,t.at0,rfl,zQa,xC (fun c3=>?_) (fun c3=>?_)⟩
 ·obtain⟨w,rfl⟩:=Ts.is_tag (of_decide_eq_true c3)
  refine⟨zQa,ta,zQc,.of et,rfl,zQa,a,zQc,.of a1,rfl,tga,zQa,.inr (.of a2),rfl,bh _,?_⟩;have e:jX xs k (.tag w)=inV (.str w) (xs[k].r.tags.map V.str):=by
   show inV (.str w) ((cn xs k).tags.map V.str)=_;rw [gs exk]
  rw [if_neg (by decide),<- e]
  exact q H (.refl _)
 dsimp only [bN];cases t with
 | kind w=>exact c1 (decide_eq_true rfl)
 | name w=>exact c2 (decide_eq_true rfl)
 | tag w=>exact c3 (decide_eq_true rfl)
 | _=>exact tok
abbrev lmE:Expr:=match aW cR with | (.Return (some e) _) :: _=>e | _=>.Name "" ⟨0,0,0,0⟩
abbrev lmA:M7:=match lmE with | .Lambda a _ _ _=>a | _=>jx cR
abbrev lmB:Expr:=match lmE with | .Lambda _ b _ _=>b | _=>lmE
abbrev lmS:j9:=match lmE with | .Lambda _ _ s _=>s | _=>aj cR
abbrev lmP:Pos:=match lmE with | .Lambda _ _ _ p=>p | _=>⟨0,0,0,0⟩
abbrev lmR:Pos:=match aW cR with | (.Return _ p) :: _=>p | _=>⟨0,0,0,0⟩
abbrev lmC:j9:=match lmB with | .Call _ ((.ListComp _ _ sc _) :: _) _ _=>sc | _=>aj cR
abbrev lmQ:Str:=(u5 "test_of" ++ ".<locals>." ++ "<lambda>")
theorem JL:aW cR=[.Return (some (.Lambda lmA lmB lmS lmP)) lmR]:=rfl
theorem Pi:LamSc lmS "way" "tests" := by
 refine⟨rfl,rfl,rfl,rfl,rfl,fun n acc=>rfl,fun x hx=>?_,zQd⟩;have e:lmS.names=[(u5 "way",T2),(u5 "tests",B2),(u5 "all",N4.globalImplicit)]:=rfl;rw [e] at hx;rw [F5,F5,F5,List.lookup_nil] at hx;cases h1:x == u5 "way" with
 | true=>exact .inl (J5 h1)
 | false =>
  cases h2:x == u5 "tests" with
  | true=>exact .inr (J5 h2)
  | false =>
   rw [h1,h2] at hx;dsimp only at hx;cases h3:x == u5 "all" with
   | true=>rw [h3] at hx; rcases hx with hx | hx <;> cases hx
   | false=>rw [h3] at hx; rcases hx with hx | hx <;> cases hx
theorem Nj:Blk lmS ["way","tests"] lmC ["test"] [0]:=⟨rfl,zQd,zQd,zQd,zQd⟩
theorem Pf:(cy ["way","tests"] ["test"] [0]).Nodup:=by decide +kernel
abbrev QK (mg:Str->Option g7)(H:Hp)(f c0 tl:Addr):Prop:=Clo H lmA lmB lmS lmQ "tests" ((mg "__name__").getD .none) f c0 (.ref tl)
theorem Bv(T:Txt K mg A)(hC:E3 base A.cC A.cT)(hbm:base.BuiltinsAt mg A.cT):FnOk P w K mg base CX0 1 A.wy A.pS lN (Po A.cT lmP lmQ "tests" lmA lmB lmS ((mg "__name__").getD .none)):=by
 have hc:=T.code;obtain⟨oc,od,kV,doc,pm,an,cdv,ct,osl,e,lk,hcd⟩:=T.lQ.F.ex;rw [e] at hc lk ⊢;rw [JL] at lk ⊢;exact NI (k:=0) lk hcd AZ rfl hc hC hbm (by decide +kernel) (by decide +kernel) (fun n x c h=>by
  have h':O9 x [(u5 "tests",n)]=some c:=h;rw [F5] at h';cases z:x == u5 "tests" with
  | true=>exact J5 z
  | false=>rw [z] at h'; cases h') (fun env=>rfl)
theorem IsBx.tups{H H':Hp}(s:∀ b vs,H b=some (.tup vs)->H' b=some (.tup vs)){a:Addr}{b:Bx}(h:IsBx H a b):IsBx H' a b:=by
 induction h with
 | mk h1 h2 h3 h4 h5 ih=>exact .mk (s _ _ h1) (s _ _ h2) (s _ _ h3) h4 ih
structure TsAt(H:Hp)(tl:Addr)(ts:List (Addr×Ts)):Prop where
 tup:H tl=some (.tup (ts.map fun p=>V.ref p.1))
 it:∀ p∈ts,H p.1=some (.tup p.2.vs)/\p.2.Ok
 n:ts.length<=100
theorem TsAt.tups{H H':Hp}(s:∀ b vs,H b=some (.tup vs)->H' b=some (.tup vs)){tl:Addr}{ts:List (Addr×Ts)}(h:TsAt H tl ts):TsAt H' tl ts:=⟨s _ _ h.tup,fun p hp=>⟨s _ _ (h.it p hp).1,(h.it p hp).2⟩,h.n⟩
def qS (xs:List Lr)(k:Nat)(ts:List (Addr×Ts)):Bool:=ts.all fun p=>jX xs k p.2
def ER (mg:Str->Option g7):Addr->V->Hp->VK->Prop:=fun f v H Q => ∃(c0 tl wl:Addr) (xs:List Lr) (c:Cn) (k:Nat) (as:List Addr) (ts:List (Addr×Ts)),v = .ref wl/\QK mg H f c0 tl/\RwsOk c xs/\k < xs.length/\WayAt H xs wl k as/\TsAt H tl ts/\∀ H',aS H H'->Q (.bl (qS xs k ts)) H'
theorem MR(T:Txt K mg A):CFn P w K mg base 5 (ER mg):=by
 intro B outer s H f u v Q hr e0 rv h;obtain⟨c0,tl,wl,xs,c,k,as,ts,rfl,C,ok,hk,W,TS,q⟩:=h;refine⟨let ⟨_,_,_,a,_⟩:=C.ex; ⟨_,a⟩,Jc (k:=4) (a:=.ref tl) Pi (fun _ _ _ _=>rfl) hr e0 C rfl rv fun cd cl hr=>?_⟩
 have JW:FnOk P w K mg base CX0 4 A.xB A.xT nY CQ:=(EW T).mono (by omega)
 refine⟨_,aq (gR rfl) rfl T.kL tY (aa (bO Nj rfl (cZ (pv 1)) (fun _ _ _ _ _=>aN (i:=0) Pf rfl (.inl rfl)) (fun _ _ _ _ _=>cr) (fun _ _ _ _ _=>b9 JW hr rfl T.rb (aa (pv 0) (aa (pv 1) ae)))) ae),?_⟩;have nt:∀ b vs,H b=some (.tup vs)->jU H c0 b=some (.tup vs):=fun b vs e=>by rw [hW (fun z=>by rw [z,C.cel] at e; cases e)]; exact e
 have nl:∀ b vs,H b=some (.lst vs)->jU H c0 b=some (.lst vs):=fun b vs e=>by rw [hW (fun z=>by rw [z,C.cel] at e; cases e)]; exact e
 have T0:=TS.tups nt;have W0:WayAt (jU H c0) xs wl k as:=⟨nl _ _ W.lst,W.bxs.mono fun _ _ x=>x.tups nt⟩;have cel:=C.cel;generalize hH0:jU H c0=H0 at T0 W0 ⊢;refine⟨zQa,tl,rfl,.inr ⟨⟨_,.of T0.tup⟩,oB (xs:=ts.map fun p=>V.ref p.1) (fun i acc H'=>aS H0 H'/\acc=((ts.take i).map fun p=>jX xs k p.2).map V.bl/\i<=100) ⟨.refl _,rfl,x5 _⟩ (fun i acc H' z=>.of (z.1 _ _ T0.tup)) (fun i acc H' z=>?_) (fun i x acc H' R kk hx z=>?_) fun acc H' z=>?_⟩⟩
 ·rw [z.2.1,i4,i4,A0]; exact az (by have:=z.2.2; omega)
 ·obtain⟨s1,rfl,hi⟩:=z
  rw [o0] at hx;cases ei:ts[i]? with
  | none=>rw [ei] at hx; cases hx
  | some p =>
   rw [ei] at hx;cases hx;have hpm:=C5 ei;have n:=T0.n;dsimp only [gW]; rw [if_pos rfl];refine⟨zQa,zQa,p.1,wl,xs,c,k,as,p.2,rfl,ok,hk,W0.same s1,s1 _ _ (T0.it p hpm).1,(T0.it p hpm).2,fun H2 s2=>kk _ _ ⟨s1.trans s2,?_,?_⟩⟩
   ·rw [show ts.take (i + 1)=ts.take i ++ [p] by rw [B7,ei]; rfl,j6,j6]; rfl
   ·have:=(r9.mp ei).1; omega
 ·obtain⟨s1,rfl,hi⟩:=z
  rw [i4,B5];intro l hl;refine⟨l,ts.map fun p=>jX xs k p.2,rfl,.of af,?_⟩;have e:(ts.map fun p=>jX xs k p.2).all id=qS xs k ts:=by unfold qS; rw [N0]; rfl
  rw [e];refine q _ fun b o eb=>?_;by_cases z:b=c0
  ·rw [z] at eb ⊢; rw [cel] at eb; cases eb; exact af
  ·rw [am z]
   exact ai hl _ _ _ (s1 _ _ (by rw [<- hH0,hW z]; exact eb))
inductive NoL:Tr->Prop where
 | non:NoL .non
 | bl (b:Bool):NoL (.bl b)
 | int (i:Int):NoL (.int i)
 | str (x:Str):NoL (.str x)
 | tup {l:List Tr} (h:∀ t∈l,NoL t):NoL (.tup l)
theorem TrAt.kp{H H':Hp}(m:∀ a xs,H a=some (.tup xs)->H' a=some (.tup xs)){t:Tr}{v:V}(h:TrAt H t v):NoL t->TrAt H' t v:=by
 induction h with
 | non=>exact fun _=>.non
 | bl b=>exact fun _=>.bl b
 | int i=>exact fun _=>.int i
 | str x h=>exact fun _=>.str x h
 | @tup a vs l e n k ih =>
  intro nl;cases nl with
  | tup hl=>exact .tup (m _ _ e) n fun i v t h1 h2=>ih i v t h1 h2 (hl t (C5 h2))
 | lst e n k _=>exact fun z=>by cases z
 | dic e=>exact fun z=>by cases z
theorem gm{st:Addr}{H H':Hp}(m:Ms st H H')(hs:St st H)(a:Addr)(xs:List V)(e:H a=some (.tup xs)):H' a=some (.tup xs):=m.keep _ _ (fun z=>by
 obtain⟨s,es,_⟩:=hs;rw [z,es] at e;cases e) e
theorem Mx{H:Hp}{l:Addr}{ys:List V}{o:HO}(hl:H l=some (.lst ys))(a:Addr)(xs:List V)(e:H a=some (.tup xs)):upd H l o a=some (.tup xs):=by
 rw [am (fun z=>by rw [z,hl] at e; cases e)]; exact e
theorem TrAt.ms{st:Addr}{H H':Hp}(m:Ms st H H')(hs:St st H){t:Tr}{v:V}(h:TrAt H t v)(n:NoL t):TrAt H' t v:=h.kp (gm m hs) n
theorem Bu{H H':Hp}(m:∀ a xs,H a=some (.tup xs)->H' a=some (.tup xs)){l:List Tr}{vs:List V}(h:cL H l vs)(n:∀ t∈l,NoL t):cL H' l vs :=
 F2.of h.len fun i t v h1 h2=>(h.get h1 h2).kp m (n t (C5 h1))
theorem Jb{a:Tr}(h:NoL a):NoL (.tup [a]):=.tup fun t ht=>by rw [A5.mp ht]; exact h
theorem Jj{a b:Tr}(h:NoL a)(k:NoL b):NoL (.tup [a,b]):=.tup fun t ht=>by
 rcases l6.mp ht with rfl | ht
 ·exact h
 ·rw [A5.mp ht]; exact k
theorem gM{t:Tr}{a b:Int}(h:bV t a b=true):NoL t:=by cases t <;> first | exact .int _ | cases h
theorem Fl{t:Tr}(h:mD t=true):NoL t:=by cases t <;> first | exact .str _ | cases h
theorem HH{t:Tr}(h:cY t=true):NoL t:=by cases t <;> first | exact .str _ | cases h
theorem FE{t:Tr}(h:gL t=true):NoL t:=by
 unfold gL at h;split at h
 ·exact Jb (.str _)
 ·refine Jj (.str _) ?_
  split at h
  ·exact gM h
  ·rw [y9] at h
   exact gM h.2
 ·cases h
theorem mj{w:Str}{t:Tr}(h:dg w t=true):NoL t:=by
 unfold dg at h;split at h
 ·exact gM h
 ·split at h
  ·exact FE h
  ·split at h
   ·cases t <;> first | exact .bl _ | cases h
   ·split at h
    ·cases t <;> first | exact .str _ | cases h
    ·cases t <;> first | exact .str _ | cases h
theorem Kk{t:Tr}(h:jV t=true):NoL t:=by
 obtain⟨x,u,rfl,_,h⟩:=zP h;exact Jj (.str _) (mj h)
theorem yH{t:Tr}(h:iu t=true):NoL t:=by
 unfold iu at h;split at h
 ·exact Jb (.str _)
 ·refine Jj (.str _) ?_
  split at h
  ·exact Fl h
  ·split at h
   ·exact HH h
   ·rw [y9] at h
    exact gM h.2
 ·cases h
theorem DI{t:Tr}(h:kQ t=true):NoL t:=by
 cases t with
 | tup l =>
  have h':(decide (l.length<=4) && l.all iu)=true:=h;rw [y9] at h';exact .tup fun t ht=>yH (E8.mp h'.2 t ht)
 | _=>cases h
theorem Ih{t:Tr}(h:sx t=true):NoL t:=by
 cases t with
 | tup l =>
  have h':((decide (1<=l.length) && decide (l.length<=12)) && (l.all jV && decide (eY (l.map iF)=l.length)))=true:=h;rw [y9,y9,y9] at h';exact .tup fun t ht=>Kk (E8.mp h'.2.1 t ht)
 | _=>cases h
theorem FF{t:Tr}(h:dh t=true):NoL t:=by
 unfold dh at h;split at h
 ·rw [y9,y9] at h
  refine .tup fun t ht=>?_;simp only [l6,C1,or_false] at ht
  rcases ht with rfl | rfl | rfl
  ·exact gM h.1
  ·exact DI h.2.1
  ·exact Ih h.2.2
 ·cases h
theorem MO{x a b:Str}(h:inS x [a,b]=true):x=a\/x=b:=by
 obtain⟨y,hy,e⟩:=G4.mp h;have:y=x:=by simpa using e
 subst this
 simpa using hy
theorem oN{x:Str}(h:inS x ["wide","high"]=true)(t:Tr):dg x t=gL t:=by
 have hm:fj x=none:=by rcases MO h with rfl | rfl <;> decide +kernel
 unfold dg;rw [hm];exact if_pos h
theorem HC{x:Str}(h:inS x ["over","able"]=true)(b:Bool):dg x (.bl b)=true:=by
 have hm:fj x=none:=by rcases MO h with rfl | rfl <;> decide +kernel
 have hn:¬ inS x ["wide","high"]=true:=by rcases MO h with rfl | rfl <;> decide +kernel
 unfold dg;rw [hm];show(if inS x ["wide","high"]=true then gL (.bl b) else if inS x ["over","able"]=true then zE (.bl b) else _)=true
 rw [if_neg hn,if_pos h]; rfl
theorem FU(t:Tr):dg "fill" t=rY t:=by
 unfold dg;rw [show fj "fill"=none by decide +kernel]
 show(if inS "fill" ["wide","high"]=true then gL t else if inS "fill" ["over","able"]=true then zE t else if (u5 "fill")="fill" then rY t else Eb t)=_
 rw [if_neg (by decide +kernel),if_neg (by decide +kernel),if_pos rfl]
theorem JU(t:Tr):dg "ink" t=Eb t:=by
 unfold dg;rw [show fj "ink"=none by decide +kernel]
 show(if inS "ink" ["wide","high"]=true then gL t else if inS "ink" ["over","able"]=true then zE t else if (u5 "ink")="fill" then rY t else Eb t)=_
 rw [if_neg (by decide +kernel),if_neg (by decide +kernel),if_neg (by decide +kernel)]
theorem vE(x:Str)(t:Tr):gL (.tup [.str x,t])=if x="fixed" then bV t 0 400 else decide (x="share") && bV t 1 99:=rfl
theorem oZ{i a b:Int}(h:0<=i)(ha:a<=i)(hb:i<=b):bV (.int i) a b=true:=by
 show(decide (0<=i) && (decide (a<=i) && decide (i<=b)))=true;rw [decide_eq_true h,decide_eq_true ha,decide_eq_true hb]; rfl
theorem tJ{i:Int}(h0:0<=i)(h:i<=400):gL (.tup [.str "fixed",.int i])=true:=by
 rw [vE,if_pos rfl];exact oZ h0 h0 h
theorem Bl{i:Int}(h0:1<=i)(h:i<=99):gL (.tup [.str "share",.int i])=true:=by
 rw [vE,if_neg (by decide +kernel),decide_eq_true rfl,y4]
 exact oZ (by omega) h0 h
def Ts.tr:Ts->Tr
 | .kind w=>.tup [.str "kind",.str w]
 | .name w=>.tup [.str "name",.str w]
 | .tag w=>.tup [.str "tag",.str w]
 | .first=>.tup [.str "first"]
 | .last=>.tup [.str "last"]
 | .nth n=>.tup [.str "nth",.int n]
 | .inn w=>.tup [.str "in",.str w]
 | .under w=>.tup [.str "under",.str w]
def Mc (x:Str):Bool:=AQ.any fun y=>y == x
def Ts.Good:Ts->Prop
 | .kind w=>Mc w=true/\w.length<=400
 | .name w=>mL w=true
 | .tag w=>mL w=true
 | _=>False
theorem wC{w:Str}(h:mL w=true):w.length<=400:=by
 unfold mL at h;rw [y9,y9] at h;have:=of_decide_eq_true h.1.2;omega
theorem Ts.good_test{t:Ts}(h:t.Good):iu t.tr=true:=by
 cases t with
 | kind w=>exact h.1
 | name w=>exact h
 | tag w=>exact h
 | _=>exact h.elim
theorem Ts.good_ok{t:Ts}(h:t.Good):t.Ok:=by cases t <;> first | trivial | exact h
theorem tr1{H:Hp}{a:Addr}{x:Str}(e:H a=some (.tup [.str x]))(h:x.length<=400):TrAt H (.tup [.str x]) (.ref a):=.tup' e (.cons (.str _ h) .nil)
theorem tr2{H:Hp}{a:Addr}{x:Str}{v:V}{t:Tr}(e:H a=some (.tup [.str x,v]))(h:x.length<=400)(k:TrAt H t v):TrAt H (.tup [.str x,t]) (.ref a):=.tup' e (.cons (.str _ h) (.cons k .nil))
theorem Ts.at{t:Ts}(g:t.Good){H:Hp}{a:Addr}(e:H a=some (.tup t.vs)):TrAt H t.tr (.ref a):=by
 cases t with
 | kind w=>exact tr2 e (by decide) (.str _ g.2)
 | name w=>exact tr2 e (by decide) (.str _ (wC g))
 | tag w=>exact tr2 e (by decide) (.str _ (wC g))
 | _=>exact g.elim
def gJ (p:Str×Tr):Tr:=.tup [.str p.1,p.2]
structure Ru where
 rank:Int
 tests:List Ts
 sets:List (Str×Tr)
def Ru.tr (r:Ru):Tr:=.tup [.int r.rank,.tup (r.tests.map Ts.tr),.tup (r.sets.map gJ)]
structure Ru.Good(r:Ru):Prop where
 lo:0<=r.rank
 hi:r.rank<=99
 tn:r.tests.length<=4
 ts:∀ t∈r.tests,t.Good
 s1:1<=r.sets.length
 s12:r.sets.length<=12
 ss:∀ p∈r.sets,db p.1=true/\dg p.1 p.2=true
 nd:(r.sets.map (·.1)).Nodup
theorem sets_ok{l:List (Str×Tr)}(h1:1<=l.length)(h12:l.length<=12)(hs:∀ p∈l,db p.1=true/\dg p.1 p.2=true)(nd:(l.map (·.1)).Nodup):sx (.tup (l.map gJ))=true:=by
 show((decide (1<=(l.map gJ).length) && decide ((l.map gJ).length<=12)) && ((l.map gJ).all jV && decide (eY ((l.map gJ).map iF)=(l.map gJ).length)))=true;have e:(l.map gJ).map iF=l.map (·.1):=by rw [A7]; rfl
 rw [e,zS nd,i4,i4,decide_eq_true h1,decide_eq_true h12,decide_eq_true rfl,y4,y4,Bool.and_true];refine E8.mpr fun t ht=>?_;obtain⟨p,hp,rfl⟩:=w8.mp ht;obtain⟨h1,h2⟩:=hs p hp;show(db p.1 && dg p.1 p.2)=true;rw [h1,h2]; rfl
theorem HE{l:List Ts}(h4:l.length<=4)(h:∀ t∈l,t.Good):kQ (.tup (l.map Ts.tr))=true:=by
 show(decide ((l.map Ts.tr).length<=4) && (l.map Ts.tr).all iu)=true;rw [i4,decide_eq_true h4,y4];refine E8.mpr fun t ht=>?_;obtain⟨p,hp,rfl⟩:=w8.mp ht;exact Ts.good_test (h p hp)
theorem Ru.Good.rule{r:Ru}(h:r.Good):dh r.tr=true:=by
 show((decide (0<=r.rank) && (decide (0<=r.rank) && decide (r.rank<=99))) && (kQ (.tup (r.tests.map Ts.tr)) && sx (.tup (r.sets.map gJ))))=true;rw [decide_eq_true h.lo,decide_eq_true h.hi,HE h.tn h.ts,sets_ok h.s1 h.s12 h.ss h.nd]; rfl
theorem DE:∀ y∈bf,y.length<=400:=by decide +kernel
theorem Aa{x:Str}(h:db x=true):x.length<=400:=by
 obtain⟨y,hy,e⟩:=G4.mp h;have:y=x:=by simpa using e
 exact this ▸ DE y hy
abbrev plE:Expr:=match aW cV with | _ :: _ :: (.Return (some (.Call _ _ [⟨_,e,_⟩] _)) _) :: _=>e | _=>.Name "" ⟨0,0,0,0⟩
abbrev plS:j9:=match plE with | .Lambda _ _ s _=>s | _=>aj cV
abbrev plP:Pos:=match plE with | .Lambda _ _ _ p=>p | _=>⟨0,0,0,0⟩
abbrev plQ:Str:=((u5 "places_for") ++ ".<locals>.") ++ "<lambda>"
theorem Mw:Blk (aj cV) nZ plS ["place"] [0]:=⟨rfl,zQd,zQd,zQd,zQd⟩
theorem Cp{cT:Addr}{lp:Pos}{lq:Str}{H:Hp}(t:Tb cT lp lq H){b:Addr}{o:HO}(e:H b=some o)(n:∀ ps,o≠HO.tbl ps):b≠cT:=fun z=>by
 obtain⟨ps,h,_⟩:=t;rw [z,h] at e;exact n ps (B1 e).symm
theorem HL{cT:Addr}{lp:Pos}{lq:Str}{H:Hp}(t:Tb cT lp lq H){d:Addr}{o o':HO}(e:H d=some o)(n:∀ ps,o≠HO.tbl ps)(m:∀ φ,o≠HO.ext φ):Tb cT lp lq (upd H d o'):=by
 obtain⟨ps,h,alt⟩:=t;refine⟨ps,by rw [am (fun z=>by rw [z,e] at h; exact n _ (B1 h))]; exact h,?_⟩
 rcases alt with alt | ⟨c',a1,a2⟩
 ·exact .inl alt
 ·exact .inr ⟨c',a1,by rw [am (fun z=>by rw [z,e] at a2; exact m _ (B1 a2))]; exact a2⟩
theorem FK{cT cU:Addr}{lp:Pos}{lq:Str}{H H':Hp}(t:Tb cT lp lq H)(ne:cT≠cU)(u:∃ ps,H cU=some (.tbl ps))(k:∀ b o,b≠cU->H b=some o->H' b=some o):Tb cT lp lq H':=by
 obtain⟨ps,h,alt⟩:=t;refine⟨ps,k _ _ ne h,?_⟩;rcases alt with alt | ⟨c',a1,a2⟩
 ·exact .inl alt
 ·refine .inr ⟨c',a1,k _ _ (fun z=>?_) a2⟩
  obtain⟨qs,hu⟩:=u;rw [z,hu] at a2; cases a2
structure Kn(H H':Hp):Prop where
 keep:∀ b o,(∀ ps,o≠HO.tbl ps)->H b=some o->H' b=some o
 there:∀ b,H' b=none->H b=none
theorem Kn.of{H H':Hp}(s:aS H H'):Kn H H':=⟨fun b o _ e=>s b o e,fun b e=>by
 cases z:H b with
 | none=>rfl
 | some o=>rw [s _ _ z] at e; cases e⟩
theorem Kn.trans{H H1 H2:Hp}(a:Kn H H1)(b:Kn H1 H2):Kn H H2:=⟨fun c o n e=>b.keep c o n (a.keep c o n e),fun c e=>a.there c (b.there c e)⟩
theorem Kn.lst{H H':Hp}(k:Kn H H'){a:Addr}{xs:List V}(e:H a=some (.lst xs)):H' a=some (.lst xs):=k.keep _ _ (fun _ z=>by cases z) e
theorem Kn.tup{H H':Hp}(k:Kn H H'){a:Addr}{xs:List V}(e:H a=some (.tup xs)):H' a=some (.tup xs):=k.keep _ _ (fun _ z=>by cases z) e
theorem Kn.dK{H H':Hp}(k:Kn H H'){a:Addr}{xs:List (Key×V)}(e:H a=some (.dK xs)):H' a=some (.dK xs):=k.keep _ _ (fun _ z=>by cases z) e
theorem Kn.way{H H':Hp}(k:Kn H H'){xs:List Lr}{wl:Addr}{j:Nat}{as:List Addr}(h:WayAt H xs wl j as):WayAt H' xs wl j as:=⟨k.lst h.lst,h.bxs.mono fun _ _ x=>x.tups fun b vs e=>k.tup e⟩
theorem Kn.bx{H H':Hp}(k:Kn H H'){a:Addr}{b:Bx}(h:IsBx H a b):IsBx H' a b:=h.tups fun b vs e=>k.tup e
theorem Kn.bxs{H H':Hp}(k:Kn H H'){xs:List Lr}{as:List Addr}{js:List Nat}(h:fU xs H as js):fU xs H' as js:=h.mono fun _ _ x=>k.bx x
theorem Kn.made{H H':Hp}{cT:Addr}{lp:Pos}{lq:Str}(t:Tb cT lp lq H)(k:∀ b o,b≠cT->H b=some o->H' b=some o)(t':Tb cT lp lq H'):Kn H H':=⟨fun b o n e=>k b o (Cp t e n) e,fun b e=>by
 cases z:H b with
 | none=>rfl
 | some o =>
  by_cases c:b=cT
  ·obtain⟨ps,h,_⟩:=t'
   rw [c,h] at e; cases e
  ·rw [k _ _ c z] at e; cases e⟩
theorem Kn.set{H H':Hp}(k:Kn H H'){d:Addr}(hd:H d=none)(o:HO):Kn H (upd H' d o):=⟨fun b u n e=>by rw [am (aH e hd)]; exact k.keep b u n e,fun b e=>by
 by_cases c:b=d
 ·rw [c]; exact hd
 ·rw [am c] at e; exact k.there b e⟩
structure Tt(A:Adr)(H:Hp):Prop where
 t1:Tb A.cT lmP lmQ H
 t2:Tb A.cT2 plP plQ H
 ne:A.cT≠A.cT2
theorem Md{cT:Addr}{lp:Pos}{lq:Str}{H:Hp}(t:Tb cT lp lq H):∃ ps,H cT=some (.tbl ps):=let ⟨ps,h,_⟩:=t; ⟨ps,h⟩
theorem Tt.same{A:Adr}{H H':Hp}(t:Tt A H)(s:aS H H'):Tt A H':=⟨t.t1.at s,t.t2.at s,t.ne⟩
theorem Tt.upd{A:Adr}{H:Hp}(t:Tt A H){d:Addr}{o o':HO}(e:H d=some o)(n:∀ ps,o≠HO.tbl ps)(m:∀ φ,o≠HO.ext φ):Tt A (upd H d o'):=⟨HL t.t1 e n m,HL t.t2 e n m,t.ne⟩
theorem Tt.updD{A:Adr}{H:Hp}(t:Tt A H){d:Addr}{kvs:List (Key×V)}{o':HO}(e:H d=some (.dK kvs)):Tt A (L2.upd H d o'):=t.upd e (fun _ z=>by cases z) (fun _ z=>by cases z)
theorem Tt.updL{A:Adr}{H:Hp}(t:Tt A H){d:Addr}{vs:List V}{o':HO}(e:H d=some (.lst vs)):Tt A (L2.upd H d o'):=t.upd e (fun _ z=>by cases z) (fun _ z=>by cases z)
theorem Tt.made1{A:Adr}{H H':Hp}(t:Tt A H)(k:∀ b o,b≠A.cT->H b=some o->H' b=some o)(t':Tb A.cT lmP lmQ H'):Tt A H':=⟨t',FK t.t2 (fun z=>t.ne z.symm) (Md t.t1) k,t.ne⟩
theorem Tt.made2{A:Adr}{H H':Hp}(t:Tt A H)(k:∀ b o,b≠A.cT2->H b=some o->H' b=some o)(t':Tb A.cT2 plP plQ H'):Tt A H':=⟨FK t.t1 t.ne (Md t.t2) k,t',t.ne⟩
structure Sa where
 p:Addr
 w:Str
 v:V
 t:Tr
structure Ra where
 a:Addr
 tl:Addr
 sl:Addr
 rk:Int
 ts:List (Addr×Ts)
 ss:List Sa
def Ra.ru (r:Ra):Ru:=⟨r.rk,r.ts.map (·.2),r.ss.map fun s=>(s.w,s.t)⟩
structure RaAt(H:Hp)(r:Ra):Prop where
 rule:H r.a=some (.tup [.int r.rk,.ref r.tl,.ref r.sl])
 ts:TsAt H r.tl r.ts
 sets:H r.sl=some (.tup (r.ss.map fun s=>V.ref s.p))
 set:∀ s∈r.ss,H s.p=some (.tup [.str s.w,s.v])/\TrAt H s.t s.v
theorem Ra.sets_ok{r:Ra}(g:r.ru.Good){s:Sa}(hs:s∈r.ss):db s.w=true/\dg s.w s.t=true:=g.ss (s.w,s.t) (w8.mpr ⟨s,hs,rfl⟩)
theorem RaAt.kn{H H':Hp}(k:Kn H H'){r:Ra}(g:r.ru.Good)(h:RaAt H r):RaAt H' r :=
 ⟨k.tup h.rule,h.ts.tups fun b vs e=>k.tup e,k.tup h.sets,fun s hs=>⟨k.tup (h.set s hs).1,(h.set s hs).2.kp (fun b vs e=>k.tup e) (mj (Ra.sets_ok g hs).2)⟩⟩
theorem Pm{H:Hp}{t:Ts}{v:V}(h:TrAt H t.tr v):∃ a,v = .ref a/\H a=some (.tup t.vs):=by
 cases t with
 | kind w=>obtain⟨a,v1,rfl,e,h1,_⟩:=TrAt.two h; cases h1; exact⟨a,rfl,e⟩
 | name w=>obtain⟨a,v1,rfl,e,h1,_⟩:=TrAt.two h; cases h1; exact⟨a,rfl,e⟩
 | tag w=>obtain⟨a,v1,rfl,e,h1,_⟩:=TrAt.two h; cases h1; exact⟨a,rfl,e⟩
 | first=>obtain⟨a,rfl,e⟩:=TrAt.one h; exact⟨a,rfl,e⟩
 | last=>obtain⟨a,rfl,e⟩:=TrAt.one h; exact⟨a,rfl,e⟩
 | nth n=>obtain⟨a,v1,rfl,e,h1,_⟩:=TrAt.two h; cases h1; exact⟨a,rfl,e⟩
 | inn w=>obtain⟨a,v1,rfl,e,h1,_⟩:=TrAt.two h; cases h1; exact⟨a,rfl,e⟩
 | under w=>obtain⟨a,v1,rfl,e,h1,_⟩:=TrAt.two h; cases h1; exact⟨a,rfl,e⟩
theorem Iz{H:Hp}:∀ {l:List Ts} {vs:List V},cL H (l.map Ts.tr) vs->∃ ps:List (Addr×Ts),vs=ps.map (fun p=>V.ref p.1)/\ps.map (·.2)=l/\∀ p∈ps,H p.1=some (.tup p.2.vs)
 | [],_,h=>by cases h; exact⟨[],rfl,rfl,fun p hp=>nomatch hp⟩
 | t :: l,_,h=>by
  cases h with
  | cons h1 h2 =>
   obtain⟨a,rfl,e⟩:=Pm h1;obtain⟨ps,rfl,e2,e3⟩:=Iz h2;refine⟨(a,t) :: ps,rfl,by rw [u6,e2],fun p hp=>?_⟩
   rcases l6.mp hp with rfl | hp
   ·exact e
   ·exact e3 p hp
theorem ET{H:Hp}:∀ {l:List (Str×Tr)} {vs:List V},cL H (l.map gJ) vs->∃ ps:List Sa,vs=ps.map (fun s=>V.ref s.p)/\ps.map (fun s=>(s.w,s.t))=l/\∀ s∈ps,H s.p=some (.tup [.str s.w,s.v])/\TrAt H s.t s.v
 | [],_,h=>by cases h; exact⟨[],rfl,rfl,fun p hp=>nomatch hp⟩
 | q :: l,_,h=>by
  cases h with
  | cons h1 h2 =>
   obtain⟨a,v1,rfl,e,h3,_⟩:=TrAt.two h1;obtain⟨ps,rfl,e2,e3⟩:=ET h2;refine⟨⟨a,q.1,v1,q.2⟩ :: ps,rfl,by rw [u6,e2],fun p hp=>?_⟩
   rcases l6.mp hp with rfl | hp
   ·exact⟨e,h3⟩
   ·exact e3 p hp
theorem Pq{H:Hp}{r:Ru}{v:V}(g:r.Good)(h:TrAt H r.tr v):∃ x:Ra,v = .ref x.a/\RaAt H x/\x.ru=r:=by
 obtain⟨a,vs,rfl,ea,k⟩:=h.tupE;cases k with
 | @cons _ v0 _ _ a0 k =>
 cases k with
 | @cons _ v1 _ _ a1 k =>
 cases k with
 | @cons _ v2 _ _ a2 k =>
 cases k;cases a0;obtain⟨b,ws,rfl,eb,k1⟩:=a1.tupE;obtain⟨c,us,rfl,ec,k2⟩:=a2.tupE;obtain⟨ps,rfl,e2,e3⟩:=Iz k1;obtain⟨qs,rfl,f2,f3⟩:=ET k2;have l4:ps.length<=4:=by have:=congrArg Q2 e2; rw [i4] at this; have:=g.tn; omega
 refine⟨⟨a,b,c,r.rank,ps,qs⟩,rfl,⟨ea,⟨eb,fun p hp=>⟨e3 p hp,Ts.good_ok (g.ts p.2 (by rw [<- e2]; exact w8.mpr ⟨p,hp,rfl⟩))⟩,(by show ps.length<=100; omega)⟩,ec,f3⟩,?_⟩
 show Ru.mk r.rank (ps.map (·.2)) (qs.map fun s=>(s.w,s.t))=r
 rw [e2,f2]
structure RlsAt(H:Hp)(rl:Addr)(rs:List Ra):Prop where
 sq:H rl=some (.lst (rs.map fun r=>V.ref r.a))\/H rl=some (.tup (rs.map fun r=>V.ref r.a))
 ra:∀ r∈rs,RaAt H r
 g:∀ r∈rs,r.ru.Good
 n:rs.length<=12
theorem RlsAt.kn{H H':Hp}(k:Kn H H'){rl:Addr}{rs:List Ra}(h:RlsAt H rl rs):RlsAt H' rl rs:=⟨h.sq.imp (fun e=>k.lst e) (fun e=>k.tup e),fun r hr=>(h.ra r hr).kn k (h.g r hr),h.g,h.n⟩
theorem RlsAt.seq{K:i3}{H:Hp}{rl:Addr}{rs:List Ra}(h:RlsAt H rl rs):SqL K H rl (rs.map fun r=>V.ref r.a)\/SqT K H rl (rs.map fun r=>V.ref r.a):=h.sq.imp (fun e=>.of e) fun e=>.of e
theorem Fd{H:Hp}:∀ {l:List Ru} {vs:List V},(∀ r∈l,r.Good)->cL H (l.map Ru.tr) vs->∃ rs:List Ra,vs=rs.map (fun r=>V.ref r.a)/\rs.map Ra.ru=l/\∀ r∈rs,RaAt H r
 | [],_,_,h=>by cases h; exact⟨[],rfl,rfl,fun p hp=>nomatch hp⟩
 | q :: l,_,g,h=>by
  cases h with
  | cons h1 h2 =>
   obtain⟨x,rfl,hx,e⟩:=Pq (g q (l8 ..)) h1;obtain⟨ps,rfl,e2,e3⟩:=Fd (fun r hr=>g r (u9 _ hr)) h2;refine⟨x :: ps,rfl,by rw [u6,e2,e],fun p hp=>?_⟩
   rcases l6.mp hp with rfl | hp
   ·exact hx
   ·exact e3 p hp
theorem RaAt.tr{H:Hp}{r:Ra}(h:RaAt H r)(g:r.ru.Good):TrAt H r.ru.tr (.ref r.a):=by
 refine .tup' h.rule (.cons (.int _) (.cons (.tup' h.ts.tup ?_) (.cons (.tup' h.sets ?_) .nil)))
 ·have go:∀(l:List (Addr×Ts)),(∀ p∈l,H p.1=some (.tup p.2.vs)/\p.2.Good)->cL H ((l.map (·.2)).map Ts.tr) (l.map fun p=>V.ref p.1):=by
   intro l
   induction l with
   | nil=>intro _; exact .nil
   | cons p l ih=>intro hl; exact .cons (p.2.at (hl p (l8 ..)).2 (hl p (l8 ..)).1) (ih fun q hq=>hl q (u9 _ hq))
  exact go r.ts fun p hp=>⟨(h.ts.it p hp).1,g.ts p.2 (w8.mpr ⟨p,hp,rfl⟩)⟩
 ·have go:∀(l:List Sa),(∀ s∈l,(H s.p=some (.tup [.str s.w,s.v])/\TrAt H s.t s.v)/\s.w.length<=400)->cL H ((l.map fun s=>(s.w,s.t)).map gJ) (l.map fun s=>V.ref s.p):=by
   intro l
   induction l with
   | nil=>intro _; exact .nil
   | cons s l ih=>intro hl; exact .cons (tr2 (hl s (l8 ..)).1.1 (hl s (l8 ..)).2 (hl s (l8 ..)).1.2) (ih fun q hq=>hl q (u9 _ hq))
  exact go r.ss fun s hs=>⟨h.set s hs,Aa (Ra.sets_ok g hs).1⟩
theorem RlsAt.rules{H:Hp}{rl:Addr}{rs:List Ra}(h:RlsAt H rl rs):∃ t,TrAt H t (.ref rl)/\pY t=true:=by
 have k:cL H (rs.map fun r=>r.ru.tr) (rs.map fun r=>V.ref r.a):=by
  have go:∀(l:List Ra),(∀ r∈l,RaAt H r/\r.ru.Good)->cL H (l.map fun r=>r.ru.tr) (l.map fun r=>V.ref r.a):=by
   intro l
   induction l with
   | nil=>intro _; exact .nil
   | cons p l ih=>intro hl; exact .cons ((hl p (l8 ..)).1.tr (hl p (l8 ..)).2) (ih fun q hq=>hl q (u9 _ hq))
  exact go rs fun r hr=>⟨h.ra r hr,h.g r hr⟩
 have ok:(decide ((rs.map fun r=>r.ru.tr).length<=40) && (rs.map fun r=>r.ru.tr).all dh)=true:=by
  rw [i4,decide_eq_true (show rs.length<=40 by have:=h.n; omega),y4]
  refine E8.mpr fun t ht=>?_;obtain⟨r,hr,rfl⟩:=w8.mp ht;exact(h.g r hr).rule
 rcases h.sq with e | e
 ·exact⟨_,.lst' e k,ok⟩
 ·exact⟨_,.tup' e k,ok⟩
def ra0:Ra:=⟨0,0,0,0,[],[]⟩
def rD (rs:List Ra)(j:Nat):Ra:=rs.getD j ra0
def oj (r:Ra)(w:Str):Bool:=r.ss.any fun s=>s.w == w
def inT (r:Ra)(w:Str):Tr:=match r.ss.find? fun s=>s.w == w with | some s=>s.t | none=>.non
def uV (xs:List Lr)(rs:List Ra)(k:Nat):List Nat:=(x6 rs.length).filter fun j=>qS xs k (rD rs j).ts
def bet (rs:List Ra):Option Nat->Nat->Option Nat
 | none,j=>some j
 | some i,j=>if (rD rs i).rk<=(rD rs j).rk then some j else some i
def ke (xs:List Lr)(rs:List Ra)(k:Nat)(w:Str):Option Nat:=((uV xs rs k).filter fun j=>oj (rD rs j) w).foldl (bet rs) none
abbrev fW (rs:List Ra)(i j:Nat):Prop:=(rD rs i).rk < (rD rs j).rk\/((rD rs i).rk=(rD rs j).rk/\i < j)
theorem zZ{rs:List Ra}:∀(l:List Nat) (b:Option Nat),l.Pairwise (· < ·)->(∀ i,b=some i->∀ j∈l,i < j)->(b=none/\l=[]/\l.foldl (bet rs) b=none)\/∃ m,l.foldl (bet rs) b=some m/\(m∈l\/b=some m)/\(∀ j∈l,j=m\/fW rs j m)/\∀ i,b=some i->i=m\/fW rs i m
 | [],none,_,_=>.inl ⟨rfl,rfl,rfl⟩
 | [],some i,_,_=>.inr ⟨i,rfl,.inr rfl,fun j hj=>(nomatch hj),fun i' e=>.inl (by cases e; rfl)⟩
 | j :: l,b,hp,hb=>by
  obtain⟨h1,h2⟩:=X9.mp hp;rw [List.foldl_cons];have key:∃ m0,bet rs b j=some m0/\(m0=j\/b=some m0)/\(j=m0\/fW rs j m0)/\∀ i,b=some i->i=m0\/fW rs i m0:=by
   cases b with
   | none=>exact⟨j,rfl,.inl rfl,.inl rfl,fun i e=>nomatch e⟩
   | some i =>
    have hij:=hb i rfl j (l8 ..);by_cases hc:(rD rs i).rk<=(rD rs j).rk
    ·refine⟨j,if_pos hc,.inl rfl,.inl rfl,fun i' e=>?_⟩
     cases e;by_cases he:(rD rs i).rk=(rD rs j).rk
     ·exact .inr (.inr ⟨he,hij⟩)
     ·exact .inr (.inl (by omega))
    ·exact⟨i,if_neg hc,.inr rfl,.inr (.inl (by omega)),fun i' e=>.inl (by cases e; rfl)⟩
  obtain⟨m0,e0,m1,m2,m3⟩:=key;rw [e0];have lt:∀ i,some m0=some i->∀ j'∈l,i < j':=fun i e j' hj'=>by
   cases e;rcases m1 with rfl | hbm
   ·exact h1 j' hj'
   ·exact hb _ hbm j' (u9 _ hj')
  rcases zZ l (some m0) h2 lt with ⟨z,_⟩ | ⟨m,q1,q2,q3,q4⟩
  ·cases z
  ·have tr:∀ i,(i=m0\/fW rs i m0)->i=m\/fW rs i m:=fun i hi=>by
    rcases q4 m0 rfl with rfl | q4
    ·exact hi
    ·rcases hi with rfl | hi
     ·exact .inr q4
     ·refine .inr ?_
      unfold fW at *; omega
   refine .inr ⟨m,q1,?_,fun j' hj'=>?_,fun i e=>tr i (m3 i e)⟩
   ·rcases q2 with q2 | q2
    ·exact .inl (u9 _ q2)
    ·cases q2
     rcases m1 with rfl | m1
     ·exact .inl (l8 ..)
     ·exact .inr m1
   ·rcases l6.mp hj' with rfl | hj'
    ·exact tr _ m2
    ·exact q3 j' hj'
theorem Cd(xs:List Lr)(rs:List Ra)(k:Nat):(uV xs rs k).Pairwise (· < ·):=ap8 _ ap9
theorem rf{xs:List Lr}{rs:List Ra}{k j:Nat}(h:j∈uV xs rs k):j < rs.length:=I0.mp (G5.mp h).1
theorem Fv{xs:List Lr}{rs:List Ra}{k:Nat}{zs:List Nat}(w:Str)(hp:zs.Perm (uV xs rs k))(ho:zs.Pairwise fun p q=>(rD rs p).rk < (rD rs q).rk\/((rD rs p).rk=(rD rs q).rk/\p < q)) :
  (zs.filter fun j=>oj (rD rs j) w).getLast? = ke xs rs k w:=by
 unfold ke;have hp':=hp.filter fun j=>oj (rD rs j) w;have ho':=ho.filter (fun j=>oj (rD rs j) w);have pw:=(Cd xs rs k).filter (fun j=>oj (rD rs j) w);generalize zs.filter (fun j=>oj (rD rs j) w)=us at hp' ho';generalize (uV xs rs k).filter (fun j=>oj (rD rs j) w)=ps at hp' pw;rcases zZ (rs:=rs) ps none pw (fun i e=>nomatch e) with ⟨_,e,e2⟩ | ⟨m,q1,q2,q3,_⟩
 ·rw [e2]
  rw [e] at hp';rw [hp'.eq_nil]; rfl
 ·rw [q1]
  have hm:m∈us:=hp'.mem_iff.mpr (q2.elim id fun z=>nomatch z);rcases ac8 us with rfl | ⟨us',u,rfl⟩
  ·cases hm
  ·rw [ac9] at hp' ho' hm ⊢
   rw [aq2]
   congr 1
   have hu:u∈ps:=hp'.mem_iff.mp (by simp)
   rcases q3 u hu with h | h
   ·exact h
   ·rcases B3.mp hm with h2 | h2
    ·have:=(List.pairwise_append.mp ho').2.2 m h2 u (by simp)
     unfold fW at h; omega
    ·exact(A5.mp h2).symm
def cJ {α:Type}(f:Str->α)(w:Str)(a:α):Str->α:=fun y=>if y=w then a else f y
def mC {α:Type}(val:Sa->α)(ss:List Sa)(f:Str->α):Str->α:=ss.foldl (fun f s=>cJ f s.w (val s)) f
def fk {α:Type}(val:Sa->α)(rs:List Ra)(zs:List Nat)(f:Str->α):Str->α:=zs.foldl (fun f j=>mC val (rD rs j).ss f) f
theorem Hf{r:Ra}{g:Str->Tr}{w:Str}(nd:(r.ss.map (·.w)).Nodup):mC Sa.t r.ss g w=if oj r w=true then inT r w else g w:=by
 unfold oj inT
 revert nd
 generalize r.ss=ss;intro nd
 induction ss generalizing g with
 | nil=>rfl
 | cons s ss ih =>
  rw [u6,G7] at nd;show mC Sa.t ss (cJ g s.w s.t) w=_;rw [ih nd.2,P2,N8];by_cases e:s.w=w
  ·have e1:(s.w == w)=true:=beq_iff_eq.mpr e
   have e2:(ss.any fun s=>s.w == w)=false:=by
    refine ad0.mpr fun z=>?_;obtain⟨x,hx,ex⟩:=G4.mp z;exact nd.1 (w8.mpr ⟨x,hx,(J5 ex).trans e.symm⟩)
   rw [e1,e2,W6,if_pos rfl,if_neg (by decide)]
   exact if_pos e.symm
  ·have e1:(s.w == w)=false:=beq_eq_false_iff_ne.mpr e
   rw [e1,W7];show(if _ then _ else cJ g s.w s.t w)=_
   rw [show cJ g s.w s.t w=g w from if_neg fun z=>e z.symm]
theorem vF{rs:List Ra}(good:∀ r∈rs,r.ru.Good){g:Str->Tr}{w:Str}:∀(zs:List Nat),(∀ z∈zs,z < rs.length)->fk Sa.t rs zs g w=match (zs.filter fun j=>oj (rD rs j) w).getLast? with | some j=>inT (rD rs j) w | none=>g w:=by
 intro zs
 induction h:zs.length generalizing zs with
 | zero=>intro _; rw [List.eq_nil_of_length_eq_zero h]; rfl
 | succ n ih =>
  intro hz;rcases ac8 zs with rfl | ⟨zs',z,rfl⟩
  ·cases h
  ·rw [ac9] at h hz ⊢
   have hzl:=hz z (by simp)
   have nd:((rD rs z).ss.map (·.w)).Nodup:=by
    have hm:rD rs z∈rs:=by unfold rD; rw [A4,i5 hzl]; exact E9 hzl
    have:=(good _ hm).nd;have e:(rD rs z).ru.sets.map (·.1)=(rD rs z).ss.map (·.w):=by show((rD rs z).ss.map fun s=>(s.w,s.t)).map (·.1)=_; rw [A7]; rfl
    rw [e] at this; exact this
   have e1:fk Sa.t rs (zs' ++ [z]) g w=mC Sa.t (rD rs z).ss (fk Sa.t rs zs' g) w:=by unfold fk; rw [X3]; rfl
   rw [e1,Hf nd,L7,ih zs' (by rw [A2,N7] at h; omega) fun y hy=>hz y (P6 _ hy)]
   cases hc:oj (rD rs z) w with
   | true =>
    have:[z].filter (fun j=>oj (rD rs j) w)=[z]:=by simp [hc]
    rw [this,aq2,if_pos rfl]
   | false =>
    have:[z].filter (fun j=>oj (rD rs j) w)=[]:=by simp [hc]
    rw [this,Q0,if_neg (by decide)]
def plL:List (Str×Tr):=[("wide",.tup [.str "hold"]),("high",.tup [.str "hold"]),("leastw",.int 0),("mostw",.int 400),("leasth",.int 0),("mosth",.int 400),("pad",.int 0),("gap",.int 0),("over",.bl false),("able",.bl false),("fill",.str ""),("ink",.str "as")]
def plT (w:Str):Tr:=(plL.lookup w).getD .non
def qq (w:Str):Bool:=w == "gap" || w == "ink"
def gT (xs:List Lr)(rs:List Ra):Nat->Nat->Str->Tr
 | 0,_,_=>.non
 | n + 1,k,w=>match ke xs rs k w with
  | some j=>inT (rD rs j) w
  | none=>if qq w=true/\0<=(cn xs k).about then gT xs rs n (cn xs k).about.toNat w else plT w
theorem Cv{c:Cn}{xs:List Lr}(ok:RwsOk c xs){rs:List Ra}{w:Str}:∀(n m k:Nat),k < n->n<=m->k < xs.length->gT xs rs m k w=gT xs rs n k w
 | 0,_,k,h1,_,_=>by omega
 | n + 1,0,_,_,h2,_=>by omega
 | n + 1,m + 1,k,h1,h2,h3=>by
  unfold gT;cases ke xs rs k w with
  | some j=>rfl
  | none =>
   dsimp only;split
   ·rename_i hc
    rcases CT ok h3 with ⟨e,_⟩ | ⟨j,hj,e,_⟩
    ·rw [e] at hc; exact absurd hc.2 (by decide)
    ·rw [e,J9]
     exact Cv ok n m j (by omega) (by omega) (by omega)
   ·rfl
def gOf (xs:List Lr)(rs:List Ra)(k:Nat)(w:Str):Tr:=gT xs rs (k + 1) k w
theorem Ck{xs:List Lr}{rs:List Ra}{k j:Nat}{w:Str}(h:ke xs rs k w=some j):gOf xs rs k w=inT (rD rs j) w:=by unfold gOf gT; rw [h]
theorem HQ{c:Cn}{xs:List Lr}(ok:RwsOk c xs){rs:List Ra}{k i:Nat}{w:Str}(hk:k < xs.length)(h:ke xs rs k w=none)(d:qq w=true)(e:(cn xs k).about=(i:Int))(hi:i < k):gOf xs rs k w=gOf xs rs i w:=by
 unfold gOf;rw [gT,h];dsimp only;rw [if_pos ⟨d,by rw [e]; omega⟩,e,J9]
 exact Cv ok (i + 1) k i (by omega) (by omega) (by omega)
theorem vg{xs:List Lr}{rs:List Ra}{k:Nat}{w:Str}(h:ke xs rs k w=none)(n:¬ (qq w=true/\0<=(cn xs k).about)):gOf xs rs k w=plT w:=by
 unfold gOf;rw [gT,h];exact if_neg n
theorem Fi{rs:List Ra}{i:Nat}(h:i < rs.length):rs[i]? = some (rD rs i):=by unfold rD; rw [A4,i5 h]; rfl
theorem nB{rs:List Ra}{i:Nat}(h:i < rs.length):rD rs i∈rs:=C5 (Fi h)
theorem RlsAt.pp{K:i3}{H1:Hp}{rl:Addr}{rs:List Ra}(h:RlsAt H1 rl rs):(∀ H',Kn H1 H'->SqL K H' rl (rs.map fun r=>V.ref r.a))\/(∀ H',Kn H1 H'->SqT K H' rl (rs.map fun r=>V.ref r.a)) :=
 h.sq.imp (fun e H' k=>.of (k.lst e)) fun e H' k=>.of (k.tup e)
theorem EZ{rs:List Ra}{i:Nat}(hi:i < rs.length):(rs.map fun r=>V.ref r.a)[i]? = some (.ref (rD rs i).a):=by rw [o0,Fi hi]; rfl
structure Ord(rs:List Ra)(ps zs:List Nat):Prop where
 perm:zs.Perm ps
 pw:zs.Pairwise fun p q=>(rD rs p).rk < (rD rs q).rk\/((rD rs p).rk=(rD rs q).rk/\p < q)
def HI (A:Adr):Sp:=fun vs H Q _ => ∃(rl wl:Addr) (xs:List Lr) (c:Cn) (k:Nat) (as:List Addr) (rs:List Ra),vs=[.ref rl,.ref wl]/\RlsAt H rl rs/\RwsOk c xs/\k < xs.length/\WayAt H xs wl k as/\Tt A H /\
 ∀(l:Addr) (zs:List Nat) (H':Hp),Kn H H'->Tt A H'->H' l=some (.lst (zs.map fun z:Nat=>V.int (z:Int)))->Ord rs (uV xs rs k) zs->Q (.ref l) H'
seal PE PS PSs L2.PA PT PI PG in
theorem uU(T:Txt K mg A)(hC:E3 base A.cC A.cT)(hbm:base.BuiltinsAt mg A.cT)(hC2:E3 base A.cC2 A.cT2)(hbm2:base.BuiltinsAt mg A.cT2):FnOk P w K mg base CX0 6 A.oy A.jv gr (HI A):=by
 have Dq:=(Bv (P:=P) (w:=w) (base:=base) T hC hbm).mono (show 1<=5 by decide)
 have F_clo:CFn P w K mg base 5 (ER mg):=MR T;refine Fun.okC T.gw.F de (fun vs H Q E h=>?_) (fun cdv B outer s H vs Q E hcd hr h=>?_)
 ·obtain⟨rl,wl,xs,c,k,as,rs,rfl,_⟩:=h; rfl
 obtain⟨rl,wl,xs,c,k,as,rs,rfl,R,ok,hk,W,tt,q⟩:=h;have hcode:cdv = .ref A.cC2:=hcd.symm.trans T.code2;subst hcode;refine⟨_,@ah _ _ _ _ _ (aR (i:=2) de.nd rfl (m9 rfl) (bb ae))
  (@ah _ _ _ _ _ (dZ F7 rfl (Hh rfl T.fL (aa (pv 0) ae)) (xD rfl (fM (aN (i:=3) de.nd rfl (m9 rfl)) (fM (aN (i:=4) de.nd rfl (m9 rfl)) qZ))) (@ah _ _ _ _ _ (aR (i:=5) de.nd rfl (m9 rfl) (b9 Dq hr rfl T.lQ (aa (aA aP (pv 4) ag (fun _ _=>rfl)) ae)))
  (ak (bc (bS (EO F_clo hr (pv 5) (pv 1))) (ak (bB (eZ F1 O4 O5 cX (pv 2) (aa (pv 3) ae)))) aE))))
  (ak (ar (FL (P:=A.cT2) (c:=A.cC2) rfl hC2 hbm2 Mw rfl rfl (hr.mono (by decide)) rfl rfl rfl rfl (by decide +kernel) (by decide +kernel) (by decide +kernel) (fun _ _ _ _ _=>rfl) rfl T.gH (pv 2))))),?_⟩
 refine⟨aK (by simp),fun pl hpl=>?_⟩
 have s1:=ai hpl (.lst ([]:List V));have e1:upd H pl (.lst ([]:List V)) pl=some (.lst []):=af;have tt1:=tt.same s1;generalize upd H pl (.lst ([]:List V))=H1 at s1 e1 tt1 ⊢;have k1:=Kn.of s1;have R1:=R.kn k1;have n12:=R.n;have lr:(rs.map fun r=>V.ref r.a).length=rs.length:=i4 _;refine⟨_,rfl,rl,rs.map (fun r=>V.ref r.a),fun H'=>Kn H H',rfl,k1,R.pp,fun J hJ=>Ju rs.length (fun i σ H' => ∃(v3 v4 v5:Option V),σ=[some (.ref rl),some (.ref wl),some (.ref pl),v3,v4,v5]/\Kn H H'/\Tt A H'/\H' pl=some (.lst (((x6 i).filter fun j=>qS xs k (rD rs j).ts).map fun z:Nat=>V.int (z:Int))))
  ⟨none,none,none,rfl,k1,tt1,e1⟩ (fun i σ H' hi ⟨_,_,_,_,kk,_⟩=>hJ.go i H' kk (by omega)) (fun σ H' ⟨_,_,_,_,kk,_⟩=>by have:=hJ.stop H' kk; rw [lr] at this; exact this) ?_ ?_⟩
 ·rintro i x σ H2 H3 hi ⟨v3,v4,v5,rfl,k2,tt2,e2⟩ y
  obtain⟨t,z,rfl,ht,rfl,ez⟩:=hJ.yld i H2 x H3 k2 y;rw [EZ hi] at ez;cases ez;have s3:=ai ht (.tup [V.int i,.ref (rD rs i).a]);have et:upd H2 t (.tup [V.int i,.ref (rD rs i).a]) t=_:=af;have k3:=k2.trans (Kn.of s3);have tt3:=tt2.same s3;have e3:=s3 _ _ e2;generalize upd H2 t (.tup [V.int i,.ref (rD rs i).a])=H3 at s3 et k3 tt3 e3 ⊢;have R3:=R.kn k3;have r3:=R3.ra _ (nB hi);refine⟨t,zQa,.of et,rfl,_,zQa,zQb,?_⟩;refine⟨zQa,(rD rs i).a,zQc,.of r3.rule,rfl,(rD rs i).tl,rfl,tt3.t1,fun f c0 H4 ff fc nfc k4 t4 C4=>?_⟩;have tt4:=tt3.made1 k4 t4;have k34:=Kn.made tt3.t1 k4 t4;have k4':=k3.trans k34;have e4:=k34.lst e3;dsimp only [bC];refine⟨zQa,zQa,f,rfl,c0,(rD rs i).tl,wl,xs,c,k,as,(rD rs i).ts,rfl,C4,ok,hk,k4'.way W,r3.ts.tups (fun b vs e=>k34.tup e),fun H5 s5=>?_⟩;have tt5:=tt4.same s5;have k5:=k4'.trans (Kn.of s5);have e5:=s5 _ _ e4;have ef:(x6 (i + 1)).filter (fun j=>qS xs k (rD rs j).ts)=(x6 i).filter (fun j=>qS xs k (rD rs j).ts) ++ (if qS xs k (rD rs i).ts=true then [i] else []):=by
   rw [T7,L7]
   congr 1
   by_cases e:qS xs k (rD rs i).ts <;> simp [e]
  refine⟨zQa,?_⟩;cases hb:qS xs k (rD rs i).ts with
  | false =>
   rw [hb] at ef;refine aV ⟨_,_,zQa,k5,tt5,?_⟩;rw [ef]
   simpa using e5
  | true =>
   rw [hb,if_pos rfl] at ef;refine ax ⟨zQa,.inl ⟨rfl,_,.of e5⟩,zQa,pl,zQb,e5,?_,⟨_,_,zQa,?_,tt5.updL e5,?_⟩⟩
   ·rw [i4]
    have:=R6 (fun j=>qS xs k (rD rs j).ts) (x6 i);rw [R5] at this;exact az (by omega)
   ·exact k5.set hpl _
   ·rw [af,ef,j6]; rfl
 ·rintro σ H2 ⟨v3,v4,v5,rfl,k2,tt2,e2⟩
  have npl:pl≠A.cT2:=Cp tt2.t2 e2 fun _ z=>by cases z
  have R2:=R.kn k2;refine⟨zQa,pl,rl,uV xs rs k,rs.map Ra.a,fun p=>(rD rs p).rk,rfl,.of e2,npl,?_,Cd xs rs k,tt2.t2,rfl,?_,?_,?_,fun p hp=>?_,fun zs H3 l zp zo k3 t3 _ el=>?_⟩
  ·have:=R6 (fun j=>qS xs k (rD rs j).ts) (x6 rs.length)
   rw [R5] at this;show(uV xs rs k).length < 64;unfold uV; omega
  ·rw [A7]; exact R2.seq
  ·rcases R2.sq with e | e
   ·exact Cp tt2.t2 e fun _ z=>by cases z
   ·exact Cp tt2.t2 e fun _ z=>by cases z
  ·rw [i4]; omega
  ·have hp':=rf hp
   exact⟨_,_,by rw [o0,Fi hp']; rfl,(R2.ra _ (nB hp')).rule,(by show 2<=900; decide)⟩
  ·exact q l zs H3 (k2.trans (Kn.made tt2.t2 k3 t3)) (tt2.made2 k3 t3) el ⟨zp,zo⟩
theorem ML:bootBuiltins "dict"=some (.type "dict"):=by decide +kernel
def kD (K:i3)(H:Hp)(t:Tr)(v:V):Prop:=TrAt H t v\/(t = .tup [.str "hold"]/\∃ a,v = .ref a/\eQ K a ["hold"]=true)
theorem kD.kn{K:i3}{H H':Hp}{t:Tr}{v:V}(h:kD K H t v)(k:Kn H H')(n:NoL t):kD K H' t v:=h.imp (fun h=>h.kp (fun b vs e=>k.tup e) n) id
theorem kD.tp{K:i3}{H H':Hp}{t:Tr}{v:V}(h:kD K H t v)(k:∀ b vs,H b=some (.tup vs)->H' b=some (.tup vs))(n:NoL t):kD K H' t v:=h.imp (fun h=>h.kp k n) id
theorem FH(w:Str):NoL (plT w):=by
 have h:∀ p∈plL,NoL p.2:=fun p hp=>by
  simp only [plL,l6,C1,or_false] at hp
  rcases hp with rfl | rfl | rfl | rfl | rfl | rfl | rfl | rfl | rfl | rfl | rfl | rfl
  ·exact Jb (.str _)
  ·exact Jb (.str _)
  all_goals first | exact .int _ | exact .bl _ | exact .str _
 unfold plT;cases e:plL.lookup w with
 | none=>exact .non
 | some t =>
  obtain⟨l1,l2,e1,_⟩:=List.lookup_eq_some_iff.mp e;exact h (w,t) (by rw [e1]; simp)
theorem Fm{rs:List Ra}(g:∀ r∈rs,r.ru.Good)(j:Nat)(w:Str):NoL (inT (rD rs j) w):=by
 by_cases h:j < rs.length
 ·unfold inT
  cases e:(rD rs j).ss.find? fun s=>s.w == w with
  | none=>exact .non
  | some s=>exact mj (Ra.sets_ok (g _ (nB h)) (aq3 e)).2
 ·have:rD rs j=ra0:=by unfold rD; rw [A4,X6 (by omega)]; rfl
  rw [this]; exact .non
theorem mI{xs:List Lr}{rs:List Ra}(g:∀ r∈rs,r.ru.Good):∀(n k:Nat) (w:Str),NoL (gT xs rs n k w)
 | 0,_,_=>.non
 | n + 1,k,w=>by
  unfold gT;cases ke xs rs k w with
  | some j=>exact Fm g j w
  | none =>
   dsimp only;split
   ·exact mI g n _ w
   ·exact FH w
def fnL (f:Str->V):List (Key×V):=bf.map fun w=>((i0 w:Key),f w)
theorem Ce(f:Str->V):(fnL f).length=12:=rfl
theorem yV{ws:List Str}{f:Str->V}{w:Str}(h:w∈ws):(ws.map fun y=>((i0 y:Key),f y)).find? (fun kv=>decide (kv.1=i0 w))=some (i0 w,f w):=by
 induction ws with
 | nil=>cases h
 | cons y ws ih =>
  rw [u6,N8];by_cases e:y=w
  ·subst e; rw [decide_eq_true rfl]
  ·rw [decide_eq_false (fun z=>e (by injection z))]
   rcases l6.mp h with h | h
   ·exact absurd h.symm e
   ·exact ih h
theorem Kl{f:Str->V}{w:Str}(h:w∈bf):cm (fnL f) (.inr w)=some (f w):=by
 unfold cm fnL;rw [yV h]; rfl
theorem Cc{f:Str->V}{w:Str}{v:V}(h:w∈bf):iE (fnL f) (.inr w) v=fnL (cJ f w v):=by
 unfold iE;have e:((fnL f).any fun kv=>decide (kv.1=i0 w))=true:=G4.mpr ⟨(.inr w,f w),w8.mpr ⟨w,h,rfl⟩,decide_eq_true rfl⟩;rw [if_pos e];unfold fnL;rw [A7];refine K3 fun y _=>?_;show(if (i0 y:Key) = .inr w then((i0 y:Key),v) else(.inr y,f y))=(.inr y,if y=w then v else f y)
 by_cases c:y=w
 ·rw [if_pos (by rw [c]),if_pos c]
 ·rw [if_neg (fun z=>c (by injection z)),if_neg c]
def qk (K:i3)(H:Hp)(d:Addr)(g:Str->Tr):Prop := ∃ f,H d=some (.dK (fnL f))/\∀ w∈bf,kD K H (g w) (f w)
theorem qk.kn{K:i3}{H H':Hp}{d:Addr}{g:Str->Tr}(h:qk K H d g)(k:Kn H H')(n:∀ w,NoL (g w)):qk K H' d g:=let ⟨f,e,p⟩:=h; ⟨f,k.dK e,fun w hw=>(p w hw).kn k (n w)⟩
def plF (x y:Addr)(w:Str):V:=if w="wide" then .ref x else if w="high" then .ref y else match plT w with | .int i=>.int i | .bl b=>.bl b | .str s=>.str s | _=>.non
theorem PL(x y:Addr):[((i0 "wide" : Key),V.ref x),(i0 "high",.ref y),(i0 "leastw",.int 0),(i0 "mostw",.int 400),(i0 "leasth",.int 0),(i0 "mosth",.int 400),(i0 "pad",.int 0),(i0 "gap",.int 0),(i0 "over",.bl false),(i0 "able",.bl false),(i0 "fill",.str ""),(i0 "ink",.str "as")]=fnL (plF x y):=by kernel_rfl
theorem Ew{w:Str}(h:db w=true):w∈bf:=by
 obtain⟨y,hy,e⟩:=G4.mp h;exact(show y=w by simpa using e) ▸ hy
theorem Ap:plT "wide" = .tup [.str "hold"]/\plT "high" = .tup [.str "hold"]/\plT "leastw" = .int 0/\plT "mostw" = .int 400/\plT "leasth" = .int 0/\plT "mosth" = .int 400/\plT "pad" = .int 0/\plT "gap" = .int 0/\plT "over" = .bl false/\plT "able" = .bl false/\plT "fill" = .str ""/\plT "ink" = .str "as" :=
 ⟨by kernel_rfl,by kernel_rfl,by kernel_rfl,by kernel_rfl,by kernel_rfl,by kernel_rfl,by kernel_rfl,by kernel_rfl,by kernel_rfl,by kernel_rfl,by kernel_rfl,by kernel_rfl⟩
theorem JH:∀ w∈bf,w≠"wide"->w≠"high"->(∃ i,plT w = .int i)\/(∃ b,plT w = .bl b)\/∃ s:Str,plT w = .str s/\s.length<=400:=fun w hw h1 h2=>by
 obtain⟨_,_,a3,a4,a5,a6,a7,a8,a9,a10,a11,a12⟩:=Ap;simp only [bf,l6,C1,or_false] at hw
 rcases hw with rfl | rfl | rfl | rfl | rfl | rfl | rfl | rfl | rfl | rfl | rfl | rfl
 ·exact absurd rfl h1
 ·exact absurd rfl h2
 ·exact .inl ⟨_,a3⟩
 ·exact .inl ⟨_,a4⟩
 ·exact .inl ⟨_,a5⟩
 ·exact .inl ⟨_,a6⟩
 ·exact .inl ⟨_,a7⟩
 ·exact .inl ⟨_,a8⟩
 ·exact .inr (.inl ⟨_,a9⟩)
 ·exact .inr (.inl ⟨_,a10⟩)
 ·exact .inr (.inr ⟨_,a11,by decide⟩)
 ·exact .inr (.inr ⟨_,a12,by decide⟩)
theorem zz{K:i3}{H:Hp}{x y:Addr}(hx:eQ K x ["hold"]=true)(hy:eQ K y ["hold"]=true):∀ w∈bf,kD K H (plT w) (plF x y w):=fun w hw=>by
 unfold plF;by_cases h1:w="wide"
 ·rw [if_pos h1,h1,Ap.1]; exact .inr ⟨rfl,x,rfl,hx⟩
 ·rw [if_neg h1]
  by_cases h2:w="high"
  ·rw [if_pos h2,h2,Ap.2.1]; exact .inr ⟨rfl,y,rfl,hy⟩
  ·rw [if_neg h2]
   rcases JH w hw h1 h2 with ⟨i,e⟩ | ⟨b,e⟩ | ⟨s,e,hs⟩ <;> rw [e]
   ·exact .inl (.int i)
   ·exact .inl (.bl b)
   ·exact .inl (.str s hs)
def IC (K:i3):Sp:=fun vs H Q _=>vs=[]/\∀(d x y:Addr),H d=none->eQ K x ["hold"]=true->eQ K y ["hold"]=true->Q (.ref d) (upd H d (.dK (fnL (plF x y))))
theorem rX(T:Txt K mg A)(hw:A.wd=w):FnOk P w K mg base CX0 1 A.mB A.mw fF (IC K):=by
 exists T.fG.F.ok sy
 ·obtain⟨rfl,_⟩:=h; rfl
 obtain⟨rfl,q⟩:=h;obtain⟨ii,x,y,kY,dc,hx,hy⟩:=T.h_PLAIN;rw [hw] at dc;refine⟨_,ak (ar (gC Am rfl T.uk ML (aa (bi rfl kY (v:=.ref ii) rfl) ae))),?_⟩;refine⟨ii,zQa,dc,rB,fun p hp=>?_⟩;rw [PL];exact q p x y hp hx hy
theorem Hb{H:Hp}{a:Addr}{kvs:List (Key×V)}{x:Str}{v:V}(hd:H a=some (.dK kvs))(e:cm kvs (.inr x)=some v):iC H a (.str x) (some v):=by
 rw [<- e]; exact iC.k (k:=.inr x) hd
theorem HK{H:Hp}{a:Addr}{kvs:List (Key×V)}{x:Str}{v:V}(hd:H a=some (.dK kvs))(hl:kvs.length < 1000):zx H a (.str x) v (upd H a (.dK (iE kvs (.inr x) v))) :=
 zx.k (k:=.inr x) hd (az (E5 hl))
theorem Ag{H:Hp}{d:Addr}{kvs:List (Key×V)}{o:HO}(e:H d=some (.dK kvs))(b:Addr)(vs:List V)(h:H b=some (.tup vs)):upd H d o b=some (.tup vs):=by
 rw [am (fun z=>by rw [z,e] at h; cases h)]; exact h
def g0 (xs:List Lr)(rs:List Ra)(k:Nat)(w:Str):Tr:=if qq w=true/\0<=(cn xs k).about then gOf xs rs (cn xs k).about.toNat w else plT w
theorem NA{xs:List Lr}{rs:List Ra}(g:∀ r∈rs,r.ru.Good)(k:Nat)(w:Str):NoL (g0 xs rs k w):=by
 unfold g0;split
 ·exact mI g _ _ w
 ·exact FH w
theorem Ku{c:Cn}{xs:List Lr}(ok:RwsOk c xs){rs:List Ra}(good:∀ r∈rs,r.ru.Good){k:Nat}(hk:k < xs.length){zs:List Nat}(o:Ord rs (uV xs rs k) zs)(w:Str):fk Sa.t rs zs (g0 xs rs k) w=gOf xs rs k w:=by
 rw [vF good zs fun z hz=>rf (o.perm.mem_iff.mp hz),Fv w o.perm o.pw];cases e:ke xs rs k w with
 | some j=>exact(Ck e).symm
 | none =>
  dsimp only;unfold g0;split
  ·rename_i hc
   rcases CT ok hk with ⟨ea,_⟩ | ⟨j,hj,ea,_⟩
   ·rw [ea] at hc; exact absurd hc.2 (by decide)
   ·rw [ea,J9]
    exact(HQ ok hk e hc.1 ea hj).symm
  ·rename_i hc
   exact(vg e hc).symm
theorem BT:∀ w∈(["gap","ink"]:List Str),w∈bf/\qq w=true:=by decide +kernel
theorem JF{w:Str}(h1:w≠"gap")(h2:w≠"ink"):qq w=false:=by
 unfold qq;rw [beq_eq_false_iff_ne.mpr h1,beq_eq_false_iff_ne.mpr h2]; rfl
theorem NK{K:i3}{H:Hp}{f:Str->V}{g:Str->Tr}{x:Str}{v:V}{t:Tr}(h:∀ w∈bf,kD K H (g w) (f w))(hv:kD K H t v):∀ w∈bf,kD K H (cJ g x t w) (cJ f x v w):=fun w hw=>by
 unfold cJ;by_cases c:w=x
 ·rw [if_pos c,if_pos c]; exact hv
 ·rw [if_neg c,if_neg c]; exact h w hw
theorem NoL.put{g:Str->Tr}(h:∀ w,NoL (g w)){x:Str}{t:Tr}(ht:NoL t)(w:Str):NoL (cJ g x t w):=by
 unfold cJ; split
 ·exact ht
 ·exact h w
theorem RlsAt.ix{K:i3}{H:Hp}{rl:Addr}{rs:List Ra}(h:RlsAt H rl rs){j:Nat}(hj:j < rs.length){Q:VK}(q:Q (.ref (rD rs j).a) H):rIx K (.ref rl) (.int (j:Int)) H Q:=by
 rcases h.sq with e | e
 ·exact .inl ⟨rl,zQc,.of e,bA (EZ hj),q⟩
 ·exact .inr (.inl ⟨rl,zQc,.of e,bA (EZ hj),q⟩)
def Et (K:i3)(A:Adr):Sp:=fun vs H Q _ => ∃(rl wl sd:Addr) (xs:List Lr) (c:Cn) (k:Nat) (as:List Addr) (rs:List Ra) (kvs:List (Key×V)),vs=[.ref rl,.ref wl,.ref sd]/\RlsAt H rl rs/\RwsOk c xs/\k < xs.length/\WayAt H xs wl k as/\Tt A H/\H sd=some (.dK kvs) /\
 (∀ j,k∈ay xs j->∃ pd,cm kvs (.inr (cn xs j).name)=some (.ref pd)/\qk K H pd (gOf xs rs j)) /\
 ∀(d:Addr) (H':Hp),Kn H H'->Tt A H'->H d=none->qk K H' d (gOf xs rs k)->Q (.ref d) H'
seal PE PS PSs L2.PA PT PI PG in
theorem zc(T:Txt K mg A)(hw:A.wd=w)(hC:E3 base A.cC A.cT)(hbm:base.BuiltinsAt mg A.cT)(hC2:E3 base A.cC2 A.cT2)(hbm2:base.BuiltinsAt mg A.cT2):FnOk P w K mg base CX0 7 A.ul A.ue jG (Et K A):=by
 have uZ:=(rX (P:=P) (w:=w) (base:=base) T hw).mono (show 1<=6 by decide)
 have xM:=uU (P:=P) (w:=w) (base:=base) T hC hbm hC2 hbm2;obtain⟨kN,wQ,hgd⟩:=T.fN
 exists T.ji.F.ok dL
 ·obtain⟨rl,wl,sd,xs,c,k,as,rs,kvs,rfl,_⟩:=h; rfl
 obtain⟨rl,wl,sd,xs,c,k,as,rs,kvs,rfl,R,ok,hk,W,tt,esd,par,q⟩:=h;refine⟨_,@ah _ _ _ _ _ (aR (i:=3) dL.nd rfl (m9 rfl) (ES uZ hr rfl T.fG.m T.fG.F.kp T.fG.b .nil au))
  (@ah _ _ _ _ _ (bc (aB oM (aq aG rfl T.bM bT (aa (pv 1) ae)) ag (aJ _)) (ak (dZ F7 rfl (Fx (bi rfl wQ (v:=.ref kN) rfl)) (aN (i:=4) dL.nd rfl (m9 rfl)) (ak (rj (gk hr) (pv 3) (pv 4) (fH (gk hr) (fH (gk hr) (pv 2) (aA aP (aA aY (pv 1) (vb pW ag) (fun _ _=>rfl)) ag (fun _ _=>rfl)) (fun _ _=>rfl)) (pv 4) (fun _ _=>rfl)) rfl)))) aE)
  (@ah _ _ _ _ _ (dZ F7 rfl (oI (b9 xM hr rfl T.gw (aa (pv 0) (aa (pv 1) ae)))) (aN (i:=5) dL.nd rfl (m9 rfl)) (ak (dZ F7 rfl (Fx (aA aP (aA Nt (pv 0) (pv 5) (fun _ _=>rfl)) ag (fun _ _=>rfl))) (xD rfl (fM (aN (i:=4) dL.nd rfl (m9 rfl)) (fM (aN (i:=6) dL.nd rfl (m9 rfl)) qZ))) (ak (rj (gk hr) (pv 3) (pv 4) (pv 6) rfl)))))
  (ak (ar (pv 3))))),?_⟩
 have exk:xs[k]? = some xs[k]:=i5 hk;refine⟨rfl,fun d x y hd hx hy=>?_⟩;have s1:=ai hd (.dK (fnL (plF x y)));have e1:upd H d (.dK (fnL (plF x y))) d=some (.dK (fnL (plF x y))):=af;have tt1:=tt.same s1;generalize upd H d (.dK (fnL (plF x y)))=H1 at s1 e1 tt1 ⊢;dsimp only [bC];show Ec _ _ _ _ _;refine Eu (fun σ' H' => ∃(v4:Option V) (f:Str->V),σ'=[some (.ref rl),some (.ref wl),some (.ref sd),some (.ref d),v4,none,none]/\Kn H H'/\Tt A H'/\H' d=some (.dK (fnL f))/\∀ w∈bf,kD K H' (g0 xs rs k w) (f w)) (fun N hN=>?_) ?_
 ·have ew:=s1 _ _ W.lst
  refine⟨zQa,wl,zQa,.inl (.of ew),zQb,zQa,?_⟩;rw [i4,W.bxs.len];rcases CT ok hk with ⟨ab,e,es⟩ | ⟨j,hj,ab,hm,e,es⟩
  ·refine aI (decide_eq_false (by rw [e]; show ¬ (1:Int) < 1; decide)) ?_
   refine hN _ _ ⟨none,plF x y,rfl,Kn.of s1,tt1,e1,fun w hw=>?_⟩;unfold g0;rw [if_neg (by rw [ab]; intro z; exact absurd z.2 (by decide))]
   exact zz hx hy w hw
  ·obtain⟨pj,ej⟩:=zi ok (show j < xs.length by omega)
   refine aM (decide_eq_true (by rw [e,ej,A2,A2]; simp; omega)) ?_
   obtain⟨pd,epd,fp,efp,pvp⟩:=par j hm;have hb:=W.bxs;rw [e] at hb;obtain⟨as1,a,rfl,hb1,ha⟩:=hb.last;rw [ej] at hb1;obtain⟨as2,b,rfl,hb2,hbb⟩:=hb1.last;rw [j6,j6] at ew;have exj:xs[j]? = some xs[j]:=i5 (by omega)
   obtain⟨tgb,ksb,asb,b1,b2,b3,b4⟩:=hbb.row ok exj;have en:(cn xs j).name=xs[j].r.name:=by rw [gs exj]
   rw [en] at epd;have nd:∀ b o,H b=some o->b≠d:=fun b o e=>aH e hd;refine⟨kN,rfl,⟨_,kh hgd _⟩,CW (K:=K) (a:=kN) (xs:=[V.str "gap",V.str "ink"]) (fun i σ H' => ∃(v4:Option V) (f:Str->V),σ=[some (.ref rl),some (.ref wl),some (.ref sd),some (.ref d),v4,none,none]/\(∀ b o,b≠d->H b=some o->H' b=some o)/\Tt A H'/\H' d=some (.dK (fnL f))/\f=((["gap","ink"]:List Str).take i).foldl (fun f w=>cJ f w (fp w)) (plF x y))
    ⟨none,plF x y,rfl,fun b o _ e=>s1 _ _ e,tt1,e1,rfl⟩ (fun i σ H' _ _=>kh hgd _) ?_ ?_⟩
   ·rintro i v σ H2 hv ⟨v4,f,rfl,k2,tt2,e2,ef⟩
    obtain⟨wd,rfl,hwd,et⟩:∃ wd:Str,v = .str wd/\wd∈(["gap","ink"]:List Str)/\(["gap","ink"]:List Str)[i]? = some wd:=by
     match i,hv with
     | 0,hv=>cases hv; exact⟨"gap",rfl,by simp,rfl⟩
     | 1,hv=>cases hv; exact⟨"ink",rfl,by simp,rfl⟩
     | i + 2,hv=>simp at hv
    obtain⟨hp,_⟩:=BT wd hwd;have ew2:=k2 _ _ (nd _ _ W.lst) W.lst;rw [j6,j6] at ew2;refine⟨zQa,zQa,zQa,wl,zQc,.of ew2,FX,b,zQc,.of (k2 _ _ (nd _ _ b1) b1),rfl,sd,zQa,Hb (k2 _ _ (nd _ _ esd) esd) epd,zQa,pd,zQa,Hb (k2 _ _ (nd _ _ efp) efp) (Kl hp),zQa,zQa,d,zQa,HK e2 (by rw [Ce]; decide),?_⟩
    rw [Cc hp];refine⟨_,cJ f wd (fp wd),rfl,fun b o n e=>by rw [am n]; exact k2 b o n e,tt2.updD e2,af,?_⟩
    rw [B7,et,X3,<- ef]; rfl
   ·rintro σ H2 ⟨v4,f,rfl,k2,tt2,e2,ef⟩
    refine hN _ _ ⟨v4,f,rfl,Kn.of fun b o e=>k2 b o (nd b o e) e,tt2,e2,fun w hw=>?_⟩;have ab':0<=(cn xs k).about:=by rw [ab]; omega
    have ef':f=cJ (cJ (plF x y) "gap" (fp "gap")) "ink" (fp "ink"):=ef;rw [ef'];have kp2:Kn H H2:=Kn.of fun b o e=>k2 b o (nd b o e) e;have down:∀ w,qq w=true->w∈bf->kD K H2 (g0 xs rs k w) (fp w):=fun w h1 h2=>by
     unfold g0;rw [if_pos ⟨h1,ab'⟩,ab,J9];exact(pvp w h2).kn kp2 (mI R.g _ _ w)
    unfold cJ;by_cases c2:w="ink"
    ·rw [if_pos c2,c2]; exact down _ (by decide +kernel) (by decide +kernel)
    ·rw [if_neg c2]
     by_cases c1:w="gap"
     ·rw [if_pos c1,c1]; exact down _ (by decide +kernel) (by decide +kernel)
     ·rw [if_neg c1]
      unfold g0;rw [if_neg (by rw [JF c1 c2]; intro z; exact absurd z.1 (by decide))]
      exact zz hx hy w hw
 ·rintro σ H2 ⟨v4,f,rfl,k2,tt2,e2,pv2⟩
  refine⟨zQa,zQa,rl,wl,xs,c,k,as,rs,rfl,R.kn k2,ok,hk,k2.way W,tt2,fun l zs H3 k3 tt3 el o=>?_⟩;have nld:l≠d:=fun z=>by rw [z,k3.dK e2] at el; cases el
  have k3':=k2.trans k3;have nolG:=NA R.g (xs:=xs) (k:=k);have pv3:∀ w∈bf,kD K H3 (g0 xs rs k w) (f w):=fun w hw=>(pv2 w hw).kn k3 (nolG w);have zl:∀ i z,zs[i]? = some z->z < rs.length:=fun i z e=>rf (o.perm.mem_iff.mp (C5 e));have nolR:∀(us:List Nat),(∀ z∈us,z < rs.length)->∀ w,NoL (fk Sa.t rs us (g0 xs rs k) w):=fun us hu w=>by
   rw [vF R.g us hu];split
   ·exact Fm R.g _ w
   ·exact nolG w
  refine⟨l,rfl,⟨_,.of el⟩,kq (K:=K) (a:=l) (xs:=zs.map fun z:Nat=>V.int (z:Int)) (fun i σ H' => ∃(v4 v5 v6:Option V) (f:Str->V),σ=[some (.ref rl),some (.ref wl),some (.ref sd),some (.ref d),v4,v5,v6]/\Kn H H'/\Tt A H'/\H' l=some (.lst (zs.map fun z:Nat=>V.int (z:Int)))/\H' d=some (.dK (fnL f))/\∀ w∈bf,kD K H' (fk Sa.t rs (zs.take i) (g0 xs rs k) w) (f w))
   ⟨v4,none,none,f,rfl,k3',tt3,el,k3.dK e2,pv3⟩ (fun i σ H' _ ⟨_,_,_,_,_,_,_,e,_⟩=>.of e) ?_ ?_⟩
  ·rintro i v σ H4 hv ⟨v4,v5,v6,f,rfl,k4,tt4,el4,e4,pv4⟩
   rw [o0] at hv;cases ez:zs[i]? with
   | none=>rw [ez] at hv; cases hv
   | some z =>
   rw [ez] at hv;cases hv;have hz:=zl i z ez;have R4:=R.kn k4;have r4:=R4.ra _ (nB hz);have gz:=R.g _ (nB hz);have uz:∀ y∈zs.take i,y < rs.length:=fun y hy=>rf (o.perm.mem_iff.mp (R0 hy));refine⟨_,rfl,_,rfl,R4.ix hz ⟨(rD rs z).a,_,_,_,rfl,rfl,.of r4.rule,rfl,(rD rs z).sl,rfl,⟨_,.of r4.sets⟩,CW (K:=K) (a:=(rD rs z).sl) (xs:=(rD rs z).ss.map fun s=>V.ref s.p) (fun m σ H' => ∃(v4 v6:Option V) (f:Str->V),σ=[some (.ref rl),some (.ref wl),some (.ref sd),some (.ref d),v4,some (.int (z:Int)),v6]/\Kn H H'/\Tt A H'/\H' l=some (.lst (zs.map fun z:Nat=>V.int (z:Int)))/\H' d=some (.dK (fnL f))/\∀ w∈bf,kD K H' (mC Sa.t ((rD rs z).ss.take m) (fk Sa.t rs (zs.take i) (g0 xs rs k)) w) (f w))
    ⟨_,_,f,rfl,k4,tt4,el4,e4,pv4⟩ (fun m σ H' _ ⟨_,_,_,_,k,_⟩=>.of ((R.kn k).ra _ (nB hz)).sets) ?_ ?_⟩⟩
   ·rintro m v σ H5 hv ⟨v4,v6,f,rfl,k5,tt5,el5,e5,pv5⟩
    rw [o0] at hv;cases es:(rD rs z).ss[m]? with
    | none=>rw [es] at hv; cases hv
    | some s =>
    rw [es] at hv;cases hv;have hs:=C5 es;obtain⟨es1,es2⟩:=((R.kn k5).ra _ (nB hz)).set s hs;obtain⟨hp,hvt⟩:=Ra.sets_ok gz hs;refine⟨s.p,zQa,.of es1,rfl,_,zQa,zQb,?_⟩;refine⟨zQa,zQa,zQa,d,zQa,HK e5 (by rw [Ce]; decide),?_⟩
    rw [Cc (Ew hp)];refine⟨_,_,cJ f s.w s.v,rfl,k5.set hd _,tt5.updD e5,by rw [am nld]; exact el5,af,fun w hw=>?_⟩
    have tp:=Ag (o:=.dK (fnL (cJ f s.w s.v))) e5;have e6:mC Sa.t ((rD rs z).ss.take (m + 1)) (fk Sa.t rs (zs.take i) (g0 xs rs k))=cJ (mC Sa.t ((rD rs z).ss.take m) (fk Sa.t rs (zs.take i) (g0 xs rs k))) s.w s.t:=by
     unfold mC;rw [B7,es,X3]; rfl
    rw [e6];have nolM:∀(l:List Sa),(∀ x∈l,x∈(rD rs z).ss)->∀(G:Str->Tr),(∀ w,NoL (G w))->∀ w,NoL (mC Sa.t l G w):=by
     intro l
     induction l with
     | nil=>intro _ G hG w; exact hG w
     | cons x l ih=>intro hl G hG w; exact ih (fun y hy=>hl y (u9 _ hy)) _ (NoL.put hG (mj (Ra.sets_ok gz (hl x (l8 ..))).2)) w
    have nolC:=nolM ((rD rs z).ss.take m) (fun x hx=>R0 hx) _ (nolR _ uz);exact(NK pv5 (.inl es2) w hw).tp tp (NoL.put nolC (mj hvt) w)
   ·rintro σ H5 ⟨v4,v6,f,rfl,k5,tt5,el5,e5,pv5⟩
    refine⟨_,_,_,f,rfl,k5,tt5,el5,e5,fun w hw=>?_⟩;have:=pv5 w hw;rw [i4,B5] at this;have e6:fk Sa.t rs (zs.take (i + 1)) (g0 xs rs k)=mC Sa.t (rD rs z).ss (fk Sa.t rs (zs.take i) (g0 xs rs k)):=by
     unfold fk;rw [B7,ez,X3]; rfl
    rw [e6]; exact this
  ·rintro σ H4 ⟨v4,v5,v6,f,rfl,k4,tt4,el4,e4,pv4⟩
   rw [i4,B5] at pv4;refine⟨zQa,q d H4 k4 tt4 hd ⟨f,e4,fun w hw=>?_⟩⟩;rw [<- Ku ok R.g hk o w];exact pv4 w hw
theorem BN{c:Cn}{xs:List Lr}(h:RwsOk c xs):∀ {n i j:Nat},i∈od xs n j->∃ s,dG xs i=dG xs j ++ s
 | 0,_,_,hi=>by cases hi
 | n + 1,i,j,hi=>by
  rcases l6.mp hi with rfl | hi
  ·exact⟨[],by simp⟩
  ·obtain⟨l,hl,hi⟩:=G9.mp hi
   obtain⟨m,hm,rfl⟩:=w8.mp hl;obtain⟨s,e⟩:=BN h hi;rw [cF h hm,K0] at e;exact⟨_,e⟩
theorem KN{c:Cn}{xs:List Lr}(h:RwsOk c xs):∀ {n i j:Nat},j < xs.length->i∈od xs n j->j<=i/\i < xs.length
 | 0,_,_,_,hi=>by cases hi
 | n + 1,i,j,hj,hi=>by
  rcases l6.mp hi with rfl | hi
  ·omega
  ·obtain⟨l,hl,hi⟩:=G9.mp hi
   obtain⟨m,hm,rfl⟩:=w8.mp hl;obtain⟨a,b⟩:=aQ h hm;have:=KN h b hi;omega
theorem EY{c:Cn}{xs:List Lr}(h:RwsOk c xs):∀(n j:Nat),j < xs.length->(od xs n j).Nodup
 | 0,_,_=>Y0
 | n + 1,j,hj=>by
  show(j :: ((ay xs j).map (od xs n)).flatten).Nodup;rw [G7];refine⟨fun hm=>?_,yd (fun x hx=>EY h n x (aQ h hx).2) ((pE xs j).imp fun a=>w6 a) fun x hx y hy hne z hz hz2=>?_⟩
  ·obtain⟨l,hl,hi⟩:=G9.mp hm
   obtain⟨m,hm,rfl⟩:=w8.mp hl;obtain⟨a,b⟩:=aQ h hm;have:=KN h b hi;omega
  ·obtain⟨s1,e1⟩:=BN h hz
   obtain⟨s2,e2⟩:=BN h hz2;rw [cF h hx,K0] at e1;rw [cF h hy,K0,e1] at e2;have e3:=ai1 e2;injection e3 with e4 _
   exact hne e4
def Bf (L:List Nat)(j k:Nat):Prop := ∃ p s,L=p ++ k :: s/\j∈p
theorem Bf.in{L:List Nat}{j k:Nat}(h:Bf L j k)(a b:List Nat):Bf (a ++ L ++ b) j k:=by
 obtain⟨p,s,rfl,hj⟩:=h;exact⟨a ++ p,s ++ b,by simp,C3 _ hj⟩
theorem JE{L:List Nat}{i j k:Nat}(nd:L.Nodup)(e:L[i]? = some k)(h:Bf L j k):j∈L.take i:=by
 obtain⟨p,s,rfl,hj⟩:=h;have e2:(p ++ k :: s)[p.length]? = some k:=by simp
 have hi:=(r9.mp e).1;have:i=p.length:=(aj2 hi nd).mp (by rw [e,e2])
 rw [this,List.take_left]; exact hj
theorem Mh{c:Cn}{xs:List Lr}(h:RwsOk c xs):∀(n r j k:Nat),k∈od xs n r->k≠r->k∈ay xs j->Bf (od xs n r) j k
 | 0,_,_,_,hk,_,_=>by cases hk
 | n + 1,r,j,k,hk,hr,hj=>by
  rcases l6.mp hk with hk | hk
  ·exact absurd hk hr
  ·obtain⟨l,hl,hi⟩:=G9.mp hk
   obtain⟨m,hm,rfl⟩:=w8.mp hl;obtain⟨u,v,e⟩:=List.append_of_mem hm;have eF:od xs (n + 1) r=(r :: (u.map (od xs n)).flatten) ++ od xs n m ++ (v.map (od xs n)).flatten:=by
    show r :: ((ay xs r).map (od xs n)).flatten=_;rw [e]; simp
   rw [eF];by_cases hkm:k=m
   ·subst hkm
    have ejr:j=r:=by
     obtain⟨x,hx,ex⟩:=cA.mp hj;obtain⟨y,hy,ey⟩:=cA.mp hm;rw [hx] at hy; cases hy; omega
    obtain⟨q,eq⟩:∃ q,od xs n k=k :: q:=by
     cases n with
     | zero=>cases hi
     | succ n=>exact⟨zQa⟩
    exact⟨r :: (u.map (od xs n)).flatten,q ++ (v.map (od xs n)).flatten,by rw [eq]; simp,by rw [ejr]; exact l8 ..⟩
   ·exact(Mh h n m j k hi hkm hj).in _ _
theorem yC{c:Cn}{xs:List Lr}(h:RwsOk c xs)(h0:0 < xs.length){i j k:Nat}(e:(bp xs 0)[i]? = some k)(hj:k∈ay xs j):j∈(bp xs 0).take i:=by
 have hm:=C5 e;have hk0:k≠0:=by have:=(aQ h hj).1; omega
 exact JE (EY h _ 0 h0) e (Mh h _ 0 j k hm hk0 hj)
theorem xq{c:Cn}{xs:List Lr}(h:RwsOk c xs)(h0:0 < xs.length):(bp xs 0).Nodup:=EY h _ 0 h0
theorem xO{c:Cn}{xs:List Lr}(ok:RwsOk c xs){i j:Nat}(hi:i < xs.length)(hj:j < xs.length)(e:(cn xs i).name=(cn xs j).name):i=j:=by
 have n12:=ok.n;have ei:xs[i]? = some xs[i]:=i5 hi;have ej:xs[j]? = some xs[j]:=i5 hj;rw [gs ei,gs ej,(ok.row i _ ei).name,(ok.row j _ ej).name] at e;exact wI (by omega) (by omega) e
def dsL (xs:List Lr)(ds:List (Nat×Addr)):List (Key×V):=ds.map fun p=>((i0 (cn xs p.1).name:Key),V.ref p.2)
theorem EL{c:Cn}{xs:List Lr}(ok:RwsOk c xs):∀ {ds:List (Nat×Addr)} {j:Nat} {pd:Addr},(∀ p∈ds,p.1 < xs.length)->(ds.map (·.1)).Nodup->(j,pd)∈ds->cm (dsL xs ds) (.inr (cn xs j).name)=some (.ref pd)
 | [],_,_,_,_,h=>by cases h
 | p :: ds,j,pd,hl,nd,h=>by
  rw [u6,G7] at nd;rcases l6.mp h with rfl | h
  ·exact fK rfl
  ·have hne:p.1≠j:=fun z=>nd.1 (w8.mpr ⟨_,h,z.symm⟩)
   have e:dsL xs (p :: ds)=((i0 (cn xs p.1).name:Key),V.ref p.2) :: dsL xs ds:=rfl;rw [e,eC (fun z=>hne (xO ok (hl p (l8 ..)) (hl _ (u9 _ h)) (by injection z)))]
   exact EL ok (fun q hq=>hl q (u9 _ hq)) nd.2 h
theorem wt{c:Cn}{xs:List Lr}(ok:RwsOk c xs){j:Nat}(hj:j < xs.length):∀ {ds:List (Nat×Addr)},(∀ p∈ds,p.1 < xs.length)->j ∉ ds.map (·.1)->cm (dsL xs ds) (.inr (cn xs j).name)=none
 | [],_,_=>rfl
 | p :: ds,hl,h=>by
  rw [u6,l6,not_or] at h;have e:dsL xs (p :: ds)=((i0 (cn xs p.1).name:Key),V.ref p.2) :: dsL xs ds:=rfl;rw [e,eC (fun z=>h.1 (xO ok (hl p (l8 ..)) hj (by injection z)).symm)]
  exact wt ok hj (fun q hq=>hl q (u9 _ hq)) h.2
def NM:Sp:=fun vs H Q _ => ∃(v:V) (t:Tr),vs=[v]/\TrAt H t v/\By t=true/\∀ H',aS H H'->Q .non H'
theorem wF(T:Txt K mg A):FnOk P w K mg base CX0 6 A.gj A.fZ cE NM :=
 FnOk.calm (pR T) fun vs H Q E ⟨v,t,e,h,d,q⟩=>⟨v,t,e,h,fun _=>q,fun z=>by rw [d] at z; cases z⟩
def Ft:Sp:=fun vs H Q _ => ∃(v:V) (t:Tr),vs=[v]/\TrAt H t v/\pY t=true/\∀ H',aS H H'->Q .non H'
theorem sk(T:Txt K mg A)(hw:A.wd=w):FnOk P w K mg base CX0 8 A.jD A.jz dX Ft :=
 FnOk.calm (uM T hw) fun vs H Q E ⟨v,t,e,h,d,q⟩=>⟨v,t,e,h,fun _=>q,fun z=>by rw [d] at z; cases z⟩
def Nx:Sp:=fun vs H Q _ => ∃(d:Addr) (xs:List Lr) (c:Cn) (k:Nat),vs=[.ref d,.str (nm c k)]/\RwsOk c xs/\IsBx H d (kr xs 0)/\k < xs.length/\∀(l:Addr) (as:List Addr) (H':Hp),H l=none->aS H H'->H' l=some (.lst (as.map V.ref))->fU xs H' as (dG xs k)->Q (.ref l) H'
theorem Jk(T:Txt K mg A):FnOk P w K mg base CX0 1 A.rJ A.um kB Nx :=
 FnOk.calm (oP T) fun vs H Q E ⟨d,xs,c,k,e,ok,hd,hk,q⟩=>⟨d,_,xs,c,e,ok,by omega,hd,.inl ⟨k,rfl,hk,q⟩⟩
structure ShsAt(K:i3)(xs:List Lr)(rs:List Ra)(H0 H:Hp)(D:Addr)(ds:List (Nat×Addr)):Prop where
 ad:H D=some (.dK (dsL xs ds))
 it:∀ p∈ds,H0 p.2=none/\p.2≠D/\qk K H p.2 (gOf xs rs p.1)
def HN (K:i3)(A:Adr):Sp:=fun vs H Q _ => ∃(dc rl:Addr) (xs:List Lr) (c:Cn) (rs:List Ra),vs=[.ref dc,.ref rl]/\RlsAt H rl rs/\RwsOk c xs/\0 < xs.length/\IsBx H dc (kr xs 0)/\Tt A H /\
 ∀(D:Addr) (ds:List (Nat×Addr)) (H':Hp),Kn H H'->Tt A H'->H D=none->ds.map (·.1)=bp xs 0->ShsAt K xs rs H H' D ds->Q (.ref D) H'
seal PE PS PSs L2.PA PT PI PG in
theorem ya(T:Txt K mg A)(hw:A.wd=w)(hC:E3 base A.cC A.cT)(hbm:base.BuiltinsAt mg A.cT)(hC2:E3 base A.cC2 A.cT2)(hbm2:base.BuiltinsAt mg A.cT2):FnOk P w K mg base CX0 9 A.qo A.qB ip (HN K A):=by
 have qT:=(wF (P:=P) (w:=w) (base:=base) T).mono (show 6<=8 by decide)
 have wX:=sk (P:=P) (w:=w) (base:=base) T hw;have nI:=(qA (P:=P) (w:=w) (base:=base) T).mono (show 1<=8 by decide)
 have kj:=(Jk (P:=P) (w:=w) (base:=base) T).mono (show 1<=8 by decide)
 have BP:=(zc (P:=P) (w:=w) (base:=base) T hw hC hbm hC2 hbm2).mono (show 7<=8 by decide)
 exists T.iz.F.ok jy
 ·obtain⟨dc,rl,xs,c,rs,rfl,_⟩:=h; rfl
 obtain⟨dc,rl,xs,c,rs,rfl,R,ok,h0,bx,tt,q⟩:=h;refine⟨_,@ah _ _ _ _ _ (bB (b9 qT hr rfl T.dr (aa (pv 0) ae)))
  (@ah _ _ _ _ _ (bB (b9 wX hr rfl T.gy (aa (pv 1) ae)))
  (@ah _ _ _ _ _ (aR (i:=2) jy.nd rfl (m9 rfl) yS)
  (@ah _ _ _ _ _ (dZ F7 rfl (oI (b9 nI hr rfl T.dy (aa (pv 0) ae))) (aN (i:=3) jy.nd rfl (m9 rfl)) (ak (rj (gk hr) (pv 2) (aA aP (pv 3) ag (fun _ _=>rfl)) (b9 BP hr rfl T.ji (aa (pv 1) (aa (b9 kj hr rfl T.dm (aa (pv 0) (aa (aA aP (pv 3) ag (fun _ _=>rfl)) ae))) (aa (pv 2) ae)))) rfl)))
  (ak (ar (pv 2)))))),?_⟩
 refine⟨zQa,_,tOf xs 0,rfl,KD ok _ 0 dc (i6 _) h0 bx,Hl ok h0,fun H1 s1=>?_⟩;have R1:=R.kn (Kn.of s1);obtain⟨t,ht,hrt⟩:=R1.rules;refine⟨zQa,_,t,rfl,ht,hrt,fun H2 s2=>?_⟩;have s12:=s1.trans s2;intro D hD;have s3:=ai hD (.dK ([]:List (Key×V)));have e3:upd H2 D (.dK ([]:List (Key×V))) D=some (.dK (dsL xs [])):=af;have s13:=s12.trans s3;have hD0:H D=none:=rC s12 hD;generalize upd H2 D (.dK ([]:List (Key×V)))=H3 at s3 e3 s13 ⊢;refine⟨zQa,dc,xs,c,0,rfl,ok,h0,bx.same s13,fun l as H4 hl s4 el bl=>?_⟩;have s14:=s13.trans s4;have lod:=Kj ok h0;have hl0:H l=none:=rC s13 hl;refine⟨l,rfl,⟨_,.of el⟩,kq (K:=K) (a:=l) (xs:=as.map V.ref) (fun i σ H' => ∃(v3:Option V) (ds:List (Nat×Addr)),σ=[some (.ref dc),some (.ref rl),some (.ref D),v3]/\Kn H H'/\Tt A H'/\H' l=some (.lst (as.map V.ref))/\fU xs H' as (bp xs 0)/\ds.map (·.1)=(bp xs 0).take i/\ShsAt K xs rs H H' D ds)
  ⟨none,[],rfl,Kn.of s14,tt.same s14,el,bl,rfl,s4 _ _ e3,fun p hp=>nomatch hp⟩ (fun i σ H' _ ⟨_,_,_,_,_,e,_⟩=>.of e) ?_ ?_⟩
 ·rintro i v σ H5 hv ⟨v3,ds,rfl,k5,tt5,el5,bl5,eds,S5⟩
  rw [o0] at hv;cases ea:as[i]? with
  | none=>rw [ea] at hv; cases hv
  | some a =>
  rw [ea] at hv;cases hv;have hi:i < (bp xs 0).length:=by rw [<- bl5.len]; exact(r9.mp ea).1
  have ek:(bp xs 0)[i]? = some (bp xs 0)[i]:=i5 hi;generalize hkk:(bp xs 0)[i]=k at ek;have hk:k < xs.length:=(jN ok _ 0 (i6 _) h0 k (C5 ek)).2;have exk:xs[k]? = some xs[k]:=i5 hk;obtain⟨tg,ks,ks',b1,b2,b3,b4⟩:=(bl5.get ea ek).row ok exk;have enm:xs[k].r.name=nm c k:=(ok.row k _ exk).name;have hds:∀ p∈ds,p.1 < xs.length:=fun p hp=>by
   have:p.1∈(bp xs 0).take i:=by rw [<- eds]; exact w8.mpr ⟨p,hp,rfl⟩
   exact(jN ok _ 0 (i6 _) h0 _ (R0 this)).2
  have ndd:(ds.map (·.1)).Nodup:=by rw [eds]; exact(xq ok h0).sublist (am1 _ _)
  refine⟨zQa,zQa,zQa,a,zQc,.of b1,rfl,dc,xs,c,k,congrArg (fun z=>[V.ref dc,V.str z]) enm,ok,k5.bx bx,hk,fun wl ws H6 hwl s6 ew bw=>?_⟩;have k6:=k5.trans (Kn.of s6);refine⟨zQa,rl,wl,D,xs,c,k,ws,rs,dsL xs ds,rfl,R.kn k6,ok,hk,⟨ew,bw⟩,tt5.same s6,s6 _ _ S5.ad,fun j hj=>?_,fun d H7 k7 tt7 hd sh=>?_⟩
  ·have hjm:j∈ds.map (·.1):=by rw [eds]; exact yC ok h0 ek hj
   obtain⟨p,hp,rfl⟩:=w8.mp hjm;exact⟨p.2,EL ok hds ndd (show(p.1,p.2)∈ds from hp),(S5.it p hp).2.2.kn (Kn.of s6) (mI R.g _ _)⟩
  ·have k7':=k6.trans k7
   have kno:k ∉ ds.map (·.1):=fun z=>by
    rw [eds] at z;obtain⟨m,hm,em⟩:=af7.mp z;have hm':m < i:=by rw [A0] at hm; omega
    have em':(bp xs 0)[m]? = some k:=by rw [List.getElem_take] at em; rw [i5 (by omega),em]
    have:=(aj2 (by omega) (xq ok h0)).mp (em'.trans ek.symm)
    omega
   have e7:=k7.dK (s6 _ _ S5.ad);have b7:=k7.tup (s6 _ _ b1);have len:(dsL xs ds).length < 5000:=by
    have:=congrArg Q2 eds;rw [i4,A0] at this;show(ds.map _).length < 5000;rw [i4]; omega
   have enr:xs[k].r.name=(cn xs k).name:=by rw [gs exk]
   refine⟨zQa,zQa,a,zQc,.of b7,rfl,D,zQa,zx.k (k:=.inr xs[k].r.name) e7 (A9 len (by decide)),?_⟩
   rw [enr,tT _ (wt ok hk hds kno)];have tp:=Ag (o:=.dK (dsL xs ds ++ [((i0 (cn xs k).name:Key),V.ref d)])) e7;have nDd:d≠D:=fun z=>by rw [z,s6 _ _ S5.ad] at hd; cases hd
   have up:∀ {p:Addr} {g:Str->Tr},p≠D->(∀ w,NoL (g w))->qk K H7 p g->qk K (upd H7 D (.dK (dsL xs ds ++ [((i0 (cn xs k).name:Key),V.ref d)]))) p g:=fun {p g} hp hn ⟨f,e,pv⟩=>⟨f,by rw [am hp]; exact e,fun w hw=>(pv w hw).tp tp (hn w)⟩
   refine⟨_,ds ++ [(k,d)],rfl,k7'.set hD0 _,tt7.updD e7,?_,?_,?_,?_,fun p hp=>?_⟩
   ·rw [am (fun z=>by have:=k7.lst (s6 _ _ el5); rw [z,e7] at this; cases this)]; exact k7.lst (s6 _ _ el5)
   ·exact(k7.bxs (bl5.same s6)).mono fun _ _ x=>x.tups tp
   ·rw [j6,eds,B7,ek]; rfl
   ·rw [af]; unfold dsL; rw [j6]; rfl
   ·rcases B3.mp hp with hp | hp
    ·obtain⟨a1,a2,a3⟩:=S5.it p hp
     exact⟨a1,a2,up a2 (mI R.g _ _) ((a3.kn (Kn.of s6) (mI R.g _ _)).kn k7 (mI R.g _ _))⟩
    ·rw [A5.mp hp]
     exact⟨k6.there _ hd,nDd,up nDd (mI R.g _ _) sh⟩
 ·rintro σ H5 ⟨v3,ds,rfl,k5,tt5,el5,bl5,eds,S5⟩
  rw [i4,bl5.len,B5] at eds;exact⟨zQa,q D ds H5 k5 tt5 hD0 eds S5⟩
end
end KP
namespace L2
open PySem PySem.W PySem.Spec PySem.Calls PyProof.Rows
theorem HG{y:Str}{cap:List Nat}{σ:St}{H1:Hp}{tt:TT}{te:TE}{Z:List V->Hp->Prop}{lo:Int}{n:Nat}(Pv:Nat->List V->Hp->Prop)(h0:Pv 0 [] H1)(hz:∀ i acc H,Pv i acc H->acc.length < sizeLine)
  (step:∀ i acc H (R:List V->Hp->Prop),(∀ acc' H',Pv (i + 1) acc' H'->R acc' H')->i < n->Pv i acc H->tt ((eX [y] cap σ).set 0 (some (.int (lo + (i:Int))))) H fun b H5=>if b=true then te ((eX [y] cap σ).set 0 (some (.int (lo + (i:Int))))) H5 fun v H6=>R (acc ++ [v]) H6 else R acc H5)
  (hd:∀ acc H,Pv n acc H->Z acc H):oU [y] cap (bC 0) tt te σ Z (Itr lo n) H1:=by
 refine⟨fun i m acc H=>m=n - i/\i<=n/\Pv i acc H,⟨zQa,x5 _,h0⟩,?_⟩;rintro i m acc H ⟨rfl,hi,p⟩;refine⟨hz i acc H p,?_⟩;by_cases hlt:i < n
 ·refine .inr ⟨hlt,fun x H3 yl=>?_⟩
  obtain⟨e,yx⟩:=yl;subst e;subst yx;exact⟨sU y cap σ _,step i acc H3 (fun acc' H' => ∃ m',m' < n - i/\m'=n - (i + 1)/\i + 1<=n/\Pv (i + 1) acc' H') (fun acc' H' p'=>⟨_,by omega,rfl,hlt,p'⟩) hlt p⟩
 ·have e:i=n:=by omega
  subst e;exact .inl ⟨i6 _,hd acc H p⟩
end L2
namespace KP
open PySem L2 PyProof.Rows
open WM (J bl ls)
def iP (xs:List Lr)(k j:Nat):Bool:=match xs[j]? with | some x=>x.r.about == (k:Int) | none=>false
theorem zt{xs:List Lr}{k j:Nat}{x:Lr}(h:xs[j]? = some x):iP xs k j=(x.r.about == (k:Int)):=by unfold iP; rw [h]
structure Tab(H:Hp)(c:Cn)(xs:List Lr)(kl al nl ml:Addr):Prop where
 k:H kl=some (.lst (xs.map fun x=>V.str x.r.kind))
 a:H al=some (.lst (.non :: (xs.drop 1).map fun x=>V.int x.r.about))
 n:H nl=some (.lst (xs.map fun x=>V.str x.r.name))
 m:H ml=some (.lst (xs.map fun x=>x.r.more.v))
 t:∀(i:Nat) (x:Lr),xs[i]? = some x->x.r.tags=tgs i (nms c)
theorem Tab.same{H H':Hp}{c:Cn}{xs:List Lr}{kl al nl ml:Addr}(h:Tab H c xs kl al nl ml)(s:aS H H'):Tab H' c xs kl al nl ml:=⟨s _ _ h.k,s _ _ h.a,s _ _ h.n,s _ _ h.m,h.t⟩
theorem MT(k:Nat):("t" : Str) ++ (toString ((k:Int) % 3):Str)=([("t0" : Str),"t1","t2"]).getD ((k:Int) % 3).toNat "t0"/\((k:Int) % 3).natAbs.log2 < 1920/\(toString ((k:Int) % 3):Str).length<=400:=by
 have:=emd (r:=(k:Int)) (show(0:Int) < 3 by decide)
 have h:(k:Int) % 3=0\/(k:Int) % 3=1\/(k:Int) % 3=2:=by omega
 rcases h with e | e | e <;> rw [e] <;> decide +kernel
theorem Es{c:Cn}{xs:List Lr}(ok:RwsOk c xs)(k:Nat):ay xs k=((x6 (xs.length - (k + 1))).map (fun j=>k + 1 + j)).filter (iP xs k):=by
 have e:ay xs k=(x6 xs.length).filter (iP xs k):=rfl;rw [e];by_cases hk:k + 1<=xs.length
 ·have er:x6 xs.length=x6 (k + 1) ++ (x6 (xs.length - (k + 1))).map (fun j=>k + 1 + j):=by
   rw [<- List.range_add]; congr 1; omega
  have h0:(x6 (k + 1)).filter (iP xs k)=[]:=by
   refine aj3.mpr fun j hj z=>?_;have hj':=I0.mp hj;have:j∈ay xs k:=G5.mpr ⟨I0.mpr (by omega),z⟩
   have:=aQ ok this;omega
  rw [er,L7,h0,af6]
 ·have e0:xs.length - (k + 1)=0:=by omega
  rw [e0];refine aj3.mpr fun j hj z=>?_;have:=aQ ok (G5.mpr ⟨hj,z⟩:j∈ay xs k);omega
section
variable {P:i8} {w:i7} {K:i3} {mg:Str→Option g7} {base:Heap} {A:Adr}
abbrev wM:j9:=(match aW gB with | (.Assign _ (.ListComp _ _ sc _) _) :: _=>sc | _=>aj gB)
theorem uT:Blk (aj gB) pH wM ["_law_j"] [0,1,2,3,4]:=⟨rfl,zQd,zQd,zQd,zQd⟩
theorem xl:(cy pH ["_law_j"] [0,1,2,3,4]).Nodup:=by decide +kernel
def wW (n:Nat):Sp:=fun vs H Q _ => ∃(kl al nl ml:Addr) (xs:List Lr) (c:Cn) (k:Nat),vs=[.int (k:Int),.ref kl,.ref al,.ref nl,.ref ml]/\Tab H c xs kl al nl ml/\RwsOk c xs/\k < xs.length/\xs.length - k<=n /\
 ∀(a:Addr) (H':Hp),aS H H'->IsBx H' a (kr xs k)->Q (.ref a) H'
seal PE PS PSs L2.PA PT PI PG in
theorem AA(T:Txt K mg A)(n:Nat)(oT:FnOk P w K mg base CX0 n A.lO A.lM gA (wW n)):FnOk P w K mg base CX0 (n + 1) A.lO A.lM gA (wW (n + 1)):=by
 exists T.fu.F.ok rQ
 ·obtain⟨kl,al,nl,ml,xs,c,k,rfl,_⟩:=h; rfl
 obtain⟨kl,al,nl,ml,xs,c,k,rfl,R,ok,hk,hn,q⟩:=h;have n12:=ok.n;refine⟨_,@ah _ _ _ _ _ (nG (i:=5) uT rfl (vf rfl T.cq (aa (aD bZ (pv 0) ag) (aa (aq aG rfl T.bM bT (aa (pv 1) ae)) ae))) (fun _ _ _ _ _=>aN (i:=0) xl rfl (.inl rfl)) (fun _ _ _ _ _=>jp (aB cB (aA (oE (K:=K) rfl) (pv 3) (pv 0) (fun _ _=>rfl)) (pv 1) (aJ _))) (fun _ _ _ _ _=>b9 oT hr rfl T.fu (aa (pv 0) (aa (pv 2) (aa (pv 3) (aa (pv 4) (aa (pv 5) ae)))))) rQ.nd rfl rfl)
  (ak (ar (bU (aa (aA aY (pv 1) (pv 0) (fun _ _=>rfl)) (aa (aA aY (pv 3) (pv 0) (fun _ _=>rfl)) (aa (bU (aa (aD jw ap (gC oJ rfl T.gQ kz (aa (aD aZ (pv 0) ag) ae))) ae)) (aa (aA aY (pv 4) (pv 0) (fun _ _=>rfl)) (aa (gC mH rfl T.cw eI (aa (pv 5) ae)) ae)))))))),?_⟩
 have eN:((((xs.map fun x=>V.str x.r.kind).length:Nat):Int) - ((k:Int) + 1)).toNat=xs.length - (k + 1):=by rw [i4]; omega
 refine⟨zQa,zQb,zQa,kl,zQa,.inl (.of R.k),_,zQa,⟨by omega,by omega,by rw [i4]; omega,by rw [i4]; omega⟩,?_⟩
 rw [eN];refine HG (n:=xs.length - (k + 1)) (fun j acc H' => ∃ as:List Addr,acc=as.map V.ref/\fU xs H' as (((x6 j).map (fun j=>k + 1 + j)).filter (iP xs k))/\aS H H'/\j<=12)
  ⟨[],rfl,.nil,.refl _,by omega⟩ (fun j acc H' z=>?_) (fun j acc H' N kk hj z=>?_) fun acc H' z=>?_
 ·obtain⟨as,rfl,h1,_,h2⟩:=z
  rw [i4,h1.len];have:=R6 (iP xs k) ((x6 j).map (fun j=>k + 1 + j));rw [i4,R5] at this;exact az (by omega)
 ·obtain⟨as,rfl,h1,s1,h2⟩:=z
  have hj':k + 1 + j < xs.length:=by omega
  have ex:xs[k + 1 + j]? = some xs[k + 1 + j]:=i5 hj';have R1:=R.same s1;have ef:((x6 (j + 1)).map (fun j=>k + 1 + j)).filter (iP xs k)=((x6 j).map (fun j=>k + 1 + j)).filter (iP xs k) ++ (if iP xs k (k + 1 + j) then [k + 1 + j] else []):=by
   rw [T7,j6,L7]
   congr 1
   by_cases e:iP xs k (k + 1 + j) <;> simp [e]
  have ei:(k:Int) + 1 + (j:Int)=((k + 1 + j:Nat):Int):=by omega
  have ea:atI (V.non :: (xs.drop 1).map fun x=>V.int x.r.about) ((k:Int) + 1 + (j:Int))=some (.int xs[k + 1 + j].r.about):=by
   rw [ei];refine bA ?_;have e2:(V.non :: (xs.drop 1).map fun x=>V.int x.r.about)[(k + j) + 1]? = (xs[1 + (k + j)]?).map fun x=>V.int x.r.about:=by rw [List.getElem?_cons_succ,o0,aj4]
   have e3:k + 1 + j=(k + j) + 1:=by omega
   have e4:1 + (k + j)=k + 1 + j:=by omega
   rw [e4,ex] at e2;rw [<- e3] at e2;exact e2
  refine⟨zQa,zQa,al,zQc,.of R1.a,ea,zQa,rfl,zQa,xC (fun c1=>?_) (fun c1=>?_)⟩
  ·have ea:xs[k + 1 + j].r.about=(k:Int):=by
    have:=of_decide_eq_true c1;injection this
   have ek:iP xs k (k + 1 + j)=true:=by rw [zt ex,ea]; simp
   rw [ek,if_pos rfl] at ef;refine⟨zQa,zQa,zQa,zQa,zQa,kl,al,nl,ml,xs,c,k + 1 + j,(by rw [ei]; rfl),R1,ok,hj',by omega,fun a H2 s2 hb=>kk _ _ ⟨as ++ [a],by rw [j6]; rfl,?_,s1.trans s2,by omega⟩⟩
   rw [ef];exact F2.append (h1.same s2) (.one hb)
  ·have ek:iP xs k (k + 1 + j)=false:=by
    rw [zt ex];refine ad0.mpr fun e=>c1 (decide_eq_true ?_);rw [show xs[k + 1 + j].r.about=(k:Int) by simpa using e]
   rw [ek] at ef;exact kk _ _ ⟨as,rfl,by rw [ef]; simpa using h1,s1,by omega⟩
 ·obtain⟨as,rfl,h1,s1,h2⟩:=z
  rw [<- Es ok] at h1;intro l hl;have ex:xs[k]? = some xs[k]:=i5 hk;have e1:upd H' l (.lst (as.map V.ref)) l=some (.lst (as.map V.ref)):=af;have s2:=s1.trans (ai hl (.lst (as.map V.ref)));have h3:=h1.same (ai hl (.lst (as.map V.ref)));generalize upd H' l (.lst (as.map V.ref))=H2 at e1 s2 h3 ⊢;have R2:=R.same s2;have at_:∀ f:Lr->V,atI (xs.map f) (k:Int)=some (f xs[k]):=fun f=>bA (by rw [o0,ex]; rfl)
  obtain⟨t1,t2,t3⟩:=MT k;refine⟨zQa,zQa,kl,zQc,.of R2.k,at_ _,zQa,zQa,nl,zQc,.of R2.n,at_ _,?_⟩;refine⟨zQa,zQb,(by show(0:Int) < 3; decide),(k:Int) % 3,rfl,t2,zQb,aK (by show 1 + (toString ((k:Int) % 3):Str).length<=1000; omega),aK (by simp),fun ta hta=>?_⟩
  have et:("t" : Str) ++ (toString ((k:Int) % 3):Str)=([("t0" : Str),"t1","t2"]).getD ((k:Int) % 3).toNat "t0" := t1;have s3:=ai hta (.tup [V.str (u5 "t" ++ (toString ((k:Int) % 3):Str))]);have e3:upd H2 ta (.tup [V.str (u5 "t" ++ (toString ((k:Int) % 3):Str))]) ta=some (.tup (xs[k].r.tags.map V.str)):=by
   rw [af,R.t k _ ex];show some (HO.tup [V.str (("t" : Str) ++ (toString ((k:Int) % 3):Str))])=_;rw [et]; rfl
  generalize upd H2 ta (.tup [V.str (u5 "t" ++ (toString ((k:Int) % 3):Str))])=H3 at s3 e3 ⊢;have R3:=R2.same s3;refine⟨zQa,zQa,ml,zQc,.of R3.m,at_ _,zQa,l,zQa,.inl ⟨.of (s3 _ _ e1),fun t2 ht2=>⟨aK (by simp),fun a ha=>?_⟩⟩⟩
  have s4:=ai ht2 (.tup (as.map V.ref));have s5:=ai ha (.tup [V.str xs[k].r.kind,.str xs[k].r.name,.ref ta,xs[k].r.more.v,.ref t2]);have sA:=(s3.trans s4).trans s5;refine q a _ (s2.trans sA) ?_;rw [Ci ok ex];refine .mk (t:=ta) (ks:=t2) (as:=as) af (s5 _ _ (s4 _ _ e3)) (s5 _ _ af) (by rw [i4]; exact h3.len) fun i b z hb hz=>?_
  rw [o0] at hz;cases em:(ay xs k)[i]? with
  | none=>rw [em] at hz; cases hz
  | some m =>
   rw [em] at hz;cases hz;exact(h3.get hb em).same sA
theorem Aj(T:Txt K mg A):∀ n,FnOk P w K mg base CX0 n A.lO A.lM gA (wW n)
 | 0=>⟨fun vs H Q E h=>by obtain⟨_,_,_,_,xs,_,k,_,_,_,h1,h2,_⟩:=h; omega,fun _ _ _ _ _ _ vs Q E _ _ _ _ h=>by obtain⟨_,_,_,_,xs,_,k,_,_,_,h1,h2,_⟩:=h; omega⟩
 | n + 1=>AA T n (Aj T n)
end
end KP
namespace L2
open PySem PySem.W PySem.Spec PySem.Calls PyProof.Rows
theorem tq{X:Cx}{K:i3}(e:X.K=K):OpR X (compareOp .In) (rIn K false):=by subst e; exact bK
theorem Hz{X:Cx}{K:i3}(e:X.K=K):SlR X (Qi K):=by subst e; exact rm
end L2
namespace KP
open PySem L2 PyProof.Rows
open WM (J bl ls)
theorem cS{K:i3}{H H':Hp}{a:Addr}{xs:List V}(h:SqL K H a xs)(e:aS H H'):SqL K H' a xs:=by
 rcases h with (h | ⟨o,h⟩) | h
 ·exact .inl (.inl (e _ _ h))
 ·exact .inl (.inr ⟨o,e _ _ h⟩)
 ·exact .inr h
theorem ky{l:List Str}{m:Int}(h0:0<=m)(h:m < l.length):∃ k∈l,atI (l.map V.str) m=some (.str k):=by
 obtain⟨j,rfl⟩:=O3 h0;have hj:j < l.length:=by omega
 exact⟨l[j],E9 hj,bA (by rw [o0,i5 hj]; rfl)⟩
def cD:List Str:=["row","flow","column","grid","pile","words","words","blank"]
theorem JM{m:Int}(h0:0<=m)(h:m < 5):∃ k∈cD.take 5,atI (cD.map V.str) m=some (.str k):=by
 obtain⟨j,rfl⟩:=O3 h0;have hj:j < 5:=by omega
 have hj':j < cD.length:=by show j < 8; omega
 exact⟨cD[j],aq4.mpr ⟨j,by show j < min 5 8; omega,rfl⟩,bA (by rw [o0,i5 hj']; rfl)⟩
theorem Jx(k:Str):inV (.str k) ((cD.take 5).map V.str)=decide (k∈cD.take 5):=by
 rw [lH,M4,decide_eq_true_iff,G4];exact⟨fun⟨y,hy,e⟩=>by have:y=k:=(by simpa using e); exact this ▸ hy,fun h=>⟨k,h,by simp⟩⟩
theorem AI:∀ k∈cD,k∈vt:=by decide +kernel
theorem vk:∀ k∈cD.take 5,k∈vt/\k≠Az/\k≠jb:=by decide +kernel
def mo0 (k:Str):Mo:=if k=jb then .tx [] else if k=vz then .nu 1 else .no
theorem FV(k:Str):EK k (mo0 k):=by
 unfold mo0;by_cases h:k=jb
 ·rw [if_pos h]; exact .inl ⟨h,[],rfl,⟨by decide,fun w hw=>by cases hw⟩⟩
 ·by_cases g:k=vz
  ·rw [if_neg h,if_pos g]; exact .inr (.inl ⟨g,1,rfl,by decide,by decide⟩)
  ·rw [if_neg h,if_neg g]; exact .inr (.inr ⟨h,g,rfl⟩)
def mkR (c:Cn)(i:Nat)(k:Str)(ab dp:Int):Lr:=⟨0,0,⟨k,nm c i,tgs i (nms c),mo0 k,ab,dp⟩⟩
def iL (xs:List Lr)(ms:List Mo):List Lr:=xs.zipWith (fun x m=>⟨x.a,x.t,{ x.r with more:=m }⟩) ms
theorem lv{xs:List Lr}{ms:List Mo}(h:ms.length=xs.length):(iL xs ms).length=xs.length:=by unfold iL; rw [List.length_zipWith]; omega
theorem zR{xs:List Lr}{ms:List Mo}{i:Nat}{x:Lr}(h:(iL xs ms)[i]? = some x):∃ y m,xs[i]? = some y/\ms[i]? = some m/\x=⟨y.a,y.t,{ y.r with more:=m }⟩:=by
 unfold iL at h;rw [aq5] at h;cases e1:xs[i]? with
 | none=>rw [e1] at h; cases h
 | some y =>
  cases e2:ms[i]? with
  | none=>rw [e1,e2] at h; cases h
  | some m=>rw [e1,e2] at h; cases h; exact⟨y,m,rfl,rfl,rfl⟩
theorem Ha{c:Cn}{xs:List Lr}{ms:List Mo}(ok:RwsOk c xs)(h:ms.length=xs.length)(hm:∀(i:Nat) (y:Lr) (m:Mo),xs[i]? = some y->ms[i]? = some m->EK y.r.kind m):RwsOk c (iL xs ms):=by
 refine⟨by rw [lv h]; exact ok.n,fun i x hx=>?_⟩
 obtain⟨y,m,h1,h2,rfl⟩:=zR hx;have R:=ok.row i y h1;refine⟨R.name,R.kind,hm i y m h1 h2,R.tags,R.about.imp id fun⟨j,z,hj,hz,e1,e2,e3⟩=>?_⟩;have hjl:=(r9.mp hz).1;have hjm:j < ms.length:=by omega
 refine⟨j,⟨z.a,z.t,{ z.r with more:=ms[j] }⟩,hj,?_,e1,e2,e3⟩
 unfold iL;rw [aq5,hz,i5 hjm]
theorem pI{α:Type}{xs:List Lr}{ms:List Mo}(h:ms.length=xs.length)(f:Lr->α)(g:∀(y:Lr) (m:Mo),f ⟨y.a,y.t,{ y.r with more:=m }⟩=f y):(iL xs ms).map f=xs.map f:=by
 induction xs generalizing ms with
 | nil=>cases ms <;> rfl
 | cons x xs ih=>cases ms with
  | nil=>cases h
  | cons m ms =>
   show f _ :: _=f x :: _;rw [g]
   congr 1
   exact ih (by simpa using h)
theorem Bh{xs:List Lr}{ms:List Mo}(h:ms.length=xs.length):(iL xs ms).map (fun x=>x.r.more.v)=ms.map Mo.v:=by
 induction xs generalizing ms with
 | nil=>cases ms with
  | nil=>rfl
  | cons _ _=>cases h
 | cons x xs ih=>cases ms with
  | nil=>cases h
  | cons m ms =>
   show m.v :: _=m.v :: _
   congr 1
   exact ih (by simpa using h)
section
variable {P:i8} {w:i7} {K:i3} {mg:Str→Option g7} {base:Heap} {A:Adr}
structure Lp(K:i3)(a st sl kl al dl:Addr)(ns:List Int)(c:Cn)(H H':Hp)(xs:List Lr):Prop where
 same:aS H H'
 sta:St st H'
 scr:SqL K H' a (ns.map V.int)
 sl:H' sl=some (.lst (cD.map V.str))
 kl:H' kl=some (.lst (xs.map fun x=>V.str x.r.kind))
 al:H' al=some (.lst (.non :: (xs.drop 1).map fun x=>V.int x.r.about))
 dl:H' dl=some (.lst (xs.map fun x=>V.int x.r.deep))
theorem Lp.grow{a st sl kl al dl:Addr}{ns:List Int}{c:Cn}{H H1 H2:Hp}{xs:List Lr}(h:Lp K a st sl kl al dl ns c H H1 xs)(e:aS H1 H2):Lp K a st sl kl al dl ns c H H2 xs :=
 ⟨h.same.trans e,let ⟨s,x,y⟩:=h.sta; ⟨s,e _ _ x,y⟩,cS h.scr e,e _ _ h.sl,e _ _ h.kl,e _ _ h.al,e _ _ h.dl⟩
structure Ds(a st sl kl al dl:Addr)(H:Hp)(ns:List Int)(K:i3):Prop where
 n:(([st,sl,kl,al,dl]:List Addr)).Nodup
 st:H st=none
 sl:H sl=none
 kl:H kl=none
 al:H al=none
 dl:H dl=none
 scr:SqL K H a (ns.map V.int)
theorem Lp.ms{a st sl kl al dl:Addr}{ns:List Int}{c:Cn}{H H1 H2:Hp}{xs:List Lr}(h:Lp K a st sl kl al dl ns c H H1 xs)(d:Ds a st sl kl al dl H ns K)(m:Ms st H1 H2):Lp K a st sl kl al dl ns c H H2 xs:=by
 have nd:=d.n;simp only [G7,l6,C1,or_false,not_or] at nd
 obtain⟨⟨n1,n2,n3,n4⟩,_⟩:=nd;have s:aS H H2:=fun b o e=>m.keep _ _ (fun z=>by rw [z,d.st] at e; cases e) (h.same _ _ e)
 exact⟨s,m.st,cS d.scr s,m.keep _ _ (w9 n1) h.sl,m.keep _ _ (w9 n2) h.kl,m.keep _ _ (w9 n3) h.al,m.keep _ _ (w9 n4) h.dl⟩
abbrev BH:j9:=(match aW lj with | _ :: _ :: _ :: _ :: _ :: (.For _ _ (_ :: (.Assign _ (.ListComp _ _ sc _) _) :: _) _ _) :: _=>sc | _=>aj lj)
theorem Ab:Blk (aj lj) xV BH ["_law_j"] [3,4,6]:=⟨rfl,zQd,zQd,zQd,zQd⟩
theorem Bp:(cy xV ["_law_j"] [3,4,6]).Nodup:=by decide +kernel
def Nc (K:i3):Sp:=fun vs H Q _ => ∃(a nl:Addr) (ns:List Int) (c:Cn) (n:Nat),vs=[.ref a,.ref nl]/\SqL K H a (ns.map V.int)/\ns.length<=63/\H nl=some (.lst ((nmL c n).map V.str))/\1<=n/\n<=12 /\
 ∀(d:Addr) (xs:List Lr) (H':Hp),aS H H'->RwsOk c xs->xs.length=n->IsBx H' d (kr xs 0)->Q (.ref d) H'
seal PE PS PSs L2.PA PT PI PG in
theorem Kg(T:Txt K mg A):FnOk P w K mg base CX0 14 A.CB A.Cr rh (Nc K):=by
 have bu:=(se (P:=P) (w:=w) (base:=base) T).mono (show 1<=13 by decide)
 have ci:=(yf (P:=P) (w:=w) (base:=base) T).mono (show 1<=13 by decide)
 have zY:=(Jw (P:=P) (w:=w) (base:=base) T).mono (show 2<=13 by decide)
 have oT:=Aj (P:=P) (w:=w) (base:=base) T 13
 exists T.re.F.ok dj
 ·obtain⟨a,nl,ns,c,n,rfl,_⟩:=h; rfl
 obtain⟨a,nl,ns,c,n,rfl,hS,h63,hn,n1,n12,q⟩:=h;refine⟨_,@ah _ _ _ _ _ (aR (i:=2) dj.nd rfl (m9 rfl) (bb (aa (aD bZ ag (aD aZ (b9 ci hr rfl T.aO (aa (pv 0) (aa ag ae))) ag)) ae)))
  (@ah _ _ _ _ _ (aR (i:=3) dj.nd rfl (B9 rfl) (bb (aa ap (aa ap (aa ap (aa ap (aa ap (aa ap (aa ap (aa ap ae))))))))))
  (@ah _ _ _ _ _ (aR (i:=4) dj.nd rfl (B9 rfl) (bb (aa (aA aY (pv 3) (aD aZ (b9 bu hr rfl T.aw (aa (pv 2) (aa ag ae))) ag) (fun _ _=>rfl)) ae)))
  (@ah _ _ _ _ _ (aR (i:=5) dj.nd rfl (m9 rfl) (bb (aa nN ae)))
  (@ah _ _ _ _ _ (aR (i:=6) dj.nd rfl (B9 rfl) (bb (aa ag ae)))
  (@ah _ _ _ _ _ (dZ F7 rfl (vf rfl T.cq (aa ag (aa (aq aG rfl T.bM bT (aa (pv 1) ae)) ae))) (aN (i:=7) dj.nd rfl (m9 rfl)) (@ah _ _ _ _ _ (bB (eZ F1 O4 O5 cX (pv 4) (aa (aA aY (pv 3) (aD aZ (b9 bu hr rfl T.aw (aa (pv 2) (aa (b9 ci hr rfl T.aO (aa (pv 0) (aa (aD bZ ag (pv 7)) ae))) ae))) ag) (fun _ _=>rfl)) ae)))
  (@ah _ _ _ _ _ (nG (i:=8) Ab rfl (cG rfl T.cq (aa (pv 7) ae)) (fun _ _ _ _ _=>aN (i:=0) Bp rfl (.inl rfl)) (fun _ _ _ _ _=>jp (PW.pt (Be (aB (tq (K:=K) rfl) (aA (oE (K:=K) rfl) (pv 2) (pv 0) (fun _ _=>rfl)) (iU (Hz (K:=K) rfl) (pv 1) lB (lD ag)) rfl) (xx (aB Mg (aA (oE (K:=K) rfl) (pv 3) (pv 0) (fun _ _=>rfl)) ag (aJ _)))))) (fun _ _ _ _ _=>pv 0) dj.nd rfl rfl)
  (@ah _ _ _ _ _ (bB (eZ F1 O4 O5 cX (pv 5) (aa (aA aY (pv 8) (aD aZ (b9 bu hr rfl T.aw (aa (pv 2) (aa ag ae))) (aq aG rfl T.bM bT (aa (pv 8) ae))) (fun _ _=>rfl)) ae)))
  (ak (bB (eZ F1 O4 O5 cX (pv 6) (aa (aD bZ (aA aY (pv 6) (aA aY (pv 5) (pv 7) (fun _ _=>rfl)) (fun _ _=>rfl)) ag) ae))))))))
  (@ah _ _ _ _ _ (aR (i:=9) dj.nd rfl (m9 rfl) (bb ae))
  (@ah _ _ _ _ _ (dZ F7 rfl (oI (pv 4)) (aN (i:=10) dj.nd rfl (m9 rfl)) (ak (bB (eZ F1 O4 O5 cX (pv 9) (aa (Fh (gk hr) (IV (zO ap (b9 zY hr rfl T.hV (aa (pv 2) ae)) (zO ap (aD bZ ag (aD aZ (b9 bu hr rfl T.aw (aa (pv 2) (aa ag ae))) ag)) KA)) rfl rfl (fun h=>nomatch h) (by decide)) (pv 10) ⟨rfl,rfl,rfl,rfl⟩) ae)))))
  (ak (ar (b9 oT hr rfl T.fu (aa ag (aa (pv 4) (aa (pv 5) (aa (pv 1) (aa (pv 9) ae))))))))))))))),?_⟩
 refine⟨zQa,a,ns,0,rfl,hS,h63,ab7 _,fun x0=>⟨zQb,(by show(0:Int) < 2147483646; decide),zQb,aK (by simp),fun st hst=>?_⟩⟩
 have s1:=ai hst (.lst [.int (1 + x0 % 2147483646)]);have S1:St st (upd H st (.lst [.int (1 + x0 % 2147483646)])):=St.mk' x0;generalize upd H st (.lst [.int (1 + x0 % 2147483646)])=H1 at s1 S1 ⊢;refine⟨aK (by simp),fun sl hsl=>?_⟩
 have s2:=ai hsl (.lst (cD.map V.str));have e2:upd H1 sl (.lst (cD.map V.str)) sl=_:=af;have S2:St st (upd H1 sl (.lst (cD.map V.str))):=let ⟨s,x,y⟩:=S1; ⟨s,s2 _ _ x,y⟩
 have nsl:=S1.ne hsl;show Ec _ _ _ _ (upd H1 sl (.lst (cD.map V.str)));generalize upd H1 sl (.lst (cD.map V.str))=H2 at s2 e2 S2 ⊢;refine⟨zQa,zQa,st,0,rfl,S2,fun r H3 _ _ m3 f3=>⟨zQb,(by show(0:Int) < 5; decide),?_⟩⟩
 have hr5:=emd (r:=r) (show(0:Int) < 5 by decide)
 obtain⟨k0,hk0,ek0⟩:=JM hr5.1 hr5.2;refine⟨sl,zQc,.of (m3.keep _ _ nsl e2),ek0,aK (by simp),fun kl hkl=>?_⟩
 have nkl:=m3.st.ne hkl;have s4:=ai hkl (.lst [.str k0]);have e4:upd H3 kl (.lst [.str k0]) kl=_:=af;have hkl':=m3.free S2 hkl;have m4:=m3.grow s4;generalize upd H3 kl (.lst [.str k0])=H4 at s4 e4 m4 ⊢;refine⟨aK (by simp),fun al hal=>?_⟩
 have nal:=m4.st.ne hal;have hal':=m4.free S2 hal;have s5:=ai hal (.lst [.non]);have e5:upd H4 al (.lst [.non]) al=_:=af;have m5:=m4.grow s5;generalize upd H4 al (.lst [.non])=H5 at s5 e5 m5 ⊢;refine⟨aK (by simp),fun dl hdl=>?_⟩
 have ndl:=m5.st.ne hdl;have hdl':=m5.free S2 hdl;have s6:=ai hdl (.lst [.int 1]);have e6:upd H5 dl (.lst [.int 1]) dl=_:=af;have m6:=m5.grow s6;generalize upd H5 dl (.lst [.int 1])=H6 at s6 e6 m6 ⊢;have s02:=s1.trans s2;have ek6:=s6 _ _ (s5 _ _ e4);have ea6:=s6 _ _ e5;have es6:=m6.keep _ _ nsl e2;have D:Ds a st sl kl al dl H ns K:=by
  refine⟨?_,hst,none_of s1 hsl,none_of s02 hkl',none_of s02 hal',none_of s02 hdl',hS⟩;simp only [G7,l6,C1,or_false,not_or,Y0,and_true,not_false_eq_true]
  refine⟨⟨nsl.symm,nkl.symm,nal.symm,ndl.symm⟩,⟨fun z=>?_,fun z=>?_,fun z=>?_⟩,⟨fun z=>?_,fun z=>?_⟩,fun z=>?_⟩
  ·rw [<- z,e2] at hkl'; cases hkl'
  ·rw [<- z,e2] at hal'; cases hal'
  ·rw [<- z,e2] at hdl'; cases hdl'
  ·rw [<- z,e4] at hal; cases hal
  ·rw [<- z,s5 _ _ e4] at hdl; cases hdl
  ·rw [<- z,e5] at hdl; cases hdl
 have sH:aS H H6:=fun b o e=>m6.keep _ _ (fun z=>by rw [z,hst] at e; cases e) (s02 _ _ e)
 have L0:Lp K a st sl kl al dl ns c H H6 [mkR c 0 k0 (-1) 1]:=⟨sH,m6.st,cS hS sH,es6,ek6,ea6,e6⟩;have O0:RwsOk c [mkR c 0 k0 (-1) 1]:=⟨by show 1<=12; decide,fun i x hx=>by
  cases i with
  | zero=>cases hx; exact⟨rfl,(vk k0 hk0).1,FV k0,⟨zQa⟩,.inl ⟨rfl,rfl,rfl⟩⟩
  | succ i=>cases hx⟩
 have T0:∀(i:Nat) (x:Lr),[mkR c 0 k0 (-1) 1][i]? = some x->x.r.tags=tgs i (nms c):=fun i x hx=>by
  cases i with
  | zero=>cases hx; rfl
  | succ i=>cases hx
 have ln:(nmL c n).length=n:=by unfold nmL; simp
 clear m3 m4 m5 m6 S1 S2 ek6 ea6 es6 s6 s5 s4 s2 s1 f3;refine⟨zQa,nl,zQa,.inl (.of (sH _ _ hn)),_,zQa,⟨by decide,by decide,by rw [i4,ln]; omega,by rw [i4,ln]; omega⟩,?_⟩
 rw [show((((nmL c n).map V.str).length:Int) - 1).toNat=n - 1 by rw [i4,ln]; omega]
 refine gG (n:=n - 1) (fun i σ H' => ∃(v7 v8:Option V) (xs:List Lr),σ=[some (.ref a),some (.ref nl),some (.ref st),some (.ref sl),some (.ref kl),some (.ref al),some (.ref dl),v7,v8,none,none]/\Lp K a st sl kl al dl ns c H H' xs/\RwsOk c xs/\xs.length=i + 1/\(∀(i:Nat) (x:Lr),xs[i]? = some x->x.r.tags=tgs i (nms c)/\(i=0->x.r.kind∈cD.take 5/\x.r.deep=1)))
  ⟨none,none,zQa,L0,O0,rfl,fun i x hx=>⟨T0 i x hx,fun z=>by subst z; cases hx; exact⟨hk0,rfl⟩⟩⟩ ?_ ?_
 ·rintro i σ H7 hi ⟨v7,v8,xs,rfl,L,ok,lx,tx⟩
  refine⟨zQa,.inl ⟨rfl,_,.of L.kl⟩,zQa,zQa,zQa,zQa,zQb,a,ns,3 + (1 + (i:Int)),rfl,L.scr,h63,by omega,fun v=>⟨st,v,rfl,L.sta,fun r H8 _ _ m8 _=>⟨zQb,(by show(0:Int) < 8; decide),?_⟩⟩⟩
  have hr8:=emd (r:=r) (show(0:Int) < 8 by decide)
  obtain⟨kd,hkd,ekd⟩:=ky (l:=cD) hr8.1 hr8.2;have L8:=L.ms D m8;refine⟨sl,zQc,.of L8.sl,ekd,kl,zQb,L8.kl,by rw [i4]; exact az (by omega),?_⟩
  have nd:=D.n;simp only [G7,l6,C1,or_false,not_or,Y0,and_true,not_false_eq_true] at nd
  obtain⟨⟨n1,n2,n3,n4⟩,⟨n5,n6,n7⟩,⟨n8,n9⟩,n10⟩:=nd;have ekl:(xs.map fun x=>V.str x.r.kind) ++ [V.str kd]=(xs.map fun x=>x.r.kind).map V.str ++ [kd].map V.str:=by rw [A7]; rfl
  rw [ekl,<- j6];generalize hks:(xs.map fun x=>x.r.kind) ++ [kd]=ks;have hx0:0 < xs.length:=by omega
  have L9:aS H (upd H8 kl (.lst (ks.map V.str)))/\St st (upd H8 kl (.lst (ks.map V.str)))/\upd H8 kl (.lst (ks.map V.str)) sl=some (.lst (cD.map V.str))/\upd H8 kl (.lst (ks.map V.str)) kl=some (.lst (ks.map V.str))/\upd H8 kl (.lst (ks.map V.str)) al=some (.lst (.non :: (xs.drop 1).map fun x=>V.int x.r.about))/\upd H8 kl (.lst (ks.map V.str)) dl=some (.lst (xs.map fun x=>V.int x.r.deep)):=by
   refine⟨fun b o e=>by rw [am (aH e D.kl)]; exact L8.same _ _ e,?_,by rw [am n5]; exact L8.sl,af,by rw [am (w9 n8)]; exact L8.al,by rw [am (w9 n9)]; exact L8.dl⟩
   obtain⟨s,x,y⟩:=L8.sta;exact⟨s,by rw [am n2]; exact x,y⟩
  generalize upd H8 kl (.lst (ks.map V.str))=H9 at L9 ⊢;obtain⟨s9,S9,esl,ek9,ea9,ed9⟩:=L9;have ksj:∀ j,(hj:j < xs.length)->ks[j]? = some xs[j].r.kind:=fun j hj=>by rw [<- hks,Z9 (by rw [i4]; exact hj),o0,i5 hj]; rfl
  refine⟨zQa,zQa,by omega,by omega,nU (n:=(1 + (i:Int)).toNat) (fun j acc H' => ∃ js:List Nat,acc=js.map (fun m:Nat=>V.int (m:Int))/\(∀ m∈js,m < j/\∃ x,xs[m]? = some x/\x.r.kind∈cD.take 5/\x.r.deep < 5)/\(0 < j->0∈js)/\js.length<=j/\aS H9 H'/\j<=12) ⟨[],rfl,fun m hm=>(by cases hm),fun z=>absurd z (by decide),i6 _,.refl _,by decide⟩ (fun j acc H' z=>?_) (fun j acc H' N kk hj z=>?_) fun acc H' z=>?_⟩
  ·obtain⟨js,rfl,_,_,h1,_,h2⟩:=z
   rw [i4]; exact az (by omega)
  ·obtain⟨js,rfl,h1,h0,hl,s10,h12⟩:=z
   have hjx:j < xs.length:=by omega
   have ej:(0:Int) + (j:Int)=(j:Int):=Int.zero_add _;have c5:oG (cD.map V.str) none (some 5)=(cD.take 5).map V.str:=by rw [yL _ _ (by decide)]; rfl
   refine⟨zQa,zQa,kl,_,_,.str xs[j].r.kind,rfl,rfl,.of (s10 _ _ ek9),?_,zQa,5,rfl,sl,zQa,.of (s10 _ _ esl),fun p hp=>?_⟩
   ·rw [ej]; exact bA (by rw [o0,ksj j hjx]; rfl)
   rw [c5];have sp:=s10.trans (ai hp (.lst ((cD.take 5).map V.str)));refine⟨p,zQa,.inl (.of af),rfl,(by rw [N0]; exact E8.mpr fun _ _=>rfl),?_⟩
   generalize upd H' p (.lst ((cD.take 5).map V.str))=H10 at sp ⊢;rw [if_neg (by decide),Jx]
   refine⟨zQa,?_⟩;have no:¬ (xs[j].r.kind∈cD.take 5/\xs[j].r.deep < 5)->N (js.map fun m:Nat=>V.int (m:Int)) H10:=fun z=>kk _ _ ⟨js,rfl,fun m hm=>⟨by have:=(h1 m hm).1; omega,(h1 m hm).2⟩,fun _=>?_,by omega,sp,by omega⟩
   ·by_cases hk:xs[j].r.kind∈cD.take 5
    ·refine aM (decide_eq_true hk) ⟨zQa,zQa,dl,_,_,.int xs[j].r.deep,rfl,rfl,.of (sp _ _ ed9),?_,zQb,zQa,?_⟩
     ·rw [ej]; exact bA (by rw [o0,i5 hjx]; rfl)
     by_cases hd:xs[j].r.deep < 5
     ·refine aM (decide_eq_true hd) ⟨zQa,kk _ _ ⟨js ++ [j],by rw [j6,ej]; rfl,fun m hm=>?_,fun _=>?_,by rw [A2,N7]; omega,sp,by omega⟩⟩
      ·rcases B3.mp hm with h | h
       ·exact⟨by have:=(h1 m h).1; omega,(h1 m h).2⟩
       ·rw [A5.mp h]; exact⟨by omega,xs[j],i5 hjx,hk,hd⟩
      ·by_cases z:j=0
       ·rw [z]; simp
       ·exact P6 _ (h0 (by omega))
     ·exact aI (decide_eq_false hd) (no fun z=>hd z.2)
    ·exact aI (decide_eq_false hk) (aI rfl (no fun z=>hk z.1))
   ·by_cases z0:j=0
    ·subst z0
     obtain⟨_,z1⟩:=tx 0 xs[0] (i5 hx0);have:=z1 rfl;exact absurd ⟨this.1,by omega⟩ z
    ·exact h0 (by omega)
  ·obtain⟨js,rfl,h1,h0,hl,s10,h12⟩:=z
   intro rl hrl;have s11:=s10.trans (ai hrl (.lst (js.map fun m:Nat=>V.int (m:Int))));have er:upd H' rl (.lst (js.map fun m:Nat=>V.int (m:Int))) rl=_:=af;have nrl:H9 rl=none:=none_of s10 hrl;generalize upd H' rl (.lst (js.map fun m:Nat=>V.int (m:Int)))=H11 at s11 er ⊢;have S11:St st H11:=let ⟨s,x,y⟩:=S9; ⟨s,s11 _ _ x,y⟩
   have nrs:rl≠st:=S9.ne nrl;have jpos:0 < js.length:=List.length_pos_of_mem (h0 (by omega))
   dsimp only [bC];refine⟨zQa,.inl ⟨rfl,_,.of (s11 _ _ ea9)⟩,zQa,zQa,st,0,rfl,S11,fun r2 H12 _ _ m12 _=>?_⟩;have er12:=m12.keep _ _ nrs er;refine⟨zQa,rl,zQa,.inl (.of er12),zQb,(by rw [i4]; show(0:Int) < (js.length:Int); omega),?_⟩
   rw [i4];have h2:=emd (r:=r2) (show(0:Int) < (js.length:Int) by omega)
   obtain⟨m,em⟩:=O3 h2.1;have hm:m < js.length:=by omega
   obtain⟨hmi,xh,exh,xk,xd⟩:=h1 js[m] (E9 hm);have ea12:=m12.keep _ _ (w9 n3) (s11 _ _ ea9);have ed12:=m12.keep _ _ (w9 n4) (s11 _ _ ed9);have ek12:=m12.keep _ _ (w9 n2) (s11 _ _ ek9);have es12:=m12.keep _ _ (w9 n1) (s11 _ _ esl);refine⟨rl,_,_,.int (js[m]:Nat),rfl,rfl,.of er12,(by rw [em]; exact bA (by rw [o0,i5 hm]; rfl)),al,zQb,ea12,(by simp only [x9,i4,G2]; exact az (by omega)),?_⟩
   have s12:aS H H12:=fun b o e=>m12.keep _ _ (fun z=>by rw [z,D.st] at e; cases e) (s11 _ _ (s9 _ _ e))
   generalize hab:(V.non :: (xs.drop 1).map fun x=>V.int x.r.about) ++ [V.int (js[m]:Nat)]=ab;have ea13:upd H12 al (.lst ab) al=some (.lst ab):=af;have ed13:upd H12 al (.lst ab) dl=some (.lst (xs.map fun x=>V.int x.r.deep)):=by rw [am (w9 n10)]; exact ed12
   have ek13:upd H12 al (.lst ab) kl=some (.lst (ks.map V.str)):=by rw [am n8]; exact ek12
   have es13:upd H12 al (.lst ab) sl=some (.lst (cD.map V.str)):=by rw [am n6]; exact es12
   have S13:St st (upd H12 al (.lst ab)):=by obtain⟨s,x,y⟩:=m12.st; exact⟨s,by rw [am n3]; exact x,y⟩
   have s13:aS H (upd H12 al (.lst ab)):=fun b o e=>by rw [am (aH e D.al)]; exact s12 _ _ e
   generalize upd H12 al (.lst ab)=H13 at ea13 ed13 ek13 es13 S13 s13 ⊢;have ei:(1:Int) + (i:Int)=((i + 1:Nat):Int):=by omega
   have eab:atI ab (1 + (i:Int))=some (.int (js[m]:Nat)):=by
    rw [ei,<- hab];refine bA ?_;rw [Q3 (by simp only [x9,i4,G2]; omega)]
    simp only [x9,i4,G2]
    rw [show i + 1 - (xs.length - 1 + 1)=0 by omega]; rfl
   refine⟨zQa,.inl ⟨rfl,_,.of ed13⟩,zQa,zQa,zQa,al,zQc,.of ea13,eab,dl,_,_,.int xh.r.deep,rfl,rfl,.of ed13,bA (by rw [o0,exh]; rfl),zQb,dl,zQb,ed13,(by rw [i4]; exact az (by omega)),?_⟩
   have hd:=vk _ xk;have ok':RwsOk c (xs ++ [mkR c (i + 1) kd (js[m]:Nat) (xh.r.deep + 1)]):=ok.snoc (by omega) (by
    rw [lx];exact⟨rfl,AI _ hkd,FV kd,⟨zQa⟩,.inr ⟨js[m],xh,by omega,exh,rfl,⟨hd.2.1,hd.2.2,by omega⟩,rfl⟩⟩)
   refine⟨_,_,xs ++ [mkR c (i + 1) kd (js[m]:Nat) (xh.r.deep + 1)],rfl,⟨fun b o e=>by rw [am (aH e D.dl)]; exact s13 _ _ e,?_,cS D.scr fun b o e=>by rw [am (aH e D.dl)]; exact s13 _ _ e,by rw [am n7]; exact es13,?_,?_,?_⟩,ok',by rw [A2,lx]; rfl,fun j x hx=>?_⟩
   ·obtain⟨s,x,y⟩:=S13; exact⟨s,by rw [am n4]; exact x,y⟩
   ·rw [am n9,ek13,<- hks,j6,j6,A7]; rfl
   ·rw [am n10,ea13,<- hab,List.drop_append_of_le_length (by omega),j6]; rfl
   ·rw [af,j6]; rfl
   ·rw [X8] at hx
    split at hx
    ·exact tx j x hx
    ·rename_i hj
     have e:j=xs.length:=by
      have:=(r9.mp hx).1;simp at this; omega
     subst e;rw [U4] at hx;cases hx;rw [lx];exact⟨rfl,fun z=>by omega⟩
 ·rintro σ H7 ⟨v7,v8,xs,rfl,L,ok,lx,tx⟩
  have lx:xs.length=n:=by omega
  refine⟨aK (by simp),fun ml hml=>?_⟩
  have s8:=ai hml (.lst []);have L8:=L.grow s8;have e8:upd H7 ml (.lst []) ml=some (.lst []):=af;have hml':H ml=none:=none_of L.same hml;have nms':=L.sta.ne hml;have nkm:kl≠ml:=fun z=>by rw [<- z,L.kl] at hml; cases hml
  have nam:al≠ml:=fun z=>by rw [<- z,L.al] at hml; cases hml
  have ndm:dl≠ml:=fun z=>by rw [<- z,L.dl] at hml; cases hml
  have nsm:sl≠ml:=fun z=>by rw [<- z,L.sl] at hml; cases hml
  generalize upd H7 ml (.lst [])=H8 at s8 L8 e8 ⊢;refine⟨zQa,kl,rfl,⟨_,.of L8.kl⟩,kq (K:=K) (a:=kl) (xs:=xs.map fun x=>V.str x.r.kind) (fun i σ H' => ∃(v10:Option V) (ms:List Mo),σ=[some (.ref a),some (.ref nl),some (.ref st),some (.ref sl),some (.ref kl),some (.ref al),some (.ref dl),v7,v8,some (.ref ml),v10]/\Lp K a st sl kl al dl ns c H H' xs/\H' ml=some (.lst (ms.map Mo.v))/\ms.length=i/\∀(j:Nat) (y:Lr) (m:Mo),xs[j]? = some y->ms[j]? = some m->EK y.r.kind m) ⟨none,[],rfl,L8,e8,rfl,fun j y m _ h=>(by cases h)⟩ (fun i σ H' _ z=>?_) ?_ ?_⟩
  ·obtain⟨_,_,_,L',_⟩:=z; exact .of L'.kl
  ·rintro i x σ H9 hx ⟨v10,ms,rfl,L9,e9,lm,hm⟩
   rw [o0] at hx;cases hy:xs[i]? with
   | none=>rw [hy] at hx; cases hx
   | some y =>
   rw [hy] at hx;cases hx;have il:=(r9.mp hy).1;dsimp only [bC];refine⟨zQa,.inl ⟨rfl,_,.of e9⟩,fun p hp=>?_⟩;have np:p≠st:=L9.sta.ne hp;have npm:ml≠p:=fun z=>by rw [<- z,e9] at hp; cases hp
   have sp:=ai hp (.dK []);have Lp':=L9.grow sp;have ep:upd H9 p (.dK []) p=some (.dK []):=af;have em:=sp _ _ e9;generalize upd H9 p (.dK [])=H10 at sp Lp' ep em ⊢;refine⟨zQa,st,rfl,Lp'.sta,fun ws H11 m11 W=>⟨zQa,st,0,rfl,m11.st,fun r H12 _ _ m12 _=>⟨zQb,(by show(0:Int) < 3; decide),zQb,?_⟩⟩⟩
   have h3:=emd (r:=r) (show(0:Int) < 3 by decide)
   have m2:=m11.trans m12;have L12:=Lp'.ms D m2;have ep2:=m2.keep _ _ np ep;have em2:=m2.keep _ _ nms' em;have hpH:H p=none:=none_of L9.same hp;have nd2:(([(i0 "words",V.str (J ws)),(i0 "grid",V.int (1 + r % 3))]:List (Key×V)).map (·.1)).Nodup:=by show([i0 "words",i0 "grid"]:List Key).Nodup; decide +kernel
   refine⟨ep2,[(i0 "words",.str (J ws)),(i0 "grid",.int (1 + r % 3))],rfl,(by show 2<=15; decide),?_⟩
   rw [Ex nd2];refine⟨p,rfl,.inl ⟨_,.inl af⟩,zQa,_,iC.k (k:=i0 y.r.kind) af,?_⟩;generalize hv:(cm ([(i0 "words",V.str (J ws)),(i0 "grid",V.int (1 + r % 3))]:List (Key×V)) (i0 y.r.kind)).getD .non=v;obtain⟨mo,rfl,hmo⟩:∃ mo:Mo,v=mo.v/\EK y.r.kind mo:=by
    rw [cI,cI] at hv;by_cases h1:y.r.kind=jb
    ·rw [if_pos (show(i0 "words" : Key)=i0 y.r.kind by rw [h1]; rfl)] at hv
     exact⟨.tx ws,hv.symm,.inl ⟨h1,ws,rfl,W⟩⟩
    rw [if_neg (fun z=>h1 (by injection z with z; rw [<- z]; rfl))] at hv
    by_cases h2:y.r.kind=vz
    ·rw [if_pos (show(i0 "grid" : Key)=i0 y.r.kind by rw [h2]; rfl)] at hv
     exact⟨.nu (1 + r % 3),hv.symm,.inr (.inl ⟨h2,zQa,by omega,by omega⟩)⟩
    rw [if_neg (fun z=>h2 (by injection z with z; rw [<- z]; rfl))] at hv
    exact⟨.no,hv.symm,.inr (.inr ⟨h1,h2,rfl⟩)⟩
   have kp:∀ b,b≠p->upd H12 p (.dK [(i0 "words",.str (J ws)),(i0 "grid",.int (1 + r % 3))]) b=H12 b:=fun b z=>am z;have e13:=(kp ml npm).trans em2;have ne_p:∀ {b:Addr} {o:HO},H9 b=some o->b≠p:=fun e z=>by rw [z,hp] at e; cases e
   refine⟨ml,zQb,e13,(by rw [i4]; exact az (by omega)),?_⟩
   have nb:∀ {b:Addr} {o:HO},H9 b=some o->b≠ml->H12 b=some o->upd (upd H12 p (.dK [(i0 "words",.str (J ws)),(i0 "grid",.int (1 + r % 3))])) ml (.lst (ms.map Mo.v ++ [mo.v])) b=some o:=fun e z h=>by rw [am z,kp _ (ne_p e)]; exact h
   have sA:aS H (upd (upd H12 p (.dK [(i0 "words",.str (J ws)),(i0 "grid",.int (1 + r % 3))])) ml (.lst (ms.map Mo.v ++ [mo.v]))):=fun b o e=>nb (L9.same _ _ e) (fun z=>by rw [z,hml'] at e; cases e) (L12.same _ _ e)
   obtain⟨s0,x0,y0⟩:=L12.sta;obtain⟨s1,x1,_⟩:=L9.sta;refine⟨_,ms ++ [mo],rfl,⟨sA,⟨s0,by rw [am (w9 nms'),kp _ (w9 np)]; exact x0,y0⟩,cS D.scr sA,nb L9.sl nsm L12.sl,nb L9.kl nkm L12.kl,nb L9.al nam L12.al,nb L9.dl ndm L12.dl⟩,by rw [af,j6]; rfl,by rw [A2,lm]; rfl,fun j y' m' h1 h2=>?_⟩
   rw [X8] at h2;split at h2
   ·exact hm j y' m' h1 h2
   ·rename_i hj
    have e:j=i:=by
     have:=(r9.mp h2).1;simp at this; omega
    subst e;rw [lm,U4] at h2;cases h2;rw [hy] at h1;cases h1;exact hmo
  ·rintro σ H9 ⟨v10,ms,rfl,L9,e9,lm,hm⟩
   rw [i4] at lm;have ok2:=Ha ok lm hm;have Tb:Tab H9 c (iL xs ms) kl al nl ml:=by
    refine⟨?_,?_,?_,?_,fun j x hx=>?_⟩
    ·rw [L9.kl,pI lm _ fun _ _=>rfl]
    ·rw [L9.al]
     have:(iL xs ms).drop 1=iL (xs.drop 1) (ms.drop 1):=by unfold iL; rw [List.drop_zipWith]
     rw [this,pI (by rw [G2,G2,lm]) _ fun _ _=>rfl]
    ·rw [L9.same _ _ hn,pI lm _ fun _ _=>rfl]
     congr 2
     unfold nmL;refine ao9 fun j=>?_;rw [o0,o0,o0];cases hy:xs[j]? with
     | none =>
      have:=List.getElem?_eq_none_iff.mp hy;rw [X6 (by simp; omega)]; rfl
     | some y =>
      have:=(r9.mp hy).1;rw [ah6 (by omega)]
      show some (V.str (nm c j))=some (V.str y.r.name);rw [(ok.row j y hy).name]
    ·rw [e9,Bh lm]
    ·obtain⟨y,m,h1,_,rfl⟩:=zR hx
     exact(tx j y h1).1
   refine⟨zQa,zQa,zQa,zQa,kl,al,nl,ml,iL xs ms,c,0,rfl,Tb,ok2,by rw [lv lm]; omega,by rw [lv lm]; omega,fun d H' s' hb=>?_⟩
   exact q d _ _ (L9.same.trans s') ok2 (by rw [lv lm]; exact lx) hb
theorem om{x:Str}{m:Int}(hm:fj x=some m){i:Int}(h0:0<=i)(h9:i<=m):dg x (.int i)=true:=by
 unfold dg;rw [hm];exact oZ h0 h0 h9
theorem CK:∀ y∈bf,inS y ["mostw","mosth"]=true->fj y=some 400:=by decide +kernel
theorem Km:∀ y∈bf,inS y ["leastw","leasth","pad","gap"]=true->fj y=some 400\/fj y=some 9:=by decide +kernel
theorem Fk:∀ y∈bf,inS y ["wide","high"]=false->inS y ["mostw","mosth"]=false->inS y ["leastw","leasth","pad","gap"]=false->inS y ["over","able"]=false->y≠"fill"->y="ink" := by decide +kernel
theorem Mq:∀ z∈[("" : Str),".","#","~","x"],KU z=true/\z.length<=400:=by decide +kernel
theorem PY:∀ z∈[("as" : Str),"great","small"],Eb (.str z)=true/\z.length<=400:=by decide +kernel
theorem FG{x:Str}(hx:db x=true):x∈bf:=by
 obtain⟨y,hy,e⟩:=G4.mp hx;have:y=x:=by simpa using e
 exact this ▸ hy
def IU:Sp:=fun vs H Q _ => ∃(st:Addr) (x:Str),vs=[.str x,.ref st]/\St st H/\db x=true/\∀(v:V) (t:Tr) (H':Hp),Ms st H H'->TrAt H' t v->dg x t=true->Q v H'
seal PE PS PSs L2.PA PT PI PG in
theorem BC(T:Txt K mg A):FnOk P w K mg base CX0 2 A.vj A.vR mi IU:=by
 have bu:FnOk P w K mg base CX0 1 A.xE A.xa oq KQ:=se T
 exists T.kZ.F.ok rz
 ·obtain⟨st,x,rfl,_⟩:=h; rfl
 obtain⟨st,x,rfl,hst,hx,q⟩:=h;refine⟨_,@ah _ _ _ _ _ (aR (i:=2) rz.nd rfl (m9 rfl) (b9 bu hr rfl T.aw (aa (pv 1) (aa ag ae))))
  (@ah _ _ _ _ _ (bc (aB bK (pv 0) (bb (aa ap (aa ap ae))) rfl) (ak (ar (aA aY (bb (aa (bU (aa ap ae)) (aa (bU (aa ap (aa (aD aZ (aD lJ (pv 2) ag) ag) ae))) (aa (bU (aa ap (aa (aD bZ ag (aD aZ (aD lJ (pv 2) ag) ag)) ae))) (aa (bU (aa ap (aa (aD aZ (aD lJ (pv 2) ag) ag) ae))) ae))))) (aD aZ (pv 2) ag) (fun _ _=>rfl)))) aE)
  (@ah _ _ _ _ _ (bc (aB bK (pv 0) (bb (aa ap (aa ap ae))) rfl) (ak (ar (aA aY (bb (aa ag (aa (aD aZ (pv 2) ag) ae))) (aD aZ (aD lJ (pv 2) ag) ag) (fun _ _=>rfl)))) aE)
  (@ah _ _ _ _ _ (bc (aB bK (pv 0) (bb (aa ap (aa ap (aa ap (aa ap ae))))) rfl) (ak (ar (aD aZ (aD lJ (pv 2) ag) (aA aY (bb (aa ag (aa ag ae))) (gC Dm rfl T.vD KK (aa (br bK (pv 0) (bb (aa ap (aa ap ae))) rfl) ae)) (fun _ _=>rfl))))) aE)
  (@ah _ _ _ _ _ (bc (aB bK (pv 0) (bb (aa ap (aa ap ae))) rfl) (ak (ar (br oM (aD aZ (pv 2) ag) ag (aJ _)))) aE)
  (@ah _ _ _ _ _ (bc (aB cB (pv 0) ap (aJ _)) (ak (ar (aA aY (bb (aa ap (aa ap (aa ap (aa ap (aa ap ae)))))) (aD aZ (pv 2) ag) (fun _ _=>rfl)))) aE)
  (ak (ar (aA aY (bb (aa ap (aa ap (aa ap ae)))) (aD aZ (pv 2) ag) (fun _ _=>rfl))))))))),?_⟩
 have hx':=FG hx;refine⟨zQa,st,zQa,hst,fun p H1 p0 p1 m1 f1=>?_⟩;dsimp only [bC];refine⟨zQa,aK (by simp),fun a1 ha1=>⟨a1,zQa,.inl (.of af),rfl,bh ["wide","high"],zQa,?_⟩⟩
 have s1:=ai ha1 (.lst [V.str "wide",.str "high"]);rw [if_neg (by decide),show inV (.str x) [V.str "wide",.str "high"]=inS x ["wide","high"] from jQ x ["wide","high"]]
 have m2:=m1.grow s1;generalize upd H1 a1 (.lst [V.str "wide",.str "high"])=H2 at s1 m2 ⊢;cases c1:inS x ["wide","high"] with
 | true =>
  refine ax ?_;refine⟨aK (by simp),fun b2 hb2=>?_⟩
  have t2:=ai hb2 (.tup [V.str "hold"]);have e2:upd H2 b2 (.tup [V.str "hold"]) b2=some (.tup [V.str "hold"]):=af;generalize upd H2 b2 (.tup [V.str "hold"])=J2 at t2 e2 ⊢;refine⟨zQa,zQb,⟨by decide,by decide⟩,zQb,(by show(0:Int) < 13; decide),aK (by simp),fun b1 hb1=>?_⟩
  have t1:=ai hb1 (.tup [V.str "fixed",.int (p / 4 % 13)]);have e1:upd J2 b1 (.tup [V.str "fixed",.int (p / 4 % 13)]) b1=some (.tup [V.str "fixed",.int (p / 4 % 13)]):=af;generalize upd J2 b1 (.tup [V.str "fixed",.int (p / 4 % 13)])=J1 at t1 e1 ⊢;refine⟨zQa,zQb,⟨by decide,by decide⟩,zQb,(by show(0:Int) < 3; decide),zQb,aK (by simp),fun b3 hb3=>?_⟩
  have t3:=ai hb3 (.tup [V.str "share",.int (1 + p / 4 % 3)]);have e3:upd J1 b3 (.tup [V.str "share",.int (1 + p / 4 % 3)]) b3=some (.tup [V.str "share",.int (1 + p / 4 % 3)]):=af;generalize upd J1 b3 (.tup [V.str "share",.int (1 + p / 4 % 3)])=J3 at t3 e3 ⊢;refine⟨zQa,zQb,⟨by decide,by decide⟩,zQb,(by show(0:Int) < 30; decide),aK (by simp),fun b4 hb4=>?_⟩
  have t4:=ai hb4 (.tup [V.str "fixed",.int (p / 4 % 30)]);have e4:upd J3 b4 (.tup [V.str "fixed",.int (p / 4 % 30)]) b4=some (.tup [V.str "fixed",.int (p / 4 % 30)]):=af;generalize upd J3 b4 (.tup [V.str "fixed",.int (p / 4 % 30)])=J4 at t4 e4 ⊢;refine⟨aK (by simp),fun b5 hb5=>?_⟩
  have t5:=ai hb5 (.lst [V.ref b2,.ref b1,.ref b3,.ref b4]);have mm:=m2.grow (t2.trans (t1.trans (t3.trans (t4.trans t5))));have u1:=(t3.trans (t4.trans t5)) _ _ e1;have u2:=(t1.trans (t3.trans (t4.trans t5))) _ _ e2;have u3:=(t4.trans t5) _ _ e3;have u4:=t5 _ _ e4;rcases(show p % 4=0\/p % 4=1\/p % 4=2\/p % 4=3 by omega) with e | e | e | e
  ·exact⟨zQa,zQb,(by show(0:Int) < 4; decide),b5,_,_,.ref b2,rfl,rfl,.of af,by rw [e]; rfl,q _ _ _ mm (tr1 u2 (by decide)) (by rw [oN c1]; decide +kernel)⟩
  ·exact⟨zQa,zQb,(by show(0:Int) < 4; decide),b5,_,_,.ref b1,rfl,rfl,.of af,by rw [e]; rfl,q _ _ _ mm (tr2 u1 (by decide) (.int _)) (by rw [oN c1]; exact tJ (by omega) (by omega))⟩
  ·exact⟨zQa,zQb,(by show(0:Int) < 4; decide),b5,_,_,.ref b3,rfl,rfl,.of af,by rw [e]; rfl,q _ _ _ mm (tr2 u3 (by decide) (.int _)) (by rw [oN c1]; exact Bl (by omega) (by omega))⟩
  ·exact⟨zQa,zQb,(by show(0:Int) < 4; decide),b5,_,_,.ref b4,rfl,rfl,.of af,by rw [e]; rfl,q _ _ _ mm (tr2 u4 (by decide) (.int _)) (by rw [oN c1]; exact tJ (by omega) (by omega))⟩
 | false =>
 refine aV ?_;dsimp only [bN];refine⟨zQa,aK (by simp),fun a2 ha2=>⟨a2,zQa,.inl (.of af),rfl,bh ["mostw","mosth"],zQa,?_⟩⟩
 have s2:=ai ha2 (.lst [V.str "mostw",.str "mosth"]);rw [if_neg (by decide),show inV (.str x) [V.str "mostw",.str "mosth"]=inS x ["mostw","mosth"] from jQ x ["mostw","mosth"]]
 have m3:=m2.grow s2;generalize upd H2 a2 (.lst [V.str "mostw",.str "mosth"])=H3 at s2 m3 ⊢;cases c2:inS x ["mostw","mosth"] with
 | true =>
  refine ax ⟨zQa,zQb,(by show(0:Int) < 20; decide),aK (by simp),fun b1 hb1=>?_⟩
  have mm:=m3.grow (ai hb1 (.lst [V.int 400,.int (p % 20)]));rcases(show p / 20 % 2=0\/p / 20 % 2=1 by omega) with e | e
  ·exact⟨zQa,zQb,⟨by decide,by decide⟩,zQb,(by show(0:Int) < 2; decide),b1,_,_,.int 400,rfl,rfl,.of af,by rw [e]; rfl,q _ _ _ mm (.int _) (om (CK x hx' c2) (by omega) (by omega))⟩
  ·exact⟨zQa,zQb,⟨by decide,by decide⟩,zQb,(by show(0:Int) < 2; decide),b1,_,_,.int (p % 20),rfl,rfl,.of af,by rw [e]; rfl,q _ _ _ mm (.int _) (om (CK x hx' c2) (by omega) (by omega))⟩
 | false =>
 refine aV ?_;dsimp only [bN];refine⟨zQa,aK (by simp),fun a3 ha3=>⟨a3,zQa,.inl (.of af),rfl,bh ["leastw","leasth","pad","gap"],zQa,?_⟩⟩
 have s3:=ai ha3 (.lst [V.str "leastw",.str "leasth",.str "pad",.str "gap"]);rw [if_neg (by decide),show inV (.str x) [V.str "leastw",.str "leasth",.str "pad",.str "gap"]=inS x ["leastw","leasth","pad","gap"] from jQ x ["leastw","leasth","pad","gap"]]
 have m4:=m3.grow s3;generalize upd H3 a3 (.lst [V.str "leastw",.str "leasth",.str "pad",.str "gap"])=H4 at s3 m4 ⊢;cases c3:inS x ["leastw","leasth","pad","gap"] with
 | true =>
  refine ax ⟨zQa,zQb,⟨by decide,by decide⟩,aK (by simp),fun b1 hb1=>?_⟩
  have t1:=ai hb1 (.lst [V.int 7,.int 3]);have e1:upd H4 b1 (.lst [V.int 7,.int 3]) b1=_:=af;generalize upd H4 b1 (.lst [V.int 7,.int 3])=J1 at t1 e1 ⊢;refine⟨zQa,aK (by simp),fun b2 hb2=>⟨b2,zQa,.inl (.of af),rfl,bh ["pad","gap"],.inr ⟨zQa,?_⟩⟩⟩
  have t2:=ai hb2 (.lst [V.str "pad",.str "gap"]);have mm:=m4.grow (t1.trans t2);have ok:∀ m:Int,0<=m->m<=9->dg x (.int m)=true:=fun m h0 h9=>by
   rcases Km x hx' c3 with e | e
   ·exact om e h0 (by omega)
   ·exact om e h0 h9
  rw [if_neg (by decide:¬ false=true)]
  cases inV (.str x) [V.str "pad",.str "gap"] with
  | true=>exact⟨b1,_,_,.int 3,rfl,rfl,.of (t2 _ _ e1),rfl,zQb,(by show(0:Int) < 3; decide),q _ _ _ mm (.int _) (ok _ (by omega) (by omega))⟩
  | false=>exact⟨b1,_,_,.int 7,rfl,rfl,.of (t2 _ _ e1),rfl,zQb,(by show(0:Int) < 7; decide),q _ _ _ mm (.int _) (ok _ (by omega) (by omega))⟩
 | false =>
 refine aV ?_;dsimp only [bN];refine⟨zQa,aK (by simp),fun a4 ha4=>⟨a4,zQa,.inl (.of af),rfl,bh ["over","able"],zQa,?_⟩⟩
 have s4:=ai ha4 (.lst [V.str "over",.str "able"]);rw [if_neg (by decide),show inV (.str x) [V.str "over",.str "able"]=inS x ["over","able"] from jQ x ["over","able"]]
 have m5:=m4.grow s4;generalize upd H4 a4 (.lst [V.str "over",.str "able"])=H5 at s4 m5 ⊢;cases c4:inS x ["over","able"] with
 | true=>exact ax ⟨zQa,zQb,(by show(0:Int) < 4; decide),zQb,q _ _ _ m5 (.bl _) (HC c4 _)⟩
 | false =>
 refine aV ?_;dsimp only [bN];refine⟨zQa,rfl,zQa,xC (fun c5=>?_) (fun c5=>?_)⟩
 ·have e:x="fill" := by
   have:=of_decide_eq_true c5;injection this
  subst e;refine⟨aK (by simp),fun b1 hb1=>?_⟩
  have mm:=m5.grow (ai hb1 (.lst [V.str "",.str ".",.str "#",.str "~",.str "x"]));have h5:=emd (r:=p) (show(0:Int) < 5 by decide)
  obtain⟨z,hz,ez⟩:=ky (l:=[("" : Str),".","#","~","x"]) h5.1 h5.2;exact⟨zQa,zQb,(by show(0:Int) < 5; decide),b1,_,_,.str z,rfl,rfl,.of af,ez,q _ _ _ mm (.str _ (Mq z hz).2) (by rw [FU]; exact(Mq z hz).1)⟩
 ·dsimp only [bN]
  have e:x="ink" := Fk x hx' c1 c2 c3 c4 fun z=>c5 (decide_eq_true (by rw [z]))
  subst e;refine⟨aK (by simp),fun b1 hb1=>?_⟩
  have mm:=m5.grow (ai hb1 (.lst [V.str "as",.str "great",.str "small"]));have h3:=emd (r:=p) (show(0:Int) < 3 by decide)
  obtain⟨z,hz,ez⟩:=ky (l:=[("as" : Str),"great","small"]) h3.1 h3.2;exact⟨zQa,zQb,(by show(0:Int) < 3; decide),b1,_,_,.str z,rfl,rfl,.of af,ez,q _ _ _ mm (.str _ (PY z hz).2) (by rw [JU]; exact(PY z hz).1)⟩
def wdJ (p s:Int)(k:Nat):Nat:=((p + s * (0 + (k:Int))) % 12).toNat
def Di (p s:Int)(k:Nat):Str:=bf.getD (wdJ p s k) u7
theorem pz(p s:Int)(k:Nat):(p + s * (0 + (k:Int))) % 12=(wdJ p s k:Int)/\wdJ p s k < 12:=by unfold wdJ; omega
theorem Jn{p s:Int}(hs:s=1\/s=5\/s=7\/s=11){i j:Nat}(hi:i < 12)(hj:j < 12)(h:wdJ p s i=wdJ p s j):i=j:=by
 have a:=(pz p s i).1;have b:=(pz p s j).1;rw [h] at a;rcases hs with rfl | rfl | rfl | rfl <;> omega
theorem DV:∀ i j:Fin 12,bf.getD i.val u7=bf.getD j.val u7->i=j:=by decide +kernel
theorem DT(p s:Int)(k:Nat):db (Di p s k)=true:=by
 have:∀ i:Fin 12,db (bf.getD i.val u7)=true:=by decide +kernel
 exact this ⟨_,(pz p s k).2⟩
theorem Jf(p s:Int)(k:Nat):atI (bf.map V.str) ((p + s * (0 + (k:Int))) % 12)=some (.str (Di p s k)):=by
 obtain⟨e,h⟩:=pz p s k;rw [e];refine bA ?_;unfold Di;rw [o0,A4,i5 (show wdJ p s k < bf.length from h)]; rfl
theorem NW{p s:Int}(hs:s=1\/s=5\/s=7\/s=11){n:Nat}(hn:n<=12):((x6 n).map (Di p s)).Nodup:=by
 refine ah8.mpr (aq6 (fun {i j} hi hj hne e=>?_) (List.nodup_range (n:=n)));have hi':=I0.mp hi;have hj':=I0.mp hj;have e':=DV ⟨_,(pz p s i).2⟩ ⟨_,(pz p s j).2⟩ e;injection e' with e'
 exact hne (Jn hs (by omega) (by omega) e')
theorem wx{l:List (Str×Tr)}(h:∀ p∈l,db p.1=true/\dg p.1 p.2=true):∀ t∈l.map gJ,NoL t:=fun t ht=>by
 obtain⟨p,hp,rfl⟩:=w8.mp ht;exact Jj (.str _) (mj (h p hp).2)
theorem Hx{l:List Ru}(h:∀ r∈l,r.Good):∀ t∈l.map Ru.tr,NoL t:=fun t ht=>by
 obtain⟨p,hp,rfl⟩:=w8.mp ht;exact FF (h p hp).rule
def TsV (H:Hp)(v:V):Prop := ∃ ts:List Ts,TrAt H (.tup (ts.map Ts.tr)) v/\ts.length<=4/\∀ t∈ts,t.Good
theorem TsV.kp{H H':Hp}{v:V}(m:∀ a xs,H a=some (.tup xs)->H' a=some (.tup xs))(h:TsV H v):TsV H' v:=let ⟨ts,a,b,g⟩:=h; ⟨ts,a.kp m (.tup fun t ht=>by obtain⟨x,hx,rfl⟩:=w8.mp ht; exact yH (Ts.good_test (g x hx))),b,g⟩
theorem MW:∀ r:Int,∃ z:Str,("t" : Str) ++ (toString (r % 3):Str)=z/\mL z=true/\(r % 3).natAbs.log2 < 1920/\(toString (r % 3):Str).length<=400:=fun r=>by
 have:=emd (r:=r) (show(0:Int) < 3 by decide)
 have h:r % 3=0\/r % 3=1\/r % 3=2:=by omega
 rcases h with e | e | e <;> rw [e] <;> exact⟨_,rfl,by decide +kernel,by decide +kernel,by decide +kernel⟩
theorem kd4:∀ k∈[("words" : Str),"blank","row","column"],(Ts.kind k).Good:=by
 intro k hk;have:∀ k∈[("words" : Str),"blank","row","column"],Mc k=true/\k.length<=400:=by decide +kernel
 exact this k hk
structure Up(st wl rl:Addr)(es:List V)(H H':Hp):Prop where
 same:aS H H'
 sta:St st H'
 wl:H' wl=some (.lst (bf.map V.str))
 rl:H' rl=some (.lst es)
theorem Up.grow{st wl rl:Addr}{es:List V}{H H1 H2:Hp}(h:Up st wl rl es H H1)(e:aS H1 H2):Up st wl rl es H H2:=⟨h.same.trans e,let ⟨s,x,y⟩:=h.sta; ⟨s,e _ _ x,y⟩,e _ _ h.wl,e _ _ h.rl⟩
theorem Up.ms{st wl rl:Addr}{es:List V}{H H1 H2:Hp}(h:Up st wl rl es H H1)(hs:H st=none)(n1:wl≠st)(n2:rl≠st)(m:Ms st H1 H2):Up st wl rl es H H2:=⟨fun b o e=>m.keep _ _ (fun z=>by rw [z,hs] at e; cases e) (h.same _ _ e),m.st,m.keep _ _ n1 h.wl,m.keep _ _ n2 h.rl⟩
abbrev xb:j9:=(match aW cP with | _ :: _ :: _ :: (.For _ _ (_ :: _ :: _ :: _ :: _ :: (.Assign _ (.ListComp _ _ sc _) _) :: _) _ _) :: _=>sc | _=>aj cP)
theorem uY:Blk (aj cP) iJ xb ["_law_j"] [3,7,8]:=⟨rfl,zQd,zQd,zQd,zQd⟩
theorem wU:(cy iJ ["_law_j"] [3,7,8]).Nodup:=by decide +kernel
abbrev yj:j9:=(match aW cP with | _ :: _ :: _ :: (.For _ _ (_ :: _ :: _ :: _ :: _ :: _ :: (.Assign _ (.Call _ ((.ListComp _ _ sc _) :: _) _ _) _) :: _) _ _) :: _=>sc | _=>aj cP)
theorem uN:Blk (aj cP) iJ yj ["_law_word"] [2]:=⟨rfl,zQd,zQd,zQd,zQd⟩
theorem xp:(cy iJ ["_law_word"] [2]).Nodup:=by decide +kernel
def Fc:Sp:=fun vs H Q _ => ∃(x:Int) (nl:Addr) (c:Cn) (n:Nat),vs=[.int x,.ref nl]/\H nl=some (.lst ((nmL c n).map V.str))/\1<=n/\n<=13 /\
 ∀(l:Addr) (rs:List Ra) (H':Hp),H l=none->aS H H'->RlsAt H' l rs->H' l=some (.lst (rs.map fun r=>V.ref r.a))->Q (.ref l) H'
seal PE PS PSs L2.PA PT PI PG in
theorem Dy(T:Txt K mg A):FnOk P w K mg base CX0 3 A.vm A.vQ lX Fc:=by
 have bu:=(se (P:=P) (w:=w) (base:=base) T).mono (show 1<=2 by decide)
 have Ek:=BC (P:=P) (w:=w) (base:=base) T
 exists T.lZ.F.ok bQ
 ·obtain⟨x,nl,c,n,rfl,_⟩:=h; rfl
 obtain⟨x,nl,c,n,rfl,hn,n1,n13,q⟩:=h;refine⟨_,@ah _ _ _ _ _ (aR (i:=2) bQ.nd rfl (B9 rfl) (bb (aa (aD bZ ag (aD aZ (pv 0) ag)) ae)))
  (@ah _ _ _ _ _ (aR (i:=3) bQ.nd rfl (B9 rfl) (bb (aa ap (aa ap (aa ap (aa ap (aa ap (aa ap (aa ap (aa ap (aa ap (aa ap (aa ap (aa ap ae))))))))))))))
  (@ah _ _ _ _ _ (aR (i:=4) bQ.nd rfl (m9 rfl) (bb ae))
  (@ah _ _ _ _ _ (dZ F7 rfl (cG rfl T.cq (aa (aD aZ (b9 bu hr rfl T.aw (aa (pv 2) (aa ag ae))) ag) ae)) (aN (i:=5) bQ.nd rfl (m9 rfl)) (@ah _ _ _ _ _ (aR (i:=6) bQ.nd rfl (m9 rfl) (bb (aa (bU ae) (aa (bU (aa (bU (aa ap (aa (aA aY (bb (aa ap (aa ap (aa ap (aa ap ae))))) (aD aZ (b9 bu hr rfl T.aw (aa (pv 2) (aa ag ae))) ag) (fun _ _=>rfl)) ae))) ae)) ae))))
  (@ah _ _ _ _ _ (aR (i:=6) bQ.nd rfl (m9 rfl) (aD rA (pv 6) (aD HF (bb (aa (bU (aa (bU (aa ap (aa (aA aY (pv 1) (aD aZ (b9 bu hr rfl T.aw (aa (pv 2) (aa ag ae))) (aq aG rfl T.bM bT (aa (pv 1) ae))) (fun _ _=>rfl)) ae))) ae)) ae)) ag)))
  (@ah _ _ _ _ _ (aR (i:=6) bQ.nd rfl (m9 rfl) (aD rA (pv 6) (aD HF (bb (aa (bU (aa (bU (aa ap (aa (aD jw ap (gC oJ rfl T.gQ kz (aa (aD aZ (b9 bu hr rfl T.aw (aa (pv 2) (aa ag ae))) ag) ae))) ae))) ae)) ae)) ag)))
  (@ah _ _ _ _ _ (aR (i:=7) bQ.nd rfl (B9 rfl) (aD aZ (b9 bu hr rfl T.aw (aa (pv 2) (aa ag ae))) ag))
  (@ah _ _ _ _ _ (aR (i:=8) bQ.nd rfl (B9 rfl) (aA aY (bb (aa ag (aa ag (aa ag (aa ag ae))))) (aD aZ (b9 bu hr rfl T.aw (aa (pv 2) (aa ag ae))) ag) (fun _ _=>rfl)))
  (@ah _ _ _ _ _ (nG (i:=9) uY rfl (cG rfl T.cq (aa (aD bZ ag (aD aZ (b9 bu hr rfl T.aw (aa (pv 2) (aa ag ae))) ag)) ae)) (fun _ _ _ _ _=>aN (i:=0) wU rfl (.inl rfl)) (fun _ _ _ _ _=>cr) (fun _ _ _ _ _=>aA (oE (K:=K) rfl) (pv 1) (aD aZ (aD bZ (pv 2) (aD wO (pv 3) (pv 0))) ag) (fun _ _=>rfl)) bQ.nd rfl rfl)
  (@ah _ _ _ _ _ (aR (i:=10) bQ.nd rfl (m9 rfl) (gC mH rfl T.cw eI (aa (bO uN rfl (cZ (pv 9)) (fun _ _ _ _ _=>aN (i:=0) xp rfl (.inl rfl)) (fun _ _ _ _ _=>cr) (fun _ _ _ _ _=>bU (aa (pv 0) (aa (b9 Ek hr rfl T.kZ (aa (pv 0) (aa (pv 1) ae))) ae)))) ae)))
  (ak (bB (eZ F1 O4 O5 cX (pv 4) (aa (bU (aa (aD aZ (b9 bu hr rfl T.aw (aa (pv 2) (aa ag ae))) ag) (aa (aA aY (pv 6) (aD aZ (b9 bu hr rfl T.aw (aa (pv 2) (aa ag ae))) ag) (fun _ _=>rfl)) (aa (pv 10) ae)))) ae))))))))))))
  (ak (ar (pv 4)))))),?_⟩
 refine⟨zQa,zQb,(by show(0:Int) < 2147483646; decide),zQb,aK (by simp),fun st hst=>?_⟩
 have s1:=ai hst (.lst [.int (1 + x % 2147483646)]);have S1:St st (upd H st (.lst [.int (1 + x % 2147483646)])):=St.mk' x;generalize upd H st (.lst [.int (1 + x % 2147483646)])=H1 at s1 S1 ⊢;refine⟨aK (by simp),fun wl hwl=>?_⟩
 have s2:=ai hwl (.lst (bf.map V.str));have e2:upd H1 wl (.lst (bf.map V.str)) wl=_:=af;have S2:St st (upd H1 wl (.lst (bf.map V.str))):=let ⟨s,x,y⟩:=S1; ⟨s,s2 _ _ x,y⟩
 have nwl:=S1.ne hwl;show Ec _ _ _ _ (upd H1 wl (.lst (bf.map V.str)));generalize upd H1 wl (.lst (bf.map V.str))=H2 at s2 e2 S2 ⊢;refine⟨aK (by simp),fun rl hrl=>?_⟩
 have s3:=ai hrl (.lst []);have e3:upd H2 rl (.lst []) rl=some (.lst []):=af;have nrl:=S2.ne hrl;have nwr:wl≠rl:=fun z=>by rw [<- z,e2] at hrl; cases hrl
 have U3:Up st wl rl [] H (upd H2 rl (.lst [])):=⟨(s1.trans s2).trans s3,let ⟨s,x,y⟩:=S2; ⟨s,s3 _ _ x,y⟩,s3 _ _ e2,e3⟩
 have hrlH:H rl=none:=none_of (s1.trans s2) hrl;generalize upd H2 rl (.lst [])=H3 at U3 ⊢;clear s1 s2 s3 e2 e3 S1 S2;refine⟨zQa,st,0,rfl,U3.sta,fun r H4 _ _ m4 _=>⟨zQb,(by show(0:Int) < 10; decide),?_⟩⟩
 have h10:=emd (r:=r) (show(0:Int) < 10 by decide)
 have ln:(nmL c n).length=n:=by unfold nmL; simp
 refine⟨zQa,by omega,by omega,gG (n:=(r % 10).toNat) (fun i σ H' => ∃(v5 v6 v7 v8 v9 v10:Option V) (l:List Ru) (es:List V),σ=[some (.int x),some (.ref nl),some (.ref st),some (.ref wl),some (.ref rl),v5,v6,v7,v8,v9,v10]/\Up st wl rl es H H'/\cL H' (l.map Ru.tr) es/\(∀ r∈l,r.Good)/\l.length=i) ⟨none,none,none,none,none,none,[],[],rfl,U3.ms hst nwl nrl m4,.nil,fun r h=>(by cases h),rfl⟩ ?_ ?_⟩
 ·rintro i σ H5 hi ⟨v5,v6,v7,v8,v9,v10,l,es,rfl,U5,T5,g5,l5⟩
  dsimp only [bC];refine⟨aK (by simp),fun u0 hu0=>?_⟩
  have a0:TsV (upd H5 u0 (.tup [])) (.ref u0):=⟨[],.tup' af .nil,by decide,fun t h=>by cases h⟩
  have k5:=ai hu0 (.tup []);have U6:=U5.grow k5;generalize upd H5 u0 (.tup [])=H6 at k5 a0 U6 ⊢;refine⟨aK (by simp),fun q1 hq1=>?_⟩
  have k6:=ai hq1 (.lst [V.str "words",.str "blank",.str "row",.str "column"]);have U7:=U6.grow k6;have a1:=a0.kp fun b vs e=>k6 b _ e;have nq1:=U6.sta.ne hq1;refine⟨zQa,st,0,rfl,U7.sta,fun r1 H8 _ _ m8 _=>⟨zQb,(by show(0:Int) < 4; decide),?_⟩⟩
  have h4:=emd (r:=r1) (show(0:Int) < 4 by decide)
  obtain⟨kd,hkd,ekd⟩:=ky (l:=[("words" : Str),"blank","row","column"]) h4.1 h4.2;refine⟨q1,_,_,.str kd,rfl,rfl,.of (m8.keep _ _ nq1 af),ekd,aK (by simp),fun t1 ht1=>?_⟩
  have a2:=a1.kp (gm m8 U7.sta);have U8:=U7.ms hst nwl nrl m8;have k8:=ai ht1 (.tup [V.str "kind",.str kd]);have e8:upd H8 t1 (.tup [V.str "kind",.str kd]) t1=_:=af;have U9:=U8.grow k8;have a3:=a2.kp fun b vs e=>k8 b _ e;generalize upd H8 t1 (.tup [V.str "kind",.str kd])=H9 at k8 e8 U9 a3 ⊢;refine⟨aK (by simp),fun u1 hu1=>?_⟩
  have k9:=ai hu1 (.tup [V.ref t1]);have b0:TsV (upd H9 u1 (.tup [V.ref t1])) (.ref u1):=⟨[.kind kd],.tup' af (.cons (Ts.at (t:=.kind kd) (kd4 kd hkd) (k9 _ _ e8)) .nil),(by show 1<=4; decide),fun t h=>by rw [A5.mp h]; exact kd4 kd hkd⟩
  have U10:=U9.grow k9;have a4:=a3.kp fun b vs e=>k9 b _ e;generalize upd H9 u1 (.tup [V.ref t1])=H10 at k9 b0 U10 a4 ⊢;refine⟨aK (by simp),fun tl htl=>?_⟩
  have k10:=ai htl (.lst [V.ref u0,.ref u1]);have el:upd H10 tl (.lst [V.ref u0,.ref u1]) tl=_:=af;have U11:=U10.grow k10;have a5:=a4.kp fun b vs e=>k10 b _ e;have b1:=b0.kp fun b vs e=>k10 b _ e;have ntl:=U10.sta.ne htl;generalize upd H10 tl (.lst [V.ref u0,.ref u1])=H11 at k10 el U11 a5 b1 ⊢;have K11:∀ a xs,H5 a=some (.tup xs)->H11 a=some (.tup xs):=fun a xs e=>k10 _ _ (k9 _ _ (k8 _ _ (gm m8 U7.sta _ _ (k6 _ _ (k5 _ _ e)))));clear a0 a1 a2 a3 a4 b0 k5 k6 k8 k9 k10 U6 U7 U8 U9 U10 e8 m8;clear hu0 hq1 ht1 hu1 htl;dsimp only [bC];refine⟨zQa,zQa,zQa,st,0,rfl,U11.sta,fun r2 H12 _ _ m12 _=>?_⟩;have U12:=U11.ms hst nwl nrl m12;have en:=U12.same _ _ hn;refine⟨zQa,nl,zQa,.inl (.of en),zQb,(by rw [i4,ln]; show(0:Int) < (n:Int); omega),?_⟩
  rw [i4,ln];have hn2:=emd (r:=r2) (show(0:Int) < (n:Int) by omega)
  obtain⟨nm2,hnm2,enm2⟩:=ky (l:=nmL c n) hn2.1 (by rw [ln]; exact hn2.2)
  have gn:mL nm2=true:=by
   obtain⟨k,_,rfl⟩:=w8.mp hnm2;exact CA c k
  refine⟨nl,_,_,.str nm2,rfl,rfl,.of en,enm2,aK (by simp),fun t2 ht2=>?_⟩
  have a6:=a5.kp (gm m12 U11.sta);have b2:=b1.kp (gm m12 U11.sta);have el2:=m12.keep _ _ ntl el;have k12:=ai ht2 (.tup [V.str "name",.str nm2]);have e12:upd H12 t2 (.tup [V.str "name",.str nm2]) t2=_:=af;have U13:=U12.grow k12;replace el2:=k12 _ _ el2;replace a6:=a6.kp fun b vs e=>k12 b _ e;replace b2:=b2.kp fun b vs e=>k12 b _ e;generalize upd H12 t2 (.tup [V.str "name",.str nm2])=H13 at k12 e12 U13 el2 a6 b2 ⊢;refine⟨aK (by simp),fun u2 hu2=>?_⟩
  have k13:=ai hu2 (.tup [V.ref t2]);have c0:TsV (upd H13 u2 (.tup [V.ref t2])) (.ref u2):=⟨[.name nm2],.tup' af (.cons (Ts.at (t:=.name nm2) gn (k13 _ _ e12)) .nil),(by show 1<=4; decide),fun t h=>by rw [A5.mp h]; exact gn⟩
  have U14:=U13.grow k13;replace el2:=k13 _ _ el2;replace a6:=a6.kp fun b vs e=>k13 b _ e;replace b2:=b2.kp fun b vs e=>k13 b _ e;generalize upd H13 u2 (.tup [V.ref t2])=H14 at k13 c0 U14 el2 a6 b2 ⊢;refine⟨aK (by simp),fun l1 hl1=>⟨l1,3,zQa,rfl,af,by decide,by decide,(by show 1 * 3<=sizeLine; decide),fun l2 hl2=>?_⟩⟩
  have k14:=(ai hl1 (.lst [V.ref u2])).trans (ai hl2 (.lst (A1 (3:Int).toNat [V.ref u2]).flatten));refine⟨tl,l2,zQb,k14 _ _ el2,af,(by show 2 + 3<=sizeLine; decide),fun tm htm=>?_⟩
  replace k14:=k14.trans (ai htm (.lst ([V.ref u0,.ref u1] ++ (A1 (3:Int).toNat [V.ref u2]).flatten)));have em:upd (upd (upd H14 l1 (.lst [V.ref u2])) l2 (.lst (A1 (3:Int).toNat [V.ref u2]).flatten)) tm (.lst ([V.ref u0,.ref u1] ++ (A1 (3:Int).toNat [V.ref u2]).flatten)) tm=some (.lst [V.ref u0,.ref u1,.ref u2,.ref u2,.ref u2]):=af;have U15:=U14.grow k14;replace a6:=a6.kp fun b vs e=>k14 b _ e;replace b2:=b2.kp fun b vs e=>k14 b _ e;replace c0:=c0.kp fun b vs e=>k14 b _ e;have ntm:tm≠st:=fun z=>by
   obtain⟨s,e,_⟩:=U14.sta;have:=(ai hl1 (.lst [V.ref u2])).trans (ai hl2 (.lst (A1 (3:Int).toNat [V.ref u2]).flatten)) _ _ e;rw [z,this] at htm; cases htm
  generalize upd (upd (upd H14 l1 (.lst [V.ref u2])) l2 (.lst (A1 (3:Int).toNat [V.ref u2]).flatten)) tm (.lst ([V.ref u0,.ref u1] ++ (A1 (3:Int).toNat [V.ref u2]).flatten))=H15 at k14 em U15 a6 b2 c0 ⊢;have K15:∀ a xs,H5 a=some (.tup xs)->H15 a=some (.tup xs):=fun a xs e=>k14 _ _ (k13 _ _ (k12 _ _ (gm m12 U11.sta _ _ (K11 _ _ e))));clear k12 k13 k14 e12 K11 el2 U11 U12 U13 U14 a5 b1 m12 en ht2 hu2 hl1 hl2 htm el;dsimp only [bC];refine⟨zQa,zQa,st,0,rfl,U15.sta,fun r3 H16 _ _ m16 _=>?_⟩;obtain⟨tg,etg,gtg,lg,lt⟩:=MW r3;refine⟨zQb,(by show(0:Int) < 3; decide),r3 % 3,rfl,lg,zQb,aK (by show 1 + (toString (r3 % 3):Str).length<=1000; omega),aK (by simp),fun t3 ht3=>?_⟩
  have etg':u5 "t" ++ (toString (r3 % 3):Str)=tg:=etg;rw [etg'];have U16:=U15.ms hst nwl nrl m16;replace a6:=a6.kp (gm m16 U15.sta);replace b2:=b2.kp (gm m16 U15.sta);replace c0:=c0.kp (gm m16 U15.sta);replace em:=m16.keep _ _ ntm em;have k16:=ai ht3 (.tup [V.str "tag",.str tg]);have e16:upd H16 t3 (.tup [V.str "tag",.str tg]) t3=_:=af;have U17:=U16.grow k16;replace em:=k16 _ _ em;replace a6:=a6.kp fun b vs e=>k16 b _ e;replace b2:=b2.kp fun b vs e=>k16 b _ e;replace c0:=c0.kp fun b vs e=>k16 b _ e;generalize upd H16 t3 (.tup [V.str "tag",.str tg])=H17 at k16 e16 U17 em a6 b2 c0 ⊢;refine⟨aK (by simp),fun u3 hu3=>?_⟩
  have k17:=ai hu3 (.tup [V.ref t3]);have d0:TsV (upd H17 u3 (.tup [V.ref t3])) (.ref u3):=⟨[.tag tg],.tup' af (.cons (Ts.at (t:=.tag tg) gtg (k17 _ _ e16)) .nil),(by show 1<=4; decide),fun t h=>by rw [A5.mp h]; exact gtg⟩
  have U18:=U17.grow k17;replace em:=k17 _ _ em;replace a6:=a6.kp fun b vs e=>k17 b _ e;replace b2:=b2.kp fun b vs e=>k17 b _ e;replace c0:=c0.kp fun b vs e=>k17 b _ e;generalize upd H17 u3 (.tup [V.ref t3])=H18 at k17 d0 U18 em a6 b2 c0 ⊢;refine⟨aK (by simp),fun l1 hl1=>⟨l1,2,zQa,rfl,af,by decide,by decide,(by show 1 * 2<=sizeLine; decide),fun l2 hl2=>?_⟩⟩
  have k18:=(ai hl1 (.lst [V.ref u3])).trans (ai hl2 (.lst (A1 (2:Int).toNat [V.ref u3]).flatten));refine⟨tm,l2,zQb,k18 _ _ em,af,(by show 5 + 2<=sizeLine; decide),fun tn htn=>?_⟩
  have ntn:tn≠st:=fun z=>by
   obtain⟨s,e,_⟩:=U18.sta;have:=k18 _ _ e;rw [z,this] at htn; cases htn
  replace k18:=k18.trans (ai htn (.lst ([V.ref u0,.ref u1,.ref u2,.ref u2,.ref u2] ++ (A1 (2:Int).toNat [V.ref u3]).flatten)));have eT:upd (upd (upd H18 l1 (.lst [V.ref u3])) l2 (.lst (A1 (2:Int).toNat [V.ref u3]).flatten)) tn (.lst ([V.ref u0,.ref u1,.ref u2,.ref u2,.ref u2] ++ (A1 (2:Int).toNat [V.ref u3]).flatten)) tn=some (.lst [V.ref u0,.ref u1,.ref u2,.ref u2,.ref u2,.ref u3,.ref u3]):=af;have U19:=U18.grow k18;have TV:∀ v∈[V.ref u0,.ref u1,.ref u2,.ref u2,.ref u2,.ref u3,.ref u3],TsV (upd (upd (upd H18 l1 (.lst [V.ref u3])) l2 (.lst (A1 (2:Int).toNat [V.ref u3]).flatten)) tn (.lst ([V.ref u0,.ref u1,.ref u2,.ref u2,.ref u2] ++ (A1 (2:Int).toNat [V.ref u3]).flatten))) v:=fun v hv=>by
   have kk:∀ b vs,H18 b=some (.tup vs)->_:=fun b vs e=>k18 b _ e;simp only [l6,C1,or_false] at hv
   rcases hv with rfl | rfl | rfl | rfl | rfl | rfl | rfl
   ·exact a6.kp kk
   ·exact b2.kp kk
   ·exact c0.kp kk
   ·exact c0.kp kk
   ·exact c0.kp kk
   ·exact d0.kp kk
   ·exact d0.kp kk
  generalize upd (upd (upd H18 l1 (.lst [V.ref u3])) l2 (.lst (A1 (2:Int).toNat [V.ref u3]).flatten)) tn (.lst ([V.ref u0,.ref u1,.ref u2,.ref u2,.ref u2] ++ (A1 (2:Int).toNat [V.ref u3]).flatten))=H19 at k18 eT U19 TV ⊢;generalize hTL:[V.ref u0,.ref u1,.ref u2,.ref u2,.ref u2,.ref u3,.ref u3]=TL at eT TV;have lT:TL.length=7:=by rw [<- hTL]; rfl
  have K19:∀ a xs,H5 a=some (.tup xs)->H19 a=some (.tup xs):=fun a xs e=>k18 _ _ (k17 _ _ (k16 _ _ (gm m16 U15.sta _ _ (K15 _ _ e))));clear a6 b2 c0 d0 em K15 k16 k17 k18 U15 U16 U17 U18 e16 m16 ht3 hu3 hl1 hl2 htn;dsimp only [bC];refine⟨zQa,st,0,rfl,U19.sta,fun r4 H20 _ _ m20 _=>⟨zQb,(by show(0:Int) < 12; decide),?_⟩⟩
  have U20:=U19.ms hst nwl nrl m20;have kT:=gm m20 U19.sta;replace eT:=m20.keep _ _ ntn eT;obtain⟨pa,hpa⟩:∃ pa,r4 % 12=pa:=⟨zQa⟩;dsimp only [bC];refine⟨aK (by simp),fun lb hlb=>?_⟩
  have k20:=ai hlb (.lst [V.int 1,.int 5,.int 7,.int 11]);have nlb:=U20.sta.ne hlb;have U21:=U20.grow k20;replace eT:=k20 _ _ eT;refine⟨zQa,st,0,rfl,U21.sta,fun r5 H22 _ _ m22 _=>⟨zQb,(by show(0:Int) < 4; decide),?_⟩⟩
  obtain⟨sp,hsp,hs4⟩:∃ sp:Int,atI [V.int 1,.int 5,.int 7,.int 11] (r5 % 4)=some (.int sp)/\(sp=1\/sp=5\/sp=7\/sp=11):=by
   have:=emd (r:=r5) (show(0:Int) < 4 by decide)
   rcases(show r5 % 4=0\/r5 % 4=1\/r5 % 4=2\/r5 % 4=3 by omega) with e | e | e | e <;> rw [e]
   ·exact⟨1,rfl,.inl rfl⟩
   ·exact⟨5,rfl,.inr (.inl rfl)⟩
   ·exact⟨7,rfl,.inr (.inr (.inl rfl))⟩
   ·exact⟨11,rfl,.inr (.inr (.inr rfl))⟩
  refine⟨lb,zQc,.of (m22.keep _ _ nlb af),hsp,?_⟩;have U22:=U21.ms hst nwl nrl m22;replace eT:=m22.keep _ _ ntn eT;have kT2:∀ a xs,H19 a=some (.tup xs)->H22 a=some (.tup xs):=fun a xs e=>gm m22 U21.sta _ _ (k20 _ _ (kT _ _ e));dsimp only [bC];refine⟨zQa,st,0,rfl,U22.sta,fun r6 H23 _ _ m23 _=>⟨zQb,(by show(0:Int) < 5; decide),zQb,?_⟩⟩
  have h5:=emd (r:=r6) (show(0:Int) < 5 by decide)
  have U23:=U22.ms hst nwl nrl m23;replace eT:=m23.keep _ _ ntn eT;have kT3:∀ a xs,H19 a=some (.tup xs)->H23 a=some (.tup xs):=fun a xs e=>gm m23 U22.sta _ _ (kT2 _ _ e);clear kT kT2 m20 m22 m23 k20 hlb;refine⟨zQa,by omega,by omega,nU (n:=(1 + r6 % 5).toNat) (fun j acc H'=>H'=H23/\acc=((x6 j).map (Di pa sp)).map V.str/\j<=5) ⟨rfl,rfl,by decide⟩ (fun j acc H' z=>?_) (fun j acc H' R k hj z=>?_) fun acc H' z=>?_⟩
  ·rw [z.2.1,i4,i4,R5]; exact az (by have:=z.2.2; omega)
  ·obtain⟨rfl,rfl,h⟩:=z
   dsimp only [gW]; rw [if_pos rfl];refine⟨zQa,zQa,zQa,zQa,zQb,.inr ⟨by omega,by omega⟩,zQb,zQb,(by show(0:Int) < 12; decide),wl,zQc,.of U23.wl,(by rw [hpa]; exact Jf pa sp j),k _ _ ⟨rfl,?_,by omega⟩⟩
   rw [T7,j6,j6]; rfl
  obtain⟨rfl,rfl,_⟩:=z;intro sl hsl;generalize hws:(x6 (1 + r6 % 5).toNat).map (Di pa sp)=ws at hsl ⊢;have lws:ws.length=(1 + r6 % 5).toNat:=by rw [<- hws,i4,R5]
  have wnd:ws.Nodup:=by rw [<- hws]; exact NW hs4 (by omega)
  have wpr:∀ x∈ws,db x=true:=fun x hx=>by
   rw [<- hws] at hx;obtain⟨k,_,rfl⟩:=w8.mp hx;exact DT _ _ _
  have k24:=ai hsl (.lst (ws.map V.str));have es24:upd H' sl (.lst (ws.map V.str)) sl=_:=af;have U24:=U23.grow k24;have nsl:=U23.sta.ne hsl;replace eT:=k24 _ _ eT;have kT4:∀ a xs,H19 a=some (.tup xs)->upd H' sl (.lst (ws.map V.str)) a=some (.tup xs):=fun a xs e=>k24 _ _ (kT3 _ _ e);generalize upd H' sl (.lst (ws.map V.str))=H24 at k24 es24 U24 eT kT4 ⊢;dsimp only [bC];refine⟨zQa,sl,rfl,.inl ⟨⟨_,.of es24⟩,iN (xs:=ws.map V.str) (fun j acc H' => ∃ ps:List (Str×Tr),Ms st H24 H'/\cL H' (ps.map gJ) acc/\(∀ p∈ps,db p.1=true/\dg p.1 p.2=true)/\ps.map (·.1)=ws.take j/\j<=5) ⟨[],.of U24.sta (.refl _),.nil,fun p h=>(by cases h),rfl,by decide⟩ (fun j acc H' z=>?_) (fun j acc H' z=>?_) (fun j v acc H' R kk hv z=>?_) fun acc H' z=>?_⟩⟩
  ·obtain⟨_,m,_⟩:=z; exact .of (m.keep _ _ nsl es24)
  ·obtain⟨ps,_,tr,_,ep,h5⟩:=z
   have h1:=tr.len;have h2:=congrArg Q2 ep;rw [i4] at h1 h2;rw [A0] at h2;exact az (by omega)
  ·obtain⟨ps,m,tr,hg,ep,h5⟩:=z
   rw [o0] at hv;cases hw:ws[j]? with
   | none=>rw [hw] at hv; cases hv
   | some y =>
   rw [hw] at hv;cases hv;have hy:=wpr y (C5 hw);have hjl:=(r9.mp hw).1;dsimp only [gW]; rw [if_pos rfl];refine⟨zQa,zQa,zQa,st,y,rfl,m.st,hy,fun v t H25 m25 ht hv=>⟨aK (by simp),fun ta hta=>?_⟩⟩
   have s7:=ai hta (.tup [V.str y,v]);refine kk _ _ ⟨ps ++ [(y,t)],(m.trans m25).grow s7,?_,fun p hp=>?_,?_,by omega⟩
   ·rw [j6]
    exact((Bu (gm m25 m.st) tr (wx hg)).same s7).append (.one (tr2 af (Aa hy) (ht.same s7)))
   ·rcases B3.mp hp with h | h
    ·exact hg p h
    ·rw [A5.mp h]; exact⟨hy,hv⟩
   ·rw [j6,ep,B7,hw]; rfl
  obtain⟨ps,m25,tr,hg,ep,_⟩:=z;rw [i4,B5] at ep;intro pl hpl;refine⟨pl,zQa,.inl ⟨.of af,fun pt hpt=>?_⟩⟩;have k25:=(ai hpl (.lst acc)).trans (ai hpt (.tup acc));have eP:TrAt (upd (upd H' pl (.lst acc)) pt (.tup acc)) (.tup (ps.map gJ)) (.ref pt):=.tup' af (tr.same k25);have U26:=(U24.ms hst nwl nrl m25).grow k25;replace eT:=k25 _ _ (m25.keep _ _ ntn eT);have kT5:∀ a xs,H19 a=some (.tup xs)->upd (upd H' pl (.lst acc)) pt (.tup acc) a=some (.tup xs):=fun a xs e=>k25 _ _ (gm m25 U24.sta _ _ (kT4 _ _ e));generalize upd (upd H' pl (.lst acc)) pt (.tup acc)=H26 at k25 eP U26 eT kT5 ⊢;dsimp only [bC];refine⟨zQa,.inl ⟨rfl,_,.of U26.rl⟩,zQa,st,0,rfl,U26.sta,fun r7 H27 _ _ m27 _=>⟨zQb,(by show(0:Int) < 4; decide),zQa,zQa,st,0,rfl,m27.st,fun r8 H28 _ _ m28 _=>⟨zQb,(by show(0:Int) < 7; decide),?_⟩⟩⟩
  have h4':=emd (r:=r7) (show(0:Int) < 4 by decide)
  have h7:=emd (r:=r8) (show(0:Int) < 7 by decide)
  have mm:=m27.trans m28;have U28:=U26.ms hst nwl nrl mm;have kT6:∀ a xs,H19 a=some (.tup xs)->H28 a=some (.tup xs):=fun a xs e=>gm mm U26.sta _ _ (kT5 _ _ e);refine MN (.of (mm.keep _ _ ntn eT)) h7.1 (by rw [lT]; exact h7.2) fun v hv=>?_
  obtain⟨ts,at_,lt4,gts⟩:=(TV v hv).kp kT6;refine⟨zQa,aK (by simp),fun ra hra=>?_⟩
  have gd:Ru.Good ⟨r7 % 4,ts,ps⟩:=by
   have lp:=congrArg Q2 ep;rw [i4] at lp;exact⟨h4'.1,by show r7 % 4<=99; omega,lt4,gts,by show 1<=ps.length; omega,by show ps.length<=12; omega,hg,by show(ps.map (·.1)).Nodup; rw [ep]; exact wnd⟩
  have k28:=ai hra (.tup [V.int (r7 % 4),v,.ref pt]);have eP2:TrAt H28 (.tup (ps.map gJ)) (.ref pt):=eP.ms mm U26.sta (.tup (wx hg));have eR:TrAt (upd H28 ra (.tup [V.int (r7 % 4),v,.ref pt])) (Ru.tr ⟨r7 % 4,ts,ps⟩) (.ref ra):=.tup' af (.cons (.int _) (.cons (at_.same k28) (.cons (eP2.same k28) .nil)));have U29:=U28.grow k28;have T29:cL (upd H28 ra (.tup [V.int (r7 % 4),v,.ref pt])) (l.map Ru.tr) es:=Bu (H:=H5) (fun a xs e=>k28 _ _ (kT6 _ _ (K19 _ _ e))) T5 (Hx g5);generalize upd H28 ra (.tup [V.int (r7 % 4),v,.ref pt])=H29 at k28 eR U29 T29 ⊢;refine⟨rl,zQb,U29.rl,(by have:=T5.len; rw [i4] at this; exact az (by omega)),?_⟩
  have g6:∀ r∈l ++ [(⟨r7 % 4,ts,ps⟩:Ru)],r.Good:=fun r hr=>by
   rcases B3.mp hr with h | h
   ·exact g5 r h
   ·rw [A5.mp h]; exact gd
  refine⟨_,_,_,_,_,_,l ++ [⟨r7 % 4,ts,ps⟩],es ++ [V.ref ra],rfl,⟨fun b o e=>by rw [am (aH e hrlH)]; exact U29.same _ _ e,?_,by rw [am nwr]; exact U29.wl,af⟩,?_,g6,by rw [A2,l5]; rfl⟩
  ·obtain⟨s,e,y⟩:=U29.sta; exact⟨s,by rw [am (w9 nrl)]; exact e,y⟩
  ·refine Bu (Mx U29.rl) ?_ (Hx g6)
   rw [j6];exact T29.append (.one eR)
 ·rintro σ H5 ⟨v5,v6,v7,v8,v9,v10,l,es,rfl,U5,T5,g5,l5⟩
  obtain⟨rs,e1,e2,e3⟩:=Fd g5 T5;have lr:rs.length=l.length:=by rw [<- e2,i4]
  refine⟨zQa,q rl rs H5 hrlH U5.same ⟨.inl (by rw [U5.rl,e1]),e3,fun r hr=>g5 _ (by rw [<- e2]; exact w8.mpr ⟨r,hr,rfl⟩),by omega⟩ (by rw [U5.rl,e1])⟩
structure ShL(K:i3)(H:Hp)(D:Addr)(ds:List (Str×Addr))(ab:Str->Bool):Prop where
 ad:H D=some (.dK (ds.map fun p=>((i0 p.1:Key),V.ref p.2)))
 it:∀ p∈ds,∃(f:Str->V) (g:Str->Tr),H p.2=some (.dK (fnL f))/\f "able" = .bl (ab p.1)/\∀ w∈bf,kD K H (g w) (f w)/\NoL (g w)
theorem ShL.kn{K:i3}{H H':Hp}{D:Addr}{ds:List (Str×Addr)}{ab:Str->Bool}(h:ShL K H D ds ab)(k:Kn H H'):ShL K H' D ds ab:=⟨k.dK h.ad,fun p hp=>let ⟨f,g,a,b,c⟩:=h.it p hp; ⟨f,g,k.dK a,b,fun w hw=>⟨(c w hw).1.kn k (c w hw).2,(c w hw).2⟩⟩⟩
theorem ShL.same{K:i3}{H H':Hp}{D:Addr}{ds:List (Str×Addr)}{ab:Str->Bool}(h:ShL K H D ds ab)(s:aS H H'):ShL K H' D ds ab:=h.kn (.of s)
theorem FT(xs:List V)(n:Nat)(h:n<=xs.length):oG xs (some (n:Int)) none=xs.drop n:=by
 unfold oG;rw [HT.sIx_none,HT.sIx_nat,ac4 h,ap5 (by rw [G2]; exact i6 _)]
theorem zK(xs:List V)(n:Nat):oG xs (some (n:Int)) none=xs.drop n:=by
 by_cases h:n<=xs.length
 ·exact FT xs n h
 ·unfold oG
  rw [HT.sIx_none,HT.sIx_nat,Nat.min_eq_right (by omega),List.drop_length,List.take_nil,List.drop_of_length_le (by omega)]
theorem Kd{rs:List Ra}(good:∀ r∈rs,r.ru.Good){xs:List Lr}{k j:Nat}{w:Str}(h:ke xs rs k w=some j):dg w (inT (rD rs j) w)=true:=by
 have mem:∀(l:List Nat) (b:Option Nat) (m:Nat),l.foldl (bet rs) b=some m->m∈l\/b=some m:=by
  intro l
  induction l with
  | nil=>exact fun b m h=>.inr h
  | cons i l ih =>
   intro b m h;rcases ih _ m h with h | h
   ·exact .inl (u9 _ h)
   ·cases b with
    | none=>cases h; exact .inl (l8 ..)
    | some i' =>
     have h':(if (rD rs i').rk<=(rD rs i).rk then some i else some i')=some m:=h
     split at h'
     ·cases h'; exact .inl (l8 ..)
     ·cases h'; exact .inr rfl
 rcases mem _ _ _ h with h | h
 ·rw [G5] at h
  obtain⟨h1,h2⟩:=h;have hj:j < rs.length:=by
   have:=G5.mp h1;exact I0.mp this.1
  have er:rD rs j=rs[j]:=by unfold rD; rw [A4,i5 hj]; rfl
  rw [er] at h2 ⊢;unfold oj at h2;unfold inT;obtain⟨s,hs,es⟩:=G4.mp h2;cases hf:rs[j].ss.find? (fun s=>s.w == w) with
  | none=>have:=List.find?_eq_none.mp hf s hs; exact absurd es this
  | some s' =>
   have hm:=aq3 hf;have hw:s'.w=w:=by simpa using List.find?_some hf
   have:=(Ra.sets_ok (good _ (E9 hj)) hm).2;rw [hw] at this;exact this
 ·cases h
theorem Kh{c:Cn}{xs:List Lr}(ok:RwsOk c xs){rs:List Ra}(good:∀ r∈rs,r.ru.Good){k:Nat}(hk:k < xs.length):∃ b,gOf xs rs k "able" = .bl b:=by
 cases h:ke xs rs k "able" with
 | none =>
  rw [vg h (fun z=>by have:=z.1; revert this; decide +kernel)]
  exact⟨false,by kernel_rfl⟩
 | some j =>
  rw [Ck h];have:=Kd good h
  revert this
  generalize inT (rD rs j) "able"=t;intro hv;unfold dg at hv;rw [show fj "able"=none by decide +kernel] at hv
  dsimp only at hv;rw [if_neg (by decide +kernel),if_pos (by decide +kernel)] at hv
  cases t with
  | bl b=>exact⟨b,rfl⟩
  | _=>cases hv
def isT:Tr->Bool
 | .bl b=>b
 | _=>false
def abF (xs:List Lr)(rs:List Ra)(z:Str):Bool:=(x6 xs.length).any fun j=>decide ((cn xs j).name=z) && isT (gOf xs rs j "able")
theorem ME{c:Cn}{xs:List Lr}(ok:RwsOk c xs){rs:List Ra}{j:Nat}(hj:j < xs.length){b:Bool}(h:gOf xs rs j "able" = .bl b):abF xs rs (cn xs j).name=b:=by
 unfold abF;rw [M4,G4];refine⟨fun⟨i,hi,e⟩=>?_,fun e=>⟨j,I0.mpr hj,?_⟩⟩
 ·rw [y9] at e
  have:=xO ok (I0.mp hi) hj (of_decide_eq_true e.1);subst this;have:=e.2;rw [h] at this; exact this
 ·rw [decide_eq_true rfl,h,e]; rfl
def Hc (K:i3)(A:Adr):Sp:=fun vs H Q _ => ∃(a nl:Addr) (ns:List Int) (x:Int) (c:Cn) (n:Nat),vs=[.ref a,.ref nl,.int x]/\SqL K H a (ns.map V.int)/\ns.length<=63/\H nl=some (.lst ((nmL c n).map V.str))/\1<=n/\n<=12/\Tt A H /\
 ∀(p d D:Addr) (xs:List Lr) (ds:List (Str×Addr)) (ab:Str->Bool) (H':Hp),Kn H H'->Tt A H'->H p=none->H D=none->H' p=some (.tup [.ref d,.ref D])->RwsOk c xs->xs.length=n->IsBx H' d (kr xs 0)->ds.map (·.1)=(bp xs 0).map (fun j=>(cn xs j).name)->ShL K H' D ds ab->Q (.ref p) H'
seal PE PS PSs L2.PA PT PI PG in
theorem DC(T:Txt K mg A)(hw:A.wd=w)(hC:E3 base A.cC A.cT)(hbm:base.BuiltinsAt mg A.cT)(hC2:E3 base A.cC2 A.cT2)(hbm2:base.BuiltinsAt mg A.cT2):FnOk P w K mg base CX0 15 A.rR A.sJ je (Hc K A):=by
 have JR:=Kg (P:=P) (w:=w) (base:=base) T;have Eh:=(Dy (P:=P) (w:=w) (base:=base) T).mono (show 3<=14 by decide)
 have ci:=(yf (P:=P) (w:=w) (base:=base) T).mono (show 1<=14 by decide)
 have yN:=(ya (P:=P) (w:=w) (base:=base) T hw hC hbm hC2 hbm2).mono (show 9<=14 by decide)
 exists T.jj.F.ok qu
 ·obtain⟨a,nl,ns,x,c,n,rfl,_⟩:=h; rfl
 obtain⟨a,nl,ns,x,c,n,rfl,hS,h63,hn,n1,n12,tt,q⟩:=h;refine⟨_,@ah _ _ _ _ _ (aR (i:=3) qu.nd rfl (m9 rfl) (b9 JR hr rfl T.re (aa (aD rA (bb (aa (pv 2) ae)) (iU rm (pv 0) (lD ag) lB)) (aa (pv 1) ae))))
  (ak (ar (bU (aa (pv 3) (aa (b9 yN hr rfl T.iz (aa (pv 3) (aa (b9 Eh hr rfl T.lZ (aa (aD bZ (b9 ci hr rfl T.aO (aa (pv 0) (aa ag ae))) (aD aZ (pv 2) ag)) (aa (pv 1) ae))) ae))) ae))))),?_⟩
 have c1:oG (ns.map V.int) (some 1) none=(ns.drop 1).map V.int:=(zK _ 1).trans (List.map_drop ..).symm;refine⟨zQa,aK (by simp),fun l1 hl1=>?_⟩
 have s1:=ai hl1 (.lst [V.int x]);have e1:upd H l1 (.lst [V.int x]) l1=_:=af;generalize upd H l1 (.lst [V.int x])=H1 at s1 e1 ⊢;refine⟨zQa,1,rfl,a,zQa,cS hS s1,fun l2 hl2=>?_⟩;rw [c1];have s2:=ai hl2 (.lst ((ns.drop 1).map V.int));refine⟨l1,l2,zQb,s2 _ _ e1,af,(by simp only [i4,G2,N7]; exact aK (by omega)),fun l3 hl3=>?_⟩
 have s3:=s1.trans (s2.trans (ai hl3 (.lst ([V.int x] ++ (ns.drop 1).map V.int))));have e3:upd (upd H1 l2 (.lst ((ns.drop 1).map V.int))) l3 (.lst ([V.int x] ++ (ns.drop 1).map V.int)) l3=some (.lst ((x :: ns.drop 1).map V.int)):=af;generalize upd (upd H1 l2 (.lst ((ns.drop 1).map V.int))) l3 (.lst ([V.int x] ++ (ns.drop 1).map V.int))=H3 at s3 e3 ⊢;refine⟨zQa,l3,nl,x :: ns.drop 1,c,n,rfl,.of e3,(by simp only [x9,G2]; omega),s3 _ _ hn,n1,n12,fun d xs H4 s4 ok lx hb=>?_⟩
 have s04:=s3.trans s4;have en:=s04 _ _ hn;dsimp only [bC];refine⟨zQa,zQa,zQa,a,ns,2,rfl,cS hS s04,h63,by decide,fun y=>⟨zQa,zQb,(by show(0:Int) < 5; decide),zQb,zQa,_,nl,c,n,rfl,en,n1,by omega,fun rl rs H5 hrl s5 R er=>?_⟩⟩
 have s05:=s04.trans s5;refine⟨d,rl,xs,c,rs,rfl,R,ok,by omega,hb.same s5,tt.same s05,fun D ds H6 k6 t6 hD ed S=>⟨aK (by simp),fun p hp=>?_⟩⟩
 have k7:=k6.trans (.of (ai hp (.tup [V.ref d,.ref D])));have s7:=ai hp (.tup [V.ref d,.ref D]);have hds:∀ p∈ds,p.1 < xs.length:=fun p hp=>(jN ok _ 0 (i6 _) (by omega) p.1 (by rw [<- ed]; exact w8.mpr ⟨p,hp,rfl⟩)).2
 refine q p d D xs (ds.map fun p=>((cn xs p.1).name,p.2)) (abF xs rs) _ ((Kn.of s05).trans k7) (t6.same s7) (none_of s05 (k6.there _ hp)) (none_of s05 hD) af ok lx (((Kn.of s5).trans k7).bx hb) (by rw [A7,<- ed,A7]; rfl) ⟨?_,fun p' hp'=>?_⟩
 ·rw [s7 _ _ S.ad,A7]; rfl
 ·obtain⟨pp,hpp,rfl⟩:=w8.mp hp'
  obtain⟨_,_,f,ef,pv⟩:=S.it pp hpp;obtain⟨b,eb⟩:=Kh ok R.g (hds pp hpp);refine⟨f,gOf xs rs pp.1,s7 _ _ ef,?_,fun w hw=>⟨(pv w hw).kn (.of s7) (mI R.g _ _ w),mI R.g _ _ w⟩⟩;have:=pv "able" (by decide +kernel)
  rw [eb] at this;show f "able" = .bl (abF xs rs (cn xs pp.1).name);rw [ME ok (hds pp hpp) eb];rcases this with h | ⟨h,_⟩
  ·generalize f "able"=v at h ⊢
   cases h; rfl
  ·cases h
abbrev uH:j9:=(match aW fh with | (.Return (some (.ListComp _ _ sc _)) _) :: _=>sc | _=>aj fh)
theorem uo:Blk (aj fh) mX uH ["box"] []:=⟨rfl,zQd,zQd,zQd,zQd⟩
theorem uC:(cy mX ["box"] []).Nodup:=by decide +kernel
def dP (xs:List Lr)(j:Nat):Str:=match xs[j]? with | some x=>x.r.name | none=>u7
def EI:Sp:=fun vs H Q _ => ∃(d:Addr) (xs:List Lr) (c:Cn) (k:Nat),vs=[.ref d]/\RwsOk c xs/\k < xs.length/\IsBx H d (kr xs k) /\
 ∀(l:Addr) (H':Hp),H l=none->aS H H'->H' l=some (.lst ((bp xs k).map fun j=>V.str (dP xs j)))->Q (.ref l) H'
seal PE PS PSs L2.PA PT PI PG in
theorem fJ(T:Txt K mg A):FnOk P w K mg base CX0 2 A.rM A.sF jt EI:=by
 have nI:=qA (P:=P) (w:=w) (base:=base) T
 exists T.bo.F.ok yv
 ·obtain⟨d,xs,c,k,rfl,_⟩:=h; rfl
 obtain⟨d,xs,c,k,rfl,ok,hk,hd,q⟩:=h;refine⟨_,ak (ar (bO uo rfl (cZ (b9 nI hr rfl T.dy (aa (pv 0) ae))) (fun _ _ _ _ _=>aN (i:=0) uC rfl (.inl rfl)) (fun _ _ _ _ _=>cr) (fun _ _ _ _ _=>aA (KB (K:=K) rfl) (pv 0) ag (fun _ _=>rfl)))),?_⟩;refine⟨zQa,d,xs,c,k,rfl,ok,hk,hd,fun l as H1 hl s1 e1 b1=>⟨l,rfl,.inl ⟨⟨_,.of e1⟩,iN (xs:=as.map V.ref) (fun i acc H'=>acc=((bp xs k).take i).map (fun j=>V.str (dP xs j))/\H'=H1) ⟨rfl,rfl⟩ (fun i acc H' z=>?_) (fun i acc H' z=>?_) (fun i x acc H' N kk hx z=>?_) fun acc H' z=>?_⟩⟩⟩
 ·obtain⟨_,rfl⟩:=z; exact .of e1
 ·obtain⟨rfl,_⟩:=z
  have h1:=Kj ok hk;have h2:(5000:Nat)<=sizeLine:=by decide
  rw [i4,A0];omega
 ·obtain⟨rfl,rfl⟩:=z
  dsimp only [gW];rw [if_pos rfl];rw [o0] at hx;cases ea:as[i]? with
  | none=>rw [ea] at hx; cases hx
  | some a =>
   rw [ea] at hx;cases hx;have hi:i < (bp xs k).length:=by rw [<- b1.len]; exact(r9.mp ea).1
   have ej:(bp xs k)[i]? = some (bp xs k)[i]:=i5 hi;have hj:=jN ok _ k (i6 _) hk _ (E9 hi);have ex:xs[(bp xs k)[i]]? = some xs[(bp xs k)[i]]:=i5 hj.2;obtain⟨t,ks,as',c1,c2,c3,c4⟩:=(b1.get ea ej).row ok ex;refine⟨zQa,a,zQc,.of c1,rfl,kk _ _ ⟨?_,rfl⟩⟩;rw [B7,ej,j6];unfold dP;simp [ex]
 ·obtain⟨rfl,rfl⟩:=z
  intro l2 hl2;have s2:=ai hl2 (.lst (((bp xs k).take (as.map V.ref).length).map fun j=>V.str (dP xs j)));refine q l2 _ ?_ (s1.trans s2) ?_
  ·cases e:H l2 with
   | none=>rfl
   | some o=>rw [s1 _ _ e] at hl2; cases hl2
  ·rw [af,i4,b1.len,B5]
theorem HA{xs:List Lr}{j:Nat}:dP xs j=(cn xs j).name:=by
 cases h:xs[j]? with
 | none=>unfold dP cn; rw [h,A4,h]; rfl
 | some x=>rw [gs h]; unfold dP; rw [h]
structure Dsh(K:i3)(H:Hp)(d D:Addr)(no:List Str)(ab:Str->Bool):Prop where
 ex:∃(c:Cn) (xs:List Lr) (ds:List (Str×Addr)),RwsOk c xs/\0 < xs.length/\IsBx H d (kr xs 0)/\no=(bp xs 0).map (dP xs)/\ds.map (·.1)=no/\ShL K H D ds ab
 nd:no.Nodup
 n:no.length<=12
theorem Dsh.same{H H':Hp}{d D:Addr}{no:List Str}{ab:Str->Bool}(h:Dsh K H d D no ab)(s:aS H H'):Dsh K H' d D no ab:=⟨let ⟨c,xs,ds,a1,a2,a3,a4,a5,a6⟩:=h.ex; ⟨c,xs,ds,a1,a2,a3.same s,a4,a5,a6.same s⟩,h.nd,h.n⟩
theorem BD:∀ {ds:List (Str×Addr)} {p:Str×Addr},(ds.map (·.1)).Nodup->p∈ds->cm (ds.map fun p=>((i0 p.1:Key),V.ref p.2)) (i0 p.1)=some (.ref p.2)
 | [],_,_,h=>by cases h
 | q :: ds,p,nd,h=>by
  rw [u6,G7] at nd;rw [u6,cI];rcases l6.mp h with rfl | h
  ·rw [if_pos rfl]
  ·rw [if_neg (fun z=>nd.1 (by injection z with z; rw [z]; exact w8.mpr ⟨p,h,rfl⟩))]
   exact BD nd.2 h
theorem Cz{f:Str->V}{w:Str}(h:w∈bf):cm (fnL f) (i0 w)=some (f w):=by
 unfold cm fnL;rw [yV h]; rfl
abbrev xI:j9:=(match aW gF with | (.Return (some (.ListComp _ _ sc _)) _) :: _=>sc | _=>aj gF)
theorem uQ:Blk (aj gF) oY xI ["name"] [1]:=⟨rfl,zQd,zQd,zQd,zQd⟩
theorem xi:(cy oY ["name"] [1]).Nodup:=by decide +kernel
def NB (K:i3):Sp:=fun vs H Q _ => ∃(d D:Addr) (no:List Str) (ab:Str->Bool),vs=[.ref d,.ref D]/\Dsh K H d D no ab/\∀(l:Addr) (H':Hp),H l=none->aS H H'->H' l=some (.lst ((no.filter ab).map V.str))->Q (.ref l) H'
seal PE PS PSs L2.PA PT PI PG in
theorem qY(T:Txt K mg A):FnOk P w K mg base CX0 3 A.vw A.vc lW (NB K):=by
 have cv:=fJ (P:=P) (w:=w) (base:=base) T
 exists T.bY.F.ok Bj
 ·obtain⟨d,D,no,ab,rfl,_⟩:=h; rfl
 obtain⟨d,D,no,ab,rfl,S,q⟩:=h;refine⟨_,ak (ar (bO uQ rfl (cZ (b9 cv hr rfl T.bo (aa (pv 0) ae))) (fun _ _ _ _ _=>aN (i:=0) xi rfl (.inl rfl)) (fun _ _ _ _ _=>jp (bS (fH (gk hr) (fH (gk hr) (pv 1) (pv 0) (fun _ _=>rfl)) ap (fun _ _=>rfl)))) (fun _ _ _ _ _=>pv 0))),?_⟩;obtain⟨c,xs,ds,ok,h0,hb,rfl,en,sh⟩:=S.ex;have n12:=S.n;refine⟨zQa,d,xs,c,0,rfl,ok,h0,hb,fun l H1 hl s1 e1=>⟨l,rfl,.inl ⟨⟨_,.of e1⟩,iN (xs:=((bp xs 0).map (dP xs)).map V.str) (fun i acc H'=>acc=((((bp xs 0).map (dP xs)).take i).filter ab).map V.str/\H'=H1) ⟨rfl,rfl⟩ (fun i acc H' z=>?_) (fun i acc H' z=>?_) (fun i x acc H' N kk hx z=>?_) fun acc H' z=>?_⟩⟩⟩
 ·obtain⟨_,rfl⟩:=z; rw [A7]; exact .of e1
 ·rw [z.1,i4]
  have:=R6 ab (((bp xs 0).map (dP xs)).take i);rw [A0] at this;exact az (by omega)
 ·obtain⟨rfl,rfl⟩:=z
  rw [o0] at hx;cases hz:((bp xs 0).map (dP xs))[i]? with
  | none=>rw [hz] at hx; cases hx
  | some z =>
  rw [hz] at hx;cases hx;have hm:z∈ds.map (·.1):=by rw [en]; exact C5 hz
  obtain⟨p,hp,rfl⟩:=w8.mp hm;have nd:=S.nd;rw [<- en] at nd;obtain⟨f,g,ef,fa,_⟩:=(sh.same s1).it p hp;have ev:cm (ds.map fun p=>((i0 p.1:Key),V.ref p.2)) (i0 p.1)=some (.ref p.2):=BD nd hp;have d1:=iC.k (k:=i0 p.1) (sh.same s1).ad;rw [ev] at d1;have d2:=iC.k (k:=i0 "able") ef;rw [show cm (fnL f) (i0 "able")=some (f "able") from Cz (by decide +kernel),fa] at d2
  have st:(((bp xs 0).map (dP xs)).take (i + 1)).filter ab=(((bp xs 0).map (dP xs)).take i).filter ab ++ if ab p.1=true then [p.1] else []:=by
   rw [B7,hz,aq7,L7]
   congr 1
   cases h:ab p.1 <;> simp [h]
  refine⟨zQa,zQa,D,.ref p.2,rfl,d1,p.2,zQa,d2,zQa,?_⟩;cases hb:ab p.1 with
  | true=>exact aM rfl ⟨zQa,kk _ _ ⟨by rw [st,hb,if_pos rfl,j6]; rfl,rfl⟩⟩
  | false=>exact aI rfl (kk _ _ ⟨by rw [st,hb,if_neg (by decide),Q0],rfl⟩)
 ·obtain⟨rfl,rfl⟩:=z
  rw [i4,B5];intro r hr0;exact q r _ (none_of s1 hr0) (s1.trans (ai hr0 _)) af
def Hk:Sp:=fun vs H Q _ => ∃(l:Addr) (ns:List Str) (p:Nat) (z:Str),vs=[.ref l,.str z]/\H l=some (.lst (ns.map V.str))/\ns.length<=100/\ns.Nodup/\ns[p]? = some z/\∀(r:Addr) (H':Hp),H r=none->aS H H'->H' r=some (.lst ((ns.drop (p + 1) ++ ns.take (p + 1)).map V.str))->Q (.ref r) H'
seal PE PS PSs L2.PA PT PI PG in
theorem pV(T:Txt K mg A):FnOk P w K mg base CX0 1 A.zF A.zn oa Hk:=by
 exists T.df.F.ok wm
 ·obtain⟨l,ns,p,z,rfl,_⟩:=h; rfl
 obtain⟨l,ns,p,z,rfl,hl,n100,nd,hp,q⟩:=h;refine⟨_,@ah _ _ _ _ _ (aR (i:=2) wm.nd rfl (m9 rfl) (eZ F1 aq8 aq9 vx (pv 0) (aa (pv 1) ae)))
  (ak (ar (aD rA (iU rm (pv 0) (lD (aD bZ (pv 2) ag)) lB) (iU rm (pv 0) lB (lD (aD bZ (pv 2) ag)))))),?_⟩
 have lp:=(r9.mp hp).1;have gD:∀ m,(hm:m < ns.length)->(ns.map V.str).getD m .non = .str ns[m]:=fun m hm=>by rw [A4,o0,i5 hm]; rfl
 have ez:ns[p]=z:=(r9.mp hp).2;refine⟨zQa,.inl ⟨rfl,_,.of hl⟩,zQa,l,ns.map V.str,.str z,p,rfl,rfl,hl,rfl,bh ns,(by rw [i4]; omega),(by rw [i4]; exact lp),?_,fun m hm=>?_,?_⟩
 ·rw [gD p lp,ez]; exact tS rfl
 ·rw [gD m (by omega)]
  refine ad0.mpr fun e=>?_;have:ns[m]=ns[p]:=by rw [ez]; exact J5 (show(ns[m] == z)=true from e)
  have:=(Y7 nd).mp this;omega
 have c1:oG (ns.map V.str) (some ((p:Int) + 1)) none=(ns.drop (p + 1)).map V.str:=(zK _ (p + 1)).trans (List.map_drop ..).symm;have c2:oG (ns.map V.str) none (some ((p:Int) + 1))=(ns.take (p + 1)).map V.str:=by rw [yL _ _ (by omega),List.map_take]; rfl
 dsimp only [bC];refine⟨zQa,zQa,zQb,zQa,l,zQa,.of hl,fun r1 hr1=>?_⟩;rw [c1];have s1:=ai hr1 (.lst ((ns.drop (p + 1)).map V.str));refine⟨zQa,zQa,zQb,zQa,l,zQa,.of (s1 _ _ hl),fun r2 hr2=>?_⟩;rw [c2];have s2:=ai hr2 (.lst ((ns.take (p + 1)).map V.str));refine⟨r1,r2,zQb,s2 _ _ af,af,(by simp only [i4,G2,A0]; exact aK (by omega)),fun r3 hr3=>?_⟩
 have s3:=ai hr3 (.lst ((ns.drop (p + 1)).map V.str ++ (ns.take (p + 1)).map V.str));exact q r3 _ (none_of (s1.trans s2) hr3) ((s1.trans s2).trans s3) (by rw [af,j6])
def Js:Sp:=fun vs H Q _ => ∃(l r:Addr) (ns rs:List Str),vs=[.ref l,.ref r]/\H l=some (.lst (ns.map V.str))/\H r=some (.lst (rs.map V.str))/\∀ H',aS H H'->Q (match ns.find? fun z=>decide (z∈rs) with | some z=>.str z | none=>.non) H'
seal PE PS PSs L2.PA PT PI PG in
theorem Ai(T:Txt K mg A):FnOk P w K mg base CX0 1 A.sI A.tM jB Js:=by
 exists T.dz.F.ok qI
 ·obtain⟨l,r,ns,rs,rfl,_⟩:=h; rfl
 obtain⟨l,r,ns,rs,rfl,hl,hr0,q⟩:=h;refine⟨_,@ah _ _ _ _ _ (dZ F7 rfl (oI (pv 0)) (aN (i:=2) qI.nd rfl (m9 rfl)) (ak (bc (aB bK (pv 2) (pv 1) rfl) (ak (ar (pv 2))) aE)))
  (ak (ar nN)),?_⟩
 refine⟨zQa,l,rfl,⟨_,.of hl⟩,kq (K:=K) (a:=l) (xs:=ns.map V.str) (fun i σ H' => ∃ v2:Option V,σ=[some (.ref l),some (.ref r),v2]/\H'=H/\∀ z∈ns.take i,z ∉ rs) ⟨none,rfl,rfl,fun z h=>(by cases h)⟩ (fun i σ H' _ z=>?_) ?_ ?_⟩
 ·obtain⟨_,_,rfl,_⟩:=z; exact .of hl
 ·rintro i x σ H' hx ⟨v2,rfl,rfl,hno⟩
  rw [o0] at hx;cases hz:ns[i]? with
  | none=>rw [hz] at hx; cases hx
  | some z =>
  rw [hz] at hx;cases hx;dsimp only [bC];refine⟨zQa,zQa,r,zQa,.inl (.of hr0),rfl,bh rs,zQa,?_⟩;rw [if_neg (by decide),jQ]
  have hin:inS z rs=decide (z∈rs):=by
   unfold inS;rw [M4,decide_eq_true_iff,G4];exact⟨fun⟨y,hy,e⟩=>by have:y=z:=(by simpa using e); exact this ▸ hy,fun h=>⟨z,h,by simp⟩⟩
  rw [hin];by_cases hm:z∈rs
  ·refine aM (decide_eq_true hm) ⟨zQa,?_⟩
   have:ns.find? (fun z=>decide (z∈rs))=some z:=by
    rw [List.find?_eq_some_iff_getElem];obtain⟨hi,e⟩:=r9.mp hz;refine⟨decide_eq_true hm,i,hi,e,fun j hj=>?_⟩;rw [decide_eq_false (hno _ (aq4.mpr ⟨j,by omega,rfl⟩))]; rfl
   have q':=q H' (.refl _);rw [this] at q';exact q'
  ·refine aI (decide_eq_false hm) ⟨zQa,rfl,fun y hy=>?_⟩
   rw [B7,hz] at hy;rcases B3.mp hy with h | h
   ·exact hno y h
   ·rw [show y=z by simpa using h]; exact hm
 ·rintro σ H' ⟨v2,rfl,rfl,hno⟩
  have:ns.find? (fun z=>decide (z∈rs))=none:=by
   rw [List.find?_eq_none];intro z hz;rw [decide_eq_false (hno z (by rw [i4,B5]; exact hz))]; decide
  have q':=q H' (.refl _);rw [this] at q';exact q'
def xL (ns rs:List Str):V:=match ns.find? fun z=>decide (z∈rs) with | some z=>.str z | none=>.non
def yI (no:List Str)(ab:Str->Bool)(p:Nat):V:=xL (no.drop (p + 1) ++ no.take (p + 1)) (no.filter ab)
def zU (no:List Str)(ab:Str->Bool)(p:Nat):V:=xL (no.reverse.drop (no.length - 1 - p + 1) ++ no.reverse.take (no.length - 1 - p + 1)) (no.filter ab)
def NoN (no:List Str)(v:V):Prop:=(∃ z:Str,v = .str z/\z ∉ no)\/v = .non\/∃ i:Int,v = .int i
def Mi (K:i3)(c0:Addr)(f:List Str->(Str->Bool)->Nat->V):Sp:=fun vs H Q E => ∃(d D:Addr) (v:V) (no:List Str) (ab:Str->Bool),vs=[.ref d,.ref D,v]/\Dsh K H d D no ab /\
 ((∃(p:Nat) (z:Str),v = .str z/\no[p]? = some z/\∀ H',aS H H'->Q (f no ab p) H')\/(NoN no v/\∀ H',aS H H'->E (.ref c0) none H'))
theorem CH{c:Cn}{xs:List Lr}(ok:RwsOk c xs){j:Nat}(hj:j < xs.length):dP xs j=nm c j:=by
 have ex:xs[j]? = some xs[j]:=i5 hj;unfold dP;rw [ex];exact(ok.row j _ ex).name
theorem Io{c:Cn}{xs:List Lr}{H:Hp}{v:V}(ok:RwsOk c xs)(h0:0 < xs.length)(h:NoN ((bp xs 0).map (dP xs)) v):PN K c xs H v:=h.imp (fun⟨z,e,hz⟩=>⟨z,e,fun k hk ek=>hz (w8.mpr ⟨k,zQ ok k hk,(CH ok hk).trans ek⟩)⟩) fun h=>by
 rcases h with rfl | ⟨i,rfl⟩
 ·exact⟨"NoneType",.non,by decide⟩
 ·exact⟨"int",.int i,by decide⟩
theorem Fs{c:Cn}{xs:List Lr}{p:Nat}{z:Str}(ok:RwsOk c xs)(h0:0 < xs.length)(h:((bp xs 0).map (dP xs))[p]? = some z):∃ k,k < xs.length/\z=nm c k:=by
 rw [o0] at h;cases hk:(bp xs 0)[p]? with
 | none=>rw [hk] at h; cases h
 | some k =>
  rw [hk] at h;cases h;have:=(jN ok _ 0 (i6 _) h0 k (C5 hk)).2;exact⟨k,this,CH ok this⟩
seal PE PS PSs L2.PA PT PI PG in
theorem Ka(T:Txt K mg A):FnOk P w K mg base (CXW P w) 4 A.nE A.na gU (Mi K A.c_NoName yI):=by
 have kj:=(oP (P:=P) (w:=w) (base:=base) T).mono (show 1<=3 by decide)
 have cv:=(fJ (P:=P) (w:=w) (base:=base) T).mono (show 2<=3 by decide)
 have kX:=(pV (P:=P) (w:=w) (base:=base) T).mono (show 1<=3 by decide)
 have nh:=(Ai (P:=P) (w:=w) (base:=base) T).mono (show 1<=3 by decide)
 have fb:=qY (P:=P) (w:=w) (base:=base) T
 exists T.dC.F.okW Ah
 ·obtain⟨d,D,v,no,ab,rfl,_⟩:=h; rfl
 obtain⟨d,D,v,no,ab,rfl,S,alt⟩:=h;refine⟨_,@ah _ _ _ _ _ (bB (ao kj hr rfl T.dm.m T.dm.F.kp T.dm.b .nil (Me fun _ _ _ z=>z) (aa (pv 0) (aa (pv 2) ae))))
  (ak (ar (b9 nh hr rfl T.dz (aa (b9 kX hr rfl T.df (aa (b9 cv hr rfl T.bo (aa (pv 0) ae)) (aa (pv 2) ae))) (aa (b9 fb hr rfl T.bY (aa (pv 0) (aa (pv 1) ae))) ae))))),?_⟩
 obtain⟨c,xs,ds,ok,h0,hb,rfl,en,sh⟩:=S.ex;have n12:=S.n;refine⟨zQa,zQa,d,v,xs,c,rfl,ok,h0,hb,?_⟩;rcases alt with ⟨p,z,rfl,hp,q⟩ | ⟨nn,q⟩
 ·obtain⟨k,hk,ek⟩:=Fs ok h0 hp
  refine .inl ⟨k,by rw [ek],hk,fun wl as H1 _ s1 _ _=>?_⟩
  refine⟨zQa,d,xs,c,0,rfl,ok,h0,hb.same s1,fun l H2 hl s2 e2=>⟨zQa,l,(bp xs 0).map (dP xs),p,z,rfl,(by rw [e2,A7]; rfl),by omega,S.nd,hp,fun r H3 hr3 s3 e3=>⟨zQa,zQa,d,D,_,ab,rfl,S.same (s1.trans (s2.trans s3)),fun g H4 hg s4 e4=>⟨r,g,_,zQa,s4 _ _ e3,e4,fun H5 s5=>?_⟩⟩⟩⟩
  exact q H5 (s1.trans (s2.trans (s3.trans (s4.trans s5))))
 ·exact .inr ⟨Io ok h0 nn,fun H1 s1=>q H1 s1⟩
seal PE PS PSs L2.PA PT PI PG in
theorem JO(T:Txt K mg A):FnOk P w K mg base (CXW P w) 4 A.mO A.mY gK (Mi K A.c_NoName zU):=by
 have kj:=(oP (P:=P) (w:=w) (base:=base) T).mono (show 1<=3 by decide)
 have cv:=(fJ (P:=P) (w:=w) (base:=base) T).mono (show 2<=3 by decide)
 have kX:=(pV (P:=P) (w:=w) (base:=base) T).mono (show 1<=3 by decide)
 have nh:=(Ai (P:=P) (w:=w) (base:=base) T).mono (show 1<=3 by decide)
 have fb:=qY (P:=P) (w:=w) (base:=base) T
 exists T.dA.F.okW zN
 ·obtain⟨d,D,v,no,ab,rfl,_⟩:=h; rfl
 obtain⟨d,D,v,no,ab,rfl,S,alt⟩:=h;refine⟨_,@ah _ _ _ _ _ (bB (ao kj hr rfl T.dm.m T.dm.F.kp T.dm.b .nil (Me fun _ _ _ z=>z) (aa (pv 0) (aa (pv 2) ae))))
  (ak (ar (b9 nh hr rfl T.dz (aa (b9 kX hr rfl T.df (aa (qe rfl T.km xK rfl T.dB ny (b9 cv hr rfl T.bo (aa (pv 0) ae))) (aa (pv 2) ae))) (aa (b9 fb hr rfl T.bY (aa (pv 0) (aa (pv 1) ae))) ae))))),?_⟩
 obtain⟨c,xs,ds,ok,h0,hb,rfl,en,sh⟩:=S.ex;have n12:=S.n;refine⟨zQa,zQa,d,v,xs,c,rfl,ok,h0,hb,?_⟩;rcases alt with ⟨p,z,rfl,hp,q⟩ | ⟨nn,q⟩
 ·obtain⟨k,hk,ek⟩:=Fs ok h0 hp
  have lp:=(r9.mp hp).1;refine .inl ⟨k,by rw [ek],hk,fun wl as H1 _ s1 _ _=>?_⟩
  refine⟨zQa,d,xs,c,0,rfl,ok,h0,hb.same s1,fun l H2 hl s2 e2=>⟨l,zQa,.of e2,fun l2 hl2=>?_⟩⟩;have s2':=s2.trans (ai hl2 (.lst ((bp xs 0).map fun j=>V.str (dP xs j)).reverse));refine⟨zQa,l2,((bp xs 0).map (dP xs)).reverse,((bp xs 0).map (dP xs)).length - 1 - p,z,rfl,(by rw [af,<- V1,<- V1,A7]; rfl),by rw [Q9]; omega,wH S.nd,?_,fun r H3 hr3 s3 e3=>⟨zQa,zQa,d,D,_,ab,rfl,S.same (s1.trans (s2'.trans s3)),fun g H4 hg s4 e4=>⟨r,g,_,zQa,s4 _ _ e3,e4,fun H5 s5=>?_⟩⟩⟩
  ·rw [V4 (by omega),show((bp xs 0).map (dP xs)).length - 1 - (((bp xs 0).map (dP xs)).length - 1 - p)=p by omega]; exact hp
  exact q H5 (s1.trans (s2'.trans (s3.trans (s4.trans s5))))
 ·exact .inr ⟨Io ok h0 nn,fun H1 s1=>q H1 s1⟩
theorem rix{no:List Str}{z:Str}{p:Nat}(n12:no.length<=12)(nd:no.Nodup)(hp:no[p]? = some z):(no.map V.str).all dJ=true/\(no.map V.str).length<=1000/\p < (no.map V.str).length/\eqV ((no.map V.str).getD p .non) (.str z)=true/\∀ m,m < p->eqV ((no.map V.str).getD m .non) (.str z)=false:=by
 obtain⟨lp,ez⟩:=r9.mp hp;have gD:∀ m,(hm:m < no.length)->(no.map V.str).getD m .non = .str no[m]:=fun m hm=>by rw [A4,o0,i5 hm]; rfl
 refine⟨bh no,(by rw [i4]; omega),(by rw [i4]; exact lp),?_,fun m hm=>?_⟩
 ·rw [gD p lp,ez]; exact tS rfl
 ·rw [gD m (by omega)]
  refine ad0.mpr fun e=>?_;have:no[m]=no[p]:=by rw [ez]; exact J5 (show(no[m] == z)=true from e)
  have:=(Y7 nd).mp this;omega
def tO (l:List Str):V:=match l.head? with | some z=>.str z | none=>.non
def CG (l:List Str):V:=match l.getLast? with | some z=>.str z | none=>.non
def Dg (no:List Str)(z:Str):Nat:=no.findIdx (· == z)
theorem CI{no:List Str}(nd:no.Nodup){j:Nat}(hj:j < no.length):Dg no no[j]=j:=by
 unfold Dg;rw [List.findIdx_eq hj];refine⟨by simp,fun i hi=>?_⟩
 have hil:i < no.length:=by omega
 refine beq_eq_false_iff_ne.mpr fun e=>?_;have:=(Y7 nd).mp e;omega
theorem sY{no l:List Str}{ab:Str->Bool}(h:∀ z∈l,z∈no):l.filter (fun z=>decide (z∈no.filter ab))=l.filter ab:=List.filter_congr fun z hz=>by
 rw [M4,decide_eq_true_iff,G5];exact⟨fun x=>x.2,fun x=>⟨h z hz,x⟩⟩
theorem sr(ns rs:List Str):xL ns rs=tO (ns.filter fun z=>decide (z∈rs)):=by
 unfold xL tO;rw [List.head?_filter] <;> (cases ns.find? (fun z=>decide (z∈rs)) <;> rfl)
theorem Jm{no:List Str}(ab:Str->Bool)(p:Nat):yI no ab p=tO ((no.drop (p + 1)).filter ab ++ no.filter ab):=by
 unfold yI;rw [sr,sY (fun z hz=>by
  rcases B3.mp hz with h | h
  ·exact ai2 h
  ·exact R0 h),L7]
 unfold tO;rw [Y1,Y1];cases h:((no.drop (p + 1)).filter ab).head? with
 | some z=>rfl
 | none =>
  have hn:(no.drop (p + 1)).filter ab=[]:=List.head?_eq_none_iff.mp h;have:no.filter ab=(no.take (p + 1)).filter ab:=by
   have e:no=no.take (p + 1) ++ no.drop (p + 1):=(V2 ..).symm;rw [e,L7,<- e,hn,Q0]
  rw [this]
theorem JC{no:List Str}(ab:Str->Bool){p:Nat}(hp:p < no.length):zU no ab p=CG (no.filter ab ++ (no.take p).filter ab):=by
 unfold zU;have e1:no.reverse.drop (no.length - 1 - p + 1)=(no.take p).reverse:=by
  rw [List.drop_reverse,show no.length - (no.length - 1 - p + 1)=p by omega]
 have e2:no.reverse.take (no.length - 1 - p + 1)=(no.drop p).reverse:=by
  rw [List.take_reverse,show no.length - (no.length - 1 - p + 1)=p by omega]
 rw [sr,e1,e2,sY (fun z hz=>by
  rcases B3.mp hz with h | h
  ·exact R0 (J6.mp h)
  ·exact ai2 (J6.mp h)),L7,ar0,ar0]
 unfold tO CG;rw [Y1,ar1,ar1,ar2];cases h:((no.take p).filter ab).getLast? with
 | some z=>rfl
 | none =>
  have hn:(no.take p).filter ab=[]:=List.getLast?_eq_none_iff.mp h;have:no.filter ab=(no.drop p).filter ab:=by
   have e:no=no.take p ++ no.drop p:=(V2 ..).symm;rw [e,L7,<- e,hn,af6]
  rw [this]
def Ff (K:i3)(f:List Str->(Str->Bool)->Nat->V):Sp:=fun vs H Q _ => ∃(d D:Addr) (no:List Str) (ab:Str->Bool) (p:Nat) (z:Str),vs=[.ref d,.ref D,.str z]/\Dsh K H d D no ab/\no[p]? = some z/\∀ H',aS H H'->Q (f no ab p) H'
theorem HZ(T:Txt K mg A):FnOk P w K mg base CX0 4 A.nE A.na gU (Ff K yI) :=
 FnOk.calm (Ka T) fun vs H Q E ⟨d,D,no,ab,p,z,e,S,hp,q⟩=>⟨d,D,_,no,ab,e,S,.inl ⟨p,z,rfl,hp,q⟩⟩
theorem HB(T:Txt K mg A):FnOk P w K mg base CX0 4 A.mO A.mY gK (Ff K zU) :=
 FnOk.calm (JO T) fun vs H Q E ⟨d,D,no,ab,p,z,e,S,hp,q⟩=>⟨d,D,_,no,ab,e,S,.inl ⟨p,z,rfl,hp,q⟩⟩
abbrev kyF (nl rl:Addr)(v:V):List (Str×V):=[("names",.ref nl),("ring",.ref rl),("key",v)]
structure KeyAt(A:Adr)(H:Hp)(k dx nl rl:Addr)(ring:List Str)(v:V):Prop where
 ins:H k=some (.ins A.c_Keys dx (kyF nl rl v))
 ring:H rl=some (.lst (ring.map V.str))
def BuX (k:Addr)(H H':Hp):Prop := ∀ b o,b≠k->H b=some o->H' b=some o
theorem BuX.trans{k:Addr}{H H1 H2:Hp}(a:BuX k H H1)(b:BuX k H1 H2):BuX k H H2:=fun c o n e=>b c o n (a c o n e)
theorem BuX.of{k:Addr}{H H':Hp}(s:aS H H'):BuX k H H':=fun b o _ e=>s b o e
theorem BuX.set{k:Addr}{H H':Hp}(s:BuX k H H')(o:HO):BuX k H (upd H' k o):=fun b u n e=>by rw [am n]; exact s b u n e
def qE (ring:List Str):V->V
 | .str z=>match (ring.drop (Dg ring z + 1) ++ ring.take (Dg ring z + 1)).head? with | some y=>.str y | none=>.non
 | _=>match ring.head? with | some y=>.str y | none=>.non
theorem Dsh.but{H H':Hp}{d D k C dx:Addr}{fs:List (Str×V)}{no:List Str}{ab:Str->Bool}(h:Dsh K H d D no ab)(ek:H k=some (.ins C dx fs))(b:BuX k H H'):Dsh K H' d D no ab:=by
 obtain⟨c,xs,ds,a1,a2,a3,a4,a5,a6⟩:=h.ex;have tp:∀ x vs,H x=some (.tup vs)->H' x=some (.tup vs):=fun x vs e=>b _ _ (fun z=>by rw [z,ek] at e; cases e) e
 have dk:∀ {x:Addr} {kvs:List (Key×V)},H x=some (.dK kvs)->H' x=some (.dK kvs):=fun e=>b _ _ (fun z=>by rw [z,ek] at e; cases e) e
 exact⟨⟨c,xs,ds,a1,a2,a3.tups tp,a4,a5,⟨dk a6.ad,fun p hp=>let ⟨f,g,e1,e2,e3⟩:=a6.it p hp; ⟨f,g,dk e1,e2,fun w hw=>⟨(e3 w hw).1.tp tp (e3 w hw).2,(e3 w hw).2⟩⟩⟩⟩,h.nd,h.n⟩
def QG (A:Adr):Sp:=fun vs H Q _ => ∃(k dx nl rl:Addr) (ring:List Str) (v:V),vs=[.ref k]/\KeyAt A H k dx nl rl ring v/\Q v H
seal PE PS PSs L2.PA PT PI PG in
theorem Qh(T:Txt K mg A):FnOk P w K mg base CX0 1 A.iR A.pf md (QG A):=by
 exists T.F_Keys_at.ok AX
 ·obtain⟨k,dx,nl,rl,ring,v,rfl,_⟩:=h; rfl
 obtain⟨k,dx,nl,rl,ring,v,rfl,S,q⟩:=h;have I:=kK T.ins (c:=A.c_Keys) (by simp)
 refine⟨_,ak (ar (oS (pv 0) rfl)),?_⟩;exact⟨zQa,k,_,dx,_,v,rfl,S.ins,I.cl,I.no "key" (by decide +kernel),rfl,q⟩
def MQ (A:Adr):Sp:=fun vs H Q _ => ∃(k dx nl rl l:Addr) (ring r2:List Str) (v:V),vs=[.ref k,.ref l]/\KeyAt A H k dx nl rl ring v/\H l=some (.lst (r2.map V.str))/\r2.length<=12/\r2.Nodup/\(v = .non\/∃(p:Nat) (z:Str),r2[p]? = some z/\v = .str z) /\
 ∀ H',BuX k H H'->H' k=some (.ins A.c_Keys dx (kyF nl rl (qE r2 v)))->Q .non H'
seal PE PS PSs L2.PA PT PI PG in
theorem Cs(T:Txt K mg A):FnOk P w K mg base CX0 2 A.cO A.jW ia (MQ A):=by
 have kX:=pV (P:=P) (w:=w) (base:=base) T
 exists T.F_Keys_turn.ok xj
 ·obtain⟨k,dx,nl,rl,l,ring,r2,v,rfl,_⟩:=h; rfl
 obtain⟨k,dx,nl,rl,l,ring,r2,v,rfl,S,hl,n12,nd,hv,q⟩:=h;have I:=kK T.ins (c:=A.c_Keys) (by simp)
 refine⟨_,ak (bc (aB At (oS (pv 0) rfl) nN (aJ _)) (ak (oX (pv 0) (tZ (ox (pv 1) (fun _=>rfl)) (aA aY (pv 1) ag (fun _ _=>rfl)) nN) rfl)) (ak (oX (pv 0) (aA aY (b9 kX hr rfl T.df (aa (pv 1) (aa (oS (pv 0) rfl) ae))) ag (fun _ _=>rfl)) rfl))),?_⟩;have nK:=I.no "key" (by decide +kernel)
 have put:∀ y:V,L2.cJ "key" y (kyF nl rl v)=kyF nl rl y:=fun y=>by kernel_rfl
 refine⟨zQa,k,_,dx,_,v,rfl,S.ins,I.cl,nK,rfl,rfl,zQa,?_⟩;rcases hv with rfl | ⟨p,z,hp,rfl⟩
 ·refine aM (decide_eq_true rfl) ?_
  cases r2 with
  | nil =>
   refine⟨zQa,_,.inl ⟨_,.of hl,rfl⟩,aI (by simp) ⟨zQa,k,_,dx,zQa,S.ins,I.cl,nK,(by show 3 < 1000; decide),?_⟩⟩
   exact q _ (BuX.set (.of (.refl _)) _) (by rw [af,put]; rfl)
  | cons y r2 =>
   refine⟨zQa,_,.inl ⟨_,.of hl,rfl⟩,aM (by simp) ⟨zQa,l,_,_,.str y,rfl,rfl,.of hl,bA (j:=0) rfl,zQa,k,_,dx,zQa,S.ins,I.cl,nK,(by show 3 < 1000; decide),?_⟩⟩
   exact q _ (BuX.set (.of (.refl _)) _) (by rw [af,put]; rfl)
 ·refine aI (decide_eq_false (fun z=>by cases z)) ?_
  obtain⟨lp,ez⟩:=r9.mp hp;refine⟨zQa,zQa,k,_,dx,_,.str z,rfl,S.ins,I.cl,nK,rfl,l,r2,p,z,rfl,hl,by omega,nd,hp,fun r H1 hr1 s1 e1=>?_⟩
  have hne:0 < (r2.drop (p + 1) ++ r2.take (p + 1)).length:=by rw [A2,G2,A0]; omega
  obtain⟨y,ey⟩:∃ y,(r2.drop (p + 1) ++ r2.take (p + 1))[0]? = some y:=⟨_,i5 hne⟩;refine⟨r,_,_,.str y,rfl,rfl,.of e1,bA (j:=0) (by rw [o0,ey]; rfl),zQa,k,_,dx,zQa,s1 _ _ S.ins,I.cl,nK,(by show 3 < 1000; decide),?_⟩
  refine q _ (BuX.set (.of s1) _) ?_;rw [af,put];have:qE r2 (.str z) = .str y:=by
   unfold qE;dsimp only;have e:Dg r2 z=p:=by rw [<- ez]; exact CI nd lp
   rw [e,aj5,ey]
  rw [this]
def PB (A:Adr)(f:List Str->List Str):Sp:=fun vs H Q _ => ∃(k dx nl rl:Addr) (ring:List Str) (v:V),vs=[.ref k]/\KeyAt A H k dx nl rl ring v/\k≠rl/\ring.length<=12/\ring.Nodup/\(v = .non\/∃(p:Nat) (z:Str),ring[p]? = some z/\v = .str z) /\
 ∀ H',BuX k H H'->KeyAt A H' k dx nl rl ring (qE (f ring) v)->Q .non H'
seal PE PS PSs L2.PA PT PI PG in
theorem Mn(T:Txt K mg A):FnOk P w K mg base CX0 3 A.fA A.pL lf (PB A id):=by
 have jY:=Cs (P:=P) (w:=w) (base:=base) T;have I:=kK T.ins (c:=A.c_Keys) (by simp)
 have cK:=I.cl;have me_turn:Meth K A.c_Keys "turn" A.cO:=I.meth ("turn",A.cO) (by simp)
 exists T.F_Keys_on.ok Ax
 ·obtain⟨k,dx,nl,rl,ring,v,rfl,_⟩:=h; rfl
 obtain⟨k,dx,nl,rl,ring,v,rfl,S,nk,n12,nd,hv,q⟩:=h;refine⟨_,ak (bB (xf (pv 0) cK me_turn jY hr T.b_Keys_turn .nil au (aa (oS (pv 0) rfl) ae))),?_⟩;refine⟨zQa,k,dx,zQa,S.ins,rfl,zQa,k,_,dx,_,.ref rl,rfl,S.ins,I.cl,I.no "ring" (by decide +kernel),rfl,k,dx,nl,rl,rl,ring,ring,v,rfl,S,S.ring,n12,nd,hv,fun H1 b1 e1=>?_⟩
 exact q _ b1 ⟨e1,b1 _ _ nk.symm S.ring⟩
seal PE PS PSs L2.PA PT PI PG in
theorem Ct(T:Txt K mg A):FnOk P w K mg base CX0 3 A.cN A.kF ib (PB A List.reverse):=by
 have jY:=Cs (P:=P) (w:=w) (base:=base) T;have I:=kK T.ins (c:=A.c_Keys) (by simp)
 have cK:=I.cl;have me_turn:Meth K A.c_Keys "turn" A.cO:=I.meth ("turn",A.cO) (by simp)
 exists T.F_Keys_back.ok xn
 ·obtain⟨k,dx,nl,rl,ring,v,rfl,_⟩:=h; rfl
 obtain⟨k,dx,nl,rl,ring,v,rfl,S,nk,n12,nd,hv,q⟩:=h;refine⟨_,ak (bB (xf (pv 0) cK me_turn jY hr T.b_Keys_turn .nil au (aa (qe rfl T.km xK rfl T.dB ny (oS (pv 0) rfl)) ae))),?_⟩;refine⟨zQa,k,dx,zQa,S.ins,rfl,zQa,k,_,dx,_,.ref rl,rfl,S.ins,I.cl,I.no "ring" (by decide +kernel),rfl,rl,zQa,.of S.ring,fun l hl=>?_⟩
 have s1:=ai hl (.lst (ring.map V.str).reverse);have hv2:v = .non\/∃(p:Nat) (z:Str),ring.reverse[p]? = some z/\v = .str z:=by
  rcases hv with h | ⟨p,z,hp,e⟩
  ·exact .inl h
  ·have lp:=(r9.mp hp).1
   exact .inr ⟨ring.length - 1 - p,z,by rw [V4 (by omega),show ring.length - 1 - (ring.length - 1 - p)=p by omega]; exact hp,e⟩
 refine⟨k,dx,nl,rl,l,ring,ring.reverse,v,rfl,⟨s1 _ _ S.ins,s1 _ _ S.ring⟩,(by rw [af,<- V1]),by rw [Q9]; exact n12,wH nd,hv2,fun H1 b1 e1=>?_⟩
 exact q _ ((BuX.of s1).trans b1) ⟨e1,b1 _ _ nk.symm (s1 _ _ S.ring)⟩
def QT (A:Adr):Sp:=fun vs H Q _ => ∃(k dx nl rl:Addr) (ring:List Str) (v:V) (z:Str),vs=[.ref k,.str z]/\KeyAt A H k dx nl rl ring v/\k≠rl/\z∈ring/\∀ H',BuX k H H'->KeyAt A H' k dx nl rl ring (.str z)->Q .non H'
seal PE PS PSs L2.PA PT PI PG in
theorem PR(T:Txt K mg A):FnOk P w K mg base CX0 1 A.iQ A.pU lA (QT A):=by
 have I:=kK T.ins (c:=A.c_Keys) (by simp)
 exists T.F_Keys_to.ok Bt
 ·obtain⟨k,dx,nl,rl,ring,v,z,rfl,_⟩:=h; rfl
 obtain⟨k,dx,nl,rl,ring,v,z,rfl,S,nk,hz,q⟩:=h;refine⟨_,@ah _ _ _ _ _ (bc (PW.pt (gp (ca (bS (aq bF rfl T.aF aL (aa (pv 1) (aa (bL rfl T.gQ kz (v:=.ty "str") rfl) ae))))) (dY (aB yh (pv 1) (oS (pv 0) rfl) rfl)))) vv aE)
  (ak (oX (pv 0) (pv 1) rfl)),?_⟩
 have nK:=I.no "key" (by decide +kernel)
 have put:∀ y:V,L2.cJ "key" y (kyF nl rl v)=kyF nl rl y:=fun y=>by kernel_rfl
 refine⟨zQa,_,"str",_,true,rfl,.str z,BG T.kit (S:="str") (T:="str") rfl rfl,true,rfl,aI rfl ⟨zQa,zQa,k,_,dx,_,.ref rl,rfl,S.ins,I.cl,I.no "ring" (by decide +kernel),rfl,rl,zQa,.inl (.of S.ring),rfl,bh ring,zQa,?_⟩⟩
 have hin:inV (.str z) (ring.map V.str)=true:=by
  rw [jQ];unfold inS;exact G4.mpr ⟨z,hz,by simp⟩
 refine aI (by rw [if_pos rfl,hin]; rfl) ?_
 dsimp only [bN];refine⟨zQa,zQa,k,_,dx,zQa,S.ins,I.cl,nK,(by show 3 < 1000; decide),?_⟩
 exact q _ (BuX.set (.of (.refl _)) _) ⟨by rw [af,put],by rw [am nk.symm]; exact S.ring⟩
def Nw (K:i3)(A:Adr):Sp:=fun vs H Q _ => ∃(k dx d D:Addr) (no:List Str) (ab:Str->Bool),vs=[.ref k,.ref d,.ref D]/\H k=some (.ins A.c_Keys dx [])/\Dsh K H d D no ab /\
 ∀(nl rl:Addr) (H':Hp),BuX k H H'->H rl=none->KeyAt A H' k dx nl rl (no.filter ab) .non->Q .non H'
seal PE PS PSs L2.PA PT PI PG in
theorem JG(T:Txt K mg A):FnOk P w K mg base CX0 4 A.ik A.kC gX (Nw K A):=by
 have cv:=(fJ (P:=P) (w:=w) (base:=base) T).mono (show 2<=3 by decide)
 have fb:=qY (P:=P) (w:=w) (base:=base) T;have I:=kK T.ins (c:=A.c_Keys) (by simp)
 exists T.F_Keys_init.ok yc
 ·obtain⟨k,dx,d,D,no,ab,rfl,_⟩:=h; rfl
 obtain⟨k,dx,d,D,no,ab,rfl,ek,S,q⟩:=h;refine⟨_,@ah _ _ _ _ _ (oX (pv 0) (b9 cv hr rfl T.bo (aa (pv 1) ae)) rfl)
  (@ah _ _ _ _ _ (oX (pv 0) (b9 fb hr rfl T.bY (aa (pv 1) (aa (pv 2) ae))) rfl)
  (ak (oX (pv 0) nN rfl))),?_⟩
 obtain⟨c,xs,ds,ok,h0,hb,hno,en,sh⟩:=S.ex;refine⟨zQa,d,xs,c,0,rfl,ok,h0,hb,fun nl H1 hnl s1 e1=>⟨zQa,k,_,dx,zQa,s1 _ _ ek,I.cl,I.no "names" (by decide +kernel),(by show 0 < 1000; decide),?_⟩⟩
 have b1:BuX k H (upd H1 k (.ins A.c_Keys dx [("names",.ref nl)])):=BuX.set (.of s1) _;have e2:upd H1 k (.ins A.c_Keys dx [("names",.ref nl)]) k=_:=af;have S2:=S.but ek b1;show Ec _ _ _ _ (upd H1 k (.ins A.c_Keys dx [("names",.ref nl)]));generalize upd H1 k (.ins A.c_Keys dx [("names",.ref nl)])=H2 at b1 e2 S2 ⊢;refine⟨zQa,zQa,d,D,no,ab,rfl,S2,fun rl H3 hrl s3 e3=>⟨zQa,k,_,dx,zQa,s3 _ _ e2,I.cl,I.no "ring" (by decide +kernel),(by show 1 < 1000; decide),?_⟩⟩
 have nkr:k≠rl:=fun z=>by rw [<- z,e2] at hrl; cases hrl
 have hrlH:H rl=none:=by
  cases e:H rl with
  | none=>rfl
  | some o=>rw [b1 _ _ nkr.symm e] at hrl; cases hrl
 refine⟨zQa,k,_,dx,zQa,af,I.cl,I.no "key" (by decide +kernel),(by show 2 < 1000; decide),?_⟩
 refine q nl rl _ (((b1.trans (.of s3)).set _).set _) hrlH ⟨by rw [af]; rfl,by rw [am nkr.symm,am nkr.symm]; exact e3⟩
end
end KP
namespace L2
open PySem PySem.W PySem.Spec PySem.Calls PyProof.Rows
theorem tP:∀ {vs:List g7} {ns:List Str},StrsAre vs ns->aU (ns.map V.str) vs
 | _,_,.nil=>.nil
 | _,_,.cons y t r=>.cons ⟨t,rfl⟩ (tP r)
theorem ow{X:Cx}:gS X (.builtin "sorted") (fun xs H Q => ∃(p:Addr) (ns:List Str),xs=[V.ref p]/\SqL X.K H p (ns.map V.str)/\ns.length < 64 /\
  ∀(ms:List Str) (l:Addr),ms.Perm ns->sortedS ms=true->H l=none->Q (.ref l) (upd H l (.lst (ms.map V.str)))):=by
 intro pins s σ H xs us Q I r h;obtain⟨p,ns,rfl,hp,hn,q⟩:=h;obtain⟨u,rfl,ru⟩:=iy r;cases ru;obtain⟨its,rv,pl,_⟩:=I.list hp;have hi:=ju rv;have hl:=rv.length;rw [i4] at hl;refine sorted_strs pl.isList hi (by omega) fun out ms a1 a2 a3=>?_
 obtain⟨e,he⟩:=sortedAll_at s.heap its out;have hD:s.heap.get? (s.heap.objs.size + 1)=none:=ak5 (E6 _);have hz:(ms.map V.str).length<=sizeLine:=by
  rw [i4,a2.length_eq];exact E5 (az (by omega))
 have I3:Inv X pins σ (upd H (s.heap.objs.size + 1) (.lst (ms.map V.str))) { s with heap:=sortedAll s.heap its out,toks:=s.toks } :=
  I.gain (fun b u=>sortedAll_old) hD ⟨hz,out.toList,e,tP a1,by simpa [seqObj] using he⟩
 exact⟨.ref _,_,I3,rfl,q ms _ a2 a3 (I.no hD)⟩
theorem vJ:∀(r:List Str) (p:Str),risingS p r=true->(p :: r).Pairwise fun a b=>a.cps.toList<=b.cps.toList
 | [],p,_=>List.pairwise_singleton ..
 | x :: r,p,h=>by
  have h':(!ltCps x.cps.toList p.cps.toList && risingS x r)=true:=h;rw [y9,ltCps_eq] at h';have ih:=vJ r x h'.2;have hpx:p.cps.toList<=x.cps.toList:=List.not_lt.mp (by simpa using h'.1)
  refine X9.mpr ⟨fun y hy=>?_,ih⟩;rcases l6.mp hy with rfl | hy
  ·exact hpx
  ·exact List.le_trans hpx ((X9.mp ih).1 y hy)
theorem BY{l:List Str}(h:sortedS l=true):l.Pairwise fun a b=>a.cps.toList<=b.cps.toList:=by
 cases l with
 | nil=>exact .nil
 | cons x r=>exact vJ r x h
theorem Hw{a b:List Str}(h:a.Perm b)(ha:sortedS a=true)(hb:sortedS b=true):a=b :=
 List.Perm.eq_of_pairwise (fun x y _ _ h1 h2=>by
  have e:=List.le_antisymm h1 h2;cases x; cases y;exact congrArg Str.mk (an7.mp e)) (BY ha) (BY hb) h
end L2
namespace KP
open PySem L2 PyProof.Rows
theorem yZ{r:List Str}(nd:r.Nodup){p:Nat}{z:Str}(hp:r[p]? = some z):∃ y,r[(p + 1) % r.length]? = some y/\qE r (.str z) = .str y:=by
 obtain⟨lp,ez⟩:=r9.mp hp;have e:Dg r z=p:=by rw [<- ez]; exact CI nd lp
 have hm:(p + 1) % r.length < r.length:=ad1 _ (by omega)
 refine⟨r[(p + 1) % r.length],i5 hm,?_⟩;unfold qE;dsimp only;rw [e,Y1,List.head?_drop,List.head?_take];by_cases h:p + 1 < r.length
 ·have e1:(p + 1) % r.length=p + 1:=F8 h
  rw [i5 h];simp only [aj6,e1]
 ·have e1:(p + 1) % r.length=0:=by rw [show p + 1=r.length by omega]; exact aj7 _
  rw [X6 (by omega),aj8,if_neg (by omega)]
  simp only [e1]
  rw [aj5,i5 (by omega)]
theorem Fp{r:List Str}(nd:r.Nodup){p:Nat}{z:Str}(hp:r[p]? = some z):∃ y,r[(p + (r.length - 1)) % r.length]? = some y/\qE r.reverse (.str z) = .str y:=by
 obtain⟨lp,ez⟩:=r9.mp hp;have hq:r.reverse[r.length - 1 - p]? = some z:=by rw [V4 (by omega),show r.length - 1 - (r.length - 1 - p)=p by omega]; exact hp
 obtain⟨y,h1,h2⟩:=yZ (wH nd) hq;refine⟨y,?_,h2⟩;rw [Q9] at h1;have hm:(r.length - 1 - p + 1) % r.length < r.length:=ad1 _ (by omega)
 rw [V4 hm] at h1;rw [<- h1]
 congr 1
 by_cases h0:p=0
 ·subst h0
  rw [show r.length - 1 - 0 + 1=r.length by omega,aj7,U1,F8 (by omega)]; omega
 ·rw [F8 (show r.length - 1 - p + 1 < r.length by omega),show p + (r.length - 1)=(p - 1) + r.length by omega,ad3,F8 (by omega)]; omega
def stp (by_ n:Nat):Nat:=if by_=0 then 1 else n - 1
section
variable {P:i8} {w:i7} {K:i3} {mg:Str→Option g7} {base:Heap} {A:Adr}
def QM (A:Adr):Sp:=fun vs H Q _ => ∃(k dx nl rl:Addr) (ring:List Str) (b m p:Nat) (z:Str),vs=[.ref k,.int b,.int m]/\KeyAt A H k dx nl rl ring (.str z)/\k≠rl/\ring.length<=12/\ring.Nodup/\ring[p]? = some z/\m<=100/\b<=1 /\
 ∀(H':Hp) (y:Str),BuX k H H'->ring[(p + stp b ring.length * m) % ring.length]? = some y->KeyAt A H' k dx nl rl ring (.str y)->Q .non H'
seal PE PS PSs L2.PA PT PI PG in
theorem PZ(T:Txt K mg A):FnOk P w K mg base CX0 4 A.Hm A.FP xY (QM A):=by
 have pB:=Mn (P:=P) (w:=w) (base:=base) T;have kE:=Ct (P:=P) (w:=w) (base:=base) T;have I:=kK T.ins (c:=A.c_Keys) (by simp)
 exists T.nJ.F.ok Cj
 ·obtain⟨k,dx,nl,rl,ring,b,m,p,z,rfl,_⟩:=h; rfl
 obtain⟨k,dx,nl,rl,ring,b,m,p,z,rfl,S,nk,n12,nd,hp,hm,hb,q⟩:=h;refine⟨_,ak (dZ F7 rfl (cG rfl T.cq (aa (pv 2) ae)) (aN (i:=3) Cj.nd rfl (m9 rfl)) (ak (bc (aB cB (pv 1) ag (aJ _)) (ak (bB (fv (pv 0) pB hr T.b_Keys_on .nil au))) (ak (bB (fv (pv 0) kE hr T.b_Keys_back .nil au)))))),?_⟩;obtain⟨lp,ez⟩:=r9.mp hp;have me_on:Meth K A.c_Keys "on" A.fA:=I.meth ("on",A.fA) (by simp)
 have me_back:Meth K A.c_Keys "back" A.cN:=I.meth ("back",A.cN) (by simp)
 refine⟨zQa,zQa,by omega,by omega,gG (n:=((m:Nat):Int).toNat) (fun i σ H' => ∃(v3:Option V) (y:Str),σ=[some (.ref k),some (.int b),some (.int m),v3]/\BuX k H H'/\ring[(p + stp b ring.length * i) % ring.length]? = some y/\KeyAt A H' k dx nl rl ring (.str y)) ⟨none,z,rfl,.of (.refl _),by rw [Nat.mul_zero,Nat.add_zero,F8 lp]; exact hp,S⟩ ?_ ?_⟩
 ·rintro i σ H1 hi ⟨v3,y,rfl,b1,hy,S1⟩
  dsimp only [bC];refine⟨zQa,rfl,zQa,?_⟩;have hv:(V.str y = .non\/∃(p:Nat) (z:Str),ring[p]? = some z/\V.str y = .str z):=.inr ⟨_,y,hy,rfl⟩;by_cases h0:b=0
  ·subst h0
   refine aM (decide_eq_true rfl) ⟨zQa,k,_,dx,zQa,S1.ins,I.cl,me_on,rfl,k,dx,nl,rl,ring,.str y,rfl,S1,nk,n12,nd,hv,fun H2 b2 S2=>?_⟩;obtain⟨y2,h1,h2⟩:=yZ nd hy;rw [show qE (id ring) (.str y) = .str y2 from h2] at S2
   refine⟨_,y2,rfl,b1.trans b2,?_,S2⟩;rw [<- h1]
   congr 1
   show(p + 1 * (i + 1)) % ring.length=((p + 1 * i) % ring.length + 1) % ring.length;rw [ad4,Y2,Y2,aj9]
  ·have hb1:b=1:=by omega
   subst hb1;refine aI (decide_eq_false (by decide)) ⟨zQa,k,_,dx,zQa,S1.ins,I.cl,me_back,rfl,k,dx,nl,rl,ring,.str y,rfl,S1,nk,n12,nd,hv,fun H2 b2 S2=>?_⟩
   obtain⟨y2,h1,h2⟩:=Fp nd hy;rw [h2] at S2;refine⟨_,y2,rfl,b1.trans b2,?_,S2⟩;rw [<- h1]
   congr 1
   show(p + (ring.length - 1) * (i + 1)) % ring.length=((p + (ring.length - 1) * i) % ring.length + (ring.length - 1)) % ring.length;rw [ad4,ak0,V3,aj9]
 ·rintro σ H1 ⟨v3,y,rfl,b1,hy,S1⟩
  exact q H1 y b1 (by simpa using hy) S1
theorem rE{no:List Str}{ab:Str->Bool}(nd:no.Nodup){q p:Nat}{z:Str}(hq:no[q]? = some z)(hp:(no.filter ab)[p]? = some z):(no.drop (q + 1)).filter ab=(no.filter ab).drop (p + 1)/\(no.take q).filter ab=(no.filter ab).take p:=by
 obtain⟨lq,ez⟩:=r9.mp hq;obtain⟨lp,ez'⟩:=r9.mp hp;have hab:ab z=true:=(G5.mp (C5 hp)).2;have e:no=no.take q ++ z :: no.drop (q + 1):=by rw [<- ez,<- aq0 lq,V2]
 have er:no.filter ab=(no.take q).filter ab ++ z :: (no.drop (q + 1)).filter ab:=by
  have e2:no.filter ab=(no.take q ++ z :: no.drop (q + 1)).filter ab:=by rw [<- e]
  rw [e2,L7,List.filter_cons,if_pos hab]
 have rnd:(no.filter ab).Nodup:=nd.filter _;have hl:((no.take q).filter ab).length < (no.filter ab).length:=by rw [er,A2,x9]; omega
 have ht:(no.filter ab)[((no.take q).filter ab).length]? = some z:=by
  have:((no.take q).filter ab ++ z :: (no.drop (q + 1)).filter ab)[((no.take q).filter ab).length]? = some z:=by rw [Q3 (i6 _),U4]; rfl
  rw [<- er] at this; exact this
 have ep:p=((no.take q).filter ab).length:=(aj2 lp rnd).mp (hp.trans ht.symm);have g1:((no.take q).filter ab ++ z :: (no.drop (q + 1)).filter ab).drop (((no.take q).filter ab).length + 1)=(no.drop (q + 1)).filter ab:=by
  rw [<- List.drop_drop,List.drop_left]; rfl
 have g2:((no.take q).filter ab ++ z :: (no.drop (q + 1)).filter ab).take ((no.take q).filter ab).length=(no.take q).filter ab:=List.take_left ..;rw [<- er,<- ep] at g1 g2;exact⟨g1.symm,g2.symm⟩
theorem Ey{r:List Str}{p:Nat}(lp:p < r.length):∃ y,r[(p + 1) % r.length]? = some y/\tO (r.drop (p + 1) ++ r) = .str y:=by
 have hm:(p + 1) % r.length < r.length:=ad1 _ (by omega)
 refine⟨r[(p + 1) % r.length],i5 hm,?_⟩;unfold tO;rw [Y1,List.head?_drop];by_cases h:p + 1 < r.length
 ·have e1:(p + 1) % r.length=p + 1:=F8 h
  rw [i5 h];simp only [aj6,e1]
 ·have e1:(p + 1) % r.length=0:=by rw [show p + 1=r.length by omega]; exact aj7 _
  rw [X6 (by omega),aj8]
  simp only [e1]
  rw [aj5,i5 (by omega)]
theorem DQ{r:List Str}{p:Nat}(lp:p < r.length):∃ y,r[(p + (r.length - 1)) % r.length]? = some y/\CG (r ++ r.take p) = .str y:=by
 have hm:(p + (r.length - 1)) % r.length < r.length:=ad1 _ (by omega)
 refine⟨r[(p + (r.length - 1)) % r.length],i5 hm,?_⟩;unfold CG;rw [ar2];by_cases h:p=0
 ·subst h
  have e1:(0 + (r.length - 1)) % r.length=r.length - 1:=by rw [U1]; exact F8 (by omega)
  simp only [List.take_zero,List.getLast?_nil,aj8,e1]
  rw [ar3,i5 (by omega)]
 ·have e1:(p + (r.length - 1)) % r.length=p - 1:=by rw [show p + (r.length - 1)=(p - 1) + r.length by omega,ad3]; exact F8 (by omega)
  have e2:(r.take p).getLast? = some r[p - 1]:=by
   rw [ar3,A0,ac4 (by omega),ak1,if_pos (by omega),i5 (by omega)]
  rw [e2];simp only [aj6,e1]
def dM (b p:Nat)(r:List Str):List Str:=if b=0 then r.drop (p + 1) ++ r.take (p + 1) else(r.take p).reverse ++ (r.drop p).reverse
theorem wb{b p:Nat}{r:List Str}:(dM b p r).Perm r:=by
 unfold dM;split
 ·exact List.perm_append_comm.trans (by rw [V2])
 ·refine((ar4 _).append (ar4 _)).trans ?_
  rw [V2]
theorem xA{b p:Nat}{r:List Str}(lp:p < r.length){j:Nat}(hj:j < r.length):(dM b p r)[j]? = r[(p + stp b r.length * (j + 1)) % r.length]? := by
 unfold dM stp;by_cases hb:b=0
 ·rw [if_pos hb,if_pos hb,Y2,X8,G2]
  split
  ·rename_i h
   rw [aj4,F8 (by omega)]
   congr 1; omega
  ·rename_i h
   rw [ak1,if_pos (by omega),show p + (j + 1)=(j - (r.length - (p + 1))) + r.length by omega,ad3,F8 (by omega)]
 ·rw [if_neg hb,if_neg hb,X8,Q9,A0,ac4 (by omega)]
  have mul:(r.length - 1) * (j + 1) + (j + 1)=r.length * (j + 1):=by
   have:r.length=(r.length - 1) + 1:=by omega
   rw [show r.length * (j + 1)=((r.length - 1) + 1) * (j + 1) by rw [<- this],Nat.add_mul,Y2]
  split
  ·rename_i h
   rw [V4 (by rw [A0]; omega),ak1,A0,if_pos (by omega),show p + (r.length - 1) * (j + 1)=(p - 1 - j) + r.length * (j + 1) by omega,ar5,F8 (by omega)]
   congr 1; omega
  ·rename_i h
   have mul2:r.length * (j + 1)=r.length + r.length * j:=by rw [ak0,V3,aa2]
   rw [V4 (by rw [G2]; omega),aj4,G2,show p + (r.length - 1) * (j + 1)=(p + r.length - 1 - j) + r.length * j by omega,ar5,F8 (by omega)]
   congr 1; omega
theorem ot{b p:Nat}{r:List Str}:(dM b p r).length=r.length:=wb.length_eq
theorem Qf{K:i3}{H H':Hp}{a:Addr}{xs:List V}(h:SqL K H a xs)(k:Kn H H'):SqL K H' a xs:=by
 rcases h with (h | ⟨o,h⟩) | h
 ·exact .inl (.inl (k.lst h))
 ·exact .inl (.inr ⟨o,k.keep _ _ (fun _ z=>by cases z) h⟩)
 ·exact .inr h
theorem oK{K:i3}{a:Addr}{y:Str}{cap:List Nat}{tt:TT}{te:TE}{σ:L2.St}{Z:List V->Hp->Prop}{H1:Hp}(ns:List Str)(f:Str->Bool)(hS:H1 a=some (.lst (ns.map V.str)))(hz:ns.length<=100)
  (ht:∀ z∈ns,∀ R:Bool->Hp->Prop,R (f z) H1->tt ((eX [y] cap σ).set 0 (some (.str z))) H1 R) (he:∀ z∈ns,∀ Q:VK,Q (.str z) H1->te ((eX [y] cap σ).set 0 (some (.str z))) H1 Q) (hd:Z ((ns.filter f).map V.str) H1) :
  (∃ xs,SqL K H1 a xs)/\oU [y] cap (bC 0) tt te σ Z (Itl K a) H1:=by
 refine⟨⟨_,.of hS⟩,iN (xs:=ns.map V.str) (fun i acc H'=>acc=((ns.take i).filter f).map V.str/\H'=H1) ⟨rfl,rfl⟩ (fun i acc H' z=>by rw [z.2]; exact .of hS) (fun i acc H' z=>?_) (fun i x acc H' N kk hx z=>?_) fun acc H' z=>?_⟩
 ·rw [z.1,i4]
  have:=R6 f (ns.take i);rw [A0] at this;exact az (by omega)
 ·obtain⟨rfl,rfl⟩:=z
  rw [o0] at hx;cases hz':ns[i]? with
  | none=>rw [hz'] at hx; cases hx
  | some z =>
  rw [hz'] at hx;cases hx;have hm:=C5 hz';have st:(ns.take (i + 1)).filter f=(ns.take i).filter f ++ if f z=true then [z] else []:=by
   rw [B7,hz',aq7,L7]
   congr 1
   cases h:f z <;> simp [h]
  refine ht z hm _ ?_;cases hb:f z with
  | true=>exact aM rfl (he z hm _ (kk _ _ ⟨by rw [st,hb,if_pos rfl,j6]; rfl,rfl⟩))
  | false=>exact aI rfl (kk _ _ ⟨by rw [st,hb,if_neg (by decide),Q0],rfl⟩)
 ·obtain⟨rfl,rfl⟩:=z
  rw [i4,B5]; exact hd
theorem Hn{b p:Nat}{r:List Str}{z:Str}(hp:r[p]? = some z):∃ l,dM b p r=l ++ [z]:=by
 have lp:=(r9.mp hp).1;have e:(dM b p r).take (r.length - 1 + 1)=dM b p r:=by rw [show r.length - 1 + 1=(dM b p r).length by rw [ot]; omega,B5]
 refine⟨(dM b p r).take (r.length - 1),?_⟩;have e2:=e.symm;rw [B7,xA lp (by omega),show r.length - 1 + 1=r.length by omega,ar6,F8 lp,hp] at e2
 exact e2
theorem FW{H H':Hp}(s:aS H H'){a:Addr}(h:H' a=none):H a=none:=by
 cases e:H a with
 | none=>rfl
 | some o=>rw [s _ _ e] at h; cases h
theorem Qb{no ring:List Str}{ab:Str->Bool}(nd:no.Nodup)(hrg:no.filter ab=ring){q p:Nat}{z:Str}(hq:no[q]? = some z)(hp:ring[p]? = some z):∃ y,ring[(p + 1) % ring.length]? = some y/\yI no ab q = .str y:=by
 subst hrg;obtain⟨y,h1,h2⟩:=Ey (r9.mp hp).1;exact⟨y,h1,by rw [Jm,(rE nd hq hp).1]; exact h2⟩
theorem Mb{no ring:List Str}{ab:Str->Bool}(nd:no.Nodup)(hrg:no.filter ab=ring){q p:Nat}{z:Str}(hq:no[q]? = some z)(hp:ring[p]? = some z):∃ y,ring[(p + (ring.length - 1)) % ring.length]? = some y/\zU no ab q = .str y:=by
 subst hrg;obtain⟨y,h1,h2⟩:=DQ (r9.mp hp).1;exact⟨y,h1,by rw [JC ab (r9.mp hq).1,(rE nd hq hp).2]; exact h2⟩
theorem ixz{b n p m:Nat}(h0:0 < n):((p:Int) + (if b=0 then(m:Int) else -(m:Int))) % (n:Int)=(((p + stp b n * m) % n:Nat):Int):=by
 unfold stp;rw [Int.natCast_emod];by_cases hb:b=0
 ·rw [if_pos hb,if_pos hb,Y2,ak2]
 ·rw [if_neg hb,if_neg hb]
  obtain⟨k,rfl⟩:∃ k,n=k + 1:=⟨n - 1,by omega⟩
  have e:((p + (k + 1 - 1) * m:Nat):Int)=(p:Int) + -(m:Int) + ((k + 1:Nat):Int) * (m:Int):=by
   rw [Nat.add_sub_cancel,ak2,Int.natCast_mul,ak2,Int.add_mul];omega
  rw [e,Int.add_mul_emod_self_left]
theorem iK{k:Addr}{H H1 H2:Hp}(s:aS H H1)(hk:H k=none)(b:BuX k H1 H2):aS H H2:=fun c o e=>b c o (fun z=>by rw [z,hk] at e; cases e) (s c o e)
def spLaw (t1 t2:Addr)(K:i3):Sp:=fun vs H Q _ => ∃(a:Addr) (ns:List Int),vs=[.ref a]/\SqL K H a (ns.map V.int)/\ns.length<=63/\H t1=some (.tbl #[])/\H t2=some (.tbl #[])/\∀ H',Q (.bl true) H'
abbrev Fz:j9:=(match aW gO with | _ :: _ :: _ :: _ :: (.If (.BoolOp _ (_ :: (.Compare (.ListComp _ _ sc _) _ _ _) :: _) _) _ _ _) :: _=>sc | _=>aj gO)
theorem De:Blk (aj gO) ou Fz ["_law_name"] [3]:=⟨rfl,zQd,zQd,zQd,zQd⟩
theorem IB:(cy ou ["_law_name"] [3]).Nodup:=by decide +kernel
abbrev Ia:j9:=(match aW gO with | _ :: _ :: _ :: _ :: (.If (.BoolOp _ ((.Compare (.ListComp _ _ sc _) _ _ _) :: _) _) _ _ _) :: _=>sc | _=>aj gO)
theorem DY:Blk (aj gO) ou Ia ["_law_name"] [4]:=⟨rfl,zQd,zQd,zQd,zQd⟩
theorem Hu:(cy ou ["_law_name"] [4]).Nodup:=by decide +kernel
abbrev Fj:j9:=(match aW gO with | _ :: _ :: _ :: _ :: _ :: _ :: (.If _ (_ :: _ :: (.Return (some (.BoolOp _ (_ :: (.Compare (.ListComp _ _ sc _) _ _ _) :: _) _)) _) :: _) _ _) :: _=>sc | _=>aj gO)
theorem DR:Blk (aj gO) ou Fj ["_law_name"] [3]:=⟨rfl,zQd,zQd,zQd,zQd⟩
theorem Ig:(cy ou ["_law_name"] [3]).Nodup:=by decide +kernel
abbrev Iw:j9:=(match aW gO with | _ :: _ :: _ :: _ :: _ :: _ :: _ :: _ :: (.Return (some (.Compare _ _ ((.Call _ ((.ListComp _ _ sc _) :: _) _ _) :: _) _)) _) :: _=>sc | _=>aj gO)
theorem Ej:Blk (aj gO) ou Iw ["_law_name"] [3]:=⟨rfl,zQd,zQd,zQd,zQd⟩
theorem Hg:(cy ou ["_law_name"] [3]).Nodup:=by decide +kernel
seal PE PS PSs L2.PA PT PI PG in
theorem ok_law(T:Txt K mg A)(hw:A.wd=w)(ne:A.cT≠A.cT2)(hC:E3 base A.cC A.cT)(hbm:base.BuiltinsAt mg A.cT)(hC2:E3 base A.cC2 A.cT2)(hbm2:base.BuiltinsAt mg A.cT2):FnOk P w K mg base CX0 16 A.KG A.yK Da (spLaw A.cT A.cT2 K):=by
 have Eg:=(HX (P:=P) (w:=w) (base:=base) T).mono (show 2<=15 by decide)
 have ci:=(yf (P:=P) (w:=w) (base:=base) T).mono (show 1<=15 by decide)
 have AS:=DC (P:=P) (w:=w) (base:=base) T hw hC hbm hC2 hbm2;have cv:=(fJ (P:=P) (w:=w) (base:=base) T).mono (show 2<=15 by decide)
 have fb:=(qY (P:=P) (w:=w) (base:=base) T).mono (show 3<=15 by decide)
 have sX:=(HZ (P:=P) (w:=w) (base:=base) T).mono (show 4<=15 by decide)
 have tK:=(HB (P:=P) (w:=w) (base:=base) T).mono (show 4<=15 by decide)
 have yo:=(JG (P:=P) (w:=w) (base:=base) T).mono (show 4<=14 by decide)
 have pC:=(Qh (P:=P) (w:=w) (base:=base) T).mono (show 1<=15 by decide)
 have DM:=(PR (P:=P) (w:=w) (base:=base) T).mono (show 1<=15 by decide)
 have pB:=(Mn (P:=P) (w:=w) (base:=base) T).mono (show 3<=15 by decide)
 have kE:=(Ct (P:=P) (w:=w) (base:=base) T).mono (show 3<=15 by decide)
 have Fw:=(PZ (P:=P) (w:=w) (base:=base) T).mono (show 4<=15 by decide)
 have I:=kK T.ins (c:=A.c_Keys) (by simp)
 have cK:=I.cl;have M_Keys:Mk K A.c_Keys A.ik:=I.made _ (by simp)
 have me_to:Meth K A.c_Keys "to" A.iQ:=I.meth ("to",A.iQ) (by simp)
 have me_at:Meth K A.c_Keys "at" A.iR:=I.meth ("at",A.iR) (by simp)
 have me_on:Meth K A.c_Keys "on" A.fA:=I.meth ("on",A.fA) (by simp)
 have me_back:Meth K A.c_Keys "back" A.cN:=I.meth ("back",A.cN) (by simp)
 exists T.KW.F.ok fX
 ·obtain⟨a,ns,rfl,_⟩:=h; rfl
 obtain⟨a,ns,rfl,hS,h63,ht1,ht2,q⟩:=h;refine⟨_,@ah _ _ _ _ _ (aR (i:=1) fX.nd rfl (m9 rfl) (b9 Eg hr rfl T.ma (aa (b9 ci hr rfl T.aO (aa (pv 0) (aa ag ae))) (aa (aD bZ ag (aD aZ (b9 ci hr rfl T.aO (aa (pv 0) (aa ag ae))) ag)) ae))))
  (@ah _ _ _ _ _ (IM (b9 AS hr rfl T.jj (aa (pv 0) (aa (pv 1) (aa (b9 ci hr rfl T.aO (aa (pv 0) (aa ag ae))) ae)))) (xD rfl (fM (aN (i:=2) fX.nd rfl (m9 rfl)) (fM (aN (i:=3) fX.nd rfl (B9 rfl)) qZ))))
  (@ah _ _ _ _ _ (aR (i:=4) fX.nd rfl (B9 rfl) (b9 fb hr rfl T.bY (aa (pv 2) (aa (pv 3) ae))))
  (@ah _ _ _ _ _ (aR (i:=5) fX.nd rfl (m9 rfl) (b9 cv hr rfl T.bo (aa (pv 2) ae)))
  (@ah _ _ _ _ _ (bc (PW.pt (gp (aB (AD hr.units0) (bO DY rfl (cZ (pv 5)) (fun _ _ _ _ _=>aN (i:=0) Hu rfl (.inl rfl)) (fun _ _ _ _ _=>jp (aB (tq (K:=K) rfl) (pv 0) (pv 1) rfl)) (fun _ _ _ _ _=>pv 0)) (pv 4) (aJ _)) (dY (aB (AD hr.units0) (bO De rfl (cZ (pv 4)) (fun _ _ _ _ _=>aN (i:=0) IB rfl (.inl rfl)) (fun _ _ _ _ _=>jp (ca (bS (fH (gk hr) (fH (gk hr) (pv 1) (pv 0) (fun _ _=>rfl)) ap (fun _ _=>rfl))))) (fun _ _ _ _ _=>pv 0)) (bb ae) (aJ _))))) (ak (ar dW)) aE)
  (@ah _ _ _ _ _ (aR (i:=6) fX.nd rfl (m9 rfl) (Jh M_Keys yo hr rfl T.m_Keys T.b_Keys_init .nil au (aa (pv 2) (aa (pv 3) ae))))
  (@ah _ _ _ _ _ (bc (aB (Fg hr.units0) (pv 4) (bb ae) (aJ _)) (@ah _ _ _ _ _ (bB (fv (pv 6) pB hr T.b_Keys_on .nil au))
  (@ah _ _ _ _ _ (bB (fv (pv 6) kE hr T.b_Keys_back .nil au))
  (ak (ar (cu (br At (fv (pv 6) pC hr T.b_Keys_at .nil au) nN (aJ _)) (cz (br (Fg hr.units0) (bO DR rfl (cZ (pv 5)) (fun _ _ _ _ _=>aN (i:=0) Ig rfl (.inl rfl)) (fun _ _ _ _ _=>jp (bS (fH (gk hr) (fH (gk hr) (pv 1) (pv 0) (fun _ _=>rfl)) ap (fun _ _=>rfl)))) (fun _ _ _ _ _=>pv 0)) (bb ae) (aJ _)))))))) aE)
  (@ah _ _ _ _ _ (dZ F7 rfl (cG rfl T.cq (aa ag ae)) (aN (i:=7) fX.nd rfl (m9 rfl)) (ak (dZ F7 rfl (oI (pv 4)) (aN (i:=8) fX.nd rfl (m9 rfl)) (@ah _ _ _ _ _ (bB (xf (pv 6) cK me_to DM hr T.b_Keys_to .nil au (aa (pv 8) ae)))
  (@ah _ _ _ _ _ (aR (i:=9) fX.nd rfl (m9 rfl) (bb ae))
  (@ah _ _ _ _ _ (dZ F7 rfl (cG rfl T.cq (aa (aq aG rfl T.bM bT (aa (pv 4) ae)) ae)) (aN (i:=10) fX.nd rfl (m9 rfl)) (@ah _ _ _ _ _ (bB (b9 Fw hr rfl T.nJ (aa (pv 6) (aa (pv 7) (aa ag ae)))))
  (ak (bB (eZ F1 O4 O5 cX (pv 9) (aa (fv (pv 6) pC hr T.b_Keys_at .nil au) ae))))))
  (@ah _ _ _ _ _ (bc (PW.pt (gp (aB mF (aA aY (pv 9) (vb pW ag) (fun _ _=>rfl)) (pv 8) (aJ _)) (gp (aB (AD hr.units0) (aq ow rfl T.gH zH (aa (pv 9) ae)) (aq ow rfl T.gH zH (aa (pv 4) ae)) (aJ _)) (dY (aB mF (sj rfl T.bM bT rfl T.rK Fa (pv 9)) (aq aG rfl T.bM bT (aa (pv 9) ae)) (aJ _)))))) (ak (ar dW)) aE)
  (@ah _ _ _ _ _ (bc (PW.pt (gp (PW.pt (Be (aB cB (pv 7) ag (aJ _)) (xx (aB mF (b9 sX hr rfl T.dC (aa (pv 2) (aa (pv 3) (aa (pv 8) ae)))) (aA aY (pv 9) ag (fun _ _=>rfl)) (aJ _))))) (dY (PW.pt (Be (aB cB (pv 7) ag (aJ _)) (xx (aB mF (b9 tK hr rfl T.dA (aa (pv 2) (aa (pv 3) (aa (pv 8) ae)))) (aA aY (pv 9) ag (fun _ _=>rfl)) (aJ _)))))))) (ak (ar dW)) aE)
  (@ah _ _ _ _ _ (bc (aB mF (b9 tK hr rfl T.dA (aa (pv 2) (aa (pv 3) (aa (b9 sX hr rfl T.dC (aa (pv 2) (aa (pv 3) (aa (pv 8) ae)))) ae)))) (pv 8) (aJ _)) (ak (ar dW)) aE)
  (@ah _ _ _ _ _ (aR (i:=11) fX.nd rfl (m9 rfl) (aD bZ ag (aD aZ (b9 ci hr rfl T.aO (aa (pv 0) (aa ag ae))) ag)))
  (@ah _ _ _ _ _ (bB (b9 Fw hr rfl T.nJ (aa (pv 6) (aa (pv 7) (aa (pv 11) ae)))))
  (ak (bc (aB mF (fv (pv 6) pC hr T.b_Keys_at .nil au) (aA aY (pv 4) (aD aZ (aD bZ (eZ F1 aq8 aq9 vx (pv 4) (aa (pv 8) ae)) (aA aY (bb (aa (pv 11) (aa (vb pW (pv 11)) ae))) (pv 7) (fun _ _=>rfl))) (aq aG rfl T.bM bT (aa (pv 4) ae))) (fun _ _=>rfl)) (aJ _)) (ak (ar dW)) aE)))))))))))))
  (ak (ar (br cB (aq aG rfl T.bM bT (aa (pv 4) ae)) (aq aG rfl T.bM bT (aa (bO Ej rfl (cZ (pv 5)) (fun _ _ _ _ _=>aN (i:=0) Hg rfl (.inl rfl)) (fun _ _ _ _ _=>jp (bS (fH (gk hr) (fH (gk hr) (pv 1) (pv 0) (fun _ _=>rfl)) ap (fun _ _=>rfl)))) (fun _ _ _ _ _=>pv 0)) ae)) (aJ _))))))))))),?_⟩
 have tt:Tt A H:=⟨⟨_,ht1,.inl rfl⟩,⟨_,ht2,.inl rfl⟩,ne⟩;refine⟨zQa,a,ns,1,rfl,hS,h63,by decide,fun y1=>⟨zQa,a,ns,3,rfl,hS,h63,by decide,fun y3=>⟨zQb,(by show(0:Int) < 12; decide),zQb,?_⟩⟩⟩
 have h12:=emd (r:=y3) (show(0:Int) < 12 by decide)
 obtain⟨n',en⟩:=O3 h12.1;refine⟨y1,n' + 1,(by rw [en]; show [V.int y1,V.int (1 + (n':Int))]=[V.int y1,V.int ((n':Int) + 1)]; rw [Int.add_comm]),by omega,fun nl c H1 hnl s1 e1=>?_⟩
 dsimp only [bC];refine⟨zQa,zQa,zQa,a,ns,0,rfl,cS hS s1,h63,ab7 _,fun y0=>⟨a,nl,ns,y0,c,n' + 1,rfl,cS hS s1,h63,e1,by omega,by omega,tt.same s1,fun p d D xs ds ab H2 k2 t2 hp hD ep ok lx hb eds sh=>?_⟩⟩
 refine⟨p,[.ref d,.ref D],rfl,.of ep,rfl,_,zQa,zQb,?_⟩;have h0:0 < xs.length:=by omega
 have ond:(bp xs 0).Nodup:=xq ok h0;have oin:∀ j∈bp xs 0,j < xs.length:=fun j hj=>(jN ok _ 0 (i6 _) h0 j hj).2;have nd:((bp xs 0).map (dP xs)).Nodup:=ah8.mpr (aq6 (fun {i j} hi hj hne e=>hne (by
  have a1:=oin i hi;have a2:=oin j hj;have:=ok.n;rw [CH ok a1,CH ok a2] at e;exact wI (by omega) (by omega) e)) ond)
 have n12:((bp xs 0).map (dP xs)).length<=12:=by
  rw [i4];have:=FO xs.length _ ond oin;have:=ok.n;omega
 have eds':ds.map (·.1)=(bp xs 0).map (dP xs):=by rw [eds]; exact K3 fun j _=>HA.symm
 generalize hno:(bp xs 0).map (dP xs)=no at nd n12 eds';have S2:Dsh K H2 d D no ab:=⟨⟨c,xs,ds,ok,h0,hb,hno.symm,eds',sh⟩,nd,n12⟩;have hS2:=Qf (cS hS s1) k2;clear e1 hnl eds;refine⟨zQa,zQa,d,D,no,ab,rfl,S2,fun rl H3 hrl s3 er=>?_⟩;refine⟨zQa,d,xs,c,0,rfl,ok,h0,hb.same s3,fun ol H4 hol s4 eo=>?_⟩;rw [show((bp xs 0).map fun j=>V.str (dP xs j))=no.map V.str by rw [<- hno,A7]; rfl] at eo
 dsimp only [bC];have fS:∀ l:List Str,(l.map V.str).all dJ=true:=bh;have S4:=S2.same (s3.trans s4);have er4:=s4 _ _ er;have hS4:=cS hS2 (s3.trans s4);have lring:(no.filter ab).length<=12:=B8 (R6 _ _) n12;have rnd:(no.filter ab).Nodup:=nd.filter _;have n100:no.length<=100:=by omega
 have inR:∀(l:List Str) (z:Str),inV (.str z) (l.map V.str)=decide (z∈l):=fun l z=>by
  rw [jQ];unfold inS;rw [M4,decide_eq_true_iff,G4];exact⟨fun⟨y,hy,e⟩=>by have:y=z:=(by simpa using e); exact this ▸ hy,fun h=>⟨z,h,by simp⟩⟩
 have nds:(ds.map (·.1)).Nodup:=by rw [eds']; exact nd
 have abl:∀ {H':Hp},Dsh K H' d D no ab->H' D=some (.dK (ds.map fun p=>((i0 p.1:Key),V.ref p.2)))->(∀ p∈ds,∃ f:Str->V,H' p.2=some (.dK (fnL f))/\f "able" = .bl (ab p.1))->∀ z∈no,∃ pa:Addr,iC H' D (.str z) (some (.ref pa))/\iC H' pa (.str (u5 "able")) (some (.bl (ab z))):=fun {H'} _ ad it z hz=>by
  rw [<- eds'] at hz;obtain⟨p,hp,rfl⟩:=w8.mp hz;obtain⟨f,ef,fa⟩:=it p hp;have d1:=iC.k (k:=i0 p.1) ad;rw [BD nds hp] at d1;have d2:=iC.k (k:=i0 "able") ef;rw [show cm (fnL f) (i0 "able")=some (f "able") from Cz (by decide +kernel),fa] at d2
  exact⟨p.2,d1,d2⟩
 have it2:∀ p∈ds,∃ f:Str->V,H2 p.2=some (.dK (fnL f))/\f "able" = .bl (ab p.1):=fun p hp=>let ⟨f,g,e1,e2,_⟩:=sh.it p hp; ⟨f,e1,e2⟩
 have ad2:=sh.ad;have it4:∀ {H':Hp},aS H2 H'->∀ z∈no,∃ pa:Addr,iC H' D (.str z) (some (.ref pa))/\iC H' pa (.str (u5 "able")) (some (.bl (ab z))):=fun {H'} s'=>abl (S2.same s') (s' _ _ ad2) fun p hp=>let ⟨f,e1,e2⟩:=it2 p hp; ⟨f,s' _ _ e1,e2⟩
 have fr:no.filter (fun z=>decide (z∈no.filter ab))=no.filter ab:=sY fun _ h=>h;have fe:(no.filter ab).filter (fun z => !ab z)=[]:=aj3.mpr fun z hz=>by rw [(G5.mp hz).2]; decide
 refine⟨zQa,ol,rfl,.inl (oK no (fun z=>decide (z∈no.filter ab)) eo n100 (fun z hz R hR=>⟨zQa,zQa,rl,zQa,.inl (.of er4),rfl,fS _,zQa,(by rw [if_neg (by decide),inR]; exact hR)⟩) (fun z hz Q hQ=>⟨zQa,hQ⟩) fun m1 hm1=>?_)⟩
 rw [fr];have u1:=ai hm1 (.lst ((no.filter ab).map V.str));refine⟨zQa,m1,rl,zQb,.of af,.of (u1 _ _ er4),fS _,fS _,zQa,?_⟩;rw [if_pos rfl,pM (fS _)];refine aI rfl ?_;generalize upd H4 m1 (.lst ((no.filter ab).map V.str))=H5 at u1 ⊢;have s25:=s3.trans (s4.trans u1);refine⟨zQa,rl,rfl,.inl (oK (no.filter ab) (fun z => !ab z) (u1 _ _ er4) (by omega) (fun z hz R hR=>?_) (fun z hz Q hQ=>⟨zQa,hQ⟩) fun m2 hm2=>?_)⟩
 ·obtain⟨pa,d1,d2⟩:=it4 s25 z (G5.mp hz).1
  exact⟨zQa,zQa,D,.ref pa,rfl,d1,pa,zQa,d2,zQa,hR⟩
 rw [fe];have u2:=ai hm2 (.lst (([]:List Str).map V.str));refine⟨aK (by simp),fun m3 hm3=>?_⟩
 have u3:=u2.trans (ai hm3 (.lst ([]:List V)));refine⟨m2,m3,zQb,.of (ai hm3 _ _ _ af),.of af,rfl,rfl,zQa,?_⟩;refine aI rfl ?_;dsimp only [bN];have s26:=s25.trans u3;have er6:=u3 _ _ (u1 _ _ er4);have eo6:=u3 _ _ (u1 _ _ eo);have hS6:=cS hS2 s26;have S6:=S2.same s26;generalize upd (upd H5 m2 (.lst (([]:List Str).map V.str))) m3 (.lst [])=H6 at s26 er6 eo6 hS6 S6 ⊢;clear u1 u2 u3 s25 hm1 hm2 hm3 S4 er4 hS4 eo er;generalize hrg:no.filter ab=ring at lring rnd er6;refine⟨zQa,zQa,fun x dx hx hdx nx=>?_⟩;have s7:aS H6 (upd (upd H6 dx (.own x)) x (.ins A.c_Keys dx [])):=(ai hdx _).trans (ai (by rw [am nx.symm]; exact hx) _)
 refine⟨x,dx,d,D,no,ab,rfl,af,S6.same s7,fun knl krl H8 b8 hkr K8=>⟨rfl,?_⟩⟩;rw [hrg] at K8;have nk:x≠krl:=fun z=>by rw [<- z,af] at hkr; cases hkr
 have s8:aS H6 H8:=iK s7 hx b8;dsimp only [bC];refine⟨zQa,aK (by simp),fun e1 he1=>?_⟩
 have v1:=ai he1 (.lst ([]:List V));have s9:=s8.trans v1;have K9:KeyAt A (upd H8 e1 (.lst [])) x dx knl krl ring .non:=⟨v1 _ _ K8.ins,v1 _ _ K8.ring⟩;refine⟨rl,e1,zQb,.of (s9 _ _ er6),.of af,fS _,rfl,zQa,?_⟩;rw [if_neg (by decide)]
 generalize upd H8 e1 (.lst [])=H9 at s9 K9 ⊢;clear v1 he1 K8;cases hr0:ring with
 | nil =>
  rw [hr0] at K9;refine aM rfl ?_;refine⟨zQa,x,_,dx,zQa,K9.ins,cK,me_on,rfl,x,dx,knl,krl,[],.non,rfl,K9,nk,by simp,.nil,.inl rfl,fun H10 b10 K10=>?_⟩
  have s10:=iK s9 hx b10;refine⟨zQa,x,_,dx,zQa,K10.ins,cK,me_back,rfl,x,dx,knl,krl,[],.non,rfl,K10,nk,by simp,.nil,.inl rfl,fun H11 b11 K11=>?_⟩
  have s11:=iK s10 hx b11;refine⟨zQa,x,_,dx,zQa,K11.ins,cK,me_at,rfl,x,dx,knl,krl,[],.non,rfl,K11,rfl,true,rfl,aM rfl ?_⟩;refine⟨zQa,ol,rfl,.inl (oK no ab (s11 _ _ eo6) n100 (fun z hz R hR=>?_) (fun z hz Q hQ=>⟨zQa,hQ⟩) fun m4 hm4=>?_)⟩
  ·obtain⟨pa,d1,d2⟩:=it4 (s26.trans s11) z hz
   exact⟨zQa,zQa,D,.ref pa,rfl,d1,pa,zQa,d2,zQa,hR⟩
  rw [hrg,hr0];refine⟨aK (by simp),fun m5 hm5=>⟨m4,m5,zQb,.of (ai hm5 _ _ _ af),.of af,rfl,rfl,?_⟩⟩
  exact q _
 | cons w0 ws0 =>
  refine aI rfl ?_;dsimp only [bN];clear hr0;refine⟨zQa,by decide,by decide,gG (n:=2) (fun i σ H' => ∃(v7 v8 v9 v10 v11:Option V) (kv:V),σ=[some (.ref a),some (.ref nl),some (.ref d),some (.ref D),some (.ref rl),some (.ref ol),some (.ref x),v7,v8,v9,v10,v11]/\aS H6 H'/\KeyAt A H' x dx knl krl ring kv) ⟨none,none,none,none,none,zQa,s9,K9⟩ ?_ ?_⟩
  ·rintro b σ H10 hb2 ⟨v7,v8,v9,v10,v11,kv,rfl,s10,K10⟩
   dsimp only [bC];refine⟨zQa,rl,rfl,⟨_,.of (s10 _ _ er6)⟩,kq (K:=K) (a:=rl) (xs:=ring.map V.str) (fun i σ H' => ∃(v8 v9 v10 v11:Option V) (kv:V),σ=[some (.ref a),some (.ref nl),some (.ref d),some (.ref D),some (.ref rl),some (.ref ol),some (.ref x),some (.int (0 + (b:Int))),v8,v9,v10,v11]/\aS H6 H'/\KeyAt A H' x dx knl krl ring kv) ⟨_,_,_,_,zQa,s10,K10⟩ (fun i σ H' _ z=>?_) ?_ ?_⟩
   ·obtain⟨_,_,_,_,_,_,s,_⟩:=z; exact .of (s _ _ er6)
   ·rintro p y σ H11 hy ⟨v8,v9,v10,v11,kv,rfl,s11,K11⟩
    rw [o0] at hy;cases hz:ring[p]? with
    | none=>rw [hz] at hy; cases hy
    | some z =>
    rw [hz] at hy;cases hy;have lp:=(r9.mp hz).1;have zr:=C5 hz;dsimp only [bC];refine⟨zQa,x,dx,zQa,K11.ins,rfl,zQa,x,dx,knl,krl,ring,kv,z,rfl,K11,nk,zr,fun H12 b12 K12=>?_⟩;have s12:=iK s11 hx b12;refine⟨aK (by simp),fun gl hgl=>?_⟩
    dsimp only [bC];have hg6:=FW s12 hgl;have ngx:gl≠x:=fun e=>by rw [e,K12.ins] at hgl; cases hgl
    have ngk:gl≠krl:=fun e=>by rw [e,K12.ring] at hgl; cases hgl
    have u12:=ai hgl (.lst ([]:List V));have bI:∀ {m:Nat},[V.ref x,.int (0 + (b:Int)),.int (m:Int)]=[V.ref x,.int (b:Int),.int (m:Int)]:=fun {m}=>by rw [Int.zero_add]
    refine⟨zQa,rl,zQa,.inl (.of (u12 _ _ (s12 _ _ er6))),zQa,by omega,(by rw [i4]; omega),gG (fun j σ H' => ∃(v10:Option V) (y:Str),σ=[some (.ref a),some (.ref nl),some (.ref d),some (.ref D),some (.ref rl),some (.ref ol),some (.ref x),some (.int (0 + (b:Int))),some (.str z),some (.ref gl),v10,v11]/\aS H6 H'/\KeyAt A H' x dx knl krl ring (.str y)/\ring[(p + stp b ring.length * j) % ring.length]? = some y/\H' gl=some (.lst (((dM b p ring).take j).map V.str))) ⟨_,z,rfl,s12.trans u12,⟨u12 _ _ K12.ins,u12 _ _ K12.ring⟩,(by rw [Nat.mul_zero,Nat.add_zero,F8 lp]; exact hz),af⟩ ?_ ?_⟩
    ·rintro j σ H13 hj ⟨v10,y,rfl,s13,K13,hy,eg⟩
     dsimp only [bC];refine⟨zQa,zQa,x,dx,knl,krl,ring,b,1,_,y,bI,K13,nk,lring,rnd,hy,by decide,by omega,fun H14 y2 b14 hy2 K14=>?_⟩
     have s14:=iK s13 hx b14;have eg14:=b14 _ _ ngx eg;refine⟨zQa,.inl ⟨rfl,_,.of eg14⟩,zQa,x,_,dx,zQa,K14.ins,cK,me_at,rfl,x,dx,knl,krl,ring,zQa,K14,gl,zQb,eg14,?_,?_⟩
     ·rw [i4,A0,ot]
      exact az (by omega)
     ·rw [i4] at hj
      have hj':j < ring.length:=hj;have ep:((p + stp b ring.length * j) % ring.length + stp b ring.length * 1) % ring.length=(p + stp b ring.length * (j + 1)) % ring.length:=by rw [ad4,V3,ak0,V3,aj9]
      rw [ep] at hy2;have ek:(dM b p ring).take (j + 1)=(dM b p ring).take j ++ [y2]:=by rw [B7,xA lp hj',hy2]; rfl
      refine⟨_,y2,rfl,fun c o e=>by rw [am (aH e hg6)]; exact s14 _ _ e,⟨by rw [am ngx.symm]; exact K14.ins,by rw [am ngk.symm]; exact K14.ring⟩,hy2,?_⟩
      rw [af,ek,j6]
      rfl
    ·rintro σ H13 ⟨v10,y,rfl,s13,K13,hy,eg⟩
     rw [i4] at hy eg;replace hy:ring[(p + stp b ring.length * ring.length) % ring.length]? = some y:=hy;replace eg:H13 gl=some (.lst (((dM b p ring).take ring.length).map V.str)):=eg;rw [ar6,F8 lp,hz] at hy;cases hy;rw [show(dM b p ring).take ring.length=dM b p ring by rw [<- ot (b:=b) (p:=p),B5]] at eg
     obtain⟨gi,hgi⟩:=Hn (b:=b) hz;have gpm:(dM b p ring).Perm ring:=wb;have glen:(dM b p ring).length=ring.length:=ot;have gnd:(dM b p ring).Nodup:=gpm.nodup_iff.mpr rnd;refine⟨zQa,zQa,gl,_,_,.str z,rfl,rfl,.of eg,(by rw [hgi,j6]; exact zw _ _),zQa,rfl,zQa,aI (by simp) ?_⟩
     refine⟨zQa,gl,zQa,.of eg,by omega,fun ms l1 pm sm hl1=>?_⟩
     have u1:=ai hl1 (.lst (ms.map V.str));refine⟨zQa,rl,ring,rfl,.of (u1 _ _ (s13 _ _ er6)),by omega,fun ms2 l2 pm2 sm2 hl2=>?_⟩
     have u2:=ai hl2 (.lst (ms2.map V.str));have ems:ms2=ms:=Hw (pm2.trans (gpm.symm.trans pm.symm)) sm2 sm;subst ems;refine⟨l1,l2,zQb,.of (u2 _ _ af),.of af,fS _,fS _,zQa,?_⟩;rw [if_pos rfl,pM (fS _)];refine aI rfl ?_;generalize upd (upd H13 l1 (.lst (ms2.map V.str))) l2 (.lst (ms2.map V.str))=H14 at u2 ⊢;have s34:=u1.trans u2;have eg14:=s34 _ _ eg;have K14:KeyAt A H14 x dx knl krl ring (.str z):=⟨s34 _ _ K13.ins,s34 _ _ K13.ring⟩;have s14:=s13.trans s34;refine⟨zQa,gl,zQa,.of eg14,by omega,zQa,gl,zQa,.inl (.of eg14),rfl,zQa,aI (by rw [zS gnd,i4]; simp) ?_⟩
     dsimp only [bN];have S14:=S6.same s14;have zno:z∈no:=by rw [<- hrg] at zr; exact(G5.mp zr).1
     obtain⟨q0,hq0⟩:=ar7.mp zno;obtain⟨yn,hyn,enx⟩:=Qb nd hrg hq0 hz;obtain⟨yl,hyl,els⟩:=Mb nd hrg hq0 hz;have ynr:=C5 hyn;have ynno:yn∈no:=by rw [<- hrg] at ynr; exact(G5.mp ynr).1
     obtain⟨q1,hq1⟩:=ar7.mp ynno;obtain⟨yb,hyb,elb⟩:=Mb nd hrg hq1 hyn;rw [ad4,show p + 1 + (ring.length - 1)=p + ring.length by omega,ad3,F8 lp,hz] at hyb
     cases hyb;have g0:∀ {u:Str},ring[(p + stp b ring.length * (0 + 1)) % ring.length]? = some u->((dM b p ring).map V.str)[0]? = some (.str u):=fun {u} h=>by rw [o0,xA lp (by omega),h]; rfl
     have fin:b=0\/b=1:=by omega
     obtain⟨f1,f2,f3,f4,f5⟩:=rix lring rnd hz;rcases fin with rfl | rfl
     case' inl =>
      refine⟨zQa,rfl,zQa,aM (decide_eq_true rfl) ⟨zQa,zQa,zQa,d,D,no,ab,q0,z,rfl,S14,hq0,fun H15 s15=>?_⟩⟩;rw [enx];refine⟨zQa,gl,_,_,.str yn,rfl,rfl,.of (s15 _ _ eg14),bA (j:=0) (g0 hyn),rfl,zQa,aI (by simp) ⟨zQa,rfl,zQa,aI (decide_eq_false (by decide)) (aI rfl ?_)⟩⟩
     case' inr =>
      refine⟨zQa,rfl,zQa,aI (decide_eq_false (by decide)) (aI rfl ⟨zQa,rfl,zQa,aM (decide_eq_true rfl) ⟨zQa,zQa,zQa,d,D,no,ab,q0,z,rfl,S14,hq0,fun H15 s15=>?_⟩⟩)⟩
      rw [els];refine⟨zQa,gl,_,_,.str yl,rfl,rfl,.of (s15 _ _ eg14),bA (j:=0) (g0 (by unfold stp; rw [if_neg (by decide),U1,V3]; exact hyl)),rfl,zQa,aI (by simp) ?_⟩
     all_goals
      dsimp only [bN];have S15:=S14.same s15;have s615:=s14.trans s15;refine⟨zQa,zQa,zQa,zQa,zQa,d,D,no,ab,q0,z,rfl,S15,hq0,fun H16 s16=>?_⟩;refine⟨d,D,no,ab,q1,yn,(by rw [enx]; rfl),S15.same s16,hq1,fun H17 s17=>?_⟩
      rw [elb];refine⟨zQa,rfl,zQa,aI (by simp) ?_⟩
      dsimp only [bN];have s617:=s615.trans (s16.trans s17);have K17:KeyAt A H17 x dx knl krl ring (.str z):=⟨s17 _ _ (s16 _ _ (s15 _ _ K14.ins)),s17 _ _ (s16 _ _ (s15 _ _ K14.ring))⟩;refine⟨zQa,a,ns,2,rfl,cS hS6 s617,h63,by decide,fun y2=>⟨zQb,(by show(0:Int) < 3; decide),zQb,?_⟩⟩
      have h3:=emd (r:=y2) (show(0:Int) < 3 by decide)
      obtain⟨m,em⟩:∃ m:Nat,2 + y2 % 3=(m:Int):=⟨(2 + y2 % 3).toNat,by omega⟩
      dsimp only [bC];rw [em];refine⟨zQa,zQa,zQa,x,dx,knl,krl,ring,_,m,p,z,bI,K17,nk,lring,rnd,hz,by omega,by decide,fun H18 y3 b18 hy3 K18=>?_⟩
      have s18:=iK s617 hx b18;have er18:=s18 _ _ er6;refine⟨zQa,x,_,dx,zQa,K18.ins,cK,me_at,rfl,x,dx,knl,krl,ring,zQa,K18,zQa,zQa,.inl ⟨rfl,_,.of er18⟩,zQa,rl,ring.map V.str,.str z,p,rfl,rfl,er18,rfl,f1,f2,f3,f4,f5,?_⟩;refine⟨zQa,zQa,zQa,aK (by simp),fun ll hll=>?_⟩
      have u18:=ai hll (.lst [V.int (m:Int),V.int (-(m:Int))])
     case inl =>
      have e1:=ixz (b:=0) (p:=p) (m:=m) (show 0 < ring.length by omega)
      refine⟨zQa,ll,_,_,.int (m:Int),rfl,rfl,.of af,bA (j:=0) rfl,zQb,zQa,rl,zQa,.inl (.of (u18 _ _ er18)),zQb,(by rw [i4]; omega),rl,_,_,.str y3,rfl,rfl,.of (u18 _ _ er18),?_,rfl,zQa,aI (by simp) ?_⟩
      ·rw [i4]
       refine Eq.trans (congrArg _ e1) (bA ?_);rw [o0,hy3]; rfl
      ·exact⟨_,_,_,_,zQa,s18.trans u18,⟨u18 _ _ K18.ins,u18 _ _ K18.ring⟩⟩
     case inr =>
      have e1:=ixz (b:=1) (p:=p) (m:=m) (show 0 < ring.length by omega)
      refine⟨zQa,ll,_,_,.int (-(m:Int)),rfl,rfl,.of af,bA (j:=1) rfl,zQb,zQa,rl,zQa,.inl (.of (u18 _ _ er18)),zQb,(by rw [i4]; omega),rl,_,_,.str y3,rfl,rfl,.of (u18 _ _ er18),?_,rfl,zQa,aI (by simp) ?_⟩
      ·rw [i4]
       refine Eq.trans (congrArg _ e1) (bA ?_);rw [o0,hy3]; rfl
      ·exact⟨_,_,_,_,zQa,s18.trans u18,⟨u18 _ _ K18.ins,u18 _ _ K18.ring⟩⟩
   ·rintro σ H11 ⟨v8,v9,v10,v11,kv,rfl,s11,K11⟩
    exact⟨_,_,_,_,_,zQa,s11,K11⟩
  ·rintro σ H10 ⟨v7,v8,v9,v10,v11,kv,rfl,s10,K10⟩
   refine⟨zQa,rl,zQa,.inl (.of (s10 _ _ er6)),zQa,ol,rfl,.inl (oK no ab (s10 _ _ eo6) n100 (fun z hz R hR=>?_) (fun z hz Q hQ=>⟨zQa,hQ⟩) fun m4 hm4=>?_)⟩
   ·obtain⟨pa,d1,d2⟩:=it4 (s26.trans s10) z hz
    exact⟨zQa,zQa,D,.ref pa,rfl,d1,pa,zQa,d2,zQa,hR⟩
   rw [hrg];refine⟨m4,zQa,.inl (.of af),rfl,?_⟩;rw [decide_eq_true rfl];exact q _
end
end KP
namespace L2
open PySem PySem.Spec PyProof.Rows
theorem Bi{P:i8}{w:i7}{K:i3}{mg mb:Str->Option g7}{CX:CXT}{k:Nat}{fa a:Addr}{Ts:List (Addr×Addr)}{fd:i9}{x:Str}{sp:Sp}{s₁:g8}{vs:List g7}{ns:List Int}
  (KX:K.In s₁.heap) (hns:s₁.heap.Ns mainGlobals mg) (hb:s₁.heap.Ns builtinsNs mb) (hbb:∀ x:Str,x≠"__name__"->mb x=bootBuiltins x) (hlim:s₁.heap.NoLimit) (hg:s₁.gens = #[])
  (hC:∀ p∈Ts,E3 s₁.heap p.1 p.2) (hT:∀ p∈Ts,s₁.heap.get? p.2=some (X5 #[])) (hKT:∀ p∈Ts,K.lookup p.2=none) (hbm:∀ p∈Ts,s₁.heap.BuiltinsAt mg p.2)
  (ha:s₁.heap.get? a=some { cls:=.type "list",data:=.seq vs.toArray }) (hi:G3 vs ns) (hl:ns.length<=sizeLine) (hr:Room k callerA)
  (F:∀ base:Heap,K.In base->base.Ns mainGlobals mg->(∀ p∈Ts,E3 base p.1 p.2)->(∀ p∈Ts,base.BuiltinsAt mg p.2)->FnOk P w K mg base CX k fa fd [x] sp) (hbind:∀(s:g8) (u:g7),S3 s fd ⟨[u],[]⟩ [(x,u)])
  (hsp:∀ H:Hp,(∀ p∈Ts,a≠p.2)->(∀ p∈Ts,H p.2=some (.tbl #[]))->SqL K H a (ns.map V.int)->sp [.ref a] H (fun v _=>v = .bl true) fun _ _ _=>False)
  (hCX:∀ H e s',CX [] H s₁ (fun _ _ _=>False) e s'->False) :
  codeAny (model P w) callerA (.call (.ref fa) ⟨[.ref a],[]⟩) (fun r s'=>r = .ok (.ret (.bool true))/\OldK s₁.heap s'.heap/\s'.os=s₁.os/\K6 s'.gens) s₁:=by
 have rv:=pi hi;have lenV:=hi.length;have aT:∀ p∈Ts,a≠p.2:=fun p hp e=>by
  rw [e,hT p hp] at ha;have z:X5 #[]=({ cls:=.type "list",data:=.seq vs.toArray }:Obj):=B1 ha;have z2:=congrArg Obj.cls z;cases z2
 have core:∀ H:Hp,(∀ b u,H b=some u->(b=a/\∃ o xs,u = .frz o (.lst xs))\/((∃ p∈Ts,b=p.2)/\u = .tbl #[]))->(∀ p∈Ts,H p.2=some (.tbl #[]))->SqL K H a (ns.map V.int)->HOk P w H s₁.heap->(H a≠none->K.lookup a=none) ->
   codeAny (model P w) callerA (.call (.ref fa) ⟨[.ref a],[]⟩) (fun r s'=>r = .ok (.ret (.bool true))/\OldK s₁.heap s'.heap/\s'.os=s₁.os/\K6 s'.gens) s₁:=by
  intro H hO hHT hS hok hK;have free:∀ {b:Addr},b≠a->(∀ p∈Ts,b≠p.2)->H b=none:=fun {b} h1 h2=>by
   cases q:H b with
   | none=>rfl
   | some u =>
    rcases hO b u q with ⟨z,_⟩ | ⟨⟨p,hp,z⟩,_⟩
    ·exact absurd z h1
    ·exact absurd z (h2 p hp)
  have base_of:∀ {b:Addr} {o:Obj},s₁.heap.get? b=some o->H b=none->(tE s₁.heap H).get? b=some o:=fun e n=>HP e n;have noA:∀ {b:Addr} {o:Obj},s₁.heap.get? b=some o->o.cls≠.type "list"->o.cls≠.none->H b=none:=fun {b o} e d1 d2=>by
   refine free (fun z=>?_) (fun p hp z=>?_)
   ·rw [z,ha] at e; cases e; exact d1 rfl
   ·rw [z,hT p hp] at e; cases e; exact d2 rfl
  have noD:∀ {b:Addr} {o:Obj} {es:Array V7} {ep:Nat},s₁.heap.get? b=some o->o.data = .dict es ep->H b=none:=fun {b o es ep} e d=>by
   refine free (fun z=>?_) (fun p hp z=>?_)
   ·rw [z,ha] at e; cases e
    have d':Data.seq vs.toArray _=Data.dict es ep:=d;cases d'
   ·rw [z,hT p hp] at e; cases e
    have d':Z0 #[]=Data.dict es ep:=d;cases d'
  have nsK:∀ {b:Addr} {m:Str->Option g7},s₁.heap.Ns b m->(tE s₁.heap H).Ns b m:=fun {b m} ⟨o,es,ep,e,d,r⟩=>⟨o,es,ep,base_of e (noD e d),d,r⟩;have hKb:K.In (tE s₁.heap H):=fun b o e=>base_of (KX b o e) (by
   cases q:H b with
   | none=>rfl
   | some u =>
    rcases hO b u q with ⟨z,_⟩ | ⟨⟨p,hp,z⟩,_⟩
    ·subst z; rw [hK (by rw [q]; simp)] at e; cases e
    ·subst z; rw [hKT p hp] at e; cases e)
  have hM:Mod K mg (tE s₁.heap H):=⟨hKb,nsK hns,⟨mb,nsK hb,hbb⟩,let ⟨mc,h1,h2⟩:=hlim; ⟨mc,nsK h1,h2⟩⟩
  have hCb:∀ p∈Ts,E3 (tE s₁.heap H) p.1 p.2:=fun p hp=>by
   obtain⟨o,vs',file,tf,flags,tg,inF,text,tt,e,e2,r⟩:=hC p hp;exact⟨o,vs',file,tf,flags,tg,inF,text,tt,base_of e (noA e (by rw [e2]; intro z; injection z with z; exact absurd z (by decide)) (by rw [e2]; intro z; cases z)),e2,r⟩
  have hbb':∀ p∈Ts,(tE s₁.heap H).BuiltinsAt mg p.2:=fun p hp=>by
   obtain⟨bm,o,a1,a2,a3,a4,a5,a6,r⟩:=hbm p hp;exact⟨bm,o,a1,a2,a3,a4,base_of a5 (noA a5 (by rw [a6]; intro z; injection z with z; exact absurd z (by decide)) (by rw [a6]; intro z; cases z)),a6,r⟩
  have e0:Env0 P w K mg (tE s₁.heap H) callerA [] s₁ H:=⟨rfl,hM,fun b o e=>JP e,V8 (Eo _ _),trivial,fun b hb=>absurd (show b∈([]:List Addr) from hb) (by simp),hok,.of_eq hg⟩
  refine P1 ((F _ hKb (nsK hns) hCb hbb').run callerA [] s₁ H ⟨[.ref a],[]⟩ [.ref a] [.ref a] _ _ hr e0 (hbind s₁ (.ref a)) (.cons rfl .nil) (hsp H aT hHT hS)) fun r s' h=>?_;cases r with
  | error e=>exact(hCX H e s' h).elim
  | ok fl =>
   cases fl with
   | next=>exact C9 h
   | brk=>exact C9 h
   | cont=>exact C9 h
   | ret u =>
    obtain⟨v,H',os,bare,un,hok',r',q⟩:=h;have q':v = .bl true:=q;subst q';obtain rfl:u=R8 true:=r';have one:∀ b o,s₁.heap.get? b=some o->(s'.heap.get? b=some o)\/((∃ p∈Ts,b=p.2)/\∃ more,s'.heap.get? b=some (X5 more)):=fun b o e=>by
     cases q:H b with
     | none=>exact .inl (un.keep b o e q (by intro z; exact absurd (show b∈([]:List Addr) from z) (by simp)) (by simp))
     | some u =>
      rcases hO b u q with ⟨z,ob,xs,rfl⟩ | ⟨z,rfl⟩
      ·have z2:=un.frzs b ob _ q
       obtain⟨e1,_⟩:=hok b _ q;obtain⟨e2,_⟩:=hok' b _ z2;rw [e] at e1; cases e1;exact .inl e2
      ·obtain⟨more,z2⟩:=un.tbls b _ q
       exact .inr ⟨z,_,hok' b _ z2⟩
    refine⟨rfl,⟨fun b o e=>?_,fun b o e=>?_⟩,os,bare⟩
    ·rcases one b o e with z | ⟨⟨p,hp,z⟩,more,e2⟩
     ·exact .inl z
     ·subst z
      rw [hT p hp] at e;cases e;exact .inr (.inl ⟨((hC p hp).tab (hT p hp)).isCodeTable,rfl,#[],more,rfl,by rw [Array.empty_append]; exact e2⟩)
    ·rcases one b o e with z | ⟨_,more,e2⟩
     ·exact⟨o,z⟩
     ·exact⟨_,e2⟩
 have isT:∀ b:Addr,(∃ p∈Ts,b=p.2)↔(Ts.any fun p=>b == p.2)=true:=fun b=>by
  rw [G4];exact⟨fun⟨p,hp,e⟩=>⟨p,hp,by rw [e]; exact beq_self_eq_true _⟩,fun⟨p,hp,e⟩=>⟨p,hp,J5 e⟩⟩
 have naT:¬ (Ts.any fun p=>a == p.2)=true:=fun z=>by obtain⟨p,hp,e⟩:=(isT a).mpr z; exact aT p hp e
 cases hk:K.lookup a with
 | some o =>
  have e:=KX a o hk;rw [ha] at e;cases e;refine core (fun b=>if (Ts.any fun p=>b == p.2)=true then some (.tbl #[]) else none) (fun b u z=>?_) (fun p hp=>if_pos ((isT _).mp ⟨p,hp,rfl⟩)) (.inr ⟨_,vs.toArray,_,hk,rfl,rfl,rfl,by rw [l9,lenV]; exact hl,by simpa using rv⟩) (fun b u z=>?_) (fun z=>absurd (if_neg naT) z)
  ·(try dsimp only at z)
   by_cases hb:(Ts.any fun p=>b == p.2)=true
   ·rw [if_pos hb] at z; cases z; exact .inr ⟨(isT b).mpr hb,rfl⟩
   ·rw [if_neg hb] at z; cases z
  ·(try dsimp only at z)
   by_cases hb:(Ts.any fun p=>b == p.2)=true
   ·rw [if_pos hb] at z; cases z
    obtain⟨p,hp,e⟩:=(isT b).mpr hb;subst e; exact hT p hp
   ·rw [if_neg hb] at z; cases z
 | none =>
  refine core (fun b=>if (Ts.any fun p=>b == p.2)=true then some (.tbl #[]) else if b=a then some (.frz { cls:=.type "list",data:=.seq vs.toArray } (.lst (ns.map V.int))) else none) (fun b u z=>?_) (fun p hp=>if_pos ((isT _).mp ⟨p,hp,rfl⟩)) (.inl (.inr ⟨{ cls:=.type "list",data:=.seq vs.toArray },by dsimp only; rw [if_neg naT,if_pos rfl]⟩)) (fun b u z=>?_) (fun _=>hk)
  ·(try dsimp only at z)
   by_cases hb:(Ts.any fun p=>b == p.2)=true
   ·rw [if_pos hb] at z; cases z; exact .inr ⟨(isT b).mpr hb,rfl⟩
   ·rw [if_neg hb] at z
    by_cases hc:b=a
    ·rw [if_pos hc] at z; cases z; exact .inl ⟨hc,_,zQa⟩
    ·rw [if_neg hc] at z; cases z
  ·(try dsimp only at z)
   by_cases hb:(Ts.any fun p=>b == p.2)=true
   ·rw [if_pos hb] at z; cases z
    obtain⟨p,hp,e⟩:=(isT b).mpr hb;subst e; exact hT p hp
   ·rw [if_neg hb] at z
    by_cases hc:b=a
    ·rw [if_pos hc] at z; cases z; subst hc; exact⟨ha,by rw [i4]; exact hl,vs,_,rv,ha⟩
    ·rw [if_neg hc] at z; cases z
theorem Nh{l:PySem.W.OpenLaw}{n k:Nat}{q:i8}{loose:List Str}{XP:(Str->Option g7)->Heap->Prop}{YP:i7->Heap->Prop}{d:DefRec}{K:Params->i3}{CX:CXT}{sp:i3->Sp}{x:Str}{cTs:List Addr}
  (hn:l.most=some n) (hn2:n<=sizeLine) (hdf:d.params.defaults=[]) (hr:Room k callerA)
  (hY:∀(w:i7) (h:Heap),YP w h->(K w.params).In h/\∀ t∈cTs,h.get? t=some (X5 #[]))
  (hKT:∀(P:Params),∀ t∈cTs,(K P).lookup t=none)
  (F:∀(w:i7) (mg:Str->Option g7) (fa:Addr) (h:Heap),(K w.params).In h->h.Ns mainGlobals mg->mg d.name=some (.ref fa) ->
   ∃ Ts:List (Addr×Addr),(∀ p∈Ts,p.2∈cTs/\R7 (K w.params) p.1 p.2=true)/\(∀(H:Hp) (a:Addr) (ns:List Int),ns.length<=n->(∀ p∈Ts,a≠p.2)->(∀ p∈Ts,H p.2=some (.tbl #[]))->SqL (K w.params) H a (ns.map V.int)->sp (K w.params) [.ref a] H (fun v _=>v = .bl true) fun _ _ _=>False)/\∃ fd:i9,(∀(s:g8) (u:g7),S3 s fd ⟨[u],[]⟩ [(x,u)]) /\
    ∀ base:Heap,(K w.params).In base->base.Ns mainGlobals mg->(∀ p∈Ts,E3 base p.1 p.2)->(∀ p∈Ts,base.BuiltinsAt mg p.2)->FnOk l.prog w (K w.params) mg base CX k fa fd [x] (sp (K w.params)))
  (hCX:∀(H:Hp) (s:g8) (e:g7) (s':g8),CX [] H s (fun _ _ _=>False) e s'->False) :
  PySem.W.WalkO q loose XP YP l.row.toRowW d [] (fun f vs=>PySem.call f vs):=by
 refine Att.attach_call hn hdf fun w s₀ s₁ mg mb fa o pm cd doc a vs ns G Y ho hd hcd hmg hobj hints hlen hg=>?_;obtain⟨KX,hT⟩:=hY w _ Y;obtain⟨Ts,hCd,hsp,fd,hb,hF⟩:=F w mg fa _ KX G.T.g hmg;have hC:∀ p∈Ts,E3 s₁.heap p.1 p.2:=fun p hp=>PySem.W.codeHd_of_K KX (hCd p hp).2;have hB:∀ p∈Ts,s₁.heap.BuiltinsAt mg p.2:=fun p hp=>by
  have hTp:=hT p.2 (hCd p hp).1;obtain⟨bm,ob,b1,b2,b3,b4,b5,b6⟩:=G.T.bmain;have hbP:bm≠p.2:=fun q=>by rw [q,hTp] at b3; cases b3; cases b4
  have hbG:bm≠mainGlobals:=fun q=>by
   obtain⟨o,es,ep,e,hd,_⟩:=G.T.g;rw [q,e] at b3; cases b3; rw [hd] at b6; cases b6
  exact⟨bm,ob,b1,b2,hbG,hbP,b3,b4,b5,b6⟩
 exact Bi KX G.T.g G.T.b G.T.builtins G.T.nolimit hg hC (fun p hp=>hT _ (hCd p hp).1) (fun p hp=>hKT _ _ (hCd p hp).1) hB hobj hints (B8 hlen hn2) hr hF hb (fun H n1 n2 n3=>hsp H a ns hlen n1 n2 n3) fun H e s'=>hCX H s₁ e s'
end L2
namespace KP
open PySem L2 PyProof.Rows
abbrev fo (x:Str)(s:Stmt)(kV dc pm:g7)(an:Option Addr)(cd ct:g7):i9:=M8 x x (jx s) (aW s) (aj s) .none kV dc pm an cd ct
abbrev fq (x y:Str)(s:Stmt)(kV dc pm:g7)(an:Option Addr)(cd ct:g7):i9:=M8 x y (jx s) (aW s) (aj s) .none kV dc pm an cd ct
abbrev Pd (K:i3)(x:Str)(s:Stmt)(f:Addr)(oc:g7)(od:Option Addr)(kV dc pm:g7)(an:Option Addr)(cd ct:g7)(sl:Array (Option g7)):Prop :=
 u8 K mainGlobals x=some (some (.ref f))/\K.lookup f=some ⟨oc,od,.func (fo x s kV dc pm an cd ct),sl⟩/\L3 K cd x=true/\J0 K (.ref f)=true
theorem Pd.dx{K:i3}{h:Heap}{mg:Str->Option g7}{x:Str}{s:Stmt}{f:Addr}{oc:g7}{od an:Option Addr}{kV dc pm cd ct:g7}{sl:Array (Option g7)}{ps:List Str}(a:Pd K x s f oc od kV dc pm an cd ct sl)(X:K.In h)(G:h.Ns mainGlobals mg)
  (b:∀(kV doc pm:g7) (an:Option Addr) (cdv ct:g7) (us:List g7),us.length=ps.length->bindArgs (fo x s kV doc pm an cdv ct) ⟨us,[]⟩=pure (ps.zip us)):Dx K mg x s ps f (fo x s kV dc pm an cd ct) :=
 have F:=nj a.2.1 a.2.2.1 a.2.2.2
 ⟨F,F.binds b,z9 X G a.1⟩
theorem ln0{α:Type}{p:List α->Prop}(q:p [])(us:List α)(e:us.length=0):p us:=match us,e with | [],_=>q
theorem ln1{α:Type}{p:List α->Prop}(q:∀ a,p [a])(us:List α)(e:us.length=1):p us:=match us,e with | [_],_=>q _
theorem ln2{α:Type}{p:List α->Prop}(q:∀ a b,p [a,b])(us:List α)(e:us.length=2):p us:=match us,e with | [_,_],_=>q _ _
theorem ln3{α:Type}{p:List α->Prop}(q:∀ a b c,p [a,b,c])(us:List α)(e:us.length=3):p us:=match us,e with | [_,_,_],_=>q _ _ _
theorem ln4{α:Type}{p:List α->Prop}(q:∀ a b c d,p [a,b,c,d])(us:List α)(e:us.length=4):p us:=match us,e with | [_,_,_,_],_=>q _ _ _ _
theorem ln5{α:Type}{p:List α->Prop}(q:∀ a b c d e,p [a,b,c,d,e])(us:List α)(e:us.length=5):p us:=match us,e with | [_,_,_,_,_],_=>q _ _ _ _ _
theorem ln6{α:Type}{p:List α->Prop}(q:∀ a b c d e f,p [a,b,c,d,e,f])(us:List α)(e:us.length=6):p us:=match us,e with | [_,_,_,_,_,_],_=>q _ _ _ _ _ _
theorem ln7{α:Type}{p:List α->Prop}(q:∀ a b c d e f g,p [a,b,c,d,e,f,g])(us:List α)(e:us.length=7):p us:=match us,e with | [_,_,_,_,_,_,_],_=>q _ _ _ _ _ _ _
theorem ln8{α:Type}{p:List α->Prop}(q:∀ a b c d e f g h,p [a,b,c,d,e,f,g,h])(us:List α)(e:us.length=8):p us:=match us,e with | [_,_,_,_,_,_,_,_],_=>q _ _ _ _ _ _ _ _
theorem txt_mk{K:i3}{h:Heap}{mg:Str->Option g7}(X:K.In h)(G:h.Ns mainGlobals mg)(w:i7)(cT:Addr){cC:Addr}(cT2:Addr){cC2:Addr}
  {f1 f2 f3 f4 f5 f6 f7 f8 f9 f10 f11 f12 f13 f14 f15 f16 f17 f18 f19 f20 f21 f22 f23 f24 f25 f26 f27 f28 f29 f30 f31 f32 f33 f34 f35 f36 f37 f38 f39 f40 f41 f42 f43 f44 f45 f46 f47 f48 f49 f50 f51 f52 f53 f54 f55 f56 f57:Addr} {o1 n1 o2 n2 o3 n3 o4 n4 o5 n5 o6 n6 o7 n7 o8 n8 o9 n9 o10 n10 o11 n11 o12 n12 o13 n13 o14 n14 o15 n15 o16 n16 o17 n17 o18 n18 o19 n19 o20 n20 o21 n21 o22 n22 o23 n23 o24 n24 o25 n25 o26 n26 o27 n27 o28 n28 o29 n29 o30 n30 o31 n31 o32 n32 o33 n33 o34 n34 o35 n35 o36 n36 o37 n37 o38 n38 o39 n39 o40 n40 o41 n41 o42 n42 o43 n43 o44 n44 o45 n45 o46 n46 o47 n47 o48 n48 o49 n49 o50 n50 o51 n51 o52 n52 o53 n53 o54 n54 o55 n55 o56 n56 o57 n57:Option Addr} {s1 s2 s3 s4 s5 s6 s7 s8 s9 s10 s11 s12 s13 s14 s15 s16 s17 s18 s19 s20 s21 s22 s23 s24 s25 s26 s27 s28 s29 s30 s31 s32 s33 s34 s35 s36 s37 s38 s39 s40 s41 s42 s43 s44 s45 s46 s47 s48 s49 s50 s51 s52 s53 s54 s55 s56 s57:Array (Option g7)}
  {q1 v1 d1 p1 c1 t1 q2 v2 d2 p2 c2 t2 q3 v3 d3 p3 c3 t3 q4 v4 d4 p4 c4 t4 q5 v5 d5 p5 c5 t5 q6 v6 d6 p6 c6 t6 q7 v7 d7 p7 c7 t7 q8 v8 d8 p8 c8 t8 q9 v9 d9 p9 c9 t9 q10 v10 d10 p10 c10 t10 q11 v11 d11 p11 c11 t11 q12 v12 d12 p12 c12 t12 q13 v13 d13 p13 c13 t13 q14 v14 d14 p14 c14 t14 q15 v15 d15 p15 c15 t15 q16 v16 d16 p16 c16 t16 q17 v17 d17 p17 c17 t17 q18 v18 d18 p18 c18 t18 q19 v19 d19 p19 c19 t19 q20 v20 d20 p20 c20 t20 q21 v21 d21 p21 c21 t21 q22 v22 d22 p22 c22 t22 q23 v23 d23 p23 c23 t23 q24 v24 d24 p24 c24 t24 q25 v25 d25 p25 c25 t25 q26 v26 d26 p26 c26 t26 q27 v27 d27 p27 c27 t27 q28 v28 d28 p28 c28 t28 q29 v29 d29 p29 c29 t29 q30 v30 d30 p30 c30 t30 q31 v31 d31 p31 c31 t31 q32 v32 d32 p32 c32 t32 q33 v33 d33 p33 c33 t33 q34 v34 d34 p34 c34 t34 q35 v35 d35 p35 c35 t35 q36 v36 d36 p36 c36 t36 q37 v37 d37 p37 c37 t37 q38 v38 d38 p38 c38 t38 q39 v39 d39 p39 c39 t39 q40 v40 d40 p40 c40 t40 q41 v41 d41 p41 c41 t41 q42 v42 d42 p42 c42 t42 q43 v43 d43 p43 c43 t43 q44 v44 d44 p44 c44 t44 q45 v45 d45 p45 c45 t45 q46 v46 d46 p46 c46 t46 q47 v47 d47 p47 c47 t47 q48 v48 d48 p48 c48 t48 q49 v49 d49 p49 c49 t49 q50 v50 d50 p50 c50 t50 q51 v51 d51 p51 c51 t51 q52 v52 d52 p52 c52 t52 q53 v53 d53 p53 c53 t53 q54 v54 d54 p54 c54 t54 q55 v55 d55 p55 c55 t55 q56 v56 d56 p56 c56 t56 q57 v57 d57 p57 c57 t57:g7}
  {t_MOST_NAME_SIGNS:Tok}
  {t_MOST_TAGS:Tok}
  {t_MOST_KIDS:Tok}
  {t_MOST_COLUMNS:Tok}
  {t_MOST_TEXT_SIGNS:Tok}
  {t_MOST_WORD_SIGNS:Tok}
  {t_MOST_BOXES:Tok}
  {t_MOST_DEEP:Tok}
  {t_MOST_RULES:Tok}
  {t_MOST_RANK:Tok}
  {t_MOST_TESTS:Tok}
  {t_MOST_CELLS:Tok}
  {t_MOST_SHARE:Tok}
  {t_PERCENT:Tok}
  {r_KINDS:Addr}
  {r_KIDLESS:Addr}
  {r_INKS:Addr}
  {r_GOES_DOWN:Addr}
  {x_PaneError x_NoBox x_NoRule x_NoName x_Keys:Addr}
  {t_LETTERS:Tok}
  {t_NAME_SIGNS:Tok}
  {t_TEXT_SIGNS:Tok}
  {r_PLAIN:Addr} {e_PLAIN:Nat} {k_PLAIN0:Tok} {x_PLAIN0:Addr} {k_PLAIN1:Tok} {x_PLAIN1:Addr} {k_PLAIN2:Tok} {u_PLAIN2:Tok} {k_PLAIN3:Tok} {u_PLAIN3:Tok} {k_PLAIN4:Tok} {u_PLAIN4:Tok} {k_PLAIN5:Tok} {u_PLAIN5:Tok} {k_PLAIN6:Tok} {u_PLAIN6:Tok} {k_PLAIN7:Tok} {u_PLAIN7:Tok} {k_PLAIN8:Tok} {k_PLAIN9:Tok} {k_PLAIN10:Tok} {u_PLAIN10:Tok} {k_PLAIN11:Tok} {u_PLAIN11:Tok}
  {r_MOSTS:Addr} {e_MOSTS:Nat} {k_MOSTS0:Tok} {u_MOSTS0:Tok} {k_MOSTS1:Tok} {u_MOSTS1:Tok} {k_MOSTS2:Tok} {u_MOSTS2:Tok} {k_MOSTS3:Tok} {u_MOSTS3:Tok} {k_MOSTS4:Tok} {u_MOSTS4:Tok} {k_MOSTS5:Tok} {u_MOSTS5:Tok}
  (a1:Pd K "is_number" kG f1 q1 o1 v1 d1 p1 n1 c1 t1 s1)
  (a2:Pd K "is_within" ku f2 q2 o2 v2 d2 p2 n2 c2 t2 s2)
  (a3:Pd K "has_only" fz f3 q3 o3 v3 d3 p3 n3 c3 t3 s3)
  (a4:Pd K "is_name" pK f4 q4 o4 v4 d4 p4 n4 c4 t4 s4)
  (a5:Pd K "is_kind" ph f5 q5 o5 v5 d5 p5 n5 c5 t5 s5)
  (a6:Pd K "are_tags" fi f6 q6 o6 v6 d6 p6 n6 c6 t6 s6)
  (a7:Pd K "is_word" oV f7 q7 o7 v7 d7 p7 n7 c7 t7 s7)
  (a8:Pd K "is_words_text" ce f8 q8 o8 v8 d8 p8 n8 c8 t8 s8)
  (a9:Pd K "is_more" pP f9 q9 o9 v9 d9 p9 n9 c9 t9 s9)
  (a10:Pd K "are_kids" nO f10 q10 o10 v10 d10 p10 n10 c10 t10 s10)
  (a11:Pd K "is_box_alone" gV f11 q11 o11 v11 d11 p11 n11 c11 t11 s11)
  (a12:Pd K "need_document" cb f12 q12 o12 v12 d12 p12 n12 c12 t12 s12)
  (a13:Pd K "boxes_of" nC f13 q13 o13 v13 d13 p13 n13 c13 t13 s13)
  (a14:Pd K "kid_names" qD f14 q14 o14 v14 d14 p14 n14 c14 t14 s14)
  (a15:Pd K "names_of" fh f15 q15 o15 v15 d15 p15 n15 c15 t15 s15)
  (a16:Pd K "way_to" iV f16 q16 o16 v16 d16 p16 n16 c16 t16 s16)
  (a17:Pd K "ring_of" gF f17 q17 o17 v17 d17 p17 n17 c17 t17 s17)
  (a18:Pd K "around" ug f18 q18 o18 v18 d18 p18 n18 c18 t18 s18)
  (a19:Pd K "first_of" mW f19 q19 o19 v19 d19 p19 n19 c19 t19 s19)
  (a20:Pd K "next_key" mU f20 q20 o20 v20 d20 p20 n20 c20 t20 s20)
  (a21:Pd K "last_key" nF f21 q21 o21 v21 d21 p21 n21 c21 t21 s21)
  (a22:F3 K (.ref x_Keys) "__init__"=some (some (.ref f22))) (l22:K.lookup f22=some ⟨q22,o22,.func (fq "__init__" "Keys.__init__" gY v22 d22 p22 n22 c22 t22),s22⟩) (cc22:L3 K c22 "Keys.__init__"=true) (k22:J0 K (.ref f22)=true)
  (a23:F3 K (.ref x_Keys) "at"=some (some (.ref f23))) (l23:K.lookup f23=some ⟨q23,o23,.func (fq "at" "Keys.at" lS v23 d23 p23 n23 c23 t23),s23⟩) (cc23:L3 K c23 "Keys.at"=true) (k23:J0 K (.ref f23)=true)
  (a24:F3 K (.ref x_Keys) "to"=some (some (.ref f24))) (l24:K.lookup f24=some ⟨q24,o24,.func (fq "to" "Keys.to" lU v24 d24 p24 n24 c24 t24),s24⟩) (cc24:L3 K c24 "Keys.to"=true) (k24:J0 K (.ref f24)=true)
  (a25:F3 K (.ref x_Keys) "on"=some (some (.ref f25))) (l25:K.lookup f25=some ⟨q25,o25,.func (fq "on" "Keys.on" lh v25 d25 p25 n25 c25 t25),s25⟩) (cc25:L3 K c25 "Keys.on"=true) (k25:J0 K (.ref f25)=true)
  (a26:F3 K (.ref x_Keys) "back"=some (some (.ref f26))) (l26:K.lookup f26=some ⟨q26,o26,.func (fq "back" "Keys.back" iq v26 d26 p26 n26 c26 t26),s26⟩) (cc26:L3 K c26 "Keys.back"=true) (k26:J0 K (.ref f26)=true)
  (a27:F3 K (.ref x_Keys) "turn"=some (some (.ref f27))) (l27:K.lookup f27=some ⟨q27,o27,.func (fq "turn" "Keys.turn" ir v27 d27 p27 n27 c27 t27),s27⟩) (cc27:L3 K c27 "Keys.turn"=true) (k27:J0 K (.ref f27)=true)
  (a28:Pd K "plain_shape" iG f28 q28 o28 v28 d28 p28 n28 c28 t28 s28)
  (a29:Pd K "is_property" iB f29 q29 o29 v29 d29 p29 n29 c29 t29 s29)
  (a30:Pd K "has_word" mM f30 q30 o30 v30 d30 p30 n30 c30 t30 s30)
  (a31:Pd K "is_size" pO f31 q31 o31 v31 d31 p31 n31 c31 t31 s31)
  (a32:Pd K "is_fill_sign" gN f32 q32 o32 v32 d32 p32 n32 c32 t32 s32)
  (a33:Pd K "is_value" nM f33 q33 o33 v33 d33 p33 n33 c33 t33 s33)
  (a34:Pd K "is_set" sD f34 q34 o34 v34 d34 p34 n34 c34 t34 s34)
  (a35:Pd K "are_sets" cx f35 q35 o35 v35 d35 p35 n35 c35 t35 s35)
  (a36:Pd K "is_test" oW f36 q36 o36 v36 d36 p36 n36 c36 t36 s36)
  (a37:Pd K "are_tests" dH f37 q37 o37 v37 d37 p37 n37 c37 t37 s37)
  (a38:Pd K "is_rule" oR f38 q38 o38 v38 d38 p38 n38 c38 t38 s38)
  (a39:Pd K "need_rules" cW f39 q39 o39 v39 d39 p39 n39 c39 t39 s39)
  (a40:Pd K "is_called" qt f40 q40 o40 v40 d40 p40 n40 c40 t40 s40)
  (a41:Pd K "holds_about" mK f41 q41 o41 v41 d41 p41 n41 c41 t41 s41)
  (a42:Pd K "holds" wS f42 q42 o42 v42 d42 p42 n42 c42 t42 s42)
  (a43:Pd K "test_of" cR f43 q43 o43 v43 d43 p43 n43 c43 t43 s43)
  (a44:Pd K "places_for" cV f44 q44 o44 v44 d44 p44 n44 c44 t44 s44)
  (a45:Pd K "shape_of" mT f45 q45 o45 v45 d45 p45 n45 c45 t45 s45)
  (a46:Pd K "shapes_of" kP f46 q46 o46 v46 d46 p46 n46 c46 t46 s46)
  (a47:Pd K "_law_cell_at" kc f47 q47 o47 v47 d47 p47 n47 c47 t47 s47)
  (a48:Pd K "_law_mix" xU f48 q48 o48 v48 d48 p48 n48 c48 t48 s48)
  (a49:Pd K "_law_names" cQ f49 q49 o49 v49 d49 p49 n49 c49 t49 s49)
  (a50:Pd K "_law_text_by" dN f50 q50 o50 v50 d50 p50 n50 c50 t50 s50)
  (a51:Pd K "_law_built" gB f51 q51 o51 v51 d51 p51 n51 c51 t51 s51)
  (a52:Pd K "_law_doc" lj f52 q52 o52 v52 d52 p52 n52 c52 t52 s52)
  (a53:Pd K "_law_value" oQ f53 q53 o53 v53 d53 p53 n53 c53 t53 s53)
  (a54:Pd K "_law_rules" cP f54 q54 o54 v54 d54 p54 n54 c54 t54 s54)
  (a55:Pd K "_law_shaped" nS f55 q55 o55 v55 d55 p55 n55 c55 t55 s55)
  (a56:Pd K "_law_go" Aq f56 q56 o56 v56 d56 p56 n56 c56 t56 s56)
  (a57:Pd K "law" gO f57 q57 o57 v57 d57 p57 n57 c57 t57 s57)
  (ck:u8 K mainGlobals "MOST_NAME_SIGNS"=some (some (.int 8 t_MOST_NAME_SIGNS)))
  (fQ:u8 K mainGlobals "MOST_TAGS"=some (some (.int 4 t_MOST_TAGS)))
  (dI:u8 K mainGlobals "MOST_KIDS"=some (some (.int 12 t_MOST_KIDS)))
  (cM:u8 K mainGlobals "MOST_COLUMNS"=some (some (.int 9 t_MOST_COLUMNS)))
  (cg:u8 K mainGlobals "MOST_TEXT_SIGNS"=some (some (.int 80 t_MOST_TEXT_SIGNS)))
  (cf:u8 K mainGlobals "MOST_WORD_SIGNS"=some (some (.int 20 t_MOST_WORD_SIGNS)))
  (eB:u8 K mainGlobals "MOST_BOXES"=some (some (.int 40 t_MOST_BOXES)))
  (fO:u8 K mainGlobals "MOST_DEEP"=some (some (.int 8 t_MOST_DEEP)))
  (eJ:u8 K mainGlobals "MOST_RULES"=some (some (.int 40 t_MOST_RULES)))
  (fR:u8 K mainGlobals "MOST_RANK"=some (some (.int 99 t_MOST_RANK)))
  (eE:u8 K mainGlobals "MOST_TESTS"=some (some (.int 4 t_MOST_TESTS)))
  (dQ:u8 K mainGlobals "MOST_CELLS"=some (some (.int 400 t_MOST_CELLS)))
  (eO:u8 K mainGlobals "MOST_SHARE"=some (some (.int 99 t_MOST_SHARE)))
  (iS:u8 K mainGlobals "PERCENT"=some (some (.int 37 t_PERCENT)))
  (iY:u8 K mainGlobals "LETTERS"=some (some (.str "abcdefghijklmnopqrstuvwxyz" t_LETTERS)))
  (eV:u8 K mainGlobals "NAME_SIGNS"=some (some (.str "abcdefghijklmnopqrstuvwxyz0123456789" t_NAME_SIGNS)))
  (eh:u8 K mainGlobals "TEXT_SIGNS"=some (some (.str "ABCDEFGHIJKLMNOPQRSTUVWXYZabcdefghijklmnopqrstuvwxyz0123456789" t_TEXT_SIGNS)))
  (oo:u8 K mainGlobals "KINDS"=some (some (.ref r_KINDS))) (q_KINDS:eQ K r_KINDS ["blank","words","row","flow","column","grid","pile"]=true)
  (iW:u8 K mainGlobals "KIDLESS"=some (some (.ref r_KIDLESS))) (q_KIDLESS:eQ K r_KIDLESS ["blank","words"]=true)
  (uc:u8 K mainGlobals "INKS"=some (some (.ref r_INKS))) (q_INKS:eQ K r_INKS ["as","great","small"]=true)
  (fN:u8 K mainGlobals "GOES_DOWN"=some (some (.ref r_GOES_DOWN))) (q_GOES_DOWN:eQ K r_GOES_DOWN ["gap","ink"]=true)
  (jk:u8 K mainGlobals "PLAIN"=some (some (.ref r_PLAIN))) (l_PLAIN:K.lookup r_PLAIN=some ⟨.type "dict",none,.dict #[⟨hashStr w "wide",.str "wide" k_PLAIN0,.ref x_PLAIN0⟩,⟨hashStr w "high",.str "high" k_PLAIN1,.ref x_PLAIN1⟩,⟨hashStr w "leastw",.str "leastw" k_PLAIN2,.int 0 u_PLAIN2⟩,⟨hashStr w "mostw",.str "mostw" k_PLAIN3,.int 400 u_PLAIN3⟩,⟨hashStr w "leasth",.str "leasth" k_PLAIN4,.int 0 u_PLAIN4⟩,⟨hashStr w "mosth",.str "mosth" k_PLAIN5,.int 400 u_PLAIN5⟩,⟨hashStr w "pad",.str "pad" k_PLAIN6,.int 0 u_PLAIN6⟩,⟨hashStr w "gap",.str "gap" k_PLAIN7,.int 0 u_PLAIN7⟩,⟨hashStr w "over",.str "over" k_PLAIN8,.bool false⟩,⟨hashStr w "able",.str "able" k_PLAIN9,.bool false⟩,⟨hashStr w "fill",.str "fill" k_PLAIN10,.str "" u_PLAIN10⟩,⟨hashStr w "ink",.str "ink" k_PLAIN11,.str "as" u_PLAIN11⟩] e_PLAIN,#[]⟩) (z_PLAIN:(r_PLAIN == sysModules)=false)
  (oO:u8 K mainGlobals "MOSTS"=some (some (.ref r_MOSTS))) (l_MOSTS:K.lookup r_MOSTS=some ⟨.type "dict",none,.dict #[⟨hashStr w "leastw",.str "leastw" k_MOSTS0,.int 400 u_MOSTS0⟩,⟨hashStr w "mostw",.str "mostw" k_MOSTS1,.int 400 u_MOSTS1⟩,⟨hashStr w "leasth",.str "leasth" k_MOSTS2,.int 400 u_MOSTS2⟩,⟨hashStr w "mosth",.str "mosth" k_MOSTS3,.int 400 u_MOSTS3⟩,⟨hashStr w "pad",.str "pad" k_MOSTS4,.int 9 u_MOSTS4⟩,⟨hashStr w "gap",.str "gap" k_MOSTS5,.int 9 u_MOSTS5⟩] e_MOSTS,#[]⟩) (z_MOSTS:(r_MOSTS == sysModules)=false)
  (kL:u8 K mainGlobals "all"=some none)
  (CM:u8 K mainGlobals "any"=some none)
  (pb:u8 K mainGlobals "bool"=some none)
  (uk:u8 K mainGlobals "dict"=some none)
  (fL:u8 K mainGlobals "enumerate"=some none)
  (vD:u8 K mainGlobals "int"=some none)
  (aF:u8 K mainGlobals "isinstance"=some none)
  (bM:u8 K mainGlobals "len"=some none)
  (km:u8 K mainGlobals "list"=some none)
  (zm:u8 K mainGlobals "ord"=some none)
  (cq:u8 K mainGlobals "range"=some none)
  (dB:u8 K mainGlobals "reversed"=some none)
  (rK:u8 K mainGlobals "set"=some none)
  (gH:u8 K mainGlobals "sorted"=some none)
  (gQ:u8 K mainGlobals "str"=some none)
  (cw:u8 K mainGlobals "tuple"=some none)
  (q_PLAIN0:eQ K x_PLAIN0 ["hold"]=true)
  (q_PLAIN1:eQ K x_PLAIN1 ["hold"]=true)
  (y_PaneError:u8 K mainGlobals "PaneError"=some (some (.ref x_PaneError)))
  (y_NoBox:u8 K mainGlobals "NoBox"=some (some (.ref x_NoBox)))
  (y_NoRule:u8 K mainGlobals "NoRule"=some (some (.ref x_NoRule)))
  (y_NoName:u8 K mainGlobals "NoName"=some (some (.ref x_NoName)))
  (y_Keys:u8 K mainGlobals "Keys"=some (some (.ref x_Keys)))
  (cls:wT K x_PaneError [x_NoBox,x_NoRule,x_NoName]=true)
  (ins:wY K x_Keys [] [("__init__",f22),("at",f23),("to",f24),("on",f25),("back",f26),("turn",f27)] ["names","ring","key"]=true)
  (hcd:c43 = .ref cC) (hdi:R7 K cC cT=true)
  (hcd2:c44 = .ref cC2) (hdi2:R7 K cC2 cT2=true)
  (kit:wJ K=true) :
  ∃ A:Adr,A.cT=cT/\R7 K A.cC A.cT=true/\A.cT2=cT2/\R7 K A.cC2 A.cT2=true/\A.wd=w/\(∀(s:g8) (u:g7),S3 s A.yK ⟨[u],[]⟩ [("_law_script",u)])/\Txt K mg A:=by
 have D1:=a1.dx X G (ps:=hU) fun _ _ _ _ _ _=>ln1 fun _=>rfl;have D2:=a2.dx X G (ps:=iw) fun _ _ _ _ _ _=>ln3 fun _ _ _=>rfl;have D3:=a3.dx X G (ps:=jc) fun _ _ _ _ _ _=>ln2 fun _ _=>rfl;have D4:=a4.dx X G (ps:=lL) fun _ _ _ _ _ _=>ln1 fun _=>rfl;have D5:=a5.dx X G (ps:=lw) fun _ _ _ _ _ _=>ln1 fun _=>rfl;have D6:=a6.dx X G (ps:=jJ) fun _ _ _ _ _ _=>ln1 fun _=>rfl;have D7:=a7.dx X G (ps:=lG) fun _ _ _ _ _ _=>ln1 fun _=>rfl;have D8:=a8.dx X G (ps:=du) fun _ _ _ _ _ _=>ln1 fun _=>rfl;have D9:=a9.dx X G (ps:=lE) fun _ _ _ _ _ _=>ln2 fun _ _=>rfl;have D10:=a10.dx X G (ps:=jg) fun _ _ _ _ _ _=>ln2 fun _ _=>rfl;have D11:=a11.dx X G (ps:=dO) fun _ _ _ _ _ _=>ln1 fun _=>rfl;have D12:=a12.dx X G (ps:=cE) fun _ _ _ _ _ _=>ln1 fun _=>rfl;have D13:=a13.dx X G (ps:=jA) fun _ _ _ _ _ _=>ln1 fun _=>rfl;have D14:=a14.dx X G (ps:=qh) fun _ _ _ _ _ _=>ln1 fun _=>rfl;have D15:=a15.dx X G (ps:=jt) fun _ _ _ _ _ _=>ln1 fun _=>rfl;have D16:=a16.dx X G (ps:=kB) fun _ _ _ _ _ _=>ln2 fun _ _=>rfl;have D17:=a17.dx X G (ps:=lW) fun _ _ _ _ _ _=>ln2 fun _ _=>rfl;have D18:=a18.dx X G (ps:=oa) fun _ _ _ _ _ _=>ln2 fun _ _=>rfl;have D19:=a19.dx X G (ps:=jB) fun _ _ _ _ _ _=>ln2 fun _ _=>rfl;have D20:=a20.dx X G (ps:=gU) fun _ _ _ _ _ _=>ln3 fun _ _ _=>rfl;have D21:=a21.dx X G (ps:=gK) fun _ _ _ _ _ _=>ln3 fun _ _ _=>rfl;have F22:=nj (st:=gY) l22 cc22 k22;have b22:=F22.binds (ps:=gX) fun _ _ _ _ _ _=>ln3 fun _ _ _=>rfl;have F23:=nj (st:=lS) l23 cc23 k23;have b23:=F23.binds (ps:=md) fun _ _ _ _ _ _=>ln1 fun _=>rfl;have F24:=nj (st:=lU) l24 cc24 k24;have b24:=F24.binds (ps:=lA) fun _ _ _ _ _ _=>ln2 fun _ _=>rfl;have F25:=nj (st:=lh) l25 cc25 k25;have b25:=F25.binds (ps:=lf) fun _ _ _ _ _ _=>ln1 fun _=>rfl;have F26:=nj (st:=iq) l26 cc26 k26;have b26:=F26.binds (ps:=ib) fun _ _ _ _ _ _=>ln1 fun _=>rfl;have F27:=nj (st:=ir) l27 cc27 k27;have b27:=F27.binds (ps:=ia) fun _ _ _ _ _ _=>ln2 fun _ _=>rfl;have D28:=a28.dx X G (ps:=fF) fun _ _ _ _ _ _=>ln0 rfl;have D29:=a29.dx X G (ps:=fE) fun _ _ _ _ _ _=>ln1 fun _=>rfl;have D30:=a30.dx X G (ps:=jL) fun _ _ _ _ _ _=>ln1 fun _=>rfl;have D31:=a31.dx X G (ps:=lP) fun _ _ _ _ _ _=>ln1 fun _=>rfl;have D32:=a32.dx X G (ps:=dS) fun _ _ _ _ _ _=>ln1 fun _=>rfl;have D33:=a33.dx X G (ps:=jh) fun _ _ _ _ _ _=>ln2 fun _ _=>rfl;have D34:=a34.dx X G (ps:=oz) fun _ _ _ _ _ _=>ln1 fun _=>rfl;have D35:=a35.dx X G (ps:=jM) fun _ _ _ _ _ _=>ln1 fun _=>rfl;have D36:=a36.dx X G (ps:=lV) fun _ _ _ _ _ _=>ln1 fun _=>rfl;have D37:=a37.dx X G (ps:=ie) fun _ _ _ _ _ _=>ln1 fun _=>rfl;have D38:=a38.dx X G (ps:=lK) fun _ _ _ _ _ _=>ln1 fun _=>rfl;have D39:=a39.dx X G (ps:=dX) fun _ _ _ _ _ _=>ln1 fun _=>rfl;have D40:=a40.dx X G (ps:=qp) fun _ _ _ _ _ _=>ln2 fun _ _=>rfl;have D41:=a41.dx X G (ps:=mG) fun _ _ _ _ _ _=>ln2 fun _ _=>rfl;have D42:=a42.dx X G (ps:=nY) fun _ _ _ _ _ _=>ln2 fun _ _=>rfl;have D43:=a43.dx X G (ps:=lN) fun _ _ _ _ _ _=>ln1 fun _=>rfl;have D44:=a44.dx X G (ps:=gr) fun _ _ _ _ _ _=>ln2 fun _ _=>rfl;have D45:=a45.dx X G (ps:=jG) fun _ _ _ _ _ _=>ln3 fun _ _ _=>rfl;have D46:=a46.dx X G (ps:=ip) fun _ _ _ _ _ _=>ln2 fun _ _=>rfl;have D47:=a47.dx X G (ps:=im) fun _ _ _ _ _ _=>ln2 fun _ _=>rfl;have D48:=a48.dx X G (ps:=oq) fun _ _ _ _ _ _=>ln2 fun _ _=>rfl;have D49:=a49.dx X G (ps:=ly) fun _ _ _ _ _ _=>ln2 fun _ _=>rfl;have D50:=a50.dx X G (ps:=gZ) fun _ _ _ _ _ _=>ln1 fun _=>rfl;have D51:=a51.dx X G (ps:=gA) fun _ _ _ _ _ _=>ln5 fun _ _ _ _ _=>rfl;have D52:=a52.dx X G (ps:=rh) fun _ _ _ _ _ _=>ln2 fun _ _=>rfl;have D53:=a53.dx X G (ps:=mi) fun _ _ _ _ _ _=>ln2 fun _ _=>rfl;have D54:=a54.dx X G (ps:=lX) fun _ _ _ _ _ _=>ln2 fun _ _=>rfl;have D55:=a55.dx X G (ps:=je) fun _ _ _ _ _ _=>ln3 fun _ _ _=>rfl;have D56:=a56.dx X G (ps:=xY) fun _ _ _ _ _ _=>ln3 fun _ _ _=>rfl;have D57:=a57.dx X G (ps:=Da) fun _ _ _ _ _ _=>ln1 fun _=>rfl;exact⟨⟨w,f1,_,f2,_,f3,_,f4,_,f5,_,f6,_,f7,_,f8,_,f9,_,f10,_,f11,_,f12,_,f13,_,f14,_,f15,_,f16,_,f17,_,f18,_,f19,_,f20,_,f21,_,f22,_,f23,_,f24,_,f25,_,f26,_,f27,_,f28,_,f29,_,f30,_,f31,_,f32,_,f33,_,f34,_,f35,_,f36,_,f37,_,f38,_,f39,_,f40,_,f41,_,f42,_,f43,_,f44,_,f45,_,f46,_,f47,_,f48,_,f49,_,f50,_,f51,_,f52,_,f53,_,f54,_,f55,_,f56,_,f57,_,cC,cT,cC2,cT2,x_PaneError,x_NoBox,x_NoRule,x_NoName,x_Keys⟩,rfl,hdi,rfl,hdi2,rfl,fun s u=>.of_eq rfl,⟨D1,D2,D3,D4,D5,D6,D7,D8,D9,D10,D11,D12,D13,D14,D15,D16,D17,D18,D19,D20,D21,F22,b22,F23,b23,F24,b24,F25,b25,F26,b26,F27,b27,D28,D29,D30,D31,D32,D33,D34,D35,D36,D37,D38,D39,D40,D41,D42,D43,D44,D45,D46,D47,D48,D49,D50,D51,D52,D53,D54,D55,D56,D57,⟨_,z9 X G ck⟩,⟨_,z9 X G fQ⟩,⟨_,z9 X G dI⟩,⟨_,z9 X G cM⟩,⟨_,z9 X G cg⟩,⟨_,z9 X G cf⟩,⟨_,z9 X G eB⟩,⟨_,z9 X G fO⟩,⟨_,z9 X G eJ⟩,⟨_,z9 X G fR⟩,⟨_,z9 X G eE⟩,⟨_,z9 X G dQ⟩,⟨_,z9 X G eO⟩,⟨_,z9 X G iS⟩,⟨_,z9 X G iY⟩,⟨_,z9 X G eV⟩,⟨_,z9 X G eh⟩,⟨r_KINDS,z9 X G oo,q_KINDS⟩,⟨r_KIDLESS,z9 X G iW,q_KIDLESS⟩,⟨r_INKS,z9 X G uc,q_INKS⟩,⟨r_GOES_DOWN,z9 X G fN,q_GOES_DOWN⟩,⟨r_PLAIN,x_PLAIN0,x_PLAIN1,z9 X G jk,oF.mk z_PLAIN l_PLAIN (by show 12<=1000; decide) ⟨⟨zQb,rfl⟩,rfl,⟨⟨zQb,rfl⟩,rfl,⟨⟨zQb,rfl⟩,⟨zQa⟩,⟨⟨zQb,rfl⟩,⟨zQa⟩,⟨⟨zQb,rfl⟩,⟨zQa⟩,⟨⟨zQb,rfl⟩,⟨zQa⟩,⟨⟨zQb,rfl⟩,⟨zQa⟩,⟨⟨zQb,rfl⟩,⟨zQa⟩,⟨⟨zQb,rfl⟩,rfl,⟨⟨zQb,rfl⟩,rfl,⟨⟨zQb,rfl⟩,⟨zQa⟩,⟨⟨zQb,rfl⟩,⟨zQa⟩,trivial⟩⟩⟩⟩⟩⟩⟩⟩⟩⟩⟩⟩⟩,⟨r_MOSTS,z9 X G oO,oF.mk z_MOSTS l_MOSTS (by show 6<=1000; decide) ⟨⟨zQb,rfl⟩,⟨zQa⟩,⟨⟨zQb,rfl⟩,⟨zQa⟩,⟨⟨zQb,rfl⟩,⟨zQa⟩,⟨⟨zQb,rfl⟩,⟨zQa⟩,⟨⟨zQb,rfl⟩,⟨zQa⟩,⟨⟨zQb,rfl⟩,⟨zQa⟩,trivial⟩⟩⟩⟩⟩⟩⟩,⟨r_PLAIN,x_PLAIN0,x_PLAIN1,z9 X G jk,oF.mk z_PLAIN l_PLAIN (by show 12<=1000; decide) ⟨⟨zQb,rfl⟩,rfl,⟨⟨zQb,rfl⟩,rfl,⟨⟨zQb,rfl⟩,⟨zQa⟩,⟨⟨zQb,rfl⟩,⟨zQa⟩,⟨⟨zQb,rfl⟩,⟨zQa⟩,⟨⟨zQb,rfl⟩,⟨zQa⟩,⟨⟨zQb,rfl⟩,⟨zQa⟩,⟨⟨zQb,rfl⟩,⟨zQa⟩,⟨⟨zQb,rfl⟩,rfl,⟨⟨zQb,rfl⟩,rfl,⟨⟨zQb,rfl⟩,⟨zQa⟩,⟨⟨zQb,rfl⟩,⟨zQa⟩,trivial⟩⟩⟩⟩⟩⟩⟩⟩⟩⟩⟩⟩,q_PLAIN0,q_PLAIN1⟩,F9 X G kL,F9 X G CM,F9 X G pb,F9 X G uk,F9 X G fL,F9 X G vD,F9 X G aF,F9 X G bM,F9 X G km,F9 X G zm,F9 X G cq,F9 X G dB,F9 X G rK,F9 X G gH,F9 X G gQ,F9 X G cw,z9 X G y_PaneError,z9 X G y_NoBox,z9 X G y_NoRule,z9 X G y_NoName,z9 X G y_Keys,cls,ins,hcd,hcd2,kit⟩⟩
end KP
namespace PySem.W.Fast
#print "(3m+e>bjS1SK-:j)QZ3xA61<vKwRsH-C/P+e-M$qPWUeSCQ-N&6t*LIrJ.c?n>heiv4+Uqs0wkQewwu1rF[^T(0?fZ/ZjAy+b7d>c0ni+N<5-jP78>QlhhC$Z=uZ8cMU<xYmSE$fuJjT`*/XQ5D5?bOl+oEipqpdVtArw(Ol#mUHys'dAA1HR1fTx^noc8Jcx%ZYwTE&>]D3iP5eTbS:)RDyCMJk9=1XJH9k3DoA7w2+i(3;r*CTa9&T7V<YukwjfF9ltMkX`L0%rV/wNU7tkZk0=H>6p^o1^>+L5VqY3#WA+G`*D(+Bras4<.l(^qI+gpF3STjfH3i8)j1j1y#Aa,o]=kQ^#+Eh.yR.Q]p-JqJ*w;'Wm'cY50mrFvD6Pw2'6Jist^2.NLgu;`,v5um&durZv.[([?/HPUxY^0r3PxAr*,;+yE)OATCea5[6TwW+]l9eO#>%v#8ri9_OMmPGU[tBVMcSVKW4d.d;2w%0v>PJv<-H`;Egcp4Ukmnj%](UNy)l3PLBr0Ig#Gk>_WBDllQ3IOPkhLgmH2e>]&gOB94rSyYgVgh;Gj8t;RjR:I#DQ]7^#yyHK-1IX4'Eld:;i6jYcb1p5N+gW%LxU*A-WbtJ*&A(J7=y`?tW3QnTfM+_p%VE+bTa<=NN62LClRA5<'8rI#.V19.LVt2=C#gTAn<6$f.vaqsYy..IqiHT:#(4(^<J4y>*pt(uD&Mt0VJUMW:f2:$i5`QT[:e<rpS-H(KO#]c%CwN(P2(j:4EdnsZ#bK6^fM[b[,C&#E?B#RDU,.p8=8e7jJjs6m+XS&:]`I&xPm&[vDlN1JA_OF_sHIHIm$7)vg9X;%rsBJIgW?)#/t]fI[?tPhw1=LoV2jK(MHreUR<,VW:J2%vlRp7ilk,9GOR=bv'_<d00oIY/0>yXh:&%-sV_Yn(,3h[f7P#R4i=3JQG(h4QhCDIhQIZ#a3gT70'P7><2ftGtaP1rh+m]5V6H1FZh(Sh$sr^VQ*eH]-Hb$HjSUS6,>w)F?.;FRPK;Tn6g)yY9X7:x7^E`TMo%'K,QuS*I1xXp6(jebFD=-0+GFRgJe`_$(yWa4?YSOWJ]w]=o1faM7u/7K6JqoFwS%ubElyN2''5S-GH2PP2P8f]&cb'Jm(o*Su-]a1bSNi+l^GQp)SC=*-//7QVN$f1/YX6I9sb?hn<0B?2_q=CJx;NAT<:DAKKvuH>q7BqMcEot:jgF&&FfP101l?K:A_ss5<^E_oxG]M+Y9;N5vDFf$<,9#m)_h34veorHwm4)ITr9:4=AIPE-^r[HBi=N>YbwHoPti7FbZ`Pc>75y+Q>o4=rfYlr:xn[&=9vuknd+0I0l6B8cMvfw?9$(hx27A%pr.Bi]7dj7srB_[ZL*IGhfg:T,D-'UZ4#A/bbR%rcxKhx<bgk<x:?sS)w*3'1Kx9#a,gHkbo):eT+C0XV=we791[=U<M_?yn$Ga=4u?2/n-osUx`Frsvx->/=A;d5ix?(`,g_jaE(jZrZI>oC5gDTMZ)FLDv<pNi)I<[0/Z7?=C=m])l3)=5Piq`h?u%>AV=v_;v+olF(;tVa^U6Qx>5/osbGH2sfr;dho7?Fd:Gvm*PGVgk]J97Zk5/_)Lj4Blx1n2wC:AWDpH6%`Q);wWCbVbV05X>b%?v(MxN=Y0'lcm+og2'gV1a%j**XeBK<#Y?kRs*Xp-59q1F,dql`l$Phpf2O`-6K>1t2RyZq(gsD.XcaC&mIUA`,XwO5&alEa02KYdWenk7n_(^:gkl5QL4YPq1gQ_c/LfA`K89&hiQ`Vih_cBGu5;#/^F5:[CL:)-sgg_8S1<vOc((pHyhn$[;qCkf8ekj,i_K#_/h5gk#m3RTH3A8o'#FNIWkC=u;?rLt8c0tdditxD0qso#Q>q0W%jk&>B40R)O+bPYm0ek(WStmtetN;)9DYlOxfpmMRsInJ1XN]Aj;;a/9/4ra%*4Jf3hV(R=We+jo'(]CUu#b:hEF3F?FU0H%9vj^28&UE92=<4CV;O-PkR,,3?i92EinWQqKk3:JcVYc$YZT+%c=]FJ+[9+nZQif_&3Hjn#R>'G95A02Vk*yn:-OX3mnwMuHHE2vRi]_Ani_d0)F2[o.qmm7cB%eN),qeBJtra&50h>xAh_0sNPV`,;#aVjdyoMt*[NsYWKdyF*4$=s9$KUMVd6S+H*f+RNp95scE*7bMc'Mti.9CWJpOfh$_'ltJLmEJ:ZFAJHdjyP+9jP%EZvr./&P5AB7wB19'IZ[?)]7D9cMo5<%8Z^*boGW7HJO+&vq]f6xZnJqF#f_6CD:#9)Nm$5eCoEmr3`K56OCp-Ffrd4[k6#Gq>kP2yJ&e(-lNU2wk>26?8[G2jxDAwj/Ve2;JscY6nnZ$Ps9NkCJ)j1l^MLA.1,#/WOd,wIq'D.Uvo*IL%*;,yR4lfQ9x:q%0h`JnKM9pi5CBg0t,A*N7hK*x^8>ogb[[mP1Agm;r5A+$ryXhEiH9T3xs`h$4'<O%/lXg(vTT)8OQ4c[VJ2OYY+>bOfTXqiUV'a-XG.OmZV=`lmMRj$WM/^'LT>t:-8$Z=Z]c=`paY#QVsJV?c5QX:quv(qgEa(3B5hg^'ZfW,#.lS^+YsVev^Mg.mR`Thbh*FHmdIT,Q:rf5&UF'.lBHjM,(%Zea:Jukwy:g_2>;aQN0TTw]&iV&Ki=FKMv&KrmOPC?b$D&:rH2ntADCx4E;CkjQZ*IZNodPEK6cG/3e/]t<BmHLmE%'505V%v%s<gHvLjH^x2(=Mj0,P0smYO`l#y`>gsNBZuVv1V2Lsj%<crNorEhKP4#Sn-]>yp.IT/+S=Bo5Pf#)H%J?&0/^VOu%q:jBp%,I#<Vwo=NQg<N178c<qG=D>_aW)<g`('+%Zok;<XSnaJx'1:foq+l4N3P9>YJUD.EPs$Vd$R9Go1M1[OC7M&e]ot6Tq-+:+y,oHl`7gcx09gnoY?B>MsufrhkFv2-4Ba[?%>Bi/1T`_oHs<U(hS[A?fF[2:.V'hs5-T?l'PQ9$IPoxO`X))UR;.<hC*Z%/OqIYcN+NW<?_8lrY2K$J)Dl&1U2>4GBCj3*FR#8,&+&=Bp0789K3HQOcq2-.0q['He.a;ctT4G_Ul1(,-1Bg6)c_RxM8aQ=s_MG;F[.pjLDCx00#vRHJ2poP7JD4IW2h0&hSA#bGmNFV,2,B==FRRZ:xt'0vPHCT^qFaA/lBo,frM`bjX$RPUM=bGbRrqy7)N5UW=e<R-46:eL']le87<+K,tLMdZFw-BEQKtOa;8BP6OJDQkT4]V3_J4w&o.%<2]J(+cqMKhItIvcAj;82#DICS)96?fy8HwEr6hVNv&FM*>S&k9lH&DlD<)FZ=-DWg5V^J9:&CtBlXnQKuQC>R>)IaM#TBE)oy(o$OWB&17?sRTItAyal:A.#hoA3t.hbm15Y=f/m3NeYwM=VQ8o(1=o.=AeC5DPcY8<rI9lLY3lb<0$+=Sj8+a;nMA&P>=(a%F`EYhKm)`:L0ZIsq<<_:=XuiV/mr+9m;rAd`t,j9PkhrHI2_H96mK^4:b)m9#W#;pHcyP8oaJ%w.CEs8N8H;>(:+X7W'0QNqv_,6g#>[_&<336]oiCt)-KA6Rb=)g7=^w5l[i)9PrQA5KH/_Qb<fV2RIV0^Zo[I#0#(8[7&l+1');+6MOaU0wriH4=7sO0XFv.m'MuG0Qp,tbD/D00AhB4cfqn`/svs2&=inx/ovNmVq;5S/V`#X-qpoV,#[>3Z7wW_+eH]Tg3pn]t)/x$LT;l7r?v#6NtIY(r?lUt560.kr$NKG;)38tqY'-:xBUoQpx[.[&c_Y,ppKyMk0^J`*Qc3EKT7shouBBqg29?;oMVNkfyOkYoI:d[G9YFOnh-+TuSbKp#cMqnf2yBUnN9)Fw(O._#cCAYXc.)3n<#`u2>3%LmavuNgJPn5m5QEDaA,Df"
end PySem.W.Fast
open PySem PySem.W PyProof.Rows
set_option maxRecDepth 100000 in
set_option maxHeartbeats 0 in
theorem PySem.Challenge.cw_panehouse_k75_whole_ring_once_holds : PySem.Challenge.rw_panehouse_k75_whole_ring_once.Holds := by
 w_on; o_law; k_head; (case hw=>w_witness2)
 k_fill
 refine' L2.Nh (l:=PySem.Challenge.rw_panehouse_k75_whole_ring_once) (n:=63) (k:=16) (x:="_law_script") (CX:=L2.CX0) (sp:=KP.spLaw 370 378) (cTs:=[370,378]) rfl (by decide) rfl ⟨rfl,by decide,by decide⟩ (fun w h Y=>⟨PySem.W.km_in_of Y,fun t ht=>PySem.W.km_tabs_of Y t (by simpa [or_comm] using ht)⟩) ?KT ?F ?C
 case F =>
  intro w mg fa h KX G hmg;have T:∃ A:KP.Adr,A.cT=370/\R7 (L2.KOf KX) A.cC A.cT=true/\A.cT2=378/\R7 (L2.KOf KX) A.cC2 A.cT2=true/\A.wd=w/\(∀(s:g8) (u:g7),S3 s A.yK ⟨[u],[]⟩ [("_law_script",u)])/\KP.Txt (L2.KOf KX) mg A:=by
   dsimp only [L2.KOf];refine' KP.txt_mk KX G w 370 378 ?a1 ?a2 ?a3 ?a4 ?a5 ?a6 ?a7 ?a8 ?a9 ?a10 ?a11 ?a12 ?a13 ?a14 ?a15 ?a16 ?a17 ?a18 ?a19 ?a20 ?a21 ?a22 ?l22 ?cc22 ?k22 ?a23 ?l23 ?cc23 ?k23 ?a24 ?l24 ?cc24 ?k24 ?a25 ?l25 ?cc25 ?k25 ?a26 ?l26 ?cc26 ?k26 ?a27 ?l27 ?cc27 ?k27 ?a28 ?a29 ?a30 ?a31 ?a32 ?a33 ?a34 ?a35 ?a36 ?a37 ?a38 ?a39 ?a40 ?a41 ?a42 ?a43 ?a44 ?a45 ?a46 ?a47 ?a48 ?a49 ?a50 ?a51 ?a52 ?a53 ?a54 ?a55 ?a56 ?a57 ?ck ?fQ ?dI ?cM ?cg ?cf ?eB ?fO ?eJ ?fR ?eE ?dQ ?eO ?iS ?iY ?eV ?eh ?oo ?q_KINDS ?iW ?q_KIDLESS ?uc ?q_INKS ?fN ?q_GOES_DOWN ?jk ?l_PLAIN ?z_PLAIN ?oO ?l_MOSTS ?z_MOSTS ?kL ?CM ?pb ?uk ?fL ?vD ?aF ?bM ?km ?zm ?cq ?dB ?rK ?gH ?gQ ?cw ?q_PLAIN0 ?q_PLAIN1 ?y_PaneError ?y_NoBox ?y_NoRule ?y_NoName ?y_Keys ?cls ?ins ?hcd ?hdi ?hcd2 ?hdi2 ?kit
   (case y_PaneError | y_NoBox | y_NoRule | y_NoName | y_Keys=>k_is)
   (case a1 | a2 | a3 | a4 | a5 | a6 | a7 | a8 | a9 | a10 | a11 | a12 | a13 | a14 | a15 | a16 | a17 | a18 | a19 | a20 | a21=>refine⟨?_,?_,?_,?_⟩ <;> k_is)
   (case a22 | l22 | cc22 | k22 | a23 | l23 | cc23 | k23 | a24 | l24 | cc24 | k24 | a25 | l25 | cc25 | k25 | a26 | l26 | cc26 | k26 | a27 | l27 | cc27 | k27=>k_is)
   (case a28 | a29 | a30 | a31 | a32 | a33 | a34 | a35 | a36 | a37 | a38 | a39 | a40 | a41 | a42 | a43 | a44 | a45 | a46 | a47 | a48 | a49 | a50 | a51 | a52 | a53 | a54 | a55 | a56 | a57=>refine⟨?_,?_,?_,?_⟩ <;> k_is)
   (case ck | fQ | dI | cM | cg | cf | eB | fO | eJ | fR | eE | dQ | eO | iS | iY | eV | eh | oo=>k_is)
   (case q_KINDS=>kernel_rfl)
   (case iW=>k_is)
   (case q_KIDLESS=>kernel_rfl)
   (case uc=>k_is)
   (case q_INKS=>kernel_rfl)
   (case fN=>k_is)
   (case q_GOES_DOWN=>kernel_rfl)
   (case jk | l_PLAIN=>k_is)
   (case z_PLAIN=>kernel_rfl)
   (case oO | l_MOSTS=>k_is)
   (case z_MOSTS=>kernel_rfl)
   (case kL | CM | pb | uk | fL | vD | aF | bM | km | zm | cq | dB | rK | gH | gQ | cw=>k_is)
   (case q_PLAIN0 | q_PLAIN1 | cls | ins=>kernel_rfl)
   (case hcd=>rfl)
   (case hdi=>kernel_rfl)
   (case hcd2=>rfl)
   (case hdi2 | kit=>kernel_rfl)
  obtain⟨A,e2,e3,e4,e5,hw,hb,T⟩:=T;have e0:=hmg.symm.trans T.KW.m;cases e0;have m1:(A.cC,A.cT)∈[(A.cC,A.cT),(A.cC2,A.cT2)]:=.head _;have m2:(A.cC2,A.cT2)∈[(A.cC,A.cT),(A.cC2,A.cT2)]:=.tail _ (.head _);refine⟨[(A.cC,A.cT),(A.cC2,A.cT2)],fun p hp=>?_,fun H a ns hl n1 n2 hS=>?_,A.yK,hb,fun base kb nb hC hB=>?_⟩
  ·rcases l6.mp hp with rfl | hp
   ·exact⟨by show A.cT∈_; rw [e2]; simp,e3⟩
   ·rw [A5.mp hp]; exact⟨by show A.cT2∈_; rw [e4]; simp,e5⟩
  ·have k1:=n2 _ m1
   have k2:=n2 _ m2;dsimp only at k1 k2;rw [e2] at k1;rw [e4] at k2;exact⟨a,ns,rfl,hS,hl,k1,k2,fun _=>rfl⟩
  ·have F:=KP.ok_law (P:=PySem.Challenge.rw_panehouse_k75_whole_ring_once.prog) (w:=w) T hw (by rw [e2,e4]; decide) (hC _ m1) (hB _ m1) (hC _ m2) (hB _ m2)
   rw [e2,e4] at F;exact F
 case KT=>intro P t ht; simp only [l6,C1,or_false] at ht; rcases ht with rfl | rfl <;> kernel_rfl
 case C=>exact fun _ _ _ _ z=>z
