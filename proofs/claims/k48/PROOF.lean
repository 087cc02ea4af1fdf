import PyProof.Rows.All
import Wide.All
import OpenK.AllK
import Wide.FinOn
import Lean
import PyProof.EqAt
import PyProof.EqKinds
import PyProof.TupleCall
import PySem.Challenge.RW_undivide_k48_whole_back_from_tables
set_option Elab.async false
set_option linter.all false
set_option maxRecDepth 100000
set_option compiler.extract_closed false
set_option bootstrap.genMatcherCode false
set_option genSizeOf false
local macro_rules | `(tactic| omega)=> `(tactic| lia)
noncomputable section
open Lean in
local macro_rules|`(tactic|have($a,$b,*):=$e)=>do
 let p<-(#[a]++b.getElems).mapM λx=>match x with|`($i:ident)=>`(Parser.Tactic.rcasesPatLo|$i:ident)|_=>`(Parser.Tactic.rcasesPatLo|_)
 `(tactic|obtain⟨$p,*⟩:=$e)
open Option renaming some→ž,none→Ž
open Bool renaming true→ż,false→Ż
open Array renaming length_toList→ģ,toList_push→ő,toList_append→ϗ,getElem?_toList→Ϩ,toList_extract→ϯ,reverse_reverse→η,size→ν,reverse_append→a0b,toList→a0l,append_empty→a0s,toList_reverse→a1y,forIn_toList→a2f,toList_map→a2N,all_toList→a2O,toList_setIfInBounds→a3y,perm_iff_toList_perm→a3z,getElem?_extract→a4k,getElem?_eq_none→a4l,getD→a5x,extract_zero→a5y,append_assoc→a5z,all_eq_true'→a5A,any_toList→a6c
open Array.Perm renaming refl→a0O
open Bool renaming false_eq_true→ĥ,and_eq_true→Ĵ,not_true→ś,eq_iff_iff→Ş,and_eq_true_iff→ϓ,not_false→ϛ,true_and→Ε,not_eq_true'→a0N,false_or→a2e,false_and→a3F,or_eq_false_iff→a5b,eq_false_iff→a6b
open False renaming elim→ť
open ForInStep renaming yield→Ű,done→Ϧ
open Int renaming toNat_natCast→ı,gcd→ō,natAbs_natCast→Ţ,natAbs_mul→ϝ,le_of_lt→ε,fdiv_eq_ediv_of_nonneg→a0C,mul_neg→a0V,mul_nonneg→a1M,natCast_mul→a3s,gcd_pos_of_ne_zero_right→a3t,eq_ofNat_of_zero_le→a4u,gcd_comm→a4M,neg_gcd→a5v,gcd_zero_right→a5Z
open Lean.Grind renaming CommRing→ϑ
open Lean.Grind.CommRing renaming Expr→a5Y
open Lean.Grind.CommRing.Expr renaming eq_of_toPoly_eq→a4t
open List renaming length_map→ē,map_cons→ę,replicate→Ě,size_toArray→ě,getElem?_map→ĝ,map_append→ğ,getElem?_append_right→Ĥ,range→ħ,getElem?_append_left→Ĩ,find?_cons→Į,append_assoc→İ,map_map→ĳ,not_mem_nil→ķ,sum_cons→ĸ,length_set→Ĺ,length_replicate→Ł,getElem?_set_self→ń,drop_eq_getElem_cons→ŋ,length_singleton→ŏ,getElem?_replicate→œ,append_nil→ŕ,lookup_cons→Ŗ,length_drop→ŗ,replicate_succ→Ś,length_take→ţ,take_of_length_le→ŧ,length_nil→ũ,map_nil→Ů,any_cons→ŵ,mapM_cons→ŷ,extract_eq_drop_take→ώ,flatten_cons→ϒ,all_eq_true→ϙ,lookup_append→Ϟ,any_eq_true→ϸ,getElem?_cons_zero→Μ,getElem?_cons_succ→Ν,length_range→Χ,take_append_drop→θ,getElem?_eq_none→ι,filter_cons→ξ,all_cons→ω,zip_cons_cons→a0u,map→a0v,getElem?_drop→a0w,pairwise_iff_getElem→a0G,pairwise_map→a0K,length→a0L,ext_getElem?→a0M,map_take→a0T,eq_of_mem_replicate→a0U,cons_append→a1b,length_take_of_le→a1i,of_mem_zip→a1o,nil_append→a1p,mem_append→a1q,forIn_cons→a1r,nodup_nil→a1B,forIn_nil→a1C,map_congr_left→a1U,getElem?_range→a1V,flatMap_append→a1W,filterMap_cons→a1X,foldl→a2h,Nodup→a2i,toArray→a2w,take_succ_eq_append_getElem→a2x,sum_nil→a2y,flatMap_cons→a2z,nodup_cons→a3d,length_zip→a3e,mem_of_find?_eq_some→a3O,map_drop→a4b,mem_map→a4r,drop_of_length_le→a4s,set_append_right→a4K,mem_of_mem_take→a4W,mem_of_mem_drop→a4X,map_id→a4Y,length_zipWith→a5u,map_singleton→a5L,filter_append→a5M,contains_cons→a5N,range'_succ→a6m,nodup_range→a6n,map_zipWith→a6o,getElem_set→a6p,getElem_inj→a6q,drop_length→a6r,countP_cons→a6s,take_range→a6K,range_succ→a6L,find?_some→a6M
open List.Pairwise renaming imp_of_mem→a2q,nil→a3C
open List.Perm renaming append_left→a3B
open List.cons renaming injEq→Ϸ
open Nat renaming add_sub_cancel_left→Ŋ,zero_add→ř,add_sub_cancel→š,add_assoc→Ŧ,pow_add→Ū,le_add_right→Ϻ,add_zero→ϻ,add_mul→Ο,le_of_lt_succ→δ,one_mul→a0S,not_le_of_lt→a1f,lt_of_succ_lt_succ→a1n,not_lt_zero→a1u,le_add_left→a1v,sub_zero→a2G,min_self→a2H,lt_trans→a2I,lt_succ_of_le→a2J,add_comm→a2K,le_of_not_lt→a2Z,min_eq_left→a3r,sub_le→a3N,lt_irrefl→a4j,le_mul_of_pos_left→a4J,pow_lt_pow_right→a5r,mul_pos→a5s,log2_lt→a5t,pow_le_pow_left→a5J,mul_le_mul_left→a5K,lt_or_gt_of_ne→a5V,lt_or_eq_of_le→a5W,lt_of_le_of_lt→a5X,lt_trichotomy→a6k,lt_of_succ_lt→a6l,zero_lt_succ→a6G,not_lt_of_le→a6H,lt_succ_self→a6I,le_max_right→a6J
open Nat.succ renaming inj→Ϙ
open Ne renaming symm→Ľ
open Option renaming map_some→a0e,bind→a0B,isSome_some→a1T,getD_some→a2t,getD_none→a2u,bind_some→a2v,isSome_map→a5q,map_none→a5T
open Option.some renaming injEq→a4a
open Or renaming inr→a1a,inl→a1S
open Prod.mk renaming injEq→Ų
open PyProof renaming noPylong_of_log2→a3q
open PyProof.Rows renaming wpS_bind→ė,wpS_pure→Ğ,pendingOf→Ġ,Keyed→ġ,arrOf→Ħ,SortSt→ĩ,wpS_forRange→Ŕ,kindOf→ş,gallopOf→Š,wpS_mono→Ť,slot_tuple_getitem→ź,wpS_modify→Β,elem'→Η,failedOf→Τ,IntsAre→a0q,seqObj→a0y,envOfC→a0z,slot_tupleiter_next→a0D,boot_abs→a0E,wpS_get→a1g,AllBare→a1j,wpS_lift→a2k,IsTup→a2R,assignInOrder_cons→a2W,SortKind→a3n,setPending→a4z,bubble→a4E,subscriptTail→a5g,listUpdate_at→a5i,subscriptTail_builtinR→a5P,entry_tupleiter_next→a6E
open PyProof.Rows.F renaming plain_set_update_loop→ϣ,entry_set_update_loop→a0R
open PyProof.Rows.IntsAre renaming length→a1s
open PyProof.Rows.SortSt renaming mk'→a4Q
open PySem renaming sizeLine→Ĕ,wpAny→ĕ,model→Ę,mainGlobals→Ģ,compareOp→Ĭ,wpAny_call_entry→ĭ,wpAny_bind→Ĳ,Heap→ĵ,Expr→Ķ,wpAny_truthy_bool→ĺ,starEach→Ļ,cellsFrom→ļ,wpAny_field→Ŀ,wpAny_dictEntries→ŀ,wpAny_callSpecial?_slot→ł,sysModules→Ň,wpAny_holding→Ō,wpAny_pure→Ř,wpAny_mono→Ŝ,Stmt→ū,wpAny_rule→ų,wpAny_dictEpoch→Ŵ,binaryOp→Ŷ,eval→Ÿ,bootBuiltins→Ź,behindInMarks→ϊ,wpAny_isInstance→ϋ,DictEntry→ύ,wpAny_setField→Ϗ,rawInt→Ϝ,wpAny_typeNameOfWhole_itemiter→ϟ,wpAny_seqItems→Ϡ,FuncData→Ϣ,wpAny_typeNameOfWhole_keyiter→ϩ,wpAny_Call_Name_kw→Ϫ,codeAny_mono→ϫ,assignEach→Ϭ,wpAny_passesOwn→Ϯ,tupleKind→ϰ,wpAny_notOrdered_dict→ϲ,wpAny_loadPart_at→ϴ,Paired→Γ,wpAny_forIn_list→Ζ,cLine→Θ,PyData→Λ,wpAny_attempt→Ρ,attributeBase→Υ,wpAny_specialOf→Φ,pyNext→Ψ,backTo→Ω,Value→ζ,wpAny_newObj_type→ο,start→π,foldedSetIterable→ς,firstArgMember→τ,Result→υ,NameKind→χ,wpAny_call→a0g,entryOfKey→a0h,Shared→a0i,wpAny_standAt→a0m,codeAny→a0n,sliceBounds→a0r,wpAny_richCompare_same_room→a0H,holding→a0I,swapsWith→a0P,tupleKind_room_in1→a0X,getItem→a1h,assign→a1k,wpAny_eqBool_int→a1w,GenState→a1x,wpAny_isOneOf_itemiter→a1E,call_meets→a1F,Keyword→a1K,IsPair→a1L,wpAny_execs_nil→a1O,letOwnedTupleGo→a1P,wpAny_fieldsOf→a2l,sizeLine_eq→a2m,codeAny_call_builtin→a2n,IsPart→a2r,lastMarks→a2s,call→a2A,swapsWithSole→a2P,swappedStores→a2Q,CmpOp→a2S,wpAny_tupleItemsOf→a2U,isInstance→a2V,wpAny_typeOf→a3h,wpAny_pyIter_slot→a3i,valueAt→a3j,setField→a3k,concat_meets→a3l,callerA→a3m,Scope→a3o,scanBound→a3G,pyIter→a3H,noFill_tuple_add→a3I,isTrue→a3J,subscripted→a3Q,keywordEach→a3R,excClassObj→a3S,wpAny_ite_false→a4c,codeAny_of_tree→a4d,codeAny_builtin→a4e,standAt→a4m,Program→a4o,BindsTo→a4w,typeLookup→a4y,reduceHash→a4A,newTuple→a4B,newFunctionEnv→a4C,isSubtype_stop→a4D,PlainAttrs→a4I,IsItemIter→a4L,wpAny_check_type_call_sub→a4O,evalArgs_none→a4R,wpAny_onRaise→a5d,wpAny_handled→a5e,wpAny_comprehension_free→a5f,seq_tuple_add→a5h,assignInOrder→a5j,call→a5n,wpAny_Call_method0_late→a5B,codeAny_call_builtin_at→a5C,list_append→a5H,PassesOwn→a5I,seqIndex_neg→a5Q,seqSlot_of→a5S,wpAny_isTrue_Compare1→a6d,wpAny_isOneOf_keyiter→a6e,isSubtype_tuple_tuple→a6f,wpAny_updateSeq_pair→a6C,wpAny_loadName_local→a6D
open PySem.Around renaming under→a2j,under_plainId→a4x,in1→a5c
open PySem.AutoSeq1 renaming wpAny_loadPart'→Œ
open PySem.Builtin.Dict renaming showsAll→Ϛ,dictSlotArgs→ϧ,entriesForEmpty→a1Y,updateFrom→a2M,samePairs→a2T,quietEq→a3g
open PySem.Builtin.Dict_items renaming ownsTuple→Ũ,pairFromOwner→a0W,ownedTupleIsFree→a6y,newIterator→a6z,isOneOf→a6A,dictOf→a6B
open PySem.Builtin.Frozenset renaming updateFrom→a6O
open PySem.Builtin.ObjectAttr renaming storeInDict→a1c,storeInOwnDict→a6w,newKeyGuard→a6x
open PySem.Builtin.Slice renaming slicePlaces→Ϥ,sliceAdjust→a0a,sliceApplied→a2d
open PySem.Builtin.SmallTypes renaming nextOf→Ő,ownedTupleIsFree→Ŭ,ownedTupleHandOut→a0x
open PySem.Builtin.Str renaming glued→a1R
open PySem.Builtin.Tuple renaming tupleHashOf→ŉ,tupleExact→ϭ,tupleCompareSizes→Δ,tupleItemsOf→μ
open PySem.Calls renaming spliced_cons→a2c,Name_function_global→a3x,evalArgs_plain→a4N,spliced_nil→a5O
open PySem.Code renaming isFrame→a4v
open PySem.Data renaming cell→a1N,fields→a3b,seq→a5a
open PySem.EntryCells renaming newEntry→a3P
open PySem.F renaming args_tuple_add_2→a0A,entry_tuple_add→a0J,slot_tuple_add→a0Z,slot_dict_get→a1d,slot_zip_next→a1D,args_tuple_mul_2→a2L,excBase_ValueError→a2Y,entry_tuple_mul→a3a,args_dict_itemiterator_next_1→a3f,slot_tuple_mul→a3u,entry_dict_itemiterator_next→a3v,args_dict_keyiterator_next_1→a3w,args_dict_get_3→a3A,slot_dict_itemiterator_iter→a3D,entry_dict_keyiterator_next→a3E,entry_dict_get→a3M,type_str_join→a3W,sub_dict_dict→a3X,slot_tuple_eq→a3Y,slot_str_join→a3Z,slot_dict_ne→a4h,slot_dict_eq→a4i,slot_dict_items_iter→a5w,args_list_append_2→a6a,entry_list_append→a6v,slot_list_append→a6N
open PySem.Heap renaming size_push→Ŏ,SameBut→Ϲ,get?_update_ne→Α,ExtBut→a4Z,size_update→a6t,IsTupleIter→a6u
open PySem.Heap.SameBut renaming update→a6j
open PySem.IsL renaming update→a4H
open PySem.NameKind renaming cell→ű,free→ϵ
open PySem.Obj renaming mapFields→ņ,mapSeq→ſ,cls_mapFields→a2F,data_mapFields→a5U
open PySem.Paired renaming length→a0F,snoc→a4q
open PySem.PassesOwn renaming leaving→a4p,never→a4V
open PySem.PyData renaming tuple→į,int→ľ,str→Ņ,hasDict→ϖ,hasDictAll→ϥ,canLayAll0→Ξ,shownAll→a0d,depth→a0f,eqv→a0p,depthAll→a1e,canLay0→a1t,dict→a4n,showableAll→a4U
open PySem.SeqAt renaming shaped→ϐ,in_tupleAt→a5R
open PySem.SeqAt.EqAt renaming str_int→a3U,int_str→a3V,same→a4F
open PySem.Shared renaming TypeIs→a1I
open PySem.Str renaming ofString→ϔ,cps_append→a3L,ofString→a4g,join→a5p
open PySem.StrLaws renaming glued_eq_join→a1Q
open PySem.Txt renaming join→ŝ,islower→a1G,isalpha→a1H,isascii→a3c
open PySem.Unicode renaming isUpper→a5D,isTitle→a5E,isLower→a5F,isAlpha→a5G
open PySem.Value renaming none→Ė,ref→Ĝ,int→a1z,type→a1Z,str→a3T,bool→a5l
open PySem.Value.type renaming inj→a4P
open PySem.W renaming nsIn→Ī,findIn→ī,keepIn→ň,kitOne→ŭ,fnOf→ό,tailIn→ϕ,emptyDict→Κ,tail_of_in→a0j,codeIn→a0k,isFn→a0Y,notCls→a1m,mroIn→a1A,callWith_K→a1J,specialIn→a2a,methodObj→a2b,takesIn→a2C,instObj→a2D,OpenLaw→a2E,lookIn→a2X,cellsFrom_some→a3K,kitx_tuple→a4G,kitx_list→a4S,kitx_dict→a4T,plainGet→a5o,clsIn→a6h,WalkO→a6i
open PySem.WalksT renaming enumerateD→a5k
open Rat renaming divInt→Ń,add_zero→ů,zero_mul→ϡ,one_mul→ϳ,intCast_mul→Ι,intCast_natCast→a0o,zero_add→a1l,add_assoc→a2g,num_divInt_den→a2p,mul_zero→a2B,num_eq_zero→a3p,mul_assoc→a4f,neg_mul→a5m,divInt_eq_div→a6g,divInt_ofNat→a6F
open Std.Legacy.Range renaming forIn_eq_forIn_range'→a0t,size→a2o
open Sum renaming inl→a0c,inr→a0Q
open True renaming intro→ϱ
abbrev a6P.{u}:=@if_pos.{u}
abbrev a6Q.{u}:=@if_neg.{u}
abbrev a6R:=@decide_eq_true
abbrev a6S:=@decide_eq_false
abbrev a6T:=@of_decide_eq_true
abbrev a6U.{u}:=@beq_self_eq_true.{u}
namespace Internal
open PySem PySem.Spec PyProof.Rows
abbrev À:=@Nat.zero_le
abbrev Á:=@PyProof.Rows.boot_isinstance
abbrev Â.{u}:=@List.mem_append.{u}
abbrev Ã.{u,v}:=@List.mem_map.{u,v}
abbrev Ä:=@PySem.boot_len
abbrev Å:=@PyProof.Rows.boot_tuple
abbrev Æ:=@a5X
abbrev Ç:=@Ϻ
abbrev È:=@PySem.W.mg_none_of
abbrev É.{u,v}:=@List.map_congr_left.{u,v}
abbrev Ê:=@Nat.mul_le_mul_right
abbrev Ë.{u}:=@List.mem_append_left.{u}
abbrev Ì.{u}:=@List.mem_of_getElem?.{u}
abbrev Í:=@List.mem_range
abbrev Î:=@PySem.Heap.get?_update_other
abbrev Ï.{u}:=@List.pairwise_cons.{u}
abbrev Ð:=@a4j
abbrev Ñ.{u}:=@Array.getElem?_eq_some_iff.{u}
abbrev Ò:=@Nat.exists_eq_add_of_le
abbrev Ó.{u}:=@List.pairwise_append.{u}
abbrev Ô:=@PySem.Heap.get?_update_self
abbrev Õ:=@PySem.W.kia_one
abbrev Ö.{u}:=@List.getElem_mem.{u}
abbrev Ø:=@PySem.F.slot_dict_itemiterator_next
abbrev Ù:=@Nat.add_lt_add_left
abbrev Ú:=@Nat.lt_succ_of_lt
abbrev Û:=@Nat.le_of_lt
abbrev Ü:=@Nat.lt_or_ge
abbrev Ý:=@PySem.F.slot_list_append
abbrev Þ:=@PySem.F.type_list_append
abbrev ß:=@PySem.F.plainAttrs_list
abbrev à.{u,v}:=@List.pairwise_map.{u,v}
abbrev á.{u}:=@List.pairwise_iff_getElem.{u}
abbrev â:=@Nat.lt_of_add_lt_add_left
abbrev ã:=@PySem.Obj.isFreed_of_fields
abbrev ä:=@PySem.F.called_set
abbrev å:=@PySem.F.slot_dict_keyiterator_next
abbrev æ:=@Nat.pow_le_pow_right
abbrev ç.{u}:=@List.pairwise_singleton.{u}
abbrev è:=@δ
abbrev é.{u}:=@List.mem_filter.{u}
abbrev ê:=@PyProof.Rows.callWith_type1
abbrev ë:=@a6j
abbrev ì.{u}:=@Array.perm_iff_toList_perm.{u}
abbrev í:=@a6I
abbrev î.{u}:=@List.any_eq_true.{u}
abbrev ï.{u}:=@List.all_eq_true.{u}
abbrev ð:=@Nat.mul_le_mul
abbrev ñ:=@PyProof.Rows.boot_int
abbrev ò:=@Nat.le_succ
abbrev ó:=@Int.emod_nonneg
abbrev ô:=@PySem.W.mg_of
abbrev õ:=@PySem.SeqAt.canLay_of_shaped
abbrev ö:=@PySem.F.plainAttrs_str
abbrev ø:=@a2I
abbrev ù:=@PySem.Obj.data_mapFields
abbrev ú:=@Int.emod_lt_of_pos
abbrev û:=@Nat.ne_of_gt
abbrev ü:=@Int.mul_ediv_cancel_left
abbrev ý.{u,v}:=@List.mem_flatMap.{u,v}
abbrev þ:=@PySem.mem_of_lookup
abbrev ÿ:=@Nat.add_le_add_left
abbrev Ā:=@PySem.F.slot_tuple_hash
abbrev ā.{u}:=@List.nodup_cons.{u}
abbrev Ă.{u}:=@List.Nodup.length_le_of_subset.{u}
abbrev ă:=@PySem.Calls.callWith_builtin
abbrev Ą.{u}:=@List.getElem?_set_self.{u}
abbrev ą:=@a1n
abbrev Ć:=@PyProof.Rows.boot_bool
abbrev ć.{u}:=@List.eq_nil_of_length_eq_zero.{u}
abbrev Ĉ.{u}:=@List.length_filter_le.{u}
abbrev ĉ.{u}:=@List.perm_append_comm.{u}
abbrev Ċ:=@Int.dvd_gcd_mul_iff_dvd_mul
abbrev ċ:=@PySem.W.looks_findIn
abbrev Č.{u}:=@Array.ext'.{u}
abbrev č:=@Nat.le_sub_one_of_lt
abbrev Ď:=@Int.eq_of_mul_eq_mul_right
abbrev ď:=@Nat.pow_pos
abbrev Đ.{u}:=@List.getElem_of_mem.{u}
abbrev đ:=@Nat.le_of_eq
abbrev Ē:=@PySem.Code.quiet_builtin
abbrev Qa.{u}:=@List.{u}
abbrev Qb.{u}:=@Option.{u}
abbrev Qc:=ζ
abbrev Qd:=a0i
abbrev Qe:=a4o
abbrev Qf:=Around
abbrev Qg:=Addr
abbrev Qh:=World
abbrev qa:=@Ĳ
abbrev qb:=@Ř
abbrev qc:=PySem.W.Frag
abbrev qd:=@Heap.get?_push_of_some
abbrev qe:=@Nat.le_refl
abbrev qf:=@Bool.false_ne_true
abbrev qg:=@Heap.get?_push_size
abbrev qh:=@Heap.lt_size
abbrev qi:=@Nat.lt_of_lt_of_le
abbrev qj:=@Nat.ne_of_lt
abbrev qk.{u}:=@List.getElem?_eq_some_iff.{u}
abbrev ql.{u}:=@List.getElem?_eq_getElem.{u}
abbrev qm.{u}:=@List.mem_cons_of_mem.{u}
abbrev qo.{u}:=@List.mem_cons_self.{u}
abbrev qp.{u}:=@List.mem_singleton.{u}
abbrev qq.{u,v}:=@Option.map_eq_some_iff.{u,v}
abbrev qr.{u}:=@List.length_append.{u}
abbrev qt.{u}:=@List.length_cons.{u}
abbrev qu.{u}:=@List.mem_cons.{u}
abbrev qv.{u}:=@List.mem_append_right.{u}
abbrev qw.{u}:=@Option.some.inj.{u}
abbrev qx:=@Nat.le_trans
abbrev qy:=@ο
abbrev qA.{u}:=@List.getD_eq_getElem?_getD.{u}
abbrev qB.{u}:=@List.getElem?_set_ne.{u}
abbrev Key:=Sum Int Str
noncomputable def rW:Key->Qc->Bool
 |.inl k,v=>Value.isInt k v
 |.inr x,v=>Value.isStrOf x v
noncomputable def Sw(w:Qh):Key->Int
 |.inl k=>hashInt k
 |.inr x=>hashStr w x
def k8:∀{k:Key} {v:Qc},rW k v=ż->(∃i t,k=a0c i/\v=a1z i t)\/(∃x t,k=a0Q x/\v=a3T x t)
 |.inl i,v,h=>by
  have(t,e):=Value.isInt_shape (k:=i) (v:=v) h;exact .inl ⟨i,t,rfl,e⟩
 |.inr x,v,h=>by
  have(t,e):=Value.isStrOf_shape (x:=x) (v:=v) h;exact .inr ⟨x,t,rfl,e⟩
def Qm(i:Int)(t:Tok):rW (.inl i) (.int i t)=ż:=by simp[rW,Value.isInt]
def Ql(x:Str)(t:Tok):rW (.inr x) (.str x t)=ż:=by simp[rW,Value.isStrOf]
def Ws(a b:Int):decide ((a0c a:Key)=a0c b)=(a==b):=by
 by_cases e:a=b
 .subst e;simp
 .have h:¬(a0c a:Key)=a0c b:=λq=>e<|Sum.inl.inj q
  rw[a6S h];exact(beq_eq_false_iff_ne.mpr e).symm
def Wq(a b:Str):decide ((a0Q a:Key)=a0Q b)=decide (a=b):=by
 by_cases e:a=b
 .subst e;simp
 .have h:¬(a0Q a:Key)=a0Q b:=λq=>e<|Sum.inr.inj q
  rw[a6S h,a6S e]
def Wp(a:Int)(b:Str):decide ((a0c a:Key)=a0Q b)=Ż:=a6S (λq=>nomatch q)
def Wn(a:Str)(b:Int):decide ((a0Q a:Key)=a0c b)=Ż:=a6S (λq=>nomatch q)
def zI(prog:Qe)(w:Qh):PySem.KeyKind prog w Key where
 is:=rW
 hash:=Sw w
 inj:=λv a b ha hb=>by
  rcases k8 ha with⟨i,t,rfl,rfl⟩|⟨x,t,rfl,rfl⟩
  .rcases k8 hb with⟨j,u,rfl,e⟩|⟨y,u,rfl,e⟩
   .injection e with e1 _;rw[e1]
   .exact nomatch e
  .rcases k8 hb with⟨j,u,rfl,e⟩|⟨y,u,rfl,e⟩
   .exact nomatch e
   .injection e with e1 _;rw[e1]
 byValue:=λk v h=>by
  rcases k8 h with⟨i,t,rfl,rfl⟩|⟨x,t,rfl,rfl⟩<;>rfl
 pyHash:=λhv h=>by
  rcases k8 hv with⟨i,t,rfl,rfl⟩|⟨x,t,rfl,rfl⟩
  .exact wpAny_pyHash_int h
  .exact wpAny_pyHash_str h
 eqBool:=λhu hv h=>by
  rcases k8 hu with⟨i,t,rfl,rfl⟩|⟨x,t,rfl,rfl⟩
  .rcases k8 hv with⟨j,u,rfl,rfl⟩|⟨y,u,rfl,rfl⟩
   .rw[Ws]at h;exact a1w h
   .rw[Wp]at h;exact a3V i t y u _ _ _ _ h
  .rcases k8 hv with⟨j,u,rfl,rfl⟩|⟨y,u,rfl,rfl⟩
   .rw[Wn]at h;exact a3U x t j u _ _ _ _ h
   .rw[Wq]at h;exact wpAny_eqBool_str h
 «strs»:=λk x t v h=>by
  rcases k8 h with⟨i,u,rfl,e⟩|⟨y,u,rfl,e⟩
  .exact nomatch e
  .injection e with e1 _
   subst e1;cases v<;>rfl
def zk0(prog:Qe)(w:Qh)(i:Int)(t:Tok):(zI prog w).is (.inl i) (.int i t)=ż:=Qm i t
def zk1(prog:Qe)(w:Qh)(x:Str)(t:Tok):(zI prog w).is (.inr x) (.str x t)=ż:=Ql x t
inductive V where
 |aO|bl (b:Bool) |int (i:Int) |str (x:Str) |lU (b:Array UInt8) |xq (b:UInt64) |ref (a:Qg) |ty (n:String)
 deriving DecidableEq
def zU:V->Qc->Prop
 |.aO,u=>u=Ė
 |.bl b,u=>u=a5l b
 |.int i,u=>∃t,u=a1z i t
 |.str x,u=>∃t,u=a3T x t
 |.lU b,u=>∃t,u=Value.bytes b t
 |.xq b,u=>∃t,u=Value.float b t
 |.ref a,u=>u=Ĝ a
 |.ty n,u=>u=a1Z n
abbrev zQ:Qa V->Qa Qc->Prop:=Γ zU
def zQ.length{xs:Qa V}{us:Qa Qc}(r:zQ xs us):xs.length=us.length:=a0F r
def zQ.get:∀{xs:Qa V} {us:Qa Qc} {i:Nat} {x:V},zQ xs us->xs[i]?=ž x->∃u,us[i]?=ž u/\zU x u
 |_,_,_,_,.nil,e=>by simp at e
 |_,_,0,_,.cons r _,e=>by simp at e;subst e;exact⟨_,rfl,r⟩
 |_,_,i+1,x,.cons _ t,e=>by
  have(u,h1,h2):=zQ.get (i:=i) (x:=x) t (by simpa using e);exact⟨u,by simpa using h1,h2⟩
def zQ.set{x:V}{u:Qc}(r:zU x u):∀{xs:Qa V} {us:Qa Qc} (i:Nat),zQ xs us->zQ (xs.set i x) (us.set i u)
 |_,_,_,.nil=>.nil
 |_,_,0,.cons _ t=>.cons r t
 |_,_,i+1,.cons q t=>.cons q<|zQ.set r i t
def zQ.append{xs ys:Qa V}{us ws:Qa Qc}(h:zQ xs us)(s:zQ ys ws):zQ (xs++ys) (us++ws):=by
 induction h with
 |nil=>exact s
 |cons r _ ih=>exact .cons r ih
def zQ.take:∀{xs:Qa V} {us:Qa Qc} (n:Nat),zQ xs us->zQ (xs.take n) (us.take n)
 |_,_,0,_=>.nil
 |_,_,_+1,.nil=>.nil
 |_,_,n+1,.cons r t=>.cons r<|zQ.take n t
def zQ.drop:∀{xs:Qa V} {us:Qa Qc} (n:Nat),zQ xs us->zQ (xs.drop n) (us.drop n)
 |_,_,0,r=>r
 |_,_,_+1,.nil=>.nil
 |_,_,n+1,.cons _ t=>zQ.drop n t
def jW:Qb V->Qb Qc->Prop
 |some v,ž u=>zU v u
 |none,Ž=>True
 |_,_=>False
def KV{κ:Type}:Qa (κ×V)->Qa (κ×Qc)->Prop:=Γ λ(p:κ×V) (q:κ×Qc)=>p.1=q.1/\zU p.2 q.2
def kV:Key->V
 |.inl i=>.int i
 |.inr x=>.str x
structure IK (prog:Qe) (w:Qh) (J:Type) [DecidableEq J] where
 is:ĵ->J->Qc->Prop
 hash:J->Int
 draws:J->Nat
 jb:Nat
 inj:∀{h:ĵ} {v:Qc} {x y:J},is h x v->is h y v->x=y
 keeps:∀{h h':ĵ} {k:J} {v:Qc} {d:Qg} {o:Obj} {es ep},is h k v->h.get? d=ž o->o.data=.dict es ep->Ϲ d h h'->is h' k v
 pyHash:∀{A:Qf} {E:Qc->Qd->Prop} {s:Qd} {k:J} {v:Qc} {Q:Int->Qd->Prop},A.units+jb < Θ->is s.heap k v->Q (hash k) {s with toks:=s.toks+draws k}->
  ĕ (Ę prog w) A (PySem.pyHash v) Q E s
 eqBool:∀{A:Qf} {E:Qc->Qd->Prop} {s:Qd} {x y:J} {u v:Qc} {Q:Bool->Qd->Prop},A.units+jb < Θ->is s.heap x u->is s.heap y v->Q (decide<|x=y) s->
  ĕ (Ę prog w) A (PySem.eqBool u v) Q E s
 quiet:∀{A:Qf} {E:Qc->Qd->Prop} {s:Qd} {k:J} {v:Qc} {Q:Bool->Qd->Prop} (n:Nat),jb<=n->is s.heap k v->Q ż s->ĕ (Ę prog w) A (eqIsQuiet n v) Q E s
section
variable{prog:Qe}{w:Qh}{J:Type}[DecidableEq J](I:IK prog w J)
inductive bj (h:ĵ):Qa J->Qa Qc->Prop
 |nil:bj h [] []
 |cons {k:J} {v:Qc} {ks:Qa J} {vs:Qa Qc}:I.is h k v->bj h ks vs->bj h (k::ks) (v::vs)
def iJ(h:ĵ)(ks:Qa J)(a:Qg):Prop:=∃o items n,h.get? a=ž o/\o.cls=.type "tuple"/\o.data=.seq items n/\bj I h ks items.toList
noncomputable def CK(ks:Qa J):Int:=a4A (ŉ<|ks.map I.hash)
noncomputable def Dl(ks:Qa J):Nat:=(ks.map I.draws).sum+1
variable{I}
def bj.inj{h:ĵ}{x y:Qa J}{vs:Qa Qc}(hx:bj I h x vs)(hy:bj I h y vs):x=y:=by
 induction hx generalizing y with
 |nil=>cases hy;rfl
 |cons h1 _ ih=>
  cases hy with
  |cons h2 t2=>rw[I.inj h1 h2,ih t2]
def bj.keeps{h h':ĵ}{x:Qa J}{vs:Qa Qc}{d:Qg}{o:Obj}{es ep}(hx:bj I h x vs)(ho:h.get? d=ž o)(hd:o.data=.dict es ep)(hs:Ϲ d h h'):bj I h' x vs:=by
 induction hx with
 |nil=>exact .nil
 |cons h1 _ ih=>exact .cons (I.keeps h1 ho hd hs) ih
def iJ.typeIs{s:Qd}{ks:Qa J}{a:Qg}(x:iJ I s.heap ks a):s.TypeIs (.ref a) "tuple":=let ⟨o,_,_,ho,hc,_⟩:=x;⟨o,ho,hc⟩
def iJ.tup{h:ĵ}{ks:Qa J}{a:Qg}(x:iJ I h ks a):∃items,h.IsTuple a items:=let ⟨o,ai,n,ho,hc,hd,_⟩:=x;⟨ai,o,ho,hc,n,hd⟩
def iJ.inj{h:ĵ}{a:Qg}{x y:Qa J}(hx:iJ I h x a)(hy:iJ I h y a):x=y:=by
 have(o,items,n,ho,_,hd,hi):=hx;have(o',JC,n',dF,_,ig,iP):=hy;obtain rfl:o=o':=qw (ho.symm.trans dF);rw[hd]at ig;injection ig with h1 _;subst h1;exact hi.inj iP
def iJ.keeps{h h':ĵ}{ks:Qa J}{a d:Qg}{o:Obj}{es ep}(x:iJ I h ks a)(ho:h.get? d=ž o)(hd:o.data=.dict es ep)(hs:Ϲ d h h'):iJ I h' ks a:=by
 have(o',items,n,dF,hc,ig,hi):=x;have rA:a≠d:=by
  rintro rfl;obtain rfl:o'=o:=qw (dF.symm.trans ho);rw[hd]at ig;exact nomatch ig
 exact⟨o',items,n,(hs.2 a rA).trans dF,hc,ig,hi.keeps ho hd hs⟩
variable{A:Qf}{E:Qc->Qd->Prop}{s:Qd}
def Ob{ks:Qa J}{a:Qg}{Q:Int->Qd->Prop}(hu:A.units+(I.jb+1) < Θ)(hk:iJ I s.heap ks a)(h:Q (CK I ks) {s with toks:=s.toks+Dl I ks}):
  ĕ (Ę prog w) A (pyHash<|.ref a) Q E s:=by
 have hT:=hk.typeIs;have(o,items,n,ho,_,hd,hi):=hk;unfold pyHash
 first|unfold pyHashByItsType|skip
 first|refine qa (wpAny_cRoomFor_or (.inr (by omega)) ?_) |skip
 refine qa<|Φ hT Ā.lookup ?_;show ĕ _ _ (if(ž (Value.builtin "tuple.__hash__")==ž Ė)=ż then _ else _) Q E s;rw[a6Q (by rw[beq_builtin_none];exact qf)];refine qa<|Φ hT Ā.lookup ?_;show ĕ _ _ (callSpecialIfBoundUnlessNone? (.ref a) "__hash__" _ >>= _) Q E s;refine qa<|wpAny_callSpecialIfBoundUnlessNone?_slot hT Ā<|ĭ Ā hT PySem.F.entry_tuple_hash ?_<|PySem.F.args_tuple_hash_1 _;show ĕ _ _ (μ (.ref a) >>= _) _ _ s;refine qa<|a2U ho hd ?_;refine qa ?_;rw[<-a2f];refine Ζ _
  (λrest (b:Array Int) s'=>∃done left,ks=done++left/\bj I s.heap left rest/\b.toList=done.map I.hash/\s'={s with toks:=s.toks+(done.map I.draws).sum})
  _ ?_ ?_ _ _ ⟨[],ks,rfl,hi,rfl,rfl⟩
 .rintro x rest b s' ⟨done,left,rfl,hl,hb,rfl⟩
  cases hl with
  | @cons k _ nP _ h1 Ez=>
   refine qa (I.pyHash (s:={s with toks:=s.toks+(done.map I.draws).sum}) (by show A.units+1+I.jb < _;omega) h1 ?_)
   first
    |exact qb ⟨done++[k],nP,by simp,Ez,by simp[hb],by simp[Ŧ]⟩
    |exact qa<|qb<|qb ⟨done++[k],nP,by simp,Ez,by simp[hb],by simp[Ŧ]⟩
 .rintro b s' ⟨done,left,rfl,hl,hb,rfl⟩
  cases hl;rw[ŕ]at h;show ĕ _ _ (retInt<|ŉ b.toList) _ _ _;rw[hb];refine wpAny_ret_mkInt ?_;show ĕ _ _ (if(decide (-(2:Int)^63<=ŉ (done.map I.hash)) && decide (ŉ (done.map I.hash) < 2^63))=ż then _ else _) Q E _;unfold CK a4A at h;unfold Dl at h
  by_cases hr:(decide (-(2:Int)^63<=ŉ (done.map I.hash)) && decide (ŉ (done.map I.hash) < 2^63))=ż
  .rw[a6P hr]
   rw[a6P hr]at h;exact qb (by simpa [Ŧ] using h)
  .rw[a6Q hr]
   rw[a6Q hr]at h;exact qa<|ų<|qb (by simpa [Ŧ] using h)
def zmL{x y:Qa J}{a b:Qg}{P:Fin->Qd->Prop}(hu:A.units+I.jb < Θ)(hx:iJ I s.heap x a)(hy:iJ I s.heap y b)(h:P (.done<|.ret<|.bool<|decide<|x=y) s):
  ĕ (Ę prog w) A (Builtin.«tuple.__eq__» ⟨[.ref a,.ref b],[]⟩) P E s:=by
 have hTb:=hy.typeIs;have(oa,xs,na,pH,_,rC,hia):=hx;have(ob,ys,nb,rq,_,cN,hib):=hy;show ĕ _ _ (a2V (.ref b) (.type "tuple") >>= _) _ _ s;refine qa<|ϋ hTb a6f ?_;simp only[ś,ĥ,if_false];refine qa<|a2U pH rC ?_;refine qa<|a2U rq cN ?_;refine qa ?_;refine Ζ _
  (λrest r s'=>r.1=Ž/\s'=s/\∃x' y' mV iV,rest=List.zip mV iV/\bj I s.heap x' mV/\bj I s.heap y' iV/\decide (x'=y')=decide (x=y)/\(mV.length==iV.length)=(xs.size==ys.size))
  _ ?_ ?_ _ _ ⟨rfl,rfl,x,y,xs.toList,ys.toList,rfl,hia,hib,rfl,by simp⟩
 .rintro⟨u,v⟩ rest r s' ⟨hr,rfl,x',y',mV,iV,hz,jv,Er,rB,hlen⟩
  cases jv with
  |nil=>simp at hz
  | @cons k1 u' SW IS h1 JK=>
   cases Er with
   |nil=>simp at hz
   | @cons k2 v' SR IP h2 JJ=>
    simp only[a0u,Ϸ,Ų]at hz;obtain⟨⟨rfl,rfl⟩,rfl⟩:=hz;refine qa<|I.eqBool (x:=k1) (y:=k2) hu h1 h2 ?_
    by_cases hk:k1=k2
    .subst hk
     rw[a6R rfl];simp only[ś,ĥ,if_false];refine qb ⟨rfl,rfl,SW,SR,IS,IP,rfl,JK,JJ,?_,by simpa using hlen⟩;rw[<-rB]
     by_cases Tq:SW=SR
     .simp[Tq]
     .simp[Tq]
    .rw[a6S hk]
     simp only[ϛ,if_true];have hf:decide (x=y)=Ż:=by rw[<-rB];simp[hk]
     rw[hf]at h;exact qa<|qb<|qb<|qb h
 .rintro⟨r1,r2⟩ s' ⟨hr,rfl,x',y',mV,iV,hz,jv,Er,rB,hlen⟩
  simp only at hr;subst hr;refine qb ?_;have J3:(xs.size==ys.size)=decide (x=y):=by
   rw[<-rB,<-hlen];cases jv with
   |nil=>
    cases Er with
    |nil=>simp
    |cons _ _=>simp
   |cons _ _=>
    cases Er with
    |nil=>simp
    |cons _ _=>simp at hz
  show P (.done<|.ret<|.bool<|xs.size==ys.size) s';rw[J3];exact h
def LI{x y:Qa J}{a b:Qg}{Q:Bool->Qd->Prop}(hu:A.units+(I.jb+1) < Θ)(hx:iJ I s.heap x a)(hy:iJ I s.heap y b)(h:Q (decide<|x=y) s):
  ĕ (Ę prog w) A (eqBool (.ref a)<|.ref b) Q E s:=by
 unfold eqBool
 try with_reducible refine Ō ?_
 show ĕ _ _ (if(Ĝ a==Ĝ b)=ż then _ else _) Q E s
 by_cases A2:(Ĝ a==Ĝ b)=ż
 .rw[a6P A2]
  have e:a=b:=by have:=eq_of_beq A2;injection this
  subst e;obtain rfl:=hx.inj hy;exact qa<|ų<|qb (by simpa using h)
 .rw[a6Q A2]
  exact qa (a0H (op:=.Eq) hx.typeIs hy.typeIs a3Y
   (ĭ a3Y hx.typeIs PySem.F.entry_tuple_eq (zmL (by show A.units+1+I.jb < _;omega) hx hy ⟨_,rfl,(λe=>nomatch e),ĺ h⟩)<|PySem.F.args_tuple_eq_2 _ _) (by omega))
def Pt{ks:Qa J}{a:Qg}{Q:Bool->Qd->Prop}(n:Nat)(hn:I.jb+1<=n)(hk:iJ I s.heap ks a)(h:Q ż s):ĕ (Ę prog w) A (eqIsQuiet n<|.ref a) Q E s:=by
 have hT:=hk.typeIs;obtain⟨m,rfl⟩:∃m,n=m+1:=⟨n - 1,by omega⟩;have(o,items,n',ho,_,hd,hi):=hk;unfold eqIsQuiet;refine qa<|Φ hT PySem.F.slot_tuple_eq.lookup ?_;show ĕ _ _ (a2V (.ref a) (.type "tuple") >>= _) _ _ s;refine qa<|ϋ hT a6f ?_;simp only[ś,ĥ,if_false];refine qa<|Ϡ ho hd ?_;refine qa ?_;show ĕ _ _ (forIn items _ _) _ _ s;rw[<-a2f];refine Ζ _ (λrest r s'=>r.1=Ž/\s'=s/\∃nP,bj I s.heap nP rest) _ ?_ ?_ _ _ ⟨rfl,rfl,ks,hi⟩
 .rintro v rest r s' ⟨hr,rfl,nP,uX⟩
  cases uX with
  |cons h1 t1=>
   refine qa<|I.quiet m (by omega) h1 ?_;simp only[ś,ĥ,if_false];exact qb ⟨rfl,rfl,_,t1⟩
 .rintro⟨r1,r2⟩ s' ⟨hr,rfl,_⟩
  simp only at hr;subst hr;exact qb h
end
def ikK(prog:Qe)(w:Qh):IK prog w Key where
 is:=λ_ k v=>(zI prog w).is k v=ż
 hash:=(zI prog w).hash
 draws:=λ_=>1
 jb:=0
 inj:=λhx hy=>(zI prog w).inj _ _ _ hx hy
 keeps:=λx _ _ _=>x
 pyHash:=λ_ hk h=>(zI prog w).pyHash hk h
 eqBool:=λ_ hx hy h=>(zI prog w).eqBool hx hy h
 quiet:=λn _ hk h=>by rw[eqIsQuiet_byValue n<|(zI prog w).byValue _ _ hk];exact qb h
def JF{prog:Qe}{w:Qh}{J:Type}[DecidableEq J](I:IK prog w J):IK prog w (Key ⊕ Qa J) where
 is:=λh x v=>match x with
  |.inl k=>(zI prog w).is k v=ż
  |.inr ks=>∃a,v=.ref a/\iJ I h ks a
 hash:=λx=>match x with
  |.inl k=>(zI prog w).hash k
  |.inr ks=>CK I ks
 draws:=λx=>match x with
  |.inl _=>1
  |.inr ks=>Dl I ks
 jb:=I.jb+1
 inj:=λ{h v x y} hx hy=>by
  cases x with
  |inl k=>
   cases y with
   |inl k'=>exact congrArg a0c<|(zI prog w).inj _ _ _ hx hy
   |inr ks=>
    have(a,rfl,_):=hy;rcases k8 hx with⟨i,t,_,e⟩|⟨z,t,_,e⟩<;>cases e
  |inr ks=>
   have(a,rfl,hx):=hx;cases y with
   |inl k'=>rcases k8 hy with⟨i,t,_,e⟩|⟨z,t,_,e⟩<;>cases e
   |inr nP=>
    have(b,e,hy):=hy;cases e;exact congrArg a0Q (hx.inj hy)
 keeps:=λ{h h' k v d o es ep} x ho hd hs=>by
  cases k with
  |inl k=>exact x
  |inr ks=>
   have(a,e,x):=x;exact⟨a,e,x.keeps ho hd hs⟩
 pyHash:=λ{A E s k v Q} hu hk h=>by
  cases k with
  |inl k=>exact(zI prog w).pyHash hk h
  |inr ks=>
   have(a,rfl,x):=hk;exact Ob hu x h
 eqBool:=λ{A E s x y u v Q} hu hx hy h=>by
  cases x with
  |inl k=>
   cases y with
   |inl k'=>exact(zI prog w).eqBool hx hy (by simpa using h)
   |inr ks=>
    have(b,rfl,hy):=hy;have(ai,ht):=hy.tup;have h':Q Ż s:=by simpa using h
    rcases k8 hx with⟨i,t,rfl,rfl⟩|⟨z,t,rfl,rfl⟩
    .exact SeqAt.EqAt.int_tuple i t ht (by omega) _ _ _ _ h'
    .exact SeqAt.EqAt.str_tuple z t ht (by omega) _ _ _ _ h'
  |inr ks=>
   have(a,rfl,hx):=hx;have(ai,ht):=hx.tup;cases y with
   |inl k'=>
    have h':Q Ż s:=by simpa using h
    rcases k8 hy with⟨i,t,rfl,rfl⟩|⟨z,t,rfl,rfl⟩
    .exact SeqAt.EqAt.tuple_int i t ht (by omega) _ _ _ _ h'
    .exact SeqAt.EqAt.tuple_str z t ht (by omega) _ _ _ _ h'
   |inr nP=>
    have(b,rfl,hy):=hy;exact LI hu hx hy (by simpa using h)
 quiet:=λ{A E s k v Q} n hn hk h=>by
  cases k with
  |inl k=>rw[eqIsQuiet_byValue n<|(zI prog w).byValue _ _ hk];exact qb h
  |inr ks=>
   have(a,rfl,x):=hk;exact Pt n hn x h
def Wm{prog:Qe}{w:Qh}{J:Type}[DecidableEq J](I:IK prog w J)(hI:I.jb<=7):HeapKind prog w (Qa J) where
 is:=iJ I
 hash:=CK I
 draws:=Dl I
 room:=λA=>A.units+(I.jb+1) < Θ
 inj:=λhx hy=>hx.inj hy
 keeps:=λx ho hd hs=>x.keeps ho hd hs
 pyHash:=λhu hk h=>Ob hu hk h
 eqBool:=λhu hx hy h=>LI hu hx hy h
 quiet:=λhk h=>Pt 8 (by omega) hk h
abbrev K1:=Key ⊕ Qa Key
instance dK1:DecidableEq K1:=instDecidableEqSum
abbrev K2:=Key ⊕ Qa K1
instance dK2:DecidableEq K2:=instDecidableEqSum
abbrev K3:=Key ⊕ Qa K2
instance dK3:DecidableEq K3:=instDecidableEqSum
instance dL3:DecidableEq (Qa K3):=instDecidableEqList
def zBx(prog:Qe)(w:Qh):HeapKind prog w (Qa K3):=Wm (JF<|JF<|JF<|ikK prog w) (by show 3<=7;decide)
inductive HO where
 |lst (xs:Qa V)
 |tup (xs:Qa V)
 |dK (kvs:Qa (Key×V)) |dT (kvs:Qa (Qa Key×V))
 |set (S:Int->Bool) (n:Nat)
 |ins (C dx:Qg) (fs:Qa (Str×V))
 |own (x:Qg)
 |xd (fs:Qa (Str×V))
 |met (f x:Qg)
 |Ja (lo hi:Int)
 |aZ (o:Obj) (u:HO)
 |uj (ps:Array Qc)
 |ext (φ:ĵ->Prop)
 |sub (b:Qg) (p u:HO)
 |dX (kvs:Qa (Qa K3×V))
noncomputable def HO.flat:HO->Bool
 |.lst _=>ż
 |.dK _=>ż
 |.dT _=>ż
 |.dX _=>ż
 |_=>Ż
abbrev Hp:=Qg->Qb HO
noncomputable def upd(H:Hp)(a:Qg)(o:HO):Hp:=λb=>if b=a then ž o else H b
def zz{H:Hp}{a:Qg}{o:HO}:upd H a o a=ž o:=by unfold upd;rw[a6P rfl]
def zw{H:Hp}{a b:Qg}{o:HO}(h:b≠a):upd H a o b=H b:=by unfold upd;rw[a6Q h]
def Zl{H:Hp}{a:Qg}{o u:HO}:upd (upd H a o) a u=upd H a u:=by
 funext b;unfold upd;split<;>rfl
def yi{H:Hp}{a b:Qg}{o u:HO}(h:H a=ž o)(h':H b=ž u)(d:o≠u):a≠b:=by
 intro e;subst e;rw[h]at h';exact d<|qw h'
def jr{H:Hp}{a b:Qg}{o:HO}(h:H a=ž o)(h':H b=Ž):a≠b:=by
 intro e;subst e;rw[h]at h';cases h'
def zDo(K:qc)(a:Qg)(xs:Qa V):Prop:=∃(o:Obj) (ai:Array Qc) (n:Nat),K.lookup a=ž o/\o.cls=.type "tuple"/\o.data=.seq ai n/\ai.size<=Ĕ/\zQ xs ai.toList/\∃i r,xs=.int i::r
def be(K:qc)(H:Hp)(a:Qg)(xs:Qa V):Prop:=H a=ž (.tup xs)\/zDo K a xs
def be.keeps{K:qc}{H H':Hp}{a:Qg}{xs:Qa V}(h:be K H a xs)(ht:∀b ys,H b=ž (.tup ys)->H' b=ž (.tup ys)):be K H' a xs:=h.imp (ht _ _) id
def oV(h:ĵ)(a:Qg)(items:Array Qc):Prop:=∃o,h.get? a=ž o/\o.cls=.type "tuple"/\(∃n,o.data=.seq items n)/\(o.dict=Ž\/∃i t r,items.toList=.int i t::r)
def oV.tup{h:ĵ}{a:Qg}{items:Array Qc}(x:oV h a items):a2R h a items:=let ⟨o,e,c,d,_⟩:=x;⟨o,e,c,d⟩
def oV.lt{h:ĵ}{a:Qg}{items:Array Qc}(x:oV h a items):a < h.objs.size:=x.tup.lt
def oV.new(h:ĵ)(items:Array Qc):oV (h.push {cls:=.type "tuple",data:=.seq items}) h.objs.size items:=⟨_,qg _ rfl,rfl,⟨_,rfl⟩,.inl rfl⟩
def N0(K:qc)(H:Hp)(ks:Qa Key)(a:Qg):Prop:=be K H a (ks.map kV)
def NI{J:Type}(P:Qa J->Qg->Prop)(x:Key ⊕ Qa J)(v:V):Prop:=match x with
 |.inl k=>v=kV k
 |.inr ks=>∃b,v=.ref b/\P ks b
def rL{J:Type}(K:qc)(H:Hp)(P:Qa J->Qg->Prop)(xs:Qa (Key ⊕ Qa J))(a:Qg):Prop:=∃vs,be K H a vs/\Γ (NI P) xs vs
def N3(K:qc)(H:Hp):Qa K3->Qg->Prop:=rL K H (rL K H<|rL K H<|N0 K H)
def Zk{α β:Type}{F G:α->β->Prop}{l₁:Qa α}{l₂:Qa β}(h:Γ F l₁ l₂)(f:∀a b,F a b->G a b):Γ G l₁ l₂:=by
 induction h with
 |nil=>exact .nil
 |cons r _ ih=>exact .cons (f _ _ r) ih
def rL.keeps{J:Type}{K:qc}{H H':Hp}{P P':Qa J->Qg->Prop}{xs:Qa (Key ⊕ Qa J)}{a:Qg}(h:rL K H P xs a)(ht:∀b ys,H b=ž (.tup ys)->H' b=ž (.tup ys))(hp:∀ks b,P ks b->P' ks b):rL K H' P' xs a:=by
 have(vs,h1,h2):=h;refine⟨vs,h1.keeps ht,Zk h2 λx v z=>?_⟩;cases x with
 |inl k=>exact z
 |inr ks=>have(b,e,z):=z;exact⟨b,e,hp _ _ z⟩
def N3.keeps{K:qc}{H H':Hp}{xs:Qa K3}{a:Qg}(h:N3 K H xs a)(ht:∀b ys,H b=ž (.tup ys)->H' b=ž (.tup ys)):N3 K H' xs a :=
 rL.keeps h ht λ_ _ h=>rL.keeps h ht λ_ _ h=>rL.keeps h ht λ_ _ h=>be.keeps h ht
section
variable(P:Qe)(w:Qh)(K:qc)
def bX(H:Hp)(h:ĵ)(a:Qg):HO->Prop
 |.lst xs=>xs.length<=Ĕ/\∃(ai:Qa Qc) (n:Nat),zQ xs ai/\h.get? a=ž {cls:=.type "list",data:=.seq ai.toArray n}
 |.tup xs=>xs.length<=Ĕ/\∃ai:Qa Qc,zQ xs ai/\oV h a ai.toArray
 |.dK kvs=>kvs.length<=Ĕ/\(a==Ň)=Ż/\∃vs,KV kvs vs/\h.DictOf (zI P w) a vs
 |.dT kvs=>kvs.length<=Ĕ/\(a==Ň)=Ż/\∃xs:Qa (Qa Key×Qg×Qc),
   Γ (λ(p:Qa Key×V) (q:Qa Key×Qg×Qc)=>p.1=q.1/\be K H q.2.1 (p.1.map kV)/\zU p.2 q.2.2) kvs xs/\
   ∃o es ep,h.get? a=ž o/\o.ExactDict/\o.data=.dict es ep/\es.toList=xs.map (a0h<|ϰ<|zI P w)/\(xs.map (·.1)).Nodup
 |.dX kvs=>kvs.length<=Ĕ/\(a==Ň)=Ż/\∃xs:Qa (Qa K3×Qg×Qc),
   Γ (λ(p:Qa K3×V) (q:Qa K3×Qg×Qc)=>p.1=q.1/\N3 K H p.1 q.2.1/\zU p.2 q.2.2) kvs xs/\
   ∃o es ep,h.get? a=ž o/\o.ExactDict/\o.data=.dict es ep/\es.toList=xs.map (a0h<|zBx P w)/\(xs.map (·.1)).Nodup
 |.set S n=>h.SetOf (intKind P w) a S n
 |.ins C dx fs=>H dx=ž (.own a)/\fs.length<=1000/\dx≠a/\h.get? a=ž (a2D C dx)/\
   ∃mA,h.Ns1 dx mA/\(∀f,jW (fs.lookup f)<|mA f)/\PySem.Within mA (fs.map (·.1))
 |.own _=>∃o,h.get? a=ž o
 |.xd fs=>∃mA,h.Ns1 a mA/\∀f,jW (fs.lookup f)<|mA f
 |.Ja lo hi=>∃t u v,h.get? a=ž {cls:=.type "range",data:=.fields #[.int lo t,.int hi u,.int 1 v]}
 |.aZ o u=>h.get? a=ž o/\bX H h a u
 |.uj ps=>h.get? a=ž {cls:=.none,data:=.fields ps}
 |.met f x=>h.get? a=ž (a2b (.ref f)<|.ref x)
 |.ext φ=>φ h/\(∃o,h.get? a=ž o)/\∀h1 h2:ĵ,φ h1->(∀o,h1.get? a=ž o->h2.get? a=ž o)->φ h2
 |.sub b p u=>bX H h a u/\H b=ž (.own a)/\b≠a/\p.flat=ż/\bX H h b p
def cP(H:Hp)(h:ĵ):Prop:=∀a o,H a=ž o->bX P w K H h a o
end
section
variable{P:Qe}{w:Qh}{K:qc}{H H':Hp}{h h':ĵ}{a:Qg}{o:HO}
def bX.lt(x:bX P w K H h a o):a < h.objs.size:=by
 induction o with
 |sub b p u _ ih=>exact ih x.1
 |lst xs=>have(_,_,_,_,e):=x;exact qh e
 |tup xs=>have(_,_,_,p):=x;exact p.lt
 |dK kvs=>have(_,_,_,_,o,_,_,e,_):=x;exact qh e
 |dT kvs=>have(_,_,_,_,o,_,_,e,_):=x;exact qh e
 |dX kvs=>have(_,_,_,_,o,_,_,e,_):=x;exact qh e
 |set S n=>have(o,_,_,_,e,_):=x;exact qh e
 |ins C dx fs=>have(_,_,_,e,_):=x;exact qh e
 |own y=>have(_,e):=x;exact qh e
 |xd fs=>obtain⟨_,⟨_,_,_,e,_⟩,_⟩:=x;exact qh e
 |Ja lo hi=>have(_,_,_,e):=x;exact qh e
 |aZ ob u _=>have(e,_):=x;exact qh e
 |uj ps=>exact qh (show h.get? a=ž _ from x)
 |met f y=>exact qh (show h.get? a=ž _ from x)
 |ext φ=>obtain⟨_,⟨_,e⟩,_⟩:=x;exact qh e
def Paired.jL{α β:Type}{F G:α->β->Prop}:∀{l₁:Qa α} {l₂:Qa β},Γ F l₁ l₂->(∀a b,F a b->G a b)->Γ G l₁ l₂
 |_,_,.nil,_=>.nil
 |_,_,.cons r t,f=>.cons (f _ _ r)<|Paired.jL t f
def bX.Am(x:bX P w K H h a o)(f:o.flat=ż)(k:∀u,h.get? a=ž u->h'.get? a=ž u)(ht:∀b xs,H b=ž (.tup xs)->H' b=ž (.tup xs)):bX P w K H' h' a o:=by
 cases o with
 |lst xs=>have(z,ai,n,r,e):=x;exact⟨z,ai,n,r,k _ e⟩
 |dK kvs=>have(z,y,vs,r,ob,es,ep,e,c):=x;exact⟨z,y,vs,r,ob,es,ep,k _ e,c⟩
 |dT kvs=>
  have(z,y,xs,r,ob,es,ep,e,c):=x;exact⟨z,y,xs,Paired.jL r λp q z=>⟨z.1,z.2.1.keeps ht,z.2.2⟩,ob,es,ep,k _ e,c⟩
 |dX kvs=>
  have(z,y,xs,r,ob,es,ep,e,c):=x;exact⟨z,y,xs,Paired.jL r λp q z=>⟨z.1,z.2.1.keeps ht,z.2.2⟩,ob,es,ep,k _ e,c⟩
 |_=>cases f
def bX.eV(x:bX P w K H h a o)(k:∀b u,(b=a\/H b=ž (.own a))->h.get? b=ž u->h'.get? b=ž u)
  (ho:∀b,H b=ž (.own a)->H' b=ž (.own a)) (ht:∀b xs,H b=ž (.tup xs)->H' b=ž (.tup xs)):bX P w K H' h' a o:=by
 induction o with
 |lst xs=>have(z,ai,n,r,e):=x;exact⟨z,ai,n,r,k _ _ (.inl rfl) e⟩
 |tup xs=>have(z,ai,r,ob,e,c):=x;exact⟨z,ai,r,ob,k _ _ (.inl rfl) e,c⟩
 |dK kvs=>have(z,y,vs,r,ob,es,ep,e,c):=x;exact⟨z,y,vs,r,ob,es,ep,k _ _ (.inl rfl) e,c⟩
 |dT kvs=>
  have(z,y,xs,r,ob,es,ep,e,c):=x;exact⟨z,y,xs,Paired.jL r λp q z=>⟨z.1,z.2.1.keeps ht,z.2.2⟩,ob,es,ep,k _ _ (.inl rfl) e,c⟩
 |dX kvs=>
  have(z,y,xs,r,ob,es,ep,e,c):=x;exact⟨z,y,xs,Paired.jL r λp q z=>⟨z.1,z.2.1.keeps ht,z.2.2⟩,ob,es,ep,k _ _ (.inl rfl) e,c⟩
 |set S n=>have(ob,es,ep,t,e,c):=x;exact⟨ob,es,ep,t,k _ _ (.inl rfl) e,c⟩
 |ins C dx fs=>
  obtain⟨d,z,ne,e,mA,⟨od,es,ep,e2,c⟩,r⟩:=x;exact⟨ho _ d,z,ne,k _ _ (.inl rfl) e,mA,⟨od,es,ep,k _ _ (.inr d) e2,c⟩,r⟩
 |own y=>have(ob,e):=x;exact⟨ob,k _ _ (.inl rfl) e⟩
 |xd fs=>obtain⟨mA,⟨od,es,ep,e,c⟩,r⟩:=x;exact⟨mA,⟨od,es,ep,k _ _ (.inl rfl) e,c⟩,r⟩
 |Ja lo hi=>have(t,u,v,e):=x;exact⟨t,u,v,k _ _ (.inl rfl) e⟩
 |aZ ob u ih=>have(e,q):=x;exact⟨k _ _ (.inl rfl) e,ih q⟩
 |uj ps=>
  have e:h.get? a=ž {cls:=.none,data:=.fields ps}:=x;show h'.get? a=ž {cls:=.none,data:=.fields ps};exact k a _ (.inl rfl) e
 |met f y=>
  have e:h.get? a=ž (a2b (.ref f)<|.ref y):=x;show h'.get? a=ž (a2b (.ref f)<|.ref y);exact k a _ (.inl rfl) e
 |ext φ=>obtain⟨p,⟨o,e⟩,st⟩:=x;exact⟨st _ _ p λo q=>k _ _ (.inl rfl) q,⟨o,k _ _ (.inl rfl) e⟩,st⟩
 |sub b p u _ ih=>have(y,e,n,f,q):=x;exact⟨ih y,ho _ e,n,f,q.Am f (λu z=>k _ _ (.inr e) z) ht⟩
def cP.lt(x:cP P w K H h)(e:H a=ž o):a < h.objs.size:=(x a o e).lt
def cP.fresh(x:cP P w K H h)(e:h.objs.size<=a):H a=Ž:=by
 cases q:H a with
 |none=>rfl
 |some u=>exact absurd (qi (x.lt q) e)<|Ð _
def cP.kept(x:cP P w K H h)(k:∀b u,h.get? b=ž u->h'.get? b=ž u):cP P w K H h':=λa o e=>
 (x a o e).eV (λb u _ q=>k b u q) (λ_ q=>q) λ_ _ q=>q
def cP.laid(x:cP P w K H h)(k:∀b u,h.get? b=ž u->h'.get? b=ž u)(hp:h.objs.size<=a)(new:bX P w K (upd H a o) h' a o):cP P w K (upd H a o) h':=λb u e=>by
 have hn:=x.fresh hp
 by_cases hb:b=a
 .subst hb;rw[zz]at e;cases e;exact new
 .rw[zw hb]at e
  exact(x b u e).eV (λc v _ q=>k c v q) (λc q=>by rw[zw<|jr q hn];exact q) λc xs q=>by rw[zw<|jr q hn];exact q
end
def Rd(H:Hp)(a:Qg)(u:HO):Prop:=H a=ž u\/∃o,H a=ž (.aZ o u)
def Rd.ok{P:Qe}{w:Qh}{K:qc}{H:Hp}{h:ĵ}{a:Qg}{u:HO}(r:Rd H a u)(x:cP P w K H h):bX P w K H h a u:=by
 rcases r with r|⟨o,r⟩
 .exact x a u r
 .have(_,q):=x a _ r
  exact q
def Bm:Qb HO->Prop
 |some (.lst _)=>True
 |some (.dK _)=>True
 |some (.dT _)=>True
 |some (.set _ _)=>True
 |some (.ins _ _ _)=>True
 |some (.ext _)=>True
 |some (.sub _ _ _)=>True
 |some (.dX _)=>True
 |_=>False
section
variable{P:Qe}{w:Qh}{K:qc}{H:Hp}{h h':ĵ}{x e:Qg}{o':HO}
def cP.write(ok:cP P w K H h)(mu:Bm (H x))(he:e=x\/H e=ž (.own x))(k:∀b u,b≠e->h.get? b=ž u->h'.get? b=ž u)(xl:∃u,h'.get? e=ž u)
  (new:bX P w K (upd H x o') h' x o'):cP P w K (upd H x o') h':=λb u q=>by
 have Aq:∀c y,H c=ž (.own y)->c≠x:=λc y r z=>by subst z;rw[r]at mu;exact mu
 have Jl:∀c xs,H c=ž (.tup xs)->c≠x:=λc xs r z=>by subst z;rw[r]at mu;exact mu
 by_cases hb:b=x
 .subst hb;rw[zz]at q;cases q;exact new
 .rw[zw hb]at q
  by_cases uV:b=e
  .have q':H b=ž (.own x):=by
    rcases he with z|z
    .exact absurd (uV.trans z) hb
    .rw[uV];exact z
   rw[q]at q';cases q';have(v,hv):=xl;exact⟨v,by rw[uV];exact hv⟩
  .refine(ok b u q).eV (λc v hc r=>k c v ?_ r) (λc r=>by rw[zw<|Aq c b r];exact r) λc xs r=>by rw[zw<|Jl c xs r];exact r
   rcases hc with rfl|hc
   .exact uV
   .rintro rfl
    rcases he with z|z
    .exact Aq c b hc z
    .rw[hc]at z;cases z;exact hb rfl
end
structure Un (fs ex:Qa Qg) (H H':Hp) (h h':ĵ):Prop where
 keep:∀b o,h.get? b=ž o->H b=Ž->b∉fs->b∉ex->h'.get? b=ž o
 slot:∀b o,h.get? b=ž o->H b=Ž->b∈fs->b∉ex->∃sl,h'.get? b=ž {o with slots:=sl}
 free:∀b o,h.get? b=ž o->H b=Ž->b∉ex->H' b=Ž
 there:∀b o,h.get? b=ž o->b∉ex->∃o',h'.get? b=ž o'
 eU:∀b xs,H b=ž (.tup xs)->H' b=ž (.tup xs)
 eh:∀b o u,H b=ž (.aZ o u)->H' b=ž (.aZ o u)
 fN:∀b ps,H b=ž (.uj ps)->∃more,H' b=ž (.uj<|ps++more)
section
variable{fs fs' ex ex':Qa Qg}{H H1 H2:Hp}{h h1 h2 h':ĵ}{a x e:Qg}{o:HO}
def Un.any(u:Un fs ex H H1 h h1){b:Qg}{ob:Obj}(q:h.get? b=ž ob)(n:H b=Ž)(hx:b∉ex):∃sl,h1.get? b=ž {ob with slots:=sl}:=by
 by_cases hb:b∈fs
 .exact u.slot b ob q n hb hx
 .exact⟨ob.slots,u.keep b ob q n hb hx⟩
def Un.kept(k:∀b u,h.get? b=ž u->h'.get? b=ž u):Un fs ex H H h h' :=
 ⟨λb ob q _ _ _=>k b ob q,λb ob q _ _ _=>⟨ob.slots,k b ob q⟩,λ_ _ _ n _=>n,λb ob q _=>⟨ob,k b ob q⟩,λ_ _ q=>q,λ_ _ _ q=>q,λ_ ps q=>⟨#[],by rw[q];simp⟩⟩
def Un.refl:Un fs ex H H h h:=Un.kept λ_ _ q=>q
def Un.laid(k:∀b u,h.get? b=ž u->h'.get? b=ž u)(hp:h.objs.size<=a)(hn:H a=Ž):Un fs ex H (upd H a o) h h' where
 keep:=λb u q _ _ _=>k b u q
 slot:=λb u q _ _ _=>⟨u.slots,k b u q⟩
 free:=λb u q n _=>by rw[zw<|qj<|qi (qh q) hp];exact n
 there:=λb u q _=>⟨u,k b u q⟩
 eU:=λb xs q=>by rw[zw<|jr q hn];exact q
 eh:=λb u xs q=>by rw[zw<|jr q hn];exact q
 fN:=λb ps q=>⟨#[],by rw[zw<|jr q hn,q];simp⟩
def Un.write(mu:Bm (H x))(he:e=x\/H e=ž (.own x))(k:∀b u,b≠e->h.get? b=ž u->h'.get? b=ž u)(xl:∃u,h'.get? e=ž u):Un fs ex H (upd H x o) h h':=by
 have hx:∀b,H b=Ž->b≠x:=λb n z=>by subst z;rw[n]at mu;exact mu
 have hb:∀b,H b=Ž->b≠e:=λb n z=>by
  subst z;rcases he with r|r
  .exact hx b n r
  .rw[n]at r;cases r
 have hm:∀b u,H b=ž u->¬Bm (ž u)->b≠x:=λb u q nm z=>by subst z;rw[q]at mu;exact nm mu
 refine⟨λb u q n _ _=>k b u (hb b n) q,λb u q n _ _=>⟨u.slots,k b u (hb b n) q⟩,λb u q n _=>by rw[zw<|hx b n];exact n,λb u q _=>?_,
  λb xs q=>by rw[zw<|hm b _ q λz=>z];exact q,λb u xs q=>by rw[zw<|hm b _ q λz=>z];exact q,λb ps q=>⟨#[],by rw[zw<|hm b _ q λz=>z,q];simp⟩⟩
 by_cases uV:b=e
 .subst uV;exact xl
 .exact⟨u,k b u uV q⟩
end
noncomputable def ui(h:ĵ)(H:Hp):Qa Qg:=(ħ h.objs.size).filter λa=>(H a).isSome
def pZ(h:ĵ)(H:Hp):ĵ:=PySem.W.hideAll h (ui h H)
def zp0(h:ĵ)(H:Hp):(pZ h H).objs.size=h.objs.size:=PySem.W.hideAll_size _ _
def zra{h:ĵ}{H:Hp}{b:Qg}{o:Obj}(e:h.get? b=ž o)(n:H b=Ž):(pZ h H).get? b=ž o :=
 PySem.W.hideAll_get _ e λhm=>by
  have q:(H b).isSome=ż:=(é.mp hm).2;rw[n]at q;simp at q
def Zj{h:ĵ}{H:Hp}{b:Qg}{o:Obj}(e:(pZ h H).get? b=ž o):h.get? b=ž o/\H b=Ž:=by
 have e':h.get? b=ž o:=PySem.W.of_hideAll (ui h H) e;refine⟨e',?_⟩;cases q:H b with
 |none=>rfl
 |some x=>
  have hm:b∈ui h H:=é.mpr ⟨Í.mpr<|qh e',by simp[q]⟩;have z:(pZ h H).get? b=Ž:=PySem.W.hideAll_none (ui h H) hm;rw[z]at e;cases e
noncomputable def Zi(g h:ĵ)(L:Qg):Qa (Qg×Obj):=(ħ h.objs.size).filterMap λa=>if a=L\/(g.get? a).isSome=ż then Ž else(h.get? a).map λo=>(a,o)
def rest(g h:ĵ)(L d:Qg):Qa (Qg×Obj):=(Zi g h L).filter λp=>decide<|p.1≠d
structure Mod (K:qc) (mg:Str->Qb Qc) (base:ĵ):Prop where
 ku:K.In base
 glob:base.Ns Ģ mg
 blt:∃mb,base.Ns builtinsNs mb/\∀x:Str,x ≠ "__name__"->mb x=Ź x
 nolimit:base.NoLimit
structure Cx where
 prog:Qe
 w:Qh
 K:qc
 mg:Str->Qb Qc
 base:ĵ
 A:Qf
 N:Qa Str
 bC:Qd
 aA:Hp
 env:Env
 outer:Qa Env
 stack:Qa Env
 ex:Qa Qg
 fn:Str->Bool
 calm:Bool
 pn:Qa (Qg×Obj)
 xe:Qc->Qd->Prop
noncomputable def ja(l:Qa Env):Qa Qg:=l.filterMap (·.frame)
abbrev Cx.fs(X:Cx):Qa Qg:=ja X.outer
def Bi(sc:a3o)(x:Str):Prop:=sc.names.lookup x=ž .local\/sc.names.lookup x=ž .cell\/sc.names.lookup x=ž .free
def Loc(sc:a3o)(x:Str):Prop:=sc.names.lookup x=ž .local\/sc.names.lookup x=ž .cell
def zDp(env:Env)(h:ĵ)(m:Str->Qb Qc)(x:Str)(u:Qc):Prop :=
 (env.kindOf x=ž .local/\m x=ž u)\/((env.kindOf x=ž .cell\/env.kindOf x=ž .free)/\∃c,env.cells.lookup x=ž c/\h.IsCell c (ž u))
structure Cx.Ok (X:Cx):Prop where
 mod:Mod X.K X.mg X.base
 kind:X.env.scope.kind=.function
 glob:X.env.globals=Ģ
 blt:X.env.builtins=builtinsNs
 above:X.bC.heap.objs.size<=X.env.locals
 inj:∀x y c,X.env.cells.lookup x=ž c->X.env.cells.lookup y=ž c->x=y
 has:∀x,(X.env.kindOf x=ž .cell\/X.env.kindOf x=ž .free)->∃c,X.env.cells.lookup x=ž c
 xx:∀x c,X.fn x=ż->X.env.cells.lookup x=ž c->X.bC.heap.objs.size<=c
 hd:X.calm=ż->X.A.handled=Ž
 frames:X.A.frames=ž X.stack
 Al:X.stack=X.outer\/(X.stack=X.env::X.outer/\X.env.frame=ž X.env.locals)
 EM:∀b∈X.ex,b≠X.env.locals/\∀x c,X.env.cells.lookup x=ž c->c≠b
 bs:∀b o,X.base.get? b=ž o->X.bC.heap.get? b=ž o/\X.aA b=Ž
 pN:X.base.objs.size<=X.bC.heap.objs.size
 lF:∀b o,X.base.get? b=ž o->b∉X.ex
 og:∀b∈X.ex,b∉X.fs
 fj:X.bC.heap.FunFrames X.base X.outer
 tm:∀b∈X.fs,X.aA b=Ž
structure Inv (X:Cx) (pins:Qa (Qg×Obj)) (σ:Qa (Qb V)) (H:Hp) (s:Qd):Prop where
 ok:X.Ok
 os:s.os=X.bC.os
 bare:a1j s.gens
 base:Un X.fs X.ex X.aA H X.bC.heap s.heap
 loc:∃m,s.heap.Ns X.env.locals m/\∀(i:Nat) (x:Str) (v:V),X.N[i]?=ž x->σ[i]?=ž (ž v)->Bi X.env.scope x->∃u,zU v u/\zDp X.env s.heap m x u
 cell:∀x c,X.env.cells.lookup x=ž c->∃v,s.heap.IsCell c v
 free:H X.env.locals=Ž
 b8:∀x c,X.env.cells.lookup x=ž c->H c=Ž
 pin:∀p∈X.pn++pins,s.heap.get? p.1=ž p.2/\H p.1=Ž/\p.1≠X.env.locals/\p.1∉X.fs/\∀v,p.2.data≠.cell v
 aC:cP X.prog X.w X.K H s.heap
 len:σ.length=X.N.length
section
variable{X:Cx}{pins:Qa (Qg×Obj)}{σ:Qa (Qb V)}{H H':Hp}{s:Qd}{h':ĵ}
def Cx.Ok.Jo(ok:X.Ok){b:Qg}{o:Obj}(e:X.base.get? b=ž o):b∉X.fs:=λhb=>by
 have:=(ok.fj.mem hb).1;rw[e]at this;cases this
def Inv.bs(I:Inv X pins σ H s):∀b o,X.base.get? b=ž o->s.heap.get? b=ž o/\H b=Ž:=λb o e=>
 ⟨I.base.keep b o (I.ok.bs b o e).1 (I.ok.bs b o e).2 (I.ok.Jo e)<|I.ok.lF b o e,I.base.free b o (I.ok.bs b o e).1 (I.ok.bs b o e).2<|I.ok.lF b o e⟩
def Inv.bk(I:Inv X pins σ H s):∀b o,X.base.get? b=ž o->s.heap.get? b=ž o:=λb o e=>(I.bs b o e).1
def Inv.mod(I:Inv X pins σ H s):Mod X.K X.mg X.base:=I.ok.mod
def Inv.bO(I:Inv X pins σ H s):X.K.In s.heap:=I.ok.mod.ku.keeps I.bk
def Inv.fr(I:Inv X pins σ H s):∃m,Fr X.base X.env.locals s.heap m :=
 let ⟨m,hn,_⟩:=I.loc
 ⟨m,hn,I.bk,qx I.ok.pN I.ok.above⟩
def Inv.lt(I:Inv X pins σ H s):X.env.locals < s.heap.objs.size:=let ⟨_,hn,_⟩:=I.loc;hn.lt
def Inv.sz(I:Inv X pins σ H s):X.bC.heap.objs.size<=s.heap.objs.size:=qx I.ok.above (Û I.lt)
def Inv.Jn(I:Inv X pins σ H s){a:Qg}(h:s.heap.objs.size<=a):a∉X.fs:=λhb=>by
 have(_,o,ho,_):=I.ok.fj.mem hb;exact absurd (qi (qh ho)<|qx I.sz h)<|Ð _
def Inv.pM(I:Inv X pins σ H s):∀x c,X.env.cells.lookup x=ž c->c≠X.env.locals:=λx c e z=>by
 have(v,o,ho,hd):=I.cell x c e;obtain⟨m,⟨o',es,ep,dF,ig,_⟩,_⟩:=I.loc;rw[z,dF]at ho;cases ho;rw[ig]at hd;cases hd
def Inv.fj(I:Inv X pins σ H s):s.heap.FunFrames X.base X.outer:=by
 have all:∀(l:Qa Env),(∀b∈ja l,b∈X.fs)->X.bC.heap.FunFrames X.base l->s.heap.FunFrames X.base l:=by
  intro l
  induction l with
  |nil=>intro _ _;trivial
  |cons env r ih=>
   intro hs hl;obtain⟨hk,⟨L,o,hf,hn,ho,hd⟩,hr⟩:=hl;have hL:L∈X.fs:=hs L (by unfold ja;rw[a1X,hf];exact qo);have(sl,e):=I.base.slot L o ho (I.ok.tm L hL) hL λz=>I.ok.og L z hL;exact⟨hk,⟨L,_,hf,hn,e,hd⟩,ih (λb hb=>hs b (by unfold ja;rw[a1X,hf];exact qm _ hb)) hr⟩
 exact all X.outer (λ_ hb=>hb) I.ok.fj
def Inv.stack(I:Inv X pins σ H s):s.heap.FunFrames X.base X.stack:=by
 rcases I.ok.Al with e|⟨e,hf⟩
 .rw[e];exact I.fj
 .rw[e]
  have(m,hn,_):=I.loc;refine .cons (by rw[I.ok.kind];decide) hf hn ?_ I.fj;exact Heap.get?_none_of_le<|qx I.ok.pN I.ok.above
def Inv.gv(I:Inv X pins σ H s):∀b∈ja X.stack,b∈X.env.locals::X.fs:=λb hb=>by
 rcases I.ok.Al with e|⟨e,hf⟩
 .rw[e]at hb;exact qm _ hb
 .rw[e]at hb
  unfold ja at hb;rw[a1X,hf]at hb;exact hb
def Inv.fY(I:Inv X pins σ H s):∀b∈ja X.stack,H b=Ž:=λb hb=>by
 rcases qu.mp (I.gv b hb)with e|hb
 .rw[e];exact I.free
 .have(_,o,ho,_):=I.ok.fj.mem hb
  exact I.base.free b o ho (I.ok.tm b hb) λz=>I.ok.og b z hb
def Inv.step{g':Array a1x}{t':Nat}{d':Drawn}{ch:Qa Qg}(I:Inv X pins σ H s)
  (pJ:∀b∈ch,(b∈X.ex\/X.bC.heap.objs.size<=b)/\b≠X.env.locals/\(∀x c,X.env.cells.lookup x=ž c->c≠b)/\∀p∈X.pn++pins,p.1≠b)
  (keep:∀b o,b≠X.env.locals->b∉X.fs->b∉ch->s.heap.get? b=ž o->H b=Ž->h'.get? b=ž o)
  (slot:∀b o,b≠X.env.locals->b∈X.fs->b∉ch->s.heap.get? b=ž o->H b=Ž->∃sl,h'.get? b=ž {o with slots:=sl}) (free:∀b o,b∉ch->s.heap.get? b=ž o->H b=Ž->H' b=Ž)
  (there:∀b o,b∉ch->s.heap.get? b=ž o->∃o',h'.get? b=ž o')
  (eU:∀b xs,H b=ž (.tup xs)->H' b=ž (.tup xs)) (eh:∀b o u,H b=ž (.aZ o u)->H' b=ž (.aZ o u)) (fN:∀b ps,H b=ž (.uj ps)->∃more,H' b=ž (.uj<|ps++more))
  (ns:∀m,s.heap.Ns X.env.locals m->h'.Ns X.env.locals m) (aC:cP X.prog X.w X.K H' h') (hg:a1j g'):
  Inv X pins σ H' {s with heap:=h',gens:=g',drawn:=d',toks:=t'}:=by
 have Te:∀b o,X.bC.heap.get? b=ž o->b≠X.env.locals:=λb o e=>qj<|qi (qh e) I.ok.above;have Ec:∀b o,X.bC.heap.get? b=ž o->b∉X.ex->b∉ch:=λb o e hx hb=>by
  rcases(pJ b hb).1 with z|z
  .exact hx z
  .exact absurd (qi (qh e) z) (Ð _)
 have cellK:∀x c,X.env.cells.lookup x=ž c->∀v,s.heap.IsCell c v->h'.IsCell c v:=λx c e v ⟨o,ho,hd⟩=>by
  have Aw:c∉ch:=λz=>(pJ c z).2.2.1 x c e rfl
  by_cases hc:c∈X.fs
  .have(sl,q):=slot c o (I.pM x c e) hc Aw ho (I.b8 x c e)
   exact⟨_,q,hd⟩
  .exact⟨o,keep c o (I.pM x c e) hc Aw ho<|I.b8 x c e,hd⟩
 refine⟨I.ok,I.os,hg,⟨λb o e n hb hx=>?_,λb o e n hb hx=>?_,λb o e n hx=>?_,λb o e hx=>?_,λb xs e=>eU b xs<|I.base.eU b xs e,λb o xs e=>eh b o xs<|I.base.eh b o xs e,λb ps e=>?_⟩,?_,λx c e=>?_,?_,λx c e=>?_,λp hp=>?_,aC,I.len⟩
 .exact keep b o (Te b o e) hb (Ec b o e hx) (I.base.keep b o e n hb hx) (I.base.free b o e n hx)
 .have(sl,e1):=I.base.slot b o e n hb hx
  have(D5,e2):=slot b _ (Te b o e) hb (Ec b o e hx) e1 (I.base.free b o e n hx);exact⟨D5,e2⟩
 .have(o',e1):=I.base.there b o e hx
  exact free b o' (Ec b o e hx) e1<|I.base.free b o e n hx
 .have(o',e1):=I.base.there b o e hx
  exact there b o' (Ec b o e hx) e1
 .have(m1,e1):=I.base.fN b ps e
  have(m2,e2):=fN b _ e1;exact⟨m1++m2,by rw[e2,a5z]⟩
 .have(m,hn,hl):=I.loc
  refine⟨m,ns m hn,λi x v e1 e2 e3=>?_⟩;have(u,r,l):=hl i x v e1 e2 e3;refine⟨u,r,?_⟩;rcases l with l|⟨k,c,e,z⟩
  .exact .inl l
  .exact .inr ⟨k,c,e,cellK x c e _ z⟩
 .have(v,z):=I.cell x c e
  exact⟨v,cellK x c e v z⟩
 .obtain⟨m,⟨o,_,_,ho,_⟩,_⟩:=I.loc
  exact free _ o (λz=>(pJ _ z).2.1 rfl) ho I.free
 .have(v,o,ho,hd):=I.cell x c e
  exact free c o (λz=>(pJ c z).2.2.1 x c e rfl) ho<|I.b8 x c e
 .have(e,n,ne,nf,d):=I.pin p hp
  have Aw:p.1∉ch:=λz=>(pJ p.1 z).2.2.2 p hp rfl;exact⟨keep p.1 p.2 ne nf Aw e n,free p.1 p.2 Aw e n,ne,nf,d⟩
def Inv.un{t':Nat}(I:Inv X pins σ H s)(u:Un X.fs [] H H' s.heap h')(aC:cP X.prog X.w X.K H' h'):Inv X pins σ H' {s with heap:=h',toks:=t'}:=by
 obtain⟨m,⟨o,es,ep,ho,r⟩,_⟩:=id I.loc;have(sl,hL):=u.any ho I.free (by simp);exact I.step (g':=s.gens) (d':=s.drawn) (ch:=[]) (λ_ z=>nomatch z) (λb o _ hb _ e n=>u.keep b o e n hb (by simp)) (λb o _ hb _ e n=>u.slot b o e n hb (by simp)) (λb o _ e n=>u.free b o e n (by simp)) (λb o _ e=>u.there b o e (by simp)) u.eU u.eh u.fN (λm' hm=>by
  have(o',rH,gX,dF,r'):=hm;rw[ho]at dF;cases dF;exact⟨_,rH,gX,hL,r'⟩) aC I.bare
def Inv.call{g':Array a1x}{t':Nat}{d':Drawn}{ch:Qa Qg}(I:Inv X pins σ H s)(u:Un (ja X.stack) ch H H' s.heap h')(aC:cP X.prog X.w X.K H' h')(hg:a1j g')
  (pJ:∀b∈ch,(b∈X.ex\/X.bC.heap.objs.size<=b)/\b≠X.env.locals/\(∀x c,X.env.cells.lookup x=ž c->c≠b)/\∀p∈X.pn++pins,p.1≠b):
  Inv X pins σ H' {s with heap:=h',gens:=g',drawn:=d',toks:=t'}:=by
 obtain⟨m,⟨o,es,ep,ho,r⟩,_⟩:=id I.loc;have(sl,hL):=u.any ho I.free λz=>(pJ _ z).2.1 rfl;exact I.step (ch:=ch) pJ (λb o hL hb hc e n=>u.keep b o e n (λz=>(qu.mp<|I.gv b z).elim hL hb) hc) (λb o _ _ hc e n=>u.any e n hc) (λb o hc e n=>u.free b o e n hc) (λb o hc e=>u.there b o e hc) u.eU u.eh u.fN (λm' hm=>by
  have(o',rH,gX,dF,r'):=hm;rw[ho]at dF;cases dF;exact⟨_,rH,gX,hL,r'⟩) aC hg
def Inv.turned{t':Nat}{it:Qg}(I:Inv X pins σ H s)(k:∀b o,b≠it->s.heap.get? b=ž o->h'.get? b=ž o)(hn:H it=Ž)(hL:it≠X.env.locals)
  (h1:it∈X.ex\/X.bC.heap.objs.size<=it) (h2:∀x c,X.env.cells.lookup x=ž c->c≠it) (h3:∀p∈X.pn++pins,p.1≠it):Inv X pins σ H {s with heap:=h',toks:=t'}:=by
 have lG:∀b u,H b=ž u->b≠it:=λb u e z=>by rw[z,hn]at e;cases e
 refine I.step (g':=s.gens) (d':=s.drawn) (ch:=[it]) (λb hb=>?_) (λb o _ _ hc e _=>k b o (λz=>hc (by simp[z])) e) (λb o _ _ hc e _=>⟨o.slots,k b o (λz=>hc (by simp[z])) e⟩) (λ_ _ _ _ n=>n)
  (λb o hc e=>⟨o,k b o (λz=>hc (by simp[z])) e⟩) (λ_ _ e=>e) (λ_ _ _ e=>e) (λb ps e=>⟨#[],by rw[e];simp⟩) (λm hm=>?_) (λb u e=>?_) I.bare
 .have e:b=it:=by simpa using hb
  subst e;exact⟨h1,hL,h2,h3⟩
 .have(o,es,ep,ho,r):=hm
  exact⟨o,es,ep,k _ o (Ľ hL) ho,r⟩
 .refine(I.aC b u e).eV (λc v hc q=>k c v ?_ q) (λ_ q=>q) λ_ _ q=>q
  rcases hc with z|z
  .rw[z];exact lG b u e
  .exact lG c _ z
def Inv.tok(I:Inv X pins σ H s)(t:Nat):Inv X pins σ H {s with toks:=t}:=I.un (h':=s.heap) (t':=t) Un.refl I.aC
def Inv.kept{t':Nat}(I:Inv X pins σ H s)(k:∀b u,s.heap.get? b=ž u->h'.get? b=ž u):Inv X pins σ H {s with heap:=h',toks:=t'}:=I.un (Un.kept k) (I.aC.kept k)
def Inv.laid{a:Qg}{o:HO}{t':Nat}(I:Inv X pins σ H s)(k:∀b u,s.heap.get? b=ž u->h'.get? b=ž u)(hp:s.heap.objs.size<=a)(new:bX X.prog X.w X.K (upd H a o) h' a o):
  Inv X pins σ (upd H a o) {s with heap:=h',toks:=t'}:=I.un (Un.laid k hp<|I.aC.fresh hp) (I.aC.laid k hp new)
def Inv.write{x e:Qg}{o:HO}{t':Nat}(I:Inv X pins σ H s)(mu:Bm (H x))(he:e=x\/H e=ž (.own x))(k:∀b u,b≠e->s.heap.get? b=ž u->h'.get? b=ž u)(xl:∃u,h'.get? e=ž u)
  (new:bX X.prog X.w X.K (upd H x o) h' x o):Inv X pins σ (upd H x o) {s with heap:=h',toks:=t'}:=I.un (Un.write mu he k xl) (I.aC.write mu he k xl new)
def Inv.weak{aK:Qa (Qb V)}(I:Inv X pins σ H s)(hl:aK.length=σ.length)(w:∀(i:Nat) v,aK[i]?=ž (ž v)->σ[i]?=ž (ž v)):Inv X pins aK H s :=
 ⟨I.ok,I.os,I.bare,I.base,let ⟨m,hn,Ez⟩:=I.loc;⟨m,hn,λi x v e1 e2 e3=>Ez i x v e1 (w i v e2) e3⟩,I.cell,I.free,I.b8,I.pin,I.aC,hl.trans I.len⟩
def Inv.fZ{sP:Qa (Qg×Obj)}(I:Inv X pins σ H s)(h:∀p∈sP,s.heap.get? p.1=ž p.2/\H p.1=Ž/\p.1≠X.env.locals/\p.1∉X.fs/\∀v,p.2.data≠.cell v):Inv X sP σ H s :=
 ⟨I.ok,I.os,I.bare,I.base,I.loc,I.cell,I.free,I.b8,λp hp=>(Â.mp hp).elim (λz=>I.pin p<|Ë _ z)<|h p,I.aC,I.len⟩
def Pr{N:Qa Str}(hN:N.Nodup){i j:Nat}{x:Str}(a:N[i]?=ž x)(b:N[j]?=ž x):i=j:=by
 have(h1,e1):=qk.mp a;have(h2,e2):=qk.mp b;exact(a6q hN).mp<|e1.trans e2.symm
def Qk{M:Model}{A:Qf}{E:Qc->Qd->Prop}{i:Nat}{x:Str}{v:V}{u:Qc}{Q:Unit->Qd->Prop}(I:Inv X pins σ H s)(hN:X.N.Nodup)(hi:X.N[i]?=ž x)(hx:Loc X.env.scope x)(r:zU v u)
  (h:∀s',Inv X pins (σ.set i<|some v) H s'->(∃a,Ϲ a s.heap s'.heap/\(a=X.env.locals\/X.env.cells.lookup x=ž a))->Q () s') (hf:X.fn x=ż\/X.env.scope.names.lookup x=ž .local:=by first|exact .inl rfl|exact .inr rfl|assumption):ĕ M A (storeName X.env x u) Q E s:=by
 have(m,hn,hl):=id I.loc;have Ka:(X.env.scope.kind==.class || (X.env.scope.kind==.module && X.env.locals != X.env.globals))=Ż:=by rw[I.ok.kind];rfl
 have AU:i < σ.length:=by rw[I.len];exact(qk.mp hi).1
 have pM:=I.pM;have tracked:∀{a:Qg} {h':ĵ},(∃o,s.heap.get? a=ž o/\H a=Ž)->Ϲ a s.heap h'->cP X.prog X.w X.K H h':=λ{a h'} ha hs b ob e=>by
  have(_,_,tj):=ha;refine(I.aC b ob e).eV (λc w' hc q=>(hs.2 c ?_).trans q) (λ_ q=>q) λ_ _ q=>q;rintro rfl;rcases hc with rfl|hc
  .rw[tj]at e;cases e
  .rw[tj]at hc;cases hc
 rcases hx with hk|hk
 .refine wpAny_storeName_local hk hn (λh' Ey hs=>?_) Ka
  have(oL,_,_,AL,_):=id hn;refine h _ ⟨I.ok,I.os,I.bare,⟨λb o e n hb hx=>?_,λb o e n hb hx=>?_,I.base.free,λb o e hx=>?_,I.base.eU,I.base.eh,I.base.fN⟩,⟨_,Ey,λj y v' e1 e2 e3=>?_⟩,λy c e=>?_,I.free,I.b8,λp hp=>?_,tracked ⟨oL,AL,I.free⟩ hs,by simpa using I.len⟩ ⟨_,hs,.inl rfl⟩
  .exact(hs.2 b<|qj<|qi (qh e) I.ok.above).trans (I.base.keep b o e n hb hx)
  .have(sl,e1):=I.base.slot b o e n hb hx
   exact⟨sl,(hs.2 b<|qj<|qi (qh e) I.ok.above).trans e1⟩
  .have(o',e1):=I.base.there b o e hx
   exact⟨o',(hs.2 b<|qj<|qi (qh e) I.ok.above).trans e1⟩
  .by_cases hj:j=i
   .subst hj
    rw[hi]at e1;cases e1;rw[ń AU]at e2;cases e2;exact⟨u,r,.inl ⟨hk,by simp⟩⟩
   .rw[qB<|Ľ hj]at e2
    have(u',r',q):=hl j y v' e1 e2 e3;refine⟨u',r',?_⟩;rcases q with⟨k,e⟩|⟨k,c,e,z⟩
    .refine .inl ⟨k,?_⟩
     have:y≠x:=λe=>hj<|Pr hN e1<|e▸hi;simp[this,e]
    .exact .inr ⟨k,c,e,z.sameBut hs<|pM y c e⟩
  .have(w',z):=I.cell y c e
   exact⟨w',z.sameBut hs<|pM y c e⟩
  .have(e,n,ne,nf,d):=I.pin p hp
   exact⟨(hs.2 p.1 ne).trans e,n,ne,nf,d⟩
 .have J1:X.fn x=ż:=by
   rcases hf with z|z
   .exact z
   .rw[z]at hk;cases hk
  have(c,hc):=I.ok.has x (.inl hk);have(w',z):=I.cell x c hc;refine wpAny_storeName_cell I.ok.kind hk hc z λh' gU hs=>?_;have(oc,xi,JV):=id z;refine h {s with heap:=h'} ⟨I.ok,I.os,I.bare,⟨λb o e n hb hx=>?_,λb o e n hb hx=>?_,I.base.free,λb o e hx=>?_,I.base.eU,I.base.eh,I.base.fN⟩,⟨m,hn.sameBut hs<|Ľ<|pM x c hc,λj y v' e1 e2 e3=>?_⟩,λy c' e=>?_,I.free,I.b8,λp hp=>?_,tracked ⟨oc,xi,I.b8 x c hc⟩ hs,by simpa using I.len⟩ ⟨c,hs,.inr hc⟩
  .exact(hs.2 b<|qj<|qi (qh e)<|I.ok.xx x c J1 hc).trans (I.base.keep b o e n hb hx)
  .have(sl,e1):=I.base.slot b o e n hb hx
   exact⟨sl,(hs.2 b<|qj<|qi (qh e)<|I.ok.xx x c J1 hc).trans e1⟩
  .have(o',e1):=I.base.there b o e hx
   exact⟨o',(hs.2 b<|qj<|qi (qh e)<|I.ok.xx x c J1 hc).trans e1⟩
  .by_cases hj:j=i
   .subst hj
    rw[hi]at e1;cases e1;rw[ń AU]at e2;cases e2;exact⟨u,r,.inr ⟨.inl hk,c,hc,gU⟩⟩
   .rw[qB<|Ľ hj]at e2
    have(u',r',q):=hl j y v' e1 e2 e3;refine⟨u',r',?_⟩;rcases q with q|⟨k,c',e,z'⟩
    .exact .inl q
    .refine .inr ⟨k,c',e,z'.sameBut hs ?_⟩
     rintro rfl;exact hj<|Pr hN e1<|I.ok.inj _ _ _ e hc▸hi
  .by_cases T1:c'=c
   .subst T1;exact⟨_,gU⟩
   .have(w2,z2):=I.cell y c' e
    exact⟨w2,z2.sameBut hs T1⟩
  .have(e,n,ne,nf,d):=I.pin p hp
   refine⟨(hs.2 p.1 ?_).trans e,n,ne,nf,d⟩;intro q;rw[q,xi]at e;have q':oc=p.2:=qw e;exact d w' (by rw[<-q'];exact JV)
def yS{M:Model}{A:Qf}{E:Qc->Qd->Prop}{i:Nat}{x:Str}{v:V}{u:Qc}{Q:Unit->Qd->Prop}(I:Inv X pins σ H s)(hN:X.N.Nodup)(hi:X.N[i]?=ž x)(hx:Loc X.env.scope x)(r:zU v u)
  (h:∀s',Inv X pins (σ.set i<|some v) H s'->Q () s') (hf:X.fn x=ż\/X.env.scope.names.lookup x=ž .local:=by first|exact .inl rfl|exact .inr rfl|assumption):ĕ M A (storeName X.env x u) Q E s :=
 Qk I hN hi hx r (λs' I' _=>h s' I') hf
def Inv.Be{s':Qd}{ch:Qa Qg}(I:Inv X pins σ H s)(ho:s'.os=s.os)(u:Un (ja X.stack) ch H H' s.heap s'.heap)(aC:cP X.prog X.w X.K H' s'.heap)(hg:a1j s'.gens)
  (pJ:∀b∈ch,(b∈X.ex\/X.bC.heap.objs.size<=b)/\b≠X.env.locals/\(∀x c,X.env.cells.lookup x=ž c->c≠b)/\∀p∈X.pn++pins,p.1≠b):Inv X pins σ H' s':=by
 have(h',g',d',t',o'):=s';have e:o'=s.os:=ho;subst e;exact I.call (g':=g') (t':=t') (d':=d') u aC hg pJ
end
abbrev XK:=Qc->Qb Qg->Hp->Prop
abbrev St:=Qa (Qb V)
abbrev VK:=V->Hp->Prop
abbrev TE:=St->Hp->VK->Prop
abbrev TT:=St->Hp->(Bool->Hp->Prop)->Prop
abbrev TA:=St->Hp->(Qa V->Hp->Prop)->Prop
structure Ends where
 nx:St->Hp->Prop
 rt:VK
 bk:St->Hp->Prop:=λ_ _=>False
 ct:St->Hp->Prop:=λ_ _=>False
abbrev TS:=Ends->St->Hp->Prop
def EP(X:Cx)(pins:Qa (Qg×Obj))(σ:St)(Q:VK)(u:Qc)(s':Qd):Prop:=∃v H',Inv X pins σ H' s'/\zU v u/\Q v H'
def TP(X:Cx)(pins:Qa (Qg×Obj))(σ:St)(Q:Bool->Hp->Prop)(b:Bool)(s':Qd):Prop:=∃H',Inv X pins σ H' s'/\Q b H'
def AP(X:Cx)(pins:Qa (Qg×Obj))(σ:St)(Q:Qa V->Hp->Prop)(us:Qa Qc)(s':Qd):Prop:=∃vs H',Inv X pins σ H' s'/\zQ vs us/\Q vs H'
def SP(X:Cx)(pins:Qa (Qg×Obj))(D:Ends)(f:Flow)(s':Qd):Prop :=
 match f with
 |.next=>∃aK H',Inv X pins aK H' s'/\D.nx aK H'
 |.brk=>∃aK H',Inv X pins aK H' s'/\D.bk aK H'
 |.cont=>∃aK H',Inv X pins aK H' s'/\D.ct aK H'
 |.ret u=>∃v aK H',Inv X pins aK H' s'/\zU v u/\D.rt v H'
def PE(X:Cx)(e:Ķ)(t:TE):Prop :=
 ∀(pins:Qa (Qg×Obj)) (s:Qd) (σ:St) (H:Hp) (Q:VK),Inv X pins σ H s->t σ H Q->ĕ (Ę X.prog X.w) X.A (Ÿ e X.env) (EP X pins σ Q) X.xe s
def PT(X:Cx)(e:Ķ)(t:TT):Prop :=
 ∀(pins:Qa (Qg×Obj)) (s:Qd) (σ:St) (H:Hp) (Q:Bool->Hp->Prop),Inv X pins σ H s->t σ H Q->ĕ (Ę X.prog X.w) X.A (a3J e X.env<|Ÿ e X.env) (TP X pins σ Q) X.xe s
def PW(X:Cx)(e:Ķ)(t:TT):Prop :=
 ∀(whole:Sem Qc) (pins:Qa (Qg×Obj)) (s:Qd) (σ:St) (H:Hp) (Q:Bool->Hp->Prop),Inv X pins σ H s->t σ H Q->ĕ (Ę X.prog X.w) X.A (a3J e X.env whole) (TP X pins σ Q) X.xe s
def PW.pt{X:Cx}{e:Ķ}{t:TT}(h:PW X e t):PT X e t:=h _
def PA(X:Cx)(es:Qa Ķ)(t:TA):Prop :=
 ∀(pos:Pos) (pins:Qa (Qg×Obj)) (s:Qd) (σ:St) (H:Hp) (Q:Qa V->Hp->Prop),Inv X pins σ H s->t σ H Q->ĕ (Ę X.prog X.w) X.A (spliced<|Ω pos<|Ļ es X.env) (AP X pins σ Q) X.xe s
def PS(X:Cx)(st:ū)(t:TS):Prop :=
 ∀(pins:Qa (Qg×Obj)) (s:Qd) (σ:St) (H:Hp) (D:Ends),Inv X pins σ H s->t D σ H->ĕ (Ę X.prog X.w) X.A (exec st X.env) (SP X pins D) X.xe s
def fu(X:Cx)(st:Qa ū)(t:TS):Prop :=
 ∀(pins:Qa (Qg×Obj)) (s:Qd) (σ:St) (H:Hp) (D:Ends),Inv X pins σ H s->t D σ H->ĕ (Ę X.prog X.w) X.A (execs st X.env) (SP X pins D) X.xe s
def aF{α:Type}{t:Sem α}{Q Q':α->Qd->Prop}{M:Model}{A:Qf}{E:Qc->Qd->Prop}{s:Qd}(h:ĕ M A t Q E s)(hQ:∀a s,Q a s->Q' a s):ĕ M A t Q' E s:=Ŝ h hQ λ_ _ x=>x
section
variable{X:Cx}
def ni(i:Nat):TE:=λσ H Q=>∃v,σ[i]?=ž (ž v)/\Q v H
def tC(v:V):TE:=λ_ H Q=>Q v H
def Wl{i:Nat}{x:Str}{pos:Pos}(hN:X.N[i]?=ž x)(hv:Bi X.env.scope x)(hd:(x==("__debug__":Str))=Ż:=by decide)(jP:(x==("__classdict__":Str))=Ż:=by decide):PE X (.Name x pos) (ni i):=by
 intro pins s σ H Q I h;have(v,e,h):=h;have(m,hn,hl):=I.loc;have(u,r,l):=hl i x v hN e hv;have fin:EP X pins σ Q u s:=⟨v,H,I,r,h⟩;rcases l with⟨hk,hm⟩|⟨hk,c,hc,kD⟩
 .exact wpAny_Name (a6D I.ok.kind hk hn hm fin) hd
 .rcases hk with hk|hk
  .exact wpAny_Name (wpAny_loadName_cell I.ok.kind hk hc kD fin) hd
  .exact wpAny_Name (wpAny_loadName_free I.ok.kind hk hc kD fin jP) hd
def Wj{i j pos}:PE X (.Constant (.int i) j pos) (tC<|.int i):=λ_ _ _ H _ I h=>wpAny_Constant_int ⟨.int i,H,I.tok _,⟨_,rfl⟩,h⟩
def zBy{b j pos}:PE X (.Constant (.bool b) j pos) (tC<|.bl b):=λ_ _ _ H _ I h=>Constant_bool ⟨.bl b,H,I,rfl,h⟩
def Wi{j pos}:PE X (.Constant .none j pos) (tC .aO):=λ_ _ _ H _ I h=>Constant_none ⟨.aO,H,I,rfl,h⟩
def Wh{x j pos}:PE X (.Constant (.str x) j pos) (tC<|.str x):=λ_ _ _ H _ I h=>Calls.Constant_str ⟨.str x,H,I.tok _,⟨_,rfl⟩,h⟩
def Gl(X:Cx)(x:Str):Prop:=X.env.kindOf x=ž .globalImplicit
def yK{E:Qc->Qd->Prop}{pins:Qa (Qg×Obj)}{s:Qd}{σ:St}{H:Hp}{x:Str}{u:Qc}{pos:Pos}{Q:Qc->Qd->Prop}(I:Inv X pins σ H s)(hg:Gl X x)(hm:X.mg x=ž u)(h:Q u s)
  (hd:(x==("__debug__":Str))=Ż:=by decide):ĕ (Ę X.prog X.w) X.A (Ÿ (.Name x pos) X.env) Q E s :=
 a3x I.ok.kind hg (Calls.loadGlobal_global (by rw[I.ok.glob];exact I.mod.glob.keeps I.bk) hm h) hd
def t9{E:Qc->Qd->Prop}{pins:Qa (Qg×Obj)}{s:Qd}{σ:St}{H:Hp}{x:Str}{u:Qc}{pos:Pos}{Q:Qc->Qd->Prop}(I:Inv X pins σ H s)(hg:Gl X x)(hm:X.mg x=Ž)(hv:Ź x=ž u)(h:Q u s)
  (hn:x ≠ "__name__":=by decide) (hd:(x==("__debug__":Str))=Ż:=by decide):ĕ (Ę X.prog X.w) X.A (Ÿ (.Name x pos) X.env) Q E s:=by
 have(mb,h1,h2):=I.mod.blt;exact a3x I.ok.kind hg (Calls.loadGlobal_builtin (by rw[I.ok.glob];exact I.mod.glob.keeps I.bk) hm (by rw[I.ok.blt];exact h1.keeps I.bk) ((h2 x hn).trans hv) h) hd
def Zh{x:Str}{v:V}{u:Qc}{pos:Pos}(hg:Gl X x)(hm:X.mg x=ž u)(r:zU v u)(hd:(x==("__debug__":Str))=Ż:=by decide):PE X (.Name x pos) (tC v):=
 λ_ _ _ H _ I h=>yK I hg hm ⟨v,H,I,r,h⟩ hd
def Zg{x:Str}{v:V}{u:Qc}{pos:Pos}(hg:Gl X x)(hm:X.mg x=Ž)(hv:Ź x=ž u)(r:zU v u)(hn:x ≠ "__name__":=by decide)(hd:(x==("__debug__":Str))=Ż:=by decide):PE X (.Name x pos) (tC v):=
 λ_ _ _ H _ I h=>t9 I hg hm hv ⟨v,H,I,r,h⟩ hn hd
variable{a b:Ķ}{ta tb:TE}{pos:Pos}
def PC(X:Cx)(op:a2S)(a b:Ķ)(t:TE):Prop :=
 ∀(pins:Qa (Qg×Obj)) (s:Qd) (σ:St) (H:Hp) (Q:VK),Inv X pins σ H s->t σ H Q->
  ĕ (Ę X.prog X.w) X.A (Ÿ a X.env) (λv aI=>ĕ (Ę X.prog X.w) X.A (Ÿ b X.env) (λu gO=>ĕ (Ę X.prog X.w) X.A (Ĭ op v u) (EP X pins σ Q) X.xe gO) X.xe aI) X.xe s
def zrb(b:Ķ){op:a2S}(h:op≠.In)(h2:op≠.NotIn):ϊ op b=Ż:=by
 have e1:(op==CmpOp.In)=Ż:=by cases op<;>first|rfl|exact absurd rfl h
 have e2:(op==CmpOp.NotIn)=Ż:=by cases op<;>first|rfl|exact absurd rfl h2
 cases b<;>simp[ϊ,e1,e2]
def tB(t:TE):TT:=λσ H Q=>t σ H λx H1=>∃c,x=.bl c/\Q c H1
def Wg{op:a2S}{t:TE}(h:PC X op a b t)(h1:ϊ op b=Ż:=by first|exact zrb _ (by decide) (by decide) |rfl):PT X (.Compare a [op] [b] pos) (tB t):=by
 intro pins s σ H Q I hw;refine a6d (aF (h pins s σ H _ I hw) λv s1 h1=>aF h1 λu s2 h2=>aF h2 λc s3 hZ=>?_) h1;have(x,H1,I1,r1,q1):=hZ;have(d,rfl,q):=q1;cases r1;exact ĺ ⟨H1,I1,q⟩
def Wf{e:Ķ}{t:TE}(h:PE X e t)(he:∀whole,a3J e X.env whole=(do let v <-whole;a4m e.pos;a0I [v] (truthy v)):=by intro _;rfl):PT X e (tB t):=by
 intro pins s σ H Q I hw;refine isTrue_plain (aF (h pins s σ H _ I hw) λv s1 hZ=>?_)<|he _;have(x,H1,I1,r1,q1):=hZ;have(d,rfl,q):=q1;cases r1;exact ĺ ⟨H1,I1,q⟩
variable{tA o9:TT}{rest:Qa Ķ}
def Fy(t u:TT):TT:=λσ H Q=>t σ H λc H1=>if c=ż then u σ H1 Q else Q Ż H1
def IW(t u:TT):TT:=λσ H Q=>t σ H λc H1=>if c=ż then Q ż H1 else u σ H1 Q
def Fx(t:TT):TT:=λσ H Q=>t σ H λc H1=>Q (!c) H1
def Zf(ha:PT X a tA):PW X (.BoolOp .And [a] pos) tA:=by
 intro wh pins s σ H Q I h;refine isTrue_and<|aF (ha pins s σ H Q I h) λc s1 e=>?_;cases c with
 |true=>exact isTrue_and_nil e
 |false=>exact e
def We(ha:PT X a tA):PW X (.BoolOp .Or [a] pos) tA:=by
 intro wh pins s σ H Q I h;refine isTrue_or<|aF (ha pins s σ H Q I h) λc s1 e=>?_;cases c with
 |false=>exact isTrue_or_nil e
 |true=>exact e
def Wd(ha:PT X a tA)(hb:PW X (.BoolOp .And (b::rest) pos) o9):PW X (.BoolOp .And (a::b::rest) pos) (Fy tA o9):=by
 intro wh pins s σ H Q I h;refine isTrue_and<|aF (ha pins s σ H _ I h) λc s1 hZ=>?_;have(H1,I1,q1):=hZ;cases c with
 |true=>exact hb wh pins s1 σ H1 Q I1 q1
 |false=>exact⟨H1,I1,q1⟩
def zBz(ha:PT X a tA)(hb:PW X (.BoolOp .Or (b::rest) pos) o9):PW X (.BoolOp .Or (a::b::rest) pos) (IW tA o9):=by
 intro wh pins s σ H Q I h;refine isTrue_or<|aF (ha pins s σ H _ I h) λc s1 hZ=>?_;have(H1,I1,q1):=hZ;cases c with
 |true=>exact⟨H1,I1,q1⟩
 |false=>exact hb wh pins s1 σ H1 Q I1 q1
def Wc(ha:PT X a tA):PT X (.UnaryOp .Not a pos) (Fx tA):=by
 intro pins s σ H Q I h;exact isTrue_not<|ha pins s σ H (λc H1=>Q (!c) H1) I h
def Gc(ta tb:TE):TE:=λσ H Q=>ta σ H λx H1=>∃c,x=.bl c/\if c=ż then tb σ H1 Q else Q (.bl Ż) H1
def Fw(ta tb:TE):TE:=λσ H Q=>ta σ H λx H1=>∃c,x=.bl c/\if c=ż then Q (.bl ż) H1 else tb σ H1 Q
def Gb(ta:TE):TE:=λσ H Q=>ta σ H λx H1=>∃c,x=.bl c/\Q (.bl (!c)) H1
def Wb{op}{t:TE}(h:PE X a t):PE X (.BoolOp op [a] pos) t:=λpins s σ H Q I hw=>BoolOp_one<|h pins s σ H Q I hw
def Wa(ha:PE X a ta)(hb:PE X (.BoolOp .And (b::rest) pos) tb):PE X (.BoolOp .And (a::b::rest) pos) (Gc ta tb):=by
 intro pins s σ H Q I h;refine BoolOp_and<|aF (ha pins s σ H _ I h) λv s1 hZ=>?_;have(x,H1,I1,r1,q1):=hZ;have(c,rfl,q1):=q1;cases r1;refine ĺ ?_;cases c with
 |true=>exact hb pins s1 σ H1 Q I1 q1
 |false=>exact⟨.bl Ż,H1,I1,rfl,q1⟩
def zBA(ha:PE X a ta)(hb:PE X (.BoolOp .Or (b::rest) pos) tb):PE X (.BoolOp .Or (a::b::rest) pos) (Fw ta tb):=by
 intro pins s σ H Q I h;refine BoolOp_or<|aF (ha pins s σ H _ I h) λv s1 hZ=>?_;have(x,H1,I1,r1,q1):=hZ;have(c,rfl,q1):=q1;cases r1;refine ĺ ?_;cases c with
 |false=>exact hb pins s1 σ H1 Q I1 q1
 |true=>exact⟨.bl ż,H1,I1,rfl,q1⟩
def V9(ha:PE X a ta):PE X (.UnaryOp .Not a pos) (Gb ta):=by
 intro pins s σ H Q I h;refine UnaryOp_<|aF (ha pins s σ H _ I h) λv s1 hZ=>?_;have(x,H1,I1,r1,q1):=hZ;have(c,rfl,q1):=q1;cases r1;exact not_of<|ĺ ⟨.bl (!c),H1,I1,rfl,q1⟩
end
def b9(K:qc)(H:Hp)(a:Qg)(xs:Qa V):Prop :=
 Rd H a (.lst xs)\/
  ∃(o:Obj) (ai:Array Qc) (n:Nat),K.lookup a=ž o/\o.cls=.type "list"/\o.dict=Ž/\o.data=.seq ai n/\ai.size<=Ĕ/\zQ xs ai.toList
def bI(K:qc)(H:Hp)(a:Qg)(xs:Qa V):Prop :=
 Rd H a (.tup xs)\/
  ∃(o:Obj) (ai:Array Qc) (n:Nat),K.lookup a=ž o/\o.cls=.type "tuple"/\o.data=.seq ai n/\ai.size<=Ĕ/\zQ xs ai.toList
noncomputable def zDq:Qc->Qb V
 |.none=>ž .aO
 |.bool b=>ž<|.bl b
 |.int i _=>ž<|.int i
 |.str x _=>ž<|.str x
 |.bytes b _=>ž<|.lU b
 |.float b _=>ž<|.xq b
 |.ref a=>ž<|.ref a
 |.type n=>ž<|.ty n
 |_=>Ž
def zU.abs{x:V}{u:Qc}(r:zU x u):zDq u=ž x:=by
 cases x with
 |aO=>cases r;rfl
 |bl _=>cases r;rfl
 |int _=>have(t,rfl):=r;rfl
 |str _=>have(t,rfl):=r;rfl
 |lU _=>have(t,rfl):=r;rfl
 |xq _=>have(t,rfl):=r;rfl
 |ref _=>cases r;rfl
 |ty _=>cases r;rfl
def zU.inj{x y:V}{u:Qc}(r:zU x u)(q:zU y u):x=y:=qw (r.abs.symm.trans q.abs)
def zQ.inj{xs ys:Qa V}{us:Qa Qc}(h:zQ xs us)(h':zQ ys us):xs=ys:=by
 induction h generalizing ys with
 |nil=>cases h';rfl
 |cons r _ ih=>cases h' with
  |cons r' t'=>rw[r.inj r',ih t']
section
variable{X:Cx}{pins:Qa (Qg×Obj)}{σ:St}{H:Hp}{s:Qd}{a:Qg}{xs ys:Qa V}
def b9.of{K:qc}(h:H a=ž (.lst xs)):b9 K H a xs:=.inl (.inl h)
def Inv.list(I:Inv X pins σ H s)(h:b9 X.K H a xs):∃ai:Qa Qc,zQ xs ai/\PlainL s.heap a ai.toArray/\xs.length<=Ĕ:=by
 rcases h with h|⟨o,ai,n,hk,hc,hd,hs,hz,r⟩
 .have(z,ai,n,r,e):=h.ok I.aC
  exact⟨ai,r,⟨_,n,e,rfl,rfl,rfl⟩,z⟩
 .refine⟨ai.toList,r,⟨o,n,I.bO a o hk,hc,hd,by simpa using hs⟩,?_⟩
  have e:=r.length;simp only[ģ]at e;omega
def Inv.tuple(I:Inv X pins σ H s)(h:bI X.K H a xs):∃ai:Qa Qc,zQ xs ai/\a2R s.heap a ai.toArray/\xs.length<=Ĕ:=by
 rcases h with h|⟨o,ai,n,hk,hc,hs,hz,r⟩
 .have(z,ai,r,p):=h.ok I.aC
  exact⟨ai,r,p.tup,z⟩
 .refine⟨ai.toList,r,⟨o,I.bO a o hk,hc,n,by simpa using hs⟩,?_⟩
  have e:=r.length;simp only[ģ]at e;omega
def Inv.nO(I:Inv X pins σ H s)(h:b9 X.K H a xs)(h':b9 X.K H a ys):xs=ys:=by
 obtain⟨ai,r,⟨o,n,e,_,_,d⟩,_⟩:=I.list h;obtain⟨its',r',⟨o',n',e',_,_,d'⟩,_⟩:=I.list h';rw[e]at e';cases e';rw[d]at d';injection d' with d1 _;have:ai=its':=by simpa using congrArg a0l d1
 subst this;exact r.inj r'
def Inv.dg(I:Inv X pins σ H s)(h:bI X.K H a xs)(h':bI X.K H a ys):xs=ys:=by
 obtain⟨ai,r,⟨o,e,_,n,d⟩,_⟩:=I.tuple h;obtain⟨its',r',⟨o',e',_,n',d'⟩,_⟩:=I.tuple h';rw[e]at e';cases e';rw[d]at d';injection d' with d1 _;have:ai=its':=by simpa using congrArg a0l d1
 subst this;exact r.inj r'
end
noncomputable abbrev Cx.gN(X:Cx)(E:Qc->Qd->Prop):Cx:={X with xe:=E}
abbrev Cx.uz(X:Cx):Cx:=X.gN λ_ _=>False
def Cx.Ok.gN{X:Cx}(ok:X.Ok)(E:Qc->Qd->Prop):(X.gN E).Ok :=
 ⟨ok.mod,ok.kind,ok.glob,ok.blt,ok.above,ok.inj,ok.has,ok.xx,ok.hd,ok.frames,ok.Al,ok.EM,ok.bs,ok.pN,ok.lF,ok.og,ok.fj,ok.tm⟩
def Cx.Ok.cV{X:Cx}{E:Qc->Qd->Prop}(ok:(X.gN E).Ok):X.Ok :=
 ⟨ok.mod,ok.kind,ok.glob,ok.blt,ok.above,ok.inj,ok.has,ok.xx,ok.hd,ok.frames,ok.Al,ok.EM,ok.bs,ok.pN,ok.lF,ok.og,ok.fj,ok.tm⟩
section
variable{X:Cx}{pins:Qa (Qg×Obj)}{σ:St}{H:Hp}{s:Qd}{E:Qc->Qd->Prop}
def Inv.gN(I:Inv X pins σ H s)(E:Qc->Qd->Prop):Inv (X.gN E) pins σ H s:=⟨I.ok.gN E,I.os,I.bare,I.base,I.loc,I.cell,I.free,I.b8,I.pin,I.aC,I.len⟩
def Inv.cV(I:Inv (X.gN E) pins σ H s):Inv X pins σ H s:=⟨I.ok.cV,I.os,I.bare,I.base,I.loc,I.cell,I.free,I.b8,I.pin,I.aC,I.len⟩
def SP.cV{D:Ends}{f:Flow}{s':Qd}(h:SP (X.gN E) pins D f s'):SP X pins D f s':=by
 cases f with
 |next=>have(aK,H',I,q):=h;exact⟨aK,H',I.cV,q⟩
 |brk=>have(aK,H',I,q):=h;exact⟨aK,H',I.cV,q⟩
 |cont=>have(aK,H',I,q):=h;exact⟨aK,H',I.cV,q⟩
 |ret u=>have(v,aK,H',I,r,q):=h;exact⟨v,aK,H',I.cV,r,q⟩
def fu.uz{st:Qa ū}{t:TS}(h:fu X.uz st t):fu X st t:=λpins s σ H D I hw=>
 Ŝ (h pins s σ H D (I.gN _) hw) (λ_ _ q=>q.cV) λ_ _ z=>ť z
end
section
variable{X:Cx}{st:ū}{rest:Qa ū}{t u:TS}{e:Ķ}{te:TE}{pos:Pos}
def Ga:TS:=λD σ H=>D.nx σ H
def FG(t u:TS):TS:=λD σ H=>t {D with nx:=u D} σ H
def Ze:fu X [] Ga:=λ_ _ σ H _ I h=>a1O ⟨σ,H,I,h⟩
def zrf(h1:PS X st t)(h2:fu X rest u):fu X (st::rest) (FG t u):=by
 intro pins s σ H D I h;refine wpAny_execs_cons<|aF (h1 pins s σ H {D with nx:=u D} I h) λf s1 q=>?_;cases f with
 |next=>
  have(aK,H',I',q):=q;exact h2 pins s1 aK H' D I' q
 |ret v=>exact q
 |brk=>exact q
 |cont=>exact q
def Oa(h1:PS X st t):fu X [st] t:=by
 intro pins s σ H D I h;refine wpAny_execs_cons<|aF (h1 pins s σ H D I h) λf s1 q=>?_;cases f with
 |next=>exact a1O q
 |ret v=>exact q
 |brk=>exact q
 |cont=>exact q
def Inv.quiet{pins:Qa (Qg×Obj)}{σ:St}{H:Hp}{s:Qd}(I:Inv X pins σ H s):interactive X.env=Ż:=by simp[interactive,I.ok.kind]
def yh(te:TE):TS:=λD σ H=>te σ H λ_ H1=>D.nx σ H1
def Zd(he:PE X e te)(hs:a0P e Ž pos.line X.env=pure Ż:=by rfl):PS X (.Expr e pos) (yh te):=by
 intro pins s σ H D I h;exact wpAny_Expr_any (aF (he pins s σ H _ I h) λv s1 ⟨x,H1,I1,r1,q1⟩=>⟨σ,H1,I1,q1⟩) I.quiet hs
def BW(te:TE):TS:=λD σ H=>te σ H D.rt
def Wz(he:PE X e te):PS X (.Return (ž e) pos) (BW te):=by
 intro pins s σ H D I h;exact wpAny_Return_some<|aF (he pins s σ H _ I h) λv s1 ⟨x,H1,I1,r1,q1⟩=>⟨x,σ,H1,I1,r1,q1⟩
def FF(c:TT)(t u:TS):TS:=λD σ H=>c σ H λb H1=>if b=ż then t D σ H1 else u D σ H1
def zBB{c:Ķ}{a b:Qa ū}{tc:TT}(hc:PT X c tc)(ha:fu X a t)(hb:fu X b u):PS X (.If c a b pos) (FF tc t u):=by
 intro pins s σ H D I h;refine wpAny_If<|aF (hc pins s σ H _ I h) λd s1 hZ=>?_;have(H1,I1,q1):=hZ;cases d with
 |true=>exact ha pins s1 σ H1 D I1 q1
 |false=>exact hb pins s1 σ H1 D I1 q1
end
abbrev TG:=V->St->Hp->(St->Hp->Prop)->Prop
abbrev jx:=Qa V->St->Hp->(St->Hp->Prop)->Prop
def PG(X:Cx)(target:Ķ)(t:TG):Prop :=
 ∀(pins:Qa (Qg×Obj)) (s:Qd) (σ:St) (H:Hp) (v:V) (u:Qc) (Q:St->Hp->Prop),Inv X pins σ H s->zU v u->t v σ H Q->
  ĕ (Ę X.prog X.w) X.A (a1k target X.env u) (λ_ s'=>∃aK H',Inv X pins aK H' s'/\Q aK H') X.xe s
def tz(X:Cx)(ts:Qa Ķ)(t:jx):Prop :=
 ∀(pins:Qa (Qg×Obj)) (s:Qd) (σ:St) (H:Hp) (vs:Qa V) (us:Qa Qc) (Q:St->Hp->Prop),Inv X pins σ H s->zQ vs us->t vs σ H Q->
  ĕ (Ę X.prog X.w) X.A (a5j ((Ϭ ts X.env).map (·.2)) us) (λ_ s'=>∃aK H',Inv X pins aK H' s'/\Q aK H') X.xe s
abbrev B1:=V->V->V->Hp->(Hp->Prop)->Prop
def FE(X:Cx)(t:B1):Prop :=
 ∀(pins:Qa (Qg×Obj)) (s:Qd) (σ:St) (H:Hp) (o i v:V) (ov iv u:Qc) (Q:Hp->Prop),Inv X pins σ H s->zU o ov->zU i iv->zU v u->t o i v H Q->
  ĕ (Ę X.prog X.w) X.A (setItem ov iv u) (λ_ s'=>∃H',Inv X pins σ H' s'/\Q H') X.xe s
abbrev EY:=V->V->Hp->VK->Prop
def UN(X:Cx)(op:Operator)(t:EY):Prop :=
 ∀(pins:Qa (Qg×Obj)) (s:Qd) (σ:St) (H:Hp) (x y:V) (v u:Qc) (Q:VK),Inv X pins σ H s->zU x v->zU y u->t x y H Q->
  ĕ (Ę X.prog X.w) X.A (inplaceOp op v u) (EP X pins σ Q) X.xe s
section
variable{X:Cx}{pos:Pos}
def k7(i:Nat):TG:=λv σ H Q=>Q (σ.set i<|some v) H
def Zx{i:Nat}{x:Str}(hN:X.N.Nodup)(hi:X.N[i]?=ž x)(hx:Loc X.env.scope x)(hf:X.fn x=ż\/X.env.scope.names.lookup x=ž .local:=by first|exact .inl rfl|exact .inr rfl|assumption):PG X (.Name x pos) (k7 i):=by
 intro pins s σ H v u Q I r h;exact wpAny_assign_Name<|yS I hN hi hx r (λs' I'=>⟨_,H,I',h⟩) hf
def B0:jx:=λvs σ H Q=>vs=[]/\Q σ H
def yg(t:TG)(u:jx):jx:=λvs σ H Q=>∃v r,vs=v::r/\t v σ H λaK H'=>u r aK H' Q
def Zw:tz X [] B0:=by
 intro pins s σ H vs us Q I r h;have(e,h):=h;subst e;cases r;exact assignInOrder_nil ⟨σ,H,I,h⟩
def zrg{e:Ķ}{es:Qa Ķ}{t:TG}{u:jx}(h1:PG X e t)(h2:tz X es u)
  (hs:(Ϭ (e::es) X.env).map (·.2)=a1k e X.env::(Ϭ es X.env).map (·.2):=by rfl):tz X (e::es) (yg t u):=by
 intro pins s σ H vs us Q I r h;have(v,vr,e1,h):=h;subst e1;cases r with
 |cons r rr=>
  rw[hs];refine a2W<|aF (h1 pins s σ H _ _ _ I r h) λ_ s1 hZ=>?_;have(fV,H1,I1,q1):=hZ;exact h2 pins s1 fV H1 _ _ Q I1 rr q1
def BZ(K:qc)(n:Nat)(t:jx):TG:=λv σ H Q=>∃a xs,v=.ref a/\bI K H a xs/\xs.length=n/\t xs σ H Q
def Wx{es:Qa Ķ}{k:Nat}{t:jx}{n:Nat}(hc:X.calm=ż)(h:tz X es t)
  (hn:(Ϭ es X.env).length=n:=by rfl) (kC:(Ϭ es X.env).findIdx? (·.1)=Ž:=by rfl):PG X (.Tuple es k pos) (BZ X.K n t):=by
 intro pins s σ H v u Q I r hw;have(a,xs,e1,hq,hl,hw):=hw;subst e1;cases r;have(ai,rv,ht,hz):=I.tuple hq;refine assign_Tuple_tuple (I.ok.hd hc) ht (by simp[hn,<-hl,rv.length]) kC λh' hx=>?_;have I1:Inv X pins σ H {s with heap:=h'}:=I.kept (t':=s.toks) λb o e=>hx b o (qj<|qh e) e;exact h pins _ σ H xs _ Q I1 (by simpa using rv) hw
def FC(to ti:TE)(t:B1):TG:=λv σ H Q=>to σ H λo H1=>ti σ H1 λi H2=>t o i v H2 λH3=>Q σ H3
def Ww{o i:Ķ}{to ti:TE}{t:B1}(ho:PE X o to)(hi:PE X i ti)(hs:FE X t)
  (ha:∀v,a1k (.Subscript o i pos) X.env v=(do
   let ov <-a0I [v] (Ÿ o X.env)
   let iv <-a0I [v,ov] (Ÿ i X.env)
   a4m pos
   a0I [v,ov,iv] (setItem ov iv v)
   release [v,ov,iv] []):=by intro _;rfl):PG X (.Subscript o i pos) (FC to ti t):=by
 intro pins s σ H v u Q I r h;rw[ha];refine qa<|Ō<|aF (ho pins s σ H _ I h) λov s1 hZ=>?_;have(x,H1,I1,r1,q1):=hZ;refine qa<|Ō<|aF (hi pins s1 σ H1 _ I1 q1) λiv s2 hZ=>?_;have(y,H2,I2,r2,q2):=hZ;refine qa<|a0m<|qa<|Ō<|aF (hs pins s2 σ H2 x y v ov iv u _ I2 r1 r2 r q2) λ_ s3 hZ=>?_;have(H3,I3,q3):=hZ;exact wpAny_release ⟨σ,H3,I3,q3⟩
def pY(te:TE)(g:TG):TS:=λD σ H=>te σ H λx H1=>g x σ H1 D.nx
def Wu{tg e:Ķ}{te:TE}{g:TG}(he:PE X e te)(hg:PG X tg g)(hs:a2P [tg] e pos.line X.env=pure Ż:=by rfl)(hw:a2Q [tg] e X.env=pure Ž:=by rfl)
  (h1:(Ϭ [tg] X.env).map (·.2)=[a1k tg X.env]:=by rfl):PS X (.Assign [tg] e pos) (pY te g):=by
 intro pins s σ H D I h;refine wpAny_Assign_stores (aF (he pins s σ H _ I h) λv s1 hZ=>?_) hs hw;have(x,H1,I1,r1,q1):=hZ;rw[h1];exact aF (hg pins s1 σ H1 x v _ I1 r1 q1) λ_ s2 q=>q
def Wt{i:Nat}{x:Str}{e:Ķ}{te:TE}{pos':Pos}(hN:X.N.Nodup)(hi:X.N[i]?=ž x)(hx:Loc X.env.scope x)(he:PE X e te)(hs:a0P e (ž<|.Name x pos') pos.line X.env=pure Ż:=by rfl)(hf:X.fn x=ż\/X.env.scope.names.lookup x=ž .local:=by first|exact .inl rfl|exact .inr rfl|assumption):
  PS X (.Assign [.Name x pos'] e pos) (pY te<|k7 i):=by
 intro pins s σ H D I h;refine wpAny_Assign_Name (aF (he pins s σ H _ I h) λv s1 hZ=>?_) hs;have(y,H1,I1,r1,q1):=hZ;exact yS I1 hN hi hx r1 (λs2 I2=>⟨_,H1,I2,q1⟩) hf
def FA(i j:Nat)(ta:TA):TS:=λD σ H=>ta σ H λvs H1=>∃v w,vs=[v,w]/\D.nx ((σ.set i<|some v).set j<|some w) H1
def Vj{i j:Nat}{x y:Str}{a b:Ķ}{ta:TA}{px py pt:Pos}{kt k2 uw}(hc:X.calm=ż)(hN:X.N.Nodup)(hi:X.N[i]?=ž x)(hj:X.N[j]?=ž y)(cY:i≠j)
  (hx:X.env.scope.names.lookup x=ž .local) (hy:X.env.scope.names.lookup y=ž .local) (ha:PA X [a,b] ta)
  (hw:a2Q [.Tuple [.Name x px,.Name y py] kt pt] (.Tuple [a,b] k2 uw) X.env=pure (ž [x,y]))
  (hs:a2P [.Tuple [.Name x px,.Name y py] kt pt] (.Tuple [a,b] k2 uw) pos.line X.env=pure Ż:=by rfl):
  PS X (.Assign [.Tuple [.Name x px,.Name y py] kt pt] (.Tuple [a,b] k2 uw) pos) (FA i j ta):=by
 intro pins s σ H D I h;rw[exec_Assign_arm];refine qa<|a0m ?_;rw[hs];refine qa<|qb ?_;rw[a6Q (by decide)];refine qa<|Tuple_<|aF (ha _ pins s σ H _ I h) λus s1 hZ=>?_;have(vs,H1,I1,r1,q1):=hZ;have(v,w,e1,q1):=q1;subst e1;obtain⟨u1,u2,rfl,rv,lj⟩:∃u1 u2,us=[u1,u2]/\zU v u1/\zU w u2:=by
  cases r1 with
  |cons p q=>
   cases q with
   |cons p' q'=>
    cases q';exact⟨_,_,rfl,p,p'⟩
 refine qy ?_ (by show 2<=Ĕ;decide);have I2:Inv X pins σ H1 {s1 with heap:=s1.heap.push {cls:=.type "tuple",data:=.seq [u1,u2].toArray}}:=I1.kept (t':=s1.toks) λb o e=>qd _ e;rw[hw];refine qa<|qb ?_;show ĕ (Ę X.prog X.w) X.A (do rule "assign.swapped-stores";let items <-unpackItems (.ref s1.heap.objs.size) 2 Ž;a5j [λv=>bindName X.env y v,λv=>bindName X.env x v] items.reverse;pure Flow.next) _ _ _;refine qa<|ų<|qa<|unpackItems_tuple (items:=#[u1,u2]) (I.ok.hd hc) (IsTup.new s1.heap _) λh' jv=>?_;have I3:=I2.kept (h':=h') (t':=s1.toks) λb o e=>jv b o (qj<|qh e) e;show ĕ _ _ (a5j [λv=>bindName X.env y v,λv=>bindName X.env x v] [u2,u1] >>= λ_=>pure Flow.next) _ _ _;refine qa<|a2W<|wpAny_bindName<|yS I3 hN hj (.inl hy) lj (λs2 I4=>?_)<|.inr hy;refine a2W<|wpAny_bindName<|yS I4 hN hi (.inl hx) rv (λs3 I5=>assignInOrder_nil<|qb ?_)<|.inr hx;rw[List.set_comm _ _<|Ľ cY]at I5;exact⟨_,H1,I5,q1⟩
def zDr(i:Nat)(te:TE)(ti:EY):TS:=λD σ H=>∃x,σ[i]?=ž (ž x)/\te σ H λy H1=>ti x y H1 λz H2=>D.nx (σ.set i<|some z) H2
def Vi{i:Nat}{x:Str}{e:Ķ}{te:TE}{op:Operator}{ti:EY}{pos':Pos}(hN:X.N.Nodup)(hi:X.N[i]?=ž x)(hx:Loc X.env.scope x)(he:PE X e te)(ho:UN X op ti)(hf:X.fn x=ż\/X.env.scope.names.lookup x=ž .local:=by first|exact .inl rfl|exact .inr rfl|assumption):
  PS X (.AugAssign (.Name x pos') op e pos) (zDr i te ti):=by
 intro pins s σ H D I h;have(v,e1,h):=h;have(m,hn,hl):=I.loc;have vis:Bi X.env.scope x:=by rcases hx with k|k;exact .inl k;exact .inr<|.inl k
 have(u,r,l):=hl i x v hi e1 vis;refine wpAny_AugAssign_Name ?_;have go:ĕ (Ę X.prog X.w) X.A (Ÿ e X.env) (λw gO=>ĕ (Ę X.prog X.w) X.A (inplaceOp op u w) (λr qV=>ĕ (Ę X.prog X.w) X.A (storeName X.env x r) (λ_=>SP X pins D .next) X.xe qV) X.xe gO) X.xe s:=by
  refine aF (he pins s σ H _ I h) λw s1 hZ=>?_;have(y,H1,I1,r1,q1):=hZ;refine aF (ho pins s1 σ H1 v y u w _ I1 r r1 q1) λz s2 hZ=>?_;have(zv,H2,I2,r2,q2):=hZ;exact yS I2 hN hi hx r2 (λs3 I3=>⟨_,H2,I3,q2⟩) hf
 rcases l with⟨hk,hm⟩|⟨hk,c,hc,kD⟩
 .exact a6D I.ok.kind hk hn hm go
 .rcases hk with hk|hk
  .exact wpAny_loadName_cell I.ok.kind hk hc kD go
  .rcases hx with k|k
   .have:X.env.scope.names.lookup x=ž .free:=hk
    rw[k]at this;cases this
   .have:X.env.scope.names.lookup x=ž .free:=hk
    rw[k]at this;cases this
def ipI(f:Int->Int->Int):EY:=λx y H Q=>∃i j,x=.int i/\y=.int j/\Q (.int<|f i j) H
def Vh:UN X .Add (ipI λi j=>i+j):=by
 intro pins s σ H x y v u Q I r1 r2 h;have(i,j,e1,e2,q):=h;subst e1;subst e2;have(t,rfl):=r1;have(t',rfl):=r2;exact iadd_int ⟨.int _,H,I.tok _,⟨_,rfl⟩,q⟩
end
section
variable{X:Cx}{pos:Pos}
def GI(c:TT)(tb:TS):TS:=λD σ H=>∃W:Nat->St->Hp->Prop,(∃m,W m σ H)/\∀m σ H,W m σ H->
 c σ H λb H1=>if b=ż then ∃N:St->Hp->Prop,(∀aK H',N aK H'->∃m',m' < m/\W m' aK H')/\tb {D with nx:=N,ct:=N,bk:=D.nx} σ H1 else D.nx σ H1
def zrh{c:Ķ}{body:Qa ū}{tc:TT}{tb:TS}(hp:a5I (Ę X.prog X.w) X.A X.env X.xe)(hc:PT X c tc)(hb:fu X body tb):PS X (.While c body [] pos) (GI tc tb):=by
 intro pins s σ H D I h;obtain⟨W,⟨m0,w0⟩,turn⟩:=h;refine wpAny_While<|codeAny_whileLoop (λn s'=>∃aK H',Inv X pins aK H' s'/\W n aK H') ?_ m0 ⟨σ,H,I,w0⟩;rintro n s1 ⟨fV,H1,I1,w1⟩;refine Ϯ hp<|aF (hc pins s1 fV H1 _ I1<|turn n fV H1 w1) λb s2 hZ=>?_;have(H2,I2,q2):=hZ;cases b with
 |true=>
  have(N,hN,q2):=q2;rw[a6P rfl];refine Ϯ hp<|aF (hb pins s2 fV H2 _ I2 q2) λf s3 q3=>?_;cases f with
  |next=>
   have(gZ,H3,I3,n3):=q3;have(m',hm,w3):=hN gZ H3 n3;exact⟨m',hm,gZ,H3,I3,w3⟩
  |cont=>
   have(gZ,H3,I3,n3):=q3;have(m',hm,w3):=hN gZ H3 n3;exact⟨m',hm,gZ,H3,I3,w3⟩
  |brk=>exact q3
  |ret v=>exact q3
 |false=>
  rw[a6Q qf];exact a1O ⟨fV,H2,I2,q2⟩
end
structure It where
 go:Nat->Hp->Prop
 Ac:Nat->Hp->V->Hp->Prop
 stop:Nat->Hp->Prop
def jo(X:Cx)(pins:Qa (Qg×Obj))(H:Hp)(b:Qg):Prop :=
 H b=Ž/\b≠X.env.locals/\b∉X.fs/\(b∈X.ex\/X.bC.heap.objs.size<=b)/\(∀x c,X.env.cells.lookup x=ž c->c≠b)/\∀p∈X.pn++pins,p.1≠b
def Inv.gD{X:Cx}{pins:Qa (Qg×Obj)}{σ:St}{H H':Hp}{s:Qd}{b:Qg}(I:Inv X pins σ H s)(hb:s.heap.objs.size<=b)(hn:H' b=Ž):jo X pins H' b:=by
 refine⟨hn,û<|qi I.lt hb,I.Jn hb,.inr<|qx I.sz hb,λx c e z=>?_,λp hp z=>?_⟩
 .have(v,q):=I.cell x c e
  exact absurd (qi q.lt (by rw[z];exact hb))<|Ð _
 .exact absurd (qi (qh (I.pin p hp).1) (by rw[z];exact hb)) (Ð _)
structure Turn (P:Qe) (w:Qh) (K:qc) (tg:Ķ) (J:It) (fp:Qa Qg) (it:Qg) (tn:Nat->ĵ->Prop):Prop where
 mem:it∈fp
 obj:∀i h,tn i h->∀b∈fp,∃o,h.get? b=ž o/\∀v,o.data≠.cell v
 keep:∀i h h',tn i h->(∀b∈fp,∀o,h.get? b=ž o->h'.get? b=ž o)->tn i h'
 item:∀(X:Cx),X.prog=P->X.w=w->X.K=K->X.calm=ż->∀(i:Nat) (pins:Qa (Qg×Obj)) (s:Qd) (σ:St) (H:Hp) (E:Qc->Qd->Prop),Inv X pins σ H s->(∀b∈fp,jo X pins H b)->tn i s.heap->J.go i H->
  ĕ (Ę P w) X.A (Ψ<|.ref it) (λr s1=>∃u,r=ž u/\
   ĕ (Ę P w) X.A (a1P tg (.ref it) u) (λ_ s2=>∃x H',Inv X pins σ H' s2/\zU x u/\J.Ac i H x H'/\tn (i+1) s2.heap/\∀b∈fp,H' b=Ž) E s1) E s
 done:∀(X:Cx),X.prog=P->X.w=w->X.K=K->X.calm=ż->∀(i:Nat) (pins:Qa (Qg×Obj)) (s:Qd) (σ:St) (H:Hp) (E:Qc->Qd->Prop),Inv X pins σ H s->(∀b∈fp,jo X pins H b)->tn i s.heap->J.stop i H->
  ĕ (Ę P w) X.A (Ψ<|.ref it) (λr s1=>r=Ž/\Inv X pins σ H s1) E s
 self:∀(A:Qf) (i:Nat) (s:Qd) (Q:Qc->Qd->Prop) (E:Qc->Qd->Prop),tn i s.heap->Q (.ref it) s->ĕ (Ę P w) A (a3H<|.ref it) Q E s
abbrev TI:=St->Hp->(It->Hp->Prop)->Prop
def KI(X:Cx)(pins:Qa (Qg×Obj))(σ:St)(tg:Ķ)(R:It->Hp->Prop)(El:Qc)(s2:Qd):Prop :=
 ∃(it:Qg) (fp:Qa Qg) (tn:Nat->ĵ->Prop) (J:It) (H':Hp),El=.ref it/\Inv X pins σ H' s2/\Turn X.prog X.w X.K tg J fp it tn/\tn 0 s2.heap/\(∀b∈fp,jo X pins H' b)/\R J H'
def PI(X:Cx)(tg iter:Ķ)(wi:TI):Prop :=
 ∀(pins:Qa (Qg×Obj)) (s:Qd) (σ:St) (H:Hp) (R:It->Hp->Prop),Inv X pins σ H s->wi σ H R->
  ĕ (Ę X.prog X.w) X.A (Ÿ iter X.env) (λv s1=>ĕ (Ę X.prog X.w) X.A (a3H v) (KI X pins σ tg R) X.xe s1) X.xe s
def Cp{M:Model}{A:Qf}{E:Qc->Qd->Prop}{s:Qd}{tg:Ķ}{it:Qg}{u:Qc}{o:Obj}{n:String}{vs:Array Qc}{Q:Unit->Qd->Prop}(ho:s.heap.get? it=ž o)(hc:o.cls=.type n)(hd:o.data=.fields vs)
  (hn:["enumerate", "zip", "dict_itemiterator", "dict_reverseitemiterator", "odict_iterator", "itertools.zip_longest", "itertools.pairwise"].contains n=Ż) (hQ:Q () s):ĕ M A (a1P tg (.ref it) u) Q E s:=by
 unfold a1P;cases tg<;>first
  |exact qb hQ
  | (cases u<;>first
    |exact qb hQ
    | (refine qa<|wpAny_load ho ?_
       rw[hc,hd];show ĕ M A (if(["enumerate", "zip", "dict_itemiterator", "dict_reverseitemiterator", "odict_iterator", "itertools.zip_longest", "itertools.pairwise"].contains n && vs[0]?==ž (Ϝ _))=ż then _ else _) Q E s;rw[a6Q (by intro h;rw[hn,a3F]at h;cases h)];exact qb hQ))
noncomputable def UR(K:qc)(a:Qg):It :=
 ⟨λi H=>∃xs x,b9 K H a xs/\xs[i]?=ž x,λi H x H'=>H'=H/\∀xs,b9 K H a xs->xs[i]?=ž x,λi H=>∃xs,b9 K H a xs/\xs.length<=i⟩
def UQ(K:qc)(a:Qg):It :=
 ⟨λi H=>∃xs x,bI K H a xs/\xs[i]?=ž x,λi H x H'=>H'=H/\∀xs,bI K H a xs->xs[i]?=ž x,λi H=>∃xs,bI K H a xs/\xs.length<=i⟩
def Bn(lo:Int)(n:Nat):It:=⟨λi _=>i < n,λi H x H'=>H'=H/\x=.int (lo+i),λi _=>n<=i⟩
def zp1{P:Qe}{w:Qh}{K:qc}{tg:Ķ}(a it:Qg):Turn P w K tg (UR K a) [it] it (λi h=>h.IsListIter it a i) where
 mem:=by simp
 obj:=λi h st b hb=>by
  have e:b=it:=by simpa using hb
  subst e;have(o,e,c,d):=st;exact⟨o,e,λv z=>by rw[d]at z;cases z⟩
 keep:=λi h h' st k=>st.at λo e=>k it (by simp) o e
 item:=by
  intro X hP hw hK hc i pins s σ H E I hf st hg;subst hP hw hK;have(xs,x,hq,hx):=hg;have(ai,rv,p,hz):=I.list hq;have(u,hu,ru):=rv.get hx;have(f0,f1,f2,f3,f4,f5):=hf it (by simp);refine wpAny_pyNext_list_item st p.isList (x:=u) (by simpa using hu) λh' au sb=>?_;have I1:Inv X pins σ H {s with heap:=h'}:=I.turned (t':=s.toks) (λb o hb e=>(sb.2 b hb).trans e) f0 f1 f3 f4 f5;have(o,e,c,d):=id au;exact⟨u,rfl,Cp (s:={s with heap:=h'}) e c d (by decide) ⟨x,H,I1,ru,⟨rfl,λys hy=>by rw[I.nO hy hq];exact hx⟩,au,λb hb=>(hf b hb).1⟩⟩
 done:=by
  intro X hP hw hK hc i pins s σ H E I hf st hg;subst hP hw hK;have(xs,hq,hx):=hg;have(ai,rv,p,hz):=I.list hq;have(f0,f1,f2,f3,f4,f5):=hf it (by simp);have hl:=rv.length;exact wpAny_pyNext_list_end (I.ok.hd hc) st p.isList (by simp;omega) λh' eb=>⟨rfl,I.turned (t':=s.toks) (λb o hb e=>eb b o hb e) f0 f1 f3 f4 f5⟩
 self:=λ_ _ _ _ _ st h=>wpAny_pyIter_listiter st h
def zmN{P:Qe}{w:Qh}{K:qc}{tg:Ķ}(a it:Qg):Turn P w K tg (UQ K a) [it] it (λi h=>h.IsTupleIter it a i) where
 mem:=by simp
 obj:=λi h st b hb=>by
  have e:b=it:=by simpa using hb
  subst e;have(o,e,c,d):=st;exact⟨o,e,λv z=>by rw[d]at z;cases z⟩
 keep:=λi h h' st k=>st.at λo e=>k it (by simp) o e
 item:=by
  intro X hP hw hK hc i pins s σ H E I hf st hg;subst hP hw hK;have(xs,x,hq,hx):=hg;have(ai,rv,p,hz):=I.tuple hq;have(u,hu,ru):=rv.get hx;have(f0,f1,f2,f3,f4,f5):=hf it (by simp);refine wpAny_pyNext_tuple_item st (show s.heap.IsTuple a ai.toArray from p) (x:=u) (by simpa using hu) λh' au sb=>?_;have I1:Inv X pins σ H {s with heap:=h'}:=I.turned (t':=s.toks) (λb o hb e=>(sb.2 b hb).trans e) f0 f1 f3 f4 f5;have(o,e,c,d):=id au;exact⟨u,rfl,Cp (s:={s with heap:=h'}) e c d (by decide) ⟨x,H,I1,ru,⟨rfl,λys hy=>by rw[I.dg hy hq];exact hx⟩,au,λb hb=>(hf b hb).1⟩⟩
 done:=by
  intro X hP hw hK hc i pins s σ H E I hf st hg;subst hP hw hK;have(xs,hq,hx):=hg;have(ai,rv,p,hz):=I.tuple hq;have(f0,f1,f2,f3,f4,f5):=hf it (by simp);have hl:=rv.length;exact wpAny_pyNext_tuple_end (I.ok.hd hc) st (show s.heap.IsTuple a ai.toArray from p) (by simp;omega) λh' eb=>⟨rfl,I.turned (t':=s.toks) (λb o hb e=>eb b o hb e) f0 f1 f3 f4 f5⟩
 self:=λ_ _ _ _ _ st h=>wpAny_pyIter_tupleiter st h
def zmO{P:Qe}{w:Qh}{K:qc}{tg:Ķ}(it:Qg)(lo:Int)(n:Nat):Turn P w K tg (Bn lo n) [it] it (λi h=>IsRangeIter h it (lo+(i:Nat) * 1) ((n:Int) - (i:Nat)) 1) where
 mem:=by simp
 obj:=λi h st b hb=>by
  have e:b=it:=by simpa using hb
  subst e;exact⟨_,st,λv z=>by
   have z':a3b _=a1N v:=z;cases z'⟩
 keep:=λi h h' st k=>k it (by simp) _ st
 item:=by
  intro X hP hw hK hc i pins s σ H E I hf st hg;subst hP hw hK;have(f0,f1,f2,f3,f4,f5):=hf it (by simp);have W:=Walks.range (prog:=X.prog) (w:=X.w) (I.ok.hd hc) it lo 1 n;refine W.item i s _ _ hg st λv h' tk hv au kk=>?_;have(t,rfl):=hv;have I1:Inv X pins σ H {s with heap:=h',toks:=tk}:=I.turned (λb o hb e=>kk b o (by simpa using hb) e) f0 f1 f3 f4 f5;refine⟨_,rfl,Cp (s:={s with heap:=h',toks:=tk}) (n := "range_iterator") au rfl rfl (by decide) ⟨.int<|lo+i,H,I1,⟨t,?_⟩,⟨rfl,rfl⟩,au,λb hb=>(hf b hb).1⟩⟩;rw[Int.mul_one]
 done:=by
  intro X hP hw hK hc i pins s σ H E I hf st hg;subst hP hw hK;have(f0,f1,f2,f3,f4,f5):=hf it (by simp);exact wpAny_pyNext_range_end (I.ok.hd hc) st (by have:n<=i:=hg;omega) λh' eb=>⟨rfl,I.turned (t':=s.toks) (λb o hb e=>eb b o hb e) f0 f1 f3 f4 f5⟩
 self:=λ_ _ _ _ _ st h=>wpAny_pyIter_rangeiter st h
section
variable{X:Cx}{tg:Ķ}
def F9(K:qc)(tl:TE):TI:=λσ H R=>tl σ H λx H1=>∃a,x=.ref a/\(∃xs,b9 K H1 a xs)/\R (UR K a) H1
def Fn(K:qc)(tl:TE):TI:=λσ H R=>tl σ H λx H1=>∃a,x=.ref a/\(∃xs,bI K H1 a xs)/\R (UQ K a) H1
def Zv{l:Ķ}{tl:TE}(hl:PE X l tl):PI X tg l (F9 X.K tl):=by
 intro pins s σ H R I h;refine aF (hl pins s σ H _ I h) λv s1 hZ=>?_;have(x,H1,I1,r1,q1):=hZ;obtain⟨a,e,⟨xs,hq⟩,q⟩:=q1;subst e;cases r1;have(ai,rv,p,hz):=I1.list hq;refine wpAny_pyIter_list p.isList ?_;refine⟨s1.heap.objs.size,[s1.heap.objs.size],_,_,H1,rfl,I1.kept (t':=s1.toks) λb o e=>qd _ e,zp1 a _,⟨_,qg _ rfl,rfl,rfl⟩,λb hb=>?_,q⟩;have e:b=s1.heap.objs.size:=by simpa using hb
 subst e;exact I1.gD (qe _)<|I1.aC.fresh<|qe _
def Vg{l:Ķ}{tl:TE}(hl:PE X l tl):PI X tg l (Fn X.K tl):=by
 intro pins s σ H R I h;refine aF (hl pins s σ H _ I h) λv s1 hZ=>?_;have(x,H1,I1,r1,q1):=hZ;obtain⟨a,e,⟨xs,hq⟩,q⟩:=q1;subst e;cases r1;have(ai,rv,p,hz):=I1.tuple hq;refine wpAny_pyIter_tuple (show s1.heap.IsTuple a ai.toArray from p) ?_;refine⟨s1.heap.objs.size,[s1.heap.objs.size],_,_,H1,rfl,I1.kept (t':=s1.toks) λb o e=>qd _ e,zmN a _,⟨_,qg _ rfl,rfl,rfl⟩,λb hb=>?_,q⟩;have e:b=s1.heap.objs.size:=by simpa using hb
 subst e;exact I1.gD (qe _)<|I1.aC.fresh<|qe _
def Pp{pins:Qa (Qg×Obj)}{σ:St}{H:Hp}{s:Qd}{R:It->Hp->Prop}{E:Qc->Qd->Prop}{lo hi:Int}{t u v:Tok}{tk:Nat}(I:Inv X pins σ H s)(h1:-(2^62)<=lo)(h2:lo < 2^62)(h3:-(2^62)<=hi)(h4:hi < 2^62)
  (q:R (Bn lo (hi - lo).toNat) H):ĕ (Ę X.prog X.w) X.A (a3H<|.ref s.heap.objs.size) (KI X pins σ tg R) E {s with heap:=s.heap.push {cls:=.type "range",data:=.fields #[.int lo t,.int hi u,.int 1 v]},toks:=tk}:=by
 refine wpAny_pyIter_range (IsRange.new ..) (small_one h1 h2 h3 h4) ?_;have I1:Inv X pins σ H {s with heap:=s.heap.push {cls:=.type "range",data:=.fields #[.int lo t,.int hi u,.int 1 v]},toks:=tk}:=I.kept λb o e=>qd _ e;refine⟨(s.heap.push {cls:=.type "range",data:=.fields #[.int lo t,.int hi u,.int 1 v]}).objs.size,[(s.heap.push {cls:=.type "range",data:=.fields #[.int lo t,.int hi u,.int 1 v]}).objs.size],_,_,H,rfl,
  I1.kept (t':=tk) λb o e=>qd _ e,zmO _ lo (hi - lo).toNat,?_,λb hb=>?_,q⟩
 .have e1:lo+((0:Nat):Int) * 1=lo:=by simp
  have e2:(((hi - lo).toNat:Nat):Int) - ((0:Nat):Int)=Builtin.Range.rangeSize lo hi 1:=by rw[rangeSize_one];split<;>omega
  show IsRangeIter _ _ (lo+((0:Nat):Int) * 1) ((((hi - lo).toNat:Nat):Int) - ((0:Nat):Int)) 1;rw[e1,e2];exact qg _ rfl
 .have e:b=(s.heap.push {cls:=.type "range",data:=.fields #[.int lo t,.int hi u,.int 1 v]}).objs.size:=by simpa using hb
  subst e;exact I1.gD (qe _)<|I1.aC.fresh<|qe _
def F8(ta:TA):TI:=λσ H R=>ta σ H λvs H1=>∃j:Int,vs=[.int j]/\-(2^62)<=j/\j < 2^62/\R (Bn 0 j.toNat) H1
def F7(ta:TA):TI:=λσ H R=>ta σ H λvs H1=>∃i j:Int,vs=[.int i,.int j]/\(-(2^62)<=i/\i < 2^62/\-(2^62)<=j/\j < 2^62)/\R (Bn i (j - i).toNat) H1
def zp2{a:Ķ}{ta:TA}{p pos:Pos}(hg:Gl X "range")(hm:X.mg "range"=Ž)(ha:PA X [a] ta)(hs:Ļ [a] X.env=[(Ż,Ÿ a X.env)]:=by rfl):PI X tg (.Call (.Name "range" p) [a] [] pos) (F8 ta):=by
 intro pins s σ H R I h;refine Call_<|t9 I hg hm boot_range<|ê (aF (ha pos pins s σ H _ I h) λus s1 hZ=>?_) hs rfl;have(vs,H1,I1,r1,q1):=hZ;have(j,e,q1,q2,q):=q1;subst e;cases r1 with
 |cons r rr=>
  cases rr;have(t,rfl):=r;exact call_range_1<|Pp I1 (by omega) (by omega) q1 q2 (by simpa using q)
def zp3{a b:Ķ}{ta:TA}{p pos:Pos}(hg:Gl X "range")(hm:X.mg "range"=Ž)(ha:PA X [a,b] ta)(hs:Ļ [a,b] X.env=[(Ż,Ÿ a X.env),(Ż,Ÿ b X.env)]:=by rfl)(uK:Ļ [b] X.env=[(Ż,Ÿ b X.env)]:=by rfl):
  PI X tg (.Call (.Name "range" p) [a,b] [] pos) (F7 ta):=by
 intro pins s σ H R I h;refine Call_<|t9 I hg hm boot_range<|ê (aF (ha pos pins s σ H _ I h) λus s1 hZ=>?_) (by rw[hs,uK]) (by rw[uK];rfl);have(vs,H1,I1,r1,q1):=hZ;obtain⟨i,j,e,⟨q1,q2,q3,q4⟩,q⟩:=q1;subst e;cases r1 with
 |cons r rr=>
  cases rr with
  |cons r' rr=>
   cases rr;have(t,rfl):=r;have(t',rfl):=r';exact call_range_2<|Pp I1 q1 q2 q3 q4 q
def Fm(wi:TI)(g:TG)(tb:TS):TS:=λD σ H=>wi σ H λJ H1=>∃W:Nat->Nat->St->Hp->Prop,(∃m,W 0 m σ H1)/\∀i m σ H,W i m σ H->
 (J.stop i H/\D.nx σ H)\/(J.go i H/\∃N:St->Hp->Prop,(∀aK H',N aK H'->∃m',m' < m/\W (i+1) m' aK H')/\∀x H',J.Ac i H x H'->g x σ H' λip H2=>tb {D with nx:=N,ct:=N,bk:=D.nx} ip H2)
noncomputable def yr(fp:Qa Qg)(h:ĵ):Qa (Qg×Obj):=fp.filterMap λb=>(h.get? b).map λo=>(b,o)
def DB{fp:Qa Qg}{h:ĵ}{b:Qg}{o:Obj}(hb:b∈fp)(e:h.get? b=ž o):(b,o)∈yr fp h:=List.mem_filterMap.mpr ⟨b,hb,by rw[e];rfl⟩
def zp4{fp:Qa Qg}{h:ĵ}{p:Qg×Obj}(hp:p∈yr fp h):p.1∈fp/\h.get? p.1=ž p.2:=by
 have(b,hb,e):=List.mem_filterMap.mp hp;cases q:h.get? b with
 |none=>rw[q]at e;cases e
 |some o=>
  rw[q]at e;have e':(b,o)=p:=qw e;subst e';exact⟨hb,q⟩
def Inv.pinned{pins:Qa (Qg×Obj)}{σ:St}{H:Hp}{s:Qd}{fp:Qa Qg}(I:Inv X pins σ H s)(hf:∀b∈fp,jo X pins H b)(ho:∀b∈fp,∃o,s.heap.get? b=ž o/\∀v,o.data≠.cell v):Inv X (pins++yr fp s.heap) σ H s :=
 I.fZ λp hp=>(Â.mp hp).elim (λz=>I.pin p<|qv _ z) λz=>by
  have(hb,e):=zp4 z;have(f0,f1,f2,_):=hf p.1 hb;have(o,e',d):=ho p.1 hb;rw[e]at e';cases e';exact⟨e,f0,f1,f2,d⟩
def Inv.gu{pins pl:Qa (Qg×Obj)}{σ:St}{H:Hp}{s:Qd}(I:Inv X (pins++pl) σ H s):Inv X pins σ H s:=I.fZ λp hp=>I.pin p<|qv _<|Ë _ hp
def Vf{iter:Ķ}{body:Qa ū}{wi:TI}{g:TG}{tb:TS}{pos:Pos}(hp:a5I (Ę X.prog X.w) X.A X.env X.xe)(hc:X.calm=ż)(hi:PI X tg iter wi)(hg:PG X tg g)(hb:fu X body tb)
  (hs:∀x,ς iter X.env x=pure x:=by intro _;rfl):PS X (.For tg iter body [] pos) (Fm wi g tb):=by
 intro pins s σ H D I h;refine wpAny_For (aF (hi pins s σ H _ I h) λv s1 h1=>aF h1 λEl s2 h2=>?_) hs;obtain⟨it,fp,tn,J,H2,e,I2,T,bM,f2,W,⟨m0,w0⟩,turn⟩:=h2;subst e;have uq:∀{H':Hp},(∀b∈fp,H' b=Ž)->∀b∈fp,jo X pins H' b:=λhn b hb=>⟨hn b hb,(f2 b hb).2⟩;refine codeAny_forLoop_any (λn s'=>∃i aK H',Inv X pins aK H' s'/\tn i s'.heap/\(∀b∈fp,H' b=Ž)/\W i n aK H') ?_ m0 ⟨0,σ,H2,I2,bM,λb hb=>(f2 b hb).1,w0⟩;rintro n s3 ⟨i,gZ,H3,I3,iX,A6,w3⟩;rcases turn i n gZ H3 w3 with⟨stop,qn⟩|⟨go,N,hN,step⟩
 .refine Ϯ hp (aF (T.done X rfl rfl rfl hc i pins s3 gZ H3 X.xe I3 (uq A6) iX stop) λr s4 hZ=>?_)
  have(hr,I4):=hZ;subst hr;exact a1O ⟨gZ,H3,I4,qn⟩
 .refine Ϯ hp (aF (T.item X rfl rfl rfl hc i pins s3 gZ H3 X.xe I3 (uq A6) iX go) λr s4 hZ=>?_)
  have(u,hr,h4):=hZ;subst hr;refine Ϯ hp<|aF h4 λ_ s5 hZ=>?_;have(x,H5,I5,r5,y5,qW,Kn):=hZ;have KP:=I5.pinned (uq Kn) (T.obj _ _ qW);refine Ϯ hp<|aF (hg _ s5 gZ H5 x u _ KP r5<|step x H5 y5) λ_ s6 hZ=>?_;have(xH,H6,I6,q6):=hZ;refine Ϯ hp<|aF (hb _ s6 xH H6 _ I6 q6) λf s7 q7=>?_;have again:∀{nh:St} {H7:Hp},Inv X (pins++yr fp s5.heap) nh H7 s7->N nh H7->∃m,m < n/\∃i aK H',Inv X pins aK H' s7/\tn i s7.heap/\(∀b∈fp,H' b=Ž)/\W i m aK H':=λ{nh H7} I7 n7=>by
   have(m',hm,w7):=hN nh H7 n7;refine⟨m',hm,i+1,nh,H7,I7.gu,T.keep _ _ _ qW λb hb o e=>(I7.pin (b,o)<|qv _<|qv _<|DB hb e).1,λb hb=>?_,w7⟩;have(o,e,d):=T.obj _ _ qW b hb;exact(I7.pin (b,o)<|qv _<|qv _<|DB hb e).2.1
  cases f with
  |next=>have(nh,H7,I7,n7):=q7;exact again I7 n7
  |cont=>have(nh,H7,I7,n7):=q7;exact again I7 n7
  |brk=>have(nh,H7,I7,q7):=q7;exact⟨nh,H7,I7.gu,q7⟩
  |ret v=>have(x7,nh,H7,I7,r7,q7):=q7;exact⟨x7,nh,H7,I7.gu,r7,q7⟩
end
abbrev R2:=V->V->Hp->VK->Prop
def bz(X:Cx)(f:Qc->Qc->Sem Qc)(r:R2):Prop :=
 ∀(pins:Qa (Qg×Obj)) (s:Qd) (σ:St) (H:Hp) (x y:V) (v u:Qc) (Q:VK),Inv X pins σ H s->zU x v->zU y u->r x y H Q->
  ĕ (Ę X.prog X.w) X.A (f v u) (EP X pins σ Q) X.xe s
def EV(X:Cx)(f:Qc->Sem Qc)(r:V->Hp->VK->Prop):Prop :=
 ∀(pins:Qa (Qg×Obj)) (s:Qd) (σ:St) (H:Hp) (x:V) (v:Qc) (Q:VK),Inv X pins σ H s->zU x v->r x H Q->
  ĕ (Ę X.prog X.w) X.A (f v) (EP X pins σ Q) X.xe s
def gJ(X:Cx)(f:Qc)(r:Qa V->Hp->VK->Prop):Prop :=
 ∀(pins:Qa (Qg×Obj)) (s:Qd) (σ:St) (H:Hp) (xs:Qa V) (us:Qa Qc) (Q:VK),Inv X pins σ H s->zQ xs us->r xs H Q->
  ĕ (Ę X.prog X.w) X.A (a2A f us) (EP X pins σ Q) X.xe s
def zDs(X:Cx)(r:V->Hp->(Bool->Hp->Prop)->Prop):Prop :=
 ∀(pins:Qa (Qg×Obj)) (s:Qd) (σ:St) (H:Hp) (x:V) (v:Qc) (Q:Bool->Hp->Prop),Inv X pins σ H s->zU x v->r x H Q->
  ĕ (Ę X.prog X.w) X.A (truthy v) (TP X pins σ Q) X.xe s
def mW(r:R2)(ta tb:TE):TE:=λσ H Q=>ta σ H λx H1=>tb σ H1 λy H2=>r x y H2 Q
def IU(r:V->Hp->VK->Prop)(ta:TE):TE:=λσ H Q=>ta σ H λx H1=>r x H1 Q
def rI(C:Int->Int->Prop)(g:Int->Int->V):R2:=λx y H Q=>∃i j,x=.int i/\y=.int j/\C i j/\Q (g i j) H
def ju(g:Int->Int->V):R2:=λx y H Q=>∃i j,x=.int i/\y=.int j/\Q (g i j) H
def rU(g:Int->V):V->Hp->VK->Prop:=λx H Q=>∃i,x=.int i/\Q (g i) H
section
variable{X:Cx}{a b c:Ķ}{ta tb tc:TE}{pos:Pos}
def Fk(ha:PE X a ta)(hb:PE X b tb){pins:Qa (Qg×Obj)}{s:Qd}{σ:St}{H:Hp}{R:V->V->Hp->Prop}(I:Inv X pins σ H s)
  (h:ta σ H λx H1=>tb σ H1 λy H2=>R x y H2) {Q:Qc->Qd->Prop} {f:Qc->Qc->Sem Qc}
  (hf:∀v u s2 x y H2,Inv X pins σ H2 s2->zU x v->zU y u->R x y H2->ĕ (Ę X.prog X.w) X.A (f v u) Q X.xe s2):
  ĕ (Ę X.prog X.w) X.A (Ÿ a X.env) (λv aI=>ĕ (Ę X.prog X.w) X.A (Ÿ b X.env) (λu gO=>ĕ (Ę X.prog X.w) X.A (f v u) Q X.xe gO) X.xe aI) X.xe s:=by
 refine aF (ha pins s σ H _ I h) λv s1 hZ=>?_;have(x,H1,I1,r1,q1):=hZ;refine aF (hb pins s1 σ H1 _ I1 q1) λu s2 hZ=>?_;have(y,H2,I2,r2,q2):=hZ;exact hf v u s2 x y H2 I2 r1 r2 q2
def zBC{op:Operator}{r:R2}(ho:bz X (Ŷ op) r)(ha:PE X a ta)(hb:PE X b tb):PE X (.BinOp a op b pos) (mW r ta tb):=by
 intro pins s σ H Q I h;exact wpAny_BinOp<|Fk ha hb I h λv u s2 x y H2 I2 rx ry q=>ho pins s2 σ H2 x y v u Q I2 rx ry q
def zBD{op:UnaryOp}{r:V->Hp->VK->Prop}(ho:EV X (unaryOp op) r)(ha:PE X a ta):PE X (.UnaryOp op a pos) (IU r ta):=by
 intro pins s σ H Q I h;exact UnaryOp_<|aF (ha pins s σ H _ I h) λv s1 ⟨x,H1,I1,r1,q1⟩=>ho pins s1 σ H1 x v Q I1 r1 q1
def wZ{f:Qc->Qc->Sem Qc}{C:Int->Int->Prop}{g:Int->Int->Int}
  (rule:∀(i j:Int) (t u:Tok) (s:Qd) (Q:Qc->Qd->Prop) (E:Qc->Qd->Prop),C i j->Q (.int (g i j) s.toks) {s with toks:=s.toks+1}->ĕ (Ę X.prog X.w) X.A (f (.int i t)<|.int j u) Q E s):
  bz X f (rI C λi j=>.int<|g i j):=by
 intro pins s σ H x y v u Q I rx ry h;have(i,j,rfl,rfl,hc,q):=h;have(t,rfl):=rx;have(t',rfl):=ry;exact rule i j t t' s _ _ hc ⟨.int<|g i j,H,I.tok _,⟨_,rfl⟩,q⟩
def SJ{f:Qc->Qc->Sem Qc}{g:Int->Int->Int}
  (rule:∀(i j:Int) (t u:Tok) (s:Qd) (Q:Qc->Qd->Prop) (E:Qc->Qd->Prop),Q (.int (g i j) s.toks) {s with toks:=s.toks+1}->ĕ (Ę X.prog X.w) X.A (f (.int i t)<|.int j u) Q E s):
  bz X f (ju λi j=>.int<|g i j):=by
 intro pins s σ H x y v u Q I rx ry h;have(i,j,rfl,rfl,q):=h;have(t,rfl):=rx;have(t',rfl):=ry;exact rule i j t t' s _ _ ⟨.int<|g i j,H,I.tok _,⟨_,rfl⟩,q⟩
def BY{f:Qc->Qc->Sem Qc}{g:Int->Int->Bool}
  (rule:∀(i j:Int) (t u:Tok) (s:Qd) (Q:Qc->Qd->Prop) (E:Qc->Qd->Prop),Q (.bool<|g i j) s->ĕ (Ę X.prog X.w) X.A (f (.int i t)<|.int j u) Q E s):
  bz X f (ju λi j=>.bl<|g i j):=by
 intro pins s σ H x y v u Q I rx ry h;have(i,j,rfl,rfl,q):=h;have(t,rfl):=rx;have(t',rfl):=ry;exact rule i j t t' s _ _ ⟨.bl<|g i j,H,I,rfl,q⟩
def BX(i j:Int):Prop:=0<=j/\j<=1000000/\i.natAbs < 2^64
def vH(i j:Int):Prop:=(-(2^64) < i/\i < 2^64)\/(-(2^64) < j/\j < 2^64)
def vH.ok{i j:Int}(h:vH i j):IntMulOk i j:=by
 rcases h with⟨h1,h2⟩|⟨h1,h2⟩
 .exact .of_left (intBits_le_64 h1 h2)
 .exact .of_right (intBits_le_64 h1 h2)
def gK:bz X (Ŷ .Add) (ju λi j=>.int<|i+j):=SJ λ_ _ _ _ _ _ _ q=>add_int q
def t8:bz X (Ŷ .Sub) (ju λi j=>.int<|i - j):=SJ λ_ _ _ _ _ _ _ q=>sub_int q
def j9:bz X (Ŷ .Mult) (rI vH λi j=>.int<|i * j):=wZ λ_ _ _ _ _ _ _ hc q=>mul_int q hc.ok
def mU:bz X (Ŷ .Mod) (rI (λ_ j=>0 < j) λi j=>.int<|i % j):=wZ λi j _ _ _ _ _ hc q=>by
 have h1:(0:Int) < j:=hc;exact mod_int' (by omega) (by rw[Int.fmod_eq_emod_of_nonneg i (by omega)];exact q)
def Ve:bz X (Ŷ .Pow) (rI BX λi j=>.int<|i^j.toNat):=wZ λ_ _ _ _ _ _ _ hc q=>pow_int_small hc.1 hc.2.1 hc.2.2 q
def unI{f:Qc->Sem Qc}{g:Int->Int}
  (rule:∀(i:Int) (t:Tok) (s:Qd) (Q:Qc->Qd->Prop) (E:Qc->Qd->Prop),Q (.int (g i) s.toks) {s with toks:=s.toks+1}->ĕ (Ę X.prog X.w) X.A (f<|.int i t) Q E s):
  EV X f (rU λi=>.int<|g i):=by
 intro pins s σ H x v Q I rx h;have(i,rfl,q):=h;have(t,rfl):=rx;exact rule i t s _ _ ⟨.int<|g i,H,I.tok _,⟨_,rfl⟩,q⟩
def qJ:EV X (unaryOp .USub) (rU λi=>.int (-i)):=unI λ_ _ _ _ _ q=>neg_int q
end
noncomputable def Fj:V->V->Bool
 |.aO,.aO=>ż |.aO,.int _=>ż |.int _,.aO=>ż |.aO,.bl _=>ż |.bl _,.aO=>ż |.aO,.str _=>ż |.str _,.aO=>ż
 |.int _,.int _=>ż |.bl _,.bl _=>ż |.str _,.str _=>ż |.lU _,.lU _=>ż
 |.int _,.str _=>ż |.str _,.int _=>ż |.bl _,.str _=>ż |.str _,.bl _=>ż
 |_,_=>Ż
def S7:R2:=λx y H Q=>Fj x y=ż/\Q (.bl<|decide<|x=y) H
def S6:R2:=λx y H Q=>Fj x y=ż/\Q (.bl (!decide (x=y))) H
def Ol{i j:Int}:decide (V.int i=V.int j)=(i==j):=by
 rw[Ş];simp
def MM{i j:Bool}:decide (V.bl i=V.bl j)=(i==j):=by
 rw[Ş];simp
def Oj{i j:Str}:decide (V.str i=V.str j)=(i==j):=by
 rw[Ş];simp
def Oi{i j:Array UInt8}:decide (V.lU i=V.lU j)=(i.toList==j.toList):=by
 rw[Ş];cases i;cases j;simp
section
variable{X:Cx}{a b c:Ķ}{ta tb tc:TE}{pos:Pos}
def de{pins:Qa (Qg×Obj)}{σ:St}{H:Hp}{s:Qd}{Q:VK}{k k':Bool}(I:Inv X pins σ H s)(q:Q (.bl k) H)(e:k=k'):EP X pins σ Q (.bool k') s:=by
 subst e;exact⟨.bl k,H,I,rfl,q⟩
def nE:bz X (Ĭ .Eq) S7:=by
 intro pins s σ H x y v u Q I rx ry h;have(hs,q):=h;cases x with
 |aO=>
  cases rx;cases y with
  |aO=>cases ry;exact PySem.EqNone.eq_none_none<|de I q (by simp)
  |bl j=>cases ry;exact PySem.EqNone.eq_none_bool<|de I q (by simp)
  |int j=>have(t',rfl):=ry;exact PySem.EqNone.eq_none_int<|de I q (by simp)
  |str j=>have(t',rfl):=ry;exact PySem.EqNone.eq_none_str<|de I q (by simp)
  |_=>exact absurd (show Ż=ż from hs) qf
 |bl i=>
  cases rx;cases y with
  |aO=>cases ry;exact PySem.EqNone.eq_bool_none<|de I q (by simp)
  |bl j=>cases ry;exact eq_bool<|de I q MM
  |str j=>have(t',rfl):=ry;exact PySem.EqMixed.eq_bool_str<|de I q (by simp)
  |_=>exact absurd (show Ż=ż from hs) qf
 |int i=>
  have(t,rfl):=rx;cases y with
  |aO=>cases ry;exact PySem.EqNone.eq_int_none<|de I q (by simp)
  |int j=>have(t',rfl):=ry;exact eq_int<|de I q Ol
  |str j=>have(t',rfl):=ry;exact PySem.EqMixed.eq_int_str<|de I q (by simp)
  |_=>exact absurd (show Ż=ż from hs) qf
 |str i=>
  have(t,rfl):=rx;cases y with
  |aO=>cases ry;exact PySem.EqNone.eq_str_none<|de I q (by simp)
  |bl j=>cases ry;exact PySem.EqMixed.eq_str_bool<|de I q (by simp)
  |int j=>have(t',rfl):=ry;exact PySem.EqMixed.eq_str_int<|de I q (by simp)
  |str j=>have(t',rfl):=ry;exact eq_str<|de I q Oj
  |_=>exact absurd (show Ż=ż from hs) qf
 |lU i=>
  have(t,rfl):=rx;cases y with
  |lU j=>have(t',rfl):=ry;exact PySem.W.eq_bytes<|de I q Oi
  |_=>exact absurd (show Ż=ż from hs) qf
 |_=>cases y<;>exact absurd (show Ż=ż from hs) qf
def oP:bz X (Ĭ .NotEq) S6:=by
 intro pins s σ H x y v u Q I rx ry h;have(hs,q):=h;cases x with
 |aO=>
  cases rx;cases y with
  |aO=>cases ry;exact PySem.EqNone.ne_none_none<|de I q (by simp)
  |bl j=>cases ry;exact PySem.EqNone.ne_none_bool<|de I q (by simp)
  |int j=>have(t',rfl):=ry;exact PySem.EqNone.ne_none_int<|de I q (by simp)
  |str j=>have(t',rfl):=ry;exact PySem.EqNone.ne_none_str<|de I q (by simp)
  |_=>exact absurd (show Ż=ż from hs) qf
 |bl i=>
  cases rx;cases y with
  |aO=>cases ry;exact PySem.EqNone.ne_bool_none<|de I q (by simp)
  |bl j=>cases ry;exact ne_bool<|de I q<|congrArg not MM
  |str j=>have(t',rfl):=ry;exact PySem.EqMixed.ne_bool_str<|de I q (by simp)
  |_=>exact absurd (show Ż=ż from hs) qf
 |int i=>
  have(t,rfl):=rx;cases y with
  |aO=>cases ry;exact PySem.EqNone.ne_int_none<|de I q (by simp)
  |int j=>have(t',rfl):=ry;exact ne_int<|de I q<|congrArg not Ol
  |str j=>have(t',rfl):=ry;exact PySem.EqMixed.ne_int_str<|de I q (by simp)
  |_=>exact absurd (show Ż=ż from hs) qf
 |str i=>
  have(t,rfl):=rx;cases y with
  |aO=>cases ry;exact PySem.EqNone.ne_str_none<|de I q (by simp)
  |bl j=>cases ry;exact PySem.EqMixed.ne_str_bool<|de I q (by simp)
  |int j=>have(t',rfl):=ry;exact PySem.EqMixed.ne_str_int<|de I q (by simp)
  |str j=>have(t',rfl):=ry;exact ne_str<|de I q<|congrArg not Oj
  |_=>exact absurd (show Ż=ż from hs) qf
 |lU i=>
  have(t,rfl):=rx;cases y with
  |lU j=>have(t',rfl):=ry;exact PySem.W.ne_bytes<|de I q<|congrArg not Oi
  |_=>exact absurd (show Ż=ż from hs) qf
 |_=>cases y<;>exact absurd (show Ż=ż from hs) qf
def qF:bz X (Ĭ .Lt) (ju λi j=>.bl<|decide<|i < j):=BY λ_ _ _ _ _ _ _ q=>lt_int q
def tP:bz X (Ĭ .LtE) (ju λi j=>.bl<|decide<|i<=j):=BY λ_ _ _ _ _ _ _ q=>le_int q
def Cr:bz X (Ĭ .Gt) (ju λi j=>.bl<|decide<|j < i):=BY λ_ _ _ _ _ _ _ q=>gt_int q
def F6:bz X (Ĭ .GtE) (ju λi j=>.bl<|decide<|j<=i):=BY λ_ _ _ _ _ _ _ q=>ge_int q
def ML:bz X (Ĭ .Is) (λx y H Q=>y=.aO/\Q (.bl<|decide<|x=.aO) H):=by
 intro pins s σ H x y v u Q I rx ry h;have(rfl,q):=h;cases ry;refine is_none_gen<|de I q ?_;cases x<;>first
  | (cases rx;rfl)
  | (have(t,rfl):=rx;rfl)
def MK(b:Ķ){op:a2S}(h:op≠.In:=by decide)(h2:op≠.NotIn:=by decide):ϊ op b=Ż:=by
 have e1:(op==CmpOp.In)=Ż:=by cases op<;>first|rfl|exact absurd rfl h
 have e2:(op==CmpOp.NotIn)=Ż:=by cases op<;>first|rfl|exact absurd rfl h2
 cases b<;>simp[ϊ,e1,e2]
def Zu{op:a2S}{r:R2}(ho:bz X (Ĭ op) r)(ha:PE X a ta)(hb:PE X b tb)(hm:ϊ op b=Ż):PE X (.Compare a [op] [b] pos) (mW r ta tb):=by
 intro pins s σ H Q I h;exact wpAny_Compare1 (Fk ha hb I h λv u s2 x y H2 I2 rx ry q=>ho pins s2 σ H2 x y v u Q I2 rx ry q) hm
def tO(t:TE):TT:=λσ H Q=>t σ H λx H'=>∃k,x=.bl k/\Q k H'
def Zt{op:a2S}{r:R2}(ho:bz X (Ĭ op) r)(ha:PE X a ta)(hb:PE X b tb)(hm:ϊ op b=Ż):PT X (.Compare a [op] [b] pos) (tO<|mW r ta tb):=by
 intro pins s σ H Q I h;refine a6d (aF (ha pins s σ H _ I h) λv s1 hZ=>?_) hm;have(x,H1,I1,r1,q1):=hZ;refine aF (hb pins s1 σ H1 _ I1 q1) λu s2 hZ=>?_;have(y,H2,I2,r2,q2):=hZ;refine aF (ho pins s2 σ H2 x y v u _ I2 r1 r2 q2) λc s3 hZ=>?_;have(z,H3,I3,r3,k,e,q3):=hZ;subst e;cases r3;exact ĺ ⟨H3,I3,q3⟩
def yq(r r':R2)(ta tb tc:TE):TE:=λσ H Q=>ta σ H λx H1=>tb σ H1 λy H2=>r x y H2 λz H3=>∃k,z=.bl k/\
 (if k=ż then tc σ H3 λw' H4=>r' y w' H4 Q else Q (.bl Ż) H3)
def zrp{op hV:a2S}{r r':R2}(ho:bz X (Ĭ op) r)(dF:bz X (Ĭ hV) r')(ha:PE X a ta)(hb:PE X b tb)(hc:PE X c tc)
  (hm:a2s [op,hV] [b,c]=Ż:=by with_unfolding_all rfl):PE X (.Compare a [op,hV] [b,c] pos) (yq r r' ta tb tc):=by
 intro pins s σ H Q I h;refine Compare_chain (aF (ha pins s σ H _ I h) λv s1 hZ=>?_) hm;have(x,H1,I1,r1,q1):=hZ;refine chain_link<|aF (hb pins s1 σ H1 _ I1 q1) λu s2 hZ=>?_;have(y,H2,I2,r2,q2):=hZ;refine aF (ho pins s2 σ H2 x y v u _ I2 r1 r2 q2) λd s3 hZ=>?_;have(z,H3,I3,r3,k,e,q3):=hZ;subst e;cases r3;refine ĺ ?_;cases k with
 |false=>exact ite_ff ⟨.bl Ż,H3,I3,rfl,q3⟩
 |true=>
  refine ite_tt<|chain_last<|aF (hc pins s3 σ H3 _ I3 q3) λw' s4 hZ=>?_;have(z',H4,I4,r4,q4):=hZ;exact dF pins s4 σ H4 y z' u w' Q I4 r2 r4 q4
def zrq{op hV:a2S}{r r':R2}(ho:bz X (Ĭ op) r)(dF:bz X (Ĭ hV) r')(ha:PE X a ta)(hb:PE X b tb)(hc:PE X c tc)
  (hm:a2s [op,hV] [b,c]=Ż:=by with_unfolding_all rfl):PT X (.Compare a [op,hV] [b,c] pos) (tO<|yq r r' ta tb tc):=by
 intro pins s σ H Q I h;refine isTrue_chain (aF (ha pins s σ H _ I h) λv s1 hZ=>?_) hm;have(x,H1,I1,r1,q1):=hZ;refine test_link<|aF (hb pins s1 σ H1 _ I1 q1) λu s2 hZ=>?_;have(y,H2,I2,r2,q2):=hZ;refine aF (ho pins s2 σ H2 x y v u _ I2 r1 r2 q2) λd s3 hZ=>?_;have(z,H3,I3,r3,k,e,q3):=hZ;subst e;cases r3;refine ĺ ?_;cases k with
 |false=>
  have(k',e',q'):=q3;cases e';exact ite_ff ⟨H3,I3,q'⟩
 |true=>
  refine ite_tt<|test_last<|aF (hc pins s3 σ H3 _ I3 q3) λw' s4 hZ=>?_;have(z',H4,I4,r4,q4):=hZ;refine aF (dF pins s4 σ H4 y z' u w' _ I4 r2 r4 q4) λd' s5 hZ=>?_;have(z2,H5,I5,r5,k2,e2,q5):=hZ;subst e2;cases r5;exact ĺ ⟨H5,I5,q5⟩
def Fi(K:qc)(x:V)(H:Hp)(k:Bool):Prop :=
 match x with
 |.aO=>k=Ż
 |.bl b=>k=b
 |.int i=>k=(i != 0)
 |.str y=>y.length<=Ĕ/\k=((y.length:Int) != 0)
 |.lU y=>y.size<=Ĕ/\k=((y.size:Int) != 0)
 |.ref p=>(∃xs,b9 K H p xs/\k=!xs.isEmpty)\/(∃xs,bI K H p xs/\k=!xs.isEmpty)\/∃kvs,H p=ž (.dK kvs)/\k=!kvs.isEmpty
 |_=>False
def zmP{κ:Type}{kvs:Qa (κ×V)}{vs:Qa (κ×Qc)}(r:KV kvs vs):(!vs.isEmpty)=!kvs.isEmpty:=by
 cases r<;>rfl
def Qt{xs:Qa V}{ai:Qa Qc}(r:zQ xs ai):(!ai.toArray.isEmpty)=!xs.isEmpty:=by
 cases r<;>simp
def t7:(Ĕ:Nat) < 2^63:=by rw[a2m];decide
def Vd:zDs X (λx H Q=>∃k,Fi X.K x H k/\Q k H):=by
 intro pins s σ H x v Q I rx h;have(k,e,q):=h;have hl:=t7;have hs:Ĕ=16777216:=a2m;cases x with
 |aO=>
  cases rx;have e':k=Ż:=e;subst e';exact truthy_none ⟨H,I,q⟩
 |bl b=>
  cases rx;have e':k=b:=e;subst e';exact ĺ ⟨H,I,q⟩
 |int i=>
  have(t,rfl):=rx;have e':k=(i != 0):=e;subst e';exact PySem.P.truthy_int ⟨H,I,q⟩
 |str y=>
  have(t,rfl):=rx;obtain⟨hy,e'⟩:y.length<=Ĕ/\k=((y.length:Int) != 0):=e;subst e';exact PySem.P.truthy_str (by omega) ⟨H,I.tok _,q⟩
 |lU y=>
  have(t,rfl):=rx;obtain⟨hy,e'⟩:y.size<=Ĕ/\k=((y.size:Int) != 0):=e;subst e';exact PySem.W.truthy_bytes (by omega) ⟨H,I.tok _,q⟩
 |ref p=>
  cases rx;have e':(∃xs,b9 X.K H p xs/\k=!xs.isEmpty)\/(∃xs,bI X.K H p xs/\k=!xs.isEmpty)\/∃kvs,H p=ž (.dK kvs)/\k=!kvs.isEmpty:=e;rcases e' with⟨xs,hx,e'⟩|⟨xs,hx,e'⟩|⟨kvs,hx,e'⟩
  .subst e'
   have(ai,r,pl,hz):=I.list hx;have hlen:=r.length;exact wpAny_truthy_list pl.isList (by simp only[ě];omega) ⟨H,I.tok _,by rw[Qt r];exact q⟩
  .subst e'
   have(ai,r,pl,hz):=I.tuple hx;have hlen:=r.length;exact truthy_tuple pl (by simp only[ě];omega) ⟨H,I.tok _,by rw[Qt r];exact q⟩
  .subst e'
   obtain⟨hz,hS,vs,r,m⟩:kvs.length<=Ĕ/\(p==Ň)=Ż/\∃vs,KV kvs vs/\s.heap.DictOf (zI X.prog X.w) p vs:=I.aC p _ hx;have hlen:kvs.length=vs.length:=a0F r;exact wpAny_truthy_dict hS m (by omega) ⟨H,I.tok _,by rw[zmP r];exact q⟩
 |_=>exact(show False from e).elim
def zrr(ha:PE X a ta)(he:∀whole,a3J a X.env whole=(do let v <-whole;a4m a.pos;a0I [v] (truthy v))):
  PT X a (λσ H Q=>ta σ H λx H'=>∃k,Fi X.K x H' k/\Q k H'):=by
 intro pins s σ H Q I h;exact isTrue_plain (aF (ha pins s σ H _ I h) λv s1 ⟨x,H1,I1,r1,q1⟩=>Vd pins s1 σ H1 x v Q I1 r1 q1)<|he _
def DA:bz X (Ŷ .Add) (λx y H Q=>∃i j,x=.str i/\y=.str j/\i.length+j.length<=Ĕ/\Q (.str<|i++j) H):=by
 intro pins s σ H x y v u Q I rx ry h;have(i,j,rfl,rfl,hz,q):=h;have(t,rfl):=rx;have(t',rfl):=ry;exact add_str (λt' tk=>⟨.str<|i++j,H,I.tok _,⟨_,rfl⟩,q⟩) hz
def oO{x:V}{us:Qa Qc}(r:zQ [x] us):∃u,us=[u]/\zU x u:=by
 cases r with
 |cons r1 r2=>cases r2;exact⟨_,rfl,r1⟩
def Cq{x y:V}{us:Qa Qc}(r:zQ [x,y] us):∃u w',us=[u,w']/\zU x u/\zU y w':=by
 cases r with
 |cons r1 r2=>
  cases r2 with
  |cons r3 r4=>cases r4;exact⟨_,_,rfl,r1,r3⟩
def HE:gJ X (.builtin "abs") (λxs H Q=>∃i,xs=[.int i]/\Q (.int (if i < 0 then -i else i)) H):=by
 intro pins s σ H xs us Q I r h;have(i,rfl,q):=h;have(u,rfl,t,rfl):=oO r;exact call_abs_int λu tk=>⟨.int (if i < 0 then -i else i),H,I.tok _,⟨_,rfl⟩,q⟩
def zp6(hc:X.calm=ż):gJ X (.builtin "max") (λxs H Q=>∃i j,xs=[.int i,.int j]/\Q (.int (if j > i then j else i)) H):=by
 intro pins s σ H xs us Q I r h;have(i,j,rfl,q):=h;obtain⟨u,w',rfl,⟨t,rfl⟩,⟨t',rfl⟩⟩:=Cq r;refine max_two_ints (I.ok.hd hc) λh' tk k=>⟨_,H,I.kept k,?_,q⟩
 by_cases hj:j > i
 .rw[a6P hj,a6P hj];exact⟨_,rfl⟩
 .rw[a6Q hj,a6Q hj];exact⟨_,rfl⟩
def zp7(hc:X.calm=ż):gJ X (.builtin "min") (λxs H Q=>∃i j,xs=[.int i,.int j]/\Q (.int (if j < i then j else i)) H):=by
 intro pins s σ H xs us Q I r h;have(i,j,rfl,q):=h;obtain⟨u,w',rfl,⟨t,rfl⟩,⟨t',rfl⟩⟩:=Cq r;refine min_two_ints (I.ok.hd hc) λh' tk k=>⟨_,H,I.kept k,?_,q⟩
 by_cases hj:j < i
 .rw[a6P hj,a6P hj];exact⟨_,rfl⟩
 .rw[a6Q hj,a6Q hj];exact⟨_,rfl⟩
def Qj:gJ X (.type "int") (λxs H Q=>(∃i,xs=[.int i]/\Q (.int i) H)\/∃k,xs=[.bl k]/\Q (.int (if k then 1 else 0)) H):=by
 intro pins s σ H xs us Q I r h;rcases h with⟨i,rfl,q⟩|⟨k,rfl,q⟩
 .have(u,rfl,t,rfl):=oO r
  exact call_int_int ⟨.int i,H,I,⟨_,rfl⟩,q⟩
 .have(u,rfl,r1):=oO r
  cases r1;exact call_int_bool ⟨.int (if k then 1 else 0),H,I.tok _,⟨_,rfl⟩,q⟩
end
structure vj (h:ĵ) (x dx C:Qg) (mA:Str->Qb Qc):Prop where
 obj:h.get? x=ž (a2D C dx)
 ns:h.Ns1 dx mA
 ne:dx≠x
def PQ{h:ĵ}{dx:Qg}{mA:Str->Qb Qc}(n:h.Ns1 dx mA):∃od,h.get? dx=ž od/\∀name,a2X name od=ž (mA name):=by
 have(o,es,ep,ho,hd,hk,_,hm):=n;refine⟨o,ho,λname=>?_⟩;have e:=hm name;unfold nsFind findBy at e;rw[<-Array.find?_toList]at e;unfold a2X;rw[hd];dsimp only;split
 .rename_i y q
  rw[q]at e;exact congrArg ž e
 .rename_i q
  rw[q]at e;have a:es.toList.any (·.refKey)=Ż:=by
   rw[List.any_eq_false];intro y hy;have(z,t,i6):=hk y (Array.mem_toList_iff.mp hy);simp[DictEntry.refKey,i6]
  have a':¬es.toList.any (·.refKey)=ż:=by rw[a];exact qf
  rw[a6Q a'];exact congrArg ž e
def vj.look{h:ĵ}{x dx C:Qg}{mA:Str->Qb Qc}(I:vj h x dx C mA):∃od,PySem.W.InstAt h x (a2D C dx) C (ž od)/\∀name,a2X name od=ž (mA name):=
 let ⟨od,ho,hl⟩:=PQ I.ns
 ⟨od,⟨I.obj,rfl,rfl,ho⟩,hl⟩
def jW.some_of{v:V}{o:Qb Qc}(r:jW (ž v) o):∃u,o=ž u/\zU v u:=by
 cases o with
 |none=>exact(show False from r).elim
 |some u=>exact⟨u,rfl,r⟩
section
variable{P:Qe}{w:Qh}{K:qc}{H H':Hp}{h h':ĵ}{a C dx:Qg}{fs fs':Qa (Str×V)}
def Yz(aC:cP P w K H h)(e:H a=ž (.ins C dx fs)):∃mA,vj h a dx C mA/\(∀f,jW (fs.lookup f)<|mA f)/\PySem.Within mA (fs.map (·.1))/\fs.length<=1000/\H dx=ž (.own a):=by
 have(d,z,ne,ob,mA,n,r,q):=(show bX P w K H h a (.ins C dx fs) from aC a _ e);exact⟨mA,⟨ob,n,ne⟩,r,q,z,d⟩
end
structure E9 (K:qc) (C:Qg):Prop where
 pg:a5o K C Str.empty=ż
 hd:PySem.W.hasDictIn K C=ż
 po:PySem.W.plainOver K C=ż
 sa:ī K (.ref C) "__setattr__"=ž (ž<|.builtin "object.__setattr__")
def E9.get{K:qc}{C:Qg}(c:E9 K C)(f:Str):a5o K C f=ż:=c.pg
def sf(K:qc)(C:Qg)(f:Str):Prop:=ī K (.ref C) f=ž Ž
structure KJ (K:qc) (C:Qg) (m:Str) (f:Qg):Prop where
 at_:ī K (.ref C) m=ž (ž<|.ref f)
 fn:a0Y K (.ref f)=ż
 kp:ň K (.ref f)=ż
section
variable{X:Cx}{pins:Qa (Qg×Obj)}{σ:St}{H:Hp}{s:Qd}{A:Qf}{E:Qc->Qd->Prop}{Q:Qc->Qd->Prop}{c:Qc}{b:Bool}
inductive eB (K:qc) (H:Hp):V->Qc->Prop where
 |aO:eB K H .aO (.type "NoneType")
 |bl (x:Bool):eB K H (.bl x) (.type "bool")
 |int (i:Int):eB K H (.int i) (.type "int")
 |str (x:Str):eB K H (.str x) (.type "str")
 |xq (x:UInt64):eB K H (.xq x) (.type "float")
 |lst {a:Qg} {xs:Qa V} (e:H a=ž (.lst xs)):eB K H (.ref a) (.type "list")
 |aZ {a:Qg} {o:Obj} {xs:Qa V} (e:H a=ž (.aZ o<|.lst xs)):eB K H (.ref a) (.type "list")
 |tup {a:Qg} {xs:Qa V} (e:be K H a xs):eB K H (.ref a) (.type "tuple")
 |dK {a:Qg} {kvs:Qa (Key×V)} (e:H a=ž (.dK kvs)):eB K H (.ref a) (.type "dict")
 |dT {a:Qg} {kvs:Qa (Qa Key×V)} (e:H a=ž (.dT kvs)):eB K H (.ref a) (.type "dict")
 |ins {a C dx:Qg} {fs:Qa (Str×V)} (e:H a=ž (.ins C dx fs)) (cl:E9 K C) (ha:ī K (.ref C) "__class__"=ž (ž<|.builtin "object.__class__"))
   (hn:a2a K (.builtin "object.__class__") "__get__"=ž (ž<|.builtin "getset_descriptor.__get__")) (Tv:a2C K (.builtin "object.__class__")=ž ż)
   (hm:a1A K C (.type "object")=ž ż):eB K H (.ref a) (.ref C)
def zp8{x:V}{u t:Qc}(I:Inv X pins σ H s)(rx:zU x u)(ty:eB X.K H x t)(e:ŭ X.K t c=ž b)(h:∀tk,Q (.bool b) {s with toks:=tk}):
  ĕ (Ę X.prog X.w) A (a2A (.builtin "isinstance") [u,c]) Q E s:=by
 cases ty with
 |aO=>cases(show u=Ė from rx);exact Õ PySem.W.kitx_none I.bO ϱ e (λz=>nomatch z) h
 |bl y=>cases(show u=a5l y from rx);exact Õ PySem.W.kitx_bool I.bO ϱ e (λz=>nomatch z) h
 |int i=>have(t,q):=(show ∃t,u=a1z i t from rx);cases q;exact Õ PySem.W.kitx_int I.bO ϱ e (λz=>nomatch z) h
 |str y=>have(t,q):=(show ∃t,u=a3T y t from rx);cases q;exact Õ PySem.W.kitx_str I.bO ϱ e (λz=>nomatch z) h
 |xq y=>have(t,q):=(show ∃t,u=Value.float y t from rx);cases q;exact Õ PySem.W.kitx_float I.bO ϱ e (λz=>nomatch z) h
 | @lst a xs ea=>
  cases(show u=Ĝ a from rx);have(_,_,n,_,h1):=(show bX X.prog X.w X.K H s.heap a (.lst xs) from I.aC a _ ea);exact Õ a4S I.bO ⟨_,h1,rfl⟩ e (λz=>nomatch z) h
 | @aZ a ob xs ea=>
  cases(show u=Ĝ a from rx);have(_,_,_,n,_,h1):=(show bX X.prog X.w X.K H s.heap a (.aZ ob<|.lst xs) from I.aC a _ ea);exact Õ a4S I.bO ⟨_,h1,rfl⟩ e (λz=>nomatch z) h
 | @tup a xs ea=>
  cases(show u=Ĝ a from rx);rcases ea with ea|⟨o,ai,n,hk,hc,_⟩
  case inr=>exact Õ a4G I.bO ⟨o,I.bO a o hk,hc⟩ e (λz=>nomatch z) h
  have(_,_,_,p):=(show bX X.prog X.w X.K H s.heap a (.tup xs) from I.aC a _ ea);have(o,h1,h2,_):=p;exact Õ a4G I.bO ⟨o,h1,h2⟩ e (λz=>nomatch z) h
 | @dK a kvs ea=>
  cases(show u=Ĝ a from rx);have(_,_,vs,_,p):=(show bX X.prog X.w X.K H s.heap a (.dK kvs) from I.aC a _ ea);have(o,es,ep,h1,h2,_):=p;exact Õ a4T I.bO ⟨o,h1,h2.1⟩ e (λz=>nomatch z) h
 | @dT a kvs ea=>
  cases(show u=Ĝ a from rx);have(_,_,xs,_,o,es,ep,h1,h2,_):=(show bX X.prog X.w X.K H s.heap a (.dT kvs) from I.aC a _ ea);exact Õ a4T I.bO ⟨o,h1,h2.1⟩ e (λz=>nomatch z) h
 | @ins a C dx fs ea cl ha hn Tv hm=>
  cases(show u=Ĝ a from rx);have(mA,O,_):=Yz I.aC ea;have(od,J,_):=O.look;exact Õ (PySem.W.kitx_own (cl.get _) cl.hd ha hn Tv hm) I.bO J e (λz=>nomatch z) h
end
structure aG (k:Nat) (A:Qf):Prop where
 hd:A.handled=Ž
 dp:A.depth+3 * k+5 < recursionLimit
 un:A.units+16 * k+200 < Θ
 gd:A.guards=ž []
def aG.mono{j k:Nat}{A:Qf}(r:aG k A)(h:j<=k):aG j A:=⟨r.hd,by have:=r.dp;omega,by have:=r.un;omega,r.gd⟩
def aG.deeper{k:Nat}{A:Qf}(r:aG (k+1) A)(env:Env):aG k (A.deeper env):=
 ⟨r.hd,by have:=r.dp;show A.depth+1+3 * k+5 < _;omega,by have:=r.un;show A.units+3+16 * k+200 < _;omega,r.gd⟩
def zmQ{A:Qf}{C:Qg}{us:Qa Qc}{kw:Qa (Str×Qc)}:(A.under<|.builtin "type.__call__" ⟨.ref C::us,kw⟩).depth=A.depth+1:=by
 first|rfl|simp[a2j,Code.weight,Code.isCreation,Code.isGuard,Code.isCaller,Code.frames,a4v,guardIds]
def zmR{A:Qf}{C:Qg}{us:Qa Qc}{kw:Qa (Str×Qc)}:(A.under<|.builtin "type.__call__" ⟨.ref C::us,kw⟩).units=A.units+1:=by
 first|rfl|simp[a2j,Code.cUnits,Code.frames,a4v]
def aG.make{k:Nat}{A:Qf}(r:aG (k+1) A)(C:Qg)(us:Qa Qc)(kw:Qa (Str×Qc)):aG k (A.under<|.builtin "type.__call__" ⟨.ref C::us,kw⟩):=
 ⟨r.hd,by have:=r.dp;rw[zmQ];omega,by have:=r.un;rw[zmR];omega,by have:=r.gd;first|exact this|simpa [a2j,Code.isGuard,guardIds] using this⟩
def aG.depth{k:Nat}{A:Qf}(r:aG k A):A.depth < recursionLimit:=by have:=r.dp;omega
def aG.units{k:Nat}{A:Qf}(r:aG k A):A.units+64 < Θ:=by have:=r.un;omega
def pX:TA:=λ_ H Q=>Q [] H
def oN(ta:TE)(tr:TA):TA:=λσ H Q=>ta σ H λx H1=>tr σ H1 λxs H2=>Q (x::xs) H2
section
variable{X:Cx}{e:Ķ}{es:Qa Ķ}{te:TE}{t:TA}{pos:Pos}
def Vc:PA X [] pX:=λ_ _ _ _ H Q I h=>a5O ⟨[],H,I,.nil,h⟩
def Yy(ha:PE X e te)(hr:PA X es t)(hs:Ļ (e::es) X.env=(Ż,Ÿ e X.env)::Ļ es X.env:=by rfl):PA X (e::es) (oN te t):=by
 intro pos pins s σ H Q I h;rw[hs];show ĕ _ _ (spliced<|(Ż,Ÿ e X.env)::Ω pos (Ļ es X.env)) _ _ s;refine a2c<|aF (ha pins s σ H _ I h) λu s1 hZ=>?_;have(x,H1,I1,r1,q1):=hZ;exact aF (hr pos pins s1 σ H1 _ I1 q1) λus s2 ⟨xs,H2,I2,r2,q2⟩=>⟨x::xs,H2,I2,.cons r1 r2,q2⟩
def Fh(t:TA):TE:=λσ H Q=>t σ H λxs H1=>xs.length<=Ĕ/\∀p,H1 p=Ž->Q (.ref p) (upd H1 p<|.tup xs)
def BI(t:TA):TE:=λσ H Q=>t σ H λxs H1=>xs.length<=Ĕ/\∀p,H1 p=Ž->Q (.ref p) (upd H1 p<|.lst xs)
def Vb{x1}(h:PA X es t):PE X (.Tuple es x1 pos) (Fh t):=by
 intro pins s σ H Q I hq;refine wpAny_Tuple_spliced<|aF (h pos pins s σ H _ I hq) λus s1 ⟨xs,H1,I1,r,z,q⟩=>⟨by rw[<-r.length];exact z,?_⟩;have hf:H1 s1.heap.objs.size=Ž:=I1.aC.fresh (qe _);refine⟨.ref s1.heap.objs.size,upd H1 s1.heap.objs.size<|.tup xs,I1.laid (t':=s1.toks) (λb u e=>qd _ e) (qe _) ?_,rfl,q _ hf⟩;exact⟨z,us,r,⟨_,qg _ rfl,rfl,⟨_,rfl⟩,.inl rfl⟩⟩
def Va(h:PA X es t):PE X (.List es pos) (BI t):=by
 intro pins s σ H Q I hq;refine wpAny_List_spliced<|aF (h pos pins s σ H _ I hq) λus s1 ⟨xs,H1,I1,r,z,q⟩=>⟨by rw[<-r.length];exact z,?_⟩;have hf:H1 s1.heap.objs.size=Ž:=I1.aC.fresh (qe _);refine⟨.ref s1.heap.objs.size,upd H1 s1.heap.objs.size<|.lst xs,I1.laid (t':=s1.toks) (λb u e=>qd _ e) (qe _) ?_,rfl,q _ hf⟩;exact⟨z,us,0,r,qg _ rfl⟩
end
abbrev Sp:=Qa V->Hp->VK->XK->Prop
abbrev kJ:=Qa Env->Hp->Qd->XK->Qc->Qd->Prop
structure jT (P:Qe) (w:Qh) (K:qc) (mg:Str->Qb Qc) (base:ĵ) (A:Qf) (outer:Qa Env) (s:Qd) (H:Hp):Prop where
 frames:A.frames=ž outer
 mod:Mod K mg base
 bs:∀b o,base.get? b=ž o->s.heap.get? b=ž o/\H b=Ž
 pN:base.objs.size<=s.heap.objs.size
 fj:s.heap.FunFrames base outer
 tm:∀b∈ja outer,H b=Ž
 aC:cP P w K H s.heap
 bare:a1j s.gens
def CE(outer:Qa Env)(P:Qe)(w:Qh)(K:qc)(H:Hp)(s:Qd)(Q:VK)(u:Qc)(s':Qd):Prop :=
 ∃v H',s'.os=s.os/\a1j s'.gens/\Un (ja outer) [] H H' s.heap s'.heap/\cP P w K H' s'.heap/\zU v u/\Q v H'
def CR(CX:kJ)(outer:Qa Env)(P:Qe)(w:Qh)(K:qc)(H:Hp)(s:Qd)(Q:VK)(E:XK)(r:υ)(s':Qd):Prop :=
 match r with
 |.ok (.ret u)=>CE outer P w K H s Q u s'
 |.ok _=>False
 |.error e=>CX outer H s E e s'
structure bU (P:Qe) (w:Qh) (K:qc) (mg:Str->Qb Qc) (base:ĵ) (CX:kJ) (k:Nat) (f:Qg) (fd:Ϣ) (ps:Qa Str) (sp:Sp):Prop where
 len:∀vs H Q E,sp vs H Q E->vs.length=ps.length
 run:∀(A:Qf) (outer:Qa Env) (s:Qd) (H:Hp) (args:Args) (us:Qa Qc) (vs:Qa V) (Q:VK) (E:XK),aG k A->jT P w K mg base A outer s H->a4w s fd args (ps.zip us)->zQ vs us->sp vs H Q E->
  a0n (Ę P w) A (.call (.ref f) args) (CR CX outer P w K H s Q E) s
def jT.make{P:Qe}{w:Qh}{K:qc}{mg:Str->Qb Qc}{base:ĵ}{A:Qf}{outer:Qa Env}{s:Qd}{H:Hp}(e:jT P w K mg base A outer s H)(C:Qg)(us:Qa Qc)(kw:Qa (Str×Qc)):
  jT P w K mg base (A.under<|.builtin "type.__call__" ⟨.ref C::us,kw⟩) outer s H:=⟨by first|exact e.frames | (simpa [a2j,Code.envs,a4v,pushEnvs] using e.frames),e.mod,e.bs,e.pN,e.fj,e.tm,e.aC,e.bare⟩
section
variable{X:Cx}{pins:Qa (Qg×Obj)}{σ:St}{H:Hp}{s s':Qd}
def Inv.u7(I:Inv X pins σ H s):jT X.prog X.w X.K X.mg X.base X.A X.stack s H :=
 ⟨I.ok.frames,I.ok.mod,I.bs,qx I.ok.pN I.sz,I.stack,I.fY,I.aC,I.bare⟩
def Inv.after{Q:VK}{u:Qc}(I:Inv X pins σ H s)(h:CE X.stack X.prog X.w X.K H s Q u s'):EP X pins σ Q u s':=by
 have(v,H',os,bare,un,aC,r,q):=h;have(hh,g,d,t,sQ):=s';obtain rfl:sQ=s.os:=os;exact⟨v,H',I.call (h':=hh) (g':=g) (d':=d) (t':=t) (ch:=[]) un aC bare (λb z=>absurd z (by simp)),r,q⟩
end
def zBF(sp:Sp)(dvs:Qa V)(E:XK)(t:TA):TE:=λσ H Q=>t σ H λvs H1=>sp (vs++dvs) H1 Q E
def kY(K:qc)(fd:Ϣ)(ps:Qa Str)(ds:Qa Qc):Prop :=
 ∀(s:Qd) (us:Qa Qc),K.In s.heap->(us++ds).length=ps.length->a4w s fd ⟨us,[]⟩ (ps.zip<|us++ds)
def kY.all{K:qc}{fd:Ϣ}{ps:Qa Str}(h:∀us:Qa Qc,us.length=ps.length->bindArgs fd ⟨us,[]⟩=pure (ps.zip us)):kY K fd ps []:=λs us _ hl=>by
 rw[ŕ]at hl ⊢;exact .of_eq<|h us hl
def yz(CX:kJ)(X:Cx)(E:XK):Prop:=∀(pins:Qa (Qg×Obj)) (σ:St) (H:Hp) (s:Qd) (e:Qc) (s':Qd),Inv X pins σ H s->CX X.stack H s E e s'->X.xe e s'
section
variable{X:Cx}{CX:kJ}{k:Nat}{f C:Qg}{fd:Ϣ}{ps:Qa Str}{sp:Sp}{dvs:Qa V}{ds:Qa Qc}{E:XK}{x m:Str}{p pos apos:Pos}{e o:Ķ}{es:Qa Ķ}{ta:TE}{t:TA}
def U9{pins:Qa (Qg×Obj)}{σ:St}{H:Hp}{s:Qd}{Q:VK}{us:Qa Qc}{vs:Qa V}(F:bU X.prog X.w X.K X.mg X.base CX k f fd ps sp)(hr:aG k X.A)(hb:kY X.K fd ps ds)(hd:zQ dvs ds)(hx:yz CX X E)
  (I:Inv X pins σ H s) (r:zQ vs us) (h:sp (vs++dvs) H Q E):ĕ (Ę X.prog X.w) X.A (a2A (.ref f) us) (EP X pins σ Q) X.xe s:=by
 have r2:zQ (vs++dvs) (us++ds):=r.append hd;have hl:(us++ds).length=ps.length:=by rw[<-r2.length];exact F.len _ _ _ _ h
 refine a0g<|ϫ (F.run X.A X.stack s H ⟨us,[]⟩ (us++ds) (vs++dvs) Q E hr I.u7 (hb s us I.bO hl) r2 h) λr s' hq=>?_;cases r with
 |error e=>exact hx pins σ H s e s' I hq
 |ok fl=>
  cases fl with
  |ret u=>exact I.after hq
  |next=>exact ť hq
  |brk=>exact ť hq
  |cont=>exact ť hq
def Yx(F:bU X.prog X.w X.K X.mg X.base CX k f fd ps sp)(hr:aG k X.A)(hg:Gl X x)(hm:X.mg x=ž (.ref f))(hk:ň X.K (.ref f)=ż)(hb:kY X.K fd ps ds)(hd:zQ dvs ds)(hx:yz CX X E)
  (ha:PA X (e::es) t) (cN:(x==("__debug__":Str))=Ż:=by decide) (he:Ļ (e::es) X.env=(Ż,Ÿ e X.env)::Ļ es X.env:=by rfl) (dq:(Ω pos<|Ļ es X.env).any (·.1)=Ż:=by rfl):
  PE X (.Call (.Name x p) (e::es) [] pos) (zBF sp dvs E t):=by
 intro pins s σ H Q I h;refine Ϫ<|yK I hg hm ?_ cN;refine a1J (h₀:=X.base) I.ok.mod.ku hk (aF (ha pos pins s σ H _ I h) λus s1 ⟨vs,H1,I1,r,q⟩=>⟨I1.bO,?_⟩) he dq;exact U9 F hr hb hd hx I1 r q
end
structure bA (N P:Qa Str) (sc:a3o):Prop where
 kind:sc.kind=.function
 co:sc.isCoroutine=Ż
 gen:sc.isGenerator=Ż
 nd:N.Nodup
 pre:N.take P.length=P
 par:∀x∈P,sc.names.lookup x=ž .local\/sc.names.lookup x=ž .cell
 uA:∀y∈sc.names,y.2≠.free
def PN{ş:Str->Qb χ}{x:Str}:∀{binds:Qa (Str×Qc)} {m:Str->Qb Qc},(∀v,(x,v)∉binds)->bindL ş binds m x=m x
 |[],_,_=>rfl
 | (n,v)::r,m,h=>by
  unfold bindL;rw[PN λw hw=>h w<|qm _ hw];split
  .have:x≠n:=by rintro rfl;exact h v qo
   simp[this]
  .rfl
def PM{ş:Str->Qb χ}{x:Str}:∀{binds:Qa (Str×Qc)} {m:Str->Qb Qc},(∀v,(x,v)∉binds)->bindC ş binds m x=m x
 |[],_,_=>rfl
 | (n,v)::r,m,h=>by
  unfold bindC;rw[PM λw hw=>h w<|qm _ hw];split
  .rfl
  .have:x≠n:=by rintro rfl;exact h v qo
   simp[this]
def PK{ş:Str->Qb χ}{x:Str}{v:Qc}:∀{P:Qa Str} {vs:Qa Qc} {i:Nat} {m:Str->Qb Qc},P.Nodup->P[i]?=ž x->vs[i]?=ž v->ş x=ž .local->
  bindL ş (P.zip vs) m x=ž v
 |[],_,_,_,_,h,_,_=>by simp at h
 |_::_,[],_,_,_,_,h,_=>by simp at h
 |p::P,w::vs,0,m,nd,h1,h2,hk=>by
  simp at h1 h2;subst h1;subst h2;show bindL ş ((p,w)::P.zip vs) m p=_;unfold bindL;rw[PN λv hv=>(List.nodup_cons.mp nd).1 (a1o hv).1,a6P hk];simp
 |p::P,w::vs,i+1,m,nd,h1,h2,hk=>by
  show bindL ş ((p,w)::P.zip vs) m x=_;unfold bindL;exact PK (i:=i) (ā.mp nd).2 (by simpa using h1) (by simpa using h2) hk
def PJ{ş:Str->Qb χ}{x:Str}{v:Qc}:∀{P:Qa Str} {vs:Qa Qc} {i:Nat} {m:Str->Qb Qc},P.Nodup->P[i]?=ž x->vs[i]?=ž v->ş x≠ž .local->
  bindC ş (P.zip vs) m x=ž v
 |[],_,_,_,_,h,_,_=>by simp at h
 |_::_,[],_,_,_,_,h,_=>by simp at h
 |p::P,w::vs,0,m,nd,h1,h2,hk=>by
  simp at h1 h2;subst h1;subst h2;show bindC ş ((p,w)::P.zip vs) m p=_;unfold bindC;rw[PM λv hv=>(List.nodup_cons.mp nd).1 (a1o hv).1,a6Q hk];simp
 |p::P,w::vs,i+1,m,nd,h1,h2,hk=>by
  show bindC ş ((p,w)::P.zip vs) m x=_;unfold bindC;exact PJ (i:=i) (ā.mp nd).2 (by simpa using h1) (by simpa using h2) hk
noncomputable def π(N:Qa Str)(vs:Qa V):St:=vs.map ž++Ě (N.length - vs.length) Ž
noncomputable def jV(CX:kJ)(P:Qe)(w:Qh)(K:qc)(mg:Str->Qb Qc)(base:ĵ)(N:Qa Str)(qual:Str)(scope:a3o)(f:Qg)(cd:Qc)(A:Qf)(outer:Qa Env)(s:Qd)(H:Hp)(E:XK):Cx where
 prog:=P
 w:=w
 K:=K
 mg:=mg
 base:=base
 A:=A.deeper (a0z qual scope s.heap.objs.size f cd)
 N:=N
 bC:=s
 aA:=H
 env:=a0z qual scope s.heap.objs.size f cd
 outer:=outer
 stack:=a0z qual scope s.heap.objs.size f cd::outer
 ex:=[]
 calm:=ż
 fn:=λ_=>ż
 pn:=[]
 xe:=λe s'=>ĕ (Ę P w) (A.deeper<|a0z qual scope s.heap.objs.size f cd) (leaving (a0z qual scope s.heap.objs.size f cd) e) (λ_ D6=>CX outer H s E e D6) (λe' D6=>CX outer H s E e' D6) s'
def Po{sc:a3o}{n:Nat}{x:Str}(h:sc.names.lookup x=ž .cell):∃c,(ļ n sc.names []).lookup x=ž c:=by
 have q:=a3K sc.names n [] (.inl h);exact Option.isSome_iff_exists.mp q
def zp9{CX:kJ}{P:Qe}{w:Qh}{K:qc}{mg:Str->Qb Qc}{base:ĵ}{N ps:Qa Str}{qual:Str}{scope:a3o}{f:Qg}{cd:Qc}{A:Qf}{outer:Qa Env}{s s1:Qd}{H:Hp}{E:XK}{us:Qa Qc}{vs:Qa V}
  (S:bA N ps scope) (hd:A.handled=Ž) (e0:jT P w K mg base A outer s H) (hl:vs.length=ps.length) (r:zQ vs us)
  (x:InCallC s s.heap.objs.size (bindL (a0z qual scope s.heap.objs.size f cd).kindOf (ps.zip us) λ_=>Ž) (ļ (s.heap.objs.size+1) scope.names []) (bindC (a0z qual scope s.heap.objs.size f cd).kindOf (ps.zip us) λ_=>Ž) s1):
  Inv (jV CX P w K mg base N qual scope f cd A outer s H E) [] (π N vs) H s1:=by
 have dq:ps.length<=N.length:=by have:=congrArg a0L S.pre;rw[ţ]at this;omega
 have(h1,tk,rfl,hk):=x.done;have Av:∀b:Qg,b∉(jV CX P w K mg base N qual scope f cd A outer s H E).ex:=λb z=>absurd (show b∈([]:Qa Qg) from z) (by simp);refine⟨⟨e0.mod,S.kind,rfl,rfl,qe _,λy z c h1 h2=>?_,λy hy=>?_,λy c _ h=>?_,λ_=>hd,Around.frames_deeper e0.frames,.inr ⟨rfl,rfl⟩,λb z=>absurd z<|Av b,e0.bs,e0.pN,λb _ _=>Av b,λb z=>absurd z<|Av b,e0.fj,e0.tm⟩,
  rfl,e0.bare,Un.kept hk,⟨_,x.toInCall.ns,λi y v h1 h2 h3=>?_⟩,λy c h=>⟨_,x.cell y c h⟩,e0.aC.fresh<|qe _,λy c h=>?_,λp hp=>absurd (show p∈([]:Qa (Qg×Obj)) from hp) (by simp),e0.aC.kept hk,?_⟩
 .exact name_of_addr x.apart (þ h1) (þ h2)
 .have hy:scope.names.lookup y=ž .cell\/scope.names.lookup y=ž .free:=hy
  rcases hy with hy|hy
  .exact Po hy
  .exact absurd rfl (S.uA _<|þ hy)
 .exact Û (x.above y c<|þ h)
 .have hi:i < vs.length:=by
   unfold π at h2
   by_cases hi:i < vs.length
   .exact hi
   .rw[Ĥ (by simpa using hi)]at h2
    rw[œ]at h2;split at h2<;>cases h2
  have ha:vs[i]?=ž v:=by
   unfold π at h2;rw[Ĩ (by simpa using hi),ĝ]at h2;cases e:vs[i]? with
   |none=>rw[e]at h2;cases h2
   |some a=>rw[e]at h2;cases h2;rfl
  have(u,hu,rv):=r.get ha;have hp:ps[i]?=ž y:=by
   rw[<-S.pre,List.getElem?_take_of_lt (by omega)];exact h1
  have Tf:ps.Nodup:=by rw[<-S.pre];exact S.nd.sublist<|List.take_sublist _ _
  refine⟨u,rv,?_⟩;rcases S.par y (Ì hp)with k|k
  .exact .inl ⟨k,PK Tf hp hu k⟩
  .have(c,e):=Po (n:=s.heap.objs.size+1) k
   refine .inr ⟨.inl k,c,e,?_⟩;have q:=x.cell y c e;rw[PJ Tf hp hu (by show scope.names.lookup y≠_;rw[k];decide)]at q;exact q
 .exact e0.aC.fresh (Û<|x.above y c<|þ h)
 .unfold π
  show _=N.length;rw[qr,ē,Ł];omega
def LX{CX:kJ}{P:Qe}{w:Qh}{K:qc}{mg:Str->Qb Qc}{base:ĵ}{k:Nat}{f:Qg}{name qual:Str}{params:Arguments}{body:Qa ū}{scope:a3o}{dV kV doc pm bo ct oc:Qc}{an od:Qb Qg}
  {mX:Array (Qb Qc)} {N ps:Qa Str} {sp:Sp} (lk:K.lookup f=ž ⟨oc,od,.func<|ό name qual params body scope dV kV doc pm an bo ct,mX⟩) (jP:a0k K bo qual=ż) (S:bA N ps scope)
  (len:∀vs H Q E,sp vs H Q E->vs.length=ps.length)
  (bP:∀(A:Qf) (outer:Qa Env) (s:Qd) (H:Hp) (vs:Qa V) (Q:VK) (E:XK),aG k (A.deeper<|a0z qual scope s.heap.objs.size f bo)->sp vs H Q E->
   ∃t,fu (jV CX P w K mg base N qual scope f bo A outer s H E) body t/\t {nx:=λ_ H'=>Q .aO H',rt:=Q} (π N vs) H):
  bU P w K mg base CX (k+1) f (ό name qual params body scope dV kV doc pm an bo ct) ps sp:=by
 refine⟨len,λA outer s H args us vs Q E hr e0 hb r pG=>?_⟩;have hl:=len _ _ _ _ pG;have KX:K.In s.heap:=e0.mod.ku.keeps λb o e=>(e0.bs b o e).1;have lim:s.heap.NoLimit:=e0.mod.nolimit.keeps λb o e=>(e0.bs b o e).1;have AQ:∀y∈ps.zip us,scope.names.lookup y.1=ž .local\/(scope.names.lookup y.1=ž .cell/\((ļ (s.heap.objs.size+1) scope.names []).lookup y.1).isSome=ż):=λ⟨n,v⟩ hy=>by
  rcases S.par n (a1o hy).1 with q|q
  .exact .inl q
  .exact .inr ⟨q,a3K _ _ _<|.inl q⟩
 refine codeAny_call_function hr.depth (KX _ _ lk) rfl S.co S.gen rfl (PySem.W.codeRec_of KX jP)<|hb _ _ _ _ ?_;refine wpAny_newFunctionEnv_cells S.kind AQ λenv he s1 x=>?_;subst he;refine⟨lim.keeps x.toInCall.keep,codeAny_func ?_⟩;have(t,ht,hq):=bP A outer s H vs Q E (hr.deeper _) pG;have I:Inv (jV CX P w K mg base N qual scope f bo A outer s H E) [] (π N vs) H s1:=zp9 S hr.hd e0 hl r x;refine Ŝ (ht [] s1 (π N vs) H _ I hq) (λfl s' hs=>?_) λe s' hs=>hs;have fin:∀{aK:St} {H':Hp} {v:V} {u:Qc},Inv (jV CX P w K mg base N qual scope f bo A outer s H E) [] aK H' s'->zU v u->Q v H'->CE outer P w K H s Q u s' :=
  λ{aK H' v u} J rv q=>⟨v,H',J.os,J.bare,J.base,J.aC,rv,q⟩
 cases fl with
 |ret u=>
  have(v,aK,H',J,rv,q):=hs;exact fin J rv q
 |next=>
  have(aK,H',J,q):=hs;exact fin (v:=V.aO) (u:=Ė) J rfl q
 |brk=>
  have(_,_,_,q):=hs;exact ť q
 |cont=>
  have(_,_,_,q):=hs;exact ť q
section
variable{X:Cx}{x:Str}{p pos:Pos}{e:Ķ}{es:Qa Ķ}{t:TA}{id T:String}{r:Qa V->Hp->VK->Prop}
def oZ(r:Qa V->Hp->VK->Prop)(t:TA):TE:=λσ H Q=>t σ H λvs H1=>r vs H1 Q
def zrs(hc:gJ X (.builtin id) r)(hg:Gl X x)(hm:X.mg x=Ž)(hv:Ź x=ž (.builtin id))(ha:PA X (e::es) t)(hn:x ≠ "__name__":=by decide)(cN:(x==("__debug__":Str))=Ż:=by decide)
  (he:Ļ (e::es) X.env=(Ż,Ÿ e X.env)::Ļ es X.env:=by rfl) (dq:(Ω pos<|Ļ es X.env).any (·.1)=Ż:=by rfl):PE X (.Call (.Name x p) (e::es) [] pos) (oZ r t):=by
 intro pins s σ H Q I h;refine Ϫ<|t9 I hg hm hv ?_ hn cN;exact PyProof.Rows.callWith_builtin1 (aF (ha pos pins s σ H _ I h) λus s1 ⟨vs,H1,I1,r1,q1⟩=>hc pins s1 σ H1 vs us Q I1 r1 q1) he dq
def zqa(hc:gJ X (.type T) r)(hg:Gl X x)(hm:X.mg x=Ž)(hv:Ź x=ž (.type T))(ha:PA X (e::es) t)(hn:x ≠ "__name__":=by decide)(cN:(x==("__debug__":Str))=Ż:=by decide)
  (he:Ļ (e::es) X.env=(Ż,Ÿ e X.env)::Ļ es X.env:=by rfl) (dq:(Ω pos<|Ļ es X.env).any (·.1)=Ż:=by rfl):PE X (.Call (.Name x p) (e::es) [] pos) (oZ r t):=by
 intro pins s σ H Q I h;refine Ϫ<|t9 I hg hm hv ?_ hn cN;exact ê (aF (ha pos pins s σ H _ I h) λus s1 ⟨vs,H1,I1,r1,q1⟩=>hc pins s1 σ H1 vs us Q I1 r1 q1) he dq
end
end Internal
variable{E:Internal.Qc->Internal.Qd->Prop}{K:Internal.qc}{H:Internal.Hp}{pins:Internal.Qa (Internal.Qg×Obj)}{i:Nat}{α:Type}{s:Internal.Qd}{w:Internal.Qh}{n:Nat}{A:Internal.Qf}{σ:Internal.St}{a:Internal.Qg}{Q:Internal.Qc->Internal.Qd->Prop}{pos:Pos}{prog:Internal.Qe}{pn:Internal.Qa Nat}{es:Array ύ}{js:Internal.Qa Nat}{kvs:Internal.Qa (Internal.Qa Internal.Key×Internal.V)}{x:Str}{nt:Nat}{e:Ķ}{H':Internal.Hp}{r:ġ->Int}{v:Internal.V}{j:Nat}{h:ĵ}{te:Internal.TE}{b:Int}{ps:Internal.Qa Str}{m:Nat}{mg:Str->Internal.Qb Internal.Qc}{vs:Internal.Qa Internal.V}{fd:Ϣ}{cl:Internal.Qa (Str×Internal.Qg)}{β:Type}{P:Internal.Qe}{elts:Internal.Qa Ķ}{p:Pos}{f:Str}{o:Ķ}{st:ū}{g:Internal.Qa Int->Rat}{ws:Internal.Qa (Internal.Qa Internal.Key×Internal.V)}{ta:Internal.TE}{ns:Internal.Qa Int}{N:Internal.Qa Str}{scope:a3o}{ep:Nat}{ah:Array ġ}{T:String}{u:Internal.Qc}{tg:Ķ}{κ:a3n}{us:Internal.Qa Internal.Qc}{tab:Internal.Qa (Str×Internal.Qa Str)}{au:ĩ}{sp:Internal.Sp}{it:Internal.Qg}{qT:Pos}{c:Str}{td tv:Internal.TE}{op:a2S}{apos:Pos}{h':ĵ}{arr:Array ġ}{tb:Internal.TE}{pos':Pos}{hi:Nat}{ty:Internal.TE}{ifs:Internal.Qa Ķ}{dx:Internal.Qg}{base:ĵ}{y:Internal.V}{aY:Pos}{qual:Str}{Y:StateT ĩ Sem (ForInStep (Internal.Qb Unit×Nat))}{aA:Internal.Hp}{hp:Nat->Nat}{env:Env}{iter:Ķ}{l:Internal.Qa α}{tt:Internal.TT}{os:OsState}{ao:Internal.St}{aB:Internal.Hp}{ys:Internal.Qa (Internal.Qa Internal.Key×Internal.Qg×Internal.Qc)}{G:Array a1x->Array a1x->Prop}{name:Str}{B:Nat}{value elt:Ķ}{as:Internal.Qa α}{ask:Nat->StateT ĩ Sem (Internal.Qb Bool)}{rk:Nat->Int}{mX:Array (Internal.Qb Internal.Qc)}{hV:a2S}
namespace HT
open PySem PyProof.Rows
section
variable{prog:a4o} {w:World} {A:Around} {E:ζ->a0i->Prop} {s:a0i}
def rK{t b:Addr}{vs ws:List ζ}{Q:ζ->a0i->Prop}(ht:a2R s.heap t vs.toArray)(hb:a2R s.heap b ws.toArray)(hv:vs≠[])
  (h1:ws=[]->Q (.ref t) s) (h2:ws≠[]->Q (.ref s.heap.objs.size) {s with heap:=s.heap.push {cls:=.type "tuple",data:=.seq (vs++ws).toArray}})
  (hsz:vs.length+ws.length<=Ĕ):ĕ (Ę prog w) A (Ŷ .Add (.ref t)<|.ref b) Q E s:=by
 obtain⟨⟨cls,dd,data,sl⟩,ho,hc,n,hd⟩:=id ht;obtain⟨⟨Ba,ve,data2,pf⟩,pI,AY,n2,hd2⟩:=id hb;simp only at hc hd AY hd2;subst hc hd AY hd2;have e:vs.toArray++ws.toArray=(vs++ws).toArray:=by simp
 by_cases hw:ws=[]
 .exact a3l ⟨_,ho,rfl⟩ ⟨_,pI,rfl⟩ a3I a5h a0Z a0J (a0A _ _)
   (tuple_addW1 t b vs.toArray ws.toArray n n2 dd ve sl pf (by simpa using hv) (by simp[hw])) ⟨ho,pI,h1 hw⟩
 .refine a3l ⟨_,ho,rfl⟩ ⟨_,pI,rfl⟩ a3I a5h a0Z a0J (a0A _ _)
   (tuple_addW2 t b vs.toArray ws.toArray n n2 dd ve sl pf (by simpa using hv) (by simpa using hw) (by rw[ě,ě];exact hsz)) ⟨ho,pI,?_⟩
  rw[e];exact h2 hw
noncomputable def aV(n d:Nat):Option Int->Nat
 |none=>d
 |some v=>if v < 0 then(v+(n:Int)).toNat else min v.toNat n
def iY(n d:Nat):aV n d Ž=d:=rfl
def kj(n d k:Nat):aV n d (ž (k:Int))=min k n:=by
 show(if(k:Int) < 0 then((k:Int)+(n:Int)).toNat else min (k:Int).toNat n)=min k n;rw[a6Q (by omega),ı]
def U8(n d:Nat)(hd:d<=n)(o:Option Int):aV n d o<=n:=by
 cases o with
 |none=>exact hd
 |some v=>
  show(if v < 0 then(v+(n:Int)).toNat else min v.toNat n)<=n
  by_cases hv:v < 0
  .rw[a6P hv];omega
  .rw[a6Q hv];exact Nat.min_le_right _ _
def Oh(v:Int)(n d:Nat):(if v < 0 then max (v+(n:Int)) 0 else min v (n:Int))=((aV n d (ž v):Nat):Int):=by
 show(if v < 0 then max (v+(n:Int)) 0 else min v (n:Int))=(((if v < 0 then(v+(n:Int)).toNat else min v.toNat n):Nat):Int)
 by_cases hv:v < 0
 .simp only[a6P hv];omega
 .simp only[a6Q hv];omega
def zmS(lo hi:Option Int)(n:Nat):a0a lo hi 1 (n:Int)=(((aV n 0 lo:Nat):Int),((aV n n hi:Nat):Int)):=by
 have h1:¬((1:Int) < 0):=by omega
 unfold a0a;simp only[h1,if_false];refine Prod.ext ?_ ?_
 .cases lo with
  |none=>rfl
  |some v=>exact Oh v n 0
 .cases hi with
  |none=>rfl
  |some v=>exact Oh v n n
def zmT(i j:Nat):Ϥ (i:Int) (j:Int) 1=j - i:=by
 unfold Ϥ;have h1:(1:Int) > 0:=by omega
 simp only[h1,if_true,Int.ediv_one];split<;>omega
def Qr{v:ζ}{o:Option Int}{Q:Option Int->a0i->Prop}(p:a2r v o)(h:Q o s):ĕ (Ę prog w) A (Builtin.Slice.slicePartIndex v) Q E s:=by
 cases p with
 |none=>exact slicePart_none h
 |int i t=>exact slicePart_int h
def RZ{sl:Addr}{vl vu:ζ}{lo hi:Option Int}{n:Nat}{Q:Int×Int×Nat->a0i->Prop}(hs:s.heap.IsSliceOf sl vl vu .none)(pl:a2r vl lo)(pu:a2r vu hi)
  (h:Q (((aV n 0 lo:Nat):Int),1,aV n n hi - aV n 0 lo) s):ĕ (Ę prog w) A (a2d (.ref sl)<|pure (n:Int)) Q E s:=by
 have(os,uP,ED,AW):=id hs;unfold a2d Builtin.Slice.sliceFields;refine Ĳ<|Ĳ<|Ŀ uP AW (x:=vl) rfl<|Ĳ<|Ŀ uP AW (x:=vu) rfl<|Ĳ<|Ŀ uP AW (x:=.none) rfl<|Ř ?_;refine Ĳ<|slicePart_none ?_;show ĕ _ _ (if((1:Int)==0)=ż then _ else _) _ _ s;rw[a6Q (by decide)];refine Ĳ<|Qr pl<|Ĳ<|Qr pu<|Ĳ<|Ř ?_;show ĕ _ _ (match a0a lo hi 1 (n:Int)with | (lo,hi)=>pure (lo,(1:Int),Ϥ lo hi 1)) _ _ s;rw[zmS lo hi n];show ĕ _ _ (pure (((aV n 0 lo:Nat):Int),(1:Int),Ϥ ((aV n 0 lo:Nat):Int) ((aV n n hi:Nat):Int) 1)) _ _ s;rw[zmT];exact Ř h
def zrt(xs:Array ζ)(i k:Nat):((ħ k).filterMap λ(m:Nat)=>xs[((i:Int)+(m:Int) * 1).toNat]?).toArray=((xs.toList.drop i).take k).toArray:=by
 have e:(λ(m:Nat)=>xs[((i:Int)+(m:Int) * 1).toNat]?)=λm=>xs[i+m]?:=by
  funext m
  have:((i:Int)+(m:Int) * 1).toNat=i+m:=by omega
  rw[this]
 rw[e];have:=pick_run xs i k;rw[List.filterMap_map]at this;have e2:((λx=>xs[x]?) ∘ λx=>i+x)=λm=>xs[i+m]?:=rfl;rw[e2]at this;rw[this]
def dZ{t sl:Addr}{items:Array ζ}{vl vu:ζ}{lo hi:Option Int}{Q:ζ->a0i->Prop}(ht:a2R s.heap t items)(hs:s.heap.IsSliceOf sl vl vu .none)(pl:a2r vl lo)(pu:a2r vu hi)
  (hw:¬(aV items.size 0 lo=0/\aV items.size items.size hi=items.size))
  (h:Q (.ref s.heap.objs.size) {s with heap:=s.heap.push {cls:=.type "tuple",data:=.seq ((items.toList.drop<|aV items.size 0 lo).take<|aV items.size items.size hi - aV items.size 0 lo).toArray}})
  (hsz:items.size<=Ĕ):ĕ (Ę prog w) A (a1h (.ref t)<|.ref sl) Q E s:=by
 have kA:sizeOk (.seq ((items.toList.drop<|aV items.size 0 lo).take<|aV items.size items.size hi - aV items.size 0 lo).toArray):=by
  show((items.toList.drop<|aV items.size 0 lo).take<|aV items.size items.size hi - aV items.size 0 lo).toArray.size<=Ĕ;rw[ě,ţ,ŗ,ģ];omega
 have hj:aV items.size items.size hi<=items.size:=U8 _ _ (Nat.le_refl _) hi;have(os,uP,ED,AW):=id hs;have Kd:s.TypeIs (.ref sl) "slice":=⟨os,uP,ED⟩;unfold a1h
 try with_reducible refine Ō ?_
 first|refine Ĳ (Ř ?_) |skip
 refine Ĳ<|wpAny_sequenceKey ht.typeIs (by decide) ?_;refine Ĳ (ł (name:=ϔ "__getitem__") ht.typeIs ź
  (ĭ ź ht.typeIs entry_tuple_getitem ?_<|args_tuple_getitem _ _))
 show ĕ _ _ (μ (.ref t) >>= _) _ _ s;refine Ĳ<|tupleItemsOf_ ht ?_;refine Ĳ<|a3h Kd ?_;rw[a6P (by decide)];refine Ĳ<|RZ hs pl pu ?_;have JW:¬((((aV items.size 0 lo:Nat):Int)==0 && (1:Int)==1 && (aV items.size items.size hi - aV items.size 0 lo)==items.size)=ż):=by
  intro q;rw[Ĵ,Ĵ]at q;have q1:((aV items.size 0 lo:Nat):Int)=0:=eq_of_beq q.1.1;have q2:aV items.size items.size hi - aV items.size 0 lo=items.size:=eq_of_beq q.2;exact hw ⟨by omega,by omega⟩
 show ĕ _ _ (if(((aV items.size 0 lo:Nat):Int)==0 && (1:Int)==1 && (aV items.size items.size hi - aV items.size 0 lo)==items.size)=ż then _ else _) _ _ s;rw[a6Q JW,zrt]
 first
  |exact Ĳ (m:=ϭ _)<|ο (Ř ⟨_,rfl,Ř h⟩) kA
  |exact Ĳ (m:=ϭ _)<|ο (Ĳ<|Ř<|Ř ⟨_,rfl,Ř h⟩) kA
  |exact Ĳ<|Ĳ (m:=ϭ _)<|ο (Ř<|Ř ⟨_,rfl,Ř h⟩) kA
  |exact Ĳ<|Ĳ (m:=ϭ _)<|ο (Ř ⟨_,rfl,Ř h⟩) kA
end
end HT
namespace Internal
open PySem PySem.Spec PyProof.Rows
abbrev TO:=St->Hp->(Qb Int->Hp->Prop)->Prop
def PO(X:Cx)(e:Qb Ķ)(t:TO):Prop :=
 ∀(pins:Qa (Qg×Obj)) (s:Qd) (σ:St) (H:Hp) (Q:Qb Int->Hp->Prop),Inv X pins σ H s->t σ H Q->
  ĕ (Ę X.prog X.w) X.A (evalPart e X.env) (λu s'=>∃o H',Inv X pins σ H' s'/\a2r u o/\Q o H') X.xe s
def Hf:TO:=λ_ H Q=>Q Ž H
def F5(t:TE):TO:=λσ H Q=>t σ H λx H1=>∃i,x=.int i/\Q (ž i) H1
def Qq:∀{us:Qa Qc},zQ (ns.map V.int) us->a0q us ns:=by
 induction ns with
 |nil=>intro us r;rw[Ů]at r;cases r;exact .nil
 |cons n ns ih=>
  intro us r;rw[ę]at r;cases r with
  |cons r1 r2=>
   have(t,e):=r1;subst e;exact .cons n t<|ih r2
section
variable{X:Cx}{lo hi:Qb Ķ}{tl th:TO}{p2:Pos}
def Yw:PO X Ž Hf:=by
 intro pins s σ H Q I h;rw[evalPart_none];exact qb ⟨Ž,H,I,.none,h⟩
def Yv(h:PE X e te):PO X (ž e) (F5 te):=by
 intro pins s σ H Q I hw;rw[evalPart_some];refine aF (h pins s σ H _ I hw) λu s1 hZ=>?_;have(x,H1,I1,r1,q1):=hZ;have(i,rfl,q):=q1;have(t,rfl):=r1;exact⟨ž i,H1,I1,.int i t,q⟩
def xC(X:Cx)(r:V->Qb Int->Qb Int->Hp->VK->Prop):Prop :=
 ∀(pins:Qa (Qg×Obj)) (s:Qd) (σ:St) (H:Hp) (x:V) (v vl vu:Qc) (lo hi:Qb Int) (sl:Qg) (Q:VK),Inv X pins σ H s->zU x v->s.heap.IsSliceOf sl vl vu .none->a2r vl lo->a2r vu hi->r x lo hi H Q->
  ∃T id,a4y (.type T) "__getitem__"=pure (ž<|.builtin id)/\s.TypeIs v T/\ĕ (Ę X.prog X.w) X.A (a1h v<|.ref sl) (EP X pins σ Q) X.xe s
def IV(r:V->Qb Int->Qb Int->Hp->VK->Prop)(te:TE)(tl th:TO):TE:=λσ H Q=>te σ H λx H1=>tl σ H1 λl H2=>th σ H2 λu H3=>r x l u H3 Q
def zrv{r:V->Qb Int->Qb Int->Hp->VK->Prop}(hr:xC X r)(he:PE X e te)(hl:PO X lo tl)(hu:PO X hi th):PE X (.Subscript e (.Slice lo hi Ž p2) pos) (IV r te tl th):=by
 intro pins s σ H Q I h;refine Subscript_<|aF (he pins s σ H _ I h) λv s1 hZ=>?_;have(x,H1,I1,r1,q1):=hZ;refine wpAny_Slice<|aF (hl pins s1 σ H1 _ I1 q1) λvl s2 ⟨l,H2,I2,pl,q2⟩=>aF (hu pins s2 σ H2 _ I2 q2) λvu s3 hZ=>?_;have(u,H3,I3,pu,q3):=hZ;rw[evalPart_none];refine qb ?_;have I4:Inv X pins σ H3 {s3 with heap:=s3.heap.push {cls:=.type "slice",data:=.fields #[vl,vu,.none]}}:=I3.kept (t':=s3.toks) λb ob q=>qd _ q;have(T,id,hT,ht,hg):=hr pins {s3 with heap:=s3.heap.push {cls:=.type "slice",data:=.fields #[vl,vu,.none]}} σ H3 x v vl vu l u s3.heap.objs.size Q I4 r1 (Heap.IsSliceOf.new ..) pl pu q3;show ĕ (Ę X.prog X.w) X.A (a5g e (.Slice lo hi Ž p2) v<|.ref s3.heap.objs.size) (EP X pins σ Q) X.xe {s3 with heap:=s3.heap.push {cls:=.type "slice",data:=.fields #[vl,vu,.none]}};exact tail_any (ops:=[.ref s3.heap.objs.size,v]) ht hT hg (by with_unfolding_all rfl)
def mG(xs:Qa V)(lo hi:Qb Int):Qa V:=(xs.drop<|HT.aV xs.length 0 lo).take (HT.aV xs.length xs.length hi - HT.aV xs.length 0 lo)
def QW(xs:Qa V)(lo hi:Qb Int):(mG xs lo hi).length<=xs.length:=by
 unfold mG;rw[ţ,ŗ];omega
def zDt(K:qc):V->Qb Int->Qb Int->Hp->VK->Prop:=λx lo hi H Q=>∃a xs,x=.ref a/\bI K H a xs/\
 ¬(HT.aV xs.length 0 lo=0/\HT.aV xs.length xs.length hi=xs.length)/\∀p,H p=Ž->Q (.ref p) (upd H p<|.tup<|mG xs lo hi)
def U7:xC X (zDt X.K):=by
 intro pins s σ H x v vl vu lo hi sl Q I rx hs pl pu h;have(a,xs,rfl,hx,hw,q):=h;cases rx;have(ai,r,ht,hz):=I.tuple hx;have hlen:ai.toArray.size=xs.length:=by rw[ě];exact r.length.symm
 refine⟨"tuple",_,PyProof.Rows.slot_tuple_getitem.lookup,ht.typeIs,?_⟩;refine HT.dZ ht hs pl pu (by rw[hlen];exact hw) ?_ (by rw[hlen];exact hz);rw[hlen];refine⟨.ref s.heap.objs.size,_,I.laid (t':=s.toks) (o:=.tup (mG xs lo hi)) (λb ob q=>qd _ q) (qe _) ?_,rfl,q _<|I.aC.fresh<|qe _⟩;exact⟨qx (QW xs lo hi) hz,_,(r.drop<|HT.aV xs.length 0 lo).take<|HT.aV xs.length xs.length hi - HT.aV xs.length 0 lo,oV.new _ _⟩
def F4(K:qc):R2:=λx y H Q=>∃a b xs ys,x=.ref a/\y=.ref b/\bI K H a xs/\bI K H b ys/\xs≠[]/\xs.length+ys.length<=Ĕ/\
 (ys=[]->Q (.ref a) H)/\(ys≠[]->∀p,H p=Ž->Q (.ref p) (upd H p<|.tup<|xs++ys))
def zQ.iG{xs:Qa V}(r:zQ xs us):us=[]↔xs=[]:=by
 cases r with
 |nil=>simp
 |cons _ _=>simp
def Yu:bz X (Ŷ .Add) (F4 X.K):=by
 intro pins s σ H x y v u Q I rx ry h;have(a,b,xs,ys,rfl,rfl,ha,hb,hx,hz,q1,q2):=h;cases rx;cases ry;have(ai,r1,p1,_):=I.tuple ha;have(gT,r2,p2,_):=I.tuple hb;refine HT.rK p1 p2 (λz=>hx<|r1.iG.mp z) (λz=>⟨.ref a,H,I,rfl,q1<|r2.iG.mp z⟩) (λz=>?_) (by rw[<-r1.length,<-r2.length];exact hz);refine⟨.ref s.heap.objs.size,_,I.laid (t':=s.toks) (o:=.tup (xs++ys)) (λb ob q=>qd _ q) (qe _) ?_,rfl,q2 (λw=>z<|r2.iG.mpr w) _<|I.aC.fresh<|qe _⟩;exact⟨by rw[qr];exact hz,_,r1.append r2,oV.new _ _⟩
end
noncomputable def fQ(n:Nat)(i:Int):Qb Nat:=if 0<=i then(if i < n then ž i.toNat else Ž)else if -(n:Int)<=i then ž (i+n).toNat else Ž
def cw(xs:Qa α)(i:Int):Qb α:=(fQ xs.length i).bind λj=>xs[j]?
def Og{i:Int}(h:fQ n i=ž j):seqIndex? i n=ž j/\j < n/\-(n:Int)<=i/\i < n:=by
 unfold fQ at h
 by_cases h0:0<=i
 .rw[a6P h0]at h
  by_cases h1:i < n
  .rw[a6P h1]at h
   have e:i.toNat=j:=qw h;exact⟨by rw[seqIndex_of h0 h1,e],by omega,by omega,h1⟩
  .rw[a6Q h1]at h;cases h
 .rw[a6Q h0]at h
  by_cases h1:-(n:Int)<=i
  .rw[a6P h1]at h
   have e:(i+n).toNat=j:=qw h;exact⟨by rw[a5Q (by omega) h1,e],by omega,h1,by omega⟩
  .rw[a6Q h1]at h;cases h
def He{xs:Qa α}{i:Int}{v:α}(h:cw xs i=ž v):∃j,seqIndex? i xs.length=ž j/\xs[j]?=ž v/\j < xs.length/\-(xs.length:Int)<=i/\i < xs.length:=by
 unfold cw at h;cases e:fQ xs.length i with
 |none=>rw[e]at h;cases h
 |some j=>
  rw[e]at h;have(h1,h2,h3,h4):=Og e;exact⟨j,h1,h,h2,h3,h4⟩
def Dk{xs:Qa α}{v:α}(h:xs[j]?=ž v):cw xs (j:Int)=ž v:=by
 have hj:j < xs.length:=(qk.mp h).1;have e:fQ xs.length (j:Int)=ž j:=by
  unfold fQ;rw[a6P (by omega),a6P (by omega)];simp
 unfold cw;rw[e];exact h
def Of(b:Ķ):Prop:=∀o i,a3Q b Ż o i=operate [o,i] (a1h o i)
def vm(X:Cx)(r:R2):Prop :=
 ∀(value slice:Ķ) (pins:Qa (Qg×Obj)) (s:Qd) (σ:St) (H:Hp) (x y:V) (v u:Qc) (Q:VK),Inv X pins σ H s->zU x v->zU y u->r x y H Q->
  a3Q slice Ż v u=operate [v,u] (a1h v u)->ĕ (Ę X.prog X.w) X.A (a5g value slice v u) (EP X pins σ Q) X.xe s
def UO(X:Cx)(id:String)(r:V->Qa V->Hp->VK->Prop):Prop :=
 ∀(pins:Qa (Qg×Obj)) (s:Qd) (σ:St) (H:Hp) (x:V) (xs:Qa V) (v:Qc) (us:Qa Qc) (Q:VK),Inv X pins σ H s->zU x v->zQ xs us->r x xs H Q->
  ĕ (Ę X.prog X.w) X.A (a2A (.builtin id)<|v::us) (EP X pins σ Q) X.xe s
section
variable{X:Cx}{a b:Ķ}
def zBG{r:R2}(hr:vm X r)(ha:PE X a ta)(hb:PE X b tb)(hs:Of b):PE X (.Subscript a b pos) (mW r ta tb):=by
 intro pins s σ H Q I h;exact Subscript_<|Fk ha hb I h λv u s2 x y H2 I2 rx ry q=>hr a b pins s2 σ H2 x y v u Q I2 rx ry q<|hs _ _
def Fg(K:qc):R2:=λx y H Q=>∃p xs i v,x=.ref p/\y=.int i/\b9 K H p xs/\cw xs i=ž v/\Q v H
def Ff(K:qc):R2:=λx y H Q=>∃p xs i v,x=.ref p/\y=.int i/\bI K H p xs/\cw xs i=ž v/\Q v H
def SI:R2:=λx y H Q=>∃z i c,x=.str z/\y=.int i/\z.length<=Ĕ/\cw z.cps.toList i=ž c/\Q (.str ⟨#[c]⟩) H
def Yt:vm X (Fg X.K):=by
 intro value slice pins s σ H x y v u Q I rx ry h hs;have(p,xs,i,z,rfl,rfl,hq,he,q):=h;cases rx;have(t,rfl):=ry;have(ai,r,pl,hz):=I.list hq;have(j,h1,h2,h3,h4,h5):=He he;have(w,ew,lj):=r.get h2;have hl:=r.length;have hn:=t7;have fin:EP X pins σ Q w s:=⟨z,H,I,lj,q⟩
 by_cases h0:0<=i
 .have hj:i.toNat=j:=by
   rw[seqIndex_of h0 h5]at h1;exact qw h1
  exact item_listR pl.isList h0 (by omega) (by rw[hj];simpa using ew) fin hs
 .have hj:(i+(ai.toArray.size:Int)).toNat=j:=by
   rw[a5Q (by omega) h4]at h1;rw[ě,<-hl];exact qw h1
  exact a5P (x:=w) pl.isList.typeIs slot_list_getitem.lookup
   (wpAny_getItem_list_neg (Q:=λr s'=>r=w/\EP X pins σ Q r s') pl.isList (by omega) (by rw[ě]<;>omega) (by omega) (by rw[hj];simpa using ew) ⟨rfl,fin⟩) hs
def U6:vm X (Ff X.K):=by
 intro value slice pins s σ H x y v u Q I rx ry h hs;have(p,xs,i,z,rfl,rfl,hq,he,q):=h;cases rx;have(t,rfl):=ry;have(ai,r,pl,hz):=I.tuple hq;have(j,h1,h2,h3,h4,h5):=He he;have(w,ew,lj):=r.get h2;have hl:=r.length;have hn:=t7;have fin:EP X pins σ Q w s:=⟨z,H,I,lj,q⟩;exact a5P (x:=w) pl.typeIs slot_tuple_getitem.lookup
  (getItem_tuple (j:=j) (Q:=λr s'=>r=w/\EP X pins σ Q r s') pl (by omega) (by omega) (by rw[ě,<-hl];exact h1) (by simpa using ew) ⟨rfl,fin⟩) hs
def GH:vm X SI:=by
 intro value slice pins s σ H x y v u Q I rx ry h hs;have(z,i,c,rfl,rfl,hz,he,q):=h;have(t,rfl):=rx;have(t',rfl):=ry;have(j,h1,h2,h3,h4,h5):=He he;have hl:z.cps.toList.length=z.length:=by simp[Str.length]
 rw[hl]at h1 h4 h5;have hn:=t7;exact tail_any (typeIs_str s z t) slot_str_getitem.lookup (getItem_str (c:=c) (by
  have e1:decide (i < -(2^63:Int))=Ż:=a6S (by omega);have e2:decide (i>=2^63)=Ż:=a6S (by omega);rw[e1,e2,Bool.or_false]) (by rw[h1];simpa using h2) ⟨.str ⟨#[c]⟩,H,I.tok _,⟨_,rfl⟩,q⟩) hs
def zmV(ai:Qa Qc)(n j:Nat)(u:Qc):ſ (·.setIfInBounds j u) {cls:=.type "list",data:=.seq ai.toArray n}={cls:=.type "list",data:=.seq (ai.set j u).toArray n}:=by
 simp[ſ]
def Inv.lst{p:Qg}{xs:Qa V}(I:Inv X pins σ H s)(h:H p=ž (.lst xs)):
  ∃(ai:Qa Qc) (n:Nat),zQ xs ai/\s.heap.get? p=ž {cls:=.type "list",data:=.seq ai.toArray n}/\xs.length<=Ĕ:=by
 have(z,ai,n,r,e):=I.aC p _ h;exact⟨ai,n,r,e,z⟩
def Inv.uC{p:Qg}{xs ys:Qa V}{ai its':Qa Qc}{n':Nat}{f:Obj->Obj}(I:Inv X pins σ H s)(h:H p=ž (.lst xs))
  (ho:s.heap.get? p=ž {cls:=.type "list",data:=.seq ai.toArray n}) (hf:f {cls:=.type "list",data:=.seq ai.toArray n}={cls:=.type "list",data:=.seq its'.toArray n'}) (r:zQ ys its') (hz:ys.length<=Ĕ) (t:Nat):
  Inv X pins σ (upd H p<|.lst ys) {s with heap:=s.heap.update p f,toks:=t}:=by
 have e:(s.heap.update p f).get? p=ž {cls:=.type "list",data:=.seq its'.toArray n'}:=by
  rw[Heap.get?_update_self f ho (by rw[hf]<;>rfl),hf]
 refine I.write (x:=p) (e:=p) (by rw[h];trivial) (.inl rfl) (λb u hb q=>(Î _ _<|Ľ hb).trans q) ⟨_,e⟩ ?_;exact⟨hz,its',n',r,e⟩
def LW:V->V->V->Hp->(Hp->Prop)->Prop:=λo i v H Q=>∃p xs k j,o=.ref p/\i=.int k/\H p=ž (.lst xs)/\fQ xs.length k=ž j/\Q (upd H p<|.lst<|xs.set j v)
def Dt:FE X LW:=by
 intro pins s σ H o i v ov iv u Q I ro ri rv h;have(p,xs,k,j,rfl,rfl,hp,hj,q):=h;cases ro;have(t,rfl):=ri;have(ai,n,r,ho,hz):=I.lst hp;have(h1,h2,h3,h4):=Og hj;have hl:=r.length;have hn:=t7;have I':Inv X pins σ (upd H p<|.lst<|xs.set j v) {s with heap:=s.heap.update p (ſ (·.setIfInBounds j u))}:=
  I.uC hp ho (zmV ai n j u) (r.set rv j) (by rw[Ĺ];exact hz) s.toks
 by_cases h0:0<=k
 .have hk:k.toNat=j:=by
   rw[seqIndex_of h0 h4]at h1;exact qw h1
  exact PySem.W.ki_setAt ho h0 (by omega) (by rw[ě,<-hl];exact h4) (by rw[hk];exact⟨_,I',q⟩)
 .have hk:(k+(ai.toArray.size:Int)).toNat=j:=by
   rw[a5Q (by omega) h3]at h1;rw[ě,<-hl];exact qw h1
  exact PySem.W.ki_setBack ho (by omega) (by rw[ě,<-hl];exact h3) (by omega) (by rw[hk];exact⟨_,I',q⟩)
def zjT(lo hi:Qb Int)(n:Nat):(a0r lo hi Ž n).1=((HT.aV n 0 lo:Nat):Int)/\(a0r lo hi Ž n).2.1=((HT.aV n n hi:Nat):Int)/\(a0r lo hi Ž n).2.2=1:=by
 refine⟨?_,?_,rfl⟩
 .cases lo with
  |none=>simp[a0r,HT.aV]
  |some i=>
   simp only[a0r,HT.aV,a2u,show(1:Int) > 0 by decide,if_true]
   by_cases h:i < 0
   .simp only[h,if_true]<;>omega
   .simp only[h,if_false]<;>omega
 .cases hi with
  |none=>simp[a0r,HT.aV]
  |some i=>
   simp only[a0r,HT.aV,a2u,show(1:Int) > 0 by decide,if_true]
   by_cases h:i < 0
   .simp only[h,if_true]<;>omega
   .simp only[h,if_false]<;>omega
def ziL(ai:Qa Qc)(lo hi:Qb Int):slicePick ai.toArray lo hi Ž=((ai.drop<|HT.aV ai.length 0 lo).take<|HT.aV ai.length ai.length hi - HT.aV ai.length 0 lo).toArray:=by
 have(h1,h2,h3):=zjT lo hi ai.toArray.size;unfold slicePick;rw[h1,h2,h3];simp only[sliceRange_one,pick_run,ě]<;>rfl
def Fe(K:qc):V->Qb Int->Qb Int->Hp->VK->Prop:=λx lo hi H Q=>∃a xs,x=.ref a/\b9 K H a xs/\∀p,H p=Ž->Q (.ref p) (upd H p<|.lst<|mG xs lo hi)
def Ys:xC X (Fe X.K):=by
 intro pins s σ H x v vl vu lo hi sl Q I rx hs pl pu h;have(a,xs,rfl,hx,q):=h;cases rx;have(ai,r,ht,hz):=I.list hx;have hlen:=r.length;refine⟨"list",_,slot_list_getitem.lookup,ht.isList.typeIs,?_⟩;refine wpAny_getItem_list_slice ht.isList hs pl pu .none (by simp) ?_ (by rw[ě]<;>omega);rw[ziL,<-hlen];refine⟨.ref s.heap.objs.size,_,I.laid (t':=s.toks) (o:=.lst (mG xs lo hi)) (λb ob q=>qd _ q) (qe _) ?_,rfl,q _<|I.aC.fresh<|qe _⟩;exact⟨qx (QW xs lo hi) hz,_,0,(r.drop<|HT.aV xs.length 0 lo).take<|HT.aV xs.length xs.length hi - HT.aV xs.length 0 lo,qg _ rfl⟩
noncomputable def mP:V->Bool
 |.aO=>ż
 |.bl _=>ż
 |.int _=>ż
 |.str _=>ż
 |_=>Ż
def pL:V->V->Bool
 |.aO,.aO=>ż
 |.bl a,.bl b=>a==b
 |.bl a,.int b=>(if a then 1 else 0)==b
 |.int a,.bl b=>a==(if b then 1 else 0)
 |.int a,.int b=>a==b
 |.str a,.str b=>a==b
 |_,_=>Ż
def U5{x:V}{v:Qc}(ry:zU y u)(rx:zU x v)(fy:mP y=ż)(fx:mP x=ż):SeqAt.EqAt A s u v (pL y x):=by
 cases y with
 |aO=>
  cases ry;cases x with
  |aO=>cases rx;exact a4F _
  |bl b=>cases rx;exact SeqAt.EqAt.none_bool b
  |int b=>have(t,rfl):=rx;exact SeqAt.EqAt.none_int b t
  |str b=>have(t,rfl):=rx;exact SeqAt.EqAt.none_str b t
  |_=>exact absurd (show Ż=ż from fx) qf
 |bl a=>
  cases ry;cases x with
  |aO=>cases rx;exact SeqAt.EqAt.bool_none a
  |bl b=>cases rx;exact SeqAt.EqAt.bool_bool a b
  |int b=>have(t,rfl):=rx;exact SeqAt.EqAt.bool_int a b t
  |str b=>have(t,rfl):=rx;exact SeqAt.EqAt.bool_str a b t
  |_=>exact absurd (show Ż=ż from fx) qf
 |int a=>
  have(t',rfl):=ry;cases x with
  |aO=>cases rx;exact SeqAt.EqAt.int_none a t'
  |bl b=>cases rx;exact SeqAt.EqAt.int_bool a t' b
  |int b=>have(t,rfl):=rx;exact SeqAt.EqAt.int_int a t' b t
  |str b=>have(t,rfl):=rx;exact a3V a t' b t
  |_=>exact absurd (show Ż=ż from fx) qf
 |str a=>
  have(t',rfl):=ry;cases x with
  |aO=>cases rx;exact SeqAt.EqAt.str_none a t'
  |bl b=>cases rx;exact SeqAt.EqAt.str_bool a t' b
  |int b=>have(t,rfl):=rx;exact a3U a t' b t
  |str b=>have(t,rfl):=rx;exact SeqAt.EqAt.str_str a t' b t
  |_=>exact absurd (show Ż=ż from fx) qf
 |_=>exact absurd (show Ż=ż from fy) qf
def jQ(x:V)(u:Qc):Bool:=match u with
 |.none=>pL .aO x
 |.bool b=>pL (.bl b) x
 |.int i _=>pL (.int i) x
 |.str z _=>pL (.str z) x
 |_=>Ż
def MH{x:V}(r:zU y u)(f:mP y=ż):jQ x u=pL y x:=by
 cases y with
 |aO=>cases r;rfl
 |bl b=>cases r;rfl
 |int i=>have(t,rfl):=r;rfl
 |str z=>have(t,rfl):=r;rfl
 |_=>exact absurd (show Ż=ż from f) qf
def Dj{x:V}{xs:Qa V}(h:zQ xs us):xs.all mP=ż->us.any (jQ x)=xs.any λy=>pL y x:=by
 induction h with
 |nil=>exact λ_=>rfl
 |cons r _ ih=>
  intro f;rw[ω,Ĵ]at f;rw[ŵ,ŵ,MH r f.1,ih f.2]
def yR{x:V}{v:Qc}(rx:zU x v)(fx:mP x=ż):∀{xs:Qa V} {us:Qa Qc},zQ xs us->xs.all mP=ż->∀u∈us,SeqAt.EqAt A s u v<|jQ x u
 |_,_,.nil,_=>λu hu=>by cases hu
 |y::xs,u::us,.cons r t,f=>λu' hu=>by
  rw[ω,Ĵ]at f;rcases qu.mp hu with rfl|hu
  .rw[MH r f.1];exact U5 r rx f.1 fx
  .exact yR rx fx t f.2 u' hu
def iO(x:V)(xs:Qa V):Bool:=xs.any λy=>pL y x
def Ap(K:qc)(neg:Bool):R2:=λx y H Q=>∃p xs,y=.ref p/\(b9 K H p xs\/bI K H p xs)/\mP x=ż/\xs.all mP=ż/\Q (.bl (if neg then !iO x xs else iO x xs)) H
def PH:bz X (Ĭ .In) (Ap X.K Ż):=by
 intro pins s σ H x y v u Q I rx ry h;have(p,xs,rfl,hq,fx,fs,q):=h;cases ry;rcases hq with hq|hq
 .have(ai,r,pl,hz):=I.list hq
  refine SeqAt.in_listAt (jQ x) pl.isList (λw hw=>yR rx fx r fs w (by simpa using hw)) ⟨.bl _,H,I,rfl,?_⟩;rw[show ai.toArray.any (jQ x)=ai.any (jQ x) by simp,Dj r fs];exact q
 .have(ai,r,pl,hz):=I.tuple hq
  refine a5R (jQ x) pl (λw hw=>yR rx fx r fs w (by simpa using hw)) ⟨.bl _,H,I,rfl,?_⟩;rw[show ai.toArray.any (jQ x)=ai.any (jQ x) by simp,Dj r fs];exact q
def zjU:bz X (Ĭ .NotIn) (Ap X.K ż):=by
 intro pins s σ H x y v u Q I rx ry h;have(p,xs,rfl,hq,fx,fs,q):=h;cases ry;rcases hq with hq|hq
 .have(ai,r,pl,hz):=I.list hq
  refine SeqAt.notIn_listAt (jQ x) pl.isList (λw hw=>yR rx fx r fs w (by simpa using hw)) ⟨.bl _,H,I,rfl,?_⟩;rw[show ai.toArray.any (jQ x)=ai.any (jQ x) by simp,Dj r fs];exact q
 .have(ai,r,pl,hz):=I.tuple hq
  refine SeqAt.notIn_tupleAt (jQ x) pl (λw hw=>yR rx fx r fs w (by simpa using hw)) ⟨.bl _,H,I,rfl,?_⟩;rw[show ai.toArray.any (jQ x)=ai.any (jQ x) by simp,Dj r fs];exact q
def zjV:gJ X (.builtin "len") (λxs H Q=>∃p ys,xs=[.ref p]/\(b9 X.K H p ys\/bI X.K H p ys)/\Q (.int ys.length) H):=by
 intro pins s σ H xs us Q I r h;have(p,ys,rfl,hq,q):=h;have(u,rfl,rx):=oO r;cases rx;have hn:=t7;rcases hq with hq|hq
 .have(ai,r',pl,hz):=I.list hq
  have hlen:=r'.length;exact Calls.call_len_list pl.isList (by simp only[ě]<;>omega) ⟨.int ys.length,H,I.tok _,⟨s.toks+1,by rw[ě,hlen]⟩,q⟩
 .have(ai,r',pl,hz):=I.tuple hq
  have hlen:=r'.length;exact len_tuple pl (by simp only[ě]<;>omega) ⟨.int ys.length,H,I.tok _,⟨s.toks+1,by rw[ě,hlen]⟩,q⟩
def zjW:gJ X (.builtin "len") (λxs H Q=>∃z,xs=[.str z]/\z.length<=Ĕ/\Q (.int z.length) H):=by
 intro pins s σ H xs us Q I r h;have(z,rfl,hz,q):=h;have(u,rfl,t,rfl):=oO r;have hn:=t7;exact len_str (by omega) ⟨.int z.length,H,I.tok _,⟨_,rfl⟩,q⟩
def ziM:gJ X (.type "tuple") (λxs H Q=>∃p ys,xs=[.ref p]/\((b9 X.K H p ys/\∀l,H l=Ž->Q (.ref l) (upd H l<|.tup ys))\/(bI X.K H p ys/\Q (.ref p) H))):=by
 intro pins s σ H xs us Q I r h;have(p,ys,rfl,h):=h;have(u,rfl,rx):=oO r;cases rx;rcases h with⟨hq,q⟩|⟨hq,q⟩
 .have(ai,r',pl,hz):=I.list hq
  have hlen:=r'.length;refine call_tuple_list pl.isList (λh' kp=>?_) (by simp only[ě]<;>omega);have I1:Inv X pins σ H {s with heap:=h'}:=I.kept (t':=s.toks) kp;have I2:Inv X pins σ (upd H h'.objs.size<|.tup ys) {s with heap:=h'.push {cls:=.type "tuple",data:=.seq ai.toArray}}:=
   I1.laid (t':=s.toks) (λb o e=>qd _ e) (qe _) (show bX X.prog X.w X.K _ _ _ (.tup ys) from⟨hz,ai,r',oV.new _ _⟩)
  exact⟨.ref h'.objs.size,_,I2,rfl,q _<|I1.aC.fresh<|qe _⟩
 .have(ai,r',pl,hz):=I.tuple hq
  exact call_tuple_same pl ⟨.ref p,H,I,rfl,q⟩
def Ag(K:qc)(T:String)(x:V)(H:Hp):Prop:=match x with
 |.str _=>T = "str"
 |.int _=>T = "int"
 |.ref p=>(T = "list"/\∃xs,b9 K H p xs)\/(T = "tuple"/\∃o,K.lookup p=ž o/\o.cls=.type "tuple"/\o.dict=Ž)\/
   (T = "dict"/\((∃kvs,H p=ž (.dK kvs))\/∃kvs,H p=ž (.dT kvs)))\/(T = "set"/\∃S n,H p=ž (.set S n))
 |_=>False
def MF{x:V}{v:Qc}(I:Inv X pins σ H s)(r:zU x v)(ty:Ag X.K T x H):
  s.TypeIs v T/\∀a,v=.ref a->∃ob,s.heap.get? a=ž ob/\ob.dict=Ž:=by
 cases x with
 |str z=>
  have(t,rfl):=r;cases(show T = "str" from ty);exact⟨typeIs_str s z t,λ_ e=>nomatch e⟩
 |int i=>
  have(t,rfl):=r;cases(show T = "int" from ty);exact⟨typeIs_int s i t,λ_ e=>nomatch e⟩
 |ref p=>
  cases r;rcases ty with⟨rfl,xs,hq⟩|⟨rfl,o,hk,hc,hd⟩|⟨rfl,hk⟩|⟨rfl,S,n,hk⟩
  .have(ai,_,pl,_):=I.list hq
   refine⟨pl.isList.typeIs,λa e=>?_⟩;cases e;have(o,n,e,c,hd,_):=pl;exact⟨o,e,hd⟩
  .refine⟨⟨o,I.bO p o hk,hc⟩,λa e=>?_⟩
   cases e;exact⟨o,I.bO _ o hk,hd⟩
  .have z:∃o,s.heap.get? p=ž o/\o.ExactDict:=by
    rcases hk with⟨kvs,hk⟩|⟨kvs,hk⟩
    .have(_,_,_,_,o,_,_,e,ex,_):=I.aC p _ hk
     exact⟨o,e,ex⟩
    .have(_,_,_,_,o,_,_,e,ex,_):=I.aC p _ hk
     exact⟨o,e,ex⟩
   have(o,e,ex):=z;refine⟨⟨o,e,ex.1⟩,λa e2=>?_⟩;cases e2;exact⟨o,e,ex.2.1⟩
  .have(o,_,_,_,e,ex,_):=I.aC p _ hk
   refine⟨⟨o,e,ex.1⟩,λa e2=>?_⟩;cases e2;exact⟨o,e,ex.2.1⟩
 |_=>exact ť ty
def Fd(K:qc)(T:String)(r:V->Qa V->Hp->VK->Prop)(to:TE):TE:=λσ H Q=>to σ H λx H1=>Ag K T x H1/\r x [] H1 Q
def D3(K:qc)(T:String)(r:V->Qa V->Hp->VK->Prop)(to:TE)(t:TA):TE:=λσ H Q=>to σ H λx H1=>Ag K T x H1/\t σ H1 λxs H2=>r x xs H2 Q
variable{es:Qa Ķ}{to:TE}{t:TA}{id:String}{r:V->Qa V->Hp->VK->Prop}
def U4(pa:a4I T)(slot:Slot T name id)(rg:typeOf (.builtin id)=pure (.type "method_descriptor"))(hm:UO X id r)(ho:PE X o to)
  (dY:Υ o name X.env (Ÿ o X.env)=Ÿ o X.env:=by rfl) (dW:(apos.endLine==aY.line)=ż:=by rfl):PE X (.Call (.Attribute o name apos) [] [] aY) (Fd X.K T r to):=by
 intro pins s σ H Q I h;refine a5B dY dW<|aF (ho pins s σ H _ I h) λv s1 hZ=>?_;have(x,H1,I1,r1,ty,q1):=hZ;have(h1,h2):=MF I1 r1 ty;exact⟨T,id,pa,slot,rg,h1,h2,ă rfl<|a4R<|hm pins s1 σ H1 x [] v [] Q I1 r1 .nil q1⟩
def zBI(pa:a4I T)(slot:Slot T name id)(rg:typeOf (.builtin id)=pure (.type "method_descriptor"))(hm:UO X id r)(ho:PE X o to)(ha:PA X (e::es) t)
  (dY:Υ o name X.env (Ÿ o X.env)=Ÿ o X.env:=by rfl)
  (uT:((Ω aY<|Ļ (e::es) X.env).all (λx=>!x.1) && (backToKw aY<|a3R [] X.env).all (λx=>x.1.isSome)
   && decide ((e::es).length+([]:Qa a1K).length+(if([]:Qa a1K).isEmpty then 0 else 1) < 30))=ż:=by rfl)
  (dW:(apos.endLine==aY.line)=ż:=by rfl) (hs:Ļ (e::es) X.env=(Ż,Ÿ e X.env)::Ļ es X.env:=by rfl) (uO:(Ω aY<|Ļ es X.env).any (·.1)=Ż:=by rfl):
  PE X (.Call (.Attribute o name apos) (e::es) [] aY) (D3 X.K T r to t):=by
 intro pins s σ H Q I h;refine wpAny_Call_method_late dY uT dW rfl<|aF (ho pins s σ H _ I h) λv s1 hZ=>?_;have(x,H1,I1,r1,ty,q1):=hZ;have(h1,h2):=MF I1 r1 ty;refine⟨T,id,pa,slot,rg,h1,h2,?_⟩;have hA:=ha aY pins s1 σ H1 _ I1 q1;rw[hs]at hA ⊢;refine ă (by show(Ż || (Ω aY<|Ļ es X.env).any (·.1))=Ż;rw[uO]<;>rfl)<|a4N ?_;exact aF hA λus s2 ⟨vs,H2,I2,r2,q2⟩=>hm pins s2 σ H2 x vs v us Q I2 r1 r2 q2
end
def vk(X:Cx)(id:String)(r:V->Qa V->Hp->VK->Prop):Prop :=
 ∀(pins:Qa (Qg×Obj)) (s:Qd) (σ:St) (H:Hp) (x:V) (xs:Qa V) (v:Qc) (us:Qa Qc) (Q:VK),Inv X pins σ H s->zU x v->zQ xs us->r x xs H Q->
  ĕ (Ę X.prog X.w) X.A (a2A (.builtin id)<|v::us) (EP X pins σ Q) X.xe s
def zQ.one{x:V}(h:zQ [x] us):∃u,us=[u]/\zU x u:=by
 cases h with
 |cons r t=>cases t;exact⟨_,rfl,r⟩
def zQ.rep{xs:Qa V}(h:zQ xs us):∀k:Nat,zQ (Ě k xs).flatten (Ě k us).flatten
 |0=>.nil
 |k+1=>by
  rw[Ś,Ś,ϒ,ϒ];exact zQ.append h<|zQ.rep h k
def PF(ai:Qa Qc):∀(k:Nat) (acc:Qa Qc),
  a2h (λx1 x2=>x1++x2) acc.toArray (Ě k ai.toArray)=(acc++(Ě k ai).flatten).toArray
 |0,acc=>by simp
 |k+1,acc=>by
  have e:acc.toArray++ai.toArray=(acc++ai).toArray:=by simp
  have e2:(acc++ai)++(Ě k ai).flatten=acc++(Ě (k+1) ai).flatten:=by
   rw[Ś,ϒ,İ]
  rw[<-e2,<-PF ai k (acc++ai),<-e,Ś,List.foldl_cons]
section
variable{X:Cx}{l b:Qg}{xs ys zs:Qa V}
def Inv.Jt{ai its':Qa Qc}{f:Array Qc->Array Qc}{t':Nat}(I:Inv X pins σ H s)(hH:H l=ž (.lst xs))
  (e:s.heap.get? l=ž {cls:=.type "list",data:=.seq ai.toArray n}) (hf:f ai.toArray=its'.toArray) (hv:zQ ys its') (hz:ys.length<=Ĕ):
  Inv X pins σ (upd H l<|.lst ys) {s with heap:=s.heap.update l (ſ f),toks:=t'}:=by
 have q:=a4H e f;rw[hf]at q;refine I.write (x:=l) (e:=l) (by rw[hH];exact trivial) (.inl rfl) (λb' u hb hu=>(Î s.heap (ſ f)<|Ľ hb).trans hu) ⟨_,q⟩ ?_;exact⟨hz,its',_,hv,q⟩
def Inv.Jv{ai:Qa Qc}{t':Nat}(I:Inv X pins σ H s)(hv:zQ ys ai)(hz:ys.length<=Ĕ):
  Inv X pins σ (upd H s.heap.objs.size<|.lst ys) {s with heap:=s.heap.push {cls:=.type "list",data:=.seq ai.toArray},toks:=t'}:=
 I.laid (λ_ _ q=>qd _ q) (qe _) ⟨hz,ai,0,hv,qg _ rfl⟩
def Inv.fresh(I:Inv X pins σ H s):H s.heap.objs.size=Ž:=I.aC.fresh (qe _)
def Inv.Js(I:Inv X pins σ H s)(hH:H l=ž (.lst xs)):xs.length<=Ĕ/\∃(ai:Qa Qc) (n:Nat),zQ xs ai/\xs.length=ai.length/\s.heap.get? l=ž {cls:=.type "list",data:=.seq ai.toArray n}:=by
 have(z,ai,n,r,e):=I.aC l _ hH;exact⟨z,ai,n,r,r.length,e⟩
end
section
variable{X:Cx}
def Oe:V->Qa V->Hp->VK->Prop:=λx vs H Q=>∃l xs y,x=.ref l/\vs=[y]/\H l=ž (.lst xs)/\xs.length < Ĕ/\Q .aO (upd H l<|.lst<|xs++[y])
def ug:vk X "list.append" Oe:=by
 intro pins s σ H x vs v us Q I rx rv h;have(l,xs,y,rfl,rfl,hH,hz,q):=h;cases rx;have(u,rfl,ru):=rv.one;have(z,ai,n,r,hl,e):=I.Js hH;refine a1F a6N ⟨_,e,rfl⟩ a6v (a6a _ _) (a5H l ai.toArray n u (by rw[ě];omega)) ⟨e,?_⟩;refine⟨.aO,_,I.Jt (its':=ai++[u]) hH e (by simp) (r.append<|.cons ru .nil) ?_,rfl,q⟩;rw[qr,ŏ];omega
def Oc(xs:Qa α)(k:Nat):(Ě k xs).flatten.length=k * xs.length:=by
 induction k with
 |zero=>simp
 |succ k ih=>rw[Ś,ϒ,qr,ih,Nat.succ_mul,a2K]
end
section
variable{κ:Type}[DecidableEq κ]
noncomputable def jn(kvs:Qa (κ×V))(k:κ):Qb V:=(kvs.find? λkv=>decide<|kv.1=k).map (·.2)
noncomputable def jm(kvs:Qa (κ×V))(k:κ)(v:V):Qa (κ×V):=
 if(kvs.any λkv=>decide<|kv.1=k)=ż then kvs.map (λkv=>if kv.1=k then(kv.1,v)else kv)else kvs++[(k,v)]
def HD{p:κ×V}{r:Qa (κ×V)}{k:κ}(e:p.1=k):jn (p::r) k=ž p.2:=by simp[jn,Į,e]
def HC{p:κ×V}{r:Qa (κ×V)}{k:κ}(e:¬p.1=k):jn (p::r) k=jn r k:=by simp[jn,Į,e]
def Pn(k:κ):∀kvs:Qa (κ×V),(kvs.any λkv=>decide<|kv.1=k)=(jn kvs k).isSome
 |[]=>rfl
 |p::r=>by
  rw[ŵ]
  by_cases e:p.1=k
  .simp only[HD e,a6R e,Bool.true_or,a1T]
  .rw[HC e,a6S e,a2e];exact Pn k r
def QV(kvs:Qa (κ×V))(k:κ)(v:V):(jm kvs k v).length<=kvs.length+1:=by
 unfold jm;split
 .rw[ē];omega
 .rw[qr,qt,ũ];omega
def jW.ff{o:Qb V}{u:Qb Qc}(r:jW o u):o.isSome=u.isSome:=by
 cases o with
 |none=>cases u with
  |none=>rfl
  |some _=>exact(show False from r).elim
 |some _=>cases u with
  |none=>exact(show False from r).elim
  |some _=>rfl
def jW.getD{o:Qb V}{u:Qb Qc}{d:V}{d':Qc}(r:jW o u)(rd:zU d d'):zU (o.getD d) (u.getD d'):=by
 cases o with
 |none=>cases u with
  |none=>exact rd
  |some _=>exact(show False from r).elim
 |some _=>cases u with
  |none=>exact(show False from r).elim
  |some _=>exact r
def KV.val{kvs:Qa (κ×V)}{vs:Qa (κ×Qc)}(r:KV kvs vs)(k:κ):jW (jn kvs k) (a3j vs k):=by
 unfold KV at r
 induction r with
 |nil=>exact ϱ
 | @cons p q ps qs h t ih=>
  have(h1,h2):=h
  by_cases e:p.1=k
  .have e':q.1=k:=h1.symm.trans e
   have b:a3j (q::qs) k=ž q.2:=by simp[a3j,Į,e']
   rw[HD e,b];exact h2
  .have e':¬q.1=k:=λz=>e<|h1.trans z
   have b:a3j (q::qs) k=a3j qs k:=by simp[a3j,Į,e']
   rw[HC e,b];exact ih
def KV.any{kvs:Qa (κ×V)}{vs:Qa (κ×Qc)}(r:KV kvs vs)(k:κ):(kvs.any λkv=>decide<|kv.1=k)=vs.any λkv=>decide (kv.1=k):=by
 unfold KV at r
 induction r with
 |nil=>rfl
 |cons h t ih=>rw[ŵ,ŵ,ih,h.1]
def KV.nL{kvs:Qa (κ×V)}{vs:Qa (κ×Qc)}(r:KV kvs vs)(k:κ)(ry:zU y u):
  KV (kvs.map λkv=>if kv.1=k then(kv.1,y)else kv) (vs.map λkv=>if kv.1=k then(kv.1,u)else kv):=by
 unfold KV at r ⊢
 induction r with
 |nil=>exact .nil
 | @cons p q ps qs h t ih=>
  rw[ę,ę];refine .cons ?_ ih;have(h1,h2):=h
  by_cases e:p.1=k
  .rw[a6P e,a6P<|h1.symm.trans e];exact⟨h1,ry⟩
  .rw[a6Q e,a6Q λz=>e<|h1.trans z];exact⟨h1,h2⟩
def KV.put{kvs:Qa (κ×V)}{vs:Qa (κ×Qc)}(r:KV kvs vs)(k:κ)(ry:zU y u):KV (jm kvs k y) (stored vs k u):=by
 unfold jm stored;rw[r.any k]
 by_cases e:(vs.any λkv=>decide<|kv.1=k)=ż
 .rw[a6P e,a6P e];exact r.nL k ry
 .rw[a6Q e,a6Q e];exact a4q r ⟨rfl,ry⟩
def KV.length{kvs:Qa (κ×V)}{vs:Qa (κ×Qc)}(r:KV kvs vs):kvs.length=vs.length:=a0F r
end
def x9{k:Key}(r:zU (kV k) u):(zI P w).is k u=ż:=by
 cases k with
 |inl i=>have(t,e):=(show ∃t,u=a1z i t from r);subst e;exact zk0 P w i t
 |inr x=>have(t,e):=(show ∃t,u=a3T x t from r);subst e;exact zk1 P w x t
def HM:∀{ks:Qa Key} {us:Qa Qc},zQ (ks.map kV) us->ItemsAre (zI P w) ks us
 |[],_,r=>by rw[Ů]at r;cases r;exact .nil
 |k::ks,_,r=>by
  rw[ę]at r;cases r with
  |cons h t=>exact .cons (x9 h)<|HM t
abbrev KT(K:qc)(H:Hp):Qa (Qa Key×V)->Qa (Qa Key×Qg×Qc)->Prop:=Γ λp q=>p.1=q.1/\be K H q.2.1 (p.1.map kV)/\zU p.2 q.2.2
def KT.val{xs:Qa (Qa Key×Qg×Qc)}(r:KT K H kvs xs)(k:Qa Key):jW (jn kvs k) ((atKey xs k).map (·.2)):=by
 induction r with
 |nil=>exact ϱ
 | @cons p q ps qs h t ih=>
  have(h1,_,h2):=h
  by_cases e:p.1=k
  .have e':q.1=k:=h1.symm.trans e
   have b:atKey (q::qs) k=ž q.2:=by simp[atKey,Į,e']
   rw[HD e,b];exact h2
  .have e':¬q.1=k:=λz=>e<|h1.trans z
   have b:atKey (q::qs) k=atKey qs k:=by simp[atKey,Į,e']
   rw[HC e,b];exact ih
def KT.nL{xs:Qa (Qa Key×Qg×Qc)}(r:KT K H kvs xs)(k:Qa Key)(ry:zU y u):
  KT K H (kvs.map λkv=>if kv.1=k then(kv.1,y)else kv) (xs.map<|putAt k u):=by
 induction r with
 |nil=>exact .nil
 | @cons p q ps qs h t ih=>
  rw[ę,ę];refine .cons ?_ ih;have(h1,h2,h3):=h;unfold putAt
  by_cases e:p.1=k
  .rw[a6P e,a6P<|h1.symm.trans e];exact⟨h1,h2,ry⟩
  .rw[a6Q e,a6Q λz=>e<|h1.trans z];exact⟨h1,h2,h3⟩
def KT.put{xs:Qa (Qa Key×Qg×Qc)}(r:KT K H kvs xs)(k:Qa Key){b:Qg}(hb:be K H b (k.map kV))(ry:zU y u):
  KT K H (jm kvs k y) (storedH xs k b u):=by
 have e:(kvs.any λkv=>decide<|kv.1=k)=(atKey xs k).isSome:=by
  rw[Pn,(r.val k).ff,a5q]
 unfold jm storedH;rw[e]
 by_cases q:(atKey xs k).isSome=ż
 .rw[a6P q,a6P q];exact r.nL k ry
 .rw[a6Q q,a6Q q];exact a4q r ⟨rfl,hb,ry⟩
def KT.keeps{xs:Qa (Qa Key×Qg×Qc)}(r:KT K H kvs xs)(ht:∀b ys,H b=ž (.tup ys)->H' b=ž (.tup ys)):KT K H' kvs xs :=
 Paired.jL r λ_ _ z=>⟨z.1,z.2.1.keeps ht,z.2.2⟩
section
def F3{u:HO}(ok:cP P w K H h)(e:Rd H a u):bX P w K H h a u:=e.ok ok
def vS{kvs:Qa (Key×V)}(ok:cP P w K H h)(e:Rd H a (.dK kvs)):kvs.length<=Ĕ/\(a==Ň)=Ż/\∃vs,KV kvs vs/\h.DictOf (zI P w) a vs :=
 show bX P w K H h a (.dK kvs) from F3 ok e
def zBJ{kvs:Qa (Key×V)}(ok:cP P w K H h)(e:H a=ž (.dK kvs)):kvs.length<=Ĕ/\(a==Ň)=Ż/\∃vs,KV kvs vs/\h.DictOf (zI P w) a vs:=vS ok (.inl e)
def r9{ks:Qa Key}(ku:K.In h)(ok:cP P w K H h)(e:be K H a (ks.map kV)):(ϰ<|zI P w).is h ks a:=by
 rcases e with e|⟨o,ai,n,hk,hc,hs,_,r,_⟩
 case inr=>exact⟨o,ai,n,ku a o hk,hc,hs,by simpa using HM r⟩
 obtain⟨_,ai,r,o,h1,h2,⟨n,h3⟩,_⟩:=(show bX P w K H h a (.tup<|ks.map kV) from ok a _ e);exact⟨o,ai.toArray,n,h1,h2,h3,by simpa using HM r⟩
def qE(ku:K.In h)(ok:cP P w K H h)(e:Rd H a (.dT kvs)):kvs.length<=Ĕ/\(a==Ň)=Ż/\
  ∃xs,KT K H kvs xs/\h.DictOfH (ϰ<|zI P w) a xs:=by
 have(z,y,xs,r,o,es,ep,h1,h2,h3,h4,h5):=(show bX P w K H h a (.dT kvs) from F3 ok e);refine⟨z,y,xs,r,o,es,ep,h1,h2,h3,h4,λx hx=>?_,h5⟩;have all:∀{l:Qa (Qa Key×V)} {m:Qa (Qa Key×Qg×Qc)},KT K H l m->∀x∈m,(ϰ<|zI P w).is h x.1 x.2.1:=by
  intro l m q
  induction q with
  |nil=>intro x hx;exact nomatch hx
  | @cons p q ps qs hq t ih=>
   intro x hx;rcases qu.mp hx with e|hx
   .subst e
    exact r9 ku ok (by rw[<-hq.1];exact hq.2.1)
   .exact ih x hx
 exact all r x hx
def LV(ku:K.In h)(ok:cP P w K H h)(e:H a=ž (.dT kvs)):kvs.length<=Ĕ/\(a==Ň)=Ż/\
  ∃xs,KT K H kvs xs/\h.DictOfH (ϰ<|zI P w) a xs:=qE ku ok (.inl e)
end
def pW(K:qc)(H:Hp)(a:Qg)(y:V)(r:Qb V):Prop :=
 (∃kvs k,Rd H a (.dK kvs)/\y=kV k/\r=jn kvs k)\/∃kvs k b,Rd H a (.dT kvs)/\y=.ref b/\be K H b (k.map kV)/\r=jn kvs k
def rS(K:qc)(H:Hp)(a:Qg)(y v:V)(H':Hp):Prop :=
 (∃kvs k,H a=ž (.dK kvs)/\y=kV k/\kvs.length < Ĕ/\H'=upd H a (.dK<|jm kvs k v))\/
 ∃kvs k b,H a=ž (.dT kvs)/\y=.ref b/\be K H b (k.map kV)/\kvs.length < Ĕ/\H'=upd H a (.dT<|jm kvs k v)
def rS.k{kvs:Qa (Key×V)}{k:Key}(e:H a=ž (.dK kvs))(hl:kvs.length < Ĕ):rS K H a (kV k) v (upd H a<|.dK<|jm kvs k v):=.inl ⟨kvs,k,e,rfl,hl,rfl⟩
def rS.t{b:Qg}{k:Qa Key}(e:H a=ž (.dT kvs))(eb:be K H b (k.map kV))(hl:kvs.length < Ĕ):
  rS K H a (.ref b) v (upd H a<|.dT<|jm kvs k v):=.inr ⟨kvs,k,b,e,rfl,eb,hl,rfl⟩
section
variable{X:Cx}{r:Qc}{o:Qb V}
def Inv.Ky(I:Inv X pins σ H s):Ň < s.heap.objs.size:=by
 have h:Ģ < s.heap.objs.size:=(I.mod.glob.keeps I.bk).lt;exact ø (by decide) h
def zqb(hu:A.units+1 < Θ)(I:Inv X pins σ H s)(g:pW X.K H a y (ž v))(ry:zU y u)(h:∀w' s',Inv X pins σ H s'->zU v w'->Q w' s'):
  ĕ (Ę X.prog X.w) A (a1h (.ref a) u) Q E s:=by
 rcases g with⟨kvs,k,e,ey,l⟩|⟨kvs,k,b,e,ey,eb,l⟩
 .subst ey
  have(z,hd,vs,rel,dd):=vS I.aC e;have(w',hw,lj):=jW.some_of (v:=v) (o:=a3j vs k) (by rw[l];exact rel.val k);exact wpAny_getItem_of (x9 ry) dd.mapOf hw<|h w' _ (I.tok _) lj
 .subst ey
  cases(show u=Ĝ b from ry);have(z,hd,xs,rel,dd):=qE I.bO I.aC e;have(w',hw,lj):=jW.some_of (v:=v) (o:=(atKey xs k).map (·.2)) (by rw[l];exact rel.val k);have(p,hp,AJ):=qq.mp hw;refine wpAny_getItem_heap (a0X hu) (r9 I.bO I.aC eb) dd hp ?_;rw[AJ];exact h w' _ (I.tok _) lj
def Yr(hu:A.units+1 < Θ)(I:Inv X pins σ H s)(g:pW X.K H a y o)(ry:zU y u)(h:∀s',Inv X pins σ H s'->Q (.bool (!o.isSome)) s'):
  ĕ (Ę X.prog X.w) A (Ĭ .NotIn u<|.ref a) Q E s:=by
 rcases g with⟨kvs,k,e,ey,l⟩|⟨kvs,k,b,e,ey,eb,l⟩
 .subst ey
  have(z,hd,vs,rel,dd):=vS I.aC e;refine wpAny_notIn_of (x9 ry) hd dd.mapOf ?_;rw[<-(rel.val k).ff,<-l];exact h _<|I.tok _
 .subst ey
  cases(show u=Ĝ b from ry);have(z,hd,xs,rel,dd):=qE I.bO I.aC e;refine wpAny_notIn_heap (a0X hu) (r9 I.bO I.aC eb) hd dd ?_;have q:=(rel.val k).ff;rw[a5q]at q;rw[<-q,<-l];exact h _<|I.tok _
def Hd{t':Nat}{ob:HO}(I:Inv X pins σ H s)(mu:Bm (H a))(hs:Ϲ a s.heap h')(he:∃q,h'.get? a=ž q)(new:bX X.prog X.w X.K (upd H a ob) h' a ob):
  Inv X pins σ (upd H a ob) {s with heap:=h',toks:=t'}:=
 I.write (x:=a) (e:=a) mu (.inl rfl) (λb q hb z=>(hs.2 b hb).trans z) he new
def VF{kvs:Qa (Key×V)}{vs:Qa (Key×Qc)}(z:kvs.length<=Ĕ)(hd:(a==Ň)=Ż)(rel:KV kvs vs)(dd:h'.DictOf (zI P w) a vs):
  bX P w K H' h' a (.dK kvs):=⟨z,hd,vs,rel,dd⟩
def zqc{Q:Unit->Qd->Prop}(hu:A.units+1 < Θ)(I:Inv X pins σ H s)(g:rS X.K H a y v H')(ry:zU y u)(rv:zU v r)(h:∀s',Inv X pins σ H' s'->Q () s'):
  ĕ (Ę X.prog X.w) A (setItem (.ref a) u r) Q E s:=by
 rcases g with⟨kvs,k,e,ey,l,eH⟩|⟨kvs,k,b,e,ey,eb,l,eH⟩
 .subst ey eH
  have(z,hd,vs,rel,dd):=zBJ I.aC e;have hz:vs.length<=Ĕ:=by rw[<-rel.length];exact z
  have hl:(jm kvs k v).length<=Ĕ:=by have:=QV kvs k v;omega
  refine wpAny_setItem_pairs (hsz:=hz) (x9 ry) dd λh' xv hs=>h _ ?_;have he:∃q,h'.get? a=ž q:=let ⟨q,_,_,hq,_⟩:=xv;⟨q,hq⟩;exact Hd I (by rw[e];exact ϱ) hs he<|VF hl hd (rel.put k rv) xv
 .subst ey eH
  cases(show u=Ĝ b from ry);have(z,hd,xs,rel,dd):=LV I.bO I.aC e;have hz:xs.length<=Ĕ:=by rw[<-a0F rel];exact z
  have hl:(jm kvs k v).length<=Ĕ:=by have:=QV kvs k v;omega
  refine wpAny_setItem_heap (hsz:=hz) (a0X hu) (r9 I.bO I.aC eb) dd λh' xv hs=>h _ ?_;have(q,es,ep,hq,h2,h3,h4,_,h5):=xv;refine Hd I (by rw[e];exact ϱ) hs ⟨q,hq⟩ ⟨hl,hd,_,(rel.put k eb rv).keeps λc ys ec=>?_,q,es,ep,hq,h2,h3,h4,h5⟩;rw[zw (yi ec e (λz=>nomatch z))];exact ec
end
def Fv(i:Ķ):Prop:=∀ov iv,a3Q i Ż ov iv=operate [ov,iv] (a1h ov iv)
def Yq{slice:Ķ}{id:String}
  (hl:a4y (.type T) "__getitem__"=pure (ž<|.builtin id)) (hs:Fv slice)
  (h:ĕ (Ę prog w) A (Ÿ value env) (λo aI=>ĕ (Ę prog w) A (Ÿ slice env) (λi gO=>gO.TypeIs o T/\ĕ (Ę prog w) A (a1h o i) Q E gO) E aI) E s):
  ĕ (Ę prog w) A (Ÿ (.Subscript value slice pos) env) Q E s:=by
 refine Subscript_<|Ŝ h (λo aI aN=>Ŝ aN (λi gO uH=>?_) λ_ _ x=>x) λ_ _ x=>x;have(hT,uH):=uH;unfold a5g;refine qa ?_;rw[getitemInPython_of_ne hT.not_modules];refine qa<|Φ hT hl ?_;have fin:ĕ (Ę prog w) A (a3Q slice Ż o i) (λr qV=>ĕ (Ę prog w) A (letTemporaryGo value o r >>= λ_=>pure r) Q E qV) E gO:=by
  rw[hs o i];exact wpAny_operating (Ŝ uH (λr qV JH=>qa<|wpAny_letTemporaryGo<|qb JH) λ_ _ x=>x)
 first
  |exact qb<|qa fin
  |exact qa<|qb<|qa fin
  |exact qa fin
def zlc{X:Cx}{o:Qb V}(I:Inv X pins σ H s)(g:pW X.K H a y o):s.TypeIs (.ref a) "dict":=by
 rcases g with⟨kvs,k,e,_,_⟩|⟨kvs,k,b,e,_,_,_⟩
 .have(_,_,vs,_,dd):=vS I.aC e
  exact dd.typeIs
 .have(_,_,xs,_,dd):=qE I.bO I.aC e
  exact dd.typeIs
def Gh(K:qc)(td ty:TE):TE:=λσ H Q=>td σ H λx H1=>ty σ H1 λy H2=>∃a v,x=.ref a/\pW K H2 a y (ž v)/\Q v H2
def Hc(K:qc)(ty td:TE):TE:=λσ H Q=>ty σ H λy H1=>td σ H1 λx H2=>∃a o,x=.ref a/\pW K H2 a y o/\Q (.bl (!o.isSome)) H2
def Gg(K:qc)(td ty tv:TE):TS:=λD σ H=>tv σ H λv H1=>td σ H1 λx H2=>ty σ H2 λy H3=>∃a H4,x=.ref a/\rS K H3 a y v H4/\D.nx σ H4
section
variable{X:Cx}{i:Ķ}
def Yp(hu:X.A.units+1 < Θ)(ho:PE X o td)(hi:PE X i ty)(hs:Fv i):PE X (.Subscript o i pos) (Gh X.K td ty):=by
 intro pins s σ H Q I h;refine Yq PySem.F.slot_dict_getitem.lookup hs<|aF (ho pins s σ H _ I h) λu s1 ⟨x,H1,I1,rx,q1⟩=>aF (hi pins s1 σ H1 _ I1 q1) λiv s2 hZ=>?_;have(y,H2,I2,ry,a,v,ex,g,q2):=hZ;subst ex;obtain rfl:u=Ĝ a:=rx;exact⟨zlc I2 g,zqb hu I2 g ry λw' s3 I3 lj=>⟨v,H2,I3,lj,q2⟩⟩
def zqd(hu:X.A.units+1 < Θ)(hi:PE X i ty)(ho:PE X o td):PC X .NotIn i o (Hc X.K ty td):=by
 intro pins s σ H Q I h;refine aF (hi pins s σ H _ I h) λiv s1 ⟨y,H1,I1,ry,q1⟩=>aF (ho pins s1 σ H1 _ I1 q1) λu s2 hZ=>?_;have(x,H2,I2,rx,a,ov,ex,g,q2):=hZ;subst ex;obtain rfl:u=Ĝ a:=rx;exact Yr hu I2 g ry λs3 I3=>⟨.bl (!ov.isSome),H2,I3,rfl,q2⟩
def Yo(hu:X.A.units+1 < Θ)(ho:PE X o td)(hi:PE X i ty)(hv:PE X value tv)(hs:a0P value (ž<|.Subscript o i pos') pos.line X.env=pure Ż):
  PS X (.Assign [.Subscript o i pos'] value pos) (Gg X.K td ty tv):=by
 intro pins s σ H D I h;refine wpAny_Assign_Subscript (aF (hv pins s σ H _ I h) λr s1 hZ=>?_) hs;have(v,H1,I1,rv,q1):=hZ;refine aF (ho pins s1 σ H1 _ I1 q1) λu s2 hZ=>?_;have(x,H2,I2,rx,q2):=hZ;refine aF (hi pins s2 σ H2 _ I2 q2) λiv s3 hZ=>?_;have(y,H3,I3,ry,a,H4,ex,g,q3):=hZ;subst ex;obtain rfl:u=Ĝ a:=rx;exact zqc hu I3 g ry rv λs4 I4=>⟨σ,H4,I4,q3⟩
end
def OX(h:ĵ)(hb:Ň < h.objs.size):bX P w K H (h.push {cls:=.type "dict",data:=.dict #[]}) h.objs.size (.dT []):=
 ⟨À _,beq_eq_false_iff_ne.mpr<|Ľ<|qj hb,[],.nil,_,#[],0,qg _ rfl,⟨rfl,rfl,rfl⟩,rfl,rfl,a1B⟩
def CO:TE:=λ_ H Q=>∀p,H p=Ž->Q (.ref p) (upd H p<|.dT [])
section
variable{X:Cx}
def zrC:PE X (.Dict [] [] pos) CO:=λpins s σ H Q I h=>
 wpAny_Dict_empty ⟨.ref s.heap.objs.size,_,I.laid (a:=s.heap.objs.size) (o:=.dT []) (t':=s.toks) (λ_ _ q=>qd _ q) (qe _)<|OX s.heap I.Ky,rfl,h _<|I.aC.fresh<|qe _⟩
end
structure M1 (X:Cx) (o:Ķ) (m:Str) (apos:Pos) (e:Ķ) (aY:Pos):Prop where
 base:Υ o m X.env (Ÿ o X.env)=Ÿ o X.env
 Ud:((Ω aY<|Ļ [e] X.env).all (λx=>!x.1) && (backToKw aY<|a3R [] X.env).all (λx=>x.1.isSome)
  && decide (([e]:Qa Ķ).length+([]:Qa a1K).length+(if([]:Qa a1K).isEmpty then 0 else 1) < 30))=ż
 line:(apos.endLine==aY.line)=ż
 trees:Ω aY (Ļ [e] X.env)=[(Ż,Ÿ e X.env)]
structure M2 (X:Cx) (o:Ķ) (m:Str) (apos:Pos) (e f:Ķ) (aY:Pos):Prop where
 base:Υ o m X.env (Ÿ o X.env)=Ÿ o X.env
 Ud:((Ω aY<|Ļ [e,f] X.env).all (λx=>!x.1) && (backToKw aY<|a3R [] X.env).all (λx=>x.1.isSome)
  && decide (([e,f]:Qa Ķ).length+([]:Qa a1K).length+(if([]:Qa a1K).isEmpty then 0 else 1) < 30))=ż
 line:(apos.endLine==aY.line)=ż
 trees:Ω aY (Ļ [e,f] X.env)=[(Ż,Ÿ e X.env),(Ż,Ÿ f X.env)]
def KO(H:Hp)(a:Qg):Prop:=(∃kvs,Rd H a<|.dK kvs)\/∃kvs,Rd H a<|.dT kvs
def VD{X:Cx}(I:Inv X pins σ H s)(d:KO H a):
  s.TypeIs (.ref a) "dict"/\(∀b,Ĝ a=.ref b->∃ob,s.heap.get? b=ž ob/\ob.dict=Ž)/\(a==Ň)=Ż:=by
 rcases d with⟨kvs,e⟩|⟨kvs,e⟩
 .have(_,hd,vs,_,dd):=vS I.aC e
  refine⟨dd.typeIs,λb q=>?_,hd⟩;cases q;have(ob,_,_,h1,h2,_):=dd;exact⟨ob,h1,h2.2.1⟩
 .have(_,hd,xs,_,dd):=qE I.bO I.aC e
  refine⟨dd.typeIs,λb q=>?_,hd⟩;cases q;have(ob,_,_,h1,h2,_):=dd;exact⟨ob,h1,h2.2.1⟩
section
variable{X:Cx}{d:V}{r:Qc}{o:Qb V}
def VB(hu:A.units+1 < Θ)(I:Inv X pins σ H s)(g:pW X.K H a y o)(ry:zU y u)(rd:zU d r)(h:∀w' s',Inv X pins σ H s'->zU (o.getD d) w'->Q w' s'):
  ĕ (Ę X.prog X.w) A (a2A (.builtin "dict.get") [.ref a,u,r]) Q E s:=by
 rcases g with⟨kvs,k,e,ey,l⟩|⟨kvs,k,b,e,ey,eb,l⟩
 .subst ey
  have(z,hd,vs,rel,dd):=vS I.aC e;refine call_meetsIn a1d dd.typeIs a3M (a3A _ _ _) (meets_dict_get_default (zI X.prog X.w) a (x9 ry) hd r) ⟨_,dd.mapOf,h _ _ (I.tok _) ?_⟩;rw[l];exact(rel.val k).getD rd
 .subst ey
  cases(show u=Ĝ b from ry);have(z,hd,xs,rel,dd):=qE I.bO I.aC e;refine call_meetsIn a1d dd.typeIs a3M (a3A _ _ _) (meetsH_dict_get_default (ϰ<|zI X.prog X.w) a b hd r) ⟨a0X hu,k,xs,r9 I.bO I.aC eb,dd,h _ _ (I.tok _) ?_⟩;rw[l];exact(rel.val k).getD rd
end
def GG(K:qc)(td ty tx:TE):TE:=λσ H Q=>td σ H λx H1=>∃a,x=.ref a/\KO H1 a/\ty σ H1 λy H2=>tx σ H2 λz H3=>∃o,pW K H3 a y o/\Q (o.getD z) H3
section
variable{X:Cx}{f:Ķ}{tx:TE}
def zrD(hu:X.A.units+1 < Θ)(ho:PE X o td)(he:PE X e ty)(hf:PE X f tx)(m:M2 X o "get" apos e f aY):PE X (.Call (.Attribute o "get" apos) [e,f] [] aY) (GG X.K td ty tx):=by
 intro pins s σ H Q I h;refine wpAny_Call_method m.base m.Ud m.line PySem.F.plainAttrs_dict a1d PySem.F.type_dict_get<|aF (ho pins s σ H _ I h) λu s1 hZ=>?_;have(x,H1,I1,rx,a,ex,d,q1):=hZ;subst ex;obtain rfl:u=Ĝ a:=rx;have(t1,t2,_):=VD I1 d;refine⟨t1,t2,?_⟩;rw[m.trees];refine ă rfl<|a4N<|a2c<|aF (he pins s1 σ H1 _ I1 q1) λiv s2 hZ=>?_;have(y,H2,I2,ry,q2):=hZ;refine a2c<|aF (hf pins s2 σ H2 _ I2 q2) λfv s3 hZ=>?_;have(z,H3,I3,rz,ov,g,q3):=hZ;refine a5O ?_;exact VB hu I3 g ry rz λw' s4 I4 lj=>⟨_,H3,I4,lj,q3⟩
end
end Internal
namespace U2
open PySem PySem.W PySem.Calls PyProof.Rows
def zg1{P:Params}{h:ĵ}:∀(ns:List Int) (vs:List ζ),WellAll P h vs (ns.map WData.int)->a0q vs ns:=by
 intro ns
 induction ns with
 |nil=>
  intro vs w;rw[Ů]at w;cases w;exact .nil
 |cons n ns ih=>
  intro vs w;rw[ę]at w;cases w with
  |cons a b=>
   cases a;exact .cons _ _<|ih _ b
def zqe{l:OpenLaw}{n:Nat}(hn:l.most=ž n){P:Params}{h:ĵ}{args:List WData}{vals:List ζ}
  (rm:l.row.toRowW.claim.pre args=ż) (JL:WellAll P h vals args):
  ∃a vs ns,vals=[Ĝ a]/\args=[WData.list<|ns.map WData.int]/\h.get? a=ž {cls:=.type "list",data:=.seq vs.toArray}/\a0q vs ns/\ns.length<=n:=by
 have hsh:WShape.hasAll [] args [.list .int]=ż:=(pre_splitW rm).1;have hc:l.pre.holds [] {args:=args}=ż:=(pre_splitW rm).2;have(d,r,rfl,h1,h2):=hasAllW_cons hsh;obtain rfl:=hasAllW_nil h2;have(xs,rfl,h3):=hasW_list h1;have(ns,rfl):=items_int h3;have hlen:ns.length<=n:=by
  unfold OpenLaw.pre at hc;have h4:(WTm.not<|.lt (.lit<|.int (n:Int))<|.len<|.arg 0).holds [] {args:=[.list<|ns.map .int]}=ż:=by
   have h4:=(holds_andW hc).1;rw[hn]at h4;exact h4
  have h5:=condW_of h4 (w_not<|w_lt w_lit<|w_len_list<|w_arg rfl);rw[ē]at h5;refine a2Z λq=>?_;have q':(n:Int) < ((ns.length:Nat):Int):=by omega
  first
   | (rw[a6R q']at h5;exact absurd h5 (by decide))
   | (simp at h5;omega)
 cases JL with
 |cons w1 w2=>
  cases w2;cases w1 with
  |list ho uX=>exact⟨_,_,ns,rfl,rfl,ho,zg1 ns _ uX,hlen⟩
def zqf(l:OpenLaw)(args:List WData):l.row.toRowW.claim.post args (.bool ż) args=ż :=
 postW_of (r:=l.row.toRowW) (X:=(ż==ż))
  (show WShape.has [] (.bool ż) .bool=ż by first|rfl|decide|simp[WShape.has,WShape.arms,WShape.armsAll])
  (show(WTm.eq .res<|.lit<|.bool ż).value [] {args:=args,res:=ž (.bool ż),after:=args}=ž (.bool<|true==ż) from w_eq_bool (w_res rfl) w_lit) rfl
def jd{l:OpenLaw}{n:Nat}{q:a4o}{loose:List Str}{XP:(Str->Option ζ)->ĵ->Prop}{YP:World->ĵ->Prop}{d:DefRec}
  (hn:l.most=ž n) (AX:d.params.defaults=[])
  (a2A:∀(w:World) (bC aI:a0i) (mg mb:Str->Option ζ) (fa:Addr) (o:Obj) (pm cd doc:ζ) (a:Addr) (vs:List ζ) (ns:List Int),
   Ground q loose [] XP w bC mg mb aI.heap->YP w aI.heap->
   aI.heap.get? fa=ž o->o.data=.func (docDef d.name d.params d.body d.scope pm cd doc)->aI.heap.CodeRec cd d.name->mg d.name=ž (.ref fa)->
   aI.heap.get? a=ž {cls:=.type "list",data:=.seq vs.toArray}->a0q vs ns->ns.length<=n->aI.gens=#[]->
   a0n (Ę l.prog w) a3m (.call (.ref fa) ⟨[.ref a],[]⟩) (λr s'=>r=.ok (.ret<|.bool ż)/\OldK aI.heap s'.heap/\s'.os=aI.os/\a1j s'.gens) aI):
  WalkO q loose XP YP l.row.toRowW d [] (λf vs=>a5n f vs):=by
 intro w bC aI mg mb G Y fa o pm cd doc dV kV ho hd jP hD AN hg args vals as rm hlay hrd JL nY;obtain rfl:dV=.none:=Dflts.none hD AX;obtain rfl:kV=.none:=Dflts.noKw hD;have(a,vs,ns,rfl,rfl,uQ,hints,hlen):=zqe hn rm JL;refine enter_call<|ϫ (a2A w bC aI mg mb fa o pm cd doc a vs ns G Y ho (fd_plain hd) jP AN uQ hints hlen hg) λr s' hq=>?_;have(rfl,h2,h3,h4):=hq;exact⟨.inl ⟨.bool ż,.bool ż,[],rfl,λ_=>rfl,.bool ż,zqf l _,λ_=>⟨a3C,λ_ hm=>(nomatch hm)⟩⟩,h2,h3,h4⟩
end U2
namespace Internal
open PySem PySem.Spec PyProof.Rows
def zqg{vs:Qa Qc}(h:a0q vs ns):zQ (ns.map V.int) vs:=by
 induction h with
 |nil=>exact .nil
 |cons n t _ ih=>exact .cons ⟨t,rfl⟩ ih
def BH(H:Hp):Prop:=∀b,H b=Ž\/∃o xs,H b=ž (.aZ o<|.lst xs)
def zrE{mb:Str->Qb Qc}{CX:kJ}{k:Nat}{fa:Qg}{aI:Qd}{vs:Qa Qc}
  (KX:K.In aI.heap) (TF:aI.heap.Ns Ģ mg) (hb:aI.heap.Ns builtinsNs mb) (hbb:∀x:Str,x ≠ "__name__"->mb x=Ź x) (JX:aI.heap.NoLimit) (hg:aI.gens=#[])
  (ha:aI.heap.get? a=ž {cls:=.type "list",data:=.seq vs.toArray}) (hi:a0q vs ns) (hl:ns.length<=Ĕ) (hr:aG k a3m)
  (F:∀base:ĵ,K.In base->base.Ns Ģ mg->bU P w K mg base CX k fa fd [x] sp) (A0:∀(s:Qd) (u:Qc),a4w s fd ⟨[u],[]⟩ [(x,u)])
  (pG:∀H:Hp,BH H->b9 K H a (ns.map V.int)->sp [.ref a] H (λv _=>v=.bl ż) λ_ _ _=>False)
  (Kk:∀H e s',CX [] H aI (λ_ _ _=>False) e s'->False):
  a0n (Ę P w) a3m (.call (.ref fa) ⟨[.ref a],[]⟩) (λr s'=>r=.ok (.ret<|.bool ż)/\OldK aI.heap s'.heap/\s'.os=aI.os/\a1j s'.gens) aI:=by
 have rv:=zqg hi;have Jw:=hi.length;have core:∀H:Hp,BH H->b9 K H a (ns.map V.int)->cP P w K H aI.heap->(∀b,H b≠Ž->b=a)->(H a≠Ž->K.lookup a=Ž)->
   a0n (Ę P w) a3m (.call (.ref fa) ⟨[.ref a],[]⟩) (λr s'=>r=.ok (.ret<|.bool ż)/\OldK aI.heap s'.heap/\s'.os=aI.os/\a1j s'.gens) aI:=by
  intro H hO hS aC hA hK;have kG:∀{b:Qg} {o:Obj},aI.heap.get? b=ž o->H b=Ž->(pZ aI.heap H).get? b=ž o:=λe n=>zra e n;have Av:∀{b:Qg} {o:Obj} {es:Array ύ} {ep:Nat},aI.heap.get? b=ž o->o.data=.dict es ep->H b=Ž:=λ{b o es ep} e d=>by
   cases q:H b with
   |none=>rfl
   |some u=>
    have e':b=a:=hA b (by rw[q];simp);subst e';rw[ha]at e;cases e;have d':a5a vs.toArray _=Data.dict es ep:=d;cases d'
  have Eb:∀{b:Qg} {m:Str->Qb Qc},aI.heap.Ns b m->(pZ aI.heap H).Ns b m:=λ{b m} ⟨o,es,ep,e,d,r⟩=>⟨o,es,ep,kG e<|Av e d,d,r⟩;have Ua:K.In (pZ aI.heap H):=λb o e=>kG (KX b o e) (by
   cases q:H b with
   |none=>rfl
   |some u=>
    have e':b=a:=hA b (by rw[q];simp);subst e';rw[hK (by rw[q];simp)]at e;cases e)
  have hM:Mod K mg (pZ aI.heap H):=⟨Ua,Eb TF,⟨mb,Eb hb,hbb⟩,let ⟨mc,h1,h2⟩:=JX;⟨mc,Eb h1,h2⟩⟩;have e0:jT P w K mg (pZ aI.heap H) a3m [] aI H:=⟨rfl,hM,λb o e=>Zj e,đ<|zp0 _ _,trivial,λb hb=>absurd (show b∈([]:Qa Qg) from hb) (by simp),aC,.of_eq hg⟩;refine ϫ ((F _ Ua<|Eb TF).run a3m [] aI H ⟨[.ref a],[]⟩ [.ref a] [.ref a] _ _ hr e0 (A0 aI<|.ref a) (.cons rfl .nil)<|pG H hO hS) λr s' h=>?_;cases r with
  |error e=>exact(Kk H e s' h).elim
  |ok fl=>
   cases fl with
   |next=>exact ť h
   |brk=>exact ť h
   |cont=>exact ť h
   |ret u=>
    have(v,H',os,bare,un,JT,r',q):=h;have q':v=.bl ż:=q;subst q';obtain rfl:u=a5l ż:=r';refine⟨rfl,OldK.of_keep λb o e=>?_,os,bare⟩;cases q:H b with
    |none=>exact un.keep b o e q (by intro z;exact absurd (show b∈([]:Qa Qg) from z) (by simp)) (by simp)
    |some u=>
     rcases hO b with z|⟨ob,xs,z⟩
     .rw[q]at z;cases z
     .have z2:=un.eh b ob _ z
      have(e1,_):=aC b _ z;have(e2,_):=JT b _ z2;rw[e]at e1;cases e1;exact e2
 cases hk:K.lookup a with
 |some o=>
  have e:=KX a o hk;rw[ha]at e;cases e;refine core (λ_=>Ž) (λ_=>.inl rfl) (.inr ⟨_,vs.toArray,_,hk,rfl,rfl,rfl,by rw[ě,Jw];exact hl,by simpa using rv⟩) (λb u z=>by have z':(Ž:Qb HO)=ž u:=z;cases z') (λb z=>absurd rfl z) λz=>absurd rfl z
 |none=>
  refine core (λb=>if b=a then ž (.aZ {cls:=.type "list",data:=.seq vs.toArray}<|.lst<|ns.map V.int)else Ž) (λb=>?_) (.inl<|.inr ⟨{cls:=.type "list",data:=.seq vs.toArray},a6P rfl⟩) (λb u z=>?_) (λb z=>?_) λ_=>hk
  .by_cases hb:b=a
   .exact .inr ⟨_,_,a6P hb⟩
   .exact .inl (a6Q hb)
  .by_cases hb:b=a
   .have z':=(a6P hb).symm.trans z
    cases z';subst hb;exact⟨ha,by rw[ē];exact hl,vs,_,rv,ha⟩
   .have z':=(a6Q hb).symm.trans z
    cases z'
  .by_cases hb:b=a
   .exact hb
   .exact absurd (a6Q hb) z
def qP{l:a2E}{k:Nat}{q:Qe}{loose:Qa Str}{XP:(Str->Qb Qc)->ĵ->Prop}{YP:Qh->ĵ->Prop}{d:DefRec}{K:Params->qc}{CX:Qh->kJ}{sp:Qh->Sp}
  (hn:l.most=ž n) (hn2:n<=Ĕ) (AX:d.params.defaults=[]) (hr:aG k a3m)
  (hY:∀(w:Qh) (h:ĵ),YP w h->(K w.params).In h)
  (F:∀(w:Qh) (mg:Str->Qb Qc) (fa:Qg) (h:ĵ),(K w.params).In h->h.Ns Ģ mg->mg d.name=ž (.ref fa)->
   ∃fd:Ϣ,(∀(s:Qd) (u:Qc),a4w s fd ⟨[u],[]⟩ [(x,u)])/\
    ∀base:ĵ,(K w.params).In base->base.Ns Ģ mg->bU l.prog w (K w.params) mg base (CX w) k fa fd [x] (sp w))
  (pG:∀(w:Qh) (H:Hp) (a:Qg) (ns:Qa Int),ns.length<=n->BH H->b9 (K w.params) H a (ns.map V.int)->sp w [.ref a] H (λv _=>v=.bl ż) λ_ _ _=>False)
  (Kk:∀(w:Qh) (H:Hp) (s:Qd) (e:Qc) (s':Qd),CX w [] H s (λ_ _ _=>False) e s'->False):
  a6i q loose XP YP l.row.toRowW d [] (λf vs=>a5n f vs):=by
 refine U2.jd hn AX λw bC aI mg mb fa o pm cd doc a vs ns G Y ho hd jP AN uQ hints hlen hg=>?_;have KX:=hY w _ Y;have(fd,hb,hF):=F w mg fa _ KX G.T.g AN;exact zrE KX G.T.g G.T.b G.T.builtins G.T.nolimit hg uQ hints (qx hlen hn2) hr hF hb (λH hO hS=>pG w H a ns hlen hO hS) λH e s'=>Kk w H aI e s'
noncomputable def sF(s:ū):Arguments:=match s with
 |.FunctionDef _ a _ _ _ _ _ _ _ _=>a
 |_=>{posonlyargs:=[],args:=[],vararg:=Ž,kwonlyargs:=[],kw_defaults:=[],kwarg:=Ž,defaults:=[]}
def j0(s:ū):Qa ū:=match s with
 |.FunctionDef _ _ b _ _ _ _ _ _ _=>b
 |_=>[]
def zN(s:ū):a3o:=match s with
 |.FunctionDef _ _ _ _ _ _ sc _ _ _=>sc
 |_=>{kind:=.function,names:=[],isGenerator:=Ż,isCoroutine:=Ż}
abbrev iS:kJ:=λ_ _ _ _ _ _=>False
abbrev E0:XK:=λ_ _ _=>False
def LU{X:Cx}:yz iS X E0:=λ_ _ _ _ _ _ _ h=>h.elim
structure jS (K:qc) (x qual:Str) (st:ū) (f:Qg) (fd:Ϣ):Prop where
 ex:∃(oc:Qc) (od:Qb Qg) (kV doc pm:Qc) (an:Qb Qg) (bo ct:Qc) (mX:Array (Qb Qc)),
  fd=ό x qual (sF st) (j0 st) (zN st) .none kV doc pm an bo ct/\K.lookup f=ž ⟨oc,od,.func fd,mX⟩/\a0k K bo qual=ż
 kp:ň K (.ref f)=ż
section
def jS.ok{f:Qg}{k:Nat}(F:jS K x qual st f fd)(S:bA N ps (zN st))(len:∀vs H Q E,sp vs H Q E->vs.length=ps.length)
  (bP:∀(bo:Qc) (A:Qf) (outer:Qa Env) (s:Qd) (H:Hp) (vs:Qa V) (Q:VK) (E:XK),aG k (A.deeper<|a0z qual (zN st) s.heap.objs.size f bo)->sp vs H Q E->
   ∃t,fu (jV iS P w K mg base N qual (zN st) f bo A outer s H E).uz (j0 st) t/\t {nx:=λ_ H'=>Q .aO H',rt:=Q} (π N vs) H):bU P w K mg base iS (k+1) f fd ps sp:=by
 have(oc,od,kV,doc,pm,an,bo,ct,mX,rfl,lk,jP):=F.ex;refine LX lk jP S len λA outer s H vs Q E hr pG=>?_;have(t,h,q):=bP bo A outer s H vs Q E hr pG;exact⟨t,h.uz,q⟩
def jS.binds{f:Qg}(F:jS K x qual st f fd)
  (h:∀(kV doc pm:Qc) (an:Qb Qg) (bo ct:Qc) (us:Qa Qc),us.length=ps.length->bindArgs (ό x qual (sF st) (j0 st) (zN st) .none kV doc pm an bo ct) ⟨us,[]⟩=pure (ps.zip us)):kY K fd ps []:=by
 have(oc,od,kV,doc,pm,an,bo,ct,mX,rfl,lk,jP):=F.ex;exact .all<|h kV doc pm an bo ct
def MR{f:Qg}{oc:Qc}{od an:Qb Qg}{kV doc pm bo ct:Qc}(l:K.lookup f=ž ⟨oc,od,.func<|ό x qual (sF st) (j0 st) (zN st) .none kV doc pm an bo ct,mX⟩)
  (c:a0k K bo qual=ż) (k:ň K (.ref f)=ż):jS K x qual st f (ό x qual (sF st) (j0 st) (zN st) .none kV doc pm an bo ct):=⟨⟨oc,od,kV,doc,pm,an,bo,ct,mX,rfl,l,c⟩,k⟩
end
def vQ{k:Nat}(hr:aG k A):A.units+1 < Θ:=Æ (ÿ (by decide:1<=64) _) hr.units
section
variable{X:Cx}
def pv(i:Nat)(hN:X.N[i]?=ž x:=by rfl)(hv:Bi X.env.scope x:=by first|exact a1S rfl|exact a1a (a1S rfl) |exact a1a<|a1a rfl)(hd:(x==("__debug__":Str))=Ż:=by decide)
  (jP:(x==("__classdict__":Str))=Ż:=by decide):PE X (.Name x pos) (ni i):=Wl hN hv hd jP
end
def dI(H H':Hp):Prop:=∀b o,H b=ž o->H' b=ž o
def dI.refl(H:Hp):dI H H:=λ_ _ h=>h
end Internal
set_option maxHeartbeats 4000000
namespace Internal
open PySem PySem.Spec PyProof.Rows
inductive bF (X:Cx):Qa (Str×Qg)->Qa Str->Qa Nat->Prop where
 |nil:bF X [] [] []
 |cons {x:Str} {c:Qg} {j:Nat} {cl:Qa (Str×Qg)} {xs:Qa Str} {js:Qa Nat} (hN:X.N[j]?=ž x) (hk:X.env.scope.names.lookup x=ž .cell\/X.env.scope.names.lookup x=ž .free)
   (hc:X.env.cells.lookup x=ž c) (t:bF X cl xs js):bF X ((x,c)::cl) (x::xs) (j::js)
noncomputable def fH(X:Cx)(scope:a3o)(cl:Qa (Str×Qg))(Nc:Qa Str)(C:Qg)(s:Qd)(H:Hp)(ex:Qa Qg):Cx :=
 {X with bC:=s,aA:=H,env:=compEnvC scope (ļ (C+1) scope.names cl) C X.env,N:=Nc,outer:=X.stack,stack:=X.stack,ex:=ex,fn:=λx=>scope.names.lookup x==ž .cell,pn:=[],xe:=λ_ _=>False}
noncomputable def c0(nt:Nat)(js:Qa Nat)(σ:St):St:=Ě nt Ž++js.map λj=>σ.getD j Ž
def Wk(a b:St):Prop:=a.length=b.length/\∀(i:Nat) (v:V),a[i]?=ž (ž v)->b[i]?=ž (ž v)
def VA{a:St}{x:Qb V}(h:a[i]?=ž Ž):Wk a (a.set i x):=by
 refine⟨by simp,λj v e=>?_⟩;have ne:i≠j:=by intro z;rw[z,e]at h;cases h
 rw[qB ne];exact e
def Hj(h:i < nt):(c0 nt js σ)[i]?=ž Ž:=by
 unfold c0;rw[Ĩ (by simpa using h),œ,a6P h]
def sG{X:Cx}{xs:Qa Str}(f:bF X cl xs js):∀x c,cl.lookup x=ž c->X.env.cells.lookup x=ž c:=by
 induction f with
 |nil=>intro x c e;cases e
 | @cons y d j cl xs js hN hk hc t ih=>
  intro x c e;rw[Ŗ]at e
  by_cases q:x=y
  .subst q
   rw[a6U]at e;injection e with e1;rw[<-e1];exact hc
  .rw[beq_eq_false_iff_ne.mpr q]at e
   exact ih x c e
def PD{X:Cx}{xs:Qa Str}(f:bF X cl xs js):∀x,x∈xs->∃c,cl.lookup x=ž c:=by
 induction f with
 |nil=>intro x m;cases m
 | @cons y d j cl xs js hN hk hc t ih=>
  intro x m;rw[Ŗ]
  by_cases q:x=y
  .subst q
   rw[a6U];exact⟨d,rfl⟩
  .rw[beq_eq_false_iff_ne.mpr q]
   rcases qu.mp m with z|z
   .exact absurd z q
   .exact ih x z
def zrG{X:Cx}{xs:Qa Str}(f:bF X cl xs js):∀(i:Nat) (x:Str) (σ:St) (v:V),xs[i]?=ž x->(js.map λj=>σ.getD j Ž)[i]?=ž (ž v)->
  ∃j:Nat,X.N[j]?=ž x/\σ[j]?=ž (ž v)/\(X.env.scope.names.lookup x=ž .cell\/X.env.scope.names.lookup x=ž .free)/\(∃c,X.env.cells.lookup x=ž c):=by
 induction f with
 |nil=>intro i x σ v e;simp at e
 | @cons y d j cl xs js hN hk hc t ih=>
  intro i x σ v e1 e2;cases i with
  |zero=>
   simp only[Μ,a4a]at e1;subst e1;refine⟨j,hN,?_,hk,d,hc⟩;simp only[ę,Μ,a4a]at e2;rw[qA]at e2;cases q:σ[j]? with
   |none=>rw[q]at e2;cases e2
   |some o=>rw[q]at e2;simp at e2;rw[e2]
  |succ i=>
   exact ih i x σ v (by simpa using e1) (by simpa using e2)
def Ib:∀{names:Qa (Str×χ)} {x:Str} {k:χ},
  (names.map λ(n,k)=>if(k==ϵ && env.scope.kind==.function && env.kindOf n==ž .cell)then(n,ű)else(n,k)).lookup x=ž k->
  ∃k0,names.lookup x=ž k0/\(x,k0)∈names/\(k=k0\/(k0=.free/\k=.cell)):=by
 intro names
 induction names with
 |nil=>intro x k e;cases e
 |cons p r ih=>
  intro x k e;have(n,kn):=p
  by_cases q:x=n
  .subst q
   refine⟨kn,by rw[Ŗ,a6U],qo,?_⟩;rw[ę]at e;change List.lookup x ((if(kn==ϵ && env.scope.kind==.function && env.kindOf x==ž .cell)=ż then(x,ű)else(x,kn))::_)=_ at e
   by_cases hh:(kn==ϵ && env.scope.kind==.function && env.kindOf x==ž .cell)=ż
   .rw[a6P hh,Ŗ,a6U]at e
    injection e with e1;refine .inr ⟨?_,e1.symm⟩;simp only[Ĵ]at hh;exact by simpa using hh.1.1
   .rw[a6Q hh,Ŗ,a6U]at e
    injection e with e1;exact .inl e1.symm
  .rw[ę]at e
   change List.lookup x ((if(kn==ϵ && env.scope.kind==.function && env.kindOf n==ž .cell)=ż then(n,ű)else(n,kn))::_)=_ at e;have e':(r.map λ(n,k)=>if(k==ϵ && env.scope.kind==.function && env.kindOf n==ž .cell)then(n,ű)else(n,k)).lookup x=ž k:=by
    by_cases hh:(kn==ϵ && env.scope.kind==.function && env.kindOf n==ž .cell)=ż
    .rw[a6P hh,Ŗ,beq_eq_false_iff_ne.mpr q]at e
     exact e
    .rw[a6Q hh,Ŗ,beq_eq_false_iff_ne.mpr q]at e
     exact e
   have(k0,h1,h2,h3):=ih e';refine⟨k0,by rw[Ŗ,beq_eq_false_iff_ne.mpr q];exact h1,qm _ h2,h3⟩
def zqh{X:Cx}{xs:Qa Str}(f:bF X cl xs js):js.length=xs.length:=by
 induction f with
 |nil=>rfl
 |cons _ _ _ _ ih=>simp[ih]
structure xD (scope:a3o) (xs:Qa Str):Prop where
 kind:scope.kind=.function
 cell:∀y∈scope.names,y.2=.cell->scope.names.lookup y.1=ž .cell
 names:∀y∈scope.names,y.2=.local->scope.names.lookup y.1=ž .local
 free:∀y∈scope.names,y.2=.free->y.1∈xs
 fk:∀x∈xs,scope.names.lookup x=ž .free
def oU:∀(ns:Qa (Str×χ)) (n:Nat) (acc:Qa (Str×Qg)),ļ n ns acc=ļ n ns []++acc
 |[],_,_=>rfl
 | (x,k)::r,n,acc=>by
  unfold ļ;split
  .rw[oU r (n+1)<|(x,n)::acc,oU r (n+1) [(x,n)],İ]
   rfl
  .exact oU r n acc
def GF:∀(ns:Qa (Str×χ)) (n:Nat) {x:Str} {c:Qg},(x,c)∈ļ n ns []->(x,ű)∈ns
 |[],_,_,_,h=>by cases h
 | (y,k)::r,n,x,c,h=>by
  unfold ļ at h;split at h
  .rename_i hk
   rw[oU,a1q]at h;rcases h with h|h
   .exact qm _ (GF r _ h)
   .cases qp.mp h
    cases eq_of_beq hk;exact qo
  .exact qm _ (GF r _ h)
def CN:∀(ns:Qa (Str×χ)) (n:Nat) {x:Str},(x,ű)∈ns->∃c,(ļ n ns []).lookup x=ž c
 |[],_,_,h=>by cases h
 | (y,k)::r,n,x,h=>by
  unfold ļ;rcases qu.mp h with e|h'
  .cases e
   rw[a6P (by rfl:(ű==ű)=ż),oU,Ϟ];cases(ļ (n+1) r []).lookup y with
   |none=>exact⟨n,by rw[Ŗ,a6U];rfl⟩
   |some c=>exact⟨c,rfl⟩
  .split
   .have(c,e):=CN r (n+1) h'
    rw[oU,Ϟ,e];exact⟨c,rfl⟩
   .exact CN r n h'
def zev{ns:Qa (Str×χ)}{acc:Qa (Str×Qg)}{c:Qg}(h:(ļ n ns acc).lookup x=ž c):(ļ n ns []).lookup x=ž c\/(acc.lookup x=ž c/\(ļ n ns []).lookup x=Ž):=by
 rw[oU,Ϟ]at h;cases e:(ļ n ns []).lookup x with
 |none=>rw[e]at h;exact .inr ⟨h,rfl⟩
 |some d=>rw[e]at h;exact .inl h
def LR{ns:Qa (Str×χ)}{acc:Qa (Str×Qg)}{c:Qg}(h:(ļ n ns []).lookup x=ž c):(ļ n ns acc).lookup x=ž c:=by
 rw[oU,Ϟ,h];rfl
def zrH{M:Model}{globals:Qg}{bs:Qg}{Q:Env->Qd->Prop}
  (hQ:∀h1,h1.Ns s.heap.objs.size (λ_=>Ž)->(∀b o,s.heap.get? b=ž o->h1.get? b=ž o)->CellsOk h1 (s.heap.objs.size+1) (ļ (s.heap.objs.size+1) scope.names [])->
   Q (newEnv scope s.heap.objs.size globals (ļ (s.heap.objs.size+1) scope.names cl) qual Ž .none (ž env) bs) {s with heap:=h1}):
  ĕ M A (a4C scope globals cl [] qual Ž .none (ž env) bs) Q E s:=by
 simp only[a4C,a1T,if_true];refine qa<|wpAny_alloc ?_;refine qa<|wpAny_layCells _ (λname kind cells=>by cases hkc:kind==ű<;>simp[hkc]) _ _ _ _ ?_;have ok:=cellsFrom_ok scope.names (s.heap.push {cls:=.type "dict",data:=.dict #[]}) (s.heap.objs.size+1) [] ⟨λ_ _ hm=>(nomatch hm),a3C⟩ (by rw[Ŏ];exact qe _);rw[Ŏ]at ok;rw[show({s with heap:=s.heap.push {cls:=.type "dict",data:=.dict #[]}}:Qd).heap.objs.size=s.heap.objs.size+1 from Ŏ ..];rw[a1C];exact qa<|qb<|qb<|hQ _ ((Heap.Ns.new s.heap<|.type "dict").keeps<|pushCells_keeps _ _) (λb o e=>pushCells_keeps _ _ b o<|qd _ e) ok
section
variable{X:Cx}{xs:Qa Str}{ts:Qa Str}{fp:Qa Qg}{C:Qg}
def NU{hx:ĵ}(I:Inv X pins σ H s)(S:xD scope xs)(f:bF X cl xs js)(ck:CellsOk hx (C+1) (ļ (C+1) scope.names []))(hC:s.heap.objs.size<=C)(hf:∀b∈fp,jo X pins H b)(hl:∀b∈fp,b < s.heap.objs.size):
  (fH X scope cl (ts++xs) C s H fp).Ok where
 mod:=I.ok.mod
 kind:=S.kind
 glob:=I.ok.glob
 blt:=I.ok.blt
 above:=hC
 inj:=λx y c e1 e2=>by
  have no:∀{x y:Str},(ļ (C+1) scope.names []).lookup x=ž c->cl.lookup y=ž c->False:=λz1 z2=>by
   have(v,o,q,_):=I.cell _ c (sG f _ c z2);have q1:=qh q;have q2:=(ck.empty _ _<|mem_of_lookup z1).2;exact Ð _<|qi q1<|qx hC<|qx (ò C) q2
  rcases zev e1 with z1|⟨z1,_⟩<;>rcases zev e2 with z2|⟨z2,_⟩
  .exact name_of_addr ck.apart (mem_of_lookup z1) (mem_of_lookup z2)
  .exact(no z1 z2).elim
  .exact(no z2 z1).elim
  .exact I.ok.inj x y c (sG f x c z1) (sG f y c z2)
 has:=λx h=>by
  have z:∃k0,scope.names.lookup x=ž k0/\(x,k0)∈scope.names/\(k0=ϵ\/k0=ű):=by
   rcases h with h|h
   .have(k0,h1,h2,h3):=Ib (env:=X.env) (names:=scope.names) h
    rcases h3 with h3|h3
    .exact⟨k0,h1,h2,.inr h3.symm⟩
    .exact⟨k0,h1,h2,.inl h3.1⟩
   .have(k0,h1,h2,h3):=Ib (env:=X.env) (names:=scope.names) h
    rcases h3 with h3|h3
    .exact⟨k0,h1,h2,.inl h3.symm⟩
    .cases h3.2
  have(k0,_,h2,h3):=z;show ∃c,(ļ (C+1) scope.names cl).lookup x=ž c;rcases h3 with h3|h3
  .have(c,e):=PD f x (S.free _ h2 h3)
   rw[oU,Ϟ,e];cases(ļ (C+1) scope.names []).lookup x with
   |none=>exact⟨c,rfl⟩
   |some d=>exact⟨d,rfl⟩
  .subst h3
   have(c,e):=CN scope.names (C+1) h2;exact⟨c,LR e⟩
 xx:=λx c h e=>by
  have(d,q):=CN scope.names (C+1) (mem_of_lookup<|eq_of_beq h);have e':(ļ (C+1) scope.names cl).lookup x=ž c:=e;rw[LR q]at e';cases e';have:=(ck.empty _ _<|mem_of_lookup q).2;show s.heap.objs.size<=c;omega
 hd:=I.ok.hd
 frames:=I.ok.frames
 Al:=.inl rfl
 EM:=λb hb=>⟨qj<|qi (hl b hb) hC,λx c e=>by
  rcases zev e with z|⟨z,_⟩
  .have q1:=(ck.empty _ _<|mem_of_lookup z).2
   exact û<|qi (hl b hb)<|qx hC<|qx (ò C) q1
  .exact(hf b hb).2.2.2.2.1 x c (sG f x c z)⟩
 bs:=I.bs
 pN:=qx I.ok.pN I.sz
 lF:=λb o e hb=>by
  rcases(hf b hb).2.2.2.1 with z|z
  .exact I.ok.lF b o e z
  .exact absurd (qi (qh (I.ok.bs b o e).1) z) (Ð _)
 og:=λb hb z=>by
  rcases qu.mp (I.gv b z)with q|q
  .exact(hf b hb).2.1 q
  .exact(hf b hb).2.2.1 q
 fj:=I.stack
 tm:=I.fY
def zrI{m:Str->Qb Qc}{h1:ĵ}{tk:Nat}(I:Inv X pins σ H s)(S:xD scope xs)(f:bF X cl xs js)(jO:ts.length=nt)(hC:s.heap.objs.size<=C)(hf:∀b∈fp,jo X pins H b)(hl:∀b∈fp,b < s.heap.objs.size)
  (hk:∀b o,s.heap.get? b=ž o->h1.get? b=ž o) (hn:h1.Ns C m) (ck:CellsOk h1 (C+1) (ļ (C+1) scope.names [])):Inv (fH X scope cl (ts++xs) C s H fp) [] (c0 nt js σ) H {s with heap:=h1,toks:=tk} where
 ok:=NU I S f ck hC hf hl
 os:=rfl
 bare:=I.bare
 base:=Un.kept hk
 loc:=by
  refine⟨m,hn,λi x v e1 e2 e3=>?_⟩;have hi:nt<=i:=by
   rcases Ü i nt with z|z
   .rw[Hj z]at e2;cases e2
   .exact z
  have ER:xs[i - nt]?=ž x:=by
   have z:(ts++xs)[i]?=ž x:=e1;rw[Ĥ (by omega),jO]at z;exact z
  have e2':(js.map λj=>σ.getD j Ž)[i - nt]?=ž (ž v):=by
   unfold c0 at e2;rw[Ĥ (by simpa using hi),Ł]at e2;exact e2
  have(j,hN,hσ,TM,c,hc):=zrG f (i - nt) x σ v ER e2';have(m0,_,AO):=I.loc;have(u,r,lk):=AO j x v hN hσ (.inr TM);refine⟨u,r,.inr ⟨?_,?_⟩⟩
  .rcases e3 with z|z|z
   .have hx:x∈xs:=Ì ER
    have(k0,h1,h2,h3):=Ib (env:=X.env) (names:=scope.names) z;have q:=S.fk x hx;rw[h1]at q;cases q;rcases h3 with h3|h3
    .cases h3
    .cases h3.2
   .exact .inl z
   .exact .inr z
  .have(c',gU):=PD f x (Ì ER)
   have no:(ļ (C+1) scope.names []).lookup x=Ž:=by
    cases e:(ļ (C+1) scope.names []).lookup x with
    |none=>rfl
    |some d=>
     have z:=S.cell _ (GF _ _<|mem_of_lookup e) rfl;rw[S.fk x<|List.mem_of_getElem? ER]at z;cases z
   refine⟨c',?_,?_⟩
   .show(ļ (C+1) scope.names cl).lookup x=ž c'
    rw[oU,Ϟ,no,gU];rfl
   have q:=sG f x c' gU;rcases lk with⟨l1,_⟩|⟨_,c'',l2,l3⟩
   .exfalso
    have Tj:X.env.scope.names.lookup x=ž .local:=l1;rcases TM with z|z<;>rw[z]at Tj<;>cases Tj
   .rw[q]at l2
    cases l2;exact l3.keeps hk
 cell:=λx c e=>by
  rcases zev e with z|⟨z,_⟩
  .exact⟨_,(ck.empty _ _<|mem_of_lookup z).1⟩
  .have(v,z):=I.cell x c (sG f x c z)
   exact⟨v,z.keeps hk⟩
 free:=I.aC.fresh hC
 b8:=λx c e=>by
  rcases zev e with z|⟨z,_⟩
  .exact I.aC.fresh (by have:=(ck.empty _ _<|mem_of_lookup z).2;omega)
  .exact I.b8 x c (sG f x c z)
 pin:=λp hp=>by cases hp
 aC:=I.aC.kept hk
 len:=by
  show(c0 nt js σ).length=(ts++xs).length;unfold c0;rw[qr,qr,Ł,ē,jO];rw[zqh f]
def Pz{o:HO}(x:cP P w K H h)(hn:H a=Ž)(new:bX P w K (upd H a o) h a o):cP P w K (upd H a o) h:=λb u e=>by
 by_cases hb:b=a
 .subst hb;rw[zz]at e;cases e;exact new
 .rw[zw hb]at e
  exact(x b u e).eV (λ_ _ _ q=>q) (λc q=>(zw<|jr q hn).trans q) λc ys q=>(zw<|jr q hn).trans q
def OW{fs ex:Qa Qg}{H1:Hp}{h1:ĵ}{o:HO}(u:Un fs ex H H1 h h1)(hn:H1 a=Ž)(ha:h.objs.size<=a):Un fs ex H (upd H1 a o) h h1 where
 keep:=u.keep
 slot:=u.slot
 free:=λb ob q n hx=>(zw<|qj<|qi (qh q) ha).trans (u.free b ob q n hx)
 there:=u.there
 eU:=λb ys q=>(zw<|jr (u.eU b ys q) hn).trans (u.eU b ys q)
 eh:=λb ob ys q=>(zw<|jr (u.eh b ob ys q) hn).trans (u.eh b ob ys q)
 fN:=λb ps q=>by
  have(more,e):=u.fN b ps q;exact⟨more,(zw<|jr e hn).trans e⟩
def vC(X:Cx)(ifs:Qa Ķ)(t:TT):Prop :=
 ∀(pins:Qa (Qg×Obj)) (s:Qd) (σ:St) (H:Hp) (Q:Bool->Hp->Prop),Inv X pins σ H s->t σ H Q->
  ĕ (Ę X.prog X.w) X.A (forIn ifs ż λc r=>if r=ż then do let ok <-a3J c X.env (Ÿ c X.env);pure (Ű ok)else pure (Ű r)) (TP X pins σ Q) X.xe s
def Fu:TT:=λ_ H Q=>Q ż H
def zrJ{X:Cx}:vC X [] Fu:=λ_ _ _ H _ I h=>wpAny_tests_nil ⟨H,I,h⟩
def Ft{t:Sem α}{Q Q':α->Qd->Prop}{M:Model}(h:ĕ M A t Q (λ_ _=>False) s)(hQ:∀a s,Q a s->Q' a s):ĕ M A t Q' E s:=Ŝ h hQ λ_ _ x=>x.elim
def zmY{R:υ->Qd->Prop}{target:Ķ}{it acc:Qc}(I:Nat->Qd->Prop)
  (turn:∀n s,I n s->∀E,ĕ (Ę prog w) A (Ψ it) (λr s1=>match r with
   |none=>R (.ok .next) s1
   |some v=>ĕ (Ę prog w) A (a1P target it v) (λ_ s2=>ĕ (Ę prog w) A (a1k target env v) (λ_ s3=>
     ĕ (Ę prog w) A (forIn ifs ż λc r=>if r=ż then do let ok <-a3J c env (Ÿ c env);pure (Ű ok)else pure (Ű r)) (λok s4=>
      (ok=ż->ĕ (Ę prog w) A (Ÿ elt env) (λx s5=>ĕ (Ę prog w) A (a2A (.builtin "list.append") [acc,x]) (λ_ s6=>∃m,m < n/\I m s6) E s5) E s4)/\
      (ok=Ż->∃m,m < n/\I m s4)) E s3) E s2) E s1) E s)
  (n:Nat) (h:I n s):a0n (Ę prog w) A (.compLoop (.ListComp elt [⟨target,iter,ifs,0⟩] scope pos) 0 it acc env) R s:=by
 refine codeAny_loop rfl I (λn s hI=>?_) n h;show ĕ _ A ((compTurn _ 0 it acc env).onRaise (λx=>do noteFrame x env;theTreesLotGoes x)) _ _ s;refine wpAny_noted ?_;rw[compTurn_list];refine qa<|a0m<|qa<|Ŝ (turn n s hI _) (λr s1 h1=>?_) λ_ _ z=>z;cases r with
 |none=>exact qb h1
 |some v=>
  refine qa<|Ŝ h1 (λ_ s2 h2=>?_) λ_ _ z=>z;refine qa<|Ŝ h2 (λ_ s3 h3=>?_) λ_ _ z=>z;refine qa<|Ŝ h3 (λok s4 h4=>?_) λ_ _ z=>z;cases ok with
  |false=>exact qb ⟨rfl,h4.2 rfl⟩
  |true=>
   refine qa<|qa<|Ŝ (h4.1 rfl) (λx s5 h5=>?_) λ_ _ z=>z;exact qa<|Ŝ h5 (λ_ s6 h6=>qb<|qb ⟨rfl,h6⟩) λ_ _ z=>z
def SH(J:It)(mf:St)(g:TG)(tt:TT)(te:TE)(Z:Qa V->Hp->Prop)(H1:Hp):Prop :=
 ∃W:Nat->Nat->Qa V->Hp->Prop,(∃m,W 0 m [] H1)/\∀i m ys H,W i m ys H->
  (J.stop i H/\Z ys H)\/(J.go i H/\ys.length < Ĕ/\∃N:Qa V->Hp->Prop,(∀iV H',N iV H'->∃m',m' < m/\W (i+1) m' iV H')/\
   ∀x H',J.Ac i H x H'->g x mf H' λip H2=>tt ip H2 λb H3=>if b=ż then te ip H3 λy H4=>N (ys++[y]) H4 else N ys H3)
def GW(mf:St)(g:TG):Prop:=∀x H (Q:St->Hp->Prop),g x mf H Q->g x mf H λip H2=>Wk mf ip/\Q ip H2
def Qp{J:It}{tn:Nat->ĵ->Prop}{g:TG}{Z:Qa V->Hp->Prop}{RR:Qc->Qg->υ->Qd->Prop}
  (hc:X.calm=ż) (I:Inv X pins σ H s) (S:xD scope xs) (f:bF X cl xs js) (jO:ts.length=nt) (T:Turn X.prog X.w X.K tg J fp it tn) (st:tn 0 s.heap) (hf:∀b∈fp,jo X pins H b)
  (hg:∀C s H ex,PG (fH X scope cl (ts++xs) C s H ex) tg g) (ht:∀C s H ex,vC (fH X scope cl (ts++xs) C s H ex) ifs tt) (he:∀C s H ex,PE (fH X scope cl (ts++xs) C s H ex) elt te)
  (gw:GW (c0 nt js σ) g) (h:SH J (c0 nt js σ) g tt te Z H)
  (hRR:∀(D C:Qg) (m:Str->Qb Qc) (s':Qd) (ys:Qa V) (H':Hp),Z ys H'->H' D=Ž->Inv X pins σ (upd H' D<|.lst ys) s'->s'.heap.Ns C m->upd H' D (.lst ys) C=Ž->C≠X.env.locals->
   (∀x c,X.env.cells.lookup x=ž c->c≠C)->X.bC.heap.objs.size<=C->(∀p∈X.pn++pins,p.1≠C)->RR (.ref D) C (.ok .next) s'):
  ĕ (Ę X.prog X.w) X.A (newList []) (λacc s3=>ĕ (Ę X.prog X.w) X.A (a4C scope X.env.globals cl [] X.env.qual Ž .none<|some X.env) (λBc s4=>
   a0n (Ę X.prog X.w) X.A (.compStart (.ListComp elt [⟨tg,iter,ifs,0⟩] scope pos) 0 (.ref it) acc {Bc with scope:=relabel scope X.env}) (RR acc Bc.locals) s4) E s3) E s:=by
 refine qy<|zrH λh1 AM rh ck=>?_;dsimp only at AM rh ck ⊢;generalize Kh:s.heap.push {cls:=.type "list",dict:=Ž,data:=.seq ([]:Qa Qc).toArray}=G at AM rh ck ⊢;have xp:G.objs.size=s.heap.objs.size+1:=by rw[<-Kh,Ŏ]
 have hC:s.heap.objs.size<=G.objs.size:=by rw[xp];exact ò _
 have Ub:s.heap.objs.size≠G.objs.size:=by rw[xp];exact qj<|í _
 have hl:∀b∈fp,b < s.heap.objs.size:=λb hb=>by
  have(o,e,_):=T.obj _ _ st b hb;exact qh e
 have old:∀b o,s.heap.get? b=ž o->h1.get? b=ž o:=λb o e=>
  rh b o (Kh▸qd _ e)
 have hD1:h1.get? s.heap.objs.size=ž {cls:=.type "list",data:=.seq ([]:Qa Qc).toArray}:=rh _ _ (Kh▸qg _ rfl);have J0:Inv (fH X scope cl (ts++xs) G.objs.size s H fp) [] (c0 nt js σ) H {s with heap:=h1}:=zrI (tk:=s.toks) I S f jO hC hf hl old AM ck;obtain⟨W,⟨m0,w0⟩,turn⟩:=h;have ur:tn 0 h1:=T.keep _ _ _ st λb hb o e=>old b o e;have hDn:H s.heap.objs.size=Ž:=I.aC.fresh (qe _);have Bu:∀b∈fp,s.heap.objs.size≠b:=λb hb z=>absurd (hl b hb) (by rw[<-z];exact Ð _);have Ko:∀{H':Hp} {pl:Qa (Qg×Obj)},(∀b∈fp,H' b=Ž)->(∀p∈pl,p.1=s.heap.objs.size)->∀b∈fp,jo (fH X scope cl (ts++xs) G.objs.size s H fp) pl H' b:=λ{H' pl} hn hp b hb=>by
  refine⟨hn b hb,qj<|qi (hl b hb) hC,λz=>?_,.inl hb,λx c e=>((NU I S f ck hC hf hl (ts:=ts)).EM b hb).2 x c e,λp hpp z=>?_⟩
  .rcases qu.mp (I.gv b z)with q|q
   .exact(hf b hb).2.1 q
   .exact(hf b hb).2.2.1 q
  .rcases Â.mp hpp with q|q
   .cases q
   .exact Bu b hb ((hp p q).symm.trans z)
 have loop:a0n (Ę X.prog X.w) X.A (.compLoop (.ListComp elt [⟨tg,iter,ifs,0⟩] scope pos) 0 (.ref it) (.ref s.heap.objs.size)<|compEnvC scope (ļ (G.objs.size+1) scope.names cl) G.objs.size X.env) (RR (.ref s.heap.objs.size) G.objs.size)
   {s with heap:=h1}:=by
  refine zmY (λn s'=>∃i ys ai nn H',Inv (fH X scope cl (ts++xs) G.objs.size s H fp) [] (c0 nt js σ) H' s'/\tn i s'.heap/\(∀b∈fp,H' b=Ž)/\H' s.heap.objs.size=Ž/\
   s'.heap.get? s.heap.objs.size=ž {cls:=.type "list",data:=.seq (a2w ai) nn}/\zQ ys ai/\ys.length<=Ĕ/\W i n ys H') ?_ m0
   ⟨0,[],[],0,H,J0,ur,λb hb=>(hf b hb).1,hDn,hD1,.nil,À _,w0⟩
  rintro n s3 ⟨i,ys,ai,nn,H3,I3,iX,A6,d3,o3,r3,z3,w3⟩ E';have pM:s.heap.objs.size≠(fH X scope cl (ts++xs) G.objs.size s H fp).env.locals:=Ub;have UU:Inv (fH X scope cl (ts++xs) G.objs.size s H fp) [(s.heap.objs.size,{cls:=.type "list",data:=.seq ai.toArray nn})] (c0 nt js σ) H3 s3:=I3.fZ λp hp=>by
   have e:p=(s.heap.objs.size,{cls:=.type "list",data:=.seq ai.toArray nn}):=by simpa using hp
   subst e;refine⟨o3,d3,pM,λz=>?_,λv z=>by cases z⟩;have(_,ob,e,_):=I.stack.mem z;exact absurd (qh e)<|Ð _
  have Je:∀p∈[(s.heap.objs.size,({cls:=.type "list",data:=.seq ai.toArray nn}:Obj))],p.1=s.heap.objs.size:=λp hp=>by
   have e:p=(s.heap.objs.size,{cls:=.type "list",data:=.seq ai.toArray nn}):=by simpa using hp
   rw[e]
  rcases turn i n ys H3 w3 with⟨stop,qz⟩|⟨go,hsz,N,hN,step⟩
  .refine aF (T.done (fH X scope cl (ts++xs) G.objs.size s H fp) rfl rfl rfl hc i _ s3 _ H3 E' UU (Ko A6 Je) iX stop) λr s4 hZ=>?_
   have(hr,I4):=hZ;subst hr;have o4:s4.heap.get? s.heap.objs.size=ž {cls:=.type "list",data:=.seq ai.toArray nn}:=(I4.pin _<|qv _ qo).1;have(m4,n4,_):=I4.loc;have hk4:cP X.prog X.w X.K (upd H3 s.heap.objs.size<|.lst ys) s4.heap:=Pz I4.aC d3 ⟨z3,ai,nn,r3,o4⟩;have un4:Un (ja X.stack) fp H (upd H3 s.heap.objs.size<|.lst ys) s.heap s4.heap:=OW I4.base d3 (qe _);refine hRR _ _ m4 s4 ys H3 qz d3 (I.Be I4.os un4 hk4 I4.bare λb hb=>⟨(hf b hb).2.2.2.1,(hf b hb).2.1,(hf b hb).2.2.2.2.1,λp hp=>(hf b hb).2.2.2.2.2 p hp⟩) n4 ?_ ?_ ?_ ?_ ?_
   .rw[zw<|Ľ Ub]
    exact I4.free
   .exact λz=>absurd I.lt (by rw[<-z];exact Nat.not_lt.mpr hC)
   .intro x c e z
    have(v,ob,q,_):=I.cell x c e;exact absurd (qh q) (by rw[z];exact Nat.not_lt.mpr hC)
   .exact qx I.sz hC
   .intro p hp z
    have q:=(I.pin p hp).1;exact absurd (qh q) (by rw[z];exact Nat.not_lt.mpr hC)
  .refine aF (T.item (fH X scope cl (ts++xs) G.objs.size s H fp) rfl rfl rfl hc i _ s3 _ H3 E' UU (Ko A6 Je) iX go) λr s4 hZ=>?_
   have(u,hr,h4):=hZ;subst hr;refine aF h4 λ_ s5 hZ=>?_;have(x,H5,I5,r5,y5,qW,Kn):=hZ;have KP:=I5.pinned (Ko Kn Je) (T.obj _ _ qW);refine Ft (hg _ _ _ _ _ s5 _ H5 x u _ KP r5<|gw _ _ _<|step x H5 y5) λ_ s6 hZ=>?_;have(xH,H6,I6,SX,q6):=hZ;refine Ft (ht _ _ _ _ _ s6 xH H6 _ I6 q6) λok s7 hZ=>?_;have(H7,I7,q7):=hZ;have after:∀{H8:Hp} {s8:Qd},Inv (fH X scope cl (ts++xs) G.objs.size s H fp) ([(s.heap.objs.size,({cls:=.type "list",data:=.seq ai.toArray nn}:Obj))]++yr fp s5.heap) xH H8 s8->
     tn (i+1) s8.heap/\(∀b∈fp,H8 b=Ž)/\H8 s.heap.objs.size=Ž/\s8.heap.get? s.heap.objs.size=ž {cls:=.type "list",data:=.seq ai.toArray nn}/\
      Inv (fH X scope cl (ts++xs) G.objs.size s H fp) [] (c0 nt js σ) H8 s8:=λ{H8 s8} I8=>by
    have dd:=I8.pin (s.heap.objs.size,({cls:=.type "list",data:=.seq ai.toArray nn}:Obj)) (qv _<|Ë _ qo);refine⟨T.keep _ _ _ qW λb hb o e=>(I8.pin (b,o)<|qv _<|qv _<|DB hb e).1,λb hb=>?_,dd.2.1,dd.1,?_⟩
    .have(o,e,d):=T.obj _ _ qW b hb
     exact(I8.pin (b,o)<|qv _<|qv _<|DB hb e).2.1
    .exact(I8.weak SX.1 SX.2).fZ λp hp=>by cases hp
   refine⟨λaC=>?_,λaC=>?_⟩
   .subst aC
    rw[a6P rfl]at q7;refine Ft (he _ _ _ _ _ s7 xH H7 _ I7 q7) λv s8 hZ=>?_;have(y,H8,I8,ry,q8):=hZ;have(st8,fr8,d8,o8,I8'):=after I8;have(m',hm,w8):=hN _ _ q8;refine a1F a6N ⟨_,o8,rfl⟩ a6v (a6a _ _) (a5H s.heap.objs.size ai.toArray nn v (by rw[ě,<-r3.length];omega)) ⟨o8,?_⟩;have(_,f1,_,f3,f4,_):=(⟨d8,pM,trivial,.inr<|qe _,λx c e=>by
     rcases zev e with z|⟨z,_⟩
     .exact û (qi (Æ hC<|í _) (ck.empty _ _<|mem_of_lookup z).2)
     .have(v0,ob,q,_):=I.cell x c (sG f x c z)
      exact û (qh q) |>.symm,trivial⟩:H8 s.heap.objs.size=Ž/\s.heap.objs.size≠(fH X scope cl (ts++xs) G.objs.size s H fp).env.locals/\True/\(s.heap.objs.size∈fp\/s.heap.objs.size<=s.heap.objs.size)/\
      (∀x c,(ļ (G.objs.size+1) scope.names cl).lookup x=ž c->c≠s.heap.objs.size)/\True)
    have q:=a4H o8 (λx=>x.push v);have hp:ai.toArray.push v=(ai++[v]).toArray:=by simp
    rw[hp]at q;refine⟨m',hm,i+1,ys++[y],ai++[v],_,H8,I8'.turned (t':=s8.toks) (it:=s.heap.objs.size) (λb o hb e=>(Î s8.heap _<|Ľ hb).trans e) d8 f1 f3 f4 (λp hp=>by cases hp),?_,fr8,d8,q,r3.append<|.cons ry .nil,?_,w8⟩
    .exact T.keep _ _ _ st8 λb hb o e=>(Î s8.heap _<|Bu b hb).trans e
    .rw[qr,ŏ]
     omega
   .subst aC
    rw[a6Q qf]at q7;have(st7,fr7,d7,o7,I7'):=after I7;have(m',hm,w7):=hN _ _ q7;exact⟨m',hm,i+1,ys,ai,nn,H7,I7',st7,fr7,d7,o7,r3,z3,w7⟩
 exact codeAny_compStart_list loop<|T.self _ _ _ _ _ ur loop
def Ak(wi:TI)(nt:Nat)(js:Qa Nat)(g:TG)(tt:TT)(te:TE):TE:=λσ H Q=>wi σ H λJ H1=>
 SH J (c0 nt js σ) g tt te (λys H2=>∀D,H2 D=Ž->Q (.ref D) (upd H2 D<|.lst ys)) H1
def zBL{wi:TI}{g:TG}(nt:Nat)(ts:Qa Str)(jO:ts.length=nt)(hc:X.calm=ż)(S:xD scope xs)(f:bF X cl xs js)(i8:closureFor scope X.env=pure cl)
  (hi:PI X tg iter wi) (hg:∀C s H ex,PG (fH X scope cl (ts++xs) C s H ex) tg g) (gw:∀σ:St,GW (c0 nt js σ) g) (ht:∀C s H ex,vC (fH X scope cl (ts++xs) C s H ex) ifs tt)
  (he:∀C s H ex,PE (fH X scope cl (ts++xs) C s H ex) elt te) (hs:∀x,ς iter X.env x=pure x:=by intro _;rfl):
  PE X (.ListComp elt [⟨tg,iter,ifs,0⟩] scope pos) (Ak wi nt js g tt te):=by
 intro pins s σ H Q I h;rw[eval_ListComp];refine a5f (use:=Ž) rfl hs i8 S.kind S.names<|aF (hi pins s σ H _ I h) λv s1 h1=>aF h1 λEl s2 h2=>?_;have(it,fp,tn,J,H2,e,I2,T,bM,f2,q):=h2;subst e;refine Qp (RR:=λacc C=>compPost (Ę X.prog X.w) X.A X.xe Ž (EP X pins σ Q) acc C) hc I2 S f jO T bM f2 hg ht he (gw σ) q ?_;intro D C m s' ys H' z hD I' hn Kj EG EF xp Ki;refine⟨m,hn,λh' dE=>⟨.ref D,_,I'.turned (it:=C) (λb o hb e=>dE.extBut b o hb e) Kj EG (.inr xp) EF Ki,rfl,z D hD⟩⟩
end
section
variable{X:Cx}
def x8(_ j:Int):Prop:=0 < j/\j.natAbs.log2 < 9000
def OV:bz X (Ŷ .FloorDiv) (rI x8 λi j=>.int<|i / j):=wZ λi j _ _ _ _ _ hc q=>by
 have h1:(0:Int) < j:=hc.1;exact floordiv_int (by omega) (by rw[a0C i (by omega)];exact q)<|.inl<|a3q hc.2
def vP(_ j:Int):Prop:=j≠0/\j.natAbs.log2 < 9000
def OU:bz X (Ŷ .FloorDiv) (rI vP λi j=>.int<|i.fdiv j):=wZ λi j _ _ _ _ _ hc q=>
 floordiv_int hc.1 q (.inl<|a3q hc.2)
def Dz{k:Nat}(hk:0 < k)(h:n < 2^k):n.log2 < k:=by
 by_cases hn:n=0
 .subst hn;exact hk
 .exact(a5t hn).mpr h
def Yn{i j:Int}(h:0 < j)(h2:j<=2^128):x8 i j:=⟨h,ø (Dz (k:=129) (by decide) (by omega)) (by decide)⟩
def Fs(K:qc):Qa V->Hp->VK->Prop:=λxs H Q=>∃x t T b,xs=[x,.ty T]/\eB K H x t/\ŭ K t (.type T)=ž b/\Q (.bl b) H
def zrK:gJ X (.builtin "isinstance") (Fs X.K):=by
 intro pins s σ H xs us Q I r h;have(x,t,T,b,rfl,ty,e,q):=h;have(u,u',rfl,rx,rt):=Cq r;cases rt;exact zp8 I rx ty e λtk=>⟨.bl b,H,I.tok tk,rfl,q⟩
end
def NT(h:i < nt):∀σ:St,GW (c0 nt js σ) (k7 i):=λσ x H Q q=>⟨VA<|Hj h,q⟩
def SameBut(p:Qg)(H H':Hp):Prop:=∀b o,b≠p->H b=ž o->H' b=ž o
def iz{p:Qg}(h:H p=Ž)(o:HO):dI H (upd H p o):=λb u q=>by rw[zw<|jr q h];exact q
def Bl(mg:Str->Qb Qc)(xs:Qa Str):Prop:=∀x,x∈xs->mg x=Ž
def Bl.nil:Bl mg []:=λ_ h=>by cases h
def Bl.cons{xs:Qa Str}(h:mg x=Ž)(t:Bl mg xs):Bl mg (x::xs):=λy m=>by
 rcases qu.mp m with e|e
 .rw[e];exact h
 .exact t y e
noncomputable def eG:Ķ->Bool
 |.Starred _ _=>Ż
 |_=>ż
def j8{es:Qa Ķ}(h:eG e=ż):Ļ (e::es) env=(Ż,Ÿ e env)::Ļ es env:=by
 cases e<;>first|rfl|cases h
def sJ:∀{es:Qa Ķ},es.all eG=ż->(Ω pos<|Ļ es env).any (·.1)=Ż
 |[],_=>rfl
 |e::es,h=>by
  rw[ω,Ĵ]at h;rw[j8 h.1];show(Ż || (Ω pos<|Ļ es env).any (·.1))=Ż;rw[a2e];exact sJ h.2
section
variable{X:Cx}{es:Qa Ķ}{t:TA}{r:Qa V->Hp->VK->Prop}{id:String}
def zDu(ha:PE X e te)(hr:PA X es t)(hs:eG e=ż:=by rfl):PA X (e::es) (oN te t):=Yy ha hr (j8 hs)
def zBM(hc:gJ X (.builtin id) r)(hg:Gl X x)(hm:X.mg x=Ž)(hv:Ź x=ž (.builtin id))(ha:PA X (e::es) t)(hn:x ≠ "__name__":=by decide)(cN:(x==("__debug__":Str))=Ż:=by decide)
  (he:eG e=ż:=by rfl) (dq:es.all eG=ż:=by rfl):PE X (.Call (.Name x p) (e::es) [] pos) (oZ r t):=zrs hc hg hm hv ha hn cN (j8 he) (sJ dq)
def zBN(hc:gJ X (.type T) r)(hg:Gl X x)(hm:X.mg x=Ž)(hv:Ź x=ž (.type T))(ha:PA X (e::es) t)(hn:x ≠ "__name__":=by decide)(cN:(x==("__debug__":Str))=Ż:=by decide)
  (he:eG e=ż:=by rfl) (dq:es.all eG=ż:=by rfl):PE X (.Call (.Name x p) (e::es) [] pos) (oZ r t):=zqa hc hg hm hv ha hn cN (j8 he) (sJ dq)
end
structure KS (P:Qe) (w:Qh) (K:qc) (mg:Str->Qb Qc) (base:ĵ) (x:Str) (k:Nat) (ps:Qa Str) (sp:Sp):Prop where
 ex:∃(f:Qg) (fd:Ϣ),bU P w K mg base iS k f fd ps sp/\kY K fd ps []/\ň K (.ref f)=ż/\mg x=ž (.ref f)
def Fq(sp:Sp)(t:TA):TE:=λσ H Q=>t σ H λvs H1=>sp vs H1 Q E0
section
variable{X:Cx}{k:Nat}{es:Qa Ķ}{t:TA}
def Vz(C:KS X.prog X.w X.K X.mg X.base x k ps sp)(hr:aG k X.A)(hg:Gl X x)(ha:PA X (e::es) t)(cN:(x==("__debug__":Str))=Ż:=by decide)
  (he:eG e=ż:=by rfl) (dq:es.all eG=ż:=by rfl):PE X (.Call (.Name x p) (e::es) [] pos) (Fq sp t):=by
 have(f,fd,F,hb,hk,hm):=C.ex;intro pins s σ H Q I h;refine Yx (dvs:=[]) (E:=E0) F hr hg hm hk hb .nil LU ha cN (j8 he) (sJ dq) pins s σ H Q I ?_;show t σ H λvs H1=>sp (vs++[]) H1 Q E0;have z:(λ(vs:Qa V) (H1:Hp)=>sp (vs++[]) H1 Q E0)=λvs H1=>sp vs H1 Q E0:=by
  funext vs H1
  rw[ŕ]
 rw[z];exact h
end
def Gf(t:TS):TS:=λD σ H=>∃J:St->Hp->Prop,t {D with nx:=J} σ H/\∀aK H',J aK H'->D.nx aK H'
def Ym{X:Cx}{t:TS}(h:PS X st t):PS X st (Gf t):=by
 intro pins s σ H D I ⟨J,q,z⟩;refine aF (h pins s σ H _ I q) λf s' r=>?_;cases f with
 |next=>have(aK,H',I',j):=r;exact⟨aK,H',I',z _ _ j⟩
 |brk=>exact r
 |cont=>exact r
 |ret u=>exact r
def OT(x y:Int)(hx:0<=x)(hy:0 < y):ō y (x % y)=ō x y:=by
 have(a,rfl):=a4u hx;have(b,rfl):=a4u (ε hy);rw[<-Int.natCast_emod];show Nat.gcd b (a % b)=Nat.gcd a b;rw[Nat.gcd_comm a b,Nat.gcd_comm b<|a % b];exact(Nat.gcd_rec b a).symm
def Yl(x y:Int):ō (if x < 0 then -x else x) y=ō x y:=by
 split
 .exact a5v
 .rfl
structure Wr (p:Prop):Prop where
 run:p
def tT{xs:Qa Str}(h:Bl mg xs)(m:x∈xs):mg x=Ž:=h x m
def yJ{X:Cx}{C:Qg}{ex:Qa Qg}(h:decide N.Nodup=ż):(fH X scope cl N C s H ex).N.Nodup:=a6T h
noncomputable def nA(X:Cx)(js:Qa Nat):Qa Str:=js.map λj=>X.N.getD j ""
def oF(X:Cx)(js:Qa Nat):Qa (Str×Qg):=(nA X js).map λx=>(x,(X.env.cells.lookup x).getD 0)
noncomputable def qU:Ķ->Qa Str
 |.Name x _=>[x]
 |.Tuple es _ _=>es.flatMap λe=>match e with
  |.Name x _=>[x]
  |.Tuple fs _ _=>fs.filterMap λe=>match e with
   |.Name x _=>ž x
   |_=>Ž
  |_=>[]
 |_=>[]
def E2(nt:Nat)(g:TG):Prop:=∀(js:Qa Nat) (σ fV:St),Wk (c0 nt js σ) fV->∀x H (Q:St->Hp->Prop),g x fV H Q->g x fV H λip H2=>Wk (c0 nt js σ) ip/\Q ip H2
def vB(nt:Nat)(g:jx):Prop:=∀(js:Qa Nat) (σ fV:St),Wk (c0 nt js σ) fV->∀x H (Q:St->Hp->Prop),g x fV H Q->g x fV H λip H2=>Wk (c0 nt js σ) ip/\Q ip H2
def zrM(h:i < nt):E2 nt (k7 i):=by
 intro js σ fV w x H Q q;refine⟨⟨by rw[Ĺ];exact w.1,λj v e=>?_⟩,q⟩;have ne:i≠j:=by
  rintro rfl;rw[Hj h]at e;cases e
 rw[qB ne];exact w.2 j v e
def OS:vB nt B0:=λjs σ fV w x H Q q=>⟨q.1,w,q.2⟩
def zqk{g:TG}{gs:jx}(h1:E2 nt g)(h2:vB nt gs)(mono:∀v σ H (Q Q':St->Hp->Prop),(∀aK H',Q aK H'->Q' aK H')->g v σ H Q->g v σ H Q'):vB nt (yg g gs):=by
 intro js σ fV w x H Q q;have(v,r,e,k):=q;refine⟨v,r,e,mono _ _ _ _ _ (λaK H' hZ=>?_)<|h1 js σ fV w v H _ k⟩;have(w',q'):=hZ;exact h2 js σ aK w' r H' Q q'
def NS{gs:jx}(h:vB nt gs):E2 nt (BZ K n gs):=by
 intro js σ fV w x H Q q;have(a,xs,e,s,l,k):=q;exact⟨a,xs,e,s,l,h js σ fV w xs H Q k⟩
def LQ{g:TG}(h:E2 nt g):∀σ:St,GW (c0 nt js σ) g:=λσ x H Q q=>h js σ _ ⟨rfl,λ_ _ e=>e⟩ x H Q q
def zql:∀v σ H (Q Q':St->Hp->Prop),(∀aK H',Q aK H'->Q' aK H')->k7 i v σ H Q->k7 i v σ H Q':=λv σ H Q Q' h q=>h _ _ q
def Py{gs:jx}(h:i < nt)(h2:vB nt gs):vB nt (yg (k7 i) gs):=zqk (zrM h) h2 zql
section
variable{X:Cx}{a b c:Ķ}{es rest:Qa Ķ}{t:TA}{r:Qa V->Hp->VK->Prop}{rd:R2}{id:String}{tA o9:TT}{fO body:Qa ū}{ts us:TS}{g:TG}{gs:jx}{wi:TI}
def aa(hN:X.N[i]?=ž x:=by rfl)(hv:Bi X.env.scope x:=by first|exact a1S rfl|exact a1a (a1S rfl) |exact a1a<|a1a rfl)(hd:(x==("__debug__":Str))=Ż:=by decide)
  (jP:(x==("__classdict__":Str))=Ż:=by decide):Wr (PE X (.Name x pos)<|ni i):=⟨pv i hN hv hd jP⟩
def zk{n:Int}:Wr (PE X (.Constant (.int n) j pos)<|tC<|.int n):=⟨Wj⟩
def fF{n:Bool}:Wr (PE X (.Constant (.bool n) j pos)<|tC<|.bl n):=⟨zBy⟩
def Ck:Wr (PE X (.Constant .none j pos)<|tC .aO):=⟨Wi⟩
def iL{n:Str}:Wr (PE X (.Constant (.str n) j pos)<|tC<|.str n):=⟨Wh⟩
def iA(hv:Ź x=ž u)(r:zU v u)(hg:Gl X x:=by exact rfl)(hm:X.mg x=Ž:=by exact tT ‹Bl _ _› (by decide))(hn:x ≠ "__name__":=by decide)(hd:(x==("__debug__":Str))=Ż:=by decide):Wr (PE X (.Name x pos)<|tC v):=⟨Zg hg hm hv r hn hd⟩
def zX{op:Operator}(ho:bz X (Ŷ op) rd)(ha:Wr (PE X a ta))(hb:Wr (PE X b tb)):Wr (PE X (.BinOp a op b pos)<|mW rd ta tb):=⟨zBC ho ha.run hb.run⟩
def p8{op:UnaryOp}{r:V->Hp->VK->Prop}(ho:EV X (unaryOp op) r)(ha:Wr (PE X a ta)):Wr (PE X (.UnaryOp op a pos)<|IU r ta):=⟨zBD ho ha.run⟩
def w_not(ha:Wr (PE X a ta)):Wr (PE X (.UnaryOp .Not a pos)<|Gb ta):=⟨V9 ha.run⟩
def oM(ho:bz X (Ĭ op) rd)(ha:Wr (PE X a ta))(hb:Wr (PE X b tb))(hm:ϊ op b=Ż:=by first|exact MK _|rfl):Wr (PE X (.Compare a [op] [b] pos)<|mW rd ta tb):=⟨Zu ho ha.run hb.run hm⟩
def zW(ho:bz X (Ĭ op) rd)(ha:Wr (PE X a ta))(hb:Wr (PE X b tb))(hm:ϊ op b=Ż:=by first|exact MK _|rfl):Wr (PT X (.Compare a [op] [b] pos)<|tO<|mW rd ta tb):=⟨Zt ho ha.run hb.run hm⟩
def NR{S5:R2}{tc:TE}(ho:bz X (Ĭ op) rd)(dF:bz X (Ĭ hV) S5)(ha:Wr (PE X a ta))(hb:Wr (PE X b tb))(hc:Wr (PE X c tc))(hm:a2s [op,hV] [b,c]=Ż:=by rfl):
  Wr (PE X (.Compare a [op,hV] [b,c] pos)<|yq rd S5 ta tb tc):=⟨zrp ho dF ha.run hb.run hc.run hm⟩
def nD{op}(h:Wr (PE X a te)):Wr (PE X (.BoolOp op [a] pos) te):=⟨Wb h.run⟩
def mO(ha:Wr (PE X a ta))(hb:Wr (PE X (.BoolOp .And (b::rest) pos) tb)):Wr (PE X (.BoolOp .And (a::b::rest) pos)<|Gc ta tb):=⟨Wa ha.run hb.run⟩
def zDv(ha:Wr (PE X a ta))(hb:Wr (PE X (.BoolOp .Or (b::rest) pos) tb)):Wr (PE X (.BoolOp .Or (a::b::rest) pos)<|Fw ta tb):=⟨zBA ha.run hb.run⟩
def Hi(ha:Wr (PT X a tA)):Wr (PW X (.BoolOp .And [a] pos) tA):=⟨Zf ha.run⟩
def iN(ha:Wr (PT X a tA)):Wr (PW X (.BoolOp .Or [a] pos) tA):=⟨We ha.run⟩
def GD(ha:Wr (PT X a tA))(hb:Wr (PW X (.BoolOp .And (b::rest) pos) o9)):Wr (PW X (.BoolOp .And (a::b::rest) pos)<|Fy tA o9):=⟨Wd ha.run hb.run⟩
def fM(ha:Wr (PT X a tA))(hb:Wr (PW X (.BoolOp .Or (b::rest) pos) o9)):Wr (PW X (.BoolOp .Or (a::b::rest) pos)<|IW tA o9):=⟨zBz ha.run hb.run⟩
def gM(h:Wr (PW X e tA)):Wr (PT X e tA):=⟨h.run.pt⟩
def dM(ha:Wr (PT X a tA)):Wr (PT X (.UnaryOp .Not a pos)<|Fx tA):=⟨Wc ha.run⟩
def eF(h:Wr (PE X e te))(he:∀whole,a3J e X.env whole=(do let v <-whole;a4m e.pos;a0I [v] (truthy v)):=by intro _;rfl):Wr (PT X e<|tB te):=⟨Wf h.run he⟩
def SG(K:qc)(ta:TE):TT:=λσ H Q=>ta σ H λx H'=>∃k,Fi K x H' k/\Q k H'
def zf:Wr (PA X [] pX):=⟨Vc⟩
def af(ha:Wr (PE X e te))(hr:Wr (PA X es t))(hs:eG e=ż:=by rfl):Wr (PA X (e::es)<|oN te t):=⟨zDu ha.run hr.run hs⟩
def cS{x1}(h:Wr (PA X es t)):Wr (PE X (.Tuple es x1 pos)<|Fh t):=⟨Vb h.run⟩
def mN(h:Wr (PA X es t)):Wr (PE X (.List es pos)<|BI t):=⟨Va h.run⟩
def bB(hc:gJ X (.builtin id) r)(hv:Ź x=ž (.builtin id))(ha:Wr (PA X (e::es) t))(hg:Gl X x:=by exact rfl)(hm:X.mg x=Ž:=by exact tT ‹Bl _ _› (by decide))(hn:x ≠ "__name__":=by decide)(cN:(x==("__debug__":Str))=Ż:=by decide)
  (he:eG e=ż:=by rfl) (dq:es.all eG=ż:=by rfl):Wr (PE X (.Call (.Name x p) (e::es) [] pos)<|oZ r t):=⟨zBM hc hg hm hv ha.run hn cN he dq⟩
def oE(hc:gJ X (.type T) r)(hv:Ź x=ž (.type T))(ha:Wr (PA X (e::es) t))(hg:Gl X x:=by exact rfl)(hm:X.mg x=Ž:=by exact tT ‹Bl _ _› (by decide))(hn:x ≠ "__name__":=by decide)(cN:(x==("__debug__":Str))=Ż:=by decide)
  (he:eG e=ż:=by rfl) (dq:es.all eG=ż:=by rfl):Wr (PE X (.Call (.Name x p) (e::es) [] pos)<|oZ r t):=⟨zBN hc hg hm hv ha.run hn cN he dq⟩
def zJ{k:Nat}(ha:Wr (PA X (e::es) t))(C:KS X.prog X.w X.K X.mg X.base x k ps sp:=by assumption)(hr:aG k X.A:=by exact aG.mono ‹aG _ _› (by decide))(hg:Gl X x:=by exact rfl)(cN:(x==("__debug__":Str))=Ż:=by decide)
  (he:eG e=ż:=by rfl) (dq:es.all eG=ż:=by rfl):Wr (PE X (.Call (.Name x p) (e::es) [] pos)<|Fq sp t):=⟨Vz C hr hg ha.run cN he dq⟩
def zZ(hr:vm X rd)(ha:Wr (PE X a ta))(hb:Wr (PE X b tb))(hs:Of b:=by exact λ_ _=>rfl):Wr (PE X (.Subscript a b pos)<|mW rd ta tb):=⟨zBG hr ha.run hb.run hs⟩
def sD:Wr (PO X Ž Hf):=⟨Yw⟩
def sC(h:Wr (PE X e te)):Wr (PO X (ž e)<|F5 te):=⟨Yv h.run⟩
def sA{r:V->Qb Int->Qb Int->Hp->VK->Prop}{lo hi:Qb Ķ}{tl th:TO}{p2:Pos}(hr:xC X r)(he:Wr (PE X e te))(hl:Wr (PO X lo tl))(hu:Wr (PO X hi th)):Wr (PE X (.Subscript e (.Slice lo hi Ž p2) pos)<|IV r te tl th):=⟨zrv hr he.run hl.run hu.run⟩
def oW{ta:TA}(ha:Wr (PA X [a] ta))(hg:Gl X "range":=by exact rfl)(hm:X.mg "range"=Ž:=by exact tT ‹Bl _ _› (by decide))(hs:eG a=ż:=by rfl):Wr (PI X tg (.Call (.Name "range" p) [a] [] pos)<|F8 ta):=⟨zp2 hg hm ha.run<|j8 hs⟩
def zrN{ta:TA}(ha:Wr (PA X [a,b] ta))(hg:Gl X "range":=by exact rfl)(hm:X.mg "range"=Ž:=by exact tT ‹Bl _ _› (by decide))(hs:eG a=ż:=by rfl)(uK:eG b=ż:=by rfl):Wr (PI X tg (.Call (.Name "range" p) [a,b] [] pos)<|F7 ta):=
 ⟨zp3 hg hm ha.run ((j8 hs).trans (by rw[j8 uK];rfl))<|j8 uK⟩
def zt(hN:X.N.Nodup:=by first|assumption|exact yJ rfl)(hi:X.N[i]?=ž x:=by rfl)(hx:Loc X.env.scope x:=by first|exact a1S rfl|exact a1a rfl)(hf:X.fn x=ż\/X.env.scope.names.lookup x=ž .local:=by first|exact .inl rfl|exact .inr rfl|assumption):Wr (PG X (.Name x pos)<|k7 i):=⟨Zx hN hi hx hf⟩
def hJ:Wr (tz X [] B0):=⟨Zw⟩
def bZ(h1:Wr (PG X e g))(h2:Wr (tz X es gs))(hs:(Ϭ (e::es) X.env).map (·.2)=a1k e X.env::(Ϭ es X.env).map (·.2):=by rfl):Wr (tz X (e::es)<|yg g gs):=⟨zrg h1.run h2.run hs⟩
def CM{ti:TE}{Ai:B1}(ho:Wr (PE X o ta))(hi:Wr (PE X e ti))(hs:FE X Ai)
  (hh:∀v,a1k (.Subscript o e pos) X.env v=(do
   let ov <-a0I [v] (Ÿ o X.env)
   let iv <-a0I [v,ov] (Ÿ e X.env)
   a4m pos
   a0I [v,ov,iv] (setItem ov iv v)
   release [v,ov,iv] []):=by intro _;rfl):Wr (PG X (.Subscript o e pos)<|FC ta ti Ai):=⟨Ww ho.run hi.run hs hh⟩
def yy:Wr (vC X [] Fu):=⟨zrJ⟩
def BG(hi:Wr (PI X tg iter wi))(hg:∀{C s H ex},Wr<|PG (fH X scope (oF X js) (qU tg++nA X js) C s H ex) tg g)(ht:∀{C s H ex},Wr<|vC (fH X scope (oF X js) (qU tg++nA X js) C s H ex) ifs tt)
  (he:∀{C s H ex},Wr<|PE (fH X scope (oF X js) (qU tg++nA X js) C s H ex) elt te)
  (f:bF X (oF X js) (nA X js) js:=by repeat (first|exact bF.nil|refine bF.cons rfl (by first|exact a1S rfl|exact a1a rfl) rfl ?_)) (i8:closureFor scope X.env=pure (oF X js):=by rfl) (S:xD scope (nA X js):=by exact⟨rfl,a6T rfl,a6T rfl,a6T rfl,a6T rfl⟩) (jO:(qU tg).length=nt:=by rfl) (hc:X.calm=ż:=by rfl) (gw:∀σ:St,GW (c0 nt js σ) g:=by first|exact NT (by decide) |exact LQ<|NS (by repeat (first|exact OS|refine Py (by decide) ?_))) (hs:∀x,ς iter X.env x=pure x:=by intro _;rfl):
  Wr (PE X (.ListComp elt [⟨tg,iter,ifs,0⟩] scope pos)<|Ak wi nt js g tt te):=⟨zBL nt (qU tg) jO hc S f i8 hi.run (λC s H ex=>hg.run) gw (λC s H ex=>ht.run) (λC s H ex=>he.run) hs⟩
def SE(K:qc):Qa V->Hp->VK->Prop:=λxs H Q=>∃p ys,xs=[.ref p]/\(b9 K H p ys\/bI K H p ys)/\Q (.int ys.length) H
def OR(K:qc):Qa V->Hp->VK->Prop:=λxs H Q=>∃p ys,xs=[.ref p]/\((b9 K H p ys/\∀l,H l=Ž->Q (.ref l) (upd H l<|.tup ys))\/(bI K H p ys/\Q (.ref p) H))
def iy(hK:X.K=K:=by rfl):gJ X (.builtin "isinstance") (Fs K):=hK▸zrK
def fL(hK:X.K=K:=by rfl):gJ X (.builtin "len") (SE K):=hK▸zjV
def wN(hK:X.K=K:=by rfl):gJ X (.type "tuple") (OR K):=hK▸ziM
def jF(hK:X.K=K:=by rfl):vm X (Fg K):=hK▸Yt
def zT(hK:X.K=K:=by rfl):vm X (Ff K):=hK▸U6
def SD(hK:X.K=K:=by rfl):bz X (Ĭ .In) (Ap K Ż):=hK▸PH
def Yk(hK:X.K=K:=by rfl):bz X (Ĭ .NotIn) (Ap K ż):=hK▸zjU
def LP(hK:X.K=K:=by rfl):xC X (Fe K):=hK▸Ys
def Hh{l:Ķ}{tl:TE}(hl:Wr (PE X l tl))(hK:X.K=K:=by rfl):Wr (PI X tg l<|F9 K tl):=hK▸⟨Zv hl.run⟩
def CL{l:Ķ}{tl:TE}(hl:Wr (PE X l tl))(hK:X.K=K:=by rfl):Wr (PI X tg l<|Fn K tl):=hK▸⟨Vg hl.run⟩
def hG{k:Nat}(h:Wr (tz X es gs))(hK:X.K=K:=by rfl)(hc:X.calm=ż:=by rfl)(hn:(Ϭ es X.env).length=n:=by rfl)(kC:(Ϭ es X.env).findIdx? (·.1)=Ž:=by rfl):Wr (PG X (.Tuple es k pos)<|BZ K n gs):=hK▸⟨Wx hc h.run hn kC⟩
def zBR(ha:Wr (PE X a ta))(hK:X.K=K:=by rfl)(he:∀whole,a3J a X.env whole=(do let v <-whole;a4m a.pos;a0I [v] (truthy v)):=by intro _;rfl):Wr (PT X a<|SG K ta):=hK▸⟨zrr ha.run he⟩
def zR:Wr (fu X [] Ga):=⟨Ze⟩
def aE(h1:Wr (PS X st ts))(h2:Wr (fu X fO us)):Wr (fu X (st::fO)<|FG ts us):=⟨zrf h1.run h2.run⟩
def zH(h1:Wr (PS X st ts)):Wr (fu X [st] ts):=⟨Oa h1.run⟩
def r8(he:Wr (PE X e te))(hs:a0P e Ž pos.line X.env=pure Ż:=by rfl):Wr (PS X (.Expr e pos)<|yh te):=⟨Zd he.run hs⟩
def zP(he:Wr (PE X e te)):Wr (PS X (.Return (ž e) pos)<|BW te):=⟨Wz he.run⟩
def cz{sa sb:Qa ū}(hc:Wr (PT X c tA))(ha:Wr (fu X sa ts))(hb:Wr (fu X sb us)):Wr (PS X (.If c sa sb pos)<|FF tA ts us):=⟨zBB hc.run ha.run hb.run⟩
def t6(h:Wr (PS X st ts)):Wr (PS X st<|Gf ts):=⟨Ym h.run⟩
def NQ(hc:Wr (PT X c tA))(hb:Wr (fu X body ts))(hp:a5I (Ę X.prog X.w) X.A X.env X.xe:=by first|exact a4V|exact a4p):Wr (PS X (.While c body [] pos)<|GI tA ts):=⟨zrh hp hc.run hb.run⟩
def fX(hi:Wr (PI X tg iter wi))(hg:Wr (PG X tg g))(hb:Wr (fu X body ts))(hp:a5I (Ę X.prog X.w) X.A X.env X.xe:=by first|exact a4V|exact a4p)(hc:X.calm=ż:=by rfl)(hs:∀x,ς iter X.env x=pure x:=by intro _;rfl):
  Wr (PS X (.For tg iter body [] pos)<|Fm wi g ts):=⟨Vf hp hc hi.run hg.run hb.run hs⟩
def zO(he:Wr (PE X e te))(hN:X.N.Nodup:=by first|assumption|exact yJ rfl)(hi:X.N[i]?=ž x:=by rfl)(hx:Loc X.env.scope x:=by first|exact a1S rfl|exact a1a rfl)(hs:a0P e (ž<|.Name x pos') pos.line X.env=pure Ż:=by rfl)(hf:X.fn x=ż\/X.env.scope.names.lookup x=ž .local:=by first|exact .inl rfl|exact .inr rfl|assumption):
  Wr (PS X (.Assign [.Name x pos'] e pos)<|pY te<|k7 i):=⟨Wt hN hi hx he.run hs hf⟩
def jZ(he:Wr (PE X e te))(hg:Wr (PG X tg g))(hs:a2P [tg] e pos.line X.env=pure Ż:=by rfl)(hw:a2Q [tg] e X.env=pure Ž:=by rfl)(h1:(Ϭ [tg] X.env).map (·.2)=[a1k tg X.env]:=by rfl):
  Wr (PS X (.Assign [tg] e pos)<|pY te g):=⟨Wu he.run hg.run hs hw h1⟩
def LL{y:Str}{ta:TA}{px py pt:Pos}{kt k2 uw}(ha:Wr (PA X [a,b] ta))(hc:X.calm=ż:=by rfl)(hN:X.N.Nodup:=by first|assumption|exact yJ rfl)(hi:X.N[i]?=ž x:=by rfl)(hj:X.N[j]?=ž y:=by rfl)(cY:i≠j:=by decide)
  (hx:X.env.scope.names.lookup x=ž .local:=by rfl) (hy:X.env.scope.names.lookup y=ž .local:=by rfl)
  (hw:a2Q [.Tuple [.Name x px,.Name y py] kt pt] (.Tuple [a,b] k2 uw) X.env=pure (ž [x,y]):=by rfl)
  (hs:a2P [.Tuple [.Name x px,.Name y py] kt pt] (.Tuple [a,b] k2 uw) pos.line X.env=pure Ż:=by rfl):
  Wr (PS X (.Assign [.Tuple [.Name x px,.Name y py] kt pt] (.Tuple [a,b] k2 uw) pos)<|FA i j ta):=⟨Vj hc hN hi hj cY hx hy ha.run hw hs⟩
end
def jS.okW{f:Qg}{k:Nat}(F:jS K x qual st f fd)(S:bA N ps (zN st))(len:∀vs H Q E,sp vs H Q E->vs.length=ps.length)
  (bP:∀(bo:Qc) (A:Qf) (outer:Qa Env) (s:Qd) (H:Hp) (vs:Qa V) (Q:VK) (E:XK),aG k (A.deeper<|a0z qual (zN st) s.heap.objs.size f bo)->sp vs H Q E->
   ∃t,Wr (fu (jV iS P w K mg base N qual (zN st) f bo A outer s H E).uz (j0 st) t)/\t {nx:=λ_ H'=>Q .aO H',rt:=Q} (π N vs) H):bU P w K mg base iS (k+1) f fd ps sp :=
 F.ok S len λbo A outer s H vs Q E hr h=>let ⟨t,w,q⟩:=bP bo A outer s H vs Q E hr h;⟨t,w.run,q⟩
mutual
inductive DV (K:qc) (H:Hp):V->Λ->Prop
 |aO:DV K H .aO .none
 |bl (b:Bool):DV K H (.bl b) (.bool b)
 |int (i:Int):DV K H (.int i) (.int i)
 |str (x:Str):DV K H (.str x) (.str x)
 |lst {a:Qg} {xs:Qa V} {ds:Qa Λ} (h:b9 K H a xs) (t:l8 K H xs ds):DV K H (.ref a) (.list ds)
 |tup {a:Qg} {xs:Qa V} {ds:Qa Λ} (h:bI K H a xs) (t:l8 K H xs ds):DV K H (.ref a) (.tuple ds)
inductive l8 (K:qc) (H:Hp):Qa V->Qa Λ->Prop
 |nil:l8 K H [] []
 |cons {v:V} {d:Λ} {vs:Qa V} {ds:Qa Λ} (h:DV K H v d) (t:l8 K H vs ds):l8 K H (v::vs) (d::ds)
end
section
variable{X:Cx}
def l8.reads(I:Inv X pins σ H s){v:Qa V}{d:Qa Λ}{u:Qa Qc}(h:l8 X.K H v d)(r:zQ v u):∃as,ReadsAll s.heap u d as:=by
 refine l8.rec (motive_1:=λv d _=>∀{u:Qc},zU v u->∃as,Reads s.heap u d as) (motive_2:=λv d _=>∀{u:Qa Qc},zQ v u->∃as,ReadsAll s.heap u d as) (λ{u} r=>?_) (λb {u} r=>?_) (λi {u} r=>?_) (λx {u} r=>?_) (λ{a xs ds} h _ t {u} r=>?_) (λ{a xs ds} h _ t {u} r=>?_) (λ{u} r=>?_) (λ{v d vs ds} _ _ a b {u} r=>?_) h r
 .cases r;exact⟨_,.none⟩
 .cases r;exact⟨_,.bool b⟩
 .have(t,rfl):=r;exact⟨_,.int i t⟩
 .have(t,rfl):=r;exact⟨_,.str x t⟩
 .cases r
  obtain⟨ai,rv,⟨o,n,e1,e2,e3,e4⟩,hz⟩:=I.list h;have(as,q):=t rv;exact⟨_,.list e1 e2 e4 q⟩
 .cases r
  obtain⟨ai,rv,⟨o,e1,e2,n,e4⟩,hz⟩:=I.tuple h;have(as,q):=t rv;exact⟨_,.tuple e1 e2 e4 q⟩
 .cases r;exact⟨_,.nil⟩
 .cases r with
  |cons r1 r2=>
   have(a1,q1):=a r1;have(a2,q2):=b r2;exact⟨_,.cons q1 q2⟩
def DV.reads(I:Inv X pins σ H s){d:Λ}(h:DV X.K H v d)(r:zU v u):∃as,Reads s.heap u d as:=by
 have(_,q):=l8.reads I (.cons h .nil) (.cons r .nil);cases q;exact⟨_,‹_›⟩
end
section
variable{X:Cx}{a b c:Ķ}{es rest:Qa Ķ}{t:TA}{r:Qa V->Hp->VK->Prop}{rd:R2}{id:String}{tA o9:TT}{fO body:Qa ū}{ts us:TS}{g:TG}{gs:jx}{wi:TI}
def zBS{y:Str}{py An:Pos}(hi:Wr (PI X tg iter wi))(hg:∀{C s H ex},Wr<|PG (fH X scope (oF X js) (qU tg++nA X js) C s H ex) tg g)(ht:∀{C s H ex},Wr<|vC (fH X scope (oF X js) (qU tg++nA X js) C s H ex) ifs tt)
  (he:∀{C s H ex},Wr<|PE (fH X scope (oF X js) (qU tg++nA X js) C s H ex) elt te)
  (hN:X.N.Nodup:=by first|assumption|exact yJ rfl) (iP:X.N[i]?=ž y:=by rfl) (hy:Loc X.env.scope y:=by first|exact a1S rfl|exact a1a rfl)
  (f:bF X (oF X js) (nA X js) js:=by repeat (first|exact bF.nil|refine bF.cons rfl (by first|exact a1S rfl|exact a1a rfl) rfl ?_)) (i8:closureFor scope X.env=pure (oF X js):=by rfl) (S:xD scope (nA X js):=by exact⟨rfl,a6T rfl,a6T rfl,a6T rfl,a6T rfl⟩) (jO:(qU tg).length=nt:=by rfl) (hc:X.calm=ż:=by rfl) (gw:∀σ:St,GW (c0 nt js σ) g:=by first|exact NT (by decide) |exact LQ<|NS (by repeat (first|exact OS|refine Py (by decide) ?_))) (hs:∀x,ς iter X.env x=pure x:=by intro _;rfl)
  (hsw:a0P (.ListComp elt [⟨tg,iter,ifs,0⟩] scope pos) (ž<|.Name y py) An.line X.env=pure ż:=by rfl)
  (hf:X.fn y=ż\/X.env.scope.names.lookup y=ž .local:=by first|exact .inl rfl|exact .inr rfl|assumption):
  Wr (PS X (.Assign [.Name y py] (.ListComp elt [⟨tg,iter,ifs,0⟩] scope pos) An)<|pY (Ak wi nt js g tt te)<|k7 i):=by
 refine⟨?_⟩;intro pins s σ H D I h;rw[exec_Assign_Name_used _ _ _ _ hsw];refine qa<|a0m<|qa ?_;show ĕ _ X.A (do let _ <-comprehension (.ListComp elt [⟨tg,iter,ifs,0⟩] scope pos) scope X.env _ (newList []) Ż (Ÿ iter X.env) (ž<|a1k (.Name y py) X.env)) _ _ s;refine qa<|Ŝ (a5f (use:=ž (a1k (.Name y py) X.env)) (Q:=λ_ s'=>SP X pins D .next s') rfl hs i8 S.kind S.names
  (aF (hi.run pins s σ H _ I h) λv s1 h1=>aF h1 λEl s2 h2=>?_)) (λ_ s' hq=>qb<|qb hq) λ_ _ e=>e
 have(it,fp,tn,J,H2,e,I2,T,bM,f2,q):=h2;subst e;refine Qp (RR:=λacc C=>compPost (Ę X.prog X.w) X.A X.xe (ž<|a1k (.Name y py) X.env) (λ_ s'=>SP X pins D .next s') acc C) hc I2 S f jO T bM f2 (λC s H ex=>hg.run) (λC s H ex=>ht.run) (λC s H ex=>he.run) (gw σ) q ?_;intro D' C m s' ys H' z hD I' hn Kj EG EF xp Ki;show ĕ _ _ (a1k (.Name y py) X.env<|.ref D') _ _ _;refine wpAny_assign_Name<|Qk (v:=.ref D') I' hN iP hy rfl (λD6 I'' hZ=>?_) hf;have(a,sb,ha):=hZ;have ne:C≠a:=by
  rcases ha with rfl|ha
  .exact EG
  .exact(EF _ _ ha).symm
 exact⟨m,hn.sameBut sb ne,λh' dE=>⟨_,_,I''.turned (it:=C) (λb o hb e=>dE.extBut b o hb e) Kj EG (.inr xp) EF Ki,z D' hD⟩⟩
def p6{r:V->Qa V->Hp->VK->Prop}(K:qc)(hK:X.K=K)(pa:a4I T)(slot:Slot T name id)(rg:typeOf (.builtin id)=pure (.type "method_descriptor"))(hm:vk X id r)(ho:Wr (PE X o te))(ha:Wr (PA X (e::es) t))
  (dY:Υ o name X.env (Ÿ o X.env)=Ÿ o X.env:=by rfl)
  (uT:((Ω aY<|Ļ (e::es) X.env).all (λx=>!x.1) && (backToKw aY<|a3R [] X.env).all (λx=>x.1.isSome)
   && decide ((e::es).length+([]:Qa a1K).length+(if([]:Qa a1K).isEmpty then 0 else 1) < 30))=ż:=by rfl)
  (dW:(apos.endLine==aY.line)=ż:=by rfl) (hs:eG e=ż:=by rfl) (dq:es.all eG=ż:=by rfl):
  Wr (PE X (.Call (.Attribute o name apos) (e::es) [] aY)<|D3 K T r te t):=hK▸⟨zBI pa slot rg hm ho.run ha.run dY uT dW (j8 hs)<|sJ dq⟩
def Ge{r:V->Qa V->Hp->VK->Prop}(K:qc)(hK:X.K=K)(pa:a4I T)(slot:Slot T name id)(rg:typeOf (.builtin id)=pure (.type "method_descriptor"))(hm:vk X id r)(ho:Wr (PE X o te))
  (dY:Υ o name X.env (Ÿ o X.env)=Ÿ o X.env:=by rfl) (dW:(apos.endLine==aY.line)=ż:=by rfl):
  Wr (PE X (.Call (.Attribute o name apos) [] [] aY)<|Fd K T r te):=hK▸⟨U4 pa slot rg hm ho.run dY dW⟩
def wu(hg:Gl X x)(hm:X.mg x=ž u)(r:zU v u)(hd:(x==("__debug__":Str))=Ż:=by decide):Wr (PE X (.Name x pos)<|tC v):=⟨Zh hg hm r hd⟩
def NP:∀{ys:Qa Str} {us:Qa Qc},zQ (ys.map V.str) us->StrsAre us ys
 |[],_,r=>by cases r;exact .nil
 |y::ys,_,r=>by
  cases r with
  |cons r1 r2=>
   have(t,rfl):=r1;exact .cons y t<|NP r2
def LK(K:qc):V->Qa V->Hp->VK->Prop:=λx vs H Q=>∃sep a ys,x=.str sep/\vs=[.ref a]/\b9 K H a (ys.map V.str)/\(ys.map (·.length)).sum+ys.length * sep.length<=16777216/\Q (.str<|ŝ sep ys) H
def NO(K:qc)(hK:X.K=K:=by rfl):vk X "str.join" (LK K):=by
 intro pins s σ H x vs v us Q I rx rv h;have(sep,a,ys,rfl,rfl,hS,hz,q):=h;have(t,rfl):=rx;have(u,rfl,ru):=rv.one;cases ru;subst hK;have(ai,r,pl,_):=I.list hS;exact join_list pl.isList (by simpa using NP r) hz λt' k=>⟨.str _,H,I.tok _,⟨_,rfl⟩,q⟩
noncomputable def p4(x:Str)(n:Int):Str:=if n < 1 then Str.empty else if(n==1 || x.length==0)=ż then x else⟨(Ě n.toNat x.cps).foldl (·++·) #[]⟩
def zm0:bz X (Ŷ .Mult) (λx y H Q=>∃z n,x=.str z/\y=.int n/\0<=n/\n<=1/\Q (.str<|p4 z n) H):=by
 intro pins s σ H x y v u Q I rx ry h;have(z,n,rfl,rfl,h0,h1,q):=h;have(t,rfl):=rx;have(t',rfl):=ry;rcases(by omega:n=0\/n=1)with rfl|rfl
 .exact PySem.P.mul_str_none (by decide) (by decide) ⟨.str _,H,I.tok _,⟨_,rfl⟩,q⟩
 .refine PySem.P.mul_str (by decide) (λ_ z=>by simp at z) (λ_ z=>by simp at z) ?_
  rw[a6Q (by decide),a6P (by rfl)];exact⟨.str _,H,I,⟨_,rfl⟩,q⟩
end
structure Kp (H H':Hp):Prop where
 tup:∀b xs,H b=ž (.tup xs)->H' b=ž (.tup xs)
 aZ:∀b o u,H b=ž (.aZ o u)->H' b=ž (.aZ o u)
 own:∀b x,H b=ž (.own x)->H' b=ž (.own x)
def Kp.refl(H:Hp):Kp H H:=⟨λ_ _ h=>h,λ_ _ _ h=>h,λ_ _ h=>h⟩
def Kp.trans{H1 H2:Hp}(a:Kp H H1)(b:Kp H1 H2):Kp H H2:=⟨λx y h=>b.tup x y<|a.tup x y h,λx y z h=>b.aZ x y z<|a.aZ x y z h,λx y h=>b.own x y<|a.own x y h⟩
def dI.kp(s:dI H H'):Kp H H':=⟨λ_ _ h=>s _ _ h,λ_ _ _ h=>s _ _ h,λ_ _ h=>s _ _ h⟩
def Kp.IZ{xs:Qa V}(e:Kp H H')(h:bI K H a xs):bI K H' a xs:=by
 rcases h with (h|⟨o,h⟩) |h
 .exact .inl (.inl<|e.tup _ _ h)
 .exact .inl (.inr ⟨o,e.aZ _ _ _ h⟩)
 .exact .inr h
mutual
inductive DT (K:qc) (H:Hp):V->Λ->Prop
 |aO:DT K H .aO .none
 |bl (b:Bool):DT K H (.bl b) (.bool b)
 |int (i:Int):DT K H (.int i) (.int i)
 |str (x:Str):DT K H (.str x) (.str x)
 |tup {a:Qg} {xs:Qa V} {ds:Qa Λ} (h:bI K H a xs) (t:l9 K H xs ds):DT K H (.ref a) (.tuple ds)
inductive l9 (K:qc) (H:Hp):Qa V->Qa Λ->Prop
 |nil:l9 K H [] []
 |cons {v:V} {d:Λ} {vs:Qa V} {ds:Qa Λ} (h:DT K H v d) (t:l9 K H vs ds):l9 K H (v::vs) (d::ds)
end
mutual
def DT.kp(e:Kp H H'):∀{v:V} {d:Λ},DT K H v d->DT K H' v d
 |_,_,.aO=>.aO
 |_,_,.bl b=>.bl b
 |_,_,.int i=>.int i
 |_,_,.str x=>.str x
 |_,_,.tup h t=>.tup (e.IZ h)<|l9.kp e t
def l9.kp(e:Kp H H'):∀{v:Qa V} {d:Qa Λ},l9 K H v d->l9 K H' v d
 |_,_,.nil=>.nil
 |_,_,.cons h t=>.cons (DT.kp e h)<|l9.kp e t
end
mutual
def DT.dv:∀{v:V} {d:Λ},DT K H v d->DV K H v d
 |_,_,.aO=>.aO
 |_,_,.bl b=>.bl b
 |_,_,.int i=>.int i
 |_,_,.str x=>.str x
 |_,_,.tup h t=>.tup h<|l9.dv t
def l9.dv:∀{v:Qa V} {d:Qa Λ},l9 K H v d->l8 K H v d
 |_,_,.nil=>.nil
 |_,_,.cons h t=>.cons (DT.dv h)<|l9.dv t
end
end Internal
namespace HT
open PySem PyProof.Rows
open PySem.SeqAt
open PySem.MeetsSeq PySem.MeetsSeq2 PySem.MeetsSeq3
section
variable{prog:a4o} {w:World} {A:Around} {E:ζ->a0i->Prop} {s:a0i}
def d6{t sl:Addr}{items:Array ζ}{vl vu:ζ}{lo hi:Option Int}{Q:ζ->a0i->Prop}(ht:a2R s.heap t items)(hs:s.heap.IsSliceOf sl vl vu .none)(pl:a2r vl lo)(pu:a2r vu hi)
  (hw:aV items.size 0 lo=0/\aV items.size items.size hi=items.size) (h:Q (.ref t) s):ĕ (Ę prog w) A (a1h (.ref t)<|.ref sl) Q E s:=by
 have(os,uP,ED,AW):=id hs;have Kd:s.TypeIs (.ref sl) "slice":=⟨os,uP,ED⟩;unfold a1h
 try with_reducible refine Ō ?_
 first|refine Ĳ (Ř ?_) |skip
 refine Ĳ<|wpAny_sequenceKey ht.typeIs (by decide) ?_;refine Ĳ (ł (name:=ϔ "__getitem__") ht.typeIs ź
  (ĭ ź ht.typeIs entry_tuple_getitem ?_<|args_tuple_getitem _ _))
 show ĕ _ _ (μ (.ref t) >>= _) _ _ s;refine Ĳ<|tupleItemsOf_ ht ?_;refine Ĳ<|a3h Kd ?_;rw[a6P (by decide)];refine Ĳ<|RZ hs pl pu ?_;have JI:(((aV items.size 0 lo:Nat):Int)==0 && (1:Int)==1 && (aV items.size items.size hi - aV items.size 0 lo)==items.size)=ż:=by
  rw[hw.1,hw.2];simp
 show ĕ _ _ (if(((aV items.size 0 lo:Nat):Int)==0 && (1:Int)==1 && (aV items.size items.size hi - aV items.size 0 lo)==items.size)=ż then _ else _) _ _ s;rw[a6P JI];refine Ĳ (m:=Builtin.Tuple.tupleIsExact _)<|Ĳ<|a3h ht.typeIs<|Ř ?_;rw[a6P (by decide)];exact Ĳ<|ų<|Ř ⟨_,rfl,Ř h⟩
end
end HT
namespace Internal
open PySem PySem.Spec PyProof.Rows
section
variable{X:Cx}
def zQ.at{xs:Qa V}(h:zQ xs us)(e:us[i]?=ž u):∃x,xs[i]?=ž x/\zU x u:=by
 induction h generalizing i with
 |nil=>simp at e
 |cons r _ ih=>cases i with
  |zero=>cases(show ž _=ž _ from e);exact⟨_,rfl,r⟩
  |succ i=>exact ih e
def zrP{p:Qg}{xs:Qa V}(I:Inv X pins σ H s)(hh:A.handled=Ž)(hq:b9 X.K H p xs\/bI X.K H p xs)
  (h:∀(it:Qg) (fp wr:Qa Qg) (n:Nat) (P:Nat->Qc->Prop) (St:Nat->ĵ->Prop) (s2:Qd),Walks X.prog X.w A it fp wr n P St->St 0 s2.heap->(∀b∈fp,b < s2.heap.objs.size)->n=xs.length->(∀i v,P i v->∃x,xs[i]?=ž x/\zU x v)->
   (∀h' tk,(∀b o,b∉wr->s2.heap.get? b=ž o->h'.get? b=ž o)->Inv X pins σ H {s2 with heap:=h',toks:=tk})->Q (.ref it) s2):
  ĕ (Ę X.prog X.w) A (a3H<|.ref p) Q E s:=by
 rcases hq with hq|hq
 .have(ai,r,pl,hz):=I.list hq
  have hp:p < s.heap.objs.size:=by
   have(o,n,e,_):=pl;exact qh e
  have ne:p≠s.heap.objs.size:=qj hp;refine wpAny_pyIter_list pl.isList<|h s.heap.objs.size [s.heap.objs.size,p] [s.heap.objs.size] ai.toArray.size _ _ _ (Walks.list hh _ p ne ai.toArray) ⟨⟨_,qg _ rfl,rfl,rfl⟩,?_⟩ (λb hb=>?_) (by rw[ě];exact r.length.symm) (λi v e=>zQ.at r (by simpa using e)) λh' tk hk=>?_
  .have(o,n,e,c,d,f):=pl
   exact⟨o,qd _ e,c,n,f⟩
  .rw[Ŏ]
   rcases qu.mp hb with z|z
   .rw[z];exact í _
   .rw[qp.mp z];exact Ú hp
  .exact I.kept λb u e=>hk b u (λz=>absurd (qh e) (by rw[qp.mp z];exact Ð _))<|qd _ e
 .have(ai,r,pl,hz):=I.tuple hq
  have hp:p < s.heap.objs.size:=by
   have(o,e,_):=pl;exact qh e
  have ne:p≠s.heap.objs.size:=qj hp;refine wpAny_pyIter_tuple (show s.heap.IsTuple p ai.toArray from pl)<|h s.heap.objs.size [s.heap.objs.size,p] [s.heap.objs.size] ai.toArray.size _ _ _ (Walks.tuple hh _ p ne ai.toArray) ⟨⟨_,qg _ rfl,rfl,rfl⟩,?_⟩ (λb hb=>?_) (by rw[ě];exact r.length.symm) (λi v e=>zQ.at r (by simpa using e)) λh' tk hk=>?_
  .have(o,e,c,n,f):=pl
   exact⟨o,qd _ e,c,n,f⟩
  .rw[Ŏ]
   rcases qu.mp hb with z|z
   .rw[z];exact í _
   .rw[qp.mp z];exact Ú hp
  .exact I.kept λb u e=>hk b u (λz=>absurd (qh e) (by rw[qp.mp z];exact Ð _))<|qd _ e
def zqm(bs:Qa Bool):(ħ bs.length).all (λi=>bs.getD i Ż)=bs.all id:=by
 rw[Ş,ϙ,ϙ];constructor
 .intro h b hb
  have(i,hi,e):=Đ hb;have:=h i (Í.mpr hi);rw[qA,ql hi,e]at this;exact this
 .intro h i hi
  have iP:=Í.mp hi;rw[qA,ql iP];exact h _<|Ö iP
def SA(K:qc):Qa V->Hp->VK->Prop:=λxs H Q=>∃(p:Qg) (bs:Qa Bool),xs=[.ref p]/\(b9 K H p (bs.map V.bl)\/bI K H p (bs.map V.bl))/\Q (.bl<|bs.all id) H
def zBU(K:qc)(hK:X.K=K)(hc:X.calm=ż):gJ X (.builtin "all") (SA K):=by
 subst hK;intro pins s σ H xs us Q I r h;have(p,bs,rfl,hq,q):=h;have(u,rfl,ru):=oO r;cases ru;refine call_all_walk<|zrP I (I.ok.hd hc) hq λit fp wr n P St s2 W st hfp hn hP hI=>⟨it,fp,wr,n,P,St,λi=>bs.getD i Ż,rfl,W,st,?_,λh' tk hk=>?_⟩
 .intro i v s' Q' E' hv hQ'
  have(x,ex,rx):=hP i v hv;rw[ĝ]at ex;cases eb:bs[i]? with
  |none=>rw[eb]at ex;cases ex
  |some b=>
   rw[eb]at ex;cases ex;cases rx;have ew:bs.getD i Ż=b:=by rw[qA,eb];rfl
   have T6:Q' (bs.getD i Ż) s':=hQ';rw[ew]at T6;exact ĺ T6
 .rw[hn,ē,zqm]
  exact⟨.bl _,H,hI h' tk hk,rfl,q⟩
end
section
def HS{t:Qg}{items:Array Qc}{x:Qc}(hi:s.heap.IsTupleIter it t i)(ht:s.heap.IsTuple t items)(hx:items[i]?=ž x)
  (q:∀h',h'.IsTupleIter it t (i+1)->Ϲ it s.heap h'->Q x {s with heap:=h'}):ĕ (Ę prog w) A (Ő<|.ref it) Q E s:=by
 have(oi,e1,e2,e3):=id hi;have(ot,f1,f2,nt,f3):=ht;unfold Ő;refine qa (ł (name:=ϔ "__next__") hi.typeIs a0D
  (ĭ a0D hi.typeIs a6E ?_<|args_tupleiter_next _))
 show ĕ _ _ (field (.ref it) 0 >>= _) _ _ s;refine qa<|Ŀ e1 e3 (x:=.ref t) rfl ?_;show ĕ _ _ (if(Ĝ t==Ė)=ż then _ else _) _ _ s;rw[a6Q (show ¬((Ĝ t==Ė)=ż) from qf)];show ĕ _ _ (field (.ref it) 1 >>= _) _ _ s;refine qa<|Ŀ e1 e3 (x:=.int i 0) rfl ?_;show ĕ _ _ (seqItems? (.ref t) >>= _) _ _ s;refine qa<|Ϡ f1 f3 ?_;simp only[ı,hx];refine qa<|Ϗ e1 e3 (by simp)<|qb ⟨x,rfl,qb<|q _ ?_<|ë ..⟩;refine⟨_,Ô _ e1<|ã<|ù e3 _,(a2F ..).trans e2,?_⟩;rw[a5U e3];simp[Ϝ]
def Px{t:Qg}{items:Array Qc}(hh:A.handled=Ž)(hi:s.heap.IsTupleIter it t i)(ht:s.heap.IsTuple t items)(hx:items[i]?=Ž)
  (q:∀h' e,a4Z it s.heap h'->(∃o,h'.get? e=ž o/\o.cls=.type "StopIteration")->E (.ref e) {s with heap:=h'}):ĕ (Ę prog w) A (Ő<|.ref it) Q E s:=by
 have(oi,e1,e2,e3):=id hi;have(ot,f1,f2,nt,f3):=ht;unfold Ő;refine qa (ł (name:=ϔ "__next__") hi.typeIs a0D
  (ĭ a0D hi.typeIs a6E ?_<|args_tupleiter_next _))
 show ĕ _ _ (field (.ref it) 0 >>= _) _ _ s;refine qa<|Ŀ e1 e3 (x:=.ref t) rfl ?_;show ĕ _ _ (if(Ĝ t==Ė)=ż then _ else _) _ _ s;rw[a6Q (show ¬((Ĝ t==Ė)=ż) from qf)];show ĕ _ _ (field (.ref it) 1 >>= _) _ _ s;refine qa<|Ŀ e1 e3 (x:=.int i 0) rfl ?_;show ĕ _ _ (seqItems? (.ref t) >>= _) _ _ s;refine qa<|Ϡ f1 f3 ?_;simp only[ı,hx];refine qa<|ų<|qa<|Ϗ e1 e3 (by simp) ?_;show ĕ _ _ (newExc (.type "StopIteration") [] >>= _) _ _ _;refine qa ?_;simp only[newExc,a4B];refine qa<|qy ?_ (by show(0:Nat)<=Ĕ;exact À _);refine qa (m:=τ _ _)<|wpAny_of_eq (a:=Ė) (by first|rfl | (simp only[τ];rfl)) ?_;refine qy ?_ (by first|trivial|size_fits);simp only[raiseNew];refine qa (a5e ?_)
 first|rw[show A.in1.handled=Ž from hh] |rw[hh]
 refine qa<|qb<|wpAny_throw ?_;exact q _ _ (((ë ..).extBut.push _).push _) ⟨_,qg _ rfl,rfl⟩
end
def QU(hh:A.handled=Ž)(it t:Qg)(ne:t≠it)(items:Array Qc):
  Draws prog w A it [it,t] items.size (λi v=>items[i]?=ž v) (λi h=>h.IsTupleIter it t i/\h.IsTuple t items) where
 live:=λ_ _ st=>let ⟨o,ho,_⟩:=st.1;⟨o,ho⟩
 frame:=λ_ _ _ st hk=>by
  obtain⟨⟨o,a1,a2,a3⟩,⟨o2,b1,b2⟩⟩:=st;exact⟨⟨o,hk it (by simp) o a1,a2,a3⟩,⟨o2,hk t (by simp) o2 b1,b2⟩⟩
 item:=λi s Q E hi st q=>by
  refine HS st.1 st.2 (x:=items[i]) (by simp[hi]) λh' JZ dE=>?_;exact q _ h' s.toks (by simp[hi]) ⟨JZ,st.2.extBut dE.extBut ne⟩ dE
 done:=λs Q E st q=>Px hh st.1 st.2 (by simp) q
def zqn(t:Qg)(items:Array Qc)(n:Nat)(jR:Qb Qg)(sl:Array (Qb Qc)):
  Meets (Builtin.«enumerate.__new__» ⟨[.type "enumerate",.ref t],[]⟩) (λ_ R s=>s.heap.get? t=ž {cls:=.type "tuple",dict:=jR,data:=.seq items n,slots:=sl}/\
   R (.ok<|.ret<|.ref (s.heap.push {cls:=.type "tuple_iterator",data:=.fields #[.ref t,.int 0 0]}).objs.size)
    {s with heap:=(s.heap.push {cls:=.type "tuple_iterator",data:=.fields #[.ref t,.int 0 0]}).push {cls:=.type "enumerate",data:=.fields #[.none,.bool Ż,.ref s.heap.objs.size,Ϝ 0,.none,.none]}}):=
 .of_wp λprog w A R s h=>by
  have(hp,g,d,tk,os):=s;have(hl,h):=h;have JN:=sub_enumerate;have hT:Heap.IsTuple (Shared.heap ⟨hp,g,d,tk,os⟩) t items:=⟨_,hl,rfl,n,rfl⟩
  wp_walk using Œ hl
  refine wpAny_stack_any λst=>qb ?_;split
  .rename_i c _ _ _ _ _
   cases(c==a1Z "enumerate")
   .wp_walk using Œ hl,wpAny_pyIter_tuple hT
    exact⟨_,rfl,h⟩
   .wp_walk using Œ hl,wpAny_pyIter_tuple hT
    exact⟨_,rfl,h⟩
  .wp_walk using Œ hl,wpAny_pyIter_tuple hT
   exact⟨_,rfl,h⟩
section
def zm1{t:Qg}{items:Array Qc}(hT:s.heap.IsTuple t items)
  (h:∀h',IsEnum h' (s.heap.objs.size+1) s.heap.objs.size 0 .none->h'.IsTupleIter s.heap.objs.size t 0->(∀b o,s.heap.get? b=ž o->h'.get? b=ž o)->Q (.ref<|s.heap.objs.size+1) {s with heap:=h'}):
  ĕ (Ę prog w) A (a2A (.type "enumerate") [.ref t]) Q E s:=by
 obtain⟨⟨c,jR,dt,sl⟩,hl,hc,n,hd⟩:=hT;replace hc:c=.type "tuple":=hc;replace hd:dt=.seq items n:=hd;subst hc hd;refine callType_new F.called_enumerate (by decide) (F.typeCall_enumerate_1 _) (F.newCall_enumerate_1 _) (λobj=>F.args_object_init_2 obj _) F.entry_enumerate_new
  (zqn t items n jR sl) ⟨hl,?_⟩
 have hz:(s.heap.push {cls:=.type "tuple_iterator",data:=.fields #[.ref t,.int 0 0]}).objs.size=s.heap.objs.size+1:=Ŏ ..;show _/\_;rw[hz];have he:IsEnum ((s.heap.push {cls:=.type "tuple_iterator",data:=.fields #[.ref t,.int 0 0]}).push
   {cls:=.type "enumerate",data:=.fields #[.none,.bool Ż,.ref s.heap.objs.size,Ϝ 0,.none,.none]}) (s.heap.objs.size+1) s.heap.objs.size 0 .none:=by
  have z:=qg (s.heap.push {cls:=.type "tuple_iterator",data:=.fields #[.ref t,.int 0 0]})
   (o:={cls:=.type "enumerate",data:=.fields #[.none,.bool Ż,.ref s.heap.objs.size,Ϝ 0,.none,.none]}) rfl
  rw[hz]at z;exact z
 exact⟨⟨_,he,rfl⟩,h _ he ⟨_,qd _<|qg _ rfl,rfl,rfl⟩ λb o x=>qd _<|qd _ x⟩
end
section
variable{X:Cx}
def Inv.dS{t':Nat}{wr:Qa Qg}(I:Inv X pins σ H s)(k:∀b o,b∉wr->s.heap.get? b=ž o->h'.get? b=ž o)(hf:∀b∈wr,jo X pins H b):Inv X pins σ H {s with heap:=h',toks:=t'}:=by
 have lG:∀b u,H b=ž u->b∉wr:=λb u e z=>by rw[(hf b z).1]at e;cases e
 refine I.step (g':=s.gens) (d':=s.drawn) (ch:=wr) (λb hb=>?_) (λb o _ _ hc e _=>k b o hc e) (λb o _ _ hc e _=>⟨o.slots,k b o hc e⟩) (λ_ _ _ _ n=>n)
  (λb o hc e=>⟨o,k b o hc e⟩) (λ_ _ e=>e) (λ_ _ _ e=>e) (λb ps e=>⟨#[],by rw[e];simp⟩) (λm hm=>?_) (λb u e=>?_) I.bare
 .have(_,z1,_,z3,z4,z5):=hf b hb
  exact⟨z3,z1,z4,z5⟩
 .have(o,es,ep,ho,r):=hm
  exact⟨o,es,ep,k _ o (λz=>(hf _ z).2.1 rfl) ho,r⟩
 .refine(I.aC b u e).eV (λc v hc q=>k c v ?_ q) (λ_ q=>q) λ_ _ q=>q
  rcases hc with z|z
  .rw[z];exact lG b u e
  .exact lG c _ z
def Inv.nJ{o:HO}(I:Inv X pins σ H s)(f:jo X pins H a)(ha:X.bC.heap.objs.size<=a)(new:bX X.prog X.w X.K (upd H a o) s.heap a o):Inv X pins σ (upd H a o) s:=by
 have(f0,f1,f2,f3,f4,f5):=f;refine⟨I.ok,I.os,I.bare,OW I.base f0 ha,I.loc,I.cell,?_,λx c e=>?_,λp hp=>?_,Pz I.aC f0 new,I.len⟩
 .rw[zw<|Ľ f1]
  exact I.free
 .rw[zw<|f4 x c e]
  exact I.b8 x c e
 .have(p1,p2,p3):=I.pin p hp
  refine⟨p1,?_,p3⟩;rw[zw<|f5 p hp];exact p2
end
def US(K:qc)(a:Qg):It :=
 ⟨λi H=>∃xs x,bI K H a xs/\xs[i]?=ž x,λi H x H'=>∃T,H T=Ž/\x=.ref T/\∀xs v,bI K H a xs->xs[i]?=ž v->H'=upd H T (.tup [.int i,v]),λi H=>∃xs,bI K H a xs/\xs.length=i⟩
def zqo{k:Nat}(e it t:Qg)(EB:e≠it)(Tz:t≠e)(Tx:t≠it):
  Turn P w K (.Tuple elts k pos) (US K t) [e,it] e (λi h=>(∃old,IsEnum h e it i old)/\h.IsTupleIter it t i) where
 mem:=by simp
 obj:=λi h st b hb=>by
  obtain⟨⟨old,he⟩,⟨o,ho,_,hd⟩⟩:=st;rcases qu.mp hb with z|z
  .subst z
   exact⟨_,he,λv q=>by
    have q':a3b _=a1N v:=q;cases q'⟩
  .rw[qp.mp z]
   exact⟨o,ho,λv q=>by rw[hd]at q;cases q⟩
 keep:=λi h h' st kk=>by
  obtain⟨⟨old,he⟩,⟨o,ho,hc,hd⟩⟩:=st;exact⟨⟨old,kk e (by simp) _ he⟩,⟨o,kk it (by simp) _ ho,hc,hd⟩⟩
 item:=by
  intro X hP hw hK hc i pins s σ H E I hf st hg;subst hP hw hK;have(xs,x,hq,hx):=hg;have(ai,rv,ht,hz):=I.tuple hq;have hi:i < ai.toArray.size:=by
   rw[ě,<-rv.length];exact(qk.mp hx).1
  have W:=a5k (QU (prog:=X.prog) (w:=X.w) (A:=X.A.in1) (I.ok.hd hc) it t Tx ai.toArray) e EB (by simp[EB,Ľ Tz]) (by simp);refine W.item i s _ _ hi ⟨st.1,st.2,ht⟩ λT vals h1 tk hP hT mZ mid kk=>?_;refine⟨_,rfl,W.go elts k pos i T {s with heap:=h1,toks:=tk} _ _ mid λh2 bM Ei=>?_⟩;have(tt,u,hu,rfl):=hP;have apart:=W.apart _ _ _ mid;have I2:Inv X pins σ H {s with heap:=h2,toks:=tk}:=I.dS (wr:=[e,it]) (λb o hb q=>Ei b o hb<|kk b o hb q) hf;have fT:jo X pins H T:=I.gD hT (I.aC.fresh hT);have ru:zU x u:=by
   have(u',eu,r):=rv.get hx;have:u'=u:=by
    have z:ai[i]?=ž u:=by simpa using hu
    rw[eu]at z;exact qw z
   rw[<-this];exact r
  have(oT,g1,g2,nT,g3):=mZ;have I3:Inv X pins σ (upd H T<|.tup [.int i,x]) {s with heap:=h2,toks:=tk}:=I2.nJ fT (qx I.sz hT) ⟨by show 2<=Ĕ;decide,[.int i tt,u],.cons ⟨tt,rfl⟩<|.cons ru .nil,oT,Ei T oT apart g1,g2,⟨nT,g3⟩,.inr ⟨_,_,_,rfl⟩⟩;refine⟨.ref T,_,I3,rfl,⟨T,I.aC.fresh hT,rfl,λmV v uM hv=>?_⟩,⟨?_,bM.2.1⟩,λb hb=>?_⟩
  .have:=I.dg hq uM
   subst this;rw[hx]at hv;cases hv;rfl
  .exact bM.1
  .have ne:b≠T:=λz=>apart (by rw[<-z];exact hb)
   rw[zw ne];exact(hf b hb).1
 done:=by
  intro X hP hw hK hc i pins s σ H E I hf st hg;subst hP hw hK;have(xs,hq,hl):=hg;have(ai,rv,ht,hz):=I.tuple hq;have hi:i=ai.toArray.size:=by
   rw[ě,<-rv.length];exact hl.symm
  have W:=a5k (QU (prog:=X.prog) (w:=X.w) (A:=X.A.in1) (I.ok.hd hc) it t Tx ai.toArray) e EB (by simp[EB,Ľ Tz]) (by simp);refine W.done s _ _ ?_ λh1 tk kk=>⟨rfl,I.dS (wr:=[e,it]) kk hf⟩;rw[<-hi];exact⟨st.1,st.2,ht⟩
 self:=λ_ _ _ _ _ st h=>by
  obtain⟨⟨old,he⟩,_⟩:=st;exact wpAny_pyIter_enum he h
section
variable{X:Cx}{k:Nat}
def LJ(K:qc)(ta:TA):TI:=λσ H R=>ta σ H λvs H1=>∃a,vs=[.ref a]/\(∃xs,bI K H1 a xs)/\R (US K a) H1
def Yj{a:Ķ}{ta:TA}(ha:Wr (PA X [a] ta))(hK:X.K=K:=by rfl)(hg:Gl X "enumerate":=by exact rfl)(hm:X.mg "enumerate"=Ž:=by exact tT ‹Bl _ _› (by decide))(hs:eG a=ż:=by rfl):
  Wr (PI X (.Tuple elts k qT) (.Call (.Name "enumerate" p) [a] [] pos)<|LJ K ta):=by
 subst hK;refine⟨?_⟩;intro pins s σ H R I h;refine Call_<|t9 I hg hm boot_enumerate<|ê (aF (ha.run pos pins s σ H _ I h) λus s1 hZ=>?_) (j8 hs) rfl;have(vs,H1,I1,r1,q1):=hZ;obtain⟨t,e,⟨xs,hq⟩,q⟩:=q1;subst e;have(u,rfl,ru):=oO r1;cases ru;have(ai,rv,ht,hz):=I1.tuple hq;have tl:t < s1.heap.objs.size:=by
  have(o,e,_):=ht;exact qh e
 refine zm1 (show s1.heap.IsTuple t ai.toArray from ht) λh' he hit kk=>?_;have I2:Inv X pins σ H1 {s1 with heap:=h'}:=I1.kept (t':=s1.toks) kk;refine wpAny_pyIter_enum he ?_;refine⟨s1.heap.objs.size+1,[s1.heap.objs.size+1,s1.heap.objs.size],_,_,H1,rfl,I2,zqo (s1.heap.objs.size+1) s1.heap.objs.size t (Nat.succ_ne_self _) (qj<|Ú tl)<|qj tl,⟨⟨_,he⟩,hit⟩,λb hb=>?_,q⟩;rcases qu.mp hb with z|z
 .subst z
  exact I1.gD (ò _)<|I1.aC.fresh<|ò _
 .rw[qp.mp z]
  exact I1.gD (qe _)<|I1.aC.fresh<|qe _
end
section
variable{X:Cx}{i v:Ķ}{k:Nat}
def qN:Wr (PE X (.Dict [] [] pos) CO):=⟨zrC⟩
def qI(hr:aG k X.A)(ho:Wr (PE X o td))(hi:Wr (PE X i ty))(hs:Fv i:=by intro _ _;rfl):Wr (PE X (.Subscript o i pos)<|Gh X.K td ty):=⟨Yp (vQ hr) ho.run hi.run hs⟩
def zqp(hr:aG k X.A)(hi:Wr (PE X i ty))(ho:Wr (PE X o td))(h1:ϊ .NotIn o=Ż:=by rfl):Wr (PT X (.Compare i [.NotIn] [o] pos)<|tB<|Hc X.K ty td):=⟨Wg (zqd (vQ hr) hi.run ho.run) h1⟩
def t5(hr:aG k X.A)(ho:Wr (PE X o td))(hi:Wr (PE X i ty))(hv:Wr (PE X v tv))(hs:a0P v (ž<|.Subscript o i pos') pos.line X.env=pure Ż:=by rfl):
  Wr (PS X (.Assign [.Subscript o i pos'] v pos)<|Gg X.K td ty tv):=⟨Yo (vQ hr) ho.run hi.run hv.run hs⟩
end
end Internal
namespace Internal
open PySem PySem.W PyProof.Rows
section
noncomputable def KR(rk:Nat->Int)(p:Array Nat)(i:Nat):Int:=rk (p.getD i 0)
noncomputable def Tg(rk:Nat->Int)(i j:Nat):Bool:=decide (rk i < rk j)
def Pm(n:Nat)(p:Array Nat):Prop:=p.Perm (ħ n).toArray
def Pm.size{p:Array Nat}(h:Pm n p):p.size=n:=by
 have:=h.size_eq;simpa using this
def Up(rk:Nat->Int)(p:Array Nat)(m:Nat):Prop:=∀i j,i<=j->j < m->KR rk p i<=KR rk p j
end
end Internal
namespace Internal
open PySem PySem.Spec PyProof.Rows
open PySem.AutoSeq1 (wpAny_loadPart')
open MeetsSeq MeetsSeq2 MeetsSeq3 SeqRoads2
noncomputable def c9:Qa Int->Qa Int->Bool
 |[],[]=>Ż
 |[],_::_=>ż
 |_::_,[]=>Ż
 |a::as,b::bs=>if a=b then c9 as bs else decide (a < b)
def zqq{a:Int}{t u:Tok}(h:Q (.bool<|decide<|a < b) s):ĕ (Ę prog w) A (richCompare .Lt (.int a t)<|.int b u) Q E s:=wpAny_lt_int h
end Internal
namespace Internal
open PySem PySem.Spec PySem.W PyProof.Rows
section
def Sy(prog:Qe)(w:Qh)(A:Qf)(rk:Nat->Int)(vs:Qa Qc)(κ:a3n)(s:Qd):Prop :=
 ∀i j (C:Bool->Qd->Prop),i < vs.length->j < vs.length->C (Tg rk i j) s->ĕ (Ę prog w) A (keyLt' κ (vs.getD i Ė)<|vs.getD j Ė) C (λ_ _=>False) s
end
def ub:∀a:Qa Int,c9 a a=Ż
 |[]=>rfl
 |a::as=>by unfold c9;rw[a6P rfl];exact ub as
def wM:∀{a b c:Qa Int},c9 a b=ż->c9 b c=ż->c9 a c=ż
 |[],[],_,h,_=>by cases h
 |[],_::_,[],_,h=>by cases h
 |[],_::_,_::_,_,_=>rfl
 |_::_,[],_,h,_=>by cases h
 |_::_,_::_,[],_,h=>by cases h
 |a::as,b::bs,c::cs,h1,h2=>by
  unfold c9 at h1 h2 ⊢
  by_cases e1:a=b
  .subst e1
   rw[a6P rfl]at h1
   by_cases e2:a=c
   .rw[a6P e2]at h2 ⊢
    exact wM h1 h2
   .rw[a6Q e2]at h2 ⊢
    exact h2
  .rw[a6Q e1]at h1
   have l1:=a6T h1
   by_cases e2:b=c
   .subst e2
    rw[a6Q e1];exact h1
   .rw[a6Q e2]at h2
    have l2:=a6T h2;rw[a6Q (by omega)];exact a6R (by omega)
def wL:∀{a b:Qa Int},a≠b->c9 a b=ż\/c9 b a=ż
 |[],[],h=>absurd rfl h
 |[],_::_,_=>.inl rfl
 |_::_,[],_=>.inr rfl
 |a::as,b::bs,h=>by
  unfold c9
  by_cases e:a=b
  .subst e
   rw[a6P rfl,a6P rfl];exact wL λz=>h (by rw[z])
  .rw[a6Q e,a6Q λz=>e z.symm]
   rcases(by omega:a < b\/b < a)with z|z
   .exact .inl (a6R z)
   .exact .inr (a6R z)
def OQ{p q:α->Bool}:∀{l:Qa α} {x:α},(∀y∈l,p y=ż->q y=ż)->x∈l->q x=ż->p x=Ż->l.countP p < l.countP q
 |y::l,x,h,m,hq,hp=>by
  rw[a6s,a6s];have le:l.countP p<=l.countP q:=List.countP_mono_left λz hz=>h z<|qm _ hz;rcases qu.mp m with e|m
  .subst e
   rw[hp,hq];simp;omega
  .have:=OQ (λz hz=>h z<|qm _ hz) m hq hp
   by_cases c:p y=ż
   .rw[c,h y qo c]
    simp;omega
   .rw[a6Q c]
    split<;>omega
def oC(ps:Qa (Qa Int))(i:Nat):Int:=((ħ ps.length).countP λk=>c9 (ps.getD k []) (ps.getD i []):Nat)
def yQ{ps:Qa (Qa Int)}(hi:i < ps.length)(h:c9 (ps.getD i []) (ps.getD j [])=ż):oC ps i < oC ps j:=by
 unfold oC;have:=OQ (p:=λk=>c9 (ps.getD k [])<|ps.getD i []) (q:=λk=>c9 (ps.getD k [])<|ps.getD j []) (l:=ħ ps.length) (x:=i) (λy _ hy=>wM hy h) (Í.mpr hi) h (ub _);omega
def yU{ps:Qa (Qa Int)}(h:ps.Nodup)(hi:i < ps.length)(hj:j < ps.length)(ne:i≠j):ps.getD i []≠ps.getD j []:=by
 have e:∀k (hk:k < ps.length),ps.getD k []=ps[k]:=λk hk=>by simp[hk]
 rw[e i hi,e j hj];intro z;rcases a5V ne with l|l
 .exact á.mp h i j hi hj l z
 .exact á.mp h j i hj hi l z.symm
def Yi{ps:Qa (Qa Int)}(h:ps.Nodup)(hi:i < ps.length)(hj:j < ps.length):Tg (oC ps) i j=c9 (ps.getD i []) (ps.getD j []):=by
 cases c:c9 (ps.getD i []) (ps.getD j [])with
 |true=>exact a6R<|yQ hi c
 |false=>
  refine a6S λz=>?_
  by_cases e:i=j
  .subst e;omega
  .rcases wL (yU h hi hj e)with y|y
   .rw[c]at y;cases y
   .have:=yQ hj y
    omega
def Pm.list{p:Array Nat}(h:Pm n p):p.toList.Perm (ħ n):=by
 have:=h.toList;simpa using this
def Vy{ps:Qa (Qa Int)}(h:ps.Nodup){p:Array Nat}(hp:Pm ps.length p)(hu:Up (oC ps) p ps.length):(p.toList.map λi=>ps.getD i []).Pairwise λa b=>c9 a b=ż:=by
 have hs:=hp.size;have hl:=hp.list;have nd:p.toList.Nodup:=hl.nodup_iff.mpr a6n;refine à.mpr<|á.mpr λi j hi hj cY=>?_;have e:∀k (hk:k < p.toList.length),KR (oC ps) p k=oC ps p.toList[k]:=λk hk=>by
  unfold KR;have i7:k < p.size:=by simpa using hk
  congr 1;simp[a5x,i7]
 have m:∀k (hk:k < p.toList.length),p.toList[k] < ps.length:=λk hk=>Í.mp<|hl.mem_iff.mp<|Ö hk;have le:=hu i j (by omega) (by rw[ģ]at hj;omega);rw[e i hi,e j hj]at le;have ne:p.toList[i]≠p.toList[j]:=á.mp nd i j hi hj cY;rcases wL (yU h (m i hi) (m j hj) ne)with z|z
 .exact z
 .have:=yQ (m j hj) z
  omega
def zrQ{ai:Array Qc}(t:a2R h a ai)(k:∀o,h.get? a=ž o->h'.get? a=ž o):a2R h' a ai:=by
 have(o,e,r):=t;exact⟨o,k o e,r⟩
def Yh{ms:Qa Int}:(ns.map λn=>(a0c n:Key))=(ms.map λn=>(a0c n:Key))↔ns=ms:=by
 constructor
 .intro h
  have:=congrArg (a0v λk:Key=>match k with |.inl n=>n |.inr _=>0) h;rw[ĳ,ĳ]at this;simpa [Function.comp_def] using this
 .rintro rfl;rfl
def Pw(r:zQ vs us):∀is:Qa Nat,(∀i∈is,i < vs.length)->zQ (is.map λi=>vs.getD i .aO) (is.map λi=>us.getD i Ė)
 |[],_=>.nil
 |i::is,h=>by
  have hi:=h i qo;have(u,e,ru):=r.get (ql hi);refine .cons ?_<|Pw r is λj hj=>h j<|qm _ hj;show zU (vs.getD i .aO) (us.getD i Ė);rw[qA,qA,ql hi,e];exact ru
end Internal
namespace Internal
open PySem PySem.Spec PyProof.Rows
def oB(h:ĵ)(d:Qg)(es:Array ύ)(ep:Nat):Prop:=∃o,h.get? d=ž o/\o.ExactDict/\o.data=.dict es ep
def oB.typeIs{d:Qg}(r:oB s.heap d es ep):s.TypeIs (.ref d) "dict":=by
 have(o,e,x,_):=r;exact⟨o,e,x.1⟩
section
variable{d:Qg}
def zrR(hd:(d==Ň)=Ż)(r:oB s.heap d es ep)
  (q:∀h':ĵ,h'.IsKeyIter s.heap.objs.size d 0 es.size ep->(∀b o,s.heap.get? b=ž o->h'.get? b=ž o)->Q (.ref s.heap.objs.size) {s with heap:=h'}):ĕ (Ę prog w) A (a3H<|.ref d) Q E s:=by
 have hT:=r.typeIs;have(o,e,_,dat):=r;refine a3i hT F.slot_dict_iter<|ĭ F.slot_dict_iter hT F.entry_dict_iter ?_<|F.args_dict_iter_1 _;unfold Builtin.«dict.__iter__»;refine qa ?_;unfold Builtin.Dict.dictSlotNone;refine qa<|ϲ hT<|qb ?_;show ĕ _ _ (Ϛ d >>= _) _ _ s;unfold Ϛ;rw[hd,a6Q qf];refine qa<|qb<|qa<|ŀ e dat<|qa<|Ŵ e dat<|qa<|qy<|qb ⟨_,rfl, "dict_keyiterator",_,⟨_,qg _ rfl,rfl⟩,å.lookup,?_⟩;exact q _ ⟨_,qg _ rfl,rfl,by simp[Ϝ]⟩ λb o z=>qd _ z
def zrS{Q:Qb Qc->Qd->Prop}(k:s.heap.IsKeyIter it d i es.size ep)(r:oB s.heap d es ep){x:ύ}(hx:es[i]?=ž x)
  (q:∀h':ĵ,h'.IsKeyIter it d (i+1) es.size ep->Ϲ it s.heap h'->Q (ž x.key) {s with heap:=h'}):ĕ (Ę prog w) A (Ψ<|.ref it) Q E s:=by
 have kT:=k.typeIs;have(oi,ei,ci,fi):=id k;have(o,e,_,dat):=r;unfold Ψ;refine qa<|Ρ (ł (name:=ϔ "__next__") kT å
  (ĭ å kT a3E ?_<|a3w _))
 refine qa<|qb<|qa<|qa ?_;refine qa<|ϩ kT<|qb<|qa<|a2l ei fi ?_;simp only[show Ũ "dict_keyiterator"=Ż by decide,ĥ,if_false];show ĕ _ _ (if(Ĝ d==Ė)=ż then _ else _) _ _ s;rw[a6Q (show ¬((Ĝ d==Ė)=ż) from qf)];refine qa<|qb<|qa<|ŀ e dat ?_;rw[a6Q (by simp)];refine qa<|qb<|qa<|Ŵ e dat ?_;rw[a6Q (by simp)];refine qb ?_;simp only[show ¬((i:Int) < 0) from by omega,if_false,ı,hx];refine qa<|qa<|ϩ kT<|qb<|qa<|a6e kT ?_;show ĕ _ _ (a3k (.ref it) 1 (Ϝ<|(i:Int)+1) >>= _) _ _ s;refine qa<|Ϗ ei fi (by simp) ?_;have k':(s.heap.update it<|ņ (·.setIfInBounds 1 (Ϝ<|(i:Int)+1))).IsKeyIter it d (i+1) es.size ep :=
  ⟨_,Ô _ ei<|ã<|ù fi _,(a2F ..).trans ci,by rw[a5U fi];simp[Ϝ]⟩
 refine qa<|Ō<|qa<|a6e (s:={s with heap:=s.heap.update it (ņ (·.setIfInBounds 1 (Ϝ<|(i:Int)+1)))}) k'.typeIs ?_;show ĕ _ _ (pure x.key) _ _ _;exact qb<|qb ⟨_,rfl,qb<|q _ k'<|ë ..⟩
def Yg{Q:Qb Qc->Qd->Prop}(hh:A.handled=Ž)(k:s.heap.IsKeyIter it d i es.size ep)(r:oB s.heap d es ep)(hx:es.size<=i)
  (q:∀h':ĵ,a4Z it s.heap h'->Q Ž {s with heap:=h'}):ĕ (Ę prog w) A (Ψ<|.ref it) Q E s:=by
 have kT:=k.typeIs;have(oi,ei,ci,fi):=id k;have(o,e,_,dat):=r;unfold Ψ;refine qa<|Ρ (ł (name:=ϔ "__next__") kT å
  (ĭ å kT a3E ?_<|a3w _))
 refine qa<|qb<|qa<|qa ?_;refine qa<|ϩ kT<|qb<|qa<|a2l ei fi ?_;simp only[show Ũ "dict_keyiterator"=Ż by decide,ĥ,if_false];show ĕ _ _ (if(Ĝ d==Ė)=ż then _ else _) _ _ s;rw[a6Q (show ¬((Ĝ d==Ė)=ż) from qf)];refine qa<|qb<|qa<|ŀ e dat ?_;rw[a6Q (by simp)];refine qa<|qb<|qa<|Ŵ e dat ?_;rw[a6Q (by simp)];refine qb ?_;simp only[show ¬((i:Int) < 0) from by omega,if_false,ı,a4l hx];refine qa<|qa<|ϩ kT<|qb ?_;show ĕ _ _ (a3k (.ref it) 0 .none >>= _) _ _ s;refine qa<|Ϗ ei fi (by simp) ?_;show ĕ _ _ (newExc (.type "StopIteration") [] >>= _) _ _ _;refine qa ?_;simp only[newExc,a4B];refine qa<|qy ?_ (by show(0:Nat)<=Ĕ;exact À _);refine qa (m:=τ _ _)<|wpAny_of_eq (a:=Ė) (by first|rfl | (simp only[τ];rfl)) ?_;refine qy ?_ (by first|trivial|size_fits);simp only[raiseNew];refine qa<|a5e ?_;rw[show A.in1.handled=Ž from hh];refine qa<|qb<|wpAny_throw ?_;refine qa<|ϋ (T := "StopIteration") (b:=ż) ⟨_,qg _ rfl,rfl⟩ a4D ?_;exact qb<|q _<|((ë ..).extBut.push _).push _
end
def Qo{R:α->β->Prop}{xs:Qa α}{ys:Qa β}(h:Γ R xs ys):∀(i:Nat) (x:α),xs[i]?=ž x->∃y,ys[i]?=ž y/\R x y:=by
 induction h with
 |nil=>intro i x h;simp at h
 |cons r _ ih=>intro i x h;cases i with
  |zero=>cases(show ž _=ž x from h);exact⟨_,rfl,r⟩
  |succ i=>exact ih i x h
def HR{R:α->β->Prop}{xs:Qa α}{ys:Qa β}(h:Γ R xs ys):xs.length=ys.length:=by
 induction h with
 |nil=>rfl
 |cons _ _ ih=>rw[qt,qt,ih]
def G2{X:Cx}{o:Obj}(I:Inv X pins σ H s)(e:H a=ž (.aZ o<|.dT kvs)):
  (a==Ň)=Ż/\∃(es:Array ύ) (ep:Nat),s.heap.get? a=ž o/\o.ExactDict/\o.data=.dict es ep/\es.size=kvs.length/\∀(i:Nat) (k:Qa Key) (v:V),kvs[i]?=ž (k,v)->∃(b:Qg) (x:ύ),es[i]?=ž x/\x.key=.ref b/\be X.K H b (k.map kV):=by
 have(ea,z,y,xs,r,o',es,ep,h1,h2,h3,h4,h5):=(show bX X.prog X.w X.K H s.heap a (.aZ o<|.dT kvs) from I.aC a _ e);rw[ea]at h1;cases h1;refine⟨y,es,ep,ea,h2,h3,?_,λi k v hi=>?_⟩
 .have:=congrArg a0L h4
  rw[ģ,ē,<-HR r]at this;exact this
 .have(q,hq,r1,r2,_):=Qo r i (k,v) hi
  refine⟨q.2.1,a0h (ϰ<|zI X.prog X.w) q,?_,rfl,r2⟩;have:es.toList[i]?=ž (a0h (ϰ<|zI X.prog X.w) q):=by rw[h4,ĝ,hq];rfl
  simpa using this
def E1(K:qc)(a:Qg)(o:Obj)(kvs:Qa (Qa Key×V)):It :=
 ⟨λi H=>H a=ž (.aZ o<|.dT kvs)/\i < kvs.length,λi H x H'=>H'=H/\∀k v,kvs[i]?=ž (k,v)->∃b,x=.ref b/\be K H b (k.map kV),λi H=>H a=ž (.aZ o<|.dT kvs)/\kvs.length<=i⟩
def zm2(a it:Qg)(o:Obj)(kvs:Qa (Qa Key×V))(ep:Nat)(AV:∃es,o.data=.dict es ep):Turn P w K tg (E1 K a o kvs) [it] it (λi h=>h.IsKeyIter it a i kvs.length ep) where
 mem:=by simp
 obj:=λi h st b hb=>by
  have e:b=it:=by simpa using hb
  subst e;have(oi,e,c,d):=st;exact⟨oi,e,λv z=>by rw[d]at z;cases z⟩
 keep:=λi h h' st k=>st.at λoi e=>k it (by simp) oi e
 item:=by
  intro X hP hw hK hc i pins s σ H E I hf st hg;subst hP hw hK;have(e,hi):=hg;have(uJ,es,gX,ea,xd,dat,hsz,ent):=G2 I e;have u9:gX=ep:=by
   have(rH,z):=AV;rw[dat]at z;injection z
  subst u9;have(f0,f1,f2,f3,f4,f5):=hf it (by simp);have(b,x,ex,kx,hb):=ent i kvs[i].1 kvs[i].2 (ql hi);refine zrS (es:=es) (by rw[hsz];exact st) ⟨o,ea,xd,dat⟩ ex λh' au sb=>?_;have I1:Inv X pins σ H {s with heap:=h'}:=I.turned (t':=s.toks) (λb o hb e=>(sb.2 b hb).trans e) f0 f1 f3 f4 f5;have(oi,e',c',d'):=id au;rw[kx];refine⟨.ref b,rfl,Cp (s:={s with heap:=h'}) e' c' d' (by decide) ⟨.ref b,H,I1,rfl,⟨rfl,λk v nZ=>⟨b,rfl,?_⟩⟩,by rw[hsz]at au;exact au,λb hb=>(hf b hb).1⟩⟩;rw[ql hi]at nZ;rw[qw nZ]at hb;exact hb
 done:=by
  intro X hP hw hK hc i pins s σ H E I hf st hg;subst hP hw hK;have(e,hi):=hg;have(uJ,es,gX,ea,xd,dat,hsz,ent):=G2 I e;have u9:gX=ep:=by
   have(rH,z):=AV;rw[dat]at z;injection z
  subst u9;have(f0,f1,f2,f3,f4,f5):=hf it (by simp);exact Yg (es:=es) (I.ok.hd hc) (by rw[hsz];exact st) ⟨o,ea,xd,dat⟩ (by omega) λh' eb=>⟨rfl,I.turned (t':=s.toks) (λb o hb e=>eb b o hb e) f0 f1 f3 f4 f5⟩
 self:=λ_ _ _ _ _ st h=>wpAny_pyIter_keyiter st h
section
variable{X:Cx}
def Inv.freeze(I:Inv X pins σ H s)(e:H a=ž (.dT kvs)):∃o,s.heap.get? a=ž o/\Inv X pins σ (upd H a<|.aZ o<|.dT kvs) s:=by
 have ok:=(show bX X.prog X.w X.K H s.heap a (.dT kvs) from I.aC a _ e);have(z,y,xs,r,o,es,ep,h1,h2):=id ok;refine⟨o,h1,?_⟩;have Jj:bX X.prog X.w X.K (upd H a<|.aZ o<|.dT kvs) s.heap a (.dT kvs):=ok.eV (λ_ _ _ q=>q) (λb q=>by rw[zw<|yi q e (by intro z;cases z)];exact q) λb ys q=>by rw[zw<|yi q e (by intro z;cases z)];exact q
 exact I.write (t':=s.toks) (h':=s.heap) (by rw[e];trivial) (.inl rfl) (λ_ _ _ q=>q) ⟨o,h1⟩ ⟨h1,Jj⟩
def MQ(K:qc)(td:TE):TI:=λσ H R=>td σ H λx H1=>∃a kvs,x=.ref a/\((H1 a=ž (.dT kvs)/\∀o,R (E1 K a o kvs)<|upd H1 a<|.aZ o<|.dT kvs)\/∃o,H1 a=ž (.aZ o<|.dT kvs)/\R (E1 K a o kvs) H1)
def yP{d:Ķ}(hd:Wr (PE X d td)):Wr (PI X tg d<|MQ X.K td):=by
 refine⟨?_⟩;intro pins s σ H R I h;refine aF (hd.run pins s σ H _ I h) λv s1 hZ=>?_;have(x,H1,I1,r1,q1):=hZ;have(a,kvs,e,q):=q1;subst e;cases r1;have key:∀(H2:Hp) (o:Obj),Inv X pins σ H2 s1->H2 a=ž (.aZ o<|.dT kvs)->R (E1 X.K a o kvs) H2->ĕ (Ę X.prog X.w) X.A (a3H<|.ref a) (KI X pins σ tg R) X.xe s1:=λH2 o I2 e2 q2=>by
  have(uJ,es,ep,ea,xd,dat,hsz,_):=G2 I2 e2;refine zrR (es:=es) uJ ⟨o,ea,xd,dat⟩ λh' hit kk=>?_;refine⟨s1.heap.objs.size,[s1.heap.objs.size],_,_,H2,rfl,I2.kept (t':=s1.toks) kk,zm2 a s1.heap.objs.size o kvs ep ⟨es,dat⟩,by rw[<-hsz];exact hit,λb hb=>?_,q2⟩;have e:b=s1.heap.objs.size:=by simpa using hb
  subst e;exact I2.gD (qe _)<|I2.aC.fresh<|qe _
 rcases q with⟨e1,q⟩|⟨o,e1,q⟩
 .have(o,_,I2):=I1.freeze e1
  exact key _ o I2 zz<|q o
 .exact key H1 o I1 e1 q
end
open PySem.W (Looks)
noncomputable def Lu(r:Qa Qc):Obj:={cls:=.type "tuple",data:=.seq r.toArray}
noncomputable def jE(C p:Qg):Obj:={cls:=.ref C,data:=.fields #[.ref p,.none,.none,.none,.bool Ż,.none]}
def kW(h:ĵ)(C:Qg)(r:Qa Qc):ĵ:=(h.push<|Lu r).push (jE C h.objs.size)
def HL{C:Qg}{r:Qa Qc}{b:Qg}{o:Obj}(e:h.get? b=ž o):(kW h C r).get? b=ž o:=qd _ (qd _ e)
def Dx{C:Qg}{r:Qa Qc}:(kW h C r).get? (h.objs.size+1)=ž (jE C h.objs.size):=by
 have:=qg (h.push<|Lu r) (o:=jE C h.objs.size) rfl
 rwa[Ŏ]at this
section
variable{g:Array a1x}{d:Drawn}{t:Nat}
variable{nm q:Str}{C N:Qg}{bs bm Ul:Qa Qc}{uU:Bool}{sn:Qa Str}{sub:Qa Qc}{ab:Bool}{col:Qb Bool}{dd:Qb Qg}{k0 k1 k2 k3 k5:Qb Qc}{B newId uG:String}
def QQ{rest:Qa Qc}{f:Qc}{Q:Fin->Qd->Prop}(F:ExcBaseFacts B newId uG Ul)(T:OwnTail h Ul bm)
  (hC:h.get? C=ž (a3S nm q C N bs bm uU sn sub ab col dd k0 k1 k2 k3 k5 newId))
  (li:Looks (Ę prog w) h (a4y (.ref C) "__init__") (ž f)) (lb:∀v,Looks (Ę prog w) h (bindSpecial f v) (f,[v])) (hl:rest.length<=Ĕ)
  (k:ĕ (Ę prog w) A (a2A f<|.ref (h.objs.size+1)::rest) (λr s'=>r=.none/\Q (.done<|.ret<|.ref<|h.objs.size+1) s') E ⟨kW h C rest,g,d,t,os⟩):
  ĕ (Ę prog w) A (Builtin.«type.__call__» ⟨.ref C::rest,[]⟩) Q E ⟨h,g,d,t,os⟩:=by
 have up:∀b o,h.get? b=ž o->(kW h C rest).get? b=ž o:=λb o e=>HL e;have hC1:=up _ _ hC;have hx:(kW h C rest).get? (h.objs.size+1)=ž (jE C h.objs.size):=Dx;have li1:=li.keeps up;have lb1:=(lb<|.ref<|h.objs.size+1).keeps up;have is:(Ĝ C::bm).contains (.ref C)=ż:=by simp
 repeat (first|with_reducible refine ϴ hC ?_|with_reducible refine wpAny_madeBy_exc hC ?_|wp_step)
 refine codeAny_call_builtin_code (Ē _ F.quiet)<|wpAny_check_new_subT F T hC<|codeAny_exc_new_subT F T hC ?_ hl;change ĕ (Ę prog w) _ _ _ _ ⟨kW h C rest,g,d,t,os⟩;unfold a2V
 repeat (first | (with_reducible refine ϴ hx ?_;rw[show(jE C h.objs.size).cls=.ref C from rfl]) | (with_reducible refine wpAny_isSubtype_exc hC1 ?_;rw[is]) |wp_step)
 show ĕ _ _ (a4y (.ref C) _) _ _ _;refine li1.at ?_;refine Ō<|qa<|lb1.at ?_;refine qa<|Ŝ k (λr s' z=>?_) λ_ _ z=>z;have(rfl,z):=z
 wp_walk
 exact z
end
noncomputable abbrev qO:Qa Qc:=[.type "ValueError",.type "Exception",.type "BaseException",.type "object"]
structure XC (K:qc) (C:Qg):Prop where
 at_:∃nm q N bs bm sn sub ab col dd k0 k1 k2 k3 k5,K.lookup C=ž (a3S nm q C N bs bm ż sn sub ab col dd k0 k1 k2 k3 k5 "ValueError.__new__")/\ϕ K qO bm=ż
 ga:ī K (.ref C) "__getattribute__"=ž (ž<|.builtin "BaseException.__getattribute__")
 gh:ī K (.ref C) "__getattr__"=ž Ž
 sa:ī K (.ref C) "__setattr__"=ž (ž<|.builtin "object.__setattr__")
section
variable{C x:Qg}{R:υ->Qd->Prop}
def Vx{f:Qg}{rest:Qa Qc}(X:XC K C)(I:K.In s.heap)(hi:ī K (.ref C) "__init__"=ž (ž<|.ref f))(hf:PySem.W.typeIn K (.ref f)=ž (.type "function"))(hl:rest.length<=Ĕ)
  (k:a0n (Ę prog w) (A.under<|.builtin "type.__call__" ⟨.ref C::rest,[]⟩) (.call (.ref f) ⟨.ref (s.heap.objs.size+1)::rest,[]⟩) (PySem.W.InitBack (s.heap.objs.size+1) R) {s with heap:=kW s.heap C rest}):
  a0n (Ę prog w) A (.call (.ref C) ⟨rest,[]⟩) R s:=by
 have(hh,g,d,t,os):=s;have(nm,q,N,bs,bm,sn,sub,ab,col,dd,k0,k1,k2,k3,k5,e,tl):=X.at_;have hC:=I _ _ e;have c1:=tc_lookup;have c2:=tc_bind (.ref C);have hT:(⟨hh,g,d,t,os⟩:Qd).TypeIs (.ref C) "type":=⟨_,hC,rfl⟩;refine a4d ?_;change ĕ _ _ (callAny (.ref C) _) _ _ _
 repeat (any_goals (first|assumption|with_reducible refine ϴ hC ?_|wp_step))
 refine And.intro rfl<|a5C (Ē _ (by decide +kernel)) entry_typeCall<|a4O hC ?_;refine QQ a2Y (a0j I tl) hC (ċ I hi) (λv=>PySem.W.bind_fn I v hf) hl ?_;refine a0g<|ϫ k λr s' z=>?_;rcases r with e | (v|_|_|_)<;>first|exact z|exact z.elim
end
end Internal
namespace Internal
open PySem PySem.Spec PyProof.Rows
open PySem.W (Looks InstAt)
section
variable{C x:Qg}{R:υ->Qd->Prop}
def OP(self:Qc):∀{l:Qa Qc},ϕ K qO l=ż->refuseLoop self "__setattr__" l=pure ()
 |[],e=>by cases e
 |v::r,e=>by
  unfold ϕ at e;rcases Bool.or_eq_true_iff.mp e with q|q
  .rw[beq_iff_eq.mp q];exact PySem.F.store_ValueError.passes self
  .split at q
   .split at q
    .simp only[Ĵ]at q
     rw[refuseLoop_ref];exact OP self q.2
    .cases q
   .cases q
def XC.cls(X:XC K C):∃cd bm,a6h K C=ž cd/\cd.mro=.ref C::bm/\ϕ K qO bm=ż/\cd.hasDict=ż:=by
 have(nm,q,N,bs,bm,sn,sub,ab,col,dd,k0,k1,k2,k3,k5,e,tl):=X.at_;refine⟨{name:=nm,bases:=bs,mro:=.ref C::bm,ns:=N,qualname:=q,hasDict:=ż,slotNames:=sn,subclasses:=sub,abstract:=ab,collection:=col,hasDel:=Ż},bm,?_,rfl,tl,rfl⟩;unfold a6h;rw[e]
def XC.up(X:XC K C){M:Model}(I:K.In h){n:String}(hn:qO.contains (.type n)=ż):Looks M h (isSubtype (.ref C)<|.type n) ż:=by
 have(cd,bm,hc,hm,tl,_):=X.cls;refine PySem.W.looks_mroIn I ?_;unfold a1A;rw[hc,a2v,hm,a6Q (by simp),a5N,(a0j I tl).hasType hn,Bool.or_true]
def zDw{ox:Obj}{v:Qc}{tk:Tok}{g:Array a1x}{d:Drawn}{t:Nat}(X:XC K C)(I:K.In h)(hx:h.get? x=ž ox)(hc:ox.cls=.ref C)(hd:ox.dict=Ž)(hn:∀c,ox.data≠.cls c)
  (n:sf K C name) (k:∀h' t,h'.get? x=ž {ox with dict:=ž h.objs.size}->h'.Ns1 h.objs.size (λy=>if y=name then ž v else Ž)->
   (∀b o,b≠x->h.get? b=ž o->h'.get? b=ž o)->R (.ok<|.ret .none) ⟨h',g,d,t,os⟩):
  a0n (Ę prog w) A (.call (.builtin "object.__setattr__") ⟨[.ref x,.str name tk,v],[]⟩) R ⟨h,g,d,t,os⟩:=by
 have(cd,bm,gU,hm,tl,ig):=X.cls;have Z:InstAt h x ox C Ž:=⟨hx,hc,by have(_,_,dt,_):=ox;cases dt<;>first|rfl|exact absurd rfl<|hn _,by rw[hd];trivial⟩;have L1:Looks (Ę prog w) h (typeOf<|.ref x) (.ref C):=Z.type;have LC:=PySem.W.looks_clsIn (M:=Ę prog w) I gU;have LM:Looks (Ę prog w) h (mroOf<|.ref C) cd.mro:=LC.andThen .now;have LN:=ċ (M:=Ę prog w) I n;have LO:Looks (Ę prog w) h (a2V (.ref x)<|.type "object") ż:=L1.andThen (X.up I (by decide));have SF:=PySem.F.store_ValueError;have rf:refuseLoop (.ref x) "__setattr__" cd.mro=pure ():=by rw[hm,refuseLoop_ref];exact OP _ tl
 refine a2n SF.slot.plain SF.entry<|@PySem.W.check_slot (Ę prog w) _ _ _ "object.__setattr__" "object" "__setattr__" (.ref x) [.str name tk,v] [] _ SF.kind SF.split LO (SF.args (.ref x) (.str name tk) v) ?_;rw[PySem.W.osa_eq,refuse_eq];refine qa<|qa<|L1.at<|qa<|LM.at ?_;rw[rf];refine qb<|qa<|L1.at<|qa<|LN.at<|qa<|qb ?_;change ĕ _ _ (a6w (.ref x) (.ref C) (.str name tk) name v Ż) _ _ _;refine qa<|qb<|qa ?_;change ĕ _ _ (instanceDict x ż) _ _ _;have(oc,od,dt,sl):=ox;dsimp only at hc hd hn;subst hc hd;unfold instanceDict;refine qa<|wpAny_loadPart hx ?_;dsimp only;refine qa<|LC.at ?_;rw[ig];rw[a6Q (by decide),a6Q (by simp[typeHasDict])];split
 .exact absurd rfl (hn _)
 have nx:x≠h.objs.size:=qj (qh hx);have x1:(h.push Κ).get? x=ž ⟨.ref C,Ž,dt,sl⟩:=qd _ hx;refine qa<|wpAny_alloc'<|qa<|wpAny_update' x1<|qb ?_;change ĕ _ _ (a1c h.objs.size (.str name tk) name v) _ _ _;have d2:((h.push Κ).update x λo=>{o with dict:=ž h.objs.size}).get? h.objs.size=ž Κ:=(Α _ _ _ _ nx.symm).trans (Heap.get?_push_at rfl rfl);have n2:((h.push Κ).update x λo=>{o with dict:=ž h.objs.size}).Ns h.objs.size (λ_=>Ž):=⟨_,#[],_,d2,rfl,λe he=>absurd he (by simp),λ_=>rfl⟩;have x2:((h.push Κ).update x λo=>{o with dict:=ž h.objs.size}).get? x=ž ⟨.ref C,ž h.objs.size,dt,sl⟩:=by
  refine Ô _ x1 ?_;have fr:=(Heap.get?_some_iff.mp hx).2;cases dt<;>first|rfl|exact fr
 unfold a1c a6x;refine qa<|qb<|qa<|wpAny_nsSet1 (Heap.Ns1.of_empty n2) λh' n' sm=>?_;have(oD,esD,epD,hoD,hdD,hcD):=n'.count (Within.cons name v Within.nil);refine qa<|wpAny_lookBehind hoD (by rw[hdD];exact pastItsLine_dict<|qx hcD (by rw[qt,ũ,a2m];omega)) ?_;refine qb<|k h' _ ((sm.2 x nx).trans x2) n' λb o nb e=>?_;exact(sm.2 b<|qj<|qh e).trans<|(Α _ _ _ _ nb).trans<|qd _ e
def zBW{ox:Obj}{v:Qc}{Q:Unit->Qd->Prop}(X:XC K C)(I:K.In s.heap)(hx:s.heap.get? x=ž ox)(hc:ox.cls=.ref C)(hd:ox.dict=Ž)(hn:∀c,ox.data≠.cls c)(n:sf K C name)
  (k:∀h' t,h'.get? x=ž {ox with dict:=ž s.heap.objs.size}->h'.Ns1 s.heap.objs.size (λy=>if y=name then ž v else Ž)->
   (∀b o,b≠x->s.heap.get? b=ž o->h'.get? b=ž o)->Q () {s with heap:=h',toks:=t}):
  ĕ (Ę prog w) A (setAttr (.ref x) name v) Q E s:=by
 have(h,g,d,t,os):=s;have L1:Looks (Ę prog w) h (typeOf<|.ref x) (.ref C):=(Looks.ld (part:=ž headPart) hx).andThen (Looks.of_pure (by rw[hc]));have LS:=ċ (M:=Ę prog w) I X.sa;unfold setAttr callSpecial? specialOf;refine qa<|wpAny_mkText<|qa<|qa<|qa<|L1.at<|LS.at ?_;dsimp only;refine Ō ?_;rw[PySem.F.store_ValueError.slot.bind];refine qa<|qb<|qa<|a0g ?_;refine zDw X I hx hc hd hn n λh' t' a b c=>?_;exact qb<|qb<|k h' t' a b c
end
end Internal
namespace Internal
open PySem PySem.Spec PyProof.Rows
open PySem.W (Looks InstAt)
structure XI (K:qc) (C:Qg):Prop where
 cl:XC K C
 ca:ī K (.ref C) "__class__"=ž (ž<|.builtin "object.__class__")
 cg:a2a K (.builtin "object.__class__") "__get__"=ž (ž<|.builtin "getset_descriptor.__get__")
 ct:a2C K (.builtin "object.__class__")=ž ż
 cm:a1A K C (.type "object")=ž ż
end Internal
namespace Internal
open PySem PySem.Spec PyProof.Rows
open PySem.W (Looks InstAt)
def tL(a C p:Qg):HO:=.ext λh=>h.get? a=ž (jE C p)
def XV(H:Hp)(a C:Qg)(fs:Qa (Str×V)):Prop:=∃ox,H a=ž (.aZ ox<|.own 0)/\ox.cls=.ref C/\a1m ox=ż/\
 ((fs=[]/\ox.dict=Ž)\/∃od dx,ox.dict=ž dx/\H dx=ž (.aZ od<|.xd fs))
section
variable{X:Cx}{C:Qg}{fs:Qa (Str×V)}
def Ls(K:qc)(ta tv:TE)(f:Str):TS:=λD σ H=>tv σ H λy H1=>ta σ H1 λx H2=>∃a C p,x=.ref a/\H2 a=ž (tL a C p)/\XC K C/\sf K C f/\
 ∀dx ox od,H2 dx=Ž->dx≠a->ox.cls=.ref C->ox.dict=ž dx->a1m ox=ż->ox={jE C p with dict:=ž dx}->D.nx σ (upd (upd H2 dx<|.aZ od<|.xd [(f,y)]) a<|.aZ ox<|.own 0)
def Yf(ha:PE X o ta)(hv:PE X value tv)(hs:a0P value (ž<|.Attribute o f pos') pos.line X.env=pure Ż):PS X (.Assign [.Attribute o f pos'] value pos) (Ls X.K ta tv f):=by
 intro pins s σ H D I h;refine plainObj_wpAny_Assign_Attribute (aF (hv pins s σ H _ I h) λu s1 ⟨y,H1,I1,ry,q⟩=>aF (ha pins s1 σ H1 _ I1 q) λov s2 hZ=>?_) hs;have(x,H2,I2,rx,a,C,p,ex,ea,c,n,q2):=hZ;subst ex;obtain rfl:ov=Ĝ a:=rx;have(hx,_,_):=I2.aC a _ ea;have lt:a < s2.heap.objs.size:=qh hx;refine zBW (ox:=jE C p) c I2.bO hx rfl rfl (λ_ z=>nomatch z) n λh' t jv Ey keep=>?_;have(od,JU,_):=PQ Ey;have fr:od.isFreed=Ż:=(Heap.get?_some_iff.mp JU).2;have hm:(s2.heap.push od).get? s2.heap.objs.size=ž od:=qg s2.heap fr;have nd:s2.heap.objs.size≠a:=û lt;have I3:=I2.laid (a:=s2.heap.objs.size) (o:=.aZ od (.xd [(f,y)])) (h':=s2.heap.push od) (t':=s2.toks) (λb w e=>qd _ e) (qe _)
  ⟨hm,λz=>if z=f then ž u else Ž,?_,λg=>?_⟩
 .have I4:=I3.write (x:=a) (e:=a) (o:=.aZ {jE C p with dict:=ž s2.heap.objs.size} (.own 0)) (h':=h') (t':=t) (by rw[zw nd.symm,ea];trivial) (.inl rfl) (λb w nb e=>?_) ⟨_,jv⟩ ⟨jv,_,jv⟩
  .exact⟨σ,_,I4,q2 _ _ od (I2.aC.fresh<|qe _) nd rfl rfl rfl rfl⟩
  .by_cases eb:b=s2.heap.objs.size
   .subst eb
    rw[hm]at e;cases e;exact JU
   .refine keep b w nb ?_
    rcases Heap.get?_push_cases e with⟨z,_⟩|z
    .exact absurd z eb
    .exact z
 .have(o1,es,ep,e1,r):=Ey
  obtain rfl:od=o1:=qw (JU.symm.trans e1);exact⟨od,es,ep,hm,r⟩
 .show jW ([(f,y)].lookup g) (if g=f then ž u else Ž)
  rw[Ŗ]
  by_cases q:g=f
  .subst q;simp only[a6U,if_true];exact ry
  .rw[a6Q q,show(g==f)=Ż from beq_eq_false_iff_ne.mpr q];trivial
end
section
variable{X:Cx}{CX:kJ}{k:Nat}{f C:Qg}{E:XK}{es:Qa Ķ}{t:TA}
def GN(C:Qg)(sp:Sp)(E:XK)(t:TA):TE:=λσ H Q=>t σ H λvs H1=>vs.length<=1000/\∀a p,H1 a=Ž->sp (.ref a::vs) (upd H1 a<|tL a C p) (λv H2=>v=.aO/\Q (.ref a) H2) E
def Inv.Ad{r:Qa Qc}(I:Inv X pins σ H s):Inv X pins σ (upd H (s.heap.objs.size+1)<|tL (s.heap.objs.size+1) C s.heap.objs.size) {s with heap:=kW s.heap C r}:=
 I.laid (a:=s.heap.objs.size+1) (t':=s.toks) (λb u q=>HL q) (ò _) ⟨Dx,⟨_,Dx⟩,λh1 h2 z k=>k _ z⟩
def zqr{Q:VK}(Y:XC X.K C)(hi:ī X.K (.ref C) "__init__"=ž (ž<|.ref f))(fn:a0Y X.K (.ref f)=ż)
  (F:bU X.prog X.w X.K X.mg X.base CX k f fd ps sp) (hr:aG (k+1) X.A) (hb:kY X.K fd ps []) (hx:yz CX X E) (I:Inv X pins σ H s) (r:zQ vs us) (hl:vs.length<=1000)
  (h:∀a p,H a=Ž->sp (.ref a::vs) (upd H a<|tL a C p) (λv H2=>v=.aO/\Q (.ref a) H2) E):ĕ (Ę X.prog X.w) X.A (a2A (.ref C) us) (EP X pins σ Q) X.xe s:=by
 have hq:=h (s.heap.objs.size+1) s.heap.objs.size (I.aC.fresh<|ò _);have I2:=Inv.Ad (C:=C) (r:=us) I;have r2:zQ (V.ref (s.heap.objs.size+1)::vs) (Ĝ (s.heap.objs.size+1)::us):=.cons rfl r;have ln:(Ĝ (s.heap.objs.size+1)::us++[]).length=ps.length:=by
  have z:=r2.length;rw[F.len _ _ _ _ hq]at z;rw[ŕ];exact z.symm
 have A1:=hb {s with heap:=kW s.heap C us} (Ĝ (s.heap.objs.size+1)::us) I2.bO ln;rw[ŕ]at A1;refine a0g<|Vx Y I.bO hi (beq_iff_eq.mp fn) (by rw[<-r.length,a2m];omega)<|ϫ (F.run _ X.stack _ _ ⟨Ĝ (s.heap.objs.size+1)::us,[]⟩ (Ĝ (s.heap.objs.size+1)::us) _ _ E (hr.make C us [])
  (I2.u7.make C us []) A1 r2 hq) λr s' uM=>?_
 cases r with
 |error e=>exact hx pins σ _ _ e s' I2 uM
 |ok fl=>
  cases fl with
  |ret u=>
   have(v,H',I3,rv,ev,q3):=I2.after uM;subst ev;exact⟨rv,⟨V.ref<|s.heap.objs.size+1,H',I3,rfl,q3⟩⟩
  |next=>exact ť uM
  |brk=>exact ť uM
  |cont=>exact ť uM
def zrU(Y:XC X.K C)(hi:ī X.K (.ref C) "__init__"=ž (ž<|.ref f))(fn:a0Y X.K (.ref f)=ż)(kp:ň X.K (.ref C)=ż)(F:bU X.prog X.w X.K X.mg X.base CX k f fd ps sp)(hr:aG (k+1) X.A)
  (hg:Gl X x) (hm:X.mg x=ž (.ref C)) (hb:kY X.K fd ps []) (hx:yz CX X E) (ha:PA X (e::es) t) (cN:(x==("__debug__":Str))=Ż:=by decide)
  (he:Ļ (e::es) X.env=(Ż,Ÿ e X.env)::Ļ es X.env:=by rfl) (dq:(Ω pos<|Ļ es X.env).any (·.1)=Ż:=by rfl):PE X (.Call (.Name x p) (e::es) [] pos) (GN C sp E t):=by
 intro pins s σ H Q I h;refine Ϫ<|yK I hg hm ?_ cN;refine a1J (h₀:=X.base) I.ok.mod.ku kp (aF (ha pos pins s σ H _ I h) λus s1 ⟨vs,H1,I1,r,hl,q⟩=>⟨I1.bO,?_⟩) he dq;exact zqr Y hi fn F hr hb hx I1 r hl q
end
end Internal
namespace Internal
open PySem PySem.Spec PyProof.Rows
open PySem.W (Looks InstAt)
section
variable{C x:Qg}{R:υ->Qd->Prop}
def Ye(X:XC K C)(I:K.In s.heap)(hi:ī K (.ref C) "__init__"=ž (ž<|.builtin "ValueError.__init__"))
  (k:∀h' ox,(∀b o,s.heap.get? b=ž o->h'.get? b=ž o)->h'.get? (s.heap.objs.size+1)=ž ox->ox.cls=.ref C->ox.dict=Ž->a1m ox=ż->(∃q,ox=jE C q)->R (.ok<|.ret<|.ref<|s.heap.objs.size+1) {s with heap:=h'}):
  a0n (Ę prog w) A (.call (.ref C) ⟨[],[]⟩) R s:=by
 have(hh,g,d,t,os):=s;have(nm,q,N,bs,bm,sn,sub,ab,col,dd,k0,k1,k2,k3,k5,e,tl):=X.at_;have hC:=I _ _ e;have c1:=tc_lookup;have c2:=tc_bind (.ref C);have F:=a2Y;have T:=a0j I tl;have hT:(⟨hh,g,d,t,os⟩:Qd).TypeIs (.ref C) "type":=⟨_,hC,rfl⟩;refine a4d ?_;change ĕ _ _ (callAny (.ref C) _) _ _ _
 repeat (any_goals (first|assumption|with_reducible refine ϴ hC ?_|wp_step))
 refine And.intro rfl<|a5C (Ē _ (by decide +kernel)) entry_typeCall<|a4O hC ?_;refine QQ (rest:=[]) F T hC (ċ I hi) (λv=>Looks.of_pure<|F.init.bind v) (À _) ?_;have up:∀b o,hh.get? b=ž o->(kW hh C []).get? b=ž o:=λb o e=>HL e;have hx:(kW hh C []).get? (hh.objs.size+1)=ž (jE C hh.objs.size):=Dx;refine a0g<|a2n F.init.plain F.initEntry<|wpAny_check_init_subT F (T.keeps up) (up _ _ hC) hx rfl ?_
 wp_walk
 have hy:((kW hh C []).push {cls:=.type "tuple",data:=.seq #[]}).get? (hh.objs.size+1)=ž (jE C hh.objs.size):=qd _ hx;refine And.intro rfl<|k _ {cls:=.ref C,data:=.fields #[.ref (kW hh C []).objs.size,.none,.none,.none,.bool Ż,.none]} (λb o e=>?_) ?_ rfl rfl rfl ⟨_,rfl⟩
 .refine(Α _ _ _ _<|qj<|Ú<|qh e).trans (qd _<|up _ _ e)
 .exact Ô _ hy rfl
end
end Internal
namespace Internal
open PySem PySem.Spec PyProof.Rows
open PySem.W (Looks InstAt)
def Sx(a C:Qg)(d tb:Qb Qg)(h:ĵ):Prop:=∃oe vs,h.get? a=ž oe/\oe.cls=.ref C/\oe.dict=d/\oe.data=.fields vs/\vs[1]?=ž (tb.elim .none .ref)/\(tb=Ž->∃p,oe={jE C p with dict:=d})
def S9(T:Qg)(h:ĵ):Prop:=∃oT ts,h.get? T=ž oT/\oT.data=.fields ts/\ts[3]?=ž .none
def mF(a C:Qg)(d tb:Qb Qg):HO:=.ext (Sx a C d tb)
def wX(T:Qg):HO:=.ext (S9 T)
def tK(H:Hp)(a C:Qg)(fs:Qa (Str×V)):Prop:=∃d tb,H a=ž (mF a C d tb)/\(∀T,tb=ž T->H T=ž (wX T)/\T≠a)/\
 ((fs=[]/\d=Ž)\/∃od dx,d=ž dx/\H dx=ž (.aZ od<|.xd fs))
def G1{C:Qg}{d tb:Qb Qg}(x:Sx a C d tb h):bX P w K H h a (mF a C d tb):=by
 have(oe,vs,h1,h2):=x;exact⟨⟨oe,vs,h1,h2⟩,⟨oe,h1⟩,λh1 h2 ⟨oe,vs,z1,z2⟩ k=>⟨oe,vs,k _ z1,z2⟩⟩
def MP(x:S9 a h):bX P w K H h a (wX a):=by
 have(oe,vs,h1,h2):=x;exact⟨⟨oe,vs,h1,h2⟩,⟨oe,h1⟩,λh1 h2 ⟨oe,vs,z1,z2⟩ k=>⟨oe,vs,k _ z1,z2⟩⟩
section
variable{X:Cx}
def Inv.slots(I:Inv X pins σ H s)(z:Heap.SlotsOnly (ja X.stack) s.heap h'):Inv X pins σ H {s with heap:=h'}:=by
 have(z1,z2,z3):=z;have sub:=I.gv;have Ao:=I.fY;have ui:∀b u,H b=ž u->h'.get? b=s.heap.get? b:=λb u e=>z2 b λhb=>by rw[Ao b hb]at e;cases e
 have old:∀b o,X.bC.heap.get? b=ž o->b∉X.fs->b∉ja X.stack:=λb o e hn hb=>by
  rcases qu.mp (sub b hb)with q|q
  .have h1:=qh e
   have h2:=I.ok.above;rw[q]at h1;exact absurd (qi h1 h2)<|Ð _
  .exact hn q
 refine⟨I.ok,I.os,I.bare,⟨λb o e n hc hx=>?_,λb o e n hc hx=>?_,I.base.free,λb o e hx=>?_,I.base.eU,I.base.eh,I.base.fN⟩,?_,λx c e=>?_,I.free,I.b8,λp hp=>?_,λb u e=>?_,I.len⟩
 .exact(z2 b<|old b o e hc).trans (I.base.keep b o e n hc hx)
 .have(sl,q):=I.base.slot b o e n hc hx
  have(D5,q'):=z3 b _ q;exact⟨D5,q'⟩
 .have(o',q):=I.base.there b o e hx
  have(D5,q'):=z3 b _ q;exact⟨_,q'⟩
 .obtain⟨m,⟨o,es,ep,ho,hd,r⟩,hl⟩:=I.loc
  have(sl,hs):=z3 _ _ ho;refine⟨m,⟨_,es,ep,hs,hd,r⟩,λi x v e1 e2 e3=>?_⟩;have(u,ru,lk):=hl i x v e1 e2 e3;refine⟨u,ru,?_⟩;rcases lk with lk|⟨k,c,ec,oc,xi,J7⟩
  .exact .inl lk
  .have(sl,hs):=z3 _ _ xi
   exact .inr ⟨k,c,ec,_,hs,J7⟩
 .have(v,oc,xi,J7):=I.cell x c e
  have(sl,hs):=z3 _ _ xi;exact⟨v,_,hs,J7⟩
 .have(h1,h2,h3,h4,h5):=I.pin p hp
  refine⟨(z2 _ λhb=>?_).trans h1,h2,h3,h4,h5⟩;rcases qu.mp (sub _ hb)with q|q
  .exact h3 q
  .exact h4 q
 .refine(I.aC b u e).eV (λc v hc r=>?_) (λ_ r=>r) λ_ _ r=>r
  rcases hc with rfl|hc
  .exact(ui _ _ e).trans r
  .exact(ui _ _ hc).trans r
def zqs{M:Model}{E':Qc->Qd->Prop}{Q:Unit->Qd->Prop}{outer:Qa Env}{C:Qg}{fs:Qa (Str×V)}(I:Inv X pins σ H s)(hA:A.frames=ž X.stack)(kC:X.stack=X.env::outer)(hf:X.env.frame=ž X.env.locals)(fl:tK H a C fs)
  (k:∀h' H',Inv X pins σ H' {s with heap:=h'}->tK H' a C fs->(∀b o,b≠a->H b=ž o->H' b=ž o)->(∀b,H' b=Ž->H b=Ž)->Q () {s with heap:=h'}):
  ĕ M A (noteFrame (.ref a) X.env) (λ_ s1=>ĕ M A (setFlight (.ref a) Ž) Q E' s1) E s:=by
 have(d,tb,ea,et,ed):=fl;obtain⟨⟨oe,vs,he,hc,ig,hv,h1,_⟩,_⟩:=I.aC a _ ea;have hsz:1 < vs.size:=(Ñ.mp h1).1;have nf:∀{b u} {H2:Hp} {s2:Qd},Inv X pins σ H2 s2->H2 b=ž u->b∉ja X.stack:=λI2 e hb=>by rw[I2.fY _ hb]at e;cases e
 have main:∀(s2:Qd) (head:Qc) (hn:Bool),s2={s with heap:=s2.heap}->Inv X pins σ H s2->s2.heap.get? a=ž oe->
   ĕ M A (do let b <-frameOf X.env;let pl <-entryPlaceOf X.env.locals hn;let c <-a3P head b .none (Ϝ X.env.locals) .none pl;a3k (.ref a) 1 c) (λ_ s1=>ĕ M A (setFlight (.ref a) Ž) Q E' s1) E s2:=by
  intro s2 head hn es2 I2 he2;refine qa<|wpAny_frameOf_fun (base:=X.base) (by rw[hA,kC]) (by rw[<-kC];exact I2.stack) hf λaN nV=>?_;rw[show((X.env::outer).filterMap (·.frame))=ja X.stack by rw[kC];rfl]at nV;have I3:=I2.slots nV;have TU:aN.get? a=ž oe:=(nV.2.1 a<|nf I2 ea).trans he2;refine qa<|wpAny_entryPlaceOf λpl dq=>?_;unfold a3P newFields;refine qa<|qy ?_<|dq.sizeOk5 _ _ _ _ _;generalize hoT:(({cls:=.type "traceback",dict:=Ž,data:=.fields ([head,.ref X.env.locals,.none,Ϝ X.env.locals,.none]++(if pl.isEmpty then Ě 6 Ė else pl)).toArray}):Obj)=oT;have Ke:oT.data=.fields ([head,.ref X.env.locals,.none,Ϝ X.env.locals,.none]++(if pl.isEmpty then Ě 6 Ė else pl)).toArray:=by rw[<-hoT]
  have hTf:oT.isFreed=Ż:=ã Ke;have TR:=qd (h:=aN) oT TU;refine Ϗ TR hv hsz ?_;have xm:aN.objs.size≠a:=û (qh TU);have J9:=ù hv (·.setIfInBounds 1 (Ĝ aN.objs.size));have EC:=Ô (ņ (·.setIfInBounds 1 (Ĝ aN.objs.size))) TR (ã J9);have Kf:(aN.push oT).get? aN.objs.size=ž oT:=qg aN hTf;have T5:=(Î (aN.push oT) (ņ (·.setIfInBounds 1 (Ĝ aN.objs.size)))<|Ľ xm).trans Kf;unfold setFlight;refine qa<|Ŀ EC J9 (x:=.ref aN.objs.size) (by simp[hsz]) ?_;rw[a6P (show(Ĝ aN.objs.size != Ė)=ż from by simp)];refine Ϗ T5 Ke (by simp only[ě,qr,qt,ũ]<;>omega) ?_;have TZ:=ù Ke (·.setIfInBounds 3 ((Ž:Qb Qg).elim Ė λf=>Ϝ f));have T4:=Ô (ņ (·.setIfInBounds 3 ((Ž:Qb Qg).elim Ė λf=>Ϝ f))) T5 (ã TZ);have he6:=(Î ((aN.push oT).update a<|ņ (·.setIfInBounds 1 (Ĝ aN.objs.size))) (ņ (·.setIfInBounds 3 ((Ž:Qb Qg).elim Ė λf=>Ϝ f))) xm).trans EC;have hTn:H aN.objs.size=Ž:=I3.aC.fresh (qe _);have I4:=I3.laid (a:=aN.objs.size) (o:=.ext λh=>∃o,h.get? aN.objs.size=ž o) (h':=aN.push oT) (t':=s2.toks) (λb u e=>qd _ e) (qe _) ⟨⟨_,Kf⟩,⟨_,Kf⟩,λx y ⟨o,z⟩ k=>⟨o,k _ z⟩⟩;have I5:=I4.write (x:=a) (e:=a) (o:=mF a C d (ž aN.objs.size)) (h':=(aN.push oT).update a (ņ (·.setIfInBounds 1 (Ĝ aN.objs.size)))) (t':=s2.toks) (by rw[zw<|Ľ xm,ea];trivial) (.inl rfl)
   (λb u nb e=>(Î _ _<|Ľ nb).trans e) ⟨_,EC⟩ (G1 ⟨_,_,EC,(a2F _ _).trans hc,by have(c1,c2,c3,c4):=oe;cases c3<;>exact ig,J9,by simp[hsz],λz=>nomatch z⟩)
  have I6:=I5.write (x:=aN.objs.size) (e:=aN.objs.size) (o:=wX aN.objs.size) (h':=((aN.push oT).update a<|ņ (·.setIfInBounds 1 (Ĝ aN.objs.size))).update aN.objs.size (ņ (·.setIfInBounds 3 ((Ž:Qb Qg).elim Ė λf=>Ϝ f)))) (t':=s2.toks)
   (by rw[zw xm,zz];trivial) (.inl rfl) (λb u nb e=>(Î _ _<|Ľ nb).trans e) ⟨_,T4⟩ (MP ⟨_,_,T4,TZ,by simp⟩)
  have ee:({s2 with heap:=((aN.push oT).update a<|ņ (·.setIfInBounds 1 (Ĝ aN.objs.size))).update aN.objs.size (ņ (·.setIfInBounds 3 ((Ž:Qb Qg).elim Ė λf=>Ϝ f)))}:Qd) =
    {s with heap:=((aN.push oT).update a<|ņ (·.setIfInBounds 1 (Ĝ aN.objs.size))).update aN.objs.size (ņ (·.setIfInBounds 3 ((Ž:Qb Qg).elim Ė λf=>Ϝ f)))}:=by rw[es2]
  have kk:∀b o,b≠a->H b=ž o->upd (upd (upd H aN.objs.size (.ext λh=>∃o,h.get? aN.objs.size=ž o)) a<|mF a C d<|some aN.objs.size) aN.objs.size (wX aN.objs.size) b=ž o:=λb o nb e=>by
   have nT:b≠aN.objs.size:=λz=>by rw[z,hTn]at e;cases e
   rw[zw nT,zw nb,zw nT];exact e
  have fin:=k _ _ (by rw[<-ee];exact I6) ⟨d,ž aN.objs.size,by rw[zw<|Ľ xm,zz],λT eT=>by cases eT;exact⟨zz,xm⟩,?_⟩ kk (λb e=>?_)
  .rw[<-ee]at fin;exact fin
  .rcases ed with ed|⟨od,dx,e1,e2⟩
   .exact .inl ed
   .exact .inr ⟨od,dx,e1,kk dx _ (λz=>by rw[z,ea]at e2;cases e2) e2⟩
  .by_cases b1:b=aN.objs.size
   .rw[b1,zz]at e;cases e
   .rw[zw b1]at e
    by_cases b2:b=a
    .rw[b2,zz]at e;cases e
    .rw[zw b2,zw b1]at e;exact e
 unfold noteFrame;simp only[hf];cases tb with
 |none=>
  refine qa<|Ŀ (x:=.none) he hv h1 ?_;rw[a6Q (by decide)];exact main s .none _ rfl I he
 |some T=>
  have(eT,nT):=et T rfl;obtain⟨⟨oT,ts,hT,J8,h3⟩,_⟩:=I.aC T _ eT;refine qa<|Ŀ (x:=.ref T) he hv h1 ?_;rw[a6P (show(Ĝ T != Ė)=ż from by simp)];refine qa<|Ŀ hT J8 h3 ?_;rw[a6Q (show ¬((Ė==Ϝ X.env.locals)=ż) from by simp[Ϝ])];refine qa<|Ϗ hT J8 (Ñ.mp h3).1 ?_;have TY:=ù J8 (·.setIfInBounds 3 Ė);have T3:=Ô (ņ (·.setIfInBounds 3 Ė)) hT (ã TY);have I7:=I.write (x:=T) (e:=T) (o:=wX T) (h':=s.heap.update T (ņ (·.setIfInBounds 3 Ė))) (t':=s.toks) (by rw[eT];trivial) (.inl rfl) (λb u nb e=>(Î _ _<|Ľ nb).trans e) ⟨_,T3⟩
   (MP ⟨_,_,T3,TY,by have:=(Ñ.mp h3).1;simp[this]⟩)
  have eu:upd H T (wX T)=H:=by
   funext b
   unfold upd;split
   .rename_i z;rw[z,eT]
   .rfl
  rw[eu]at I7;exact main {s with heap:=s.heap.update T (ņ (·.setIfInBounds 3 Ė))} (.ref T) _ rfl I7<|(Î _ _ nT).trans he
end
end Internal
namespace Internal
open PySem PySem.Spec PyProof.Rows
open PySem.W (Looks InstAt)
abbrev eK:=St->Qg->Hp->Prop
def qD(X:Cx)(EX:eK):Prop:=∀(pins:Qa (Qg×Obj)) (σ:St) (H:Hp) (s:Qd) (a:Qg),Inv X pins σ H s->EX σ a H->X.xe (.ref a) s
section
variable{X:Cx}{EX:eK}
def GL(K:qc)(EX:eK)(te:TE):TS:=λ_ σ H=>te σ H λv H1=>∃a C d,v=.ref a/\H1 a=ž (mF a C d Ž)/\XC K C/\EX σ a H1
def zrW(hx:qD X EX)(hh:X.A.handled=Ž)(he:PE X e te):PS X (.Raise (ž e) Ž pos) (GL X.K EX te):=by
 intro pins s σ H D I h;rw[arm_exec_Raise];simp only[evalOpt,Option.map];refine qa<|a0m ?_;unfold raiseStmt;refine qa<|qa<|aF (he pins s σ H _ I h) λu s1 hZ=>?_;have(v,H1,I1,rv,a,C,d,ev,ea,xc,q):=hZ;refine qa<|a0m<|qb ?_;subst ev;obtain rfl:u=Ĝ a:=rv;obtain⟨⟨oe,vs,J4,_,_,_,_,hp⟩,_⟩:=I1.aC a _ ea;have(p,rfl):=hp rfl;replace J4:s1.heap.get? a=ž {cls:=.ref C,dict:=d,data:=.fields #[.ref p,.none,.none,.none,.bool Ż,.none]}:=J4;have(nm,qn,N,bs,bm,sn,sub,ab,col,dd,k0,k1,k2,k3,k5,eC,tl):=xc.at_;have hC:=I1.bO _ _ eC;have Kb:qO.contains (.type "BaseException")=ż:=by decide
 have hcB:(Ĝ C::bm).contains (.type "BaseException")=ż:=by rw[a5N,(a0j I1.bO tl).hasType Kb,Bool.or_true]
 have fin:=hx pins σ H1 s1 a I1 q;have(hp1,g,dr,tk,os):=s1
 repeat (first|with_reducible refine ϴ J4 ?_|with_reducible refine ϴ hC ?_ | (with_reducible refine wpAny_isSubtype_exc hC ?_;rw[hcB]) |wp_step)
 exact wpAny_raiseNew_none hh fin
end
def Fp(K:qc)(f:Str):Sp:=λvs H Q _=>∃a C p v,vs=[.ref a,v]/\H a=ž (tL a C p)/\XC K C/\sf K C f/\
 ∀dx od,H dx=Ž->dx≠a->Q .aO (upd (upd H dx<|.aZ od<|.xd [(f,v)]) a<|mF a C (ž dx) Ž)
def Yd{fs:Qa Qg}{φ:ĵ->Prop}{o u:HO}(un:Un fs [] H H' h h')(aC:cP P w K H' h')(ea:H a=ž (.ext φ))(ij:H' a=ž o)(no:∀xs,o≠.tup xs)(nw:∀x,o≠.own x)(new:bX P w K (upd H' a u) h' a u):
  Un fs [] H (upd H' a u) h h'/\cP P w K (upd H' a u) h':=by
 have ne:∀b,(∀ψ,H b≠ž (.ext ψ))->b≠a:=λb q z=>by subst z;exact q _ ea
 refine⟨⟨un.keep,un.slot,λb ob q n hx=>?_,un.there,λb xs q=>?_,λb ob v q=>?_,λb ps q=>?_⟩,λb v q=>?_⟩
 .rw[zw (ne b λψ z=>by rw[n]at z;cases z)];exact un.free b ob q n hx
 .rw[zw (ne b λψ z=>by rw[q]at z;cases z)];exact un.eU b xs q
 .rw[zw (ne b λψ z=>by rw[q]at z;cases z)];exact un.eh b ob v q
 .have(m,e):=un.fN b ps q
  exact⟨m,by rw[zw (ne b λψ z=>by rw[q]at z;cases z)];exact e⟩
 .by_cases hb:b=a
  .subst hb
   rw[zz]at q;cases q;exact new
  .rw[zw hb]at q
   refine(aC b v q).eV (λ_ _ _ r=>r) (λc r=>?_) λc xs r=>?_
   .rw[zw λz=>by subst z;rw[ij]at r;cases r;exact nw _ rfl];exact r
   .rw[zw λz=>by subst z;rw[ij]at r;cases r;exact no _ rfl];exact r
section
variable{X:Cx}{C:Qg}
def HB(C:Qg):TE:=λσ H Q=>∀a,H a=Ž->Q (.ref a) (upd H a<|mF a C Ž Ž)
def zm7(Y:XC X.K C)(hi:ī X.K (.ref C) "__init__"=ž (ž<|.builtin "ValueError.__init__"))(kp:ň X.K (.ref C)=ż)(hg:Gl X x)(hm:X.mg x=ž (.ref C))(cN:(x==("__debug__":Str))=Ż:=by decide):
  PE X (.Call (.Name x p) [] [] pos) (HB C):=by
 intro pins s σ H Q I h;refine Ϫ<|yK I hg hm ?_ cN;refine PySem.W.callWith_K0 I.bO kp<|a0g<|Ye Y I.bO hi λh' ox up hx h1 h2 h3 h4=>?_;have(q,rfl):=h4;have I2:=I.laid (a:=s.heap.objs.size+1) (o:=mF (s.heap.objs.size+1) C Ž Ž) (h':=h') (t':=s.toks) up (ò _) (G1 ⟨_,_,hx,rfl,rfl,rfl,rfl,λ_=>⟨q,rfl⟩⟩);exact⟨.ref<|s.heap.objs.size+1,_,I2,rfl,h _<|I.aC.fresh<|ò _⟩
end
def rM(P:Qe)(w:Qh)(K:qc):kJ:=λouter H s E e s'=>∃a H',e=.ref a/\s'.os=s.os/\a1j s'.gens/\Un (ja outer) [] H H' s.heap s'.heap/\cP P w K H' s'.heap/\E e Ž H'
section
variable{X:Cx}{EX:eK}{k:Nat}{f:Qg}{es:Qa Ķ}{t:TA}
def Fo(EX:eK)(σ:St):XK:=λu _ H'=>∃a,u=.ref a/\EX σ a H'
def GK(sp:Sp)(EX:eK)(t:TA):TE:=λσ H Q=>t σ H λvs H1=>sp vs H1 Q<|Fo EX σ
def YR{Q:VK}(F:bU X.prog X.w X.K X.mg X.base (rM X.prog X.w X.K) k f fd ps sp)(hr:aG k X.A)(hb:kY X.K fd ps [])(hx:qD X EX)
  (I:Inv X pins σ H s) (r:zQ vs us) (h:sp vs H Q (Fo EX σ)):ĕ (Ę X.prog X.w) X.A (a2A (.ref f) us) (EP X pins σ Q) X.xe s:=by
 have hl:(us++[]).length=ps.length:=by rw[ŕ,<-r.length];exact F.len _ _ _ _ h
 have A1:=hb s us I.bO hl;rw[ŕ]at A1;refine a0g<|ϫ (F.run X.A X.stack s H ⟨us,[]⟩ us vs Q (Fo EX σ) hr I.u7 A1 r h) λr s' hq=>?_;cases r with
 |error e=>
  have(a,H',rfl,os,bare,un,aC,a',ea,q):=hq;cases ea;have(hh,g,d,t,sQ):=s';obtain rfl:sQ=s.os:=os;exact hx pins σ H' _ a (I.call (h':=hh) (g':=g) (d':=d) (t':=t) (ch:=[]) un aC bare (λb z=>absurd z (by simp))) q
 |ok fl=>
  cases fl with
  |ret u=>exact I.after hq
  |next=>exact ť hq
  |brk=>exact ť hq
  |cont=>exact ť hq
def zrX(F:bU X.prog X.w X.K X.mg X.base (rM X.prog X.w X.K) k f fd ps sp)(hr:aG k X.A)(hg:Gl X x)(hm:X.mg x=ž (.ref f))(hk:ň X.K (.ref f)=ż)(hb:kY X.K fd ps [])(hx:qD X EX)
  (ha:PA X (e::es) t) (cN:(x==("__debug__":Str))=Ż:=by decide) (he:Ļ (e::es) X.env=(Ż,Ÿ e X.env)::Ļ es X.env:=by rfl) (dq:(Ω pos<|Ļ es X.env).any (·.1)=Ż:=by rfl):
  PE X (.Call (.Name x p) (e::es) [] pos) (GK sp EX t):=by
 intro pins s σ H Q I h;refine Ϫ<|yK I hg hm ?_ cN;refine a1J (h₀:=X.base) I.ok.mod.ku hk (aF (ha pos pins s σ H _ I h) λus s1 ⟨vs,H1,I1,r,q⟩=>⟨I1.bO,?_⟩) he dq;exact YR F hr hb hx I1 r q
def Bt(E:XK):eK:=λ_ a H=>∃C fs,tK H a C fs/\∀H',tK H' a C fs->(∀b o,b≠a->H b=ž o->H' b=ž o)->(∀b,H' b=Ž->H b=Ž)->E (.ref a) Ž H'
def zBY{f:Qg}{cd:Qc}{outer:Qa Env}{E:XK}:
  qD (jV (rM P w K) P w K mg base N qual scope f cd A outer s H E) (Bt E):=by
 intro pins σ H1 s1 a I ⟨C,fs,fl,q⟩;show ĕ _ _ (leaving _ _) _ _ _;unfold leaving;refine qa<|zqs (outer:=outer) I I.ok.frames rfl rfl fl λh' H' I' fl' k1 k2=>?_;exact⟨a,H',rfl,I'.os,I'.bare,I'.base,I'.aC,q H' fl' k1 k2⟩
end
end Internal
namespace Internal
open PySem PySem.Spec PyProof.Rows
open PySem.W (Looks InstAt)
noncomputable abbrev Cx.body(X:Cx)(pn:Qa (Qg×Obj))(E:Qc->Qd->Prop):Cx:={X with pn:=pn,xe:=E}
end Internal
namespace Internal
open PySem PySem.Spec PyProof.Rows
abbrev D:=Λ
noncomputable def AB:Key->D
 |.inl i=>.int i
 |.inr x=>.str x
def jN(ks:Qa Key):D:=.tuple (ks.map AB)
def PL(K:qc)(H:Hp)(a:Qg)(xs:Qa V):Prop :=
 (∃o,H a=ž (.aZ o<|.lst xs))\/∃(o:Obj) (ai:Array Qc) (n:Nat),K.lookup a=ž o/\o.cls=.type "list"/\o.dict=Ž/\o.data=.seq ai n/\ai.size<=Ĕ/\zQ xs ai.toList
def XN(K:qc)(n:Str)(C:Qg):Prop:=Ī K Ģ n=ž (ž<|.ref C)
noncomputable def ko:Qa (D×D)->Bool
 | (.none,_)::_=>Ż
 | (.bool _,_)::_=>Ż
 |_=>ż
def be.sq{xs:Qa V}(h:be K H a xs):bI K H a xs:=by
 rcases h with h|⟨o,i,n,a,b,c,d,e,_⟩
 .exact .inl (.inl h)
 .exact .inr ⟨o,i,n,a,b,c,d,e⟩
def be.kp{xs:Qa V}(e:Kp H H')(h:be K H a xs):be K H' a xs:=h.keeps e.tup
mutual
inductive DF (K:qc) (H:Hp):V->D->Prop
 |aO:DF K H .aO .none
 |bl (b:Bool):DF K H (.bl b) (.bool b)
 |int (i:Int):DF K H (.int i) (.int i)
 |str (x:Str):DF K H (.str x) (.str x)
 |tup {a:Qg} {xs:Qa V} {ds:Qa D} (h:be K H a xs) (t:aQ K H xs ds):DF K H (.ref a) (.tuple ds)
 |lst {a:Qg} {xs:Qa V} {ds:Qa D} (h:PL K H a xs) (t:aQ K H xs ds):DF K H (.ref a) (.list ds)
 |jR {a:Qg} {o:Obj} {ws:Qa (Qa Key×V)} {kvs:Qa (D×D)} (h:H a=ž (.aZ o<|.dT ws)) (t:jg K H ws kvs):DF K H (.ref a) (.dict kvs)
 |exc {a C:Qg} {n:Str} {fs:Qa (Str×V)} {ds:Qa (D×D)} (h:XV H a C fs) (e:XN K n C) (t:m9 K H fs ds):DF K H (.ref a) (.dict<|(.none,.str n)::ds)
 |obj {a C dx:Qg} {o:Obj} {n:Str} {fs:Qa (Str×V)} {ds:Qa (D×D)} (h:H a=ž (.aZ o<|.ins C dx fs)) (e:XN K n C) (t:m9 K H fs ds):DF K H (.ref a) (.dict<|(.bool ż,.str n)::ds)
inductive aQ (K:qc) (H:Hp):Qa V->Qa D->Prop
 |nil:aQ K H [] []
 |cons {v:V} {d:D} {vs:Qa V} {ds:Qa D} (h:DF K H v d) (t:aQ K H vs ds):aQ K H (v::vs) (d::ds)
inductive jg (K:qc) (H:Hp):Qa (Qa Key×V)->Qa (D×D)->Prop
 |nil:jg K H [] []
 |cons {k:Qa Key} {v:V} {d:D} {vs:Qa (Qa Key×V)} {ds:Qa (D×D)} (h:DF K H v d) (t:jg K H vs ds):jg K H ((k,v)::vs) ((jN k,d)::ds)
inductive m9 (K:qc) (H:Hp):Qa (Str×V)->Qa (D×D)->Prop
 |nil:m9 K H [] []
 |cons {k:Str} {v:V} {d:D} {vs:Qa (Str×V)} {ds:Qa (D×D)} (h:DF K H v d) (t:m9 K H vs ds):m9 K H ((k,v)::vs) ((.str k,d)::ds)
end
def XV.kp{C:Qg}{fs:Qa (Str×V)}(e:Kp H H')(h:XV H a C fs):XV H' a C fs:=by
 have(ox,h1,h2,h3,h4):=h;refine⟨ox,e.aZ _ _ _ h1,h2,h3,?_⟩;rcases h4 with h4|⟨od,dx,h5,h6⟩
 .exact .inl h4
 .exact .inr ⟨od,dx,h5,e.aZ _ _ _ h6⟩
def PL.kp{xs:Qa V}(e:Kp H H')(h:PL K H a xs):PL K H' a xs:=by
 rcases h with⟨o,h⟩|h
 .exact .inl ⟨o,e.aZ _ _ _ h⟩
 .exact .inr h
def PL.sq{xs:Qa V}(h:PL K H a xs):b9 K H a xs:=by
 rcases h with⟨o,h⟩|h
 .exact .inl (.inr ⟨o,h⟩)
 .exact .inr h
def aQ.kp(e:Kp H H'){v:Qa V}{d:Qa D}(h:aQ K H v d):aQ K H' v d :=
 aQ.rec (motive_1:=λv d _=>DF K H' v d) (motive_2:=λv d _=>aQ K H' v d) (motive_3:=λv d _=>jg K H' v d) (motive_4:=λv d _=>m9 K H' v d)
  .aO .bl .int .str (λh _ t=>.tup (h.keeps e.tup) t) (λh _ t=>.lst (h.kp e) t) (λh _ t=>.jR (e.aZ _ _ _ h) t) (λh n _ t=>.exc (h.kp e) n t) (λh n _ t=>.obj (e.aZ _ _ _ h) n t)
  .nil (λ_ _ a b=>.cons a b) .nil (λ_ _ a b=>.cons a b) .nil (λ_ _ a b=>.cons a b) h
def DF.kp(e:Kp H H'){d:D}(h:DF K H v d):DF K H' v d:=by
 cases aQ.kp e (.cons h .nil);assumption
def m9.kp(e:Kp H H'){v:Qa (Str×V)}{d:Qa (D×D)}(h:m9 K H v d):m9 K H' v d :=
 m9.rec (motive_1:=λ_ _ _=>True) (motive_2:=λ_ _ _=>True) (motive_3:=λ_ _ _=>True) (motive_4:=λv d _=>m9 K H' v d) trivial (λ_=>trivial) (λ_=>trivial) (λ_=>trivial) (λ_ _ _=>trivial) (λ_ _ _=>trivial) (λ_ _ _=>trivial) (λ_ _ _ _=>trivial) (λ_ _ _ _=>trivial) trivial (λ_ _ _ _=>trivial) trivial (λ_ _ _ _=>trivial) .nil (λh _ _ b=>.cons (h.kp e) b) h
section
def aQ.ind{P:Qa V->Qa D->Prop}(n:P [] [])(c:∀{v d vs ds},DF K H v d->aQ K H vs ds->P vs ds->P (v::vs) (d::ds)){ds:Qa D}(h:aQ K H vs ds):P vs ds :=
 aQ.rec (motive_1:=λ_ _ _=>True) (motive_2:=λv d _=>P v d) (motive_3:=λ_ _ _=>True) (motive_4:=λ_ _ _=>True) trivial (λ_=>trivial) (λ_=>trivial) (λ_=>trivial) (λ_ _ _=>trivial) (λ_ _ _=>trivial) (λ_ _ _=>trivial) (λ_ _ _ _=>trivial) (λ_ _ _ _=>trivial) n (λh t _ q=>c h t q) trivial (λ_ _ _ _=>trivial) trivial (λ_ _ _ _=>trivial) h
def jg.ind{P:Qa (Qa Key×V)->Qa (D×D)->Prop}(n:P [] [])(c:∀{k v d vs ds},DF K H v d->jg K H vs ds->P vs ds->P ((k,v)::vs) ((jN k,d)::ds)){vs:Qa (Qa Key×V)}{ds:Qa (D×D)}(h:jg K H vs ds):P vs ds :=
 jg.rec (motive_1:=λ_ _ _=>True) (motive_2:=λ_ _ _=>True) (motive_3:=λv d _=>P v d) (motive_4:=λ_ _ _=>True) trivial (λ_=>trivial) (λ_=>trivial) (λ_=>trivial) (λ_ _ _=>trivial) (λ_ _ _=>trivial) (λ_ _ _=>trivial) (λ_ _ _ _=>trivial) (λ_ _ _ _=>trivial) trivial (λ_ _ _ _=>trivial) n (λh t _ q=>c h t q) trivial (λ_ _ _ _=>trivial) h
def aQ.app{ws:Qa V}{ds es:Qa D}(h:aQ K H vs ds)(q:aQ K H ws es):aQ K H (vs++ws) (ds++es):=
 h.ind (P:=λvs ds=>aQ K H (vs++ws)<|ds++es) q λa _ t=>.cons a t
def aQ.snoc{d:D}(h:DF K H v d){ds:Qa D}(t:aQ K H vs ds):aQ K H (vs++[v]) (ds++[d]):=t.app (.cons h .nil)
def aQ.len:∀{vs:Qa V} {ds:Qa D},aQ K H vs ds->vs.length=ds.length
 |_,_,.nil=>rfl
 |_,_,.cons _ t=>congrArg (·+1)<|aQ.len t
def aQ.get{ds:Qa D}{d:D}(h:aQ K H vs ds)(e:ds[i]?=ž d):∃v,vs[i]?=ž v/\DF K H v d:=by
 refine h.ind (P:=λvs ds=>∀i:Nat,ds[i]?=ž d->∃v,vs[i]?=ž v/\DF K H v d) (λi e=>?_) (λh _ t i e=>?_) i e
 .simp at e
 .cases i with
  |zero=>cases(show ž _=ž _ from e);exact⟨_,rfl,h⟩
  |succ i=>exact t i e
def aQ.get'{ds:Qa D}(h:aQ K H vs ds)(e:vs[i]?=ž v):∃d,ds[i]?=ž d/\DF K H v d:=by
 refine h.ind (P:=λvs ds=>∀i:Nat,vs[i]?=ž v->∃d,ds[i]?=ž d/\DF K H v d) (λi e=>?_) (λh _ t i e=>?_) i e
 .simp at e
 .cases i with
  |zero=>cases(show ž _=ž _ from e);exact⟨_,rfl,h⟩
  |succ i=>exact t i e
def aQ.take:∀{vs:Qa V} {ds:Qa D} (n:Nat),aQ K H vs ds->aQ K H (vs.take n) (ds.take n)
 |_,_,0,_=>by simpa using aQ.nil
 |_,_,n+1,.nil=>by simpa using aQ.nil
 |_,_,n+1,.cons h t=>.cons h<|aQ.take n t
def aQ.drop:∀{vs:Qa V} {ds:Qa D} (n:Nat),aQ K H vs ds->aQ K H (vs.drop n) (ds.drop n)
 |_,_,0,q=>q
 |_,_,n+1,.nil=>by simpa using aQ.nil
 |_,_,n+1,.cons h t=>aQ.drop n t
def aQ.set{d:D}(h:DF K H v d):∀{vs:Qa V} {ds:Qa D} (n:Nat),aQ K H vs ds->aQ K H (vs.set n v) (ds.set n d)
 |_,_,_,.nil=>.nil
 |_,_,0,.cons _ t=>.cons h t
 |_,_,n+1,.cons a t=>.cons a<|aQ.set h n t
end
inductive PU where
 |d (x:D) |l (xs:Qa D) |t (kvs:Qa (Qa Key×D)) |x (kvs:Qa (Qa K3×D))
inductive U where
 |d (x:D)
 |l (xs:Qa D) |t (kvs:Qa (Qa Key×D)) |k (kvs:Qa (Key×D))
 |o (c:Str) (fs:Qa (Str×PU))
noncomputable def U.own:U->Bool
 |.d _=>Ż
 |_=>ż
def fA{κ:Type}(K:qc)(H:Hp):Qa (κ×V)->Qa (κ×D)->Prop:=Γ λp q=>p.1=q.1/\DF K H p.2 q.2
noncomputable def Bb(C dx:Qg)(vs:Qa (Str×V)):Qa (Qg×HO)->HO
 |[]=>.ins C dx vs
 | (b,p)::r=>.sub b p<|Bb C dx vs r
inductive FO (K:qc) (H:Hp):Qa (Str×V)->Qa (Qg×HO)->Qa (Str×PU)->Prop
 |nil:FO K H [] [] []
 |d {n:Str} {v:V} {x:D} {vs:Qa (Str×V)} {ps:Qa (Qg×HO)} {fs:Qa (Str×PU)} (h:DF K H v x) (t:FO K H vs ps fs):FO K H ((n,v)::vs) ps ((n,.d x)::fs)
 |l {n:Str} {b:Qg} {us:Qa V} {xs:Qa D} {vs:Qa (Str×V)} {ps:Qa (Qg×HO)} {fs:Qa (Str×PU)} (h:aQ K H us xs) (t:FO K H vs ps fs):FO K H ((n,.ref b)::vs) ((b,.lst us)::ps) ((n,.l xs)::fs)
 |t {n:Str} {b:Qg} {us:Qa (Qa Key×V)} {xs:Qa (Qa Key×D)} {vs:Qa (Str×V)} {ps:Qa (Qg×HO)} {fs:Qa (Str×PU)} (h:fA K H us xs) (t:FO K H vs ps fs):FO K H ((n,.ref b)::vs) ((b,.dT us)::ps) ((n,.t xs)::fs)
 |x {n:Str} {b:Qg} {us:Qa (Qa K3×V)} {xs:Qa (Qa K3×D)} {vs:Qa (Str×V)} {ps:Qa (Qg×HO)} {fs:Qa (Str×PU)} (h:fA K H us xs) (t:FO K H vs ps fs):FO K H ((n,.ref b)::vs) ((b,.dX us)::ps) ((n,.x xs)::fs)
def Rp(K:qc)(H:Hp)(v:V):U->Prop
 |.d x=>DF K H v x
 |.l xs=>∃a us,v=.ref a/\H a=ž (.lst us)/\aQ K H us xs
 |.t kvs=>∃a ws,v=.ref a/\H a=ž (.dT ws)/\fA K H ws kvs
 |.k kvs=>∃a ws,v=.ref a/\H a=ž (.dK ws)/\fA K H ws kvs
 |.o c fs=>∃a C dx vs ps,v=.ref a/\H a=ž (Bb C dx vs ps)/\ps≠[]/\XN K c C/\(ps.map (·.1)).Nodup/\FO K H vs ps fs/\dx∉ps.map (·.1)/\∀q∈ps,H q.1=ž (.own a)
def Mo:HO->Prop
 |.lst _=>True
 |.dT _=>True
 |.dK _=>True
 |.sub _ _ _=>True
 |_=>False
def Mo.Bb{C:Qg}{vs:Qa (Str×V)}{ps:Qa (Qg×HO)}(h:ps≠[]):Mo (Bb C dx vs ps):=by
 cases ps with
 |nil=>exact absurd rfl h
 |cons p r=>trivial
def Rp.own{u:U}(h:Rp K H v u)(o:u.own=ż):∃a c,v=.ref a/\H a=ž c/\Mo c:=by
 cases u with
 |d x=>cases o
 |l xs=>have(a,us,e,q,_):=h;exact⟨a,_,e,q,trivial⟩
 |t xs=>have(a,us,e,q,_):=h;exact⟨a,_,e,q,trivial⟩
 |k xs=>have(a,us,e,q,_):=h;exact⟨a,_,e,q,trivial⟩
 |o c fs=>have(a,C,dx,vs,ps,e,q,n,_):=h;exact⟨a,_,e,q,Mo.Bb n⟩
def fA.kp{κ:Type}(e:Kp H H'){ws:Qa (κ×V)}{kvs:Qa (κ×D)}(h:fA K H ws kvs):fA K H' ws kvs:=Paired.jL h λ_ _ z=>⟨z.1,z.2.kp e⟩
def FO.kp(e:Kp H H'){vs:Qa (Str×V)}{ps:Qa (Qg×HO)}{fs:Qa (Str×PU)}(h:FO K H vs ps fs):FO K H' vs ps fs:=by
 induction h with
 |nil=>exact .nil
 |d h _ ih=>exact .d (h.kp e) ih
 |l h _ ih=>exact .l (h.kp e) ih
 |t h _ ih=>exact .t (h.kp e) ih
 |x h _ ih=>exact .x (h.kp e) ih
def Rp.kp{u:U}(h:Rp K H v u)(e:Kp H H')(o:u.own=ż->∀a c,v=.ref a->H a=ž c->H' a=ž c):Rp K H' v u:=by
 cases u with
 |d x=>exact DF.kp e h
 |l xs=>have(a,us,ev,q,t):=h;exact⟨a,us,ev,o rfl a _ ev q,t.kp e⟩
 |t xs=>have(a,us,ev,q,t):=h;exact⟨a,us,ev,o rfl a _ ev q,t.kp e⟩
 |k xs=>have(a,us,ev,q,t):=h;exact⟨a,us,ev,o rfl a _ ev q,t.kp e⟩
 |o c fs=>have(a,C,dx,vs,ps,ev,q,n,x,nd,t,d,w):=h;exact⟨a,C,dx,vs,ps,ev,o rfl a _ ev q,n,x,nd,t.kp e,d,λz hz=>e.own _ _<|w z hz⟩
noncomputable abbrev En:=Qa (Qb U)
def Ow(ρ:En)(σ:St)(a:Qg):Prop:=∃(i:Nat) (u:U),ρ[i]?=ž (ž u)/\u.own=ż/\σ[i]?=ž (ž<|.ref a)
structure Rs (K:qc) (ρ:En) (σ:St) (H:Hp):Prop where
 len:ρ.length=σ.length
 rep:∀(i:Nat) (u:U),ρ[i]?=ž (ž u)->∃v,σ[i]?=ž (ž v)/\Rp K H v u
 apart:∀(i j:Nat) (u w:U),ρ[i]?=ž (ž u)->ρ[j]?=ž (ž w)->u.own=ż->w.own=ż->σ[i]?=σ[j]?->i=j
def Bp(A:Qg->Prop)(H H':Hp):Prop:=∀a o,H a=ž o->¬A a->H' a=ž o
structure iH (ρ aj:En):Prop where
 len:aj.length=ρ.length
 own:∀(i:Nat) (u:U),aj[i]?=ž (ž u)->u.own=ż->∃w,ρ[i]?=ž (ž w)/\w.own=ż
 live:∀(i:Nat) (u:U),ρ[i]?=ž (ž u)->∃w,aj[i]?=ž (ž w)
def Nw(H:Hp)(v:V)(u:U):Prop:=u.own=ż->∃a,v=.ref a/\H a=Ž
structure Go (K:qc) (ρ:En) (σ:St) (H:Hp) (aj:En) (H':Hp):Prop where
 rs:Rs K aj σ H'
 fr:Bp (Ow ρ σ) H H'
 shr:iH ρ aj
 dm:∀a,H' a=Ž->H a=Ž
section
variable{ρ aj dN:En}{Bo:Hp}
def Rs.ow(r:Rs K ρ σ H)(o:Ow ρ σ a):∃c,H a=ž c/\Mo c:=by
 have(i,u,e,ou,es):=o;have(v,ev,p):=r.rep i u e;rw[es]at ev;cases ev;have(b,c,eb,q,m):=p.own ou;cases eb;exact⟨c,q,m⟩
def Bp.kp(r:Rs K ρ σ H)(f:Bp (Ow ρ σ) H H'):Kp H H':=by
 refine⟨λb xs h=>f b _ h λo=>?_,λb ob u h=>f b _ h λo=>?_,λb x h=>f b _ h λo=>?_⟩
 all_goals
  have(c,q,m):=r.ow o;rw[h]at q;cases q;exact m
def iH.refl(ρ:En):iH ρ ρ:=⟨rfl,λi u e o=>⟨u,e,o⟩,λi u e=>⟨u,e⟩⟩
def iH.trans(a:iH ρ aj)(b:iH aj dN):iH ρ dN:=⟨b.1.trans a.1,λi u e o=>let ⟨w,e',o'⟩:=b.2 i u e o;a.2 i w e' o',λi u e=>let ⟨w,e'⟩:=a.3 i u e;b.3 i w e'⟩
def iH.ow(s:iH ρ aj)(o:Ow aj σ a):Ow ρ σ a:=by
 have(i,u,e,ou,es):=o;have(w,e',o'):=s.2 i u e ou;exact⟨i,w,e',o',es⟩
def Go.refl(r:Rs K ρ σ H):Go K ρ σ H ρ H:=⟨r,λ_ _ h _=>h,iH.refl _,λ_ h=>h⟩
def Go.trans(a:Go K ρ σ H aj H')(b:Go K aj σ H' dN Bo):Go K ρ σ H dN Bo :=
 ⟨b.rs,λc o h n=>b.fr c o (a.fr c o h n) λz=>n<|a.shr.ow z,a.shr.trans b.shr,λc h=>a.dm c<|b.dm c h⟩
def Go.kp(r:Rs K ρ σ H)(g:Go K ρ σ H aj H'):Kp H H':=g.fr.kp r
def Go.eV{u:U}(r:Rs K ρ σ H)(g:Go K ρ σ H aj H')(h:Rp K H v u)(n:u.own=ż->∃a,v=.ref a/\¬Ow ρ σ a):Rp K H' v u:=by
 refine h.kp (g.kp r) λo a c ev q=>?_;have(b,eb,nb):=n o;cases ev;cases eb;exact g.fr _ _ q nb
def Nw.out{u:U}(r:Rs K ρ σ H)(n:Nw H v u):u.own=ż->∃a,v=.ref a/\¬Ow ρ σ a:=λo=>by
 have(a,e,h):=n o;refine⟨a,e,λz=>?_⟩;have(c,q,_):=r.ow z;rw[h]at q;cases q
def dI.dm(s:dI H H'):∀a,H' a=Ž->H a=Ž:=λa h=>by
 cases e:H a with
 |none=>rfl
 |some o=>rw[s a o e]at h;cases h
def Go.grow(r:Rs K ρ σ H)(s:dI H H'):Go K ρ σ H ρ H' :=
 ⟨⟨r.len,λi u e=>let ⟨v,ev,p⟩:=r.rep i u e;⟨v,ev,p.kp s.kp λ_ a c _ q=>s a c q⟩,r.apart⟩,λa o h _=>s a o h,iH.refl _,s.dm⟩
end
inductive Ar where
 |s (i:Nat) |u (x:U)
noncomputable def Ar.get(ρ:En):Ar->Qb U
 |.s i=>(ρ[i]?).join
 |.u x=>ž x
def oA(K:qc)(ρ:En)(σ:St)(H H':Hp)(v:V):Ar->Prop
 |.s i=>σ[i]?=ž (ž v)/\∃u,ρ[i]?=ž (ž u)
 |.u x=>Rp K H' v x/\Nw H v x
abbrev ME:=En->Qb (Ar×En)
abbrev MA:=En->Qb (Qa Ar×En)
abbrev MT:=En->Qb (Bool×En)
def VE(K:qc)(t:TE)(m:ME):Prop :=
 ∀(ρ:En) (σ:St) (H:Hp) (a:Ar) (aj:En) (Q:VK),Rs K ρ σ H->m ρ=ž (a,aj)->(∀v H',Go K ρ σ H aj H'->oA K aj σ H H' v a->Q v H')->t σ H Q
def VT(K:qc)(t:TT)(m:MT):Prop :=
 ∀(ρ:En) (σ:St) (H:Hp) (b:Bool) (aj:En) (Q:Bool->Hp->Prop),Rs K ρ σ H->m ρ=ž (b,aj)->(∀H',Go K ρ σ H aj H'->Q b H')->t σ H Q
structure Fc (K:qc) (ρ:En) (σ:St) (H H':Hp) (vs:Qa V) (as:Qa Ar):Prop where
 len:vs.length=as.length
 ar:∀(i:Nat) (a:Ar),as[i]?=ž a->∃v,vs[i]?=ž v/\oA K ρ σ H H' v a
 ap:∀(i j:Nat) (x y:U),as[i]?=ž (.u x)->as[j]?=ž (.u y)->x.own=ż->y.own=ż->vs[i]?=vs[j]?->i=j
def kH(K:qc)(t:TA)(m:MA):Prop :=
 ∀(ρ:En) (σ:St) (H:Hp) (as:Qa Ar) (aj:En) (Q:Qa V->Hp->Prop),Rs K ρ σ H->m ρ=ž (as,aj)->(∀vs H',Go K ρ σ H aj H'->Fc K aj σ H H' vs as->Q vs H')->t σ H Q
section
variable{ρ aj dN:En}{Bo:Hp}{a:Ar}{u:U}
def Nw.mono(n:Nw H' v u)(h:∀a,H' a=Ž->H a=Ž):Nw H v u:=λo=>let ⟨a,e,q⟩:=n o;⟨a,e,h a q⟩
def Nw.qY(r:Rs K ρ σ H)(g:Go K ρ σ H aj H')(n:Nw H v u):u.own=ż->∃a,v=.ref a/\¬Ow aj σ a:=λo=>by
 have(b,e,q):=n.out r o;exact⟨b,e,λz=>q<|g.shr.ow z⟩
def oA.later(r:Rs K ρ σ H)(g1:Go K ρ σ H aj H')(g2:Go K aj σ H' dN Bo)(h:oA K aj σ H H' v a)(e:a.get dN=ž u):Rp K Bo v u:=by
 cases a with
 |s i=>
  have(es,_):=h;have e':dN[i]?=ž (ž u):=by
   cases q:dN[i]? with
   |none=>rw[show Ar.get dN (.s i)=(dN[i]?).join from rfl,q]at e;cases e
   |some o=>
    rw[show Ar.get dN (.s i)=(dN[i]?).join from rfl,q]at e;cases o with
    |none=>cases e
    |some x=>cases e;rfl
  have(w,ew,p):=g2.rs.rep i u e';rw[es]at ew;cases ew;exact p
 |u x=>
  cases(show ž x=ž u from e);exact g2.eV g1.rs h.1<|h.2.qY r g1
def oA.now(r:Rs K ρ σ H)(g1:Go K ρ σ H aj H')(h:oA K aj σ H H' v a)(e:a.get aj=ž u):Rp K H' v u:=h.later r g1 (Go.refl g1.rs) e
def Nw.data{x:D}:Nw H v (.d x):=λo=>by cases o
noncomputable def zi(i:Nat):ME:=λρ=>match ρ[i]? with
 |some (ž _)=>ž (.s i,ρ)
 |_=>Ž
def zd:VE K (ni i) (zi i):=by
 intro ρ σ H a aj Q r e q;unfold zi at e;split at e
 .rename_i u eu
  cases e;have(v,ev,p):=r.rep i u eu;exact⟨v,ev,q v H (Go.refl r) ⟨ev,u,eu⟩⟩
 .cases e
noncomputable def mC(x:D):ME:=λρ=>ž (.u<|.d x,ρ)
def D1{c:V}{x:D}(h:∀H,DF K H c x):VE K (tC c) (mC x):=by
 intro ρ σ H a aj Q r e q;cases e;exact q _ _ (Go.refl r) ⟨h H,Nw.data⟩
def zj{n:Int}:VE K (tC<|.int n) (mC<|.int n):=D1 λ_=>.int n
def iK{n:Str}:VE K (tC<|.str n) (mC<|.str n):=D1 λ_=>.str n
def fE{n:Bool}:VE K (tC<|.bl n) (mC<|.bool n):=D1 λ_=>.bl n
def Cj:VE K (tC .aO) (mC .none):=D1 λ_=>.aO
def VO(K:qc)(r:R2)(f:U->U->Qb U):Prop :=
 ∀(x y:V) (a b u:U) (H:Hp) (Q:VK),Rp K H x a->Rp K H y b->f a b=ž u->(∀v H',dI H H'->Rp K H' v u->Nw H v u->Q v H')->r x y H Q
def av(f:U->U->Qb U)(ma mb:ME):ME:=λρ=>(ma ρ).bind λp=>(mb p.2).bind λq=>(p.1.get q.2).bind λx=>(q.1.get q.2).bind λy=>(f x y).bind λu=>ž (.u u,q.2)
def bQ{o:Qb α}{f:α->Qb β}{b:β}(h:o.bind f=ž b):∃a,o=ž a/\f a=ž b:=Option.bind_eq_some_iff.mp h
def zn{r:R2}{f:U->U->Qb U}{ma mb:ME}(h:VO K r f)(ha:VE K ta ma)(hb:VE K tb mb):VE K (mW r ta tb) (av f ma mb):=by
 intro ρ σ H a aj Q rs e q;obtain⟨⟨a1,aq⟩,e1,e⟩:=bQ e;obtain⟨⟨b1,aD⟩,e2,e⟩:=bQ e;have(x,ex,e):=bQ e;have(y,ey,e):=bQ e;have(u,eu,e):=bQ e;cases e;refine ha ρ σ H a1 aq _ rs e1 λv1 H1 g1 k1=>hb aq σ H1 b1 aD _ g1.rs e2 λv2 H2 g2 k2=>?_;refine h _ _ x y u H2 _ (k1.later rs g1 g2 ex) (k2.now g1.rs g2 ey) eu λv H3 s p n=>?_;exact q v H3 ((g1.trans g2).trans<|Go.grow g2.rs s) ⟨p,n.mono (g1.trans g2).dm⟩
def VU(K:qc)(r:V->Hp->VK->Prop)(f:U->Qb U):Prop :=
 ∀(x:V) (a u:U) (H:Hp) (Q:VK),Rp K H x a->f a=ž u->(∀v H',dI H H'->Rp K H' v u->Nw H v u->Q v H')->r x H Q
def cn(f:U->Qb U)(ma:ME):ME:=λρ=>(ma ρ).bind λp=>(p.1.get p.2).bind λx=>(f x).bind λu=>ž (.u u,p.2)
def pT{r:V->Hp->VK->Prop}{f:U->Qb U}{ma:ME}(h:VU K r f)(ha:VE K ta ma):VE K (IU r ta) (cn f ma):=by
 intro ρ σ H a aj Q rs e q;obtain⟨⟨a1,aq⟩,e1,e⟩:=bQ e;have(x,ex,e):=bQ e;have(u,eu,e):=bQ e;cases e;refine ha ρ σ H a1 aq _ rs e1 λv1 H1 g1 k1=>?_;refine h _ x u H1 _ (k1.now rs g1 ex) eu λv H3 s p n=>?_;exact q v H3 (g1.trans<|Go.grow g1.rs s) ⟨p,n.mono g1.dm⟩
noncomputable def zo:MA:=λρ=>ž ([],ρ)
noncomputable def ze(me:ME)(ma:MA):MA:=λρ=>(me ρ).bind λp=>(ma p.2).bind λq=>ž (p.1::q.1,q.2)
def zm:kH K pX zo:=by
 intro ρ σ H as aj Q r e q;cases e;exact q [] H (Go.refl r) ⟨rfl,λi a e=>by simp at e,λi j x y e=>by simp at e⟩
def zb{t:TA}{me:ME}{ma:MA}(he:VE K te me)(ha:kH K t ma):kH K (oN te t) (ze me ma):=by
 intro ρ σ H as aj Q r e q;obtain⟨⟨a1,aq⟩,e1,e⟩:=bQ e;obtain⟨⟨ET,aD⟩,e2,e⟩:=bQ e;cases e;refine he ρ σ H a1 aq _ r e1 λv1 H1 g1 k1=>ha aq σ H1 ET _ _ g1.rs e2 λvs H2 g2 s2=>?_;have Jf:∀x,a1=.u x->x.own=ż->∃b c,v1=.ref b/\H1 b=ž c:=λx ea o=>by
  subst ea;have(b,c,eb,hb,_):=k1.1.own o;exact⟨b,c,eb,hb⟩
 have oth:∀(j:Nat) (y:U),ET[j]?=ž (.u y)->y.own=ż->∃b,vs[j]?=ž (.ref b)/\H1 b=Ž:=λj y ej o=>by
  have(v,ev,k):=s2.ar j _ ej;have(b,eb,hb):=k.2 o;subst eb;exact⟨b,ev,hb⟩
 have ne:∀(x:U) (j:Nat) (y:U),a1=.u x->x.own=ż->ET[j]?=ž (.u y)->y.own=ż->ž v1≠vs[j]?:=λx j y ea ox ej oy z=>by
  have(b,c,e1,h1):=Jf x ea ox;have(b',e2,h2):=oth j y ej oy;rw[e2,e1]at z;cases z;rw[h1]at h2;cases h2
 refine q (v1::vs) H2 (g1.trans g2) ⟨by simp[s2.len],λi a ei=>?_,λi j x y ei ej ox oy ev=>?_⟩
 .cases i with
  |zero=>
   cases(show ž a1=ž a from ei);refine⟨v1,rfl,?_⟩;cases a1 with
   |s k=>
    have(es,w,ew):=k1;exact⟨es,g2.shr.live k w ew⟩
   |u x=>exact⟨g2.eV g1.rs k1.1<|k1.2.qY r g1,k1.2⟩
  |succ i=>
   have(v,ev,k):=s2.ar i a ei;refine⟨v,ev,?_⟩;cases a with
   |s k'=>exact k
   |u x=>exact⟨k.1,k.2.mono g1.dm⟩
 .cases i with
  |zero=>
   cases j with
   |zero=>rfl
   |succ j=>exact absurd ev<|ne x j y (qw ei) ox ej oy
  |succ i=>
   cases j with
   |zero=>exact absurd ev.symm<|ne y i x (qw ej) oy ei ox
   |succ j=>exact congrArg (·+1)<|s2.ap i j x y ei ej ox oy ev
end
open Classical in
def pK(c:Int->Int->Prop)(g:Int->Int->D):U->U->Qb U
 |.d (.int i),.d (.int j)=>if c i j then ž (.d<|g i j)else Ž
 |_,_=>Ž
noncomputable def fI(g:Int->Int->D):U->U->Qb U
 |.d (.int i),.d (.int j)=>ž<|.d<|g i j
 |_,_=>Ž
section
def DF.int_inv{i:Int}(h:DF K H v (.int i)):v=.int i:=by cases h;rfl
def DF.str_inv(h:DF K H v (.str x)):v=.str x:=by cases h;rfl
def DF.bh{b:Bool}(h:DF K H v (.bool b)):v=.bl b:=by cases h;rfl
def DF.aH{ds:Qa D}(h:DF K H v (.tuple ds)):∃a xs,v=.ref a/\be K H a xs/\aQ K H xs ds:=by cases h with|tup h t=>exact⟨_,_,rfl,h,t⟩
def DF.lst_inv{ds:Qa D}(h:DF K H v (.list ds)):∃a xs,v=.ref a/\PL K H a xs/\aQ K H xs ds:=by cases h with|lst h t=>exact⟨_,_,rfl,h,t⟩
def DF.du{ds:Qa (D×D)}(h:DF K H v (.dict ds))(nx:ko ds=ż):∃a o ws,v=.ref a/\H a=ž (.aZ o<|.dT ws)/\jg K H ws ds:=by
 cases h with
 |jR h t=>exact⟨_,_,_,rfl,h,t⟩
 |exc h n t=>cases nx
 |obj h n t=>cases nx
def vO{c:Int->Int->Prop}{g:Int->Int->V}{gd:Int->Int->D}(h:∀i j H,DF K H (g i j)<|gd i j):VO K (rI c g) (pK c gd):=by
 intro x y a b u H Q ha hb e q;unfold pK at e;split at e
 .rename_i i j
  split at e
  .rename_i hc
   cases e;exact⟨i,j,DF.int_inv ha,DF.int_inv hb,hc,q _ _ (λ_ _ z=>z) (h i j H) Nw.data⟩
  .cases e
 .cases e
def vA{g:Int->Int->V}{gd:Int->Int->D}(h:∀i j H,DF K H (g i j)<|gd i j):VO K (ju g) (fI gd):=by
 intro x y a b u H Q ha hb e q;unfold fI at e;split at e
 .rename_i i j
  cases e;exact⟨i,j,DF.int_inv ha,DF.int_inv hb,q _ _ (λ_ _ z=>z) (h i j H) Nw.data⟩
 .cases e
def fD:=fI λi j=>.int<|i+j
def pS:=fI λi j=>.int<|i - j
def g7:=pK vH λi j=>.int<|i * j
def jD:=pK (λ_ j=>0 < j) λi j=>.int<|i % j
def xZ:=pK x8 λi j=>.int<|i / j
def Ci:=pK vP λi j=>.int<|i.fdiv j
def BR:=pK BX λi j=>.int<|i^j.toNat
def n9:=fI λi j=>.bool<|decide<|i < j
def rE:=fI λi j=>.bool<|decide<|i<=j
def xu:=fI λi j=>.bool<|decide<|j < i
def A7:=fI λi j=>.bool<|decide<|j<=i
def gm:VO K (ju λi j=>.int<|i+j) fD:=vA λi j H=>.int _
def t4:VO K (ju λi j=>.int<|i - j) pS:=vA λi j H=>.int _
def j7:VO K (rI vH λi j=>.int<|i * j) g7:=vO λi j H=>.int _
def mT:VO K (rI (λ_ j=>0 < j) λi j=>.int<|i % j) jD:=vO λi j H=>.int _
def NM:VO K (rI x8 λi j=>.int<|i / j) xZ:=vO λi j H=>.int _
def NL:VO K (rI vP λi j=>.int<|i.fdiv j) Ci:=vO λi j H=>.int _
def Vw:VO K (rI BX λi j=>.int<|i^j.toNat) BR:=vO λi j H=>.int _
def qC:VO K (ju λi j=>.bl<|decide<|i < j) n9:=vA λi j H=>.bl _
def tR:VO K (ju λi j=>.bl<|decide<|i<=j) rE:=vA λi j H=>.bl _
def Cg:VO K (ju λi j=>.bl<|decide<|j < i) xu:=vA λi j H=>.bl _
def Gd:VO K (ju λi j=>.bl<|decide<|j<=i) A7:=vA λi j H=>.bl _
noncomputable def kP:U->Qb U
 |.d (.int i)=>ž<|.d<|.int (-i)
 |_=>Ž
def qH:VU K (rU λi=>.int (-i)) kP:=by
 intro x a u H Q ha e q;unfold kP at e;split at e
 .rename_i i
  cases e;exact⟨i,DF.int_inv ha,q _ _ (λ_ _ z=>z) (.int _) Nw.data⟩
 .cases e
noncomputable def U.py:U->Qb D
 |.d x=>ž x
 |.l xs=>ž<|.list xs
 |_=>Ž
def aQ.dv{v:Qa V}{d:Qa D}(h:aQ K H v d):ϥ d=Ż->l8 K H v d :=
 aQ.rec (motive_1:=λv d _=>d.hasDict=Ż->DV K H v d) (motive_2:=λv d _=>ϥ d=Ż->l8 K H v d) (motive_3:=λ_ _ _=>True) (motive_4:=λ_ _ _=>True)
  (λ_=>.aO) (λb _=>.bl b) (λi _=>.int i) (λx _=>.str x) (λh _ t q=>.tup (be.sq h)<|t (by simpa [ϖ] using q)) (λh _ t q=>.lst h.sq<|t (by simpa [ϖ] using q))
  (λ_ _ _ q=>by simp[ϖ]at q) (λ_ _ _ _ q=>by simp[ϖ]at q) (λ_ _ _ _ q=>by simp[ϖ]at q)
  (λ_=>.nil) (λ_ _ a b q=>by
   simp only[ϥ,a5b]at q;exact .cons (a q.1)<|b q.2) trivial (λ_ _ _ _=>trivial) trivial (λ_ _ _ _=>trivial) h
def DF.dv{d:D}(h:DF K H v d)(q:d.hasDict=Ż):DV K H v d:=by
 cases aQ.dv (.cons h .nil) (by simp[ϥ,q]);assumption
def Rp.dv{u:U}{x:D}(h:Rp K H v u)(e:u.py=ž x)(q:x.hasDict=Ż):DV K H v x:=by
 cases u with
 |d y=>cases e;exact DF.dv h q
 |l xs=>
  cases e;have(a,us,rfl,h1,h2):=h;exact .lst (b9.of h1)<|aQ.dv h2 (by simpa [ϖ] using q)
 |t=>cases e
 |k=>cases e
 |o=>cases e
mutual
def yT:∀(x:D),x.canLay0=ż->x.hasDict=Ż
 |.none,_=>rfl
 |.bool _,_=>rfl
 |.int _,_=>rfl
 |.str _,_=>rfl
 |.list xs,h=>by simp only[ϖ];exact cq xs (by simpa [a1t] using h)
 |.tuple xs,h=>by simp only[ϖ];exact cq xs (by simpa [a1t] using h)
 |.dict _,h=>by simp[a1t]at h
def cq:∀(xs:Qa D),Ξ xs=ż->ϥ xs=Ż
 |[],_=>rfl
 |x::xs,h=>by
  simp only[Ξ,Ĵ]at h;simp only[ϥ,yT x h.1,cq xs h.2];rfl
end
def BQ(K:qc)(neg:Bool):R2:=λx y H Q=>∃a b,DV K H x a/\DV K H y b/\ϐ a=ż/\ϐ b=ż/\Q (.bl (if neg=ż then !PyData.eqv a b else a0p a b)) H
def MN{X:Cx}(K:qc)(hK:X.K=K){k:Nat}(hr:aG k X.A):bz X (Ĭ .Eq) (BQ K Ż):=by
 subst hK;intro pins s σ H x y v u Q I rx ry h;have(a,b,da,db,sa,sb,q):=h;have(as,ra):=DV.reads I da rx;have(bs,rb):=DV.reads I db ry;exact SeqAt.compareEq_shaped ra rb sa sb hr.units ⟨.bl _,H,I,rfl,q⟩
def CB{X:Cx}(K:qc)(hK:X.K=K){k:Nat}(hr:aG k X.A):bz X (Ĭ .NotEq) (BQ K ż):=by
 subst hK;intro pins s σ H x y v u Q I rx ry h;have(a,b,da,db,sa,sb,q):=h;have(as,ra):=DV.reads I da rx;have(bs,rb):=DV.reads I db ry;exact SeqAt.compareNe_shaped ra rb sa sb hr.units ⟨.bl _,H,I,rfl,q⟩
def oz(neg:Bool)(a b:U):Qb U:=a.py.bind λx=>b.py.bind λy=>if ϐ x=ż/\ϐ y=ż then ž (.d<|.bool (if neg=ż then !PyData.eqv x y else a0p x y))else Ž
def GJ(neg:Bool):VO K (BQ K neg) (oz neg):=by
 intro x y a b u H Q ha hb e q;have(dx,ex,e):=bQ e;have(dy,ey,e):=bQ e;split at e
 .rename_i hs
  cases e;exact⟨dx,dy,ha.dv ex<|yT _<|õ hs.1,hb.dv ey<|yT _<|õ hs.2,hs.1,hs.2,q _ _ (λ_ _ z=>z) (.bl _) Nw.data⟩
 .cases e
def aQ.cw{xs:Qa V}{ds:Qa D}{i:Int}{d:D}(h:aQ K H xs ds)(e:Internal.cw ds i=ž d):∃v,Internal.cw xs i=ž v/\DF K H v d:=by
 unfold Internal.cw at e ⊢;have(j,ej,e):=bQ e;have(v,ev,k):=h.get e;refine⟨v,?_,k⟩;rw[h.len,ej];exact ev
def iq:U->U->Qb U
 |.l ds,.d (.int i)=>(cw ds i).map .d
 |.d (.list ds),.d (.int i)=>(cw ds i).map .d
 |_,_=>Ž
def aS:U->U->Qb U
 |.d (.tuple ds),.d (.int i)=>(cw ds i).map .d
 |_,_=>Ž
def jJ:VO K (Fg K) iq:=by
 intro x y a b u H Q ha hb e q;unfold iq at e;split at e
 .rename_i ds i
  have(d,ed,rfl):=qq.mp e;have(p,us,rfl,h1,h2):=ha;have(v,ev,k):=h2.cw ed;exact⟨p,us,i,v,rfl,DF.int_inv hb,b9.of h1,ev,q _ _ (λ_ _ z=>z) k Nw.data⟩
 .rename_i ds i
  have(d,ed,rfl):=qq.mp e;have(p,us,rfl,h1,h2):=DF.lst_inv ha;have(v,ev,k):=h2.cw ed;exact⟨p,us,i,v,rfl,DF.int_inv hb,h1.sq,ev,q _ _ (λ_ _ z=>z) k Nw.data⟩
 .cases e
def zF:VO K (Ff K) aS:=by
 intro x y a b u H Q ha hb e q;unfold aS at e;split at e
 .rename_i ds i
  have(d,ed,rfl):=qq.mp e;have(p,us,rfl,h1,h2):=DF.aH ha;have(v,ev,k):=h2.cw ed;exact⟨p,us,i,v,rfl,DF.int_inv hb,(be.sq h1),ev,q _ _ (λ_ _ z=>z) k Nw.data⟩
 .cases e
end
section
variable{ρ aj:En}
def oS{c:HO}(h:H a=ž c)(m:Mo c)(o:HO):Kp H (upd H a o):=by
 refine⟨λb xs e=>?_,λb ob u e=>?_,λb x e=>?_⟩
 all_goals
  rw[zw<|yi e h (by rintro rfl;exact m)];exact e
def Go.own{u u':U}{o:HO}(r:Rs K ρ σ H)(e:ρ[i]?=ž (ž u))(ou:u.own=ż)(es:σ[i]?=ž (ž<|.ref a))(p:Rp K (upd H a o) (.ref a) u'):Go K ρ σ H (ρ.set i<|some u') (upd H a o):=by
 have hi:i < ρ.length:=(qk.mp e).1;have(c,hc,mc):=r.ow ⟨i,u,e,ou,es⟩;have kp:=oS hc mc o;refine⟨⟨by rw[Ĺ];exact r.len,λj w ej=>?_,λj k w w' ej ek oj ok rH=>?_⟩,λb ob hb n=>?_,⟨Ĺ,λj w ej oj=>?_,λj w ej=>?_⟩,λb hb=>?_⟩
 .by_cases hj:i=j
  .subst hj
   rw[ń hi]at ej;cases ej;exact⟨_,es,p⟩
  .rw[qB hj]at ej
   have(v,ev,q):=r.rep j w ej;refine⟨v,ev,q.kp kp λow b c' eb hb=>?_⟩;have ne:b≠a:=by
    rintro rfl;exact hj<|r.apart i j u w e ej ou ow (by rw[es,ev,eb])
   rw[zw ne];exact hb
 .have own:∀(j:Nat) (w:U),(ρ.set i<|some u')[j]?=ž (ž w)->w.own=ż->∃w',ρ[j]?=ž (ž w')/\w'.own=ż:=λj w ej oj=>by
   by_cases hj:i=j
   .subst hj;exact⟨u,e,ou⟩
   .rw[qB hj]at ej;exact⟨w,ej,oj⟩
  have(x,ex,ox):=own j w ej oj;have(y,ey,oy):=own k w' ek ok;exact r.apart j k x y ex ey ox oy rH
 .have ne:b≠a:=by
   rintro rfl;exact n ⟨i,u,e,ou,es⟩
  rw[zw ne];exact hb
 .by_cases hj:i=j
  .subst hj;exact⟨u,e,ou⟩
  .rw[qB hj]at ej;exact⟨w,ej,oj⟩
 .by_cases hj:i=j
  .subst hj;exact⟨u',Ą hi⟩
  .exact⟨w,by rw[qB hj];exact ej⟩
 .by_cases jw:b=a
  .subst jw;rw[zz]at hb;cases hb
  .rw[zw jw]at hb;exact hb
def Rp.km{u:U}(h:Rp K H v u)(o:u.own=ż):∃a,v=.ref a:=let ⟨a,_,e,_⟩:=h.own o;⟨a,e⟩
def Fz(K:qc)(H:Hp)(v:V)(H':Hp):Prop :=
 (∃a xs o,v=.ref a/\K.lookup a=Ž/\H a=ž (.lst xs)/\H'=upd H a (.aZ o<|.lst xs))\/(∃a xs o,v=.ref a/\K.lookup a=Ž/\H a=ž (.dT xs)/\H'=upd H a (.aZ o<|.dT xs))\/
  ((∀a,v=.ref a->(∀xs,H a≠ž (.lst xs))/\∀xs,H a≠ž (.dT xs))/\H'=H)
def IX(K:qc)(t:TE):TE:=λσ H Q=>t σ H λv H1=>∀H2,Fz K H1 v H2->Q v H2
def Inv.rD{X:Cx}{xs:Qa V}(I:Inv X pins σ H s)(e:H a=ž (.lst xs)):∃o,s.heap.get? a=ž o/\Inv X pins σ (upd H a<|.aZ o<|.lst xs) s:=by
 have ok:=(show bX X.prog X.w X.K H s.heap a (.lst xs) from I.aC a _ e);have(z,ai,n,r,h1):=id ok;refine⟨_,h1,?_⟩;have Jj:bX X.prog X.w X.K (upd H a<|.aZ {cls:=.type "list",data:=.seq ai.toArray n}<|.lst xs) s.heap a (.lst xs):=⟨z,ai,n,r,h1⟩;exact I.write (t':=s.toks) (h':=s.heap) (by rw[e];trivial) (.inl rfl) (λ_ _ _ q=>q) ⟨_,h1⟩ ⟨h1,Jj⟩
def zBZ{X:Cx}{t:TE}(h:PE X e t):PE X e (IX X.K t):=by
 intro pins s σ H Q I q;refine aF (h pins s σ H _ I q) λu s1 hZ=>?_;have(v,H1,I1,r,k):=hZ;have nk:∀a c,H1 a=ž c->X.K.lookup a=Ž:=λa c ea=>by
  cases q:X.K.lookup a with
  |none=>rfl
  |some o=>rw[(I1.bs a o<|I1.ok.mod.ku a o q).2]at ea;cases ea
 by_cases c1:∃a xs,v=.ref a/\H1 a=ž (.lst xs)
 .have(a,xs,ev,ea):=c1
  have(o,_,I2):=I1.rD ea;exact⟨v,_,I2,r,k _<|.inl ⟨a,xs,o,ev,nk a _ ea,ea,rfl⟩⟩
 .by_cases c2:∃a xs,v=.ref a/\H1 a=ž (.dT xs)
  .have(a,xs,ev,ea):=c2
   have(o,_,I2):=I1.freeze ea;exact⟨v,_,I2,r,k _<|.inr<|.inl ⟨a,xs,o,ev,nk a _ ea,ea,rfl⟩⟩
  .exact⟨v,H1,I1,r,k _<|.inr<|.inr ⟨λa ev=>⟨λxs z=>c1 ⟨a,xs,ev,z⟩,λxs z=>c2 ⟨a,xs,ev,z⟩⟩,rfl⟩⟩
def jl{X:Cx}{t:TE}(h:Wr (PE X e t))(hK:X.K=K:=by rfl):Wr (PE X e<|IX K t):=hK▸⟨zBZ h.run⟩
def U.fz:U->Qb D
 |.d x=>ž x
 |.l xs=>ž<|.list xs
 |.t kvs=>ž<|.dict<|kvs.map λp=>(jN p.1,p.2)
 |.k _=>Ž
 |.o _ _=>Ž
def h9(me:ME):ME:=λρ=>(me ρ).bind λp=>(p.1.get p.2).bind λu=>u.fz.bind λx=>ž (.u<|.d x,match p.1 with |.s i=>p.2.set i (ž<|.d x) |.u _=>p.2)
def Vv{kvs:Qa (Qa Key×D)}(h:fA K H ws kvs):jg K H ws (kvs.map λp=>(jN p.1,p.2)):=by
 induction h with
 |nil=>exact .nil
 | @cons p q ps qs hq t ih=>
  have(k,v):=p;have(k',d):=q;have(e,hd):=hq;cases(show k=k' from e);exact .cons hd ih
def Fz.rp{u:U}{x:D}(h:Fz K H v H')(p:Rp K H v u)(e:u.fz=ž x):DF K H' v x/\(u.own=Ż->H'=H)/\(u.own=ż->∃a o,v=.ref a/\H'=upd H a o):=by
 cases u with
 |d y=>
  cases e;have k:H'=H:=by
   rcases h with⟨a,xs,o,rfl,nk,ea,_⟩|⟨a,xs,o,rfl,nk,ea,_⟩|⟨_,rfl⟩
   .exfalso
    cases(show DF K H _ _ from p)with
    |tup h _=>
     rcases h with h|⟨ob,ai,n,hk,_⟩
     .rw[ea]at h;cases h
     .rw[nk]at hk;cases hk
    |lst h _=>
     rcases h with⟨o,h⟩|⟨ob,ai,n,hk,_⟩
     .rw[ea]at h;cases h
     .rw[nk]at hk;cases hk
    |jR h _=>rw[ea]at h;cases h
    |exc h _ _=>have(_,h,_):=h;rw[ea]at h;cases h
    |obj h _ _=>rw[ea]at h;cases h
   .exfalso
    cases(show DF K H _ _ from p)with
    |tup h _=>
     rcases h with h|⟨ob,ai,n,hk,_⟩
     .rw[ea]at h;cases h
     .rw[nk]at hk;cases hk
    |lst h _=>
     rcases h with⟨o,h⟩|⟨ob,ai,n,hk,_⟩
     .rw[ea]at h;cases h
     .rw[nk]at hk;cases hk
    |jR h _=>rw[ea]at h;cases h
    |exc h _ _=>have(_,h,_):=h;rw[ea]at h;cases h
    |obj h _ _=>rw[ea]at h;cases h
   .rfl
  subst k;exact⟨p,λ_=>rfl,λz=>by cases z⟩
 |l xs=>
  cases e;have(a,us,rfl,ea,ds):=p;rcases h with⟨a',mV,o,ev,_,ij,rfl⟩|⟨a',mV,o,ev,_,ij,_⟩|⟨z,_⟩
  .cases ev
   rw[ea]at ij;cases ij;exact⟨.lst (.inl ⟨o,zz⟩)<|ds.kp<|oS ea trivial _,(λz=>by cases z),λ_=>⟨a,_,rfl,rfl⟩⟩
  .cases ev
   rw[ea]at ij;cases ij
  .exact absurd ea ((z a rfl).1 us)
 |t xs=>
  cases e;have(a,us,rfl,ea,ds):=p;rcases h with⟨a',mV,o,ev,_,ij,_⟩|⟨a',mV,o,ev,_,ij,rfl⟩|⟨z,_⟩
  .cases ev
   rw[ea]at ij;cases ij
  .cases ev
   rw[ea]at ij;cases ij;exact⟨.jR zz<|Vv<|ds.kp<|oS ea trivial _,(λz=>by cases z),λ_=>⟨a,_,rfl,rfl⟩⟩
  .exact absurd ea ((z a rfl).2 us)
 |k xs=>cases e
 |o=>cases e
def jk{t:TE}{m:ME}(h:VE K t m):VE K (IX K t) (h9 m):=by
 intro ρ σ H a aj Q r e q;obtain⟨⟨b,aq⟩,e1,e⟩:=bQ e;have(u,eu,e):=bQ e;have(x,ex,e):=bQ e;cases e;refine h ρ σ H b aq _ r e1 λv H1 g1 k1=>λH2 fz=>?_;have p:=k1.now r g1 eu;have(d,f1,f2):=fz.rp p ex;cases b with
 |s i=>
  have ei:aq[i]?=ž (ž u):=by
   have z:(aq[i]?).join=ž u:=eu;cases q:aq[i]? with
   |none=>rw[q]at z;cases z
   |some o=>rw[q]at z;cases o with
    |none=>cases z
    |some w=>cases z;rfl
  have hi:i < aq.length:=(qk.mp ei).1
  by_cases ou:u.own=ż
  .have(a,o,rfl,rfl):=f2 ou
   exact q _ _ (g1.trans<|Go.own (u':=.d x) g1.rs ei ou k1.1 d) ⟨d,Nw.data⟩
  .have qZ:u.own=Ż:=by simpa using ou
   cases f1 qZ;cases u with
   |d y=>
    cases ex;have es:aq.set i (ž<|.d x)=aq:=by
     apply a0M;intro j
     by_cases hj:i=j
     .subst hj;rw[ń hi,ei]
     .rw[qB hj]
    show Q v H1;refine q v H1 ?_ ⟨d,Nw.data⟩;show Go K ρ σ H (aq.set i<|some<|.d x) H1;rw[es];exact g1
   |l=>cases qZ
   |t=>cases qZ
   |k=>cases qZ
   |o=>cases qZ
 |u w=>
  cases(show ž w=ž u from eu)
  by_cases ou:u.own=ż
  .have(a,o,rfl,rfl):=f2 ou
   have(a',ij,Jp):=k1.2 ou;cases ij;obtain⟨c,hc,mc⟩:∃c,H1 a=ž c/\Mo c:=by
    have(b,c,eb,hb,m):=p.own ou;cases eb;exact⟨c,hb,m⟩
   have nw:¬Ow aq σ a:=by
    have(b,eb,nb):=k1.2.qY r g1 ou;cases eb;exact nb
   have kp:=oS hc mc o;refine q _ _ ⟨⟨g1.rs.len,λj y ej=>?_,g1.rs.apart⟩,λb ob hb n=>?_,g1.shr,λb hb=>?_⟩ ⟨d,Nw.data⟩
   .have(v,ev,p'):=g1.rs.rep j y ej
    refine⟨v,ev,p'.kp kp λoy b c' eb hb=>?_⟩;have ne:b≠a:=by
     rintro rfl;subst eb;exact nw ⟨j,y,ej,oy,ev⟩
    rw[zw ne];exact hb
   .have ne:b≠a:=by
     rintro rfl;rw[Jp]at hb;cases hb
    rw[zw ne];exact g1.fr b ob hb n
   .by_cases jw:b=a
    .subst jw;exact Jp
    .rw[zw jw]at hb;exact g1.dm b hb
  .have qZ:u.own=Ż:=by simpa using ou
   cases f1 qZ;exact q v H1 g1 ⟨d,Nw.data⟩
end
section
variable{ρ aj:En}
def bY(ρ:En):Qa Ar->Qb (Qa U)
 |[]=>ž []
 |a::as=>(a.get ρ).bind λu=>(bY ρ as).bind λus=>ž<|u::us
noncomputable def kU:Qa U->Qb (Qa D)
 |[]=>ž []
 |.d x::us=>(kU us).bind λxs=>ž<|x::xs
 |_::_=>Ž
def EZ(K:qc)(H:Hp):Qa V->Qa U->Prop:=Γ λv u=>Rp K H v u
def Vu{as:Qa Ar}{us:Qa U}(len:vs.length=as.length)(h:∀(i:Nat) (a:Ar),as[i]?=ž a->∃v,vs[i]?=ž v/\∀u,a.get ρ=ž u->Rp K H v u)(e:bY ρ as=ž us):EZ K H vs us:=by
 induction as generalizing vs us with
 |nil=>
  cases e;cases vs with
  |nil=>exact .nil
  |cons=>simp at len
 |cons a as ih=>
  have(u,eu,e):=bQ e;have(nH,A8,e):=bQ e;cases e;cases vs with
  |nil=>simp at len
  |cons v vs=>
   have(v',ev,k):=h 0 a rfl;cases(show ž v=ž v' from ev);exact .cons (k u eu)<|ih (by simpa using len) (λi b eb=>h (i+1) b eb) A8
def Fc.pj{as:Qa Ar}{us:Qa U}(r:Rs K ρ σ H)(g:Go K ρ σ H aj H')(s:Fc K aj σ H H' vs as)(e:bY aj as=ž us):EZ K H' vs us :=
 Vu s.len (λi a ea=>let ⟨v,ev,k⟩:=s.ar i a ea;⟨v,ev,λu eu=>k.now r g eu⟩) e
def Gw{us:Qa U}{ds:Qa D}(h:EZ K H vs us)(e:kU us=ž ds):aQ K H vs ds:=by
 induction h generalizing ds with
 |nil=>cases e;exact .nil
 | @cons v u vs us hv t ih=>
  cases u with
  |d x=>
   have(xs,ex,e):=bQ (show(kU us).bind (λxs=>ž<|x::xs)=ž ds from e);cases e;exact .cons hv<|ih ex
  |l=>cases e
  |t=>cases e
  |k=>cases e
  |o=>cases e
def cD(ma:MA):ME:=λρ=>(ma ρ).bind λp=>(bY p.2 p.1).bind λus=>(kU us).bind λds=>if ds.length<=Ĕ then ž (.u<|.d<|.tuple ds,p.2)else Ž
def jC(ma:MA):ME:=λρ=>(ma ρ).bind λp=>(bY p.2 p.1).bind λus=>(kU us).bind λds=>if ds.length<=Ĕ then ž (.u<|.l ds,p.2)else Ž
def cR{t:TA}{m:MA}(h:kH K t m):VE K (Fh t) (cD m):=by
 intro ρ σ H a aj Q r e q;obtain⟨⟨as,aq⟩,e1,e⟩:=bQ e;have(us,eu,e):=bQ e;have(ds,ed,e):=bQ e;split at e
 .rename_i hz
  cases e;refine h ρ σ H as _ _ r e1 λvs H1 g1 s1=>?_;have dd:=Gw (s1.pj r g1 eu) ed;refine⟨by rw[dd.len];exact hz,λp hp=>?_⟩;have sm:=iz hp (.tup vs);exact q _ _ (g1.trans<|Go.grow g1.rs sm) ⟨.tup (.inl zz)<|dd.kp sm.kp,Nw.data⟩
 .cases e
def mM{t:TA}{m:MA}(h:kH K t m):VE K (BI t) (jC m):=by
 intro ρ σ H a aj Q r e q;obtain⟨⟨as,aq⟩,e1,e⟩:=bQ e;have(us,eu,e):=bQ e;have(ds,ed,e):=bQ e;split at e
 .rename_i hz
  cases e;refine h ρ σ H as _ _ r e1 λvs H1 g1 s1=>?_;have dd:=Gw (s1.pj r g1 eu) ed;refine⟨by rw[dd.len];exact hz,λp hp=>?_⟩;have sm:=iz hp (.lst vs);exact q _ _ (g1.trans<|Go.grow g1.rs sm) ⟨⟨p,_,rfl,zz,dd.kp sm.kp⟩,λ_=>⟨p,rfl,g1.dm p hp⟩⟩
 .cases e
def VC(K:qc)(r:Qa V->Hp->VK->Prop)(f:Qa U->Qb U):Prop :=
 ∀(vs:Qa V) (us:Qa U) (u:U) (H:Hp) (Q:VK),EZ K H vs us->f us=ž u->(∀v H',dI H H'->Rp K H' v u->Nw H v u->Q v H')->r vs H Q
def bW(f:Qa U->Qb U)(ma:MA):ME:=λρ=>(ma ρ).bind λp=>(bY p.2 p.1).bind λus=>(f us).bind λu=>ž (.u u,p.2)
def cy{r:Qa V->Hp->VK->Prop}{f:Qa U->Qb U}{t:TA}{m:MA}(hc:VC K r f)(h:kH K t m):VE K (oZ r t) (bW f m):=by
 intro ρ σ H a aj Q rs e q;obtain⟨⟨as,aq⟩,e1,e⟩:=bQ e;have(us,eu,e):=bQ e;have(u,ef,e):=bQ e;cases e;refine h ρ σ H as _ _ rs e1 λvs H1 g1 s1=>hc vs us u H1 _ (s1.pj rs g1 eu) ef λv H2 s p n=>?_;exact q v H2 (g1.trans<|Go.grow g1.rs s) ⟨p,n.mono g1.dm⟩
noncomputable def f1(f:U->Qb U):Qa U->Qb U
 |[u]=>f u
 |_=>Ž
def rR{r:Qa V->Hp->VK->Prop}{f:U->Qb U}(h:∀(v:V) (a u:U) (H:Hp) (Q:VK),Rp K H v a->f a=ž u->(∀v H',dI H H'->Rp K H' v u->Nw H v u->Q v H')->r [v] H Q):VC K r (f1 f):=by
 intro vs us u H Q hr e q;cases hr with
 |nil=>cases e
 |cons h1 t=>
  cases t with
  |nil=>exact h _ _ _ _ _ h1 e q
  |cons=>cases e
noncomputable def U.items:U->Qb (Qa D)
 |.d (.tuple xs)=>ž xs
 |.d (.list xs)=>ž xs
 |.l xs=>ž xs
 |_=>Ž
def Rp.items{u:U}{xs:Qa D}(h:Rp K H v u)(e:u.items=ž xs):∃p ys,v=.ref p/\(b9 K H p ys\/bI K H p ys)/\aQ K H ys xs:=by
 cases u with
 |d x=>
  cases x with
  |tuple ds=>cases e;have(a,ys,rfl,h1,h2):=DF.aH h;exact⟨a,ys,rfl,.inr<|(be.sq h1),h2⟩
  |list ds=>cases e;have(a,ys,rfl,h1,h2):=DF.lst_inv h;exact⟨a,ys,rfl,.inl h1.sq,h2⟩
  |_=>cases e
 |l ds=>cases e;have(a,ys,rfl,h1,h2):=h;exact⟨a,ys,rfl,.inl<|b9.of h1,h2⟩
 |t=>cases e
 |k=>cases e
 |o=>cases e
def dQ(u:U):Qb U:=u.items.map λxs=>.d<|.int xs.length
def fG:VC K (SE K) (f1 dQ):=rR λv a u H Q h e q=>by
 have(xs,ex,rfl):=qq.mp e;have(p,ys,rfl,s,d):=h.items ex;exact⟨p,ys,rfl,s,q _ _ (λ_ _ z=>z) (by rw[d.len];exact .int _) Nw.data⟩
def rZ(u:U):Qb U:=u.items.map λxs=>.d<|.tuple xs
def wJ:VC K (OR K) (f1 rZ):=rR λv a u H Q h e q=>by
 have(xs,ex,rfl):=qq.mp e;cases a with
 |d x=>
  cases x with
  |tuple ds=>
   cases ex;have(a,ys,rfl,h1,h2):=DF.aH h;exact⟨a,ys,rfl,.inr ⟨(be.sq h1),q _ _ (λ_ _ z=>z) (.tup h1 h2) Nw.data⟩⟩
  |list ds=>
   cases ex;have(a,ys,rfl,h1,h2):=DF.lst_inv h;refine⟨a,ys,rfl,.inl ⟨h1.sq,λl hl=>?_⟩⟩;have sm:=iz hl (.tup ys);exact q _ _ sm (.tup (.inl zz)<|h2.kp sm.kp) Nw.data
  |_=>cases ex
 |l ds=>
  cases ex;have(a,ys,rfl,h1,h2):=h;refine⟨a,ys,rfl,.inl ⟨b9.of h1,λl hl=>?_⟩⟩;have sm:=iz hl (.tup ys);exact q _ _ sm (.tup (.inl zz)<|h2.kp sm.kp) Nw.data
 |t=>cases ex
 |k=>cases ex
 |o=>cases ex
def vz:U->Qb U
 |.d (.int i)=>ž<|.d<|.int (if i < 0 then -i else i)
 |_=>Ž
def Gv:VC K (λxs H Q=>∃i,xs=[.int i]/\Q (.int (if i < 0 then -i else i)) H) (f1 vz):=rR λv a u H Q h e q=>by
 unfold vz at e;split at e
 .rename_i i
  cases e;cases DF.int_inv h;exact⟨i,rfl,q _ _ (λ_ _ z=>z) (.int _) Nw.data⟩
 .cases e
def xY:U->Qb U
 |.d (.int i)=>ž<|.d<|.int i
 |.d (.bool k)=>ž<|.d<|.int (if k then 1 else 0)
 |_=>Ž
def NK:VC K (λxs H Q=>(∃i,xs=[.int i]/\Q (.int i) H)\/∃k,xs=[.bl k]/\Q (.int (if k then 1 else 0)) H) (f1 xY):=rR λv a u H Q h e q=>by
 unfold xY at e;split at e
 .rename_i i
  cases e;cases DF.int_inv h;exact .inl ⟨i,rfl,q _ _ (λ_ _ z=>z) (.int _) Nw.data⟩
 .rename_i i
  cases e;cases DF.bh h;exact .inr ⟨i,rfl,q _ _ (λ_ _ z=>z) (.int _) Nw.data⟩
 .cases e
def Cf:Qa U->Qb U
 |[.d<|.int i,.d<|.int j]=>ž<|.d<|.int (if j > i then j else i)
 |_=>Ž
def YQ:VC K (λxs H Q=>∃i j,xs=[.int i,.int j]/\Q (.int (if j > i then j else i)) H) Cf:=by
 intro vs us u H Q hr e q;unfold Cf at e;split at e
 .rename_i i j
  cases e;cases hr with
  |cons h1 t=>
   cases t with
   |cons h2 t=>
    cases t;cases DF.int_inv h1;cases DF.int_inv h2;exact⟨i,j,rfl,q _ _ (λ_ _ z=>z) (.int _) Nw.data⟩
 .cases e
def Gi:Qa D->Qb (Qa Int)
 |[]=>ž []
 |.int i::xs=>(Gi xs).bind λis=>ž<|i::is
 |_::_=>Ž
def mB(me:ME):MT:=λρ=>(me ρ).bind λp=>(p.1.get p.2).bind λu=>match u with |.d (.bool b)=>ž (b,p.2) |_=>Ž
def dB{t:TE}{m:ME}(h:VE K t m):VT K (tB t) (mB m):=by
 intro ρ σ H b aj Q r e q;obtain⟨⟨a,aq⟩,e1,e⟩:=bQ e;have(u,eu,e):=bQ e;split at e
 .cases e
  refine h ρ σ H a _ _ r e1 λv H1 g1 k1=>?_;exact⟨_,DF.bh<|k1.now r g1 eu,q _ g1⟩
 .cases e
def zG{t:TE}{m:ME}(h:VE K t m):VT K (tO t) (mB m):=dB h
noncomputable def vw(ma mb:MT):MT:=λρ=>(ma ρ).bind λp=>if p.1=ż then mb p.2 else ž (Ż,p.2)
noncomputable def eI(ma mb:MT):MT:=λρ=>(ma ρ).bind λp=>if p.1=ż then ž (ż,p.2)else mb p.2
noncomputable def dA(ma:MT):MT:=λρ=>(ma ρ).bind λp=>ž (!p.1,p.2)
def Gu{ta tb:TT}{ma mb:MT}(ha:VT K ta ma)(hb:VT K tb mb):VT K (Fy ta tb) (vw ma mb):=by
 intro ρ σ H b aj Q r e q;obtain⟨⟨c,aq⟩,e1,e⟩:=bQ e;refine ha ρ σ H c aq _ r e1 λH1 g1=>?_;dsimp only at e;split at e
 .rename_i hc
  rw[a6P hc];exact hb aq σ H1 b aj _ g1.rs e λH2 g2=>q H2<|g1.trans g2
 .rename_i hc
  rw[a6Q hc];cases e;exact q H1 g1
def fK{ta tb:TT}{ma mb:MT}(ha:VT K ta ma)(hb:VT K tb mb):VT K (IW ta tb) (eI ma mb):=by
 intro ρ σ H b aj Q r e q;obtain⟨⟨c,aq⟩,e1,e⟩:=bQ e;refine ha ρ σ H c aq _ r e1 λH1 g1=>?_;dsimp only at e;split at e
 .rename_i hc
  rw[a6P hc];cases e;exact q H1 g1
 .rename_i hc
  rw[a6Q hc];exact hb aq σ H1 b aj _ g1.rs e λH2 g2=>q H2<|g1.trans g2
def dJ{ta:TT}{ma:MT}(ha:VT K ta ma):VT K (Fx ta) (dA ma):=by
 intro ρ σ H b aj Q r e q;obtain⟨⟨c,aq⟩,e1,e⟩:=bQ e;cases e;exact ha ρ σ H c _ _ r e1 λH1 g1=>q H1 g1
def jH(ma mb:ME):ME:=λρ=>(mB ma ρ).bind λp=>if p.1=ż then mb p.2 else ž (.u<|.d<|.bool Ż,p.2)
def BP(ma mb:ME):ME:=λρ=>(mB ma ρ).bind λp=>if p.1=ż then ž (.u<|.d<|.bool ż,p.2)else mb p.2
def SM{a:Ar}{H1 H2:Hp}{aq aD:En}(g1:Go K ρ σ H aq H1)(h:oA K aD σ H1 H2 v a):oA K aD σ H H2 v a:=by
 cases a with
 |s i=>exact h
 |u x=>exact⟨h.1,h.2.mono g1.dm⟩
def mR{ma mb:ME}(ha:VE K ta ma)(hb:VE K tb mb):VE K (Gc ta tb) (jH ma mb):=by
 intro ρ σ H a aj Q r e q;obtain⟨⟨c,aq⟩,e1,e⟩:=bQ e;refine dB ha ρ σ H c aq (λc H1=>if c=ż then tb σ H1 Q else Q (.bl Ż) H1) r e1 λH1 g1=>?_;dsimp only at e;split at e
 .rename_i hc
  rw[a6P hc];exact hb aq σ H1 a aj _ g1.rs e λv H2 g2 k=>q v H2 (g1.trans g2)<|SM g1 k
 .rename_i hc
  rw[a6Q hc];cases e;exact q _ H1 g1 ⟨.bl _,Nw.data⟩
def zB1{ma mb:ME}(ha:VE K ta ma)(hb:VE K tb mb):VE K (Fw ta tb) (BP ma mb):=by
 intro ρ σ H a aj Q r e q;obtain⟨⟨c,aq⟩,e1,e⟩:=bQ e;refine dB ha ρ σ H c aq (λc H1=>if c=ż then Q (.bl ż) H1 else tb σ H1 Q) r e1 λH1 g1=>?_;dsimp only at e;split at e
 .rename_i hc
  rw[a6P hc];cases e;exact q _ H1 g1 ⟨.bl _,Nw.data⟩
 .rename_i hc
  rw[a6Q hc];exact hb aq σ H1 a aj _ g1.rs e λv H2 g2 k=>q v H2 (g1.trans g2)<|SM g1 k
def vN(ma:ME):ME:=λρ=>(mB ma ρ).bind λp=>ž (.u<|.d<|.bool (!p.1),p.2)
def Gs{ma:ME}(ha:VE K ta ma):VE K (Gb ta) (vN ma):=by
 intro ρ σ H a aj Q r e q;obtain⟨⟨c,aq⟩,e1,e⟩:=bQ e;cases e;exact dB ha ρ σ H c _ (λc H1=>Q (.bl (!c)) H1) r e1 λH1 g1=>q _ H1 g1 ⟨.bl _,Nw.data⟩
def U.Aj:U->Qb Bool
 |.d .none=>ž Ż
 |.d (.bool b)=>ž b
 |.d (.int i)=>ž<|i != 0
 |.d (.str x)=>if x.length<=Ĕ then ž ((x.length:Int) != 0)else Ž
 |.d (.tuple xs)=>ž (!xs.isEmpty)
 |.d (.list xs)=>ž (!xs.isEmpty)
 |.l xs=>ž (!xs.isEmpty)
 |_=>Ž
def H9{ys:Qa V}{xs:Qa D}(h:aQ K H ys xs):(!xs.isEmpty)=!ys.isEmpty:=by cases h<;>rfl
def BO(ma:ME):MT:=λρ=>(ma ρ).bind λp=>(p.1.get p.2).bind λu=>u.Aj.bind λb=>ž (b,p.2)
def Vt{ma:ME}(ha:VE K ta ma):VT K (SG K ta) (BO ma):=by
 intro ρ σ H b aj Q r e q;obtain⟨⟨a,aq⟩,e1,e⟩:=bQ e;have(u,eu,e):=bQ e;have(c,ec,e):=bQ e;cases e;refine ha ρ σ H a _ _ r e1 λv H1 g1 k1=>⟨_,?_,q _ g1⟩;have p:=k1.now r g1 eu;cases u with
 |d x=>
  cases(show DF K H1 v x from p)with
  |aO=>cases ec;rfl
  |bl=>cases ec;rfl
  |int=>cases ec;rfl
  |str x=>
   unfold U.Aj at ec;dsimp only at ec;split at ec
   .cases ec;exact⟨by assumption,rfl⟩
   .cases ec
  |tup h t=>cases ec;exact .inr<|.inl ⟨_,(be.sq h),H9 t⟩
  |lst h t=>cases ec;exact .inl ⟨_,h.sq,H9 t⟩
  |jR=>cases ec
  |exc=>cases ec
  |obj=>cases ec
 |l xs=>cases ec;have(a,us,rfl,h1,h2):=p;exact .inl ⟨_,b9.of h1,H9 h2⟩
 |t=>cases ec
 |k=>cases ec
 |o=>cases ec
end
section
variable{ρ aj:En}
abbrev FD:=Qa U->Qb (U×Qa U)
noncomputable def sm(xs:Qa U):En:=xs.map ž
def e8(vs:Qa V):St:=vs.map ž
def qX(K:qc)(n:Nat)(f:FD):Sp:=λvs H Q _=>∃us r outs,us.length=n/\Rs K (sm us) (e8 vs) H/\f us=ž (r,outs)/\
 ∀v H',Go K (sm us) (e8 vs) H (sm outs) H'->Rp K H' v r->Nw H v r->Q v H'
noncomputable def wb:En->Qa Ar->Qa U->En
 |ρ,.s j::as,o::os=>wb (ρ.set j<|some o) as os
 |ρ,.u _::as,_::os=>wb ρ as os
 |ρ,_,_=>ρ
def gI(ρ:En):Qa Ar->Bool
 |[]=>ż
 |.s j::as=>(match ρ[j]? with|some (ž u)=>!u.own || !(as.any λa=>match a with |.s k=>decide (k=j) |_=>Ż) |_=>ż) && gI ρ as
 |.u _::as=>gI ρ as
def aR(f:FD)(ma:MA):ME:=λρ=>(ma ρ).bind λp=>if gI p.2 p.1=ż then(bY p.2 p.1).bind λus=>(f us).bind λo=>ž (.u o.1,wb p.2 p.1 o.2)else Ž
def wI:∀{as:Qa Ar} {us:Qa U},bY ρ as=ž us->us.length=as.length
 |[],us,e=>by cases e;rfl
 |a::as,us,e=>by
  have(u,eu,e):=bQ e;have(nH,A8,e):=bQ e;cases e;simp[wI A8]
def NJ:∀{as:Qa Ar} {us:Qa U} {i:Nat} {a:Ar},bY ρ as=ž us->as[i]?=ž a->∃u,us[i]?=ž u/\a.get ρ=ž u
 |[],us,i,a,e,ea=>by simp at ea
 |b::as,us,i,a,e,ea=>by
  have(u,eu,e):=bQ e;have(nH,A8,e):=bQ e;cases e;cases i with
  |zero=>cases(show ž b=ž a from ea);exact⟨u,rfl,eu⟩
  |succ i=>exact NJ (i:=i) A8 ea
def HA:∀{as:Qa Ar} {us:Qa U} {i:Nat} {u:U},bY ρ as=ž us->us[i]?=ž u->∃a,as[i]?=ž a/\a.get ρ=ž u:=λ{as us i u} e eu=>by
 have hi:i < as.length:=by rw[<-wI e];exact(qk.mp eu).1
 have(u',e1,e2):=NJ e (ql hi);rw[eu]at e1;cases e1;exact⟨_,ql hi,e2⟩
def Lr{u:U}(e:Ar.get ρ (.s j)=ž u):ρ[j]?=ž (ž u):=by
 have z:(ρ[j]?).join=ž u:=e;cases q:ρ[j]? with
 |none=>rw[q]at z;cases z
 |some o=>
  rw[q]at z;cases o with
  |none=>cases z
  |some w=>cases z;rfl
def NH:∀{as:Qa Ar} {p q j:Nat} {u:U},gI ρ as=ż->as[p]?=ž (.s j)->as[q]?=ž (.s j)->ρ[j]?=ž (ž u)->u.own=ż->p=q
 |[],p,q,j,u,_,e,_,_,_=>by simp at e
 |a::as,p,q,j,u,d,ep,eq,ej,ou=>by
  have dd:gI ρ as=ż:=by
   cases a with
   |s k=>unfold gI at d;rw[Ĵ]at d;exact d.2
   |u=>exact d
  have Au:∀{q':Nat},a=.s j->as[q']?=ž (.s j)->False:=λ{q'} ea EN=>by
   subst ea;unfold gI at d;rw[Ĵ,ej]at d;have d1:=d.1;dsimp only at d1;rw[ou]at d1;have m:(as.any λa=>match a with |.s k=>decide (k=j) |_=>Ż)=ż:=î.mpr ⟨.s j,Ì EN,by simp⟩;rw[m]at d1;cases d1
  cases p with
  |zero=>
   cases q with
   |zero=>rfl
   |succ q=>exact(Au (qw ep) eq).elim
  |succ p=>
   cases q with
   |zero=>exact(Au (qw eq) ep).elim
   |succ q=>exact congrArg (·+1)<|NH dd ep eq ej ou
def iu{us:Qa U}{u:U}:(sm us)[i]?=ž (ž u)↔us[i]?=ž u:=by
 unfold sm;rw[ĝ];cases us[i]?<;>simp
def wq:(e8 vs)[i]?=ž (ž v)↔vs[i]?=ž v:=by
 unfold e8;rw[ĝ];cases vs[i]?<;>simp
def Ce:∀{as:Qa Ar} {os:Qa U} {ρ:En} {j:Nat} {w:U},(wb ρ as os)[j]?=ž (ž w)->as.length=os.length->(∃p:Nat,as[p]?=ž (Ar.s j)/\os[p]?=ž w)\/(ρ[j]?=ž (ž w)/\∀p:Nat,as[p]?≠ž (Ar.s j))
 |[],os,ρ,j,w,e,_=>.inr ⟨by cases os<;>exact e,λp z=>by simp at z⟩
 |a::as,[],ρ,j,w,e,l=>by simp at l
 |.u x::as,o::os,ρ,j,w,e,l=>by
  rcases Ce (as:=as) (os:=os) (ρ:=ρ) (show(wb ρ as os)[j]?=ž (ž w) from e) (by simpa using l)with⟨p,h1,h2⟩|⟨h1,h2⟩
  .exact .inl ⟨p+1,h1,h2⟩
  .refine .inr ⟨h1,λp z=>?_⟩
   cases p with
   |zero=>cases(show ž (Ar.u x)=ž (.s j) from z)
   |succ p=>exact h2 p z
 |.s k::as,o::os,ρ,j,w,e,l=>by
  rcases Ce (as:=as) (os:=os) (ρ:=ρ.set k (ž o)) (show(wb (ρ.set k<|some o) as os)[j]?=ž (ž w) from e) (by simpa using l)with⟨p,h1,h2⟩|⟨h1,h2⟩
  .exact .inl ⟨p+1,h1,h2⟩
  .by_cases hk:k=j
   .subst hk
    have hl:k < (ρ.set k<|some o).length:=(qk.mp h1).1;rw[Ĺ]at hl;rw[ń hl]at h1;exact .inl ⟨0,rfl,by cases h1;rfl⟩
   .rw[qB hk]at h1
    refine .inr ⟨h1,λp z=>?_⟩;cases p with
    |zero=>cases(show ž (Ar.s k)=ž (.s j) from z);exact hk rfl
    |succ p=>exact h2 p z
def CA:∀(ρ:En) (as:Qa Ar) (os:Qa U),(wb ρ as os).length=ρ.length
 |ρ,[],os=>by cases os<;>rfl
 |ρ,.s k::as,[]=>rfl
 |ρ,.u k::as,[]=>rfl
 |ρ,.s k::as,o::os=>by show(wb (ρ.set k<|some o) as os).length=_;rw[CA];exact Ĺ
 |ρ,.u k::as,o::os=>CA ρ as os
def Di:∀{as:Qa Ar} {os:Qa U} {ρ:En} {j:Nat} {w:U},ρ[j]?=ž (ž w)->∃w',(wb ρ as os)[j]?=ž (ž w')
 |[],os,ρ,j,w,e=>⟨w,by cases os<;>exact e⟩
 |.s k::as,[],ρ,j,w,e=>⟨w,e⟩
 |.u k::as,[],ρ,j,w,e=>⟨w,e⟩
 |.u k::as,o::os,ρ,j,w,e=>Di (as:=as) (os:=os) e
 |.s k::as,o::os,ρ,j,w,e=>by
  by_cases hk:k=j
  .subst hk
   exact Di (as:=as) (os:=os) (w:=o)<|Ą (qk.mp e).1
  .exact Di (as:=as) (os:=os) (w:=w) (by rw[qB hk];exact e)
def Gr{as:Qa Ar}{us:Qa U}{aq:En}{H1:Hp}(rs:Rs K ρ σ H)(g1:Go K ρ σ H aq H1)(s1:Fc K aq σ H H1 vs as)(dj:gI aq as=ż)(eu:bY aq as=ž us):
  Rs K (sm us) (e8 vs) H1/\∀(outs:Qa U) (H2:Hp),Go K (sm us) (e8 vs) H1 (sm outs) H2->Go K ρ σ H (wb aq as outs) H2:=by
 have rp:=s1.pj rs g1 eu;have lus:=wI eu;have Eh:=s1.len;have adr:∀(i:Nat) (u:U),us[i]?=ž u->u.own=ż->∃b,vs[i]?=ž (.ref b)/\((∃j,as[i]?=ž (.s j)/\σ[j]?=ž (ž<|.ref b)/\aq[j]?=ž (ž u))\/(as[i]?=ž (.u u)/\H b=Ž)):=λi u ei ou=>by
  have(a,ea,eg):=HA eu ei;have(v,ev,k):=s1.ar i a ea;have p:=k.now rs g1 eg;have(b,rfl):=p.km ou;refine⟨b,ev,?_⟩;cases a with
  |s j=>exact .inl ⟨j,ea,k.1,Lr eg⟩
  |u x=>
   cases(show ž x=ž u from eg);have(b',eb,hb):=k.2 ou;cases eb;exact .inr ⟨ea,hb⟩
 have apart:∀(i j:Nat) (u w:U),us[i]?=ž u->us[j]?=ž w->u.own=ż->w.own=ż->vs[i]?=vs[j]?->i=j:=λi j u w ei ej ou ow ev=>by
  have(b,vb,hb):=adr i u ei ou;have(c,vc,hc):=adr j w ej ow;have bc:b=c:=by rw[vb,vc]at ev;cases ev;rfl
  subst bc;rcases hb with⟨x,ax,sx,rx⟩|⟨ax,nx⟩
  .rcases hc with⟨y,ay,sy,ry⟩|⟨ay,ny⟩
   .have xy:x=y:=g1.rs.apart x y u w rx ry ou ow (by rw[sx,sy])
    subst xy;exact NH dj ax ay rx ou
   .exfalso
    have(w',gW,ux):=g1.shr.own x u rx ou;have(c',gU,_):=rs.ow ⟨x,w',gW,ux,sx⟩;rw[ny]at gU;cases gU
  .rcases hc with⟨y,ay,sy,ry⟩|⟨ay,ny⟩
   .exfalso
    have(w',gW,ux):=g1.shr.own y w ry ow;have(c',gU,_):=rs.ow ⟨y,w',gW,ux,sy⟩;rw[nx]at gU;cases gU
   .exact s1.ap i j u w ax ay ou ow ev
 have sO:Rs K (sm us) (e8 vs) H1:=by
  refine⟨by unfold sm e8;rw[ē,ē];omega,λi u ei=>?_,λi j u w ei ej ou ow ev=>?_⟩
  .have tu:=iu.mp ei
   have(a,ea,eg):=HA eu tu;have(v,ev,k):=s1.ar i a ea;exact⟨v,wq.mpr ev,k.now rs g1 eg⟩
  .have tu:=iu.mp ei
   have rJ:=iu.mp ej;refine apart i j u w tu rJ ou ow ?_;have(b,vb,_):=adr i u tu ou;have(c,vc,_):=adr j w rJ ow;rw[wq.mpr vb,wq.mpr vc]at ev;rw[vb,vc];exact qw ev
 refine⟨sO,λouts H2 g2=>?_⟩;have lo:outs.length=us.length:=by have:=g2.shr.len;unfold sm at this;simpa using this
 have kp2:=g2.kp sO;have owA:∀b,Ow (sm us) (e8 vs) b->Ow aq σ b\/H b=Ž:=λb ⟨i,u,ei,ou,es⟩=>by
  have(c,vc,hc):=adr i u (iu.mp ei) ou;rw[wq.mp es]at vc;cases vc;rcases hc with⟨j,_,sj,rj⟩|⟨_,nb⟩
  .exact .inl ⟨j,u,rj,ou,sj⟩
  .exact .inr nb
 have uy:∀(i:Nat) (w:U),outs[i]?=ž w->∃x,vs[i]?=ž x/\Rp K H2 x w:=λi w ei=>by
  have(x,ex,px):=g2.rs.rep i w (iu.mpr ei);exact⟨x,wq.mp ex,px⟩
 have Th:as.length=outs.length:=by omega
 have iF:∀(j:Nat) (w:U),(wb aq as outs)[j]?=ž (ž w)->w.own=ż->∃w',aq[j]?=ž (ž w')/\w'.own=ż:=λj w ej ow=>by
  rcases Ce ej Th with⟨p,ap,op⟩|⟨h1,_⟩
  .have(w',gW,ux):=g2.shr.own p w (iu.mpr op) ow
   have(a,ea,eg):=HA eu (iu.mp gW);rw[ap]at ea;cases ea;exact⟨w',Lr eg,ux⟩
  .exact⟨w,h1,ow⟩
 refine⟨⟨by rw[CA];exact g1.rs.len,λj w ej=>?_,λi j u w ei ej ou ow es=>?_⟩,λb ob hb nb=>?_,?_,λb hb=>g1.dm b<|g2.dm b hb⟩
 .rcases Ce ej Th with⟨p,ap,op⟩|⟨h1,h2⟩
  .have(x,vx,px):=uy p w op
   have(v',uZ,k'):=s1.ar p _ ap;rw[vx]at uZ;cases uZ;exact⟨x,k'.1,px⟩
  .have(x,ex,px):=g1.rs.rep j w h1
   refine⟨x,ex,px.kp kp2 λow b c eb hb=>?_⟩;refine g2.fr b c hb λ⟨i,u,ei,ou,es⟩=>?_;have(c',SY,gU):=adr i u (iu.mp ei) ou;rw[wq.mp es]at SY;cases SY;subst eb;rcases gU with⟨k,ak,sk,rk⟩|⟨_,nb⟩
   .have:k=j:=g1.rs.apart k j u w rk h1 ou ow (by rw[sk,ex])
    subst this;exact h2 i ak
   .have(w',gW,ux):=g1.shr.own j w h1 ow
    have(c'',AZ,_):=rs.ow ⟨j,w',gW,ux,ex⟩;rw[nb]at AZ;cases AZ
 .have(x,ex,ox):=iF i u ei ou
  have(y,ey,oy):=iF j w ej ow;exact g1.rs.apart i j x y ex ey ox oy es
 .refine g2.fr b ob (g1.fr b ob hb nb) λz=>?_
  rcases owA b z with z|z
  .exact nb (g1.shr.ow z)
  .rw[z]at hb;cases hb
 .refine⟨by rw[CA];exact g1.shr.len,λj w ej ow=>?_,λj w ej=>?_⟩
  .have(x,ex,ox):=iF j w ej ow
   exact g1.shr.own j x ex ox
  .have(x,ex):=g1.shr.live j w ej
   exact Di ex
def Lq:∀ρ as aj,zo ρ=ž (as,aj)->as.length=0:=λρ as aj e=>by cases e;rfl
def MZ{me:ME}{ma:MA}(h:∀ρ as aj,ma ρ=ž (as,aj)->as.length=n):∀ρ as aj,ze me ma ρ=ž (as,aj)->as.length=n+1:=λρ as aj e=>by
 obtain⟨⟨a1,aq⟩,e1,e⟩:=bQ e;obtain⟨⟨ET,aD⟩,e2,e⟩:=bQ e;cases e;simp[h _ _ _ e2]
def zK{f:FD}{t:TA}{m:MA}(n:Nat)(h:kH K t m)(hn:∀ρ as aj,m ρ=ž (as,aj)->as.length=n:=by repeat (first|exact Lq|refine MZ ?_)):VE K (Fq (qX K n f) t) (aR f m):=by
 intro ρ σ H a aj Q rs e q;obtain⟨⟨as,aq⟩,e1,e⟩:=bQ e;dsimp only at e;split at e
 .rename_i dj
  have(us,eu,e):=bQ e;obtain⟨⟨r,outs⟩,ef,e⟩:=bQ e;cases e;refine h ρ σ H as aq _ rs e1 λvs H1 g1 s1=>?_;have(sO,back):=Gr rs g1 s1 dj eu;exact⟨us,r,outs,by rw[wI eu];exact hn _ _ _ e1,sO,ef,λv H2 g2 p n2=>q v H2 (back outs H2 g2) ⟨p,n2.mono g1.dm⟩⟩
 .cases e
end
inductive Fl where
 |nx (ρ:En) |bk (ρ:En) |ct (ρ:En) |rt (u:U) (ρ:En) |ex (x:D) (ρ:En)
def BN(K:qc)(H:Hp)(a:Qg)(x:D):Prop:=∃n C fs ds,x=.dict ((.none,.str n)::ds)/\tK H a C fs/\XN K n C/\m9 K H fs ds
structure Sn (K:qc) (pn:Qa Nat) (ao:St) (A:Qg->Prop) (aA aB:Hp) (ρ:En) (σ:St) (H:Hp):Prop where
 rs:Rs K ρ σ H
 fr:Bp A aA H
 ow:∀(i:Nat) (u:U) (a:Qg),ρ[i]?=ž (ž u)->u.own=ż->σ[i]?=ž (ž<|.ref a)->(i∈pn/\A a)\/aA a=Ž
 pin:∀i∈pn,σ[i]?=ao[i]?
 dm:∀a,H a=Ž->aA a=Ž
 kp:Kp aB H
def KQ:eK:=λ_ _ _=>False
def zDx(K:qc)(pn:Qa Nat)(EX:eK)(ao:St)(A:Qg->Prop)(aA aB:Hp)(D:Ends):Fl->Prop
 |.nx ρ=>∀σ H,Sn K pn ao A aA aB ρ σ H->D.nx σ H
 |.bk ρ=>∀σ H,Sn K pn ao A aA aB ρ σ H->D.bk σ H
 |.ct ρ=>∀σ H,Sn K pn ao A aA aB ρ σ H->D.ct σ H
 |.rt u ρ=>∀v σ H,Sn K pn ao A aA aB ρ σ H->Rp K H v u->Nw aA v u->D.rt v H
 |.ex x ρ=>∀a σ H,Sn K pn ao A aA aB ρ σ H->aA a=Ž->BN K H a x->EX σ a H
abbrev MS:=En->Qb Fl
def VS(K:qc)(pn:Qa Nat)(EX:eK)(t:TS)(m:MS):Prop :=
 ∀(ao:St) (A:Qg->Prop) (aA aB:Hp) (ρ:En) (σ:St) (H:Hp) (f:Fl) (D:Ends),Sn K pn ao A aA aB ρ σ H->m ρ=ž f->zDx K pn EX ao A aA aB D f->t D σ H
section
variable{EX:eK}{A:Qg->Prop}{l7:Hp}{ρ aj:En}
def Sn.go(s:Sn K pn ao A aA aB ρ σ H)(g:Go K ρ σ H aj H'):Sn K pn ao A aA aB aj σ H':=by
 refine⟨g.rs,λa o h n=>g.fr a o (s.fr a o h n) λ⟨i,u,e,ou,es⟩=>?_,λi u a e o es=>?_,s.pin,λa h=>s.dm a<|g.dm a h,s.kp.trans<|g.kp s.rs⟩
 .rcases s.ow i u a e ou es with z|z
  .exact n z.2
  .rw[z]at h;cases h
 .have(w,e',o'):=g.shr.own i u e o
  exact s.ow i w a e' o' es
def Sn.re(s:Sn K pn ao A aA l7 ρ σ H)(k:Kp aB l7):Sn K pn ao A aA aB ρ σ H:=⟨s.rs,s.fr,s.ow,s.pin,s.dm,k.trans s.kp⟩
def Sn.at(s:Sn K pn ao A aA aB ρ σ H):Sn K pn ao A aA H ρ σ H:=⟨s.rs,s.fr,s.ow,s.pin,s.dm,Kp.refl H⟩
def Sn.set{u:U}(s:Sn K pn ao A aA aB ρ σ H)(hi:i∉pn)(p:Rp K H v u)(n:u.own=ż->∃a,v=.ref a/\aA a=Ž/\¬Ow ρ σ a):Sn K pn ao A aA aB (ρ.set i<|some u) (σ.set i<|some v) H:=by
 have ll:=s.rs.len;have inv:∀(j:Nat) (w:U),(ρ.set i<|some u)[j]?=ž (ž w)->(j=i/\w=u/\i < ρ.length)\/(j≠i/\ρ[j]?=ž (ž w)):=λj w e=>by
  by_cases hj:i=j
  .subst hj
   have hl:=(qk.mp e).1;rw[Ĺ]at hl;rw[ń hl]at e;cases e;exact .inl ⟨rfl,rfl,hl⟩
  .rw[qB hj]at e
   exact .inr ⟨Ľ hj,e⟩
 have sat:∀j,j≠i->(σ.set i<|some v)[j]?=σ[j]?:=λj h=>qB<|Ľ h;have kf:i < ρ.length->(σ.set i<|some v)[i]?=ž (ž v):=λh=>Ą (by omega);refine⟨⟨by rw[Ĺ,Ĺ];exact ll,λj w e=>?_,λj k x y ej ek ox oy es=>?_⟩,s.fr,λj w a e o es=>?_,λj hj=>?_,s.dm,s.kp⟩
 .rcases inv j w e with⟨rfl,rfl,hl⟩|⟨hj,e'⟩
  .exact⟨v,kf hl,p⟩
  .rw[sat j hj]
   exact s.rs.rep j w e'
 .rcases inv j x ej with⟨rfl,rfl,hl⟩|⟨hj,rJ⟩
  .rcases inv k y ek with⟨rfl,rfl,_⟩|⟨hk,Kt⟩
   .rfl
   .exfalso
    have(a,rfl,_,na):=n ox;rw[kf hl,sat k hk]at es;exact na ⟨k,y,Kt,oy,es.symm⟩
  .rcases inv k y ek with⟨rfl,rfl,hl⟩|⟨hk,Kt⟩
   .exfalso
    have(a,rfl,_,na):=n oy;rw[kf hl,sat j hj]at es;exact na ⟨j,x,rJ,ox,es⟩
   .rw[sat j hj,sat k hk]at es
    exact s.rs.apart j k x y rJ Kt ox oy es
 .rcases inv j w e with⟨rfl,rfl,hl⟩|⟨hj,e'⟩
  .rw[kf hl]at es
   cases es;have(b,eb,hb,_):=n o;cases eb;exact .inr hb
  .rw[sat j hj]at es
   exact s.ow j w a e' o es
 .rw[sat j λz=>hi<|z▸hj]
  exact s.pin j hj
def oA.own{a:Ar}{u:U}(r:Rs K ρ σ H)(g:Go K ρ σ H aj H')(k:oA K aj σ H H' v a)(e:a.get aj=ž u)(nc:∀j,a=.s j->u.own=Ż):Nw H v u/\(u.own=ż->∃b,v=.ref b/\¬Ow aj σ b):=by
 cases a with
 |s j=>exact⟨(λo=>by rw[nc j rfl]at o;cases o),λo=>by rw[nc j rfl]at o;cases o⟩
 |u x=>
  cases(show ž x=ž u from e);exact⟨k.2,k.2.qY r g⟩
noncomputable def put(p:Ar×En):Qb (U×En):=match p.1 with
 |.s i=>match p.2[i]? with
  |some (ž<|.d x)=>ž (.d x,p.2)
  |_=>Ž
 |.u u=>ž (u,p.2)
def MY{a:Ar}{u:U}{aq aD:En}(e:put (a,aq)=ž (u,aD)):aD=aq/\a.get aq=ž u/\∀j,a=.s j->u.own=Ż:=by
 cases a with
 |s i=>
  unfold put at e;dsimp only at e;split at e
  .rename_i x ex
   cases e;refine⟨rfl,?_,λ_ _=>rfl⟩;show(aq[i]?).join=_;rw[ex];rfl
  .cases e
 |u x=>
  cases e;exact⟨rfl,rfl,λj z=>by cases z⟩
def aU(i:Nat)(me:ME):MS:=λρ=>(me ρ).bind λp=>(put p).bind λq=>ž<|.nx<|q.2.set i<|some q.1
def zM{me:ME}(h:VE K te me)(hi:i∉pn:=by decide):VS K pn EX (pY te<|k7 i) (aU i me):=by
 intro ao A aA aB ρ σ H f D s e k;obtain⟨⟨a,aq⟩,e1,e⟩:=bQ e;obtain⟨⟨u,aD⟩,e2,e3⟩:=bQ e;clear e;have(rfl,eg,nc):=MY e2;cases e3;refine h ρ σ H a aD _ s.rs e1 λv H1 g1 k1=>?_;have(n1,n2):=k1.own s.rs g1 eg nc;have s1:=s.go g1;refine k _ _<|s1.set hi (k1.now s.rs g1 eg) λo=>?_;have(b,rfl,hb):=n2 o;have(b',eb,jw):=n1 o;cases eb;exact⟨b,rfl,s.dm b jw,hb⟩
noncomputable def zB(m1 m2:MS):MS:=λρ=>(m1 ρ).bind λf=>match f with
 |.nx aj=>m2 aj
 |f=>ž f
def zq{t1 t2:TS}{m1 m2:MS}(h1:VS K pn EX t1 m1)(h2:VS K pn EX t2 m2):VS K pn EX (FG t1 t2) (zB m1 m2):=by
 intro ao A aA aB ρ σ H f D s e k;have(f1,e1,e):=bQ e;refine h1 ao A aA aB ρ σ H f1 _ s e1 ?_;cases f1 with
 |nx aq=>exact λfV H1 s1=>h2 ao A aA aB aq fV H1 f D s1 e k
 |bk aq=>cases e;exact k
 |ct aq=>cases e;exact k
 |rt u aq=>cases e;exact k
 |ex x aq=>cases e;exact k
noncomputable def bV:MS:=λρ=>ž<|.nx ρ
def zS:VS K pn EX Ga bV:=λao A aA aB ρ σ H f D s e k=>by cases e;exact k σ H s
noncomputable def bL(mt:MT)(m1 m2:MS):MS:=λρ=>(mt ρ).bind λp=>if p.1=ż then m1 p.2 else m2 p.2
def cx{t1 t2:TS}{mt:MT}{m1 m2:MS}(ht:VT K tt mt)(h1:VS K pn EX t1 m1)(h2:VS K pn EX t2 m2):VS K pn EX (FF tt t1 t2) (bL mt m1 m2):=by
 intro ao A aA aB ρ σ H f D s e k;obtain⟨⟨c,aq⟩,e1,e⟩:=bQ e;refine ht ρ σ H c aq _ s.rs e1 λH1 g1=>?_;dsimp only at e;split at e
 .rename_i hc
  rw[a6P hc];exact h1 ao A aA aB aq σ H1 f D (s.go g1) e k
 .rename_i hc
  rw[a6Q hc];exact h2 ao A aA aB aq σ H1 f D (s.go g1) e k
def tZ{t:TS}{m:MS}(h:VS K pn EX t m):VS K pn EX (Gf t) m:=by
 intro ao A aA aB ρ σ H f D s e k;cases f with
 |nx aq=>exact⟨λaK H'=>Sn K pn ao A aA aB aq aK H',h ao A aA aB ρ σ H _ _ s e λaK H' s'=>s',λaK H' s'=>k aK H' s'⟩
 |bk aq=>exact⟨D.nx,h ao A aA aB ρ σ H _ _ s e k,λ_ _ z=>z⟩
 |ct aq=>exact⟨D.nx,h ao A aA aB ρ σ H _ _ s e k,λ_ _ z=>z⟩
 |rt u aq=>exact⟨D.nx,h ao A aA aB ρ σ H _ _ s e k,λ_ _ z=>z⟩
 |ex x aq=>exact⟨D.nx,h ao A aA aB ρ σ H _ _ s e k,λ_ _ z=>z⟩
noncomputable def jG(me:ME):MS:=λρ=>(me ρ).bind λp=>ž<|.nx p.2
def rY{me:ME}(h:VE K te me):VS K pn EX (yh te) (jG me):=by
 intro ao A aA aB ρ σ H f D s e k;obtain⟨⟨a,aq⟩,e1,e⟩:=bQ e;cases e;exact h ρ σ H a _ _ s.rs e1 λv H1 g1 k1=>k σ H1<|s.go g1
def bp(me:ME):MS:=λρ=>(me ρ).bind λp=>(put p).bind λq=>ž<|.rt q.1 q.2
def zV{me:ME}(h:VE K te me):VS K pn EX (BW te) (bp me):=by
 intro ao A aA aB ρ σ H f D s e k;obtain⟨⟨a,aq⟩,e1,e⟩:=bQ e;obtain⟨⟨u,aD⟩,e2,e3⟩:=bQ e;clear e;have(rfl,eg,nc):=MY e2;cases e3;refine h ρ σ H a _ _ s.rs e1 λv H1 g1 k1=>?_;have(n1,n2):=k1.own s.rs g1 eg nc;exact k v σ H1 (s.go g1) (k1.now s.rs g1 eg)<|n1.mono s.dm
def oK(pn:Qa Nat)(i:Nat):MS:=λρ=>if i∈pn then Ž else(match ρ[i]? with
 |some (ž u)=>ž<|.rt u<|ρ.set i Ž
 |_=>Ž)
def yx:VS K pn EX (BW<|ni i) (oK pn i):=by
 intro ao A aA aB ρ σ H f D s e k;unfold oK at e;split at e
 .cases e
 rename_i hi;split at e
 .rename_i u eu
  cases e;have(v,ev,p):=s.rs.rep i u eu;have back:∀(j:Nat) (w:U),(ρ.set i Ž)[j]?=ž (ž w)->ρ[j]?=ž (ž w):=λj w e=>by
   by_cases hj:i=j
   .subst hj
    have hl:=(qk.mp e).1;rw[Ĺ]at hl;rw[ń hl]at e;cases e
   .rw[qB hj]at e
    exact e
  refine⟨v,ev,k v σ H ⟨⟨by rw[Ĺ];exact s.rs.len,λj w e=>s.rs.rep j w<|back j w e,λa b x y ea eb=>s.rs.apart a b x y (back a x ea)<|back b y eb⟩,s.fr,λj w a e=>s.ow j w a<|back j w e,s.pin,s.dm,s.kp⟩ p λo=>?_⟩;have(a,rfl):=p.km o;rcases s.ow i u a eu o ev with z|z
  .exact absurd z.1 hi
  .exact⟨a,rfl,z⟩
 .cases e
end
section
variable{EX:eK}{A:Qg->Prop}{l7:Hp}{ρ aj:En}
def MW(K:qc)(J:It)(aB:Hp)(ds:Qa D):Prop:=∀H,Kp aB H->∀i:Nat,(∀d,ds[i]?=ž d->J.go i H/\∀x H',J.Ac i H x H'->dI H H'/\DF K H' x d)/\(i=ds.length->J.stop i H)
abbrev MI:=En->Qb (Qa D×En)
def VI(K:qc)(wi:TI)(mi:MI):Prop :=
 ∀(ρ:En) (σ:St) (H:Hp) (ds:Qa D) (aj:En) (R:It->Hp->Prop),Rs K ρ σ H->mi ρ=ž (ds,aj)->(∀J H',Go K ρ σ H aj H'->MW K J H' ds->R J H')->wi σ H R
noncomputable def vv:U->Qb (Qa D)
 |.d (.list xs)=>ž xs
 |_=>Ž
def tI:U->Qb (Qa D)
 |.d (.tuple xs)=>ž xs
 |_=>Ž
def gS(f:U->Qb (Qa D))(me:ME):MI:=λρ=>(me ρ).bind λp=>(p.1.get p.2).bind λu=>(f u).bind λds=>ž (ds,p.2)
def G0{me:ME}(h:VE K te me):VI K (F9 K te) (gS vv me):=by
 intro ρ σ H ds aj R r e q;obtain⟨⟨a,aq⟩,e1,e⟩:=bQ e;have(u,eu,e):=bQ e;have(xs,ex,e):=bQ e;cases e;refine h ρ σ H a _ _ r e1 λv H1 g1 k1=>?_;have p:=k1.now r g1 eu;unfold vv at ex;split at ex
 .cases ex
  have(b,ys,rfl,h1,h2):=DF.lst_inv p;refine⟨b,rfl,⟨ys,h1.sq⟩,q _ _ g1 λH2 k i=>⟨λd ed=>?_,λei=>?_⟩⟩
  .have(v,ev,dv):=(h2.kp k).get ed
   refine⟨⟨ys,v,(h1.kp k).sq,ev⟩,λx H' y=>?_⟩;have(rfl,y):=y;have:=y ys (h1.kp k).sq;rw[ev]at this;cases this;exact⟨λ_ _ z=>z,dv⟩
  .exact⟨ys,(h1.kp k).sq,by rw[h2.len];omega⟩
 .cases ex
def Cz{me:ME}(h:VE K te me):VI K (Fn K te) (gS tI me):=by
 intro ρ σ H ds aj R r e q;obtain⟨⟨a,aq⟩,e1,e⟩:=bQ e;have(u,eu,e):=bQ e;have(xs,ex,e):=bQ e;cases e;refine h ρ σ H a _ _ r e1 λv H1 g1 k1=>?_;have p:=k1.now r g1 eu;unfold tI at ex;split at ex
 .cases ex
  have(b,ys,rfl,h1,h2):=DF.aH p;refine⟨b,rfl,⟨ys,(be.sq h1)⟩,q _ _ g1 λH2 k i=>⟨λd ed=>?_,λei=>?_⟩⟩
  .have(v,ev,dv):=(h2.kp k).get ed
   refine⟨⟨ys,v,(be.kp k h1).sq,ev⟩,λx H' y=>?_⟩;have(rfl,y):=y;have:=y ys ((be.kp k h1).sq);rw[ev]at this;cases this;exact⟨λ_ _ z=>z,dv⟩
  .exact⟨ys,(be.kp k h1).sq,by rw[h2.len];omega⟩
 .cases ex
noncomputable def iM(lo:Int)(n:Nat):Qa D:=(ħ n).map λi=>.int<|lo+(i:Nat)
def Dy(lo:Int)(n:Nat):(iM lo n).length=n:=by simp[iM]
def Dw{lo:Int}{d:D}(h:(iM lo n)[i]?=ž d):i < n/\d=.int (lo+(i:Nat)):=by
 have hl:=(qk.mp h).1;rw[Dy]at hl;refine⟨hl,?_⟩;unfold iM at h;rw[ĝ,a1V hl]at h;cases h;rfl
def Qn{lo:Int}:MW K (Bn lo n) aB (iM lo n):=λH k i=>⟨λd ed=>by
  have(hi,rfl):=Dw ed;refine⟨hi,λx H' y=>?_⟩;have(rfl,rfl):=y;exact⟨λ_ _ z=>z,.int _⟩,λei=>by rw[Dy]at ei;exact đ ei.symm⟩
def kS(ma:MA):MI:=λρ=>(ma ρ).bind λp=>(bY p.2 p.1).bind λus=>match us with
 |[.d<|.int j]=>if -(2^62)<=j/\j < 2^62 then ž (iM 0 j.toNat,p.2)else Ž
 |_=>Ž
def Cd(ma:MA):MI:=λρ=>(ma ρ).bind λp=>(bY p.2 p.1).bind λus=>match us with
 |[.d<|.int i,.d<|.int j]=>if -(2^62)<=i/\i < 2^62/\-(2^62)<=j/\j < 2^62 then ž (iM i (j - i).toNat,p.2)else Ž
 |_=>Ž
def oX{ta:TA}{ma:MA}(h:kH K ta ma):VI K (F8 ta) (kS ma):=by
 intro ρ σ H ds aj R r e q;obtain⟨⟨as,aq⟩,e1,e⟩:=bQ e;have(us,eu,e):=bQ e;refine h ρ σ H as aq _ r e1 λvs H1 g1 s1=>?_;have rp:=s1.pj r g1 eu;dsimp only at e;split at e
 .split at e
  .rename_i j hc
   cases e;cases rp with
   |cons h1 t=>
    cases t;cases DF.int_inv h1;exact⟨j,rfl,hc.1,hc.2,q _ _ g1 Qn⟩
  .cases e
 .cases e
def YO{ta:TA}{ma:MA}(h:kH K ta ma):VI K (F7 ta) (Cd ma):=by
 intro ρ σ H ds aj R r e q;obtain⟨⟨as,aq⟩,e1,e⟩:=bQ e;have(us,eu,e):=bQ e;refine h ρ σ H as aq _ r e1 λvs H1 g1 s1=>?_;have rp:=s1.pj r g1 eu;dsimp only at e;split at e
 .split at e
  .rename_i i j hc
   cases e;cases rp with
   |cons h1 t=>
    cases t with
    |cons h2 t=>
     cases t;cases DF.int_inv h1;cases DF.int_inv h2;exact⟨i,j,rfl,hc,q _ _ g1 Qn⟩
  .cases e
 .cases e
noncomputable def ue:Nat->Qa D->Qa D
 |_,[]=>[]
 |i,d::ds=>.tuple [.int (i:Nat),d]::ue (i+1) ds
def HZ:∀{ds:Qa D} {n i:Nat} {d:D},(ue n ds)[i]?=ž d->∃x,ds[i]?=ž x/\d=.tuple [.int ((n+i:Nat):Int),x]
 |[],n,i,d,h=>by simp[ue]at h
 |x::ds,n,0,d,h=>by cases h;exact⟨x,rfl,rfl⟩
 |x::ds,n,i+1,d,h=>by
  have(y,ey,ed):=HZ (ds:=ds) (n:=n+1) (i:=i) h;exact⟨y,ey,by rw[ed];congr 3;omega⟩
def Q5:∀(ds:Qa D) (n:Nat),(ue n ds).length=ds.length
 |[],_=>rfl
 |_::ds,n=>congrArg (·+1)<|Q5 ds<|n+1
def Cc(ma:MA):MI:=λρ=>(ma ρ).bind λp=>(bY p.2 p.1).bind λus=>match us with
 |[.d<|.tuple ds]=>ž (ue 0 ds,p.2)
 |_=>Ž
def YN{ta:TA}{ma:MA}(h:kH K ta ma):VI K (LJ K ta) (Cc ma):=by
 intro ρ σ H ds aj R r e q;obtain⟨⟨as,aq⟩,e1,e⟩:=bQ e;have(us,eu,e):=bQ e;refine h ρ σ H as aq _ r e1 λvs H1 g1 s1=>?_;have rp:=s1.pj r g1 eu;dsimp only at e;split at e
 .rename_i xs
  cases e;cases rp with
  |cons h1 t=>
   cases t;have(b,ys,rfl,h1,h2):=DF.aH h1;refine⟨b,rfl,⟨ys,(be.sq h1)⟩,q _ _ g1 λH2 k i=>⟨λd ed=>?_,λei=>?_⟩⟩
   .have(x,ex,rfl):=HZ ed
    have(v,ev,dv):=(h2.kp k).get ex;refine⟨⟨ys,v,(be.kp k h1).sq,ev⟩,λx H' y=>?_⟩;have(T,nT,rfl,y):=y;cases y ys v ((be.kp k h1).sq) ev;have sm:=iz nT (.tup [.int i,v]);refine⟨sm,.tup (.inl zz)<|.cons ?_<|.cons (dv.kp sm.kp) .nil⟩;rw[ř];exact .int _
   .exact⟨ys,(be.kp k h1).sq,by rw[Q5]at ei;rw[h2.len];exact ei.symm⟩
 .cases e
abbrev MG:=D->En->Qb En
def zDy(pn:Qa Nat)(mg:MG):Prop:=∀d ρ aj,mg d ρ=ž aj->aj.length=ρ.length/\∀i∈pn,aj[i]?=ρ[i]?
def zB2(pn:Qa Nat)(mg:Qa D->En->Qb En):Prop:=∀ds ρ aj,mg ds ρ=ž aj->aj.length=ρ.length/\∀i∈pn,aj[i]?=ρ[i]?
structure vi (K:qc) (pn:Qa Nat) (g:TG) (mg:MG):Prop where
 run:∀(ao:St) (A:Qg->Prop) (aA aB:Hp) (ρ:En) (σ:St) (H:Hp) (v:V) (d:D) (aj:En) (Q:St->Hp->Prop),Sn K pn ao A aA aB ρ σ H->DF K H v d->mg d ρ=ž aj->(∀aK,Sn K pn ao A aA aB aj aK H->Q aK H)->g v σ H Q
 ok:zDy pn mg
structure EU (K:qc) (pn:Qa Nat) (g:jx) (mg:Qa D->En->Qb En):Prop where
 run:∀(ao:St) (A:Qg->Prop) (aA aB:Hp) (ρ:En) (σ:St) (H:Hp) (vs:Qa V) (ds:Qa D) (aj:En) (Q:St->Hp->Prop),Sn K pn ao A aA aB ρ σ H->aQ K H vs ds->mg ds ρ=ž aj->(∀aK,Sn K pn ao A aA aB aj aK H->Q aK H)->g vs σ H Q
 ok:zB2 pn mg
noncomputable def zA(i:Nat):MG:=λd ρ=>ž<|ρ.set i<|some<|.d d
def zu(hi:i∉pn:=by decide):vi K pn (k7 i) (zA i) where
 run:=by
  intro ao A aA aB ρ σ H v d aj Q s h e q;cases e;exact q _ (s.set hi (u:=.d d) h λo=>by cases o)
 ok:=λd ρ aj e=>by
  cases e;exact⟨Ĺ,λj hj=>qB (by rintro rfl;exact hi hj)⟩
def gc:Qa D->En->Qb En:=λds ρ=>match ds with |[]=>ž ρ|_=>Ž
noncomputable def zL(g:MG)(gs:Qa D->En->Qb En):Qa D->En->Qb En:=λds ρ=>match ds with
 |d::ds=>(g d ρ).bind λaq=>gs ds aq
 |[]=>Ž
def hE:EU K pn B0 gc where
 run:=by
  intro ao A aA aB ρ σ H vs ds aj Q s h e q;cases h with
  |nil=>cases e;exact⟨rfl,q σ s⟩
  |cons=>cases e
 ok:=λds ρ aj e=>by
  cases ds with
  |nil=>cases e;exact⟨rfl,λ_ _=>rfl⟩
  |cons=>cases e
def zE{g:TG}{gs:jx}{mg:MG}{uB:Qa D->En->Qb En}(h1:vi K pn g mg)(h2:EU K pn gs uB):EU K pn (yg g gs) (zL mg uB) where
 run:=by
  intro ao A aA aB ρ σ H vs ds aj Q s h e q;cases h with
  |nil=>cases e
  | @cons v d vs ds hv t=>
   have(aq,e1,e):=bQ (show(mg d ρ).bind (λaq=>uB ds aq)=ž aj from e);exact⟨v,vs,rfl,h1.run ao A aA aB ρ σ H v d aq _ s hv e1 λfV s1=>h2.run ao A aA aB aq fV H vs ds aj Q s1 t e q⟩
 ok:=λds ρ aj e=>by
  cases ds with
  |nil=>cases e
  |cons d ds=>
   have(aq,e1,e):=bQ (show(mg d ρ).bind (λaq=>uB ds aq)=ž aj from e);have(a1,a2):=h1.ok d ρ aq e1;have(b1,b2):=h2.ok ds aq aj e;exact⟨b1.trans a1,λi hi=>(b2 i hi).trans<|a2 i hi⟩
def fJ(n:Nat)(gs:Qa D->En->Qb En):MG:=λd ρ=>match d with
 |.tuple ds=>if ds.length=n then gs ds ρ else Ž
 |_=>Ž
def g9{gs:jx}{uB:Qa D->En->Qb En}(h:EU K pn gs uB):vi K pn (BZ K n gs) (fJ n uB) where
 run:=by
  intro ao A aA aB ρ σ H v d aj Q s hd e q;unfold fJ at e;split at e
  .split at e
   .rename_i ds hl
    have(a,xs,rfl,h1,h2):=DF.aH hd;exact⟨a,xs,rfl,(be.sq h1),by rw[h2.len];exact hl,h.run ao A aA aB ρ σ H xs ds aj Q s h2 e q⟩
   .cases e
  .cases e
 ok:=λd ρ aj e=>by
  unfold fJ at e;split at e
  .split at e
   .exact h.ok _ _ _ e
   .cases e
  .cases e
def jU(me:ME)(mg:MG):MS:=λρ=>(me ρ).bind λp=>(p.1.get p.2).bind λu=>match u with
 |.d d=>(mg d p.2).bind λaj=>ž<|.nx aj
 |_=>Ž
def oJ{g:TG}{me:ME}{mg:MG}(h:VE K te me)(hg:vi K pn g mg):VS K pn EX (pY te g) (jU me mg):=by
 intro ao A aA aB ρ σ H f D s e k;obtain⟨⟨a,aq⟩,e1,e⟩:=bQ e;have(u,eu,e):=bQ e;refine h ρ σ H a aq _ s.rs e1 λv H1 g1 k1=>?_;have p:=k1.now s.rs g1 eu;dsimp only at e;split at e
 .have(aD,e2,e3):=bQ e
  cases e3;exact hg.run ao A aA aB aq σ H1 v _ aD _ (s.go g1) p e2 λaK s'=>k aK H1 s'
 .cases e
def xR(i j:Nat)(ma:MA):MS:=λρ=>(ma ρ).bind λp=>(bY p.2 p.1).bind λus=>match us with
 |[.d x,.d y]=>ž<|.nx<|(p.2.set i<|some<|.d x).set j<|some<|.d y
 |_=>Ž
def Lp{ta:TA}{ma:MA}(h:kH K ta ma)(hi:i∉pn:=by decide)(hj:j∉pn:=by decide):VS K pn EX (FA i j ta) (xR i j ma):=by
 intro ao A aA aB ρ σ H f D s e k;obtain⟨⟨as,aq⟩,e1,e⟩:=bQ e;have(us,eu,e):=bQ e;refine h ρ σ H as aq _ s.rs e1 λvs H1 g1 s1=>?_;have rp:=s1.pj s.rs g1 eu;dsimp only at e;split at e
 .rename_i x y
  cases e;cases rp with
  | @cons v _ vs _ h1 t=>
   cases t with
   | @cons w _ _ _ h2 t=>
    cases t;have sn:=(s.go g1).set hi (u:=.d x) h1 λo=>by cases o
    exact⟨v,w,rfl,k _ _ (sn.set hj (u:=.d y) h2 λo=>by cases o)⟩
 .cases e
noncomputable def iU(mg:MG)(mb:MS):Qa D->En->Qb Fl
 |[],ρ=>ž<|.nx ρ
 |d::ds,ρ=>(mg d ρ).bind λaq=>(mb aq).bind λf=>match f with
  |.nx aD=>iU mg mb ds aD
  |.ct aD=>iU mg mb ds aD
  |.bk aD=>ž<|.nx aD
  |.rt u aD=>ž<|.rt u aD
  |.ex x aD=>ž<|.ex x aD
def eN(mi:MI)(mg:MG)(mb:MS):MS:=λρ=>(mi ρ).bind λp=>iU mg mb p.1 p.2
def fW{wi:TI}{g:TG}{tb:TS}{mi:MI}{mg:MG}{mb:MS}(hi:VI K wi mi)(hg:vi K pn g mg)(hb:VS K pn EX tb mb):VS K pn EX (Fm wi g tb) (eN mi mg mb):=by
 intro ao A aA aB ρ σ H f D s e k;obtain⟨⟨ds,aq⟩,e1,e⟩:=bQ e;refine hi ρ σ H ds aq _ s.rs e1 λJ H1 g1 run=>?_;have s1:=(s.go g1).at;have q9:Kp aB H1:=(s.go g1).kp;refine⟨λi m aK H'=>m=ds.length - i/\i<=ds.length/\∃aj,Sn K pn ao A aA H1 aj aK H'/\iU mg mb (ds.drop i) aj=ž f,⟨ds.length,by simp,À _,aq,s1,e⟩,?_⟩;rintro i m aK H' ⟨rfl,iP,aj,s',el⟩
 by_cases eJ:i < ds.length
 .rw[ŋ eJ]at el
  have(aD,e2,el):=bQ (show(mg ds[i] aj).bind _=ž f from el);have(fb,eb,el):=bQ el;have(go,yl):=(run H' s'.kp i).1 ds[i] (ql eJ);refine .inr ⟨go,λgZ H3=>∃mm,Sn K pn ao A aA H1 mm gZ H3/\iU mg mb (ds.drop<|i+1) mm=ž f,λgZ H3 ⟨mm,s3,e3⟩=>⟨ds.length - (i+1),by omega,rfl,eJ,mm,s3,e3⟩,λx H2 y=>?_⟩;have(sm,dx):=yl x H2 y;have s2:=s'.go (Go.grow s'.rs sm);refine hg.run ao A aA H1 aj aK H2 x ds[i] aD _ s2 dx e2 λgZ s3=>?_;refine hb ao A aA H1 aD gZ H2 fb _ s3 eb ?_;cases fb with
  |nx gH=>exact λjy H4 s4=>⟨gH,s4,el⟩
  |ct gH=>exact λjy H4 s4=>⟨gH,s4,el⟩
  |bk gH=>cases el;exact λjy H4 s4=>k jy H4<|s4.re q9
  |rt u gH=>cases el;exact λv jy H4 s4 p n=>k v jy H4 (s4.re q9) p n
  |ex x gH=>cases el;exact λa jy H4 s4 p n=>k a jy H4 (s4.re q9) p n
 .have ei:i=ds.length:=by omega
  subst ei;rw[a6r]at el;cases el;exact .inl ⟨(run H' s'.kp _).2 rfl,k aK H'<|s'.re q9⟩
def iT(mt:MT)(mb:MS):Nat->En->Qb Fl
 |0,_=>Ž
 |n+1,ρ=>(mt ρ).bind λp=>if p.1=ż then(mb p.2).bind λf=>match f with
  |.nx aD=>iT mt mb n aD
  |.ct aD=>iT mt mb n aD
  |.bk aD=>ž<|.nx aD
  |.rt u aD=>ž<|.rt u aD
  |.ex x aD=>ž (.ex x aD)else ž (.nx p.2)
open Classical in
def tY(mt:MT)(mb:MS):MS:=λρ=>if h:∃n,(iT mt mb n ρ).isSome=ż then iT mt mb h.choose ρ else Ž
def NG{tb:TS}{mt:MT}{mb:MS}(ht:VT K tt mt)(hb:VS K pn EX tb mb):VS K pn EX (GI tt tb) (tY mt mb):=by
 intro ao A aA aB ρ σ H f D s e k;unfold tY at e;split at e
 .rename_i hn
  generalize hn.choose=n at e;refine⟨λm aK H'=>∃aj,Sn K pn ao A aA aB aj aK H'/\iT mt mb m aj=ž f,⟨n,ρ,s,e⟩,?_⟩;rintro m aK H' ⟨aj,s',el⟩;cases m with
  |zero=>cases el
  |succ m=>
   obtain⟨⟨b,aq⟩,e1,el⟩:=bQ (show(mt aj).bind _=ž f from el);refine ht aj aK H' b aq _ s'.rs e1 λH1 g1=>?_;dsimp only at el;split at el
   .rename_i hc
    rw[a6P hc];have(fb,eb,el):=bQ el;refine⟨λip H2=>∃aD,Sn K pn ao A aA aB aD ip H2/\iT mt mb m aD=ž f,λip H2 ⟨aD,s2,e2⟩=>⟨m,í m,aD,s2,e2⟩,?_⟩;refine hb ao A aA aB aq aK H1 fb _ (s'.go g1) eb ?_;cases fb with
    |nx gH=>exact λjy H4 s4=>⟨gH,s4,el⟩
    |ct gH=>exact λjy H4 s4=>⟨gH,s4,el⟩
    |bk gH=>cases el;exact λjy H4 s4=>k jy H4 s4
    |rt u gH=>cases el;exact λv jy H4 s4 p n=>k v jy H4 s4 p n
    |ex x gH=>cases el;exact λa jy H4 s4 p n=>k a jy H4 s4 p n
   .rename_i hc
    rw[a6Q hc];cases el;exact k aK H1<|s'.go g1
 .cases e
def DE{mt:MT}{mb:MS}:∀{n:Nat} {ρ:En} {f:Fl},iT mt mb n ρ=ž f->∀k,iT mt mb (n+k) ρ=ž f
 |0,_,_,e,_=>by cases e
 |n+1,ρ,f,e,k=>by
  rw[show n+1+k=(n+k)+1 by omega];obtain⟨⟨b,aq⟩,e1,e⟩:=bQ (show(mt ρ).bind _=ž f from e);show(mt ρ).bind _=ž f;rw[e1];show(if b=ż then _ else _)=_;dsimp only at e;split at e
  .rename_i hc
   rw[a6P hc];have(fb,eb,e):=bQ e;rw[eb];cases fb with
   |nx aD=>exact DE (n:=n) e k
   |ct aD=>exact DE (n:=n) e k
   |bk aD=>exact e
   |rt u aD=>exact e
   |ex x aD=>exact e
  .rename_i hc
   rw[a6Q hc];exact e
def zr5{mt:MT}{mb:MS}{ρ:En}{f:Fl}(e:iT mt mb n ρ=ž f):tY mt mb ρ=ž f:=by
 have h:∃n,(iT mt mb n ρ).isSome=ż:=⟨n,by rw[e];rfl⟩;unfold tY;rw[dif_pos h];have(f',Ui):=Option.isSome_iff_exists.mp h.choose_spec;rw[Ui];have a:=DE e h.choose;have b:=DE Ui n;rw[a2K,b]at a;exact a
end
section
variable{A:Qg->Prop}{l7:Hp}{ρ aj:En}
noncomputable def jc(nt:Nat)(js:Qa Nat)(ρ:En):En:=Ě nt Ž++js.map λj=>ρ.getD j Ž
noncomputable def reset(nt:Nat)(ρ:En):En:=Ě nt Ž++ρ.drop nt
noncomputable def back:Qa Nat->Qa (Qb U)->En->En
 |j::js,ž u::us,ρ=>back js us<|ρ.set j<|some u
 |_::js,Ž::us,ρ=>back js us ρ
 |_,_,ρ=>ρ
def jM(nt:Nat)(mg:MG)(mt:MT)(me:ME):Qa D->En->Qa D->Qb (Qa D×En)
 |[],ρ,ys=>ž (ys,ρ)
 |d::ds,ρ,ys=>if ys.length < Ĕ then(mg d ρ).bind λaq=>(mt aq).bind λb=>if b.1=ż then(me b.2).bind λp=>(p.1.get p.2).bind λu=>(match u with
   |.d y=>jM nt mg mt me ds (reset nt p.2)<|ys++[y]
   |_=>Ž)else jM nt mg mt me ds (reset nt b.2) ys else Ž
def q0(mi:MI)(nt:Nat)(js:Qa Nat)(mg:MG)(mt:MT)(me:ME):ME:=λρ=>(mi ρ).bind λp=>(jM nt mg mt me p.1 (jc nt js p.2) []).bind λq=>ž (.u<|.l q.1,back js (q.2.drop nt) p.2)
noncomputable def nv(nt n:Nat):Qa Nat:=(ħ n).map (nt+·)
def Dh:i∈nv nt n↔nt<=i/\i < nt+n:=by
 unfold nv;rw[a4r];constructor
 .rintro⟨a,ha,rfl⟩
  have:=Í.mp ha;omega
 .intro h
  exact⟨i - nt,Í.mpr (by omega),by omega⟩
def yw{u:U}(h:(jc nt js ρ)[i]?=ž (ž u)):∃p j,i=nt+p/\js[p]?=ž j/\ρ[j]?=ž (ž u):=by
 unfold jc at h
 by_cases hi:i < nt
 .rw[Ĩ (by simpa using hi),œ,a6P hi]at h
  cases h
 .rw[Ĥ (by simp;omega),Ł,ĝ]at h
  have(j,ej,e):=qq.mp h;refine⟨i - nt,j,by omega,ej,?_⟩;rw[qA]at e;cases q:ρ[j]? with
  |none=>rw[q]at e;cases e
  |some o=>rw[q]at e;exact congrArg ž e
def Lo{p:Nat}(h:js[p]?=ž j):(c0 nt js σ)[nt+p]?=ž (σ.getD j Ž):=by
 unfold c0;rw[Ĥ (by simp),Ł,Ŋ,ĝ,h];rfl
def MV:(c0 nt js σ).length=nt+js.length:=by unfold c0;simp
def NF:(jc nt js ρ).length=nt+js.length:=by unfold jc;simp
def vq(ρ:En)(σ:St)(js:Qa Nat)(a:Qg):Prop:=∃(p j:Nat) (u:U),js[p]?=ž j/\ρ[j]?=ž (ž u)/\u.own=ż/\σ[j]?=ž (ž<|.ref a)
def YM(r:Rs K ρ σ H)(nd:js.Nodup):Sn K (nv nt js.length) (c0 nt js σ) (vq ρ σ js) H H (jc nt js ρ) (c0 nt js σ) H:=by
 have sat:∀{p j:Nat} {v:V},js[p]?=ž j->σ[j]?=ž (ž v)->(c0 nt js σ)[nt+p]?=ž (ž v):=λ{p j v} hp hv=>by
  rw[Lo hp,qA,hv];rfl
 refine⟨⟨by rw[NF,MV],λi u e=>?_,λi k u w ei ek ou ow es=>?_⟩,λ_ _ h _=>h,λi u a e o es=>?_,λ_ _=>rfl,λ_ h=>h,Kp.refl H⟩
 .have(p,j,rfl,hj,hr):=yw e
  have(v,ev,q):=r.rep j u hr;exact⟨v,sat hj ev,q⟩
 .have(p,j,rfl,hj,hr):=yw ei
  have(p',j',rfl,lM,Eu):=yw ek;have(v,ev,_):=r.rep j u hr;have(v',uZ,_):=r.rep j' w Eu;rw[sat hj ev,sat lM uZ]at es;have:j=j':=r.apart j j' u w hr Eu ou ow (by rw[ev,uZ];exact es);subst this;have l1:=(qk.mp hj);have l2:=(qk.mp lM);have(h1,e1):=l1;have(h2,e2):=l2;have:=(a6q nd).mp (e1.trans e2.symm);omega
 .have(p,j,rfl,hj,hr):=yw e
  have(v,ev,_):=r.rep j u hr;rw[sat hj ev]at es;cases es;exact .inl ⟨Dh.mpr ⟨by omega,by have:=(qk.mp hj).1;omega⟩,p,j,u,hj,hr,o,ev⟩
def Sn.reset{mf:St}{aD:En}{ip:St}(s:Sn K (nv nt n) mf A aA aB aD ip H)(l1:aD.length=nt+n)(l2:mf.length=nt+n):Sn K (nv nt n) mf A aA aB (Internal.reset nt aD) mf H:=by
 have bk:∀(i:Nat) (u:U),(Internal.reset nt aD)[i]?=ž (ž u)->nt<=i/\i < nt+n/\aD[i]?=ž (ž u):=λi u e=>by
  unfold Internal.reset at e
  by_cases hi:i < nt
  .rw[Ĩ (by simpa using hi),œ,a6P hi]at e
   cases e
  .rw[Ĥ (by simp;omega),Ł,a0w,show nt+(i - nt)=i by omega]at e
   have:=(qk.mp e).1;exact⟨by omega,by omega,e⟩
 have pin:∀i,nt<=i->i < nt+n->mf[i]?=ip[i]?:=λi h1 h2=>(s.pin i<|Dh.mpr ⟨h1,h2⟩).symm;have ll:(Internal.reset nt aD).length=nt+n:=by unfold Internal.reset;simp;omega
 refine⟨⟨by omega,λi u e=>?_,λi j u w ei ej ou ow es=>?_⟩,s.fr,λi u a e o es=>?_,λ_ _=>rfl,s.dm,s.kp⟩
 .have(h1,h2,e'):=bk i u e
  rw[pin i h1 h2];exact s.rs.rep i u e'
 .have(h1,h2,tu):=bk i u ei
  have(h3,h4,rJ):=bk j w ej;rw[pin i h1 h2,pin j h3 h4]at es;exact s.rs.apart i j u w tu rJ ou ow es
 .have(h1,h2,e'):=bk i u e
  rw[pin i h1 h2]at es;exact s.ow i u a e' o es
def Dg:∀{js:Qa Nat} {us:Qa (Qb U)} {ρ:En} {j:Nat} {w:U},(back js us ρ)[j]?=ž (ž w)->(∃p:Nat,js[p]?=ž j/\us[p]?=ž (ž w))\/(ρ[j]?=ž (ž w)/\∀p:Nat,js[p]?=ž j->∀x,us[p]?≠ž (ž x))
 |[],us,ρ,j,w,e=>.inr ⟨by cases us<;>exact e,λp z=>by simp at z⟩
 |k::js,[],ρ,j,w,e=>.inr ⟨e,λp z x=>by simp⟩
 |k::js,Ž::us,ρ,j,w,e=>by
  rcases Dg (js:=js) (us:=us) (ρ:=ρ) (show(back js us ρ)[j]?=ž (ž w) from e)with⟨p,h1,h2⟩|⟨h1,h2⟩
  .exact .inl ⟨p+1,h1,h2⟩
  .refine .inr ⟨h1,λp z x=>?_⟩
   cases p with
   |zero=>intro q;cases q
   |succ p=>exact h2 p z x
 |k::js,ž u::us,ρ,j,w,e=>by
  rcases Dg (js:=js) (us:=us) (ρ:=ρ.set k (ž u)) (show(back js us<|ρ.set k<|some u)[j]?=ž (ž w) from e)with⟨p,h1,h2⟩|⟨h1,h2⟩
  .exact .inl ⟨p+1,h1,h2⟩
  .by_cases hk:k=j
   .subst hk
    have hl:k < (ρ.set k<|some u).length:=(qk.mp h1).1;rw[Ĺ]at hl;rw[ń hl]at h1;exact .inl ⟨0,rfl,by cases h1;rfl⟩
   .rw[qB hk]at h1
    refine .inr ⟨h1,λp z x=>?_⟩;cases p with
    |zero=>cases(show ž k=ž j from z);exact absurd rfl hk
    |succ p=>exact h2 p z x
def Ds:∀(js:Qa Nat) (us:Qa (Qb U)) (ρ:En),(back js us ρ).length=ρ.length
 |[],us,ρ=>by cases us<;>rfl
 |_::js,[],ρ=>rfl
 |_::js,Ž::us,ρ=>Ds js us ρ
 |j::js,ž u::us,ρ=>by show(back js us<|ρ.set j<|some u).length=_;rw[Ds];exact Ĺ
def Dv:∀{js:Qa Nat} {us:Qa (Qb U)} {ρ:En} {j:Nat} {w:U},ρ[j]?=ž (ž w)->∃w',(back js us ρ)[j]?=ž (ž w')
 |[],us,ρ,j,w,e=>⟨w,by cases us<;>exact e⟩
 |_::js,[],ρ,j,w,e=>⟨w,e⟩
 |_::js,Ž::us,ρ,j,w,e=>Dv (js:=js) (us:=us) e
 |k::js,ž u::us,ρ,j,w,e=>by
  by_cases hk:k=j
  .subst hk
   exact Dv (js:=js) (us:=us) (w:=u)<|Ą (qk.mp e).1
  .exact Dv (js:=js) (us:=us) (w:=w) (by rw[qB hk];exact e)
def Sn.comp_back{aD:En}(r:Rs K ρ σ H)(s:Sn K (nv nt js.length) (c0 nt js σ) (vq ρ σ js) H aB aD (c0 nt js σ) H')(l:aD.length=nt+js.length)(sh:iH (jc nt js ρ) aD):
  Go K ρ σ H (back js (aD.drop nt) ρ) H':=by
 have Af:∀(p:Nat) (w:U),(aD.drop nt)[p]?=ž (ž w)->aD[nt+p]?=ž (ž w):=λp w e=>by rw[a0w]at e;exact e
 have kp:Kp H H':=by
  refine⟨λb xs h=>s.fr b _ h λ⟨p,j,u,hj,hr,ou,es⟩=>?_,λb ob u h=>s.fr b _ h λ⟨p,j,u,hj,hr,ou,es⟩=>?_,λb x h=>s.fr b _ h λ⟨p,j,u,hj,hr,ou,es⟩=>?_⟩
  all_goals
   have(c,q,m):=r.ow ⟨j,u,hr,ou,es⟩;rw[h]at q;cases q;exact m
 have Jg:∀(p j:Nat) (w:U),js[p]?=ž j->(aD.drop nt)[p]?=ž (ž w)->w.own=ż->∃x,ρ[j]?=ž (ž x)/\x.own=ż:=λp j w hj e o=>by
  have(x,ex,ox):=sh.own (nt+p) w (Af p w e) o;have(p',j',ep,lM,hr):=yw ex;have:p'=p:=by omega
  subst this;rw[hj]at lM;cases lM;exact⟨x,hr,ox⟩
 have own:∀(j:Nat) (w:U),(back js (aD.drop nt) ρ)[j]?=ž (ž w)->w.own=ż->∃x,ρ[j]?=ž (ž x)/\x.own=ż:=λj w e o=>by
  rcases Dg e with⟨p,hj,hu⟩|⟨h1,_⟩
  .exact Jg p j w hj hu o
  .exact⟨w,h1,o⟩
 refine⟨⟨by rw[Ds];exact r.len,λj w e=>?_,λi j u w ei ej ou ow es=>?_⟩,λa o h n=>s.fr a o h λ⟨p,j,u,hj,hr,ou,es⟩=>n ⟨j,u,hr,ou,es⟩,⟨Ds _ _ _,own,λj w e=>Dv e⟩,s.dm⟩
 .rcases Dg e with⟨p,hj,hu⟩|⟨h1,h2⟩
  .have(v,ev,q):=s.rs.rep (nt+p) w (Af p w hu)
   rw[Lo hj]at ev;refine⟨v,?_,q⟩;rw[qA]at ev;cases z:σ[j]? with
   |none=>rw[z]at ev;cases ev
   |some o=>rw[z]at ev;exact congrArg ž<|qw ev
  .have(v,ev,q):=r.rep j w h1
   refine⟨v,ev,q.kp kp λow a c ea hc=>s.fr a c hc λ⟨p,j',u,hj,hr,ou,es⟩=>?_⟩;subst ea;have:j'=j:=r.apart j' j u w hr h1 ou ow (by rw[es,ev]);subst this;have e1:(jc nt js ρ)[nt+p]?=ž (ž u):=by
    unfold jc;rw[Ĥ (by simp),Ł,Ŋ,ĝ,hj];show ž (ρ.getD j' Ž)=_;rw[qA,hr];rfl
   have(w',gW):=sh.live _ _ e1;exact h2 p hj w' (by rw[a0w];exact gW)
 .have(x,ex,ox):=own i u ei ou
  have(y,ey,oy):=own j w ej ow;exact r.apart i j x y ex ey ox oy es
def iH.uu{kM aq:En}(l:kM.length=nt+n)(h0:∀i,i < nt->kM[i]?=ž Ž)(l1:aq.length=nt+n)(own:∀(i:Nat) (u:U),nt<=i->aq[i]?=ž (ž u)->u.own=ż->∃w,kM[i]?=ž (ž w)/\w.own=ż)(live:∀(i:Nat) (u:U),nt<=i->kM[i]?=ž (ž u)->∃w,aq[i]?=ž (ž w)):iH kM (Internal.reset nt aq):=by
 have at':∀i,nt<=i->(Internal.reset nt aq)[i]?=aq[i]?:=λi hi=>by
  unfold Internal.reset;rw[Ĥ (by simp;omega),Ł,a0w,show nt+(i - nt)=i by omega]
 have lo:∀i,i < nt->(Internal.reset nt aq)[i]?=ž Ž:=λi hi=>by
  unfold Internal.reset;rw[Ĩ (by simpa using hi),œ,a6P hi]
 refine⟨by unfold Internal.reset;simp;omega,λi u e o=>?_,λi u e=>?_⟩
 .by_cases hi:i < nt
  .rw[lo i hi]at e;cases e
  .rw[at' i (by omega)]at e
   exact own i u (by omega) e o
 .by_cases hi:i < nt
  .rw[h0 i hi]at e;cases e
  .rw[at' i (by omega)]
   exact live i u (by omega) e
def OO{aq:En}(h:i < nt):(Internal.reset nt aq)[i]?=ž Ž:=by
 unfold Internal.reset;rw[Ĩ (by simpa using h),œ,a6P h]
def Vr(h:i < nt):(jc nt js ρ)[i]?=ž Ž:=by
 unfold jc;rw[Ĩ (by simpa using h),œ,a6P h]
def VIA(K:qc)(js:Qa Nat)(wi:TI)(mi:MI):Prop :=
 ∀(ρ:En) (σ:St) (H:Hp) (ds:Qa D) (aj:En) (R:It->Hp->Prop),Rs K ρ σ H->mi ρ=ž (ds,aj)->(∀J H',Go K ρ σ H aj H'->(∀H2,Kp H' H2->Bp (vq aj σ js) H' H2->∀i:Nat,(∀d,ds[i]?=ž d->J.go i H2/\∀x H3,J.Ac i H2 x H3->dI H2 H3/\DF K H3 x d)/\(i=ds.length->J.stop i H2))->R J H')->wi σ H R
def zB3{wi:TI}{g:TG}{mi:MI}{mg:MG}{mt:MT}{me:ME}(hi:VIA K js wi mi)(hg:vi K (nv nt js.length) g mg)(ht:VT K tt mt)(he:VE K te me)(nd:js.Nodup:=by decide):
  VE K (Ak wi nt js g tt te) (q0 mi nt js mg mt me):=by
 intro ρ σ H a aj Q r e q;obtain⟨⟨ds,aq⟩,e1,e⟩:=bQ e;obtain⟨⟨zs,KU⟩,e2,e⟩:=bQ e;cases e;refine hi ρ σ H ds aq _ r e1 λJ H1 g1 run=>?_;have s1:=YM (nt:=nt) (js:=js) g1.rs nd;refine⟨λi m ys H'=>m=ds.length - i/\i<=ds.length/\∃kM yd,Sn K (nv nt js.length) (c0 nt js σ) (vq aq σ js) H1 H1 kM (c0 nt js σ) H'/\iH (jc nt js aq) kM/\(∀k,k < nt->kM[k]?=ž Ž)/\aQ K H' ys yd/\jM nt mg mt me (ds.drop i) kM yd=ž (zs,KU),
  ⟨ds.length,by simp,À _,_,[],s1,iH.refl _,λk hk=>Vr hk,.nil,e2⟩,?_⟩
 rintro i m ys H' ⟨rfl,iP,kM,yd,s',sh,lo,dy,el⟩;have lc:kM.length=nt+js.length:=by rw[sh.len,NF]
 by_cases eJ:i < ds.length
 .rw[ŋ eJ]at el
  unfold jM at el;split at el
  .rename_i hz
   have(aD,e3,el):=bQ el;obtain⟨⟨b,mm⟩,e4,el⟩:=bQ el;have(l2,p2):=hg.ok _ _ _ e3;have(go,yl):=(run H' s'.kp s'.fr i).1 ds[i] (ql eJ);refine .inr ⟨go,by rw[dy.len];exact hz,λiV H2=>∃kK DY,Sn K (nv nt js.length) (c0 nt js σ) (vq aq σ js) H1 H1 kK (c0 nt js σ) H2/\iH (jc nt js aq) kK/\(∀k,k < nt->kK[k]?=ž Ž)/\aQ K H2 iV DY/\jM nt mg mt me (ds.drop<|i+1) kK DY=ž (zs,KU),
    λiV H2 ⟨kK,DY,z⟩=>⟨ds.length - (i+1),by omega,rfl,eJ,kK,DY,z⟩,λx H2 y=>?_⟩
   have(sm,dx):=yl x H2 y;have s2:=s'.go (Go.grow s'.rs sm);refine hg.run _ _ _ _ kM _ H2 x ds[i] aD _ s2 dx e3 λgZ s3=>?_;have toEnd:∀{gH:En} {H4:Hp},Go K aD gZ H2 gH H4->Sn K (nv nt js.length) (c0 nt js σ) (vq aq σ js) H1 H1 (Internal.reset nt gH) (c0 nt js σ) H4/\iH (jc nt js aq) (Internal.reset nt gH):=λ{gH H4} g4=>by
    have l4:gH.length=nt+js.length:=by rw[g4.shr.len,l2,lc]
    refine⟨(s3.go g4).reset l4 MV,sh.trans<|iH.uu lc lo l4 (λk u hk ek ou=>?_) λk u hk ek=>?_⟩
    .have(w,ew,ow):=g4.shr.own k u ek ou
     have lk:k < nt+js.length:=by rw[<-l2.trans lc];exact(qk.mp ew).1
     rw[p2 k<|Dh.mpr ⟨hk,lk⟩]at ew;exact⟨w,ew,ow⟩
    .have lk:k < nt+js.length:=by rw[<-lc];exact(qk.mp ek).1
     rw[<-p2 k (Dh.mpr ⟨hk,lk⟩)]at ek;exact g4.shr.live k u ek
   refine ht aD gZ H2 b mm _ s3.rs e4 λH3 g3=>?_;dsimp only at el;split at el
   .rename_i hb
    rw[a6P hb];obtain⟨⟨a4,gH⟩,e5,el⟩:=bQ el;have(u,e6,el):=bQ el;refine he mm gZ H3 a4 gH _ g3.rs e5 λv H4 g4 k4=>?_;have pv:=k4.now g3.rs g4 e6;dsimp only at el;split at el
    .rename_i yv
     have(sn,sr):=toEnd (g3.trans g4);exact⟨_,_,sn,sr,λk hk=>OO hk,((dy.kp sm.kp).kp<|(g3.trans g4).kp s3.rs).snoc pv,el⟩
    .cases el
   .rename_i hb
    rw[a6Q hb];have(sn,sr):=toEnd g3;exact⟨_,_,sn,sr,λk hk=>OO hk,(dy.kp sm.kp).kp<|g3.kp s3.rs,el⟩
  .cases el
 .have ei:i=ds.length:=by omega
  subst ei;rw[a6r]at el;cases el;refine .inl ⟨(run H' s'.kp s'.fr _).2 rfl,λDa hD=>?_⟩;have gb:=Sn.comp_back g1.rs s' lc sh;have sm:=iz hD (.lst ys);exact q _ _ ((g1.trans gb).trans<|Go.grow gb.rs sm) ⟨⟨Da,ys,rfl,zz,dy.kp sm.kp⟩,λ_=>⟨Da,rfl,(g1.trans gb).dm _ hD⟩⟩
def xQ{wi:TI}{g:TG}{mi:MI}{mg:MG}{mt:MT}{me:ME}(hi:VI K wi mi)(hg:vi K (nv nt js.length) g mg)(ht:VT K tt mt)(he:VE K te me)(nd:js.Nodup:=by decide):
  VE K (Ak wi nt js g tt te) (q0 mi nt js mg mt me):=zB3 (λρ σ H ds aj R r e q=>hi ρ σ H ds aj R r e λJ H' g run=>q J H' g λH2 k _=>run H2 k) hg ht he nd
end
section
variable{EX:eK}{A:Qg->Prop}{l7:Hp}{ρ aj:En}
def ft(pn:Qa Nat)(ρ:En):Nat->Qa U->Qb (Qa U)
 |_,[]=>ž []
 |i,u::us=>(if i∈pn then(ρ[i]?).join.bind λo=>if o.own=ż/\u.own=Ż then Ž else ž o else if u.own=ż then Ž else ž u).bind λo=>(ft pn ρ (i+1) us).bind λos=>ž<|o::os
def cQ(n:Nat)(pn:Qa Nat)(m:MS):FD:=λus=>(m<|sm us++Ě (n - us.length) Ž).bind λf=>match f with
 |.rt u ρ=>(ft pn ρ 0 us).bind λos=>ž (u,os)
 |.nx ρ=>(ft pn ρ 0 us).bind λos=>ž (.d .none,os)
 |_=>Ž
def ON:∀{us os:Qa U} {i:Nat},ft pn ρ i us=ž os->os.length=us.length
 |[],os,i,e=>by cases e;rfl
 |u::us,os,i,e=>by
  have(o,e1,e):=bQ e;have(sQ,e2,e):=bQ e;cases e;simp[ON e2]
def yI:∀{us os:Qa U} {i p:Nat} {o:U},ft pn ρ i us=ž os->os[p]?=ž o->∃u,us[p]?=ž u/\((i+p∈pn/\ρ[i+p]?=ž (ž o)/\(o.own=ż->u.own=ż))\/(i+p∉pn/\o=u/\u.own=Ż))
 |[],os,i,p,o,e,ep=>by cases e;simp at ep
 |u::us,os,i,p,o,e,ep=>by
  have(o1,e1,e):=bQ e;have(sQ,e2,e):=bQ e;cases e;cases p with
  |zero=>
   cases(show ž o1=ž o from ep);refine⟨u,rfl,?_⟩;rw[ϻ];split at e1
   .rename_i hi
    have(o2,e3,e1):=bQ e1;split at e1
    .cases e1
    .rename_i hc
     cases e1;refine .inl ⟨hi,?_,λoo=>?_⟩
     .cases q:ρ[i]? with
      |none=>rw[q]at e3;cases e3
      |some x=>rw[q]at e3;cases x with
       |none=>cases e3
       |some y=>cases e3;rfl
     .cases hu:u.own with
      |true=>rfl
      |false=>exact absurd ⟨oo,hu⟩ hc
   .rename_i hi
    split at e1
    .cases e1
    .rename_i hc
     cases e1;exact .inr ⟨hi,rfl,by simpa using hc⟩
  |succ p=>
   have(u',eu,h):=yI (i:=i+1) (p:=p) e2 ep;refine⟨u',eu,?_⟩;rw[show i+(p+1)=i+1+p by omega];exact h
def OM:∀{us os:Qa U} {i p:Nat} {u:U},ft pn ρ i us=ž os->us[p]?=ž u->u.own=ż->i+p∈pn
 |[],os,i,p,u,e,ep,_=>by simp at ep
 |u::us,os,i,p,u',e,ep,o=>by
  have(o1,e1,e):=bQ e;have(sQ,e2,e):=bQ e;cases p with
  |zero=>
   cases(show ž u=ž u' from ep);rw[ϻ];split at e1
   .assumption
   .first|cases e1 | (rw[a6P o]at e1;cases e1)
  |succ p=>
   rw[show i+(p+1)=i+1+p by omega];exact OM (i:=i+1) (p:=p) e2 ep o
def yN(h:i < vs.length):(π N vs)[i]?=(e8 vs)[i]?:=by
 unfold π e8;rw[Ĩ (by simpa using h)]
def OL{us os:Qa U}{U3:En}(r:Rs K (sm us) (e8 vs) H)(hl:us.length<=N.length)(ho:ft pn U3 0 us=ž os):
  Sn K pn (π N vs) (Ow (sm us)<|e8 vs) H H (sm us++Ě (N.length - us.length) Ž) (π N vs) H:=by
 have lv:us.length=vs.length:=by have:=r.len;unfold sm e8 at this;simpa using this
 have inv:∀(i:Nat) (u:U),(sm us++Ě (N.length - us.length) Ž)[i]?=ž (ž u)->i < us.length/\(sm us)[i]?=ž (ž u):=λi u e=>by
  by_cases hi:i < us.length
  .rw[Ĩ (by unfold sm;simpa using hi)]at e
   exact⟨hi,e⟩
  .rw[Ĥ (by unfold sm;simp;omega),œ]at e
   split at e<;>cases e
 refine⟨⟨?_,λi u e=>?_,λi j u w ei ej ou ow es=>?_⟩,λ_ _ h _=>h,λi u a e o es=>?_,λ_ _=>rfl,λ_ h=>h,Kp.refl H⟩
 .unfold π sm;simp;omega
 .have(hi,e'):=inv i u e
  rw[yN (by omega)];exact r.rep i u e'
 .have(hi,tu):=inv i u ei
  have(hj,rJ):=inv j w ej;rw[yN (by omega),yN (by omega)]at es;exact r.apart i j u w tu rJ ou ow es
 .have(hi,e'):=inv i u e
  rw[yN (by omega)]at es;have:=OM ho (iu.mp e') o;rw[ř]at this;exact .inl ⟨this,i,u,e',o,es⟩
def yu{us os:Qa U}{aK:St}(r:Rs K (sm us) (e8 vs) H)(s:Sn K pn (π N vs) (Ow (sm us)<|e8 vs) H H aj aK H')(ho:ft pn aj 0 us=ž os):Go K (sm us) (e8 vs) H (sm os) H':=by
 have lv:us.length=vs.length:=by have:=r.len;unfold sm e8 at this;simpa using this
 have lo:=ON ho;have xA:∀{p:Nat} {o:U},os[p]?=ž o->p < vs.length:=λ{p o} e=>by have:=(qk.mp e).1;omega
 have pin:∀{p:Nat} {o:U},os[p]?=ž o->p∈pn->aK[p]?=(e8 vs)[p]?:=λ{p o} e hp=>by rw[s.pin p hp,yN<|xA e]
 refine⟨⟨by unfold sm e8;simp;omega,λp o e=>?_,λp q o o' ep eq oo Jh es=>?_⟩,s.fr,⟨by unfold sm;simp;omega,λp o e oo=>?_,λp u e=>?_⟩,s.dm⟩
 .have e':=iu.mp e
  have(u,eu,h):=yI ho e';rw[ř]at h;rcases h with⟨hp,hr,_⟩|⟨_,rfl,ou⟩
  .have(v,ev,q):=s.rs.rep p o hr
   rw[pin e' hp]at ev;exact⟨v,ev,q⟩
  .have(v,ev,q):=r.rep p o (iu.mpr eu)
   exact⟨v,ev,q.kp s.kp λoo=>by rw[ou]at oo;cases oo⟩
 .have gX:=iu.mp ep
  have EN:=iu.mp eq;have(u,eu,h):=yI ho gX;have(u',Ue,h'):=yI ho EN;rw[ř]at h h';rcases h with⟨hp,hr,_⟩|⟨_,rfl,ou⟩
  .rcases h' with⟨hq,Eu,_⟩|⟨_,rfl,qZ⟩
   .rw[<-pin gX hp,<-pin EN hq]at es
    exact s.rs.apart p q o o' hr Eu oo Jh es
   .rw[qZ]at Jh;cases Jh
  .rw[ou]at oo;cases oo
 .have e':=iu.mp e
  have(u,eu,h):=yI ho e';rcases h with⟨_,_,h⟩|⟨_,rfl,ou⟩
  .exact⟨u,iu.mpr eu,h oo⟩
  .rw[ou]at oo;cases oo
 .have e':=iu.mp e
  have hp:p < os.length:=by have:=(qk.mp e').1;omega
  exact⟨os[p],iu.mpr<|ql hp⟩
def jS.okV{f:Qg}{k nn:Nat}{m:MS}(F:jS K x qual st f fd)(S:bA N ps (zN st))(uN:ps.length=n)(hN:N.length=nn)(nX:n<=nn)
  (bP:∀(bo:Qc) (A:Qf) (outer:Qa Env) (s:Qd) (H:Hp) (E:XK),aG k (A.deeper<|a0z qual (zN st) s.heap.objs.size f bo)->
   ∃t,Wr (fu (jV iS P w K mg base N qual (zN st) f bo A outer s H E).uz (j0 st) t)/\VS K pn KQ t m):bU P w K mg base iS (k+1) f fd ps (qX K n<|cQ nn pn m):=by
 refine F.okW S (λvs H Q E h=>?_) λbo A outer s H vs Q E hr h=>?_
 .have(us,r,outs,hl,rs,_):=h
  have:=rs.len;unfold sm e8 at this;simp at this;omega
 have(us,r,outs,hl,rs,ef,q):=h;have(t,wt,vt):=bP bo A outer s H E hr;refine⟨t,wt,?_⟩;have(fl,em,ef):=bQ ef;have go:∀(aj:En),ft pn aj 0 us=ž outs->Sn K pn (π N vs) (Ow (sm us)<|e8 vs) H H (sm us++Ě (N.length - us.length) Ž) (π N vs) H:=λaj ho=>OL rs (by omega) ho;subst hN;cases fl with
 |nx aj=>
  have(os,eo,ef):=bQ (show(ft pn aj 0 us).bind _=_ from ef);cases ef;refine vt _ _ _ _ _ _ _ (.nx aj) _ (go aj eo) em λaK H' s'=>?_;exact q _ _ (yu rs s' eo) .aO Nw.data
 |rt u aj=>
  have(os,eo,ef):=bQ (show(ft pn aj 0 us).bind _=_ from ef);cases ef;refine vt _ _ _ _ _ _ _ (.rt r aj) _ (go aj eo) em λv aK H' s' p n'=>?_;exact q _ _ (yu rs s' eo) p n'
 |bk=>cases ef
 |ct=>cases ef
 |ex=>cases ef
end
section
variable{EX:eK}{ρ aj:En}
def mE(i:Nat)(me:ME):ME:=λρ=>match ρ[i]? with
 |some (ž<|.l _)=>(me ρ).bind λp=>(p.1.get p.2).bind λu=>match u,p.2[i]? with
  |.d x,ž (ž<|.l xs)=>if xs.length < Ĕ then ž (.u<|.d .none,p.2.set i<|some<|.l<|xs++[x])else Ž
  |_,_=>Ž
 |_=>Ž
def tQ{me:ME}(h:VE K te me):VE K (D3 K "list" Oe (ni i)<|oN te pX) (mE i me):=by
 intro ρ σ H a aj Q r e q;unfold mE at e;split at e
 .rename_i xs0 e0
  obtain⟨⟨b,aq⟩,e1,e⟩:=bQ e;have(u,eu,e):=bQ e;have(v0,lQ,p0):=r.rep i _ e0;have(l,us0,rfl,AO,_):=p0;refine⟨_,lQ,.inl ⟨rfl,us0,b9.of AO⟩,?_⟩;refine h ρ σ H b aq _ r e1 λv H1 g1 k1=>?_;have pv:=k1.now r g1 eu;dsimp only at e;split at e
  .rename_i x xs ex
   split at e
   .rename_i hz
    cases e;have(w,ew,p1):=g1.rs.rep i _ ex;have(l',us,rfl,hl,ds):=p1;rw[lQ]at ew;cases ew;refine⟨l,us,v,rfl,rfl,hl,by rw[ds.len];exact hz,q _ _ (g1.trans<|Go.own (u':=.l (xs++[x])) g1.rs ex rfl lQ ?_) ⟨.aO,Nw.data⟩⟩;have kp:=oS hl trivial (.lst<|us++[v]);exact⟨l,_,rfl,zz,(ds.kp kp).snoc<|DF.kp kp pv⟩
   .cases e
  .cases e
 .cases e
def Pu{o:Qb (Qb U)}{u:U}(e:o.join=ž u):o=ž (ž u):=by
 cases o with
 |none=>cases e
 |some x=>cases x with
  |none=>cases e
  |some y=>cases e;rfl
def rX(i:Nat)(me mi:ME):MS:=λρ=>(ρ[i]?).join.bind λ_=>(me ρ).bind λp=>(mi p.2).bind λq=>(p.1.get q.2).bind λu=>(q.1.get q.2).bind λw=>match u,w,q.2[i]? with
 |.d x,.d<|.int k,ž (ž<|.l xs)=>(fQ xs.length k).bind λj=>ž<|.nx<|q.2.set i<|some<|.l<|xs.set j x
 |_,_,_=>Ž
def Df{ti:TE}{me mi:ME}(h:VE K te me)(hi:VE K ti mi):VS K pn EX (pY te<|FC (ni i) ti LW) (rX i me mi):=by
 intro ao A aA aB ρ σ H f D s e k;replace e:=bQ e;have(w0,e0,e):=e;replace e:=bQ e;obtain⟨⟨a,aq⟩,e1,e⟩:=e;replace e:=bQ e;obtain⟨⟨b,aD⟩,e2,e⟩:=e;replace e:=bQ e;have(u,eu,e):=e;replace e:=bQ e;have(w,ew,e):=e;have(v0,lQ,_):=s.rs.rep i w0 (Pu e0);refine h ρ σ H a aq _ s.rs e1 λv H1 g1 k1=>⟨v0,lQ,?_⟩;refine hi aq σ H1 b aD _ g1.rs e2 λy H2 g2 k2=>?_;have pv:=k1.later s.rs g1 g2 eu;have py:=k2.now g1.rs g2 ew;dsimp only at e;split at e
 .rename_i x n xs ex
  replace e:=bQ e;have(j,ej,e):=e;cases e;have(w',gW,p1):=g2.rs.rep i _ ex;have(l,us,rfl,hl,ds):=p1;rw[lQ]at gW;cases gW;refine⟨l,us,n,j,rfl,DF.int_inv py,hl,by rw[ds.len];exact ej,k _ _<|(s.go<|g1.trans g2).go<|Go.own (u':=.l (xs.set j x)) g2.rs ex rfl lQ ?_⟩;have kp:=oS hl trivial (.lst<|us.set j v);exact⟨l,_,rfl,zz,(ds.kp kp).set (DF.kp kp pv) j⟩
 .cases e
noncomputable def pR:Qa D->Qb (Qa Key)
 |[]=>ž []
 |.int i::ds=>(pR ds).bind λks=>ž<|.inl i::ks
 |.str x::ds=>(pR ds).bind λks=>ž<|.inr x::ks
 |_::_=>Ž
def dR:D->Qb (Qa Key)
 |.tuple ds=>pR ds
 |_=>Ž
def nu:D->Qb Key
 |.int i=>ž<|.inl i
 |.str x=>ž<|.inr x
 |_=>Ž
def GZ:∀ks:Qa Key,pR (ks.map AB)=ž ks
 |[]=>rfl
 |.inl i::ks=>by show(pR<|ks.map AB).bind _=_;rw[GZ ks];rfl
 |.inr x::ks=>by show(pR<|ks.map AB).bind _=_;rw[GZ ks];rfl
def Dr(ks:Qa Key):dR (jN ks)=ž ks:=GZ ks
def Gq:∀{ds:Qa D} {ks:Qa Key} {xs:Qa V},aQ K H xs ds->pR ds=ž ks->xs=ks.map kV
 |[],ks,xs,h,e=>by cases e;cases h;rfl
 |d::ds,ks,xs,h,e=>by
  cases h with
  |cons h1 t=>
   cases d with
   |int i=>
    have(nP,e1,e):=bQ (show(pR ds).bind (λks=>ž<|a0c i::ks)=ž ks from e);cases e;rw[Gq t e1,DF.int_inv h1];rfl
   |str x=>
    have(nP,e1,e):=bQ (show(pR ds).bind (λks=>ž<|a0Q x::ks)=ž ks from e);cases e;rw[Gq t e1,DF.str_inv h1];rfl
   |_=>cases e
def yH{d:D}{ks:Qa Key}(h:DF K H v d)(e:dR d=ž ks):∃b,v=.ref b/\be K H b (ks.map kV):=by
 cases d with
 |tuple ds=>
  have(b,xs,rfl,h1,h2):=DF.aH h;exact⟨b,rfl,by rw[<-Gq h2 e];exact h1⟩
 |_=>cases e
def MU{d:D}{k:Key}(h:DF K H v d)(e:nu d=ž k):v=kV k:=by
 cases d with
 |int i=>cases e;exact DF.int_inv h
 |str x=>cases e;exact DF.str_inv h
 |_=>cases e
def De:∀{ks:Qa Key},aQ K H (ks.map kV)<|ks.map AB
 |[]=>.nil
 |.inl i::ks=>.cons (.int i) De
 |.inr x::ks=>.cons (.str x) De
section
variable{κ:Type}[DecidableEq κ]
noncomputable def tH(kvs:Qa (κ×D))(k:κ):Qb D:=(kvs.find? λkv=>decide<|kv.1=k).map (·.2)
noncomputable def mD(kvs:Qa (κ×D))(k:κ)(d:D):Qa (κ×D):=if(kvs.any λkv=>decide<|kv.1=k)=ż then kvs.map (λkv=>if kv.1=k then(kv.1,d)else kv)else kvs++[(k,d)]
def fA.val{ws:Qa (κ×V)}{kvs:Qa (κ×D)}(h:fA K H ws kvs)(k:κ):(∃v d,jn ws k=ž v/\tH kvs k=ž d/\DF K H v d)\/(jn ws k=Ž/\tH kvs k=Ž):=by
 induction h with
 |nil=>exact .inr ⟨rfl,rfl⟩
 | @cons p q ps qs hq t ih=>
  unfold jn tH at ih ⊢;rw[Į,Į]
  by_cases hk:p.1=k
  .have i7:q.1=k:=hq.1▸hk
   rw[a6R hk,a6R i7];exact .inl ⟨_,_,rfl,rfl,hq.2⟩
  .have i7:¬q.1=k:=λz=>hk<|hq.1.trans z
   rw[a6S hk,a6S i7];exact ih
def fA.any{ws:Qa (κ×V)}{kvs:Qa (κ×D)}(h:fA K H ws kvs)(k:κ):(ws.any λkv=>decide<|kv.1=k)=(kvs.any λkv=>decide<|kv.1=k):=by
 induction h with
 |nil=>rfl
 | @cons p q ps qs hq t ih=>rw[ŵ,ŵ,ih,hq.1]
def fA.nL{ws:Qa (κ×V)}{kvs:Qa (κ×D)}(h:fA K H ws kvs)(k:κ){d:D}(hd:DF K H v d):fA K H (ws.map λkv=>if kv.1=k then(kv.1,v)else kv) (kvs.map λkv=>if kv.1=k then(kv.1,d)else kv):=by
 induction h with
 |nil=>exact .nil
 | @cons p q ps qs hq t ih=>
  refine .cons ?_ ih;dsimp only
  by_cases hk:p.1=k
  .have i7:q.1=k:=hq.1▸hk
   rw[a6P hk,a6P i7];exact⟨hq.1,hd⟩
  .have i7:¬q.1=k:=λz=>hk<|hq.1.trans z
   rw[a6Q hk,a6Q i7];exact hq
def fA.put{ws:Qa (κ×V)}{kvs:Qa (κ×D)}(h:fA K H ws kvs)(k:κ){d:D}(hd:DF K H v d):fA K H (jm ws k v) (mD kvs k d):=by
 unfold jm mD;rw[h.any k];split
 .exact h.nL k hd
 .exact a4q h ⟨rfl,hd⟩
def fA.len{ws:Qa (κ×V)}{kvs:Qa (κ×D)}(h:fA K H ws kvs):ws.length=kvs.length:=a0F h
end
def vM(kvs:Qa (D×D))(k:Qa Key):Qb D:=(kvs.find? λkv=>decide<|dR kv.1=ž k).map (·.2)
def jg.val{kvs:Qa (D×D)}(h:jg K H ws kvs)(k:Qa Key):(∃v d,jn ws k=ž v/\vM kvs k=ž d/\DF K H v d)\/(jn ws k=Ž/\vM kvs k=Ž):=by
 induction ws generalizing kvs with
 |nil=>cases h;exact .inr ⟨rfl,rfl⟩
 |cons p ws ih=>
  cases h with
  | @cons k' v d _ ds hv t=>
   unfold jn vM at ih ⊢;rw[Į,Į]
   by_cases hk:k'=k
   .have i7:dR (jN k')=ž k:=by rw[Dr,hk]
    rw[a6R hk,a6R i7];exact .inl ⟨_,_,rfl,rfl,hv⟩
   .have i7:¬dR (jN k')=ž k:=by rw[Dr];exact λz=>hk<|qw z
    rw[a6S hk,a6S i7];exact ih t
def kN(u y:U):Qb (Qb D):=match u,y with
 |.t kvs,.d y=>(dR y).map λk=>tH kvs k
 |.k kvs,.d y=>(nu y).map λk=>tH kvs k
 |.d (.dict kvs),.d y=>if ko kvs=ż then(dR y).map λk=>vM kvs k else Ž
 |_,_=>Ž
def GY{u y:U}{o:Qb D}{x:V}(hu:Rp K H x u)(hy:Rp K H v y)(e:kN u y=ž o):∃a,x=.ref a/\((∃w d,o=ž d/\pW K H a v (ž w)/\DF K H w d)\/(o=Ž/\pW K H a v Ž)):=by
 unfold kN at e;split at e
 .rename_i kvs y
  have(k,ek,rfl):=qq.mp e;have(a,ws,rfl,h1,h2):=hu;have(b,rfl,hb):=yH hy ek;refine⟨a,rfl,?_⟩;rcases h2.val k with⟨w,d,e1,e2,p⟩|⟨e1,e2⟩
  .exact .inl ⟨w,d,e2,.inr ⟨ws,k,b,.inl h1,rfl,hb,e1.symm⟩,p⟩
  .exact .inr ⟨e2,.inr ⟨ws,k,b,.inl h1,rfl,hb,e1.symm⟩⟩
 .rename_i kvs y
  have(k,ek,rfl):=qq.mp e;have(a,ws,rfl,h1,h2):=hu;cases MU hy ek;refine⟨a,rfl,?_⟩;rcases h2.val k with⟨w,d,e1,e2,p⟩|⟨e1,e2⟩
  .exact .inl ⟨w,d,e2,.inl ⟨ws,k,.inl h1,rfl,e1.symm⟩,p⟩
  .exact .inr ⟨e2,.inl ⟨ws,k,.inl h1,rfl,e1.symm⟩⟩
 .rename_i kvs y
  split at e
  rotate_left
  .cases e
  rename_i nx;have(k,ek,rfl):=qq.mp e;have(a,ob,ws,rfl,h1,h2):=DF.du hu nx;have(b,rfl,hb):=yH hy ek;refine⟨a,rfl,?_⟩;rcases h2.val k with⟨w,d,e1,e2,p⟩|⟨e1,e2⟩
  .exact .inl ⟨w,d,e2,.inr ⟨ws,k,b,.inr ⟨ob,h1⟩,rfl,hb,e1.symm⟩,p⟩
  .exact .inr ⟨e2,.inr ⟨ws,k,b,.inr ⟨ob,h1⟩,rfl,hb,e1.symm⟩⟩
 .cases e
def jY(md my:ME):ME:=λρ=>(md ρ).bind λp=>(my p.2).bind λq=>(p.1.get q.2).bind λu=>(q.1.get q.2).bind λy=>(kN u y).bind λo=>o.bind λd=>ž (.u<|.d d,q.2)
def qG{md my:ME}(hd:VE K td md)(hy:VE K ty my):VE K (Gh K td ty) (jY md my):=by
 intro ρ σ H a aj Q r e q;obtain⟨⟨a1,aq⟩,e1,e⟩:=bQ e;obtain⟨⟨b1,aD⟩,e2,e⟩:=bQ e;have(u,eu,e):=bQ e;have(y,ey,e):=bQ e;have(o,eo,e):=bQ e;have(d,ed,e):=bQ e;cases e;refine hd ρ σ H a1 aq _ r e1 λv1 H1 g1 k1=>hy aq σ H1 b1 _ _ g1.rs e2 λv2 H2 g2 k2=>?_;have(b,rfl,h):=GY (k1.later r g1 g2 eu) (k2.now g1.rs g2 ey) eo;rcases h with⟨w,d',rfl,g,p⟩|⟨rfl,_⟩
 .cases ed
  exact⟨b,w,rfl,g,q w H2 (g1.trans g2) ⟨p,Nw.data⟩⟩
 .cases ed
def BM(neg:Bool)(my md:ME):ME:=λρ=>(my ρ).bind λq=>(md q.2).bind λp=>(p.1.get p.2).bind λu=>(q.1.get p.2).bind λy=>(kN u y).bind λo=>ž (.u<|.d<|.bool (if neg=ż then !o.isSome else o.isSome),p.2)
def zr9{md my:ME}(hy:VE K ty my)(hd:VE K td md):VE K (Hc K ty td) (BM ż my md):=by
 intro ρ σ H a aj Q r e q;obtain⟨⟨b1,aq⟩,e1,e⟩:=bQ e;obtain⟨⟨a1,aD⟩,e2,e⟩:=bQ e;have(u,eu,e):=bQ e;have(y,ey,e):=bQ e;have(o,eo,e):=bQ e;cases e;refine hy ρ σ H b1 aq _ r e1 λv1 H1 g1 k1=>hd aq σ H1 a1 _ _ g1.rs e2 λv2 H2 g2 k2=>?_;have(b,rfl,h):=GY (k2.now g1.rs g2 eu) (k1.later r g1 g2 ey) eo;rcases h with⟨w,d',rfl,g,p⟩|⟨rfl,g⟩
 .exact⟨b,_,rfl,g,q _ H2 (g1.trans g2) ⟨.bl _,Nw.data⟩⟩
 .exact⟨b,_,rfl,g,q _ H2 (g1.trans g2) ⟨.bl _,Nw.data⟩⟩
noncomputable def mQ:ME:=λρ=>ž (.u<|.t [],ρ)
def qM:VE K CO mQ:=by
 intro ρ σ H a aj Q r e q;cases e;intro p hp;have sm:=iz hp (.dT []);exact q _ _ (Go.grow r sm) ⟨⟨p,[],rfl,zz,.nil⟩,λ_=>⟨p,rfl,hp⟩⟩
def mJ(i:Nat)(my mv:ME):MS:=λρ=>(ρ[i]?).join.bind λ_=>(mv ρ).bind λp=>(my p.2).bind λq=>(p.1.get q.2).bind λx=>(q.1.get q.2).bind λy=>match x,y,q.2[i]? with
 |.d x,.d y,ž (ž<|.t kvs)=>(dR y).bind λk=>if kvs.length < Ĕ then ž (.nx<|q.2.set i<|some<|.t<|mD kvs k x)else Ž
 |.d x,.d y,ž (ž<|.k kvs)=>(nu y).bind λk=>if kvs.length < Ĕ then ž (.nx<|q.2.set i<|some<|.k<|mD kvs k x)else Ž
 |_,_,_=>Ž
def tX{my mv:ME}(hy:VE K ty my)(hv:VE K tv mv):VS K pn EX (Gg K (ni i) ty tv) (mJ i my mv):=by
 intro ao A aA aB ρ σ H f D s e k;replace e:=bQ e;have(w0,e0,e):=e;replace e:=bQ e;obtain⟨⟨a,aq⟩,e1,e⟩:=e;replace e:=bQ e;obtain⟨⟨b,aD⟩,e2,e⟩:=e;replace e:=bQ e;have(u,eu,e):=e;replace e:=bQ e;have(w,ew,e):=e;have(v0,lQ,_):=s.rs.rep i w0 (Pu e0);refine hv ρ σ H a aq _ s.rs e1 λv H1 g1 k1=>⟨v0,lQ,?_⟩;refine hy aq σ H1 b aD _ g1.rs e2 λy H2 g2 k2=>?_;have pv:=k1.later s.rs g1 g2 eu;have py:=k2.now g1.rs g2 ew;dsimp only at e;split at e
 .rename_i x yd kvs ex
  replace e:=bQ e;have(ks,ek,e):=e;split at e
  .rename_i hz
   cases e;have(w',gW,p1):=g2.rs.rep i _ ex;have(l,us,rfl,hl,ds):=p1;rw[lQ]at gW;cases gW;have(kb,rfl,AS):=yH py ek;refine⟨l,_,rfl,rS.t hl AS (by rw[ds.len];exact hz),k _ _<|(s.go<|g1.trans g2).go<|Go.own (u':=.t (mD kvs ks x)) g2.rs ex rfl lQ ?_⟩;have kp:=oS hl trivial (.dT<|jm us ks v);exact⟨l,_,rfl,zz,(ds.kp kp).put ks<|DF.kp kp pv⟩
  .cases e
 .rename_i x yd kvs ex
  replace e:=bQ e;have(ks,ek,e):=e;split at e
  .rename_i hz
   cases e;have(w',gW,p1):=g2.rs.rep i _ ex;have(l,us,rfl,hl,ds):=p1;rw[lQ]at gW;cases gW;cases MU py ek;refine⟨l,_,rfl,rS.k hl (by rw[ds.len];exact hz),k _ _<|(s.go<|g1.trans g2).go<|Go.own (u':=.k (mD kvs ks x)) g2.rs ex rfl lQ ?_⟩;have kp:=oS hl trivial (.dK<|jm us ks v);exact⟨l,_,rfl,zz,(ds.kp kp).put ks<|DF.kp kp pv⟩
  .cases e
 .cases e
def rV:U->Qb (Qa D)
 |.d (.dict kvs)=>if ko kvs=ż then ž (kvs.map (·.1))else Ž
 |_=>Ž
def zsa{kvs:Qa (D×D)}(h:jg K H ws kvs):kvs.map (·.1)=ws.map λp=>jN p.1 :=
 h.ind (P:=λws kvs=>kvs.map (·.1)=ws.map λp=>jN p.1) rfl λ_ _ t=>by rw[ę,ę,t]
def yG{me:ME}(h:VE K te me):VI K (MQ K te) (gS rV me):=by
 intro ρ σ H ds aj R r e q;obtain⟨⟨a,aq⟩,e1,e⟩:=bQ e;have(u,eu,e):=bQ e;have(xs,ex,e):=bQ e;cases e;refine h ρ σ H a _ _ r e1 λv H1 g1 k1=>?_;have p:=k1.now r g1 eu;unfold rV at ex;split at ex
 .split at ex
  rotate_left
  .cases ex
  rename_i nx;cases ex;have(b,o,ws,rfl,h1,h2):=DF.du p nx;refine⟨b,ws,rfl,.inr ⟨o,h1,q _ _ g1 λH2 k i=>?_⟩⟩;rw[zsa h2];have lN:=k.aZ _ _ _ h1;refine⟨λd ed=>?_,λei=>?_⟩
  .rw[ĝ]at ed
   obtain⟨⟨ks,w⟩,ew,rfl⟩:=qq.mp ed;refine⟨⟨lN,(qk.mp ew).1⟩,λx H' y=>?_⟩;have(rfl,y):=y;have(kb,rfl,AS):=y ks w ew;exact⟨λ_ _ z=>z,.tup AS De⟩
  .rw[ē]at ei
   exact⟨lN,đ ei.symm⟩
 .cases ex
end
section
variable{ρ aj:En}
abbrev MO:=En->Qb (Qb Int×En)
def BL(K:qc)(t:TO)(m:MO):Prop :=
 ∀(ρ:En) (σ:St) (H:Hp) (o:Qb Int) (aj:En) (Q:Qb Int->Hp->Prop),Rs K ρ σ H->m ρ=ž (o,aj)->(∀H',Go K ρ σ H aj H'->Q o H')->t σ H Q
noncomputable def nG:MO:=λρ=>ž (Ž,ρ)
def nC(me:ME):MO:=λρ=>(me ρ).bind λp=>(p.1.get p.2).bind λu=>match u with |.d (.int i)=>ž (ž i,p.2) |_=>Ž
def sv:BL K Hf nG:=λρ σ H o aj Q r e q=>by cases e;exact q H<|Go.refl r
def su{me:ME}(h:VE K te me):BL K (F5 te) (nC me):=by
 intro ρ σ H o aj Q r e q;replace e:=bQ e;obtain⟨⟨a,aq⟩,e1,e⟩:=e;replace e:=bQ e;have(u,eu,e):=e;refine h ρ σ H a aq _ r e1 λv H1 g1 k1=>?_;have p:=k1.now r g1 eu;dsimp only at e;split at e
 .rename_i i
  cases e;exact⟨i,DF.int_inv p,q _ g1⟩
 .cases e
def jz(xs:Qa D)(lo hi:Qb Int):Qa D:=(xs.drop<|HT.aV xs.length 0 lo).take (HT.aV xs.length xs.length hi - HT.aV xs.length 0 lo)
def aQ.cut{xs:Qa V}{ds:Qa D}(h:aQ K H xs ds)(lo hi:Qb Int):aQ K H (mG xs lo hi) (jz ds lo hi):=by
 unfold mG jz;rw[h.len];exact(h.drop _).take _
def KD(K:qc)(r:V->Qb Int->Qb Int->Hp->VK->Prop)(f:U->Qb Int->Qb Int->Qb U):Prop :=
 ∀(x:V) (a u:U) (lo hi:Qb Int) (H:Hp) (Q:VK),Rp K H x a->f a lo hi=ž u->(∀v H',dI H H'->Rp K H' v u->Nw H v u->Q v H')->r x lo hi H Q
def nN(f:U->Qb Int->Qb Int->Qb U)(me:ME)(ml mh:MO):ME:=λρ=>(me ρ).bind λp=>(ml p.2).bind λl=>(mh l.2).bind λh=>(p.1.get h.2).bind λx=>(f x l.1 h.1).bind λu=>ž (.u u,h.2)
def rQ{r:V->Qb Int->Qb Int->Hp->VK->Prop}{f:U->Qb Int->Qb Int->Qb U}{tl th:TO}{me:ME}{ml mh:MO}(hs:KD K r f)(he:VE K te me)(hl:BL K tl ml)(hh:BL K th mh):VE K (IV r te tl th) (nN f me ml mh):=by
 intro ρ σ H a aj Q rs e q;obtain⟨⟨a1,aq⟩,e1,e⟩:=bQ e;obtain⟨⟨lo,aD⟩,e2,e⟩:=bQ e;obtain⟨⟨hi,mm⟩,e3,e⟩:=bQ e;have(x,ex,e):=bQ e;have(u,eu,e):=bQ e;cases e;refine he ρ σ H a1 aq _ rs e1 λv1 H1 g1 k1=>hl aq σ H1 lo aD _ g1.rs e2 λH2 g2=>hh aD σ H2 hi _ _ g2.rs e3 λH3 g3=>?_;refine hs _ x u lo hi H3 _ (k1.later rs g1 (g2.trans g3) ex) eu λv H4 s p n=>?_;have g:=g1.trans (g2.trans g3);exact q v H4 (g.trans<|Go.grow g.rs s) ⟨p,n.mono g.dm⟩
def xN(u:U)(lo hi:Qb Int):Qb U:=match u with
 |.l xs=>ž<|.l<|jz xs lo hi
 |.d (.list xs)=>ž<|.l<|jz xs lo hi
 |_=>Ž
def ND:KD K (Fe K) xN:=by
 intro x a u lo hi H Q p e q;unfold xN at e;split at e
 .cases e
  have(b,us,rfl,h1,h2):=p;refine⟨b,us,rfl,b9.of h1,λl hl=>?_⟩;have sm:=iz hl (.lst<|mG us lo hi);exact q _ _ sm ⟨l,_,rfl,zz,(h2.cut lo hi).kp sm.kp⟩ λ_=>⟨l,rfl,hl⟩
 .cases e
  have(b,us,rfl,h1,h2):=DF.lst_inv p;refine⟨b,us,rfl,h1.sq,λl hl=>?_⟩;have sm:=iz hl (.lst<|mG us lo hi);exact q _ _ sm ⟨l,_,rfl,zz,(h2.cut lo hi).kp sm.kp⟩ λ_=>⟨l,rfl,hl⟩
 .cases e
def SK(K:qc):V->Qb Int->Qb Int->Hp->VK->Prop:=λx lo hi H Q=>∃a xs,x=.ref a/\be K H a xs/\∀p H',dI H H'->be K H' p (mG xs lo hi)->Q (.ref p) H'
def vp{X:Cx}:xC X (SK X.K):=by
 intro pins s σ H x v vl vu lo hi sl Q I rx hs pl pu h;have(a,xs,rfl,jv,q):=h;have hx:bI X.K H a xs:=jv.sq
 by_cases hw:HT.aV xs.length 0 lo=0/\HT.aV xs.length xs.length hi=xs.length
 .cases rx
  have(ai,r,ht,hz):=I.tuple hx;have hlen:ai.toArray.size=xs.length:=by rw[ě];exact r.length.symm
  refine⟨"tuple",_,PyProof.Rows.slot_tuple_getitem.lookup,ht.typeIs,?_⟩;refine HT.d6 ht hs pl pu (by rw[hlen];exact hw) ⟨.ref a,H,I,rfl,q a H (dI.refl _) ?_⟩;unfold mG;rw[hw.1,hw.2];simpa using jv
 .exact U7 pins s σ H _ v vl vu lo hi sl Q I rx hs pl pu ⟨a,xs,rfl,hx,hw,λp hp=>q p _ (iz hp _)<|.inl zz⟩
def nj(u:U)(lo hi:Qb Int):Qb U:=match u with
 |.d (.tuple xs)=>ž<|.d<|.tuple<|jz xs lo hi
 |_=>Ž
def wo:KD K (SK K) nj:=by
 intro x a u lo hi H Q p e q;unfold nj at e;split at e
 .cases e
  have(b,us,rfl,h1,h2):=DF.aH p;exact⟨b,us,rfl,h1,λl H' sm hl=>q _ _ sm (.tup hl<|(h2.cut lo hi).kp sm.kp) Nw.data⟩
 .cases e
def xX:U->U->Qb U
 |.d (.tuple xs),.d (.tuple ys)=>if xs≠[]/\xs.length+ys.length<=Ĕ then ž (.d<|.tuple<|xs++ys)else Ž
 |_,_=>Ž
def YL:VO K (F4 K) xX:=by
 intro x y a b u H Q ha hb e q;unfold xX at e;split at e
 .split at e
  .rename_i xs ys hc
   cases e;have(p,us,rfl,h1,h2):=DF.aH ha;have(p',nH,rfl,lN,i9):=DF.aH hb;refine⟨p,p',us,nH,rfl,rfl,(be.sq h1),(be.sq lN),?_,by rw[h2.len,i9.len];exact hc.2,λz=>?_,λ_ r hr=>?_⟩
   .rintro rfl
    cases h2;exact hc.1 rfl
   .subst z
    cases i9;exact q _ _ (λ_ _ z=>z) (by rw[ŕ];exact .tup h1 h2) Nw.data
   .have s:=iz hr (.tup<|us++nH)
    exact q _ _ s (.tup (.inl zz)<|(h2.app i9).kp s.kp) Nw.data
  .cases e
 .cases e
noncomputable def zB5:Qa Int->Int->Int
 |[],d=>d
 |n::ns,_=>ns.foldl (λa b=>if a < b then b else a) n
def zDP:Qa U->Qa U->Qb U
 |[u],[.d<|.int d]=>u.items.bind λxs=>(Gi xs).map λns=>.d<|.int<|zB5 ns d
 |_,_=>Ž
def QP{r:α->α->Prop}(as:∀a b,r a b->¬r b a):∀{L M:Qa α},L.Perm M->L.Pairwise r->M.Pairwise r->L=M
 |[],M,p,_,_=>(List.nil_perm.mp p).symm▸rfl
 |a::L,[],p,_,_=>by have:=p.length_eq;simp at this
 |a::L,b::M,p,h1,h2=>by
  have(a1,a2):=Ï.mp h1;have(b1,b2):=Ï.mp h2;have e:a=b:=by
   rcases qu.mp (p.mem_iff.mp<|qo (a:=a) (l:=L))with z|z
   .exact z
   .rcases qu.mp (p.mem_iff.mpr<|qo (a:=b) (l:=M))with y|y
    .exact y.symm
    .exact absurd (b1 a z) (as a b<|a1 b y)
  subst e;rw[QP as p.cons_inv a2 b2]
def pk:D->Qb (Qa Int)
 |.tuple [.tuple ks,_]=>Gi ks
 |_=>Ž
def U.lst:U->Qb (Qa D)
 |.l xs=>ž xs
 |.d (.list xs)=>ž xs
 |_=>Ž
def Rp.lst{u:U}{xs:Qa D}(h:Rp K H v u)(e:u.lst=ž xs):∃p ys,v=.ref p/\b9 K H p ys/\aQ K H ys xs:=by
 cases u with
 |d x=>
  cases x with
  |list ds=>cases e;have(a,ys,rfl,h1,h2):=DF.lst_inv h;exact⟨a,ys,rfl,h1.sq,h2⟩
  |_=>cases e
 |l ds=>cases e;have(a,ys,rfl,h1,h2):=h;exact⟨a,ys,rfl,b9.of h1,h2⟩
 |t=>cases e
 |k=>cases e
 |o=>cases e
end
section
variable{ρ aj:En}
def zB6(ma:MA):ME:=λρ=>(ma ρ).bind λp=>(bY p.2 p.1).bind λus=>match us with
 |[.d<|.int j]=>if(-(2^62)<=j/\j < 2^62)/\j.toNat<=Ĕ then ž (.u<|.l<|iM 0 j.toNat,p.2)else Ž
 |_=>Ž
noncomputable def rP:MT:=λρ=>ž (ż,ρ)
def yt:VT K Fu rP:=λρ σ H b aj Q r e q=>by cases e;exact q H<|Go.refl r
noncomputable def sV:D->Qb V
 |.none=>ž .aO
 |.bool b=>ž<|.bl b
 |.int i=>ž<|.int i
 |.str x=>ž<|.str x
 |_=>Ž
def BK{x:D}{w:V}(h:DF K H v x)(e:sV x=ž w):v=w:=by
 cases h<;>cases e<;>rfl
def dP(neg:Bool):U->U->Qb U
 |.d x,.d y=>(sV x).bind λv=>(sV y).bind λw=>if Fj v w=ż then ž (.d<|.bool (if neg=ż then !decide (v=w)else decide (v=w)))else Ž
 |_,_=>Ž
def nF:VO K S7 (dP Ż):=by
 intro x y a b u H Q ha hb e q;unfold dP at e;split at e
 .have(v,ev,e):=bQ e
  have(w,ew,e):=bQ e;split at e
  .rename_i hs
   cases e;cases BK ha ev;cases BK hb ew;exact⟨hs,q _ _ (λ_ _ z=>z) (.bl _) Nw.data⟩
  .cases e
 .cases e
def oR:VO K S6 (dP ż):=by
 intro x y a b u H Q ha hb e q;unfold dP at e;split at e
 .have(v,ev,e):=bQ e
  have(w,ew,e):=bQ e;split at e
  .rename_i hs
   cases e;cases BK ha ev;cases BK hb ew;exact⟨hs,q _ _ (λ_ _ z=>z) (.bl _) Nw.data⟩
  .cases e
 .cases e
def rT:U->Bool
 |.d .none=>ż
 |_=>Ż
def vo(neg:Bool):U->U->Qb U
 |a,.d .none=>ž<|.d<|.bool (if neg=ż then !rT a else rT a)
 |_,_=>Ž
def YK{a:U}(h:Rp K H v a):decide (v=.aO)=rT a:=by
 cases a with
 |d x=>cases(show DF K H v x from h)<;>simp[rT]
 |l=>have(_,_,rfl,_):=h;simp[rT]
 |t=>have(_,_,rfl,_):=h;simp[rT]
 |k=>have(_,_,rfl,_):=h;simp[rT]
 |o=>have(_,_,_,_,_,rfl,_):=h;simp[rT]
def Mz:VO K (λx y H Q=>y=.aO/\Q (.bl<|decide<|x=.aO) H) (vo Ż):=by
 intro x y a b u H Q ha hb e q;unfold vo at e;split at e
 .cases e
  refine⟨by cases hb;rfl,?_⟩;rw[YK ha];exact q _ _ (λ_ _ z=>z) (.bl _) Nw.data
 .cases e
def Vq{F:FD}{E:XK}(hO:BH H)(hS:b9 K H a (ns.map V.int))(h:∃outs,F [.d<|.list<|ns.map .int]=ž (.d<|.bool ż,outs)):qX K 1 F [.ref a] H (λv _=>v=.bl ż) E:=by
 have(outs,ho):=h;have pl:PL K H a (ns.map V.int):=by
  rcases hS with (h|⟨o,h⟩) |h
  .rcases hO a with z|⟨o,xs,z⟩
   .rw[z]at h;cases h
   .rw[z]at h;cases h
  .exact .inl ⟨o,h⟩
  .exact .inr h
 have dd:aQ K H (ns.map V.int) (ns.map ľ):=by
  clear ho hS pl
  induction ns with
  |nil=>exact .nil
  |cons n ns ih=>exact .cons (.int n) ih
 refine⟨[.d<|.list<|ns.map .int],.d<|.bool ż,outs,rfl,⟨rfl,λi u e=>?_,λi j u w ei ej ou ow es=>?_⟩,ho,λv H' g p n=>DF.bh p⟩
 .have e':=iu.mp e
  cases i with
  |zero=>cases e';exact⟨.ref a,rfl,DF.lst pl dd⟩
  |succ i=>simp at e'
 .have e':=iu.mp ei
  cases i with
  |zero=>cases e';cases ou
  |succ i=>simp at e'
end
section
variable{ρ:En}{me ma mb mk mi md my mv:ME}{mA mK:MA}{mt mu:MT}{m1 m2:MS}{u:U}{x:D}{f:U->U->Qb U}
def bd{a:α}{f:α->Qb β}:(ž a).bind f=f a:=rfl
def WW{u:U}:Ar.get ρ (.u u)=ž u:=rfl
def zsd:Ar.get ρ (.s i)=(ρ[i]?).join:=rfl
def zox{u:U}:(ž<|some u).join=ž u:=rfl
def Vp:zi i ρ=(ρ[i]?).join.bind λ_=>ž (.s i,ρ):=by
 unfold zi;cases ρ[i]? with
 |none=>rfl
 |some o=>cases o<;>rfl
def zDz:mC x ρ=ž (.u<|.d x,ρ):=rfl
def zB7:av f ma mb ρ=(ma ρ).bind λp=>(mb p.2).bind λq=>(p.1.get q.2).bind λx=>(q.1.get q.2).bind λy=>(f x y).bind λu=>ž (.u u,q.2):=rfl
def zB8{f:U->Qb U}:cn f ma ρ=(ma ρ).bind λp=>(p.1.get p.2).bind λx=>(f x).bind λu=>ž (.u u,p.2):=rfl
def Vo:zo ρ=ž ([],ρ):=rfl
def YJ:ze me mA ρ=(me ρ).bind λp=>(mA p.2).bind λq=>ž (p.1::q.1,q.2):=rfl
def zlx:bY ρ []=ž []:=rfl
def Qu{a:Ar}{as:Qa Ar}:bY ρ (a::as)=(a.get ρ).bind λu=>(bY ρ as).bind λus=>ž (u::us):=rfl
def zjt:kU []=ž []:=rfl
def zhY{us:Qa U}:kU (.d x::us)=(kU us).bind λxs=>ž (x::xs):=rfl
def Vn:cD mA ρ=(mA ρ).bind λp=>(bY p.2 p.1).bind λus=>(kU us).bind λds=>if ds.length<=Ĕ then ž (.u<|.d<|.tuple ds,p.2)else Ž:=rfl
def Vm:jC mA ρ=(mA ρ).bind λp=>(bY p.2 p.1).bind λus=>(kU us).bind λds=>if ds.length<=Ĕ then ž (.u<|.l ds,p.2)else Ž:=rfl
def zB9{f:Qa U->Qb U}:bW f mA ρ=(mA ρ).bind λp=>(bY p.2 p.1).bind λus=>(f us).bind λu=>ž (.u u,p.2):=rfl
def Vl{f:FD}:aR f mA ρ=(mA ρ).bind λp=>if gI p.2 p.1=ż then(bY p.2 p.1).bind λus=>(f us).bind λo=>ž (.u o.1,wb p.2 p.1 o.2)else Ž:=rfl
def zly:gI ρ []=ż:=rfl
def zse{as:Qa Ar}:gI ρ (.u u::as)=gI ρ as:=rfl
def Vk{as:Qa Ar}:gI ρ (.s j::as)=((match ρ[j]? with|some (ž u)=>!u.own || !(as.any λa=>match a with |.s k=>decide (k=j) |_=>Ż) |_=>ż) && gI ρ as):=rfl
def zCa{as:Qa Ar}{o:U}{os:Qa U}:wb ρ (.s j::as) (o::os)=wb (ρ.set j<|some o) as os:=rfl
def zCb{as:Qa Ar}{o:U}{os:Qa U}:wb ρ (.u u::as) (o::os)=wb ρ as os:=rfl
def zsf:wb ρ [] []=ρ:=rfl
noncomputable def pQ(m2:MS):Fl->Qb Fl
 |.nx aj=>m2 aj
 |f=>ž f
def bind_fn{o:Qb α}{f g:α->Qb β}(h:∀a,f a=g a):o.bind f=o.bind g:=by cases o with|none=>rfl|some a=>exact h a
def VV:zB m1 m2 ρ=(m1 ρ).bind (pQ m2):=bind_fn λf=>by cases f<;>rfl
def zoy:pQ m2 (.nx ρ)=m2 ρ:=rfl
def zoz:pQ m2 (.ex x ρ)=ž (.ex x ρ):=rfl
def zoA:pQ m2 (.rt u ρ)=ž (.rt u ρ):=rfl
noncomputable def U.dat:U->Qb U
 |.d x=>ž<|.d x
 |_=>Ž
def WV:U.dat (.d x)=ž (.d x):=rfl
def WU:put (.s i,ρ)=(ρ[i]?).join.bind λu=>u.dat.bind λd=>ž (d,ρ):=by
 unfold put;dsimp only;cases ρ[i]? with
 |none=>rfl
 |some o=>
  cases o with
  |none=>rfl
  |some u=>cases u<;>rfl
def WS:put (.u u,ρ)=ž (u,ρ):=rfl
def VR:aU i me ρ=(me ρ).bind λp=>(put p).bind λq=>ž (.nx<|q.2.set i<|some q.1):=rfl
def VQ:bp me ρ=(me ρ).bind λp=>(put p).bind λq=>ž (.rt q.1 q.2):=rfl
def YI:oK pn i ρ=if i∈pn then Ž else(ρ[i]?).join.bind λu=>ž (.rt u<|ρ.set i Ž):=by
 unfold oK;split
 .rfl
 .cases ρ[i]? with
  |none=>rfl
  |some o=>cases o<;>rfl
def YH:bV ρ=ž (.nx ρ):=rfl
def N1:jG me ρ=(me ρ).bind λp=>ž (.nx p.2):=rfl
def VP:bL mt m1 m2 ρ=(mt ρ).bind λp=>if p.1=ż then m1 p.2 else m2 p.2:=rfl
def U.m8:U->Qb Bool
 |.d (.bool b)=>ž b
 |_=>Ž
def WR{b:Bool}:U.m8 (.d<|.bool b)=ž b:=rfl
def zDA:mB me ρ=(me ρ).bind λp=>(p.1.get p.2).bind λu=>u.m8.bind λb=>ž (b,p.2):=by
 unfold mB;congr 1
 funext p
 congr 1
 funext u
 cases u with
 |d x=>cases x<;>rfl
 |l=>rfl
 |t=>rfl
 |k=>rfl
 |o=>rfl
def VN:vw mt mu ρ=(mt ρ).bind λp=>if p.1=ż then mu p.2 else ž (Ż,p.2):=rfl
def zCc:eI mt mu ρ=(mt ρ).bind λp=>if p.1=ż then ž (ż,p.2)else mu p.2:=rfl
def VM:dA mt ρ=(mt ρ).bind λp=>ž (!p.1,p.2):=rfl
def YG:jH ma mb ρ=(mB ma ρ).bind λp=>if p.1=ż then mb p.2 else ž (.u<|.d<|.bool Ż,p.2):=rfl
def VL:BP ma mb ρ=(mB ma ρ).bind λp=>if p.1=ż then ž (.u<|.d<|.bool ż,p.2)else mb p.2:=rfl
def YF:vN ma ρ=(mB ma ρ).bind λp=>ž (.u<|.d<|.bool (!p.1),p.2):=rfl
def VJ:BO ma ρ=(ma ρ).bind λp=>(p.1.get p.2).bind λu=>u.Aj.bind λb=>ž (b,p.2):=rfl
def zoC{n:Int}:U.Aj (.d<|.int n)=ž (n != 0):=rfl
def VH:rP ρ=ž (ż,ρ):=rfl
noncomputable def U.lo:U->Qb (Qa D)
 |.l xs=>ž xs
 |_=>Ž
def zCd{xs:Qa D}:U.lo (.l xs)=ž xs:=rfl
def U.da:U->Qb D
 |.d x=>ž x
 |_=>Ž
def zCe:U.da (.d x)=ž x:=rfl
def U.num:U->Qb Int
 |.d (.int i)=>ž i
 |_=>Ž
def WO{n:Int}:U.num (.d<|.int n)=ž n:=rfl
def VG:mE i me ρ=(ρ[i]?).join.bind λw=>w.lo.bind λ_=>(me ρ).bind λp=>(p.1.get p.2).bind λu=>u.da.bind λx=>(p.2[i]?).join.bind λw=>w.lo.bind λxs=>if xs.length < Ĕ then ž (.u<|.d .none,p.2.set i<|some<|.l<|xs++[x])else Ž:=by
 unfold mE;cases ρ[i]? with
 |none=>rfl
 |some o=>
  cases o with
  |none=>rfl
  |some w=>
   cases w with
   |l xs0=>
    show((me ρ).bind _)=((me ρ).bind _);congr 1
    funext p
    congr 1
    funext u
    cases u with
    |d x=>
     show(match U.d x,p.2[i]? with |.d x,ž (ž<|.l xs)=>_|_,_=>Ž)=((p.2[i]?).join.bind _);cases p.2[i]? with
     |none=>rfl
     |some o=>
      cases o with
      |none=>rfl
      |some w=>cases w<;>rfl
    |l=>rfl
    |t=>rfl
    |k=>rfl
    |o=>rfl
   |d=>rfl
   |t=>rfl
   |k=>rfl
   |o=>rfl
def zsg:rX i me mi ρ=(ρ[i]?).join.bind λ_=>(me ρ).bind λp=>(mi p.2).bind λq=>(p.1.get q.2).bind λu=>(q.1.get q.2).bind λw=>u.da.bind λx=>w.num.bind λk=>(q.2[i]?).join.bind λz=>z.lo.bind λxs=>(fQ xs.length k).bind λj=>ž (.nx<|q.2.set i<|some<|.l<|xs.set j x):=by
 unfold rX;congr 1;funext _;congr 1;funext p;congr 1;funext q;congr 1;funext u;congr 1;funext w;cases u with
 |d x=>
  cases w with
  |d y=>
   cases y with
   |int k=>
    show(match U.d x,U.d<|.int k,q.2[i]? with |.d x,.d<|.int k,ž (ž<|.l xs)=>_|_,_,_=>Ž)=((q.2[i]?).join.bind _);cases q.2[i]? with
    |none=>rfl
    |some o=>
     cases o with
     |none=>rfl
     |some w=>cases w<;>rfl
   |_=>rfl
  |l=>rfl
  |t=>rfl
  |k=>rfl
  |o=>rfl
 |l=>rfl
 |t=>rfl
 |k=>rfl
 |o=>rfl
def YE:jY md my ρ=(md ρ).bind λp=>(my p.2).bind λq=>(p.1.get q.2).bind λu=>(q.1.get q.2).bind λy=>(kN u y).bind λo=>o.bind λd=>ž (.u<|.d d,q.2):=rfl
def zAa{neg:Bool}:BM neg my md ρ=(my ρ).bind λq=>(md q.2).bind λp=>(p.1.get p.2).bind λu=>(q.1.get p.2).bind λy=>(kN u y).bind λo=>ž (.u<|.d<|.bool (if neg=ż then !o.isSome else o.isSome),p.2):=rfl
def zsh:mQ ρ=ž (.u<|.t [],ρ):=rfl
noncomputable def Ek(x:D):Ar×En->En
 | (.s i,ρ)=>ρ.set i<|some<|.d x
 | (.u _,ρ)=>ρ
def zCf:h9 me ρ=(me ρ).bind λp=>(p.1.get p.2).bind λu=>u.fz.bind λx=>ž (.u<|.d x,Ek x p):=by
 unfold h9;congr 1;funext p;congr 1;funext u;congr 1;funext x;have(a,aq):=p;cases a<;>rfl
def WN:Ek x (.s i,ρ)=ρ.set i (ž<|.d x):=rfl
def WM:Ek x (.u u,ρ)=ρ:=rfl
def zCg:U.fz (.d x)=ž x:=rfl
def zCh{xs:Qa D}:U.fz (.l xs)=ž (.list xs):=rfl
def zCi{kvs:Qa (Qa Key×D)}:U.fz (.t kvs)=ž (.dict<|kvs.map λp=>(jN p.1,p.2)):=rfl
def zCj{g:U->Qb (Qa D)}:gS g me ρ=(me ρ).bind λp=>(p.1.get p.2).bind λu=>(g u).bind λds=>ž (ds,p.2):=rfl
def zsi{xs:Qa D}:vv (.d<|.list xs)=ž xs:=rfl
def zsj{xs:Qa D}:tI (.d<|.tuple xs)=ž xs:=rfl
def zoD{kvs:Qa (D×D)}:rV (.d<|.dict kvs)=if ko kvs=ż then ž (kvs.map (·.1))else Ž:=rfl
def BJ:Qa U->Qb (Qa D)
 |[.d<|.int j]=>if -(2^62)<=j/\j < 2^62 then ž (iM 0 j.toNat)else Ž
 |_=>Ž
def zAb{n:Int}:BJ [.d<|.int n]=if -(2^62)<=n/\n < 2^62 then ž (iM 0 n.toNat)else Ž:=rfl
def YD:kS mA ρ=(mA ρ).bind λp=>(bY p.2 p.1).bind λus=>(BJ us).bind λds=>ž (ds,p.2):=bind_fn λp=>bind_fn λus=>match us with
 |[]=>rfl
 |[.d<|.int j]=>by
  show(if _ then _ else _)=(if _ then _ else _:Qb (Qa D)).bind _;split<;>rfl
 |[.d .none]=>rfl
 |[.d<|.bool _]=>rfl
 |[.d<|.str _]=>rfl
 |[.d<|.list _]=>rfl
 |[.d<|.tuple _]=>rfl
 |[.d<|.dict _]=>rfl
 |[.l _]=>rfl
 |[.t _]=>rfl
 |[.k _]=>rfl
 |[.o _ _]=>rfl
 |.d x::b::us=>by cases x<;>rfl
 |.l x::b::us=>rfl
 |.t x::b::us=>rfl
 |.k x::b::us=>rfl
 |.o x y::b::us=>rfl
def zAc{mI:MI}{mg:MG}:eN mI mg m1 ρ=(mI ρ).bind λp=>iU mg m1 p.1 p.2:=rfl
def zCk{mI:MI}{mg:MG}:q0 mI nt js mg mt me ρ=(mI ρ).bind λp=>(jM nt mg mt me p.1 (jc nt js p.2) []).bind λq=>ž (.u<|.l q.1,back js (q.2.drop nt) p.2):=rfl
def zCl{f:U->Qb Int->Qb Int->Qb U}{ml mh:MO}:nN f me ml mh ρ=(me ρ).bind λp=>(ml p.2).bind λl=>(mh l.2).bind λh=>(p.1.get h.2).bind λx=>(f x l.1 h.1).bind λu=>ž (.u u,h.2):=rfl
def zqA:nG ρ=ž (Ž,ρ):=rfl
def YC:nC me ρ=(me ρ).bind λp=>(p.1.get p.2).bind λu=>u.num.bind λi=>ž (ž i,p.2):=bind_fn λp=>bind_fn λu=>by
 cases u with
 |d x=>cases x<;>rfl
 |l=>rfl
 |t=>rfl
 |k=>rfl
 |o=>rfl
def Iy:Qa U->Qb (D×D)
 |[.d x,.d y]=>ž (x,y)
 |_=>Ž
def zsk{y:D}:Iy [.d x,.d y]=ž (x,y):=rfl
def zAe:xR i j mA ρ=(mA ρ).bind λp=>(bY p.2 p.1).bind λus=>(Iy us).bind λz=>ž (.nx<|(p.2.set i<|some<|.d z.1).set j<|some<|.d z.2):=by
 refine bind_fn λp=>bind_fn λus=>?_
 match us with
 |[]=>rfl
 |[a]=>cases a<;>rfl
 |[.d x,.d y]=>rfl
 |[.d x,.l y]=>rfl
 |[.d x,.t y]=>rfl
 |[.d x,.k y]=>rfl
 |[.d x,.o _ _]=>rfl
 |[.l x,b]=>rfl
 |[.t x,b]=>rfl
 |[.k x,b]=>rfl
 |[.o _ _,b]=>rfl
 |a::b::c::us=>cases a<;>(try rfl)<;>(cases b<;>rfl)
def zAf{mg:MG}:jU me mg ρ=(me ρ).bind λp=>(p.1.get p.2).bind λu=>u.da.bind λd=>(mg d p.2).bind λaj=>ž (.nx aj):=by
 unfold jU;congr 1;funext p;congr 1;funext u;cases u<;>rfl
def zsl:zA i x ρ=ž (ρ.set i<|some<|.d x):=rfl
def YB{gs:Qa D->En->Qb En}{ds:Qa D}:fJ n gs (.tuple ds) ρ=if ds.length=n then gs ds ρ else Ž:=rfl
def zsm{g:MG}{gs:Qa D->En->Qb En}{ds:Qa D}:zL g gs (x::ds) ρ=(g x ρ).bind λaq=>gs ds aq:=rfl
def YA:gc [] ρ=ž ρ:=rfl
def vL{c:Int->Int->Prop}{g:Int->Int->D}{a:Int}(h:c a b):pK c g (.d<|.int a) (.d<|.int b)=ž (.d<|g a b):=by
 unfold pK;dsimp only;rw[a6P h]
def WL{a:Int}:fD (.d<|.int a) (.d<|.int b)=ž (.d<|.int<|a+b):=rfl
def WK{a:Int}:pS (.d<|.int a) (.d<|.int b)=ž (.d<|.int<|a - b):=rfl
def Lm{a:Int}(h:vH a b):g7 (.d<|.int a) (.d<|.int b)=ž (.d<|.int<|a * b):=vL h
def zCm{a:Int}(h:0 < b):jD (.d<|.int a) (.d<|.int b)=ž (.d<|.int<|a % b):=vL (c:=λ_ j=>0 < j) h
def zAg{a:Int}(h:x8 a b):xZ (.d<|.int a) (.d<|.int b)=ž (.d<|.int<|a / b):=vL h
def Cy{a:Int}(h:vP a b):Ci (.d<|.int a) (.d<|.int b)=ž (.d<|.int<|a.fdiv b):=vL h
def zCn{a:Int}(h:BX a b):BR (.d<|.int a) (.d<|.int b)=ž (.d<|.int<|a^b.toNat):=vL h
def zCo{a:Int}:n9 (.d<|.int a) (.d<|.int b)=ž (.d<|.bool<|decide<|a < b):=rfl
def zCp{a:Int}:rE (.d<|.int a) (.d<|.int b)=ž (.d<|.bool<|decide<|a<=b):=rfl
def zCq{a:Int}:xu (.d<|.int a) (.d<|.int b)=ž (.d<|.bool<|decide<|b < a):=rfl
def zCr{a:Int}:A7 (.d<|.int a) (.d<|.int b)=ž (.d<|.bool<|decide<|b<=a):=rfl
def WJ{a:Int}:kP (.d<|.int a)=ž (.d<|.int (-a)):=rfl
def WI{a:Int}:vz (.d<|.int a)=ž (.d<|.int (if a < 0 then -a else a)):=rfl
def zsn{b:Bool}:xY (.d<|.bool b)=ž (.d<|.int (if b then 1 else 0)):=rfl
def zso{a:Int}:Cf [.d<|.int a,.d<|.int b]=ž (.d<|.int (if b > a then b else a)):=rfl
def zCs{f:U->Qb U}:f1 f [u]=f u:=rfl
def WH{xs:Qa D}:dQ (.l xs)=ž (.d<|.int xs.length):=rfl
def WG{xs:Qa D}:dQ (.d<|.tuple xs)=ž (.d<|.int xs.length):=rfl
def WE{xs:Qa D}:dQ (.d<|.list xs)=ž (.d<|.int xs.length):=rfl
def zoE{xs:Qa D}:rZ (.l xs)=ž (.d<|.tuple xs):=rfl
def WD{xs:Qa D}{k:Int}:iq (.l xs) (.d<|.int k)=(cw xs k).map .d:=rfl
def WC{xs:Qa D}{k:Int}:iq (.d<|.list xs) (.d<|.int k)=(cw xs k).map .d:=rfl
def WB{xs:Qa D}{k:Int}:aS (.d<|.tuple xs) (.d<|.int k)=(cw xs k).map .d:=rfl
def WA{xs:Qa D}{lo hi:Qb Int}:xN (.l xs) lo hi=ž (.l<|jz xs lo hi):=rfl
def Xi{a:Int}:dP Ż (.d<|.int a) (.d<|.int b)=ž (.d<|.bool<|decide<|a=b):=by
 show ž (U.d<|.bool<|decide<|V.int a=V.int b)=_;congr 3;exact decide_eq_decide.mpr ⟨λh=>by cases h;rfl,λh=>by rw[h]⟩
def Xh{a:Int}:dP ż (.d<|.int a) (.d<|.int b)=ž (.d<|.bool (!decide (a=b))):=by
 show ž (U.d<|.bool (!decide (V.int a=V.int b)))=_;congr 4;exact decide_eq_decide.mpr ⟨λh=>by cases h;rfl,λh=>by rw[h]⟩
def Iw(pn:Qa Nat)(us:Qa U):Fl->Qb (U×Qa U)
 |.rt u ρ=>(ft pn ρ 0 us).bind λos=>ž (u,os)
 |.nx ρ=>(ft pn ρ 0 us).bind λos=>ž (.d .none,os)
 |_=>Ž
def zAi{us:Qa U}:cQ n pn m1 us=(m1<|sm us++Ě (n - us.length) Ž).bind (Iw pn us):=by
 exact bind_fn λf=>by cases f<;>rfl
def zoF{us:Qa U}:Iw pn us (.rt u ρ)=(ft pn ρ 0 us).bind λos=>ž (u,os):=rfl
def zlz:ft pn ρ n []=ž []:=rfl
def zjv{us:Qa U}:ft pn ρ n (u::us)=(if n∈pn then(ρ[n]?).join.bind λo=>if o.own=ż/\u.own=Ż then Ž else ž o else if u.own=ż then Ž else ž u).bind λo=>(ft pn ρ (n+1) us).bind λos=>ž (o::os):=rfl
def Xg:U.own (.d x)=Ż:=rfl
def Xf{xs:Qa D}:U.own (.l xs)=ż:=rfl
def zsp:sm []=[]:=rfl
def zoG{us:Qa U}:sm (u::us)=ž u::sm us:=rfl
def zCt{a:α}{xs:Qa α}:cw (a::xs) 0=ž a:=by
 unfold cw fQ;rw[a6P (by decide),a6P (by simp only[qt];omega)];rfl
def zCu{a b:α}{xs:Qa α}:cw (a::b::xs) 1=ž b:=by
 unfold cw fQ;rw[a6P (by decide),a6P (by simp only[qt];omega)];rfl
def zCv{a b c:α}{xs:Qa α}:cw (a::b::c::xs) 2=ž c:=by
 unfold cw fQ;rw[a6P (by decide),a6P (by simp only[qt];omega)];rfl
def zCw:fQ (n+1) 0=ž 0:=by
 unfold fQ;rw[a6P (by decide),a6P (by omega)];rfl
def zCx:fQ (n+1+1) 1=ž 1:=by
 unfold fQ;rw[a6P (by decide),a6P (by omega)];rfl
def SQ{a:Int}(h:b.natAbs < 18446744073709551616):g7 (.d<|.int a) (.d<|.int b)=ž (.d<|.int<|a * b):=Lm (.inr ⟨by omega,by omega⟩)
def SO{a:Int}(h:a.natAbs < 18446744073709551616):g7 (.d<|.int a) (.d<|.int b)=ž (.d<|.int<|a * b):=Lm (.inl ⟨by omega,by omega⟩)
def zCy{a:Int}(h:0 < b):jD (.d<|.int a) (.d<|.int b)=ž (.d<|.int<|a % b):=zCm h
def zCz{a:Int}(h:0 < b)(h2:b<=340282366920938463463374607431768211456):xZ (.d<|.int a) (.d<|.int b)=ž (.d<|.int<|a / b):=zAg (Yn h (by omega))
def zCA{a:Int}(h:0<=b)(h2:b<=1000000)(h3:a.natAbs < 18446744073709551616):BR (.d<|.int a) (.d<|.int b)=ž (.d<|.int<|a^b.toNat):=zCn ⟨h,h2,by omega⟩
def zl:Ĕ=16777216:=rfl
def zoH:reset nt ρ=Ě nt Ž++ρ.drop nt:=rfl
def Xe:jc nt js ρ=Ě nt Ž++js.map λj=>ρ.getD j Ž:=rfl
noncomputable def pB(j:Nat):Qa Ar->Bool
 |[]=>ż
 |.u _::as=>pB j as
 |.s k::as=>!decide (k=j) && pB j as
def Gp:∀{as:Qa Ar},pB j as=!(as.any λa=>match a with |.s k=>decide (k=j) |_=>Ż)
 |[]=>rfl
 |.u _::as=>by rw[ŵ];exact Gp (as:=as)
 |.s k::as=>by
  unfold pB;rw[ŵ,Gp (as:=as),Bool.not_or]
def xw:Qb U->Bool
 |some u=>!u.own
 |none=>ż
def Xd:xw (ž<|.d x)=ż:=rfl
def Xc{xs:Qa (Qa Key×D)}:xw (ž<|.t xs)=Ż:=rfl
def zoI:pB j []=ż:=rfl
def Xb{as:Qa Ar}:pB j (.u u::as)=pB j as:=rfl
def Xa{k:Nat}{as:Qa Ar}:pB j (.s k::as)=(!decide (k=j) && pB j as):=rfl
def zoJ{as:Qa Ar}:gI ρ (.s j::as)=((pB j as || xw (ρ[j]?).join) && gI ρ as):=by
 rw[Vk,Gp];congr 1;cases ρ[j]? with
 |none=>simp[xw]
 |some o=>
  cases o with
  |none=>simp[xw]
  |some u=>simp[xw,Bool.or_comm]
def zsq{us:Qa (Qb U)}:back (j::js) (ž u::us) ρ=back js us (ρ.set j<|some u):=rfl
def zsr{us:Qa (Qb U)}:back [] us ρ=ρ:=by cases us<;>rfl
end
structure XT (K:qc) (tab:Qa (Str×Qa Str)) (fl:Qa Str):Prop where
 cl:∀n ups C,tab.lookup n=ž ups->XN K n C->XI K C/\∀f∈fl,sf K C f
 is:∀n ups C,tab.lookup n=ž ups->XN K n C->∀c C',(tab.lookup c).isSome=ż->XN K c C'->ŭ K (.ref C) (.ref C')=ž (decide (c=n) || ups.contains c)
 mZ:∀n ups C,tab.lookup n=ž ups->XN K n C->ŭ K (.ref C) (.type "ValueError")=ž (ups.contains ("ValueError":Str))
section
variable{fl:Qa Str}{n:Str}
def D4(K:qc)(f:Str):Sp:=λvs H Q _=>∃a C p v,vs=[.ref a,v]/\H a=ž (tL a C p)/\XC K C/\sf K C f/\
 ∀dx ox od,H dx=Ž->dx≠a->ox.cls=.ref C->ox.dict=ž dx->a1m ox=ż->ox={jE C p with dict:=ž dx}->Q .aO (upd (upd H dx<|.aZ od<|.xd [(f,v)]) a<|.aZ ox<|.own 0)
def YY{Q:VK}{E:XK}(h:D4 K f vs H Q E):vs.length=2:=by
 have(a,C,p,v,rfl,_):=h;rfl
def YX{Q:VK}{E:XK}(h:D4 K f vs H Q E):Ls K (ni 0) (ni 1) f {nx:=λ_ H'=>Q .aO H',rt:=Q} (π N vs) H:=by
 have(a,C,p,v,rfl,h1,h2,h3,h4):=h;refine⟨v,rfl,.ref a,rfl,a,C,p,rfl,h1,h2,h3,h4⟩
end
section
noncomputable def p9:U->U->Qb U
 |.d (.str i),.d (.str j)=>if i.length+j.length<=Ĕ then ž (.d<|.str<|i++j)else Ž
 |_,_=>Ž
def Dd:VO K (λx y H Q=>∃i j,x=.str i/\y=.str j/\i.length+j.length<=Ĕ/\Q (.str<|i++j) H) p9:=by
 intro x y a b u H Q ha hb e q;unfold p9 at e;split at e
 .split at e
  .rename_i i j hc
   cases e;exact⟨i,j,DF.str_inv ha,DF.str_inv hb,hc,q _ _ (dI.refl H) (DF.str _) Nw.data⟩
  .cases e
 .cases e
def tG:U->U->Qb U
 |.d (.str z),.d (.int i)=>if z.length<=Ĕ then(cw z.cps.toList i).map λc=>.d (.str ⟨#[c]⟩)else Ž
 |_,_=>Ž
def Gn:VO K SI tG:=by
 intro x y a b u H Q ha hb e q;unfold tG at e;split at e
 .split at e
  .rename_i z i hc
   have(c,ec,rfl):=qq.mp e;exact⟨z,i,c,DF.str_inv ha,DF.int_inv hb,hc,ec,q _ _ (dI.refl H) (DF.str _) Nw.data⟩
  .cases e
 .cases e
def Eg(ty:U->Bool)(f:U->U->Qb U)(mo ma:ME):ME:=λρ=>(mo ρ).bind λp=>(p.1.get p.2).bind λx0=>if ty x0=ż then(ma p.2).bind λq=>(p.1.get q.2).bind λx=>(q.1.get q.2).bind λy=>(f x y).bind λu=>ž (.u u,q.2)else Ž
def Su{r:V->Qa V->Hp->VK->Prop}{ty:U->Bool}{f:U->U->Qb U}{to:TE}{mo ma:ME}(ht:∀(x:V) (a:U) (H:Hp),Rp K H x a->ty a=ż->Ag K T x H)(h:VO K (λx y H Q=>r x [y] H Q) f)
  (ho:VE K to mo) (ha:VE K ta ma):VE K (D3 K T r to<|oN ta pX) (Eg ty f mo ma):=by
 intro ρ σ H a aj Q rs e q;obtain⟨⟨a1,aq⟩,e1,e⟩:=bQ e;have(x0,ex0,e):=bQ e;split at e
 rotate_left
 .cases e
 rename_i rg;obtain⟨⟨b1,aD⟩,e2,e⟩:=bQ e;have(x,ex,e):=bQ e;have(y,ey,e):=bQ e;have(u,eu,e):=bQ e;cases e;refine ho ρ σ H a1 aq _ rs e1 λv1 H1 g1 k1=>⟨ht _ _ _ (k1.now rs g1 ex0) rg,ha aq σ H1 b1 aD _ g1.rs e2 λv2 H2 g2 k2=>?_⟩;refine h _ _ x y u H2 _ (k1.later rs g1 g2 ex) (k2.now g1.rs g2 ey) eu λv H3 s p n=>?_;exact q v H3 ((g1.trans g2).trans<|Go.grow g2.rs s) ⟨p,n.mono (g1.trans g2).dm⟩
noncomputable def tyL:U->Bool
 |.l _=>ż
 |.d (.list _)=>ż
 |_=>Ż
def Ah:U->Bool
 |.d (.str _)=>ż
 |_=>Ż
def My(x:V)(a:U)(H:Hp)(h:Rp K H x a)(e:Ah a=ż):Ag K "str" x H:=by
 unfold Ah at e;split at e
 .cases DF.str_inv h;rfl
 .cases e
def xM:D->Qb Str
 |.str x=>ž x
 |_=>Ž
def O9{us:Qa V}{ds:Qa D}{ys:Qa Str}(h:aQ K H us ds):ds.mapM xM=ž ys->us=ys.map V.str:=by
 refine h.ind (P:=λus ds=>∀ys,ds.mapM xM=ž ys->us=ys.map V.str) (λys e=>?_) (λ{v d vs ds} h t ih ys e=>?_) ys
 .cases e;rfl
 .rw[ŷ]at e
  have(y,e1,e):=bQ e;have(iV,e2,e):=bQ e;cases e;cases d with
  |str x=>cases e1;cases DF.str_inv h;rw[ih _ e2];rfl
  |_=>cases e1
def vK:U->U->Qb U
 |.d (.str sep),.l ds=>(ds.mapM xM).bind λys=>if(ys.map (·.length)).sum+ys.length * sep.length<=16777216 then ž (.d<|.str<|ŝ sep ys)else Ž
 |.d (.str sep),.d (.list ds)=>(ds.mapM xM).bind λys=>if(ys.map (·.length)).sum+ys.length * sep.length<=16777216 then ž (.d<|.str<|ŝ sep ys)else Ž
 |_,_=>Ž
def NZ:VO K (λx y H Q=>LK K x [y] H Q) vK:=by
 intro x y a b u H Q ha hb e q;unfold vK at e;split at e
 .have(ys,ey,e):=bQ e
  split at e
  .rename_i hc
   cases e;have(l,us,rfl,h1,h2):=hb;cases O9 h2 ey;exact⟨_,l,ys,DF.str_inv ha,rfl,b9.of h1,hc,q _ _ (dI.refl H) (DF.str _) Nw.data⟩
  .cases e
 .have(ys,ey,e):=bQ e
  split at e
  .rename_i hc
   cases e;have(l,us,rfl,h1,h2):=DF.lst_inv hb;cases O9 h2 ey;exact⟨_,l,ys,DF.str_inv ha,rfl,h1.sq,hc,q _ _ (dI.refl H) (DF.str _) Nw.data⟩
  .cases e
 .cases e
noncomputable def xt:D->Qb V
 |.none=>ž .aO
 |.bool b=>ž<|.bl b
 |.int i=>ž<|.int i
 |.str x=>ž<|.str x
 |_=>Ž
def GX{w:V}{d:D}(h:DF K H v d)(e:xt d=ž w):v=w/\mP w=ż:=by
 cases d with
 |none=>cases e;cases h;exact⟨rfl,rfl⟩
 |bool b=>cases e;cases DF.bh h;exact⟨rfl,rfl⟩
 |int i=>cases e;cases DF.int_inv h;exact⟨rfl,rfl⟩
 |str x=>cases e;cases DF.str_inv h;exact⟨rfl,rfl⟩
 |_=>cases e
def NY:∀{us:Qa V} {ds:Qa D} {ws:Qa V},aQ K H us ds->ds.mapM xt=ž ws->us=ws/\ws.all mP=ż
 |_,_,ws,.nil,e=>by cases e;exact⟨rfl,rfl⟩
 |_,_,ws,.cons h t,e=>by
  rw[ŷ]at e;have(y,e1,e):=bQ e;have(iV,e2,e):=bQ e;cases e;have(rfl,f1):=GX h e1;have(rfl,f2):=NY t e2;exact⟨rfl,by rw[ω,f1,f2];rfl⟩
end
def SV(K:qc)(C:Qg):Data->Bool
 |.cls cd=>cd.mro.head?==ž (.ref C) && !cd.hasDel && cd.hasDict && ϕ K qO cd.mro.tail
 |_=>Ż
def DZ(K:qc)(C:Qg)(o:Obj):Bool:=o.cls==.type "type" && SV K C o.data && o.slots.toList.length==6 && o.slots.toList[4]?==ž (ž<|.builtin "ValueError.__new__")
def Iu(K:qc)(C:Qg):Bool:=(K.lookup C).any (DZ K C)
def BV(K:qc)(C:Qg):Bool:=Iu K C && ī K (.ref C) "__getattribute__"==ž (ž<|.builtin "BaseException.__getattribute__") && ī K (.ref C) "__getattr__"==ž Ž &&
 ī K (.ref C) "__setattr__"==ž (ž<|.builtin "object.__setattr__") && ī K (.ref C) "__class__"==ž (ž<|.builtin "object.__class__") &&
 a2a K (.builtin "object.__class__") "__get__"==ž (ž<|.builtin "getset_descriptor.__get__") && a2C K (.builtin "object.__class__")==ž ż && a1A K C (.type "object")==ž ż
def XO(K:qc)(C:Qg)(o:Obj):Prop:=∃nm qn N bs bm sn sub ab col dd k0 k1 k2 k3 k5,o=(a3S nm qn C N bs bm ż sn sub ab col dd k0 k1 k2 k3 k5 "ValueError.__new__")/\ϕ K qO bm=ż
def vJ(h:l.length=n+1):∃a t,l=a::t/\t.length=n:=by
 cases l with
 |nil=>cases h
 |cons a t=>exact⟨a,t,rfl,Ϙ h⟩
def zCC{x:α}(h:l.length=6)(e:l[4]?=ž x):∃k0 k1 k2 k3 k5,l=[k0,k1,k2,k3,x,k5]:=by
 have(k0,l1,rfl,h1):=vJ h;have(k1,l2,rfl,h2):=vJ h1;have(k2,l3,rfl,h3):=vJ h2;have(k3,l4,rfl,h4):=vJ h3;have(k4,l5,rfl,h5):=vJ h4;have(k5,l6,rfl,h6):=vJ h5;cases List.length_eq_zero_iff.mp h6;cases e;exact⟨k0,k1,k2,k3,k5,rfl⟩
def zCD{C:Qg}{c:Qc}{dd:Qb Qg}{cd:ClassData}{l:Array (Qb Qc)}(q1:c=.type "type")(q2:SV K C (.cls cd)=ż)(q3:l.toList.length=6)(q4:l.toList[4]?=ž (ž<|.builtin "ValueError.__new__")):XO K C ⟨c,dd,.cls cd,l⟩:=by
 have q2:(cd.mro.head?==ž (.ref C) && !cd.hasDel && cd.hasDict && ϕ K qO cd.mro.tail)=ż:=q2;simp only[Ĵ,beq_iff_eq,a0N]at q2;obtain⟨⟨⟨hm,J6⟩,uU⟩,ht⟩:=q2;have(nm,bs,mro,ns,qn,hd,sn,sub,ab,col,del):=cd;cases mro with
 |nil=>cases hm
 |cons v bm=>
  cases hm;cases q1;cases J6;cases uU;have(k0,k1,k2,k3,k5,e):=zCC q3 q4;obtain⟨l⟩:=l;cases e;exact⟨nm,qn,ns,bs,bm,sn,sub,ab,col,dd,k0,k1,k2,k3,k5,rfl,ht⟩
def zCE{C:Qg}{o:Obj}(q:DZ K C o=ż):XO K C o:=by
 unfold DZ at q;simp only[Ĵ,beq_iff_eq]at q;obtain⟨⟨⟨q1,q2⟩,q3⟩,q4⟩:=q;have(c,dd,dt,l):=o;cases dt with
 |cls cd=>exact zCD q1 q2 q3 q4
 |_=>cases q2
def zCF{C:Qg}(q:Iu K C=ż):∃nm qn N bs bm sn sub ab col dd k0 k1 k2 k3 k5,K.lookup C=ž (a3S nm qn C N bs bm ż sn sub ab col dd k0 k1 k2 k3 k5 "ValueError.__new__")/\ϕ K qO bm=ż:=by
 unfold Iu at q;cases ho:K.lookup C with
 |none=>rw[ho]at q;cases q
 |some o=>
  rw[ho]at q;have(nm,qn,N,bs,bm,sn,sub,ab,col,dd,k0,k1,k2,k3,k5,e,t):=zCE (show DZ K C o=ż from q);exact⟨nm,qn,N,bs,bm,sn,sub,ab,col,dd,k0,k1,k2,k3,k5,by rw[e],t⟩
def zCG{C:Qg}(q:BV K C=ż):XI K C:=by
 unfold BV at q;simp only[Ĵ,beq_iff_eq]at q;obtain⟨⟨⟨⟨⟨⟨⟨h1,h2⟩,h3⟩,h4⟩,h5⟩,h6⟩,h7⟩,h8⟩:=q;exact⟨⟨zCF h1,h2,h3,h4⟩,h5,h6,h7,h8⟩
def xK(K:qc)(n:Str):Qb Qg:=match Ī K Ģ n with
 |some (ž<|.ref C)=>ž C
 |_=>Ž
def NX{n:Str}{C:Qg}(h:XN K n C):xK K n=ž C:=by
 unfold xK;rw[show Ī K Ģ n=ž (ž<|.ref C) from h]
def Ir(K:qc)(tab:Qa (Str×Qa Str))(fl:Qa Str):Bool:=tab.all λp=>match xK K p.1 with
 |some C=>BV K C && fl.all (λf=>ī K (.ref C) f==ž Ž) && ŭ K (.ref C) (.type "ValueError")==ž (p.2.contains ("ValueError":Str)) &&
   tab.all λp'=>match xK K p'.1 with
    |some C'=>ŭ K (.ref C) (.ref C')==ž (decide (p'.1=p.1) || p.2.contains p'.1)
    |none=>Ż
 |none=>Ż
def HQ:∀{l:Qa (Str×β)} {n:Str} {b:β},l.lookup n=ž b->(n,b)∈l
 |[],_,_,e=>by cases e
 | (m,c)::l,n,b,e=>by
  rw[Ŗ]at e;cases q:(n==m)with
  |true=>
   rw[q]at e;cases e;rw[beq_iff_eq.mp q];exact qo
  |false=>
   rw[q]at e;exact qm _<|HQ e
def zCH{fl:Qa Str}(h:Ir K tab fl=ż):XT K tab fl:=by
 unfold Ir at h;have one:∀n ups C,tab.lookup n=ž ups->XN K n C->(BV K C && fl.all (λf=>ī K (.ref C) f==ž Ž) && ŭ K (.ref C) (.type "ValueError")==ž (ups.contains ("ValueError":Str)) &&
   tab.all λp'=>match xK K p'.1 with
    |some C'=>ŭ K (.ref C) (.ref C')==ž (decide (p'.1=n) || ups.contains p'.1)
    |none=>Ż)=ż:=λn ups C hn xn=>by
  have z:=ï.mp h (n,ups) (HQ hn);dsimp only at z;rw[NX xn]at z;exact z
 refine⟨λn ups C hn xn=>?_,λn ups C hn xn c C' hc xc=>?_,λn ups C hn xn=>?_⟩
 .have z:=one n ups C hn xn
  simp only[Ĵ]at z;refine⟨zCG z.1.1.1,λf hf=>?_⟩;exact beq_iff_eq.mp<|ï.mp z.1.1.2 f hf
 .have z:=one n ups C hn xn
  simp only[Ĵ]at z;have(IT,hu'):=Option.isSome_iff_exists.mp hc;have y:=ï.mp z.2 (c,IT) (HQ hu');dsimp only at y;rw[NX xc]at y;exact beq_iff_eq.mp y
 .have z:=one n ups C hn xn
  simp only[Ĵ]at z;exact beq_iff_eq.mp z.1.2
structure vh (P:Qe) (w:Qh) (K:qc) (mg:Str->Qb Qc) (base:ĵ) (x:Str) (C:Qg) (f:Str):Prop where
 xn:XN K x C
 cl:XC K C
 na:sf K C f
 Jr:mg x=ž (.ref C)
 kp:ň K (.ref C)=ż
 ini:∃i fd,ī K (.ref C) "__init__"=ž (ž<|.ref i)/\a0Y K (.ref i)=ż/\kY K fd ["self",f] []/\bU P w K mg base iS 1 i fd ["self",f] (D4 K f)
structure oh (K:qc) (mg:Str->Qb Qc) (x:Str) (C:Qg):Prop where
 xn:XN K x C
 cl:XC K C
 Jr:mg x=ž (.ref C)
 kp:ň K (.ref C)=ż
 hi:ī K (.ref C) "__init__"=ž (ž<|.builtin "ValueError.__init__")
abbrev RX(α:Type):=(α×En) ⊕ (D×En)
abbrev MX:=En->Qb (RX Ar)
abbrev KL:=En->Qb (RX<|Qa Ar)
noncomputable def pE{α:Type}(m:En->Qb (RX α)):En->Qb (α×En):=λρ=>(m ρ).bind λr=>match r with |.inl p=>ž p |.inr _=>Ž
def XOk(K:qc)(EX:eK)(ρ:En)(σ:St)(H:Hp)(x:D)(aj:En):Prop:=∀a H',Go K ρ σ H aj H'->H a=Ž->BN K H' a x->EX σ a H'
def VX(K:qc)(EX:eK)(t:TE)(m:MX):Prop:=VE K t (pE m)/\∀(ρ:En) (σ:St) (H:Hp) (x:D) (aj:En) (Q:VK),Rs K ρ σ H->m ρ=ž (.inr (x,aj))->XOk K EX ρ σ H x aj->t σ H Q
section
variable{EX:eK}{ρ aj:En}{A:Qg->Prop}
noncomputable def zDB(me:MX)(ma:KL):KL:=λρ=>(me ρ).bind λr=>match r with
 |.inl p=>(ma p.2).bind λr'=>match r' with
  |.inl q=>ž<|.inl (p.1::q.1,q.2)
  |.inr z=>ž<|.inr z
 |.inr z=>ž<|.inr z
def vG(mS:ME->MS)(m:MX):MS:=λρ=>(m ρ).bind λr=>match r with
 |.inl _=>mS (pE m) ρ
 |.inr z=>ž<|.ex z.1 z.2
def zsv{t:TE}{m:MX}{tS:TE->TS}{mS:ME->MS}(h:VX K EX t m)(hF:VE K t (pE m)->VS K pn EX (tS t) (mS<|pE m))(hX:∀D σ H,(∀Q',t σ H Q')->tS t D σ H):VS K pn EX (tS t) (vG mS m):=by
 intro ao A aA aB ρ σ H f D s e k;have(r2,e2,e1):=bQ e;cases r2 with
 |inl p=>exact hF h.1 ao A aA aB ρ σ H f D s e1 k
 |inr z=>
  cases e1;exact hX D σ H λQ'=>h.2 ρ σ H z.1 z.2 Q' s.rs e2 λa H' g hn fl=>k a σ H' (s.go g) (s.dm a hn) fl
def zsw{t:TE}{m:MX}(h:VX K EX t m):VS K pn EX (yh t) (vG jG m):=zsv (tS:=yh) (mS:=jG) h rY λD σ H z=>z _
def KE(K:qc)(te:TE)(m:En->Qb (D×En)):Prop:=∀(ρ:En) (σ:St) (H:Hp) (x:D) (aj:En) (Q:VK),Rs K ρ σ H->m ρ=ž (x,aj)->
 (∀a H',Go K ρ σ H aj H'->H a=Ž->(∃C d,H' a=ž (mF a C d Ž)/\XC K C)->BN K H' a x->Q (.ref a) H')->te σ H Q
noncomputable def wm(m:En->Qb (D×En)):MS:=λρ=>(m ρ).bind λp=>ž<|.ex p.1 p.2
def Dc{m:En->Qb (D×En)}(h:KE K te m):VS K pn EX (GL K EX te) (wm m):=by
 intro ao A aA aB ρ σ H f D s e k;obtain⟨⟨x,aq⟩,e1,e⟩:=bQ e;cases e;exact h ρ σ H x aq _ s.rs e1 λa H' g hn ⟨C,d,ha,xc⟩ fl=>⟨a,C,d,rfl,ha,xc,k a σ H' (s.go g) (s.dm a hn) fl⟩
def Ef(n f:Str)(ma:MA):En->Qb (D×En):=λρ=>(ma ρ).bind λp=>(bY p.2 p.1).bind λus=>(kU us).bind λds=>match ds with
 |[x]=>ž (.dict [(.none,.str n),(.str f,x)],p.2)
 |_=>Ž
def GU{C:Qg}{E:XK}{n:Str}{t:TA}{m:MA}(xn:XN K n C)(c:XC K C)(na:sf K C f)(h:kH K t m):KE K (GN C (Fp K f) E t) (Ef n f m):=by
 intro ρ σ H x aj Q rs e q;obtain⟨⟨as,aq⟩,e1,e⟩:=bQ e;have(us,eu,e):=bQ e;have(ds,ed,e):=bQ e;split at e
 rotate_left
 .cases e
 rename_i x;cases e;refine h ρ σ H as aq _ rs e1 λvs H1 g1 s1=>?_;have df:=Gw (s1.pj rs g1 eu) ed;generalize eq:[x]=ys at df;cases df with
 |nil=>cases eq
 | @cons v d vs' ds' hd t'=>
  cases eq;cases t';refine⟨by show 1<=1000;decide,λa p ha=>⟨a,C,p,v,rfl,zz,c,na,λdx od TX ne=>⟨rfl,?_⟩⟩⟩;have J5:H1 dx=Ž:=by rw[zw ne]at TX;exact TX
  have sm:dI H1 (upd (upd (upd H1 a<|tL a C p) dx<|.aZ od<|.xd [(f,v)]) a<|mF a C (ž dx) Ž):=λb o hb=>by
   rw[zw<|jr hb ha,zw<|jr hb J5,zw<|jr hb ha];exact hb
  refine q a _ (g1.trans<|Go.grow g1.rs sm) (g1.dm a ha) ⟨C,ž dx,zz,c⟩ ?_;exact⟨n,C,[(f,v)],_,rfl,⟨ž dx,Ž,zz,(λT z=>nomatch z),.inr ⟨od,dx,rfl,by rw[zw ne,zz]⟩⟩,xn,.cons (hd.kp sm.kp) .nil⟩
noncomputable def Iq(n:Str):En->Qb (D×En):=λρ=>ž (.dict [(.none,.str n)],ρ)
def zsx{C:Qg}{n:Str}(xn:XN K n C)(c:XC K C):KE K (HB C) (Iq n):=by
 intro ρ σ H x aj Q rs e q;cases e;intro a ha;have sm:dI H (upd H a<|mF a C Ž Ž):=λb o hb=>by rw[zw<|jr hb ha];exact hb
 exact q a _ (Go.grow rs sm) ha ⟨C,Ž,zz,c⟩ ⟨n,C,[],_,rfl,⟨Ž,Ž,zz,(λT z=>nomatch z),.inl ⟨rfl,rfl⟩⟩,xn,.nil⟩
def Rs.mv(r:Rs K ρ σ H)(ea:∃φ,H a=ž (.ext φ))(k:∀b o,b≠a->H b=ž o->H' b=ž o):Rs K ρ σ H'/\Kp H H':=by
 have(φ,ea):=ea;have kp:Kp H H':=⟨λb xs h=>k b _ (λz=>by rw[z,ea]at h;cases h) h,λb ob u h=>k b _ (λz=>by rw[z,ea]at h;cases h) h,λb x h=>k b _ (λz=>by rw[z,ea]at h;cases h) h⟩;refine⟨⟨r.len,λi u e=>?_,r.apart⟩,kp⟩;have(v,ev,p):=r.rep i u e;refine⟨v,ev,p.kp kp λo b c eb hb=>?_⟩;have(b',c',Uj,jw,m):=p.own o;rw[eb]at Uj;cases Uj;rw[hb]at jw;cases jw;exact k b c (λz=>by rw[z,ea]at hb;cases hb;exact m) hb
def Sn.mv(s:Sn K pn ao A aA aB ρ σ H)(hn:aA a=Ž)(ea:∃φ,H a=ž (.ext φ))(k:∀b o,b≠a->H b=ž o->H' b=ž o)(dm:∀b,H' b=Ž->H b=Ž):Sn K pn ao A aA aB ρ σ H':=by
 have(r,kp):=s.rs.mv ea k;exact⟨r,λb o h n=>k b o (λz=>by rw[z,hn]at h;cases h)<|s.fr b o h n,s.ow,s.pin,λb h=>s.dm b<|dm b h,s.kp.trans kp⟩
def tK.ext{C:Qg}{fs:Qa (Str×V)}(f:tK H a C fs):∃φ,H a=ž (.ext φ):=by
 have(d,tb,ea,_):=f;exact⟨_,ea⟩
def under(tab:Qa (Str×Qa Str))(c:Str):D->Bool
 |.dict ((.none,.str n)::_)=>match tab.lookup n with|some ups=>ups.contains c|none=>Ż
 |_=>Ż
end
abbrev FX:=Qa U->Qb ((U×Qa U) ⊕ (D×Qa U))
def IY(K:qc)(n:Nat)(f:FX):Sp:=λvs H Q E=>∃us r,us.length=n/\Rs K (sm us) (e8 vs) H/\f us=ž r/\match r with
 |.inl o=>∀v H',Go K (sm us) (e8 vs) H (sm o.2) H'->Rp K H' v o.1->Nw H v o.1->Q v H'
 |.inr o=>∀a H',Go K (sm us) (e8 vs) H (sm o.2) H'->H a=Ž->BN K H' a o.1->E (.ref a) Ž H'
structure Bv (P:Qe) (w:Qh) (K:qc) (mg:Str->Qb Qc) (base:ĵ) (x:Str) (k:Nat) (ps:Qa Str) (sp:Sp):Prop where
 ex:∃(f:Qg) (fd:Ϣ),bU P w K mg base (rM P w K) k f fd ps sp/\kY K fd ps []/\ň K (.ref f)=ż/\mg x=ž (.ref f)
def YW{X:Cx}:qD X KQ:=λ_ _ _ _ _ _ z=>z.elim
section
variable{X:Cx}{EX:eK}{k:Nat}{es:Qa Ķ}{t:TA}
def Mx(C:Bv X.prog X.w X.K X.mg X.base x k ps sp)(hx:qD X EX)(ha:Wr (PA X (e::es) t))(hr:aG k X.A:=by exact aG.mono ‹aG _ _› (by decide))(hg:Gl X x:=by exact rfl)(cN:(x==("__debug__":Str))=Ż:=by decide)
  (he:eG e=ż:=by rfl) (dq:es.all eG=ż:=by rfl):Wr (PE X (.Call (.Name x p) (e::es) [] pos)<|GK sp EX t):=by
 have(f,fd,F,hb,hk,hm):=C.ex;exact⟨zrX F hr hg hm hk hb hx ha.run cN (j8 he)<|sJ dq⟩
end
section
variable{EX:eK}{ρ aj:En}{A:Qg->Prop}
def Ip(ρ:En)(as:Qa Ar):(U×Qa U) ⊕ (D×Qa U)->RX Ar
 |.inl o=>.inl (.u o.1,wb ρ as o.2)
 |.inr o=>.inr (o.1,wb ρ as o.2)
def Cn(f:FX)(ma:MA):MX:=λρ=>(ma ρ).bind λp=>if gI p.2 p.1=ż then(bY p.2 p.1).bind λus=>(f us).bind λo=>ž (Ip p.2 p.1 o)else Ž
def Mw{f:FX}{t:TA}{m:MA}(n:Nat)(h:kH K t m)(hn:∀ρ as aj,m ρ=ž (as,aj)->as.length=n:=by repeat (first|exact Lq|refine MZ ?_)):VX K EX (GK (IY K n f) EX t) (Cn f m):=by
 refine⟨λρ σ H a aj Q rs e q=>?_,λρ σ H x aj Q rs e q=>?_⟩
 .unfold pE at e
  have(r,e1,e):=bQ e;obtain⟨⟨as,aq⟩,e2,e1⟩:=bQ e1;dsimp only at e1;split at e1
  .rename_i dj
   have(us,eu,e1):=bQ e1;have(o,ef,e1):=bQ e1;cases e1;cases o with
   |inr o=>cases e
   |inl o=>
    cases e;refine h ρ σ H as aq _ rs e2 λvs H1 g1 s1=>?_;have(sO,back):=Gr rs g1 s1 dj eu;exact⟨us,.inl o,by rw[wI eu];exact hn _ _ _ e2,sO,ef,λv H2 g2 p n2=>q v H2 (back o.2 H2 g2) ⟨p,n2.mono g1.dm⟩⟩
  .cases e1
 .obtain⟨⟨as,aq⟩,e2,e1⟩:=bQ e
  dsimp only at e1;split at e1
  .rename_i dj
   have(us,eu,e1):=bQ e1;have(o,ef,e1):=bQ e1;cases o with
   |inl o=>cases e1
   |inr o=>
    cases e1;refine h ρ σ H as aq _ rs e2 λvs H1 g1 s1=>?_;have(sO,back):=Gr rs g1 s1 dj eu;exact⟨us,.inr o,by rw[wI eu];exact hn _ _ _ e2,sO,ef,λa H2 g2 hn fl=>⟨a,rfl,q a H2 (back o.2 H2 g2) (g1.dm a hn) fl⟩⟩
  .cases e1
def Cm(pn:Qa Nat)(us:Qa U):Fl->Qb ((U×Qa U) ⊕ (D×Qa U))
 |.rt u ρ=>(ft pn ρ 0 us).bind λos=>ž<|.inl (u,os)
 |.nx ρ=>(ft pn ρ 0 us).bind λos=>ž<|.inl (.d .none,os)
 |.ex x ρ=>(ft pn ρ 0 us).bind λos=>ž<|.inr (x,os)
 |_=>Ž
def xP(n:Nat)(pn:Qa Nat)(m:MS):FX:=λus=>(m<|sm us++Ě (n - us.length) Ž).bind<|Cm pn us
def jS.okX{f:Qg}{k nn:Nat}{m:MS}(F:jS K x qual st f fd)(S:bA N ps (zN st))(uN:ps.length=n)(hN:N.length=nn)(nX:n<=nn)
  (bP:∀(bo:Qc) (A:Qf) (outer:Qa Env) (s:Qd) (H:Hp) (E:XK),aG k (A.deeper<|a0z qual (zN st) s.heap.objs.size f bo)->qD (jV (rM P w K) P w K mg base N qual (zN st) f bo A outer s H E) (Bt E)->
   ∃t,Wr (fu (jV (rM P w K) P w K mg base N qual (zN st) f bo A outer s H E) (j0 st) t)/\VS K pn (Bt E) t m):bU P w K mg base (rM P w K) (k+1) f fd ps (IY K n<|xP nn pn m):=by
 have(oc,od,kV,doc,pm,an,bo,ct,mX,rfl,lk,jP):=F.ex;refine LX lk jP S (λvs H Q E h=>?_) λA outer s H vs Q E hr h=>?_
 .have(us,r,hl,rs,_):=h
  have:=rs.len;unfold sm e8 at this;simp at this;omega
 have(us,r,hl,rs,ef,q):=h;have(t,wt,vt):=bP bo A outer s H E hr zBY;refine⟨t,wt.run,?_⟩;have(fl,em,ef):=bQ ef;have go:∀(aj:En) (outs:Qa U),ft pn aj 0 us=ž outs->Sn K pn (π N vs) (Ow (sm us)<|e8 vs) H H (sm us++Ě (N.length - us.length) Ž) (π N vs) H:=λaj outs ho=>OL rs (by omega) ho;subst hN;cases fl with
 |nx aj=>
  have(os,eo,ef):=bQ (show(ft pn aj 0 us).bind _=_ from ef);cases ef;refine vt _ _ _ _ _ _ _ (.nx aj) _ (go aj _ eo) em λaK H' s'=>?_;exact q _ _ (yu rs s' eo) .aO Nw.data
 |rt u aj=>
  have(os,eo,ef):=bQ (show(ft pn aj 0 us).bind _=_ from ef);cases ef;refine vt _ _ _ _ _ _ _ (.rt u aj) _ (go aj _ eo) em λv aK H' s' p n'=>?_;exact q _ _ (yu rs s' eo) p n'
 |ex x aj=>
  have(os,eo,ef):=bQ (show(ft pn aj 0 us).bind _=_ from ef);cases ef;refine vt _ _ _ _ _ _ _ (.ex x aj) _ (go aj _ eo) em λa aK H' s' hn fl=>?_;have(n,C,fs,ds,rfl,fv,xn,t):=fl;refine⟨C,fs,fv,λH2 fv2 kk dm=>?_⟩;exact q a H2 (yu rs (s'.mv hn fv.ext kk dm) eo) hn ⟨n,C,fs,ds,rfl,fv2,xn,t.kp (s'.rs.mv fv.ext kk).2⟩
 |bk=>cases ef
 |ct=>cases ef
end
def zCI{k:Nat}{i:Qg}(F:bU P w K mg base iS k i fd ["self",f] (D4 K f)):bU P w K mg base iS k i fd ["self",f] (Fp K f):=by
 refine⟨λvs H Q E h=>by have(a,C,p,v,rfl,_):=h;rfl,λA outer s H args us vs Q E hr e0 hb r h=>?_⟩;have(a,C,p,v,rfl,ea,xc,na,q):=h;refine ϫ (F.run A outer s H args us [.ref a,v] (λv' H'=>v'=.aO/\∃dx ox od,H dx=Ž/\dx≠a/\ox={jE C p with dict:=ž dx}/\H'=upd (upd H dx<|.aZ od<|.xd [(f,v)]) a (.aZ ox<|.own 0)) E hr e0 hb r
  ⟨a,C,p,v,rfl,ea,xc,na,λdx ox od h1 h2 h3 h4 h5 h6=>⟨rfl,dx,ox,od,h1,h2,h6,rfl⟩⟩) λr s' z=>?_
 cases r with
 |error e=>exact z.elim
 |ok fl=>
  cases fl with
  |ret u=>
   have(v',H',os,bare,un,aC,rv,rfl,dx,ox,od,h1,h2,h3,rfl):=z;have(ha,_):=aC a _ zz;subst h3;have(S0,AK):=Yd (u:=mF a C (ž dx) Ž) un aC ea zz (λ_ z=>nomatch z) (λ_ z=>nomatch z) (G1 ⟨_,_,ha,rfl,rfl,rfl,rfl,λ_=>⟨p,rfl⟩⟩);rw[Zl]at S0 AK;exact⟨.aO,_,os,bare,S0,AK,rv,q dx od h1 h2⟩
  |next=>exact z.elim
  |brk=>exact z.elim
  |cont=>exact z.elim
section
variable{X:Cx}{C:Qg}{es:Qa Ķ}{t:TA}{EX:eK}
def Hz(c:vh X.prog X.w X.K X.mg X.base x C f)(ha:Wr (PA X (e::es) t))(hr:aG 2 X.A:=by exact aG.mono ‹aG _ _› (by decide))(hg:Gl X x:=by exact rfl)(cN:(x==("__debug__":Str))=Ż:=by decide)
  (he:eG e=ż:=by rfl) (dq:es.all eG=ż:=by rfl):Wr (PE X (.Call (.Name x p) (e::es) [] pos)<|GN C (Fp X.K f) E0 t):=by
 have(i,fd,h1,h2,h3,h4):=c.ini;exact⟨zrU c.cl h1 h2 c.kp (zCI h4) hr hg c.Jr h3 LU ha.run cN (j8 he)<|sJ dq⟩
def zqC(c:oh X.K X.mg x C)(hg:Gl X x)(cN:(x==("__debug__":Str))=Ż:=by decide):Wr (PE X (.Call (.Name x p) [] [] pos)<|HB C):=⟨zm7 c.cl c.hi c.kp hg c.Jr cN⟩
def CZ(K:qc)(hK:X.K=K){k:Nat}(hr:aG k X.A)(hx:qD X EX)(he:Wr (PE X e te)):Wr (PS X (.Raise (ž e) Ž pos)<|GL K EX te):=hK▸⟨zrW hx hr.hd he.run⟩
end
noncomputable def tyD:D->Qb String
 |.none=>ž "NoneType"
 |.bool _=>ž "bool"
 |.int _=>ž "int"
 |.str _=>ž "str"
 |.tuple _=>ž "tuple"
 |_=>Ž
def S1:U->Qb String
 |.d x=>tyD x
 |.l _=>ž "list"
 |_=>Ž
noncomputable def mZ(t T:String):Bool:=t==T || (t == "bool" && T == "int")
noncomputable def F2:Qa String:=["NoneType", "bool", "int", "str", "tuple", "list"]
def YV(K:qc):∀t∈F2,∀T∈["int", "bool", "str", "tuple", "list"],ŭ K (.type t) (.type T)=ž (mZ t T):=by
 have hm:∀T∈["int", "bool", "str", "tuple", "list"],PySem.W.kitMeta T=ż:=by decide +kernel
 have hs:∀t∈F2,∀T∈["int", "bool", "str", "tuple", "list"],(PySem.fastBuiltinMro t).map (·.contains (a1Z T))=ž (mZ t T):=by decide +kernel
 intro t ht T hT;unfold ŭ;split
 .rename_i q
  have e:t=T:=a4P (beq_iff_eq.mp q);subst e;unfold mZ;simp
 .unfold PySem.W.kitCls PySem.W.subIn
  simp only[hm T hT,if_true];exact hs t ht T hT
def fC(T:String)(u:U):Qb U:=(S1 u).bind λt=>if t∈F2/\T∈["int", "bool", "str", "tuple", "list"]then ž (.d<|.bool<|mZ t T)else Ž
section
def zAp{u:U}{t:String}(h:Rp K H v u)(e:S1 u=ž t):eB K H v (.type t):=by
 cases u with
 |d x=>
  cases x with
  |none=>cases e;cases h;exact .aO
  |bool b=>cases e;cases DF.bh h;exact .bl _
  |int i=>cases e;cases DF.int_inv h;exact .int _
  |str x=>cases e;cases DF.str_inv h;exact .str _
  |tuple ds=>cases e;have(a,ys,rfl,h1,_):=DF.aH h;exact .tup h1
  |list ds=>cases e
  |dict ds=>cases e
 |l xs=>cases e;have(a,us,rfl,h1,_):=h;exact .lst h1
 |t kvs=>cases e
 |k kvs=>cases e
 |o=>cases e
def ir{me:ME}(h:VE K te me):VE K (oZ (Fs K)<|oN te<|oN (tC<|.ty T) pX) (cn (fC T) me):=by
 intro ρ σ H a aj Q rs e q;obtain⟨⟨a1,aq⟩,e1,e⟩:=bQ e;have(x,ex,e):=bQ e;have(u,eu,e):=bQ e;cases e;refine h ρ σ H a1 _ _ rs e1 λv1 H1 g1 k1=>?_;have p:=k1.now rs g1 ex;unfold fC at eu;have(t,et,eu):=bQ eu;split at eu
 .rename_i hc
  cases eu;exact⟨v1,.type t,T,_,rfl,zAp p et,YV K t hc.1 T hc.2,q _ _ g1 ⟨DF.bl _,Nw.data⟩⟩
 .cases eu
def xO(x:D)(ds:Qa D):Qb Bool:=(xt x).bind λw=>(ds.mapM xt).bind λws=>ž<|iO w ws
def rF(neg:Bool)(a b:U):Qb U:=match a with
 |.d x=>b.items.bind λds=>(xO x ds).bind λr=>ž<|.d<|.bool (if neg=ż then !r else r)
 |_=>Ž
def F1(neg:Bool):VO K (Ap K neg) (rF neg):=by
 intro x y a b u H Q ha hb e q;cases a with
 |d d=>
  have(ds,e1,e):=bQ (show b.items.bind _=ž u from e);have(r,e2,e):=bQ e;have(w,e3,e2):=bQ e2;have(ws,e4,e2):=bQ e2;cases e2;cases e;have(p,ys,rfl,sq,df):=hb.items e1;have(rfl,f1):=GX ha e3;have(rfl,f2):=NY df e4;exact⟨p,_,rfl,sq,f1,f2,q _ _ (dI.refl H) (by cases neg<;>exact DF.bl _) Nw.data⟩
 |_=>cases e
noncomputable def Kx:D->Qb Bool
 |.bool b=>ž b
 |_=>Ž
def NW:∀{us:Qa V} {ds:Qa D} {bs:Qa Bool},aQ K H us ds->ds.mapM Kx=ž bs->us=bs.map V.bl
 |_,_,bs,.nil,e=>by cases e;rfl
 |_,_,bs,.cons (d:=d) h t,e=>by
  rw[ŷ]at e;have(y,e1,e):=bQ e;have(iV,e2,e):=bQ e;cases e;cases d with
  |bool x=>cases e1;cases DF.bh h;rw[NW t e2];rfl
  |_=>cases e1
def Io(u:U):Qb U:=u.items.bind λds=>(ds.mapM Kx).bind λbs=>ž<|.d<|.bool<|bs.all id
def zAr:VC K (SA K) (f1 Io):=rR λv a u H Q h e q=>by
 have(ds,ex,e):=bQ e;have(bs,eb,e):=bQ e;cases e;have(p,ys,rfl,s,d):=h.items ex;cases NW d eb;exact⟨p,bs,rfl,s,q _ _ (λ_ _ z=>z) (.bl _) Nw.data⟩
def tW(f f':U->U->Qb U)(ma mb mc:ME):ME:=λρ=>(ma ρ).bind λp=>(mb p.2).bind λq=>(p.1.get q.2).bind λx=>(q.1.get q.2).bind λy=>(f x y).bind λr=>match r with
 |.d (.bool ż)=>(mc q.2).bind λs=>(q.1.get s.2).bind λy'=>(s.1.get s.2).bind λz=>(f' y' z).bind λu=>ž (.u u,s.2)
 |.d (.bool Ż)=>ž (.u<|.d<|.bool Ż,q.2)
 |_=>Ž
def CY{r r':R2}{f f':U->U->Qb U}{tc:TE}{ma mb mc:ME}(h:VO K r f)(h':VO K r' f')(ha:VE K ta ma)(hb:VE K tb mb)(hc:VE K tc mc):VE K (yq r r' ta tb tc) (tW f f' ma mb mc):=by
 intro ρ σ H a aj Q rs e q;obtain⟨⟨a1,aq⟩,e1,e⟩:=bQ e;obtain⟨⟨b1,aD⟩,e2,e⟩:=bQ e;have(x,ex,e):=bQ e;have(y,ey,e):=bQ e;have(rr,er,e):=bQ e;refine ha ρ σ H a1 aq _ rs e1 λv1 H1 g1 k1=>hb aq σ H1 b1 aD _ g1.rs e2 λv2 H2 g2 k2=>?_;refine h _ _ x y rr H2 _ (k1.later rs g1 g2 ex) (k2.now g1.rs g2 ey) er λv H3 s p n=>?_;have g3:=Go.grow g2.rs s;split at e
 .cases DF.bh p
  refine⟨ż,rfl,?_⟩;rw[a6P rfl];obtain⟨⟨c1,mm⟩,e3,e⟩:=bQ e;have(y',Kr,e):=bQ e;have(z,ez,e):=bQ e;have(u,eu,e):=bQ e;cases e;refine hc aD σ H3 c1 _ _ g3.rs e3 λv3 H4 g4 k4=>?_;refine h' _ _ y' z u H4 _ (k2.later g1.rs g2 (g3.trans g4) Kr) (k4.now g3.rs g4 ez) eu λw H5 s5 p5 n5=>?_;exact q w H5 ((((g1.trans g2).trans g3).trans g4).trans<|Go.grow g4.rs s5) ⟨p5,n5.mono λb hb=>(g1.trans g2).dm b<|g3.dm b<|g4.dm b hb⟩
 .cases DF.bh p
  cases e;refine⟨Ż,rfl,?_⟩;rw[a6Q (by decide)];exact q _ H3 ((g1.trans g2).trans g3) ⟨DF.bl _,Nw.data⟩
 .cases e
def ye:U->U->Qb U
 |.d (.str z),.d (.int n)=>if 0<=n/\n<=1 then ž (.d<|.str<|p4 z n)else Ž
 |_,_=>Ž
def YU:VO K (λx y H Q=>∃z n,x=.str z/\y=.int n/\0<=n/\n<=1/\Q (.str<|p4 z n) H) ye:=by
 intro x y a b u H Q ha hb e q;unfold ye at e;split at e
 .split at e
  .rename_i z n hc
   cases e;exact⟨z,n,DF.str_inv ha,DF.int_inv hb,hc.1,hc.2,q _ _ (dI.refl H) (DF.str _) Nw.data⟩
  .cases e
 .cases e
def yc:U->Qb U
 |.d (.str z)=>if z.length<=Ĕ then ž (.d<|.int z.length)else Ž
 |_=>Ž
def YT:VC K (λxs H Q=>∃z,xs=[.str z]/\z.length<=Ĕ/\Q (.int z.length) H) (f1 yc):=rR λv a u H Q h e q=>by
 unfold yc at e;split at e
 .split at e
  .rename_i z hc
   cases e;exact⟨z,by rw[DF.str_inv h],hc,q _ _ (dI.refl H) (DF.int _) Nw.data⟩
  .cases e
 .cases e
def EL(g:Str->Bool):U->Qb U
 |.d (.str z)=>ž<|.d<|.bool<|g z
 |_=>Ž
def Ay(g:Str->Bool)(mo:ME):ME:=cn (EL g) mo
def D8(g:Str->Bool):V->Qa V->Hp->VK->Prop:=λx xs H Q=>∃z,x=.str z/\xs=[]/\Q (.bl<|g z) H
def Im{g:Str->Bool}{to:TE}{mo:ME}(h:VE K to mo):VE K (Fd K "str" (D8 g) to) (Ay g mo):=by
 intro ρ σ H a aj Q rs e q;obtain⟨⟨a1,aq⟩,e1,e⟩:=bQ e;have(x,ex,e):=bQ e;have(u,eu,e):=bQ e;cases e;refine h ρ σ H a1 _ _ rs e1 λv1 H1 g1 k1=>?_;have p:=k1.now rs g1 ex;unfold EL at eu;split at eu
 .rename_i z
  cases eu;cases DF.str_inv p;exact⟨rfl,z,rfl,rfl,q _ _ g1 ⟨DF.bl _,Nw.data⟩⟩
 .cases eu
end
section
variable{X:Cx}
def znl:vk X "str.isascii" (D8 a3c):=by
 intro pins s σ H x xs v us Q I rx rv h;have(z,rfl,rfl,q):=h;have(t,rfl):=rx;cases rv;exact PySem.SC.isascii<|de I q rfl
def znm:vk X "str.isalpha" (D8 a1H):=by
 intro pins s σ H x xs v us Q I rx rv h;have(z,rfl,rfl,q):=h;have(t,rfl):=rx;cases rv;exact PySem.SC.isalpha<|de I q rfl
def znn:vk X "str.islower" (D8 a1G):=by
 intro pins s σ H x xs v us Q I rx rv h;have(z,rfl,rfl,q):=h;have(t,rfl):=rx;cases rv;exact PySem.SC.islower<|de I q rfl
def xE(K:qc)(g:Qg)(ws:Qa Str):Prop:=∃(o:Obj) (ai:Array Qc) (n:Nat),K.lookup g=ž o/\o.cls=.type "tuple"/\o.data=.seq ai n/\ai.size<=Ĕ/\zQ (ws.map V.str) ai.toList
def xE.sq{g:Qg}{ws:Qa Str}(h:xE K g ws):bI K H g (ws.map V.str):=.inr h
def Ss(K:qc)(ws:Qa Str):R2:=λx y H Q=>∃g,y=.ref g/\xE K g ws/\((mP x=ż/\Q (.bl<|iO x<|ws.map V.str) H)\/∃ds,DV K H x (.tuple ds)/\ϐ (.tuple ds)=ż/\Q (.bl Ż) H)
def zAt(K:qc)(hK:X.K=K){k:Nat}(hr:aG k X.A)(ws:Qa Str)(hws:∀z∈ws,(Ņ z).canLay0=ż):bz X (Ĭ .In) (Ss K ws):=by
 subst hK;intro pins s σ H x y v u Q I rx ry h;have(g,rfl,gw,h):=h;rcases h with⟨fx,q⟩|⟨ds,dv,sh,q⟩
 .refine PH pins s σ H x (.ref g) v u Q I rx ry ⟨g,_,rfl,.inr gw.sq,fx,?_,q⟩
  simp[mP]
 .cases ry
  have(ai,r,pl,hz):=I.tuple gw.sq;have(as,ra):=DV.reads I dv rx;refine a5R (λ_=>Ż) pl (λw hw=>?_) ⟨.bl _,H,I,rfl,?_⟩
  .have hw':w∈ai:=by simpa using hw
   have(j,hj,ej):=Đ hw';have hl:=r.length;have hj2:j < ws.length:=by rw[ē]at hl;omega
   have(u',e1,e2):=r.get (i:=j) (x:=.str (ws[j]'(by rw[ē]at hl;omega))) (by rw[ĝ,ql (by rw[ē]at hl;omega)];rfl);rw[ql hj,ej]at e1;cases e1;have(t,rfl):=e2;have z:=SeqAt.eqAt_reads (.str ws[j]) (.tuple ds) X.A.in1 s (.str ws[j] t) v [] as (Reads.str ..) ra (hws _<|Ö _) (õ sh) (by
    have h1:=hr.units;have h2:min (Ņ ws[j]).depth (į ds).depth<=(Ņ ws[j]).depth:=Nat.min_le_left _ _;have h3:(Ņ ws[j]).depth=0:=by simp[a0f]
    have h4:X.A.in1.units<=X.A.units+1:=by simp[a5c]
    omega)
   rw[show a0p (.str ws[j]) (.tuple ds)=Ż by simp[a0p]]at z;exact z
  .rw[show(ai.toArray.any λ_=>Ż)=Ż by simp];exact q
def BU(ws:Qa Str):U->Qb U
 |.d (.tuple ds)=>if ϐ (.tuple ds)=ż then ž (.d<|.bool Ż)else Ž
 |.d x=>(xt x).bind λw=>ž<|.d<|.bool<|iO w<|ws.map V.str
 |_=>Ž
def zCK{g:Qg}{ws:Qa Str}{me:ME}(gw:xE K g ws)(h:VE K te me):VE K (mW (Ss K ws) te<|tC<|.ref g) (cn (BU ws) me):=by
 intro ρ σ H a aj Q rs e q;obtain⟨⟨a1,aq⟩,e1,e⟩:=bQ e;have(x,ex,e):=bQ e;have(u,eu,e):=bQ e;cases e;refine h ρ σ H a1 _ _ rs e1 λv1 H1 g1 k1=>?_;have p:=k1.now rs g1 ex;refine⟨g,rfl,gw,?_⟩;unfold BU at eu;split at eu
 .rename_i ds
  split at eu
  .rename_i hc
   cases eu;exact .inr ⟨ds,Rp.dv (u:=.d (.tuple ds)) p rfl<|yT _<|õ hc,hc,q _ _ g1 ⟨DF.bl _,Nw.data⟩⟩
  .cases eu
 .have(w,ew,eu):=bQ eu
  cases eu;have(rfl,f1):=GX p ew;exact .inl ⟨f1,q _ _ g1 ⟨DF.bl _,Nw.data⟩⟩
 .cases eu
end
noncomputable def oq(ks:Qa Key)(i:Nat)(k:Key):Bool:=(ks.take i).any λx=>decide<|x=k
def g8(ks:Qa Key):Nat->Nat
 |0=>0
 |i+1=>match ks[i]? with
  |some k=>if oq ks i k=ż then g8 ks i else g8 ks i+1
  |none=>g8 ks i
def GS(ks:Qa Key):∀i,g8 ks i<=i
 |0=>qe _
 |i+1=>by
  have:=GS ks i;unfold g8;split
  .split<;>omega
  .omega
section
variable{R:υ->Qd->Prop}{I:Qg}{fp wr:Qa Qg}{ks:Qa Key}{P:Nat->Qc->Prop}{St:Nat->Qd->Prop}
def O8{kd:KeyKind prog w Key}{S:Key->Bool}(x:h.SetOf kd a S n)(k:∀o,h.get? a=ž o->h'.get? a=ž o):h'.SetOf kd a S n :=
 let ⟨o,es,ep,t,ho,r⟩:=x
 ⟨o,es,ep,t,k o ho,r⟩
def zsE{kd:KeyKind prog w Key}{S S':Key->Bool}{n':Nat}(x:h.SetOf kd a S n)(e:∀k,S k=S' k)(en:n=n'):h.SetOf kd a S' n':=by
 cases funext e;cases en;exact x
def zsF(W:WalksS prog w A.in1 I fp wr G ks.length P St)(S:Qg)(EE:S∉fp)(hv:∀i v,P i v->∃k,ks[i]?=ž k/\rW k v=ż/\v.scannable=ż)(hb:ks.length+1 < a3G):
  ∀(m i:Nat) (s:Qd),i+m=ks.length->St i s->s.heap.SetOf (zI prog w) S (oq ks i) (g8 ks i)->
   (∀s',Moved (S::wr) G s s'->s'.heap.SetOf (zI prog w) S (oq ks ks.length) (g8 ks ks.length)->R (.ok<|.ret .none) s')->a0n (Ę prog w) A (.builtin "set.update.loop" ⟨[.ref S,.ref I],[]⟩) R s:=by
 have nw:S∉wr:=λz=>EE<|W.sub _ z;have up:∀b∈wr,b∈S::wr:=λb=>qm _;intro m
 induction m with
 |zero=>
  intro i s hi st hS hR;cases(show i=ks.length by omega);refine a4e a0R ?_;rw[a4x ϣ _];show ĕ _ A.in1 (Ψ (.ref I) >>= _) _ _ s;exact qa<|W.done s _ _ st λs1 mv=>qb<|hR s1 (mv.mono up)<|O8 hS λo e=>mv.heap S o nw e
 |succ m ih=>
  intro i s hi st hS hR;refine a4e a0R ?_;rw[a4x ϣ _];show ĕ _ A.in1 (Ψ (.ref I) >>= _) _ _ s;refine qa<|W.item i s _ _ (by omega) st λv s1 hP ur mv=>?_;have(k,ek,kv,sc):=hv i v hP;have hS1:=O8 hS λo e=>mv.heap S o nw e;show ĕ _ A.in1 (a0I [v] (setAdd S v) >>= _) _ _ s1;refine qa<|Ō ?_;unfold setAdd;refine Ō<|qa<|(zI prog w).pyHash (k:=k) kv ?_;have room:g8 ks i+1 < a3G:=by have:=GS ks i;omega
  refine wpAny_setAddHashed_of (knd:=zI prog w) (s:={s1 with toks:=s1.toks+1}) kv sc hS1 room λh2 sb hS2=>?_;have et:ks.take (i+1)=ks.take i++[k]:=by rw[List.take_add_one,ek];rfl
  have hS3:=zsE (S':=oq ks (i+1)) (n':=g8 ks (i+1)) hS2 (λk'=>by
   unfold oq;rw[et,List.any_append];simp[eq_comm]) (by
   show _=(match ks[i]? with|some k=>if oq ks i k=ż then g8 ks i else g8 ks i+1|none=>g8 ks i);rw[ek])
  refine qb ⟨plainId_quiet ϣ _,ih (i+1) _ (by omega) (W.frame _ s1 _ _ ur (ò _) λb hb o e=>?_) hS3 λs2 mv2 hS4=>?_⟩
  .exact(sb.2 b λz:b=S=>EE<|z▸hb).trans e
  .refine hR s2 (Moved.trans W.gtrans ((mv.mono up).then_heap (ò _) λb o hb e=>?_) mv2) hS4
   exact(sb.2 b λz:b=S=>hb<|z▸qo).trans e
end
section
def NV(b:String)(hb:b = "set"\/b = "frozenset"):isSubtype (.type "tuple") (.type b)=pure Ż:=by
 rcases hb with rfl|rfl<;>(rw[isSubtype_type];kernel_rfl)
noncomputable def oQ(led:Bool):Obj:={cls:=.type "set",dict:=Ž,data:=.set #[] 0 (.fresh 0 0 led)}
def zkq{items:Array Qc}{ks:Qa Key}(hh:A.handled=Ž)(ht:a2R s.heap a items)(hk:∀(i:Nat) (v:Qc),items[i]?=ž v->∃k,ks[i]?=ž k/\rW k v=ż/\v.scannable=ż)(hz:items.size=ks.length)(hb:ks.length+1 < a3G)
  (h:∀(h':ĵ) (tk:Nat),h'.SetOf (zI prog w) s.heap.objs.size (oq ks ks.length) (g8 ks ks.length)->(∀b o,s.heap.get? b=ž o->h'.get? b=ž o)->Q (.ref s.heap.objs.size) {s with heap:=h',toks:=tk}):
  ĕ (Ę prog w) A (a2A (.type "set") [.ref a]) Q E s:=by
 have(c,tl,hmro):=ä.mro;have m1:=ä.made;have m2:=ä.sub;have m3:=ä.notType;have m4:=ä.canCreate;have m5:=PySem.F.typeCall_set_1 (.ref a);have htl:s.heap.IsTuple a items:=ht;obtain⟨⟨oc,od,odt,mX⟩,ho,hc,n,hd⟩:=id htl;have eJ:a < s.heap.objs.size:=qh ho;refine a0g<|a4d ?_;show ĕ _ _ (callAny (.type "set") _) _ _ _;refine qb ⟨Ē _ (by decide +kernel),a4e PySem.F.entry_type_call ?_⟩;rw[Around.under_plain (weight_type_call_type "set" [.ref a] []) rfl]
 repeat (any_goals (first|assumption|wp_step))
 refine ϫ (code_set_new_1 (.ref a) (E:=E) (Q₁:=λobj s1=>∃led,obj=.ref s.heap.objs.size/\s1={s with heap:=s.heap.push (oQ led)}) λled=>⟨led,rfl,rfl⟩) λr s1 hr=>?_;cases r with
 |error e=>exact hr
 |ok fl=>
 cases fl with
 |next=>exact hr.elim
 |brk=>exact hr.elim
 |cont=>exact hr.elim
 |ret obj=>
 have(led,rfl,rfl):=hr;have hS:(s.heap.push<|oQ led).get? s.heap.objs.size=ž (oQ led):=qg _ rfl;have hT:a1I {s with heap:=s.heap.push (oQ led)} (.ref s.heap.objs.size) "set":=⟨_,hS,rfl⟩;have n1:=ä.init.lookup;have n2:=ä.init.bind (.ref s.heap.objs.size)
 repeat (any_goals (first|assumption|wp_step))
 refine ϫ (a2n (R:=wants (λr s2=>r=.none/\∃h' tk,s2={s with heap:=h',toks:=tk}/\h'.SetOf (zI prog w) s.heap.objs.size (oq ks ks.length) (g8 ks ks.length)/\(∀b o,s.heap.get? b=ž o->h'.get? b=ž o)) E) ä.init.plain PySem.F.entry_set_init<|check_set_init_1 hT ?_) λr s2 hr=>?_
 rotate_left
 .cases r with
  |error e=>exact hr
  |ok fl=>
  cases fl with
  |next=>exact hr.elim
  |brk=>exact hr.elim
  |cont=>exact hr.elim
  |ret obj=>
  have(rfl,h',tk,rfl,Kg,i7):=hr
  repeat (any_goals (first|assumption|wp_step))
  exact h _ _ Kg i7
 .dsimp only at hc hd
  subst hc hd;have pI:(s.heap.push<|oQ led).get? a=ž ⟨.type "tuple",od,.seq items n,mX⟩:=qd _ ho;have sX:(s.heap.push<|oQ led).IsTuple a items:=⟨_,pI,rfl,n,rfl⟩;have s1:=NV "set" (.inl rfl);have s2:=NV "frozenset" (.inr rfl);have s3:(a1Z "tuple"==a1Z "dict")=Ż:=by decide
  unfold Builtin.«set.__init__» noKeywords a6O;generalize hPI:a3H=PI
  wp_walk
  subst hPI;refine wpAny_pyIter_tuple sX<|qa<|wpAny_runValue ?_;have hsz:(s.heap.push<|oQ led).objs.size=s.heap.objs.size+1:=Ŏ ..;have ne:a≠(s.heap.push<|oQ led).objs.size:=by rw[hsz];exact qj<|Ú eJ
  have EE:s.heap.objs.size∉[(s.heap.push<|oQ led).objs.size,a]:=by
   rw[hsz];simp only[qu,ķ,or_false,not_or];exact⟨qj<|í _,û eJ⟩
  have hh3:A.in1.in1.in1.handled=Ž:=by simp[hh]
  have WT:=(Walks.tuple (prog:=prog) (w:=w) hh3 _ a ne items).toS;rw[hz]at WT;refine zsF WT s.heap.objs.size EE hk hb ks.length 0 _ (ř _) ⟨⟨_,qg _ rfl,rfl,rfl⟩,?_⟩ ?_ ?_
  .exact⟨_,qd _ pI,rfl,n,rfl⟩
  .exact⟨oQ led,#[],0,_,qd _ hS,⟨rfl,rfl,rfl⟩,rfl,λe he=>by simp at he,λk=>by simp[oq],by show 0 < a3G;omega,rfl,rfl⟩
  .intro s' mv Kg
   have(h',g',d',tk',sQ):=s';cases(show g'=s.gens from mv.gens);cases(show d'=s.drawn from mv.drawn);cases(show sQ=s.os from mv.os);refine qb<|qb ⟨rfl,h',tk',rfl,Kg,λb o e=>?_⟩;have TJ:=qh e;refine mv.heap b o ?_<|qd _<|qd _ e;simp only[qu,ķ,or_false,not_or];rw[hsz];exact⟨qj TJ,qj<|Ú TJ⟩
end
def Sr(p:Qg)(n:Nat)(h:ĵ):Prop:=∃o es ep t,h.get? p=ž o/\o.ExactSet/\o.data=.set es ep t/\t.fits es.size=ż/\es.size=n
def BS(p:Qg)(n:Nat):HO:=.ext (Sr p n)
def YS{p:Qg}(x:Sr p n h):bX P w K H h p (BS p n):=by
 have(o,es,ep,t,h1,h2):=x;exact⟨⟨o,es,ep,t,h1,h2⟩,⟨o,h1⟩,λa b ⟨o,es,ep,t,z1,z2⟩ k=>⟨o,es,ep,t,k _ z1,z2⟩⟩
def Lz(K:qc):Qa V->Hp->VK->Prop:=λxs H Q=>∃(a:Qg) (ks:Qa Key),xs=[.ref a]/\bI K H a (ks.map kV)/\ks.length<=1000/\∀p,H p=Ž->Q (.ref p) (upd H p<|BS p<|g8 ks ks.length)
def Ly:Qa V->Hp->VK->Prop:=λxs H Q=>∃p n,xs=[.ref p]/\H p=ž (BS p n)/\n<=1000/\Q (.int n) H
section
variable{X:Cx}
def zqD(K:qc)(hK:X.K=K)(hc:X.calm=ż):gJ X (.type "set") (Lz K):=by
 subst hK;intro pins s σ H xs us Q I r h;have(a,ks,rfl,sq,hl,q):=h;have(u,rfl,ru):=r.one;cases(show u=Ĝ a from ru);have(ai,rv,pl,hz):=I.tuple sq;have ll:=rv.length;rw[ē]at ll;refine zkq (ks:=ks) (I.ok.hd hc) pl (λi v e=>?_) (by simp[ll]) (by unfold a3G;omega) λh' tk hS up=>?_
 .have e':ai[i]?=ž v:=by simpa using e
  have hi:i < ks.length:=by rw[ll];exact(qk.mp e').1
  have(u,e1,e2):=rv.get (i:=i) (x:=kV ks[i]) (by rw[ĝ,ql hi];rfl);rw[e']at e1;cases e1;refine⟨ks[i],ql hi,?_⟩;generalize ks[i]=k at e2;cases k with
  |inl n=>have(t,rfl):=e2;exact⟨Qm n t,rfl⟩
  |inr z=>have(t,rfl):=e2;exact⟨Ql z t,rfl⟩
 .have(o,es,ep,t,ho,hex,hd,_,_,_,hf,hn):=hS
  exact⟨.ref s.heap.objs.size,_,I.laid (t':=tk) up (qe _)<|YS ⟨o,es,ep,t,ho,hex,hd,hf,hn⟩,rfl,q _<|I.aC.fresh<|qe _⟩
def zqE:gJ X (.builtin "len") Ly:=by
 intro pins s σ H xs us Q I r h;have(p,n,rfl,hp,hn,q):=h;have(u,rfl,ru):=r.one;cases(show u=Ĝ p from ru);obtain⟨⟨o,es,ep,t,ho,hex,hd,hf,rfl⟩,_⟩:=I.aC p _ hp;exact call_len_set ho hex hd hf (by omega) ⟨.int es.size,H,I.tok _,⟨_,rfl⟩,q⟩
def CW:U->Qb U
 |.d (.tuple ds)=>(ds.mapM nu).bind λks=>if ks.length<=1000 then ž (.d<|.int<|g8 ks ks.length)else Ž
 |_=>Ž
def O7:∀{us:Qa V} {ds:Qa D} {ks:Qa Key},aQ K H us ds->ds.mapM nu=ž ks->us=ks.map kV
 |_,_,ks,.nil,e=>by cases e;rfl
 |_,_,ks,.cons (d:=d) h t,e=>by
  rw[ŷ]at e;have(y,e1,e):=bQ e;have(iV,e2,e):=bQ e;cases e;rw[O7 t e2];cases d with
  |int i=>cases e1;cases DF.int_inv h;rfl
  |str x=>cases e1;cases DF.str_inv h;rfl
  |_=>cases e1
def zsG{me:ME}(h:VE K te me):VE K (oZ Ly<|oN (oZ (Lz K)<|oN te pX) pX) (cn CW me):=by
 intro ρ σ H a aj Q rs e q;obtain⟨⟨a1,aq⟩,e1,e⟩:=bQ e;have(x,ex,e):=bQ e;have(u,eu,e):=bQ e;cases e;refine h ρ σ H a1 _ _ rs e1 λv1 H1 g1 k1=>?_;have p:=k1.now rs g1 ex;unfold CW at eu;split at eu
 .have(ks,ek,eu):=bQ eu
  split at eu
  .rename_i hl
   cases eu;have(b,ys,rfl,h1,h2):=DF.aH p;cases O7 h2 ek;refine⟨b,ks,rfl,(be.sq h1),hl,λpp hp=>⟨pp,_,rfl,zz,qx (GS ks _) hl,?_⟩⟩;have sm:dI H1 (upd H1 pp<|BS pp<|g8 ks ks.length):=λb o hb=>by rw[zw<|jr hb hp];exact hb
   exact q _ _ (g1.trans<|Go.grow g1.rs sm) ⟨DF.int _,Nw.data⟩
  .cases eu
 .cases eu
def O6{a b c:Ķ}{tc:TE}{r r':R2}(ho:bz X (Ĭ op) r)(dF:bz X (Ĭ hV) r')(ha:Wr (PE X a ta))(hb:Wr (PE X b tb))(hc:Wr (PE X c tc))(hm:a2s [op,hV] [b,c]=Ż:=by rfl):
  Wr (PT X (.Compare a [op,hV] [b,c] pos)<|tO<|yq r r' ta tb tc):=⟨zrq ho dF ha.run hb.run hc.run hm⟩
def MB(K:qc):R2:=λx y H Q=>F4 K x y H Q\/∃a b,x=.ref a/\y=.ref b/\bI K H a []/\(∃ys,bI K H b ys)/\Q y H
end
section
variable{X:Cx}
def XS{t b:Qg}{ws:Qa Qc}(ht:a2R s.heap t #[])(hb:a2R s.heap b ws.toArray)(h:Q (.ref b) s):ĕ (Ę prog w) A (Ŷ .Add (.ref t)<|.ref b) Q E s:=by
 obtain⟨⟨c1,d1,o1,s1⟩,h1,z1,n1,y1⟩:=id ht;obtain⟨⟨c2,d2,o2,s2⟩,h2,z2,n2,y2⟩:=id hb;cases(show c1=_ from z1);cases(show c2=_ from z2);cases(show o1=_ from y1);cases(show o2=_ from y2);have mt:=tuple_addW0 t b #[] ws.toArray n1 n2 d1 d2 s1 s2 rfl;exact a3l ⟨_,h1,rfl⟩ ⟨_,h2,rfl⟩ a3I a5h a0Z a0J (a0A _ _) mt ⟨h1,h2,h⟩
def O5(hK:X.K=K:=by rfl):bz X (Ŷ .Add) (MB K):=by
 subst hK;intro pins s σ H x y v u Q I rx ry h;rcases h with h|⟨a,b,rfl,rfl,ha,⟨ys,hb⟩,q⟩
 .exact Yu pins s σ H x y v u Q I rx ry h
 .cases rx
  cases ry;have(ai,r1,p1,_):=I.tuple ha;have(gT,r2,p2,_):=I.tuple hb;cases r1;exact XS p1 p2 ⟨.ref b,H,I,rfl,q⟩
def wj:U->U->Qb U
 |.d (.tuple []),.d (.tuple ys)=>ž<|.d<|.tuple ys
 |a,b=>xX a b
def O4:VO K (MB K) wj:=by
 intro x y a b u H Q ha hb e q;unfold wj at e;split at e
 .cases e
  have(p,us,rfl,h1,h2):=DF.aH ha;have(p',nH,rfl,lN,i9):=DF.aH hb;cases h2;exact .inr ⟨p,p',rfl,rfl,(be.sq h1),⟨nH,(be.sq lN)⟩,q _ _ (dI.refl H) hb Nw.data⟩
 .exact .inl (YL x y _ _ u H Q ha hb e q)
end
def vn(K:qc)(g:Qg)(ns:Qa Int):Prop:=∃(o:Obj) (ai:Array Qc) (n:Nat),K.lookup g=ž o/\o.cls=.type "tuple"/\o.data=.seq ai n/\ai.size<=Ĕ/\zQ (ns.map V.int) ai.toList
section
variable{X:Cx}
def vn.sq{g:Qg}(h:vn K g ns):bI K H g (ns.map V.int):=.inr h
def O3:∀(ns:Qa Int),l8 K H (ns.map V.int)<|ns.map ľ
 |[]=>.nil
 |n::ns=>.cons (.int n)<|O3 ns
def vn.dv{g:Qg}(h:vn K g ns):DV K H (.ref g) (.tuple<|ns.map ľ):=.tup h.sq (O3 ns)
def vF(neg:Bool)(ns:Qa Int)(a:U):Qb U:=oz neg a (.d<|.tuple<|ns.map ľ)
def F0{neg:Bool}{g:Qg}{me:ME}(gt:vn K g ns)(h:VE K te me):VE K (mW (BQ K neg) te<|tC<|.ref g) (cn (vF neg ns) me):=by
 intro ρ σ H a aj Q rs e q;obtain⟨⟨a1,aq⟩,e1,e⟩:=bQ e;have(x,ex,e):=bQ e;have(u,eu,e):=bQ e;cases e;refine h ρ σ H a1 _ _ rs e1 λv1 H1 g1 k1=>?_;have p:=k1.now rs g1 ex;have(dx,e2,eu):=bQ eu;have(dy,e3,eu):=bQ eu;cases e3;split at eu
 .rename_i hs
  cases eu;exact⟨dx,_,p.dv e2<|yT _<|õ hs.1,gt.dv,hs.1,hs.2,q _ _ g1 ⟨DF.bl _,Nw.data⟩⟩
 .cases eu
end
def nr{α:Sort _}{a b:α}(h:a=b):a=b:=h
structure Ph {α:Type} (a:α):Type where
 n:Nat
def Wo(o:Qb α)(Q:α->Prop):Prop:=∃a,o=ž a/\Q a
def Co(f:α->Qb β)(t:Ph f)(Q:β->Prop)(a:α):Prop:=Wo (f a) Q
section
variable{a:α}{o:Qb α}{f:α->Qb β}{Q:α->Prop}{R:β->Prop}
def gf:Wo (ž a) Q=Q a:=propext ⟨λ⟨_,e,h⟩=>(by cases e;exact h),λh=>⟨a,rfl,h⟩⟩
def zr:Wo (o.bind f) R=Wo o (Co f ⟨0⟩ R):=propext (by
 cases o with
 |none=>exact⟨λ⟨_,e,_⟩=>(by cases e),λ⟨_,e,_⟩=>(by cases e)⟩
 |some a=>rw[gf];exact Iff.rfl)
def kZ{t:Ph f}:Co f t R a=Wo (f a) R:=rfl
def kR{c:Prop}[Decidable c]{x y:Qb α}(h:c->Wo x Q)(h':¬c->Wo y Q):Wo (if c then x else y) Q:=by
 split
 .exact h ‹_›
 .exact h' ‹_›
end
section
variable{ρ:En}{me ma mb mc mk mi md my mv mo:ME}{mA mK:MA}{mt mu:MT}{mI:MI}{mg:MG}{m1 m2:MS}{u:U}{x:D}{mx:MX}{mXA:KL}
variable{QE:Ar×En->Prop}{QA:Qa Ar×En->Prop}{QT:Bool×En->Prop}{QS:Fl->Prop}{QI:Qa D×En->Prop}{QO:Qb Int×En->Prop}{QG:En->Prop}{QX:RX Ar->Prop}{QXA:RX (Qa Ar)->Prop}{QR:D×En->Prop}{QF:U×Qa U->Prop}{KH:(U×Qa U) ⊕ (D×Qa U)->Prop}
def N9:Wo (zi i ρ) QE=Wo (ρ[i]?).join (Co (λ_=>ž (.s i,ρ)) ⟨0⟩ QE):=by rw[Vp,zr]
def SN:Wo (mC x ρ) QE=QE (.u<|.d x,ρ):=by rw[zDz,gf]
def By(f:U->U->Qb U)(a:Ar)(q:Ar×En):Qb (Ar×En):=(a.get q.2).bind λx=>(q.1.get q.2).bind λy=>(f x y).bind λu=>ž (.u u,q.2)
def Jz(f:U->U->Qb U)(mb:ME)(p:Ar×En):Qb (Ar×En):=(mb p.2).bind (By f p.1)
def W9{f:U->U->Qb U}:Wo (av f ma mb ρ) QE=Wo (ma ρ) (Co (Jz f mb) ⟨0⟩ QE):=by rw[zB7,zr];rfl
def zsJ{f:U->U->Qb U}{p:Ar×En}:Wo (Jz f mb p) QE=Wo (mb p.2) (Co (By f p.1) ⟨0⟩ QE):=by unfold Jz;rw[zr]
def zCM{f:U->Qb U}:Wo (cn f ma ρ) QE=Wo (ma ρ) (Co (λp=>(p.1.get p.2).bind λx=>(f x).bind λu=>ž (.u u,p.2)) ⟨0⟩ QE):=by rw[zB8,zr]
def W8{g:Str->Bool}:Wo (Ay g ma ρ) QE=Wo (cn (EL g) ma ρ) QE:=rfl
def N8:Wo (zo ρ) QA=QA ([],ρ):=by rw[Vo,gf]
def XR:Wo (ze me mA ρ) QA=Wo (me ρ) (Co (λp=>(mA p.2).bind λq=>ž (p.1::q.1,q.2)) ⟨0⟩ QA):=by rw[YJ,zr]
def zsK:Wo (cD mA ρ) QE=Wo (mA ρ) (Co (λp=>(bY p.2 p.1).bind λus=>(kU us).bind λds=>if ds.length<=Ĕ then ž (.u<|.d<|.tuple ds,p.2)else Ž) ⟨0⟩ QE):=by rw[Vn,zr]
def zsL:Wo (jC mA ρ) QE=Wo (mA ρ) (Co (λp=>(bY p.2 p.1).bind λus=>(kU us).bind λds=>if ds.length<=Ĕ then ž (.u<|.l ds,p.2)else Ž) ⟨0⟩ QE):=by rw[Vm,zr]
def zCN{f:Qa U->Qb U}:Wo (bW f mA ρ) QE=Wo (mA ρ) (Co (λp=>(bY p.2 p.1).bind λus=>(f us).bind λu=>ž (.u u,p.2)) ⟨0⟩ QE):=by rw[zB9,zr]
def zAv{f:FD}:Wo (aR f mA ρ) QE=Wo (mA ρ) (Co (λp=>if gI p.2 p.1=ż then(bY p.2 p.1).bind λus=>(f us).bind λo=>ž (.u o.1,wb p.2 p.1 o.2)else Ž) ⟨0⟩ QE):=by rw[Vl,zr]
def zsM:Wo (zB m1 m2 ρ) QS=Wo (m1 ρ) (Co (pQ m2) ⟨0⟩ QS):=by rw[VV,zr]
def zAw:Wo (aU i me ρ) QS=Wo (me ρ) (Co (λp=>(put p).bind λq=>ž<|.nx<|q.2.set i<|some q.1) ⟨0⟩ QS):=by rw[VR,zr]
def zsN:Wo (bp me ρ) QS=Wo (me ρ) (Co (λp=>(put p).bind λq=>ž<|.rt q.1 q.2) ⟨0⟩ QS):=by rw[VQ,zr]
def zoR:Wo (oK pn i ρ) QS=Wo (if i∈pn then Ž else(ρ[i]?).join.bind λu=>ž<|.rt u<|ρ.set i Ž) QS:=by rw[YI]
def Pl:Wo (bV ρ) QS=QS (.nx ρ):=by rw[YH,gf]
def XQ:Wo (jG me ρ) QS=Wo (me ρ) (Co (λp=>ž<|.nx p.2) ⟨0⟩ QS):=by rw[N1,zr]
def zAx:Wo (bL mt m1 m2 ρ) QS=Wo (mt ρ) (Co (λp=>if p.1=ż then m1 p.2 else m2 p.2) ⟨0⟩ QS):=by rw[VP,zr]
def zDC:Wo (mB me ρ) QT=Wo (me ρ) (Co (λp=>(p.1.get p.2).bind λu=>u.m8.bind λb=>ž (b,p.2)) ⟨0⟩ QT):=by rw[zDA,zr]
def zsO:Wo (vw mt mu ρ) QT=Wo (mt ρ) (Co (λp=>if p.1=ż then mu p.2 else ž (Ż,p.2)) ⟨0⟩ QT):=by rw[VN,zr]
def W7:Wo (eI mt mu ρ) QT=Wo (mt ρ) (Co (λp=>if p.1=ż then ž (ż,p.2)else mu p.2) ⟨0⟩ QT):=by rw[zCc,zr]
def zsP:Wo (dA mt ρ) QT=Wo (mt ρ) (Co (λp=>ž (!p.1,p.2)) ⟨0⟩ QT):=by rw[VM,zr]
def zoS:Wo (jH ma mb ρ) QE=Wo (mB ma ρ) (Co (λp=>if p.1=ż then mb p.2 else ž (.u<|.d<|.bool Ż,p.2)) ⟨0⟩ QE):=by rw[YG,zr]
def zsQ:Wo (BP ma mb ρ) QE=Wo (mB ma ρ) (Co (λp=>if p.1=ż then ž (.u<|.d<|.bool ż,p.2)else mb p.2) ⟨0⟩ QE):=by rw[VL,zr]
def zoT:Wo (vN ma ρ) QE=Wo (mB ma ρ) (Co (λp=>ž (.u<|.d<|.bool (!p.1),p.2)) ⟨0⟩ QE):=by rw[YF,zr]
def zsR:Wo (BO ma ρ) QT=Wo (ma ρ) (Co (λp=>(p.1.get p.2).bind λu=>u.Aj.bind λb=>ž (b,p.2)) ⟨0⟩ QT):=by rw[VJ,zr]
def zsS:Wo (rP ρ) QT=QT (ż,ρ):=by rw[VH,gf]
def zsT:Wo (mE i me ρ) QE=Wo (ρ[i]?).join (Co (λw=>w.lo.bind λ_=>(me ρ).bind λp=>(p.1.get p.2).bind λu=>u.da.bind λx=>(p.2[i]?).join.bind λw=>w.lo.bind λxs=>if xs.length < Ĕ then ž (.u<|.d .none,p.2.set i<|some<|.l<|xs++[x])else Ž) ⟨0⟩ QE):=by rw[VG,zr]
def zlJ:Wo (rX i me mi ρ) QS=Wo (ρ[i]?).join (Co (λ_=>(me ρ).bind λp=>(mi p.2).bind λq=>(p.1.get q.2).bind λu=>(q.1.get q.2).bind λw=>u.da.bind λx=>w.num.bind λk=>(q.2[i]?).join.bind λz=>z.lo.bind λxs=>(fQ xs.length k).bind λj=>ž<|.nx<|q.2.set i<|some<|.l<|xs.set j x) ⟨0⟩ QS):=by rw[zsg,zr]
def FZ(w:U)(y x:D):Qb U:=match w with
 |.t kvs=>(dR y).bind λk=>if kvs.length < Ĕ then ž (.t<|mD kvs k x)else Ž
 |.k kvs=>(nu y).bind λk=>if kvs.length < Ĕ then ž (.k<|mD kvs k x)else Ž
 |_=>Ž
def XM:mJ i my mv ρ=(ρ[i]?).join.bind λ_=>(mv ρ).bind λp=>(my p.2).bind λq=>(p.1.get q.2).bind λx=>(q.1.get q.2).bind λy=>x.da.bind λx=>y.da.bind λy=>(q.2[i]?).join.bind λw=>(FZ w y x).bind λz=>ž (.nx<|q.2.set i<|some z):=by
 unfold mJ;refine bind_fn λ_=>bind_fn λp=>bind_fn λq=>bind_fn λx=>bind_fn λy=>?_;cases x with
 |l=>rfl
 |t=>rfl
 |k=>rfl
 |o=>rfl
 |d x=>
  cases y with
  |l=>rfl
  |t=>rfl
  |k=>rfl
  |o=>rfl
  |d y=>
   show _=((q.2[i]?).join.bind _);cases q.2[i]? with
   |none=>rfl
   |some o=>
    cases o with
    |none=>rfl
    |some w=>
     cases w with
     |l=>rfl
     |d=>rfl
     |o=>rfl
     |t kvs=>
      show(dR y).bind _=((dR y).bind _).bind _;cases dR y with
      |none=>rfl
      |some k=>
       show(if _ then _ else _)=(if _ then _ else _:Qb U).bind _;split<;>rfl
     |k kvs=>
      show(nu y).bind _=((nu y).bind _).bind _;cases nu y with
      |none=>rfl
      |some k=>
       show(if _ then _ else _)=(if _ then _ else _:Qb U).bind _;split<;>rfl
def zoU:Wo (mJ i my mv ρ) QS=Wo (ρ[i]?).join (Co (λ_=>(mv ρ).bind λp=>(my p.2).bind λq=>(p.1.get q.2).bind λx=>(q.1.get q.2).bind λy=>x.da.bind λx=>y.da.bind λy=>(q.2[i]?).join.bind λw=>(FZ w y x).bind λz=>ž<|.nx<|q.2.set i<|some z) ⟨0⟩ QS):=by rw[XM,zr]
def zoV:Wo (jY md my ρ) QE=Wo (md ρ) (Co (λp=>(my p.2).bind λq=>(p.1.get q.2).bind λu=>(q.1.get q.2).bind λy=>(kN u y).bind λo=>o.bind λd=>ž (.u<|.d d,q.2)) ⟨0⟩ QE):=by rw[YE,zr]
def zsV{neg:Bool}:Wo (BM neg my md ρ) QE=Wo (my ρ) (Co (λq=>(md q.2).bind λp=>(p.1.get p.2).bind λu=>(q.1.get p.2).bind λy=>(kN u y).bind λo=>ž (.u<|.d<|.bool (if neg=ż then !o.isSome else o.isSome),p.2)) ⟨0⟩ QE):=by rw[zAa,zr]
def zlK:Wo (mQ ρ) QE=QE (.u<|.t [],ρ):=by rw[zsh,gf]
def W6:Wo (h9 me ρ) QE=Wo (me ρ) (Co (λp=>(p.1.get p.2).bind λu=>u.fz.bind λx=>ž (.u<|.d x,Ek x p)) ⟨0⟩ QE):=by rw[zCf,zr]
def W5{g:U->Qb (Qa D)}:Wo (gS g me ρ) QI=Wo (me ρ) (Co (λp=>(p.1.get p.2).bind λu=>(g u).bind λds=>ž (ds,p.2)) ⟨0⟩ QI):=by rw[zCj,zr]
def W4{n:Int}(h:-4611686018427387904<=n)(h2:n < 4611686018427387904):BJ [.d<|.int n]=ž (iM 0 n.toNat):=by rw[zAb,a6P ⟨by omega,by omega⟩]
def zoW:Wo (kS mA ρ) QI=Wo (mA ρ) (Co (λp=>(bY p.2 p.1).bind λus=>(BJ us).bind λds=>ž (ds,p.2)) ⟨0⟩ QI):=by rw[YD,zr]
def Il:Qa U->Qb (Qa D)
 |[.d<|.int i,.d<|.int j]=>if -(2^62)<=i/\i < 2^62/\-(2^62)<=j/\j < 2^62 then ž (iM i (j - i).toNat)else Ž
 |_=>Ž
def W3{a:Int}(h:-4611686018427387904<=a)(h2:a < 4611686018427387904)(h3:-4611686018427387904<=b)(h4:b < 4611686018427387904):Il [.d<|.int a,.d<|.int b]=ž (iM a (b - a).toNat):=by
 show(if _ then _ else _)=_;rw[a6P ⟨by omega,by omega,by omega,by omega⟩]
def XJ:Cd mA ρ=(mA ρ).bind λp=>(bY p.2 p.1).bind λus=>(Il us).bind λds=>ž (ds,p.2):=bind_fn λp=>bind_fn λus=>by
 match us with
 |[]=>rfl
 |[.d<|.int i,.d<|.int j]=>
  show(if _ then _ else _)=(if _ then _ else _:Qb (Qa D)).bind _;split<;>rfl
 |[.d x]=>cases x<;>rfl
 |[.l _]=>rfl
 |[.t _]=>rfl
 |[.k _]=>rfl
 |[.o _ _]=>rfl
 |[.d x,.d y]=>cases x<;>(try rfl)<;>(cases y<;>(try rfl)<;>(show(if _ then _ else _)=(if _ then _ else _:Qb (Qa D)).bind _;split<;>rfl))
 |[.d x,.l y]=>cases x<;>rfl
 |[.d x,.t y]=>cases x<;>rfl
 |[.d x,.k y]=>cases x<;>rfl
 |[.d x,.o _ _]=>cases x<;>rfl
 |[.l _,_]=>rfl
 |[.t _,_]=>rfl
 |[.k _,_]=>rfl
 |[.o _ _,_]=>rfl
 |a::b::c::us=>
  cases a with
  |d x=>cases x<;>(try rfl)<;>(cases b with
   |d y=>cases y<;>rfl
   |l=>rfl
   |t=>rfl
   |o=>rfl
   |k=>rfl)
  |l=>rfl
  |t=>rfl
  |k=>rfl
  |o=>rfl
def zoX:Wo (Cd mA ρ) QI=Wo (mA ρ) (Co (λp=>(bY p.2 p.1).bind λus=>(Il us).bind λds=>ž (ds,p.2)) ⟨0⟩ QI):=by rw[XJ,zr]
def FY:Qa U->Qb (Qa D)
 |[.d<|.tuple ds]=>ž<|ue 0 ds
 |_=>Ž
def zoY{ds:Qa D}:FY [.d<|.tuple ds]=ž (ue 0 ds):=rfl
def XH:Cc mA ρ=(mA ρ).bind λp=>(bY p.2 p.1).bind λus=>(FY us).bind λds=>ž (ds,p.2):=bind_fn λp=>bind_fn λus=>by
 match us with
 |[]=>rfl
 |[.d x]=>cases x<;>rfl
 |[.l _]=>rfl
 |[.t _]=>rfl
 |[.k _]=>rfl
 |[.o _ _]=>rfl
 |.d x::b::us=>cases x<;>rfl
 |.l x::b::us=>rfl
 |.t x::b::us=>rfl
 |.k x::b::us=>rfl
 |.o x y::b::us=>rfl
def zoZ:Wo (Cc mA ρ) QI=Wo (mA ρ) (Co (λp=>(bY p.2 p.1).bind λus=>(FY us).bind λds=>ž (ds,p.2)) ⟨0⟩ QI):=by rw[XH,zr]
def zsX:Wo (eN mI mg m1 ρ) QS=Wo (mI ρ) (Co (λp=>iU mg m1 p.1 p.2) ⟨0⟩ QS):=by rw[zAc,zr]
def zsY:Wo (q0 mI nt js mg mt me ρ) QE=Wo (mI ρ) (Co (λp=>(jM nt mg mt me p.1 (jc nt js p.2) []).bind λq=>ž (.u<|.l q.1,back js (q.2.drop nt) p.2)) ⟨0⟩ QE):=by rw[zCk,zr]
def W2{f:U->Qb Int->Qb Int->Qb U}{ml mh:MO}:Wo (nN f me ml mh ρ) QE=Wo (me ρ) (Co (λp=>(ml p.2).bind λl=>(mh l.2).bind λh=>(p.1.get h.2).bind λx=>(f x l.1 h.1).bind λu=>ž (.u u,h.2)) ⟨0⟩ QE):=by rw[zCl,zr]
def zjy:Wo (nG ρ) QO=QO (Ž,ρ):=by rw[zqA,gf]
def zo0:Wo (nC me ρ) QO=Wo (me ρ) (Co (λp=>(p.1.get p.2).bind λu=>u.num.bind λi=>ž (ž i,p.2)) ⟨0⟩ QO):=by rw[YC,zr]
def zsZ:Wo (xR i j mA ρ) QS=Wo (mA ρ) (Co (λp=>(bY p.2 p.1).bind λus=>(Iy us).bind λz=>ž<|.nx<|(p.2.set i<|some<|.d z.1).set j<|some<|.d z.2) ⟨0⟩ QS):=by rw[zAe,zr]
def zs0:Wo (jU me mg ρ) QS=Wo (me ρ) (Co (λp=>(p.1.get p.2).bind λu=>u.da.bind λd=>(mg d p.2).bind λaj=>ž<|.nx aj) ⟨0⟩ QS):=by rw[zAf,zr]
def zlL:Wo (zA i x ρ) QG=QG (ρ.set i<|some<|.d x):=by rw[zsl,gf]
def zo1{gs:Qa D->En->Qb En}{ds:Qa D}:Wo (fJ n gs (.tuple ds) ρ) QG=Wo (if ds.length=n then gs ds ρ else Ž) QG:=by rw[YB]
def zlM{g:MG}{gs:Qa D->En->Qb En}{ds:Qa D}:Wo (zL g gs (x::ds) ρ) QG=Wo (g x ρ) (Co (λaq=>gs ds aq) ⟨0⟩ QG):=by rw[zsm,zr]
def zo2:Wo (gc [] ρ) QG=QG ρ:=by rw[YA,gf]
def W1{ty:U->Bool}{f:U->U->Qb U}:Wo (Eg ty f mo ma ρ) QE=Wo (mo ρ) (Co (λp=>(p.1.get p.2).bind λx0=>if ty x0=ż then(ma p.2).bind λq=>(p.1.get q.2).bind λx=>(q.1.get q.2).bind λy=>(f x y).bind λu=>ž (.u u,q.2)else Ž) ⟨0⟩ QE):=by
 show Wo (a0B _ _) QE=_;rw[zr]
def W0{z:Str}:Ah (.d<|.str z)=ż:=rfl
def zs1{f f':U->U->Qb U}:tW f f' ma mb mc ρ=(ma ρ).bind λp=>(mb p.2).bind λq=>(p.1.get q.2).bind λx=>(q.1.get q.2).bind λy=>(f x y).bind λr=>r.m8.bind λb=>if b=ż then(mc q.2).bind λs=>(q.1.get s.2).bind λy'=>(s.1.get s.2).bind λz=>(f' y' z).bind λu=>ž (.u u,s.2)else ž (.u<|.d<|.bool Ż,q.2):=by
 refine bind_fn λp=>bind_fn λq=>bind_fn λx=>bind_fn λy=>bind_fn λr=>?_;cases r with
 |d x=>cases x with
  |bool b=>cases b<;>rfl
  |_=>rfl
 |l=>rfl
 |t=>rfl
 |k=>rfl
 |o=>rfl
def zlN{f f':U->U->Qb U}:Wo (tW f f' ma mb mc ρ) QE=Wo (ma ρ) (Co (λp=>(mb p.2).bind λq=>(p.1.get q.2).bind λx=>(q.1.get q.2).bind λy=>(f x y).bind λr=>r.m8.bind λb=>if b=ż then(mc q.2).bind λs=>(q.1.get s.2).bind λy'=>(s.1.get s.2).bind λz=>(f' y' z).bind λu=>ž (.u u,s.2)else ž (.u<|.d<|.bool Ż,q.2)) ⟨0⟩ QE):=by rw[zs1,zr]
def x1:Qa D->Qb D
 |[x]=>ž x
 |_=>Ž
def zs2{n:Str}:Wo (Iq n ρ) QR=QR (.dict [(.none,.str n)],ρ):=by show Wo (ž _) QR=_;rw[gf]
def zlO{m:En->Qb (D×En)}:Wo (wm m ρ) QS=Wo (m ρ) (Co (λp=>ž<|.ex p.1 p.2) ⟨0⟩ QS):=by show Wo (a0B _ _) QS=_;rw[zr]
def zo3{f:FX}:Wo (Cn f mA ρ) QX=Wo (mA ρ) (Co (λp=>if gI p.2 p.1=ż then(bY p.2 p.1).bind λus=>(f us).bind λo=>ž (Ip p.2 p.1 o)else Ž) ⟨0⟩ QX):=by show Wo (a0B _ _) QX=_;rw[zr]
def zs3{as:Qa Ar}{o:U×Qa U}:Ip ρ as (.inl o)=.inl (.u o.1,wb ρ as o.2):=rfl
noncomputable def kX{α β:Type}(f:α×En->Qb β)(g:D×En->Qb β):RX α->Qb β
 |.inl p=>f p
 |.inr z=>g z
def zAz{m:En->Qb (RX α)}:pE m ρ=(m ρ).bind (kX ž λ_=>Ž):=bind_fn λr=>by cases r<;>rfl
def zs4{m:En->Qb (RX α)}{Q:α×En->Prop}:Wo (pE m ρ) Q=Wo (m ρ) (Co (kX ž λ_=>Ž) ⟨0⟩ Q):=by rw[zAz,zr]
def XG{mS:ME->MS}{k:Ar×En->Qb Fl}(h:∀me:ME,mS me ρ=(me ρ).bind k):vG mS mx ρ=(mx ρ).bind (kX k λz=>ž<|.ex z.1 z.2):=by
 unfold vG;rw[h<|pE mx];unfold pE;cases mx ρ with
 |none=>rfl
 |some r=>cases r<;>rfl
def zlP:Wo (vG jG mx ρ) QS=Wo (mx ρ) (Co (kX (λp=>ž<|.nx p.2) λz=>ž<|.ex z.1 z.2) ⟨0⟩ QS):=by rw[XG λ_=>N1,zr]
def zs5{us:Qa U}:Wo (cQ n pn m1 us) QF=Wo (m1<|sm us++Ě (n - us.length) Ž) (Co (Iw pn us) ⟨0⟩ QF):=by rw[zAi,zr]
def zo4{us:Qa U}:Wo (xP n pn m1 us) KH=Wo (m1<|sm us++Ě (n - us.length) Ž) (Co (Cm pn us) ⟨0⟩ KH):=by
 show Wo (a0B _ _) KH=_;exact zr
def zlQ{us:Qa U}:Cm pn us (.rt u ρ)=(ft pn ρ 0 us).bind λos=>ž (.inl (u,os)):=rfl
def zlR{us:Qa U}:Cm pn us (.ex x ρ)=(ft pn ρ 0 us).bind λos=>ž (.inr (x,os)):=rfl
def tU(Q:Fl->Prop)(P:En->Prop):Fl->Prop
 |.nx ρ=>P ρ
 |.ct ρ=>P ρ
 |.bk ρ=>Q<|.nx ρ
 |.rt u ρ=>Q<|.rt u ρ
 |.ex x ρ=>Q<|.ex x ρ
def zlS{Q:Fl->Prop}{P:En->Prop}:tU Q P (.nx ρ)=P ρ:=rfl
def wz{Q:Fl->Prop}(P:Nat->En->Prop){ds:Qa D}(h0:P 0 ρ)(st:∀i d ρ,ds[i]?=ž d->P i ρ->Wo (mg d ρ) (Co m1 ⟨0⟩<|tU Q<|P<|i+1))(hQ:∀ρ,P ds.length ρ->Q (.nx ρ)):Wo (iU mg m1 ds ρ) Q:=by
 have main:∀(es:Qa D) (n:Nat) (ρ:En),n+es.length=ds.length->(∀i,es[i]?=ds[n+i]?)->P n ρ->Wo (iU mg m1 es ρ) Q:=by
  intro es
  induction es with
  |nil=>
   intro n ρ hn _ hp;show Wo (ž _) Q;rw[gf];rw[ũ,ϻ]at hn;exact hQ ρ<|hn▸hp
  |cons d es ih=>
   intro n ρ hn he hp;have e0:=he 0;rw[Μ,ϻ]at e0;have(aq,e1,f,e2,k):=st n d ρ e0.symm hp;have nM:∀aD,P (n+1) aD->Wo (iU mg m1 es aD) Q:=λaD z=>ih (n+1) aD (by rw[qt]at hn;omega) (λi=>by
    have:=he (i+1);rw[Ν]at this;rw[this,show n+(i+1)=n+1+i by omega]) z
   unfold iU;rw[zr];refine⟨aq,e1,?_⟩;rw[kZ,zr];refine⟨f,e2,?_⟩;rw[kZ];cases f with
   |nx aD=>exact nM aD k
   |ct aD=>exact nM aD k
   |bk aD=>exact⟨_,rfl,k⟩
   |rt u aD=>exact⟨_,rfl,k⟩
   |ex x aD=>exact⟨_,rfl,k⟩
 exact main ds 0 ρ (by omega) (λi=>by rw[ř]) h0
def k9{g:α->D}{Q:Fl->Prop}(P:Qa α->Qa α->En->Prop)(h0:P [] as ρ)(st:∀bs a cs ρ,as=bs++a::cs->P bs (a::cs) ρ->Wo (mg (g a) ρ) (Co m1 ⟨0⟩<|tU Q<|P (bs++[a]) cs))(hQ:∀ρ,P as [] ρ->Q (.nx ρ)):Wo (iU mg m1 (as.map g) ρ) Q:=by
 have main:∀(cs bs:Qa α) (ρ:En),as=bs++cs->P bs cs ρ->Wo (iU mg m1 (cs.map g) ρ) Q:=by
  intro cs
  induction cs with
  |nil=>
   intro bs ρ e hp;rw[ŕ]at e;subst e;exact⟨_,rfl,hQ ρ hp⟩
  |cons a cs ih=>
   intro bs ρ e hp;have(aq,e1,f,e2,k):=st bs a cs ρ e hp;have nM:∀aD,P (bs++[a]) cs aD->Wo (iU mg m1 (cs.map g) aD) Q:=λaD z=>ih (bs++[a]) aD (by rw[e,İ];rfl) z;rw[ę];unfold iU;rw[zr];refine⟨aq,e1,?_⟩;rw[kZ,zr];refine⟨f,e2,?_⟩;rw[kZ];cases f with
   |nx aD=>exact nM aD k
   |ct aD=>exact nM aD k
   |bk aD=>exact⟨_,rfl,k⟩
   |rt u aD=>exact⟨_,rfl,k⟩
   |ex x aD=>exact⟨_,rfl,k⟩
 exact main as [] ρ rfl h0
def AA(nt:Nat)(me:ME)(ys:Qa D)(P:En->Qa D->Prop)(p:Bool×En):Prop:=if p.1=ż then Wo (me p.2) (Co (λq=>(q.1.get q.2).bind λu=>u.da.bind λy=>ž (reset nt q.2,ys++[y])) ⟨0⟩ λz=>P z.1 z.2)else P (reset nt p.2) ys
def MD{ys:Qa D}{P:En->Qa D->Prop}:AA nt me ys P (ż,ρ)=Wo (me ρ) (Co (λq=>(q.1.get q.2).bind λu=>u.da.bind λy=>ž (reset nt q.2,ys++[y])) ⟨0⟩ λz=>P z.1 z.2):=rfl
def Lx{Q:Qa D×En->Prop}(P:Nat->En->Qa D->Prop){ds:Qa D}(hz:ds.length<=Ĕ)(hP:∀i ρ ys,P i ρ ys->ys.length<=i)(h0:P 0 ρ [])(st:∀i d ρ ys,ds[i]?=ž d->P i ρ ys->Wo (mg d ρ) (Co mt ⟨0⟩<|AA nt me ys<|P<|i+1))(hQ:∀ρ ys,P ds.length ρ ys->Q (ys,ρ)):Wo (jM nt mg mt me ds ρ []) Q:=by
 have main:∀(es:Qa D) (n:Nat) (ρ:En) (ys:Qa D),n+es.length=ds.length->(∀i,es[i]?=ds[n+i]?)->P n ρ ys->Wo (jM nt mg mt me es ρ ys) Q:=by
  intro es
  induction es with
  |nil=>
   intro n ρ ys hn _ hp;rw[ũ,ϻ]at hn;exact⟨_,rfl,hQ ρ ys<|hn▸hp⟩
  |cons d es ih=>
   intro n ρ ys hn he hp;have e0:=he 0;rw[Μ,ϻ]at e0;obtain⟨aq,e1,⟨b,aD⟩,e2,k⟩:=st n d ρ ys e0.symm hp;have hl:=hP _ _ _ hp;rw[qt]at hn;have nM:∀aD DX,P (n+1) aD DX->Wo (jM nt mg mt me es aD DX) Q:=λaD DX z=>ih (n+1) aD DX (by omega) (λi=>by
    have:=he (i+1);rw[Ν]at this;rw[this,show n+(i+1)=n+1+i by omega]) z
   unfold jM;rw[a6P (by omega),zr];refine⟨aq,e1,?_⟩;rw[kZ,zr];refine⟨_,e2,?_⟩;rw[kZ];cases b with
   |false=>rw[a6Q qf];exact nM _ _ k
   |true=>
    rw[a6P rfl,zr];have(q,e3,k):=k;refine⟨q,e3,?_⟩;rw[kZ,zr]at k ⊢;have(u,e4,k):=k;refine⟨u,e4,?_⟩;rw[kZ,zr]at k;have(y,e5,z,e6,k):=k;cases u with
    |d y'=>cases e5;cases e6;exact nM _ _ k
    |l=>cases e5
    |t=>cases e5
    |k=>cases e5
    |o=>cases e5
 exact main ds 0 ρ [] (by omega) (λi=>by rw[ř]) h0
def O2{Q:Fl->Prop}(P:Nat->En->Prop)(k:Nat)(h0:P k ρ)(st:∀k ρ,P k ρ->Wo (mt ρ) λp=>if p.1=ż then Wo (m1 p.2) (tU Q λaj=>∃k',k' < k/\P k' aj)else Q (.nx p.2)):Wo (tY mt m1 ρ) Q:=by
 have main:∀(k:Nat) (ρ:En),P k ρ->∃n f,iT mt m1 n ρ=ž f/\Q f:=by
  intro k
  induction k using Nat.strongRecOn with
  |ind k ih=>
   intro ρ hp;obtain⟨⟨b,aq⟩,e1,z⟩:=st k ρ hp;cases b with
   |false=>
    rw[a6Q qf]at z;exact⟨1,_,by unfold iT;rw[e1];rfl,z⟩
   |true=>
    rw[a6P rfl]at z;have(f,e2,z):=z;have nM:∀aD,(∃k',k' < k/\P k' aD)->f=.nx aD\/f=.ct aD->∃n f,iT mt m1 n ρ=ž f/\Q f:=by
     rintro aD ⟨k',hk,hp'⟩ hf;have(n,f',e3,q):=ih k' hk aD hp';refine⟨n+1,f',?_,q⟩;unfold iT;rw[e1,bd,a6P rfl,e2,bd];rcases hf with rfl|rfl<;>exact e3
    cases f with
    |nx aD=>exact nM aD z<|.inl rfl
    |ct aD=>exact nM aD z<|.inr rfl
    |bk aD=>exact⟨1,_,by unfold iT;rw[e1,bd,a6P rfl,e2];rfl,z⟩
    |rt u aD=>exact⟨1,_,by unfold iT;rw[e1,bd,a6P rfl,e2];rfl,z⟩
    |ex u aD=>exact⟨1,_,by unfold iT;rw[e1,bd,a6P rfl,e2];rfl,z⟩
 have(n,f,e,q):=main k ρ h0;exact⟨f,zr5 e,q⟩
end
def zY{o:Qb α}{b:α}(h:Wo o (λa=>a=b)):o=ž b:=by
 have(a,e,rfl):=h;exact e
def zs7{f:α×En->Qb β}{g:D×En->Qb β}{p:α×En}:kX f g (.inl p)=f p:=rfl
def xS:Ĕ=16777216:=Eq.trans zl (Eq.symm<|Eq.symm<|ϻ _)
def zs8{dc:Decidable (n < 16777216)}{a b:Qb α}(h:n < 16777216):(if n < 16777216 then a else b)=a:=a6P h
def GR{xs:Qa α}{r:Int}(h0:0<=r)(h1:r < (xs.length:Int)):∃a,cw xs r=ž a/\a∈xs/\xs[r.toNat]?=ž a:=by
 have hk:r.toNat < xs.length:=by omega
 have ek:r=((r.toNat:Nat):Int):=by omega
 have q:cw xs ((r.toNat:Nat):Int)=ž xs[r.toNat]:=Dk (ql hk);rw[<-ek]at q;exact⟨_,q,Ö hk,ql hk⟩
def MC{xs:Qa D}{r:Int}{Q:U->Prop}(h0:0<=r)(h1:r < (xs.length:Int))(k:∀a∈xs,Q<|.d a):Wo ((cw xs r).map U.d) Q:=by
 have(a,e,m,_):=GR h0 h1;rw[e];exact⟨_,rfl,k a m⟩
def zAA{f:α->D}{xs:Qa α}{r:Int}{Q:U->Prop}(h0:0<=r)(h1:r < (xs.length:Int))(k:∀a∈xs,xs[r.toNat]?=ž a->Q (.d<|f a)):Wo ((cw (xs.map f) r).map U.d) Q:=by
 have(a,e,m,z):=GR (xs:=xs.map f) h0 (by rw[ē];exact h1);rw[ĝ]at z;have(b,hb,rfl):=qq.mp z;rw[e];exact⟨_,rfl,k b (Ì hb) hb⟩
def Lv{lo:Int}{d:D}(h:(iM lo n)[i]?=ž d):i < n/\d=.int (lo+(i:Nat)):=Dw h
def Gm{lo:Int}:(iM lo n).length=n:=by
 unfold iM;rw[ē,Χ]
def vI{ρ:En}{mg:MG}{m1:MS}{Q:Fl->Prop}(P:Nat->En->Prop)(h0:P 0 ρ)(st:∀i ρ,i < n->P i ρ->Wo (mg (.int<|0+(i:Nat)) ρ) (Co m1 ⟨0⟩<|tU Q<|P<|i+1))(hQ:∀ρ,P n ρ->Q (.nx ρ)):Wo (iU mg m1 (iM 0 n) ρ) Q :=
 wz P h0 (λi d ρ hd hp=>by
  have(hi,rfl):=Lv hd;exact st i ρ hi hp) λρ hp=>hQ ρ (by rw[Gm]at hp;exact hp)
def XF{ρ:En}{mg:MG}{mt:MT}{me:ME}{Q:Qa D×En->Prop}(P:Nat->En->Qa D->Prop)(hz:n<=Ĕ)(h0:P 0 ρ [])(hP:∀i ρ ys,P i ρ ys->ys.length<=i)(st:∀i ρ ys,i < n->P i ρ ys->Wo (mg (.int<|0+(i:Nat)) ρ) (Co mt ⟨0⟩<|AA nt me ys<|P<|i+1))(hQ:∀ρ ys,P n ρ ys->Q (ys,ρ)):Wo (jM nt mg mt me (iM 0 n) ρ []) Q :=
 Lx P (by rw[Gm];exact hz) hP h0 (λi d ρ ys hd hp=>by
  have(hi,rfl):=Lv hd;exact st i ρ ys hi hp) λρ ys hp=>hQ ρ ys (by rw[Gm]at hp;exact hp)
def cM(n:Nat)(z:Str):Prop:=z.length<=n/\∀c∈z.cps.toList,c < 128
def cM.mono{z:Str}(h:cM n z)(hm:n<=m):cM m z:=⟨qx h.1 hm,h.2⟩
def cM.app{y:Str}(hx:cM n x)(hy:cM m y):cM (n+m) (x++y):=⟨by rw[PySem.Str.length_append];have:=hx.1;have:=hy.1;omega,λc hc=>by
 rw[a3L,ϗ,a1q]at hc;exact hc.elim (hx.2 c)<|hy.2 c⟩
def cM.join:∀{ys:Qa Str},(∀z∈ys,cM n z)->cM (ys.length * n) (a5p "" ys)
 |[],_=>⟨À _,λc hc=>by cases hc⟩
 |[x],h=>(h x qo).mono (by simp)
 |x::y::r,h=>by
  have:=((h x qo).app (show cM 0 "" from⟨qe _,λc hc=>by cases hc⟩)).app (cM.join λz hz=>h z<|qm _ hz);exact this.mono (by simp only[qt,Ο];omega)
def zqH{ys:Qa Str}(h:∀z∈ys,cM n z):cM (ys.length * n) (ŝ "" ys):=by
 show cM _ (a1R "" ys);rw[a1Q];exact cM.join h
def zAB{y:Str}(h:x.length+y.length<=16777216):p9 (.d<|.str x) (.d<|.str y)=ž (.d<|.str<|x++y):=by
 unfold p9;dsimp only;rw[a6P (by rw[zl];exact h)]
def Cv{y:Str}{Q:U->Prop}(hx:cM n x)(hy:cM m y)(hn:n+m<=1000)(k:cM (n+m) (x++y)->Q (.d<|.str<|x++y)):Wo (p9 (.d<|.str x)<|.d<|.str y) Q:=by
 rw[zAB (by have:=hx.1;have:=hy.1;omega)];exact⟨_,rfl,k<|hx.app hy⟩
def P0:∀(zs:Qa Str),(zs.map Ņ).mapM xM=ž zs
 |[]=>rfl
 |z::zs=>by
  rw[ę,ŷ,P0 zs];rfl
def O1:∀{ys:Qa Str},(∀z∈ys,z.length<=n)->(ys.map (·.length)).sum<=ys.length * n
 |[],_=>by simp
 |y::ys,h=>by
  have:=O1 (ys:=ys) λz hz=>h z<|qm _ hz;have:=h y qo;simp only[ę,ĸ,qt,Ο];omega
def N6{zs:Qa Str}{Q:U->Prop}(h:∀z∈zs,cM n z)(hl:zs.length<=m)(hm:m * n<=1000)(k:cM (m * n) (ŝ "" zs)->Q (.d<|.str<|ŝ "" zs)):Wo (vK (.d<|.str "")<|.l<|zs.map Ņ) Q:=by
 have h1:=O1 (n:=n) λz hz=>(h z hz).1;have h2:zs.length * n<=m * n:=Ê _ hl;unfold vK;dsimp only;rw[P0,bd,a6P (by rw[show(("":Str)).length=0 by decide,Nat.mul_zero];omega)];exact⟨_,rfl,k<|(zqH h).mono h2⟩
def HI:∀(zs:Qa Str),(zs.map Ņ).mapM xt=ž (zs.map V.str)
 |[]=>rfl
 |z::zs=>by
  rw[ę,ŷ,HI zs];rfl
def ZT{xs:Qa D}{lo hi:Qb Int}:nj (.d<|.tuple xs) lo hi=ž (.d<|.tuple<|jz xs lo hi):=rfl
def Pj{xs ys:Qa D}(h:xs.length+ys.length<=16777216):wj (.d<|.tuple xs) (.d<|.tuple ys)=ž (.d<|.tuple<|xs++ys):=by
 cases xs with
 |nil=>rfl
 |cons x xs=>
  show xX (.d<|.tuple<|x::xs) (.d<|.tuple ys)=_;unfold xX;dsimp only;rw[a6P ⟨by simp,by rw[zl];exact h⟩]
def zo6{z:Str}(h:z.length<=16777216):yc (.d<|.str z)=ž (.d<|.int z.length):=by
 unfold yc;dsimp only;rw[a6P (by rw[zl];exact h)]
def WZ{i:Int}:fC "int" (.d<|.int i)=ž (.d<|.bool ż):=rfl
def WY{i:Int}:fC "bool" (.d<|.int i)=ž (.d<|.bool Ż):=rfl
def WX{z:Str}:fC "str" (.d<|.str z)=ž (.d<|.bool ż):=rfl
def Xm{xs:Qa D}:fC "tuple" (.d<|.tuple xs)=ž (.d<|.bool ż):=rfl
def Xl{g:Str->Bool}{z:Str}:EL g (.d<|.str z)=ž (.d<|.bool<|g z):=rfl
def Gk{xs:Qa D}{k:Int}(h:0<=k):jz xs Ž (ž k)=xs.take k.toNat:=by
 have e:k=((k.toNat:Nat):Int):=by omega
 unfold jz;rw[e,HT.kj,HT.iY,List.drop_zero,a2G];rw[show((k.toNat:Nat):Int).toNat=k.toNat by omega];rw[Nat.min_def];split
 .rfl
 .rw[ŧ<|qe _,ŧ (by omega)]
def HH{xs:Qa D}{k:Int}(h:0<=k):jz xs (ž k) Ž=xs.drop k.toNat:=by
 have e:k=((k.toNat:Nat):Int):=by omega
 unfold jz;rw[e,HT.kj,HT.iY];rw[show((k.toNat:Nat):Int).toNat=k.toNat by omega];rw[Nat.min_def];split
 .rw[ŧ (by rw[ŗ];omega)]
 .rw[a4s (by omega),a4s (by omega),List.take_nil]
structure gY (k M:Nat) (d:D):Prop where
 lay:d.canLay0=ż
 jb:d.depth<=k
 shw:d.showable=ż
 len:d.shown.length<=M
def gY.mono{k M k' M':Nat}{d:D}(h:gY k M d)(h1:k<=k')(h2:M<=M'):gY k' M' d:=⟨h.lay,qx h.jb h1,h.shw,qx h.len h2⟩
def wG{i:Int}(h:i.natAbs < 10^n)(h0:0 < n:=by decide)(h1:n<=470:=by decide):gY 0 (n+1) (.int i):=by
 refine⟨rfl,by simp[a0f],?_,?_⟩
 .show decide (i.natAbs.log2 < 1920)=ż
  refine a6R ?_
  by_cases z:i.natAbs=0
  .rw[z];decide
  .have e1:10^n<=16^n:=a5J (by decide) n
   have e2:16^n=2^(4 * n):=by rw[Nat.pow_mul]
   have e3:i.natAbs < 2^(4 * n):=by rw[<-e2];exact qi h e1
   exact qi ((a5t z).mpr e3) (by omega)
 .show(a4g<|toString i).length<=n+1
  rw[PySem.ofString_length];exact PySem.int_text_length_le10 h0 h
def XD{z:Str}(h:cM n z):gY 0 (10 * n+2) (.str z):=by
 refine⟨?_,by simp[a0f],rfl,?_⟩
 .show z.cps.all (· < 0x110000)=ż
  rw[a5A];intro c hc;have:=h.2 c (Array.mem_toList_iff.mpr hc);exact a6R (by omega)
 .have:=PySem.StrLaws.reprText_len z λc hc=>ø (h.2 c hc) (by decide)
  have:=h.1;show(reprText z).length<=_;omega
def ZS:gY 0 4 .none:=⟨rfl,by simp[a0f],rfl,by decide⟩
def N5{k M:Nat}:∀{ds:Qa D},(∀d∈ds,gY k M d)->Ξ ds=ż/\a1e ds<=k/\a4U ds=ż/\((a0d ds).map (·.length)).sum+2 * ds.length<=ds.length * (M+2)
 |[],_=>⟨rfl,by simp[a1e],rfl,by simp[a0d]⟩
 |d::ds,h=>by
  have(a0,a1,a2,a3):=N5 (ds:=ds) λx hx=>h x<|qm _ hx;have(b0,b1,b2,b3):=h d qo;refine⟨?_,?_,?_,?_⟩
  .show(d.canLay0 && Ξ ds)=ż
   rw[a0,b0];rfl
  .simp only[a1e]
   omega
  .show(d.showable && a4U ds)=ż
   rw[a2,b2];rfl
  .show((d.shown::a0d ds).map (·.length)).sum+_<=_
   rw[ę,ĸ,qt,Ο,a0S];omega
def wF{k M:Nat}{ds:Qa D}(h:∀d∈ds,gY k M d)(hn:ds.length<=n):gY (k+1) (n * (M+2)+3) (.tuple ds):=by
 have(a0,a1,a2,a3):=N5 h;refine⟨a0,?_,a2,?_⟩
 .simp only[a0f]
  omega
 .have:=tupleText_len_le (a0d ds)
  have e:=PyData.shownAll_length ds;have m:ds.length * (M+2)<=n * (M+2):=Ê _ hn;show(tupleText<|a0d ds).length<=_;omega
def gY.shaped{k M:Nat}{d:D}(h:gY k M d)(hk:k<=64):ϐ d=ż:=by
 unfold ϐ;rw[h.lay,Ε];exact a6R<|qx h.jb hk
def gY.eqD{k M k' M':Nat}{a b:D}{neg:Bool}(ha:gY k M a)(hb:gY k' M' b)(hk:k<=64)(i7:k'<=64):oz neg (.d a) (.d b)=ž (.d<|.bool (if neg=ż then !PyData.eqv a b else a0p a b)):=by
 have ea:U.py (.d a)=ž a:=rfl;have eb:U.py (.d b)=ž b:=rfl;unfold oz;rw[ea,bd,eb,bd,a6P ⟨ha.shaped hk,hb.shaped i7⟩]
section
noncomputable def zDQ:U->Qb U
 |.d (.int i)=>if i.natAbs.log2 < 1920 then ž (.d<|.str<|toString i)else Ž
 |.d (.str z)=>if z.length<=Ĕ then ž (.d<|.str z)else Ž
 |_=>Ž
abbrev MJ:=En->Str->Qb (Str×En)
def U.sr:U->Qb Str
 |.d (.str z)=>ž z
 |_=>Ž
end
end Internal
namespace Internal
open PySem PySem.Spec PyProof.Rows PySem.NumText
noncomputable abbrev ts(n:Int):Str:=a4g (toString n)
end Internal
namespace Internal
open PySem PySem.Spec PyProof.Rows
section
variable{X:Cx}{f:Ķ}{tx:TE}{k:Nat}
def N4(hr:aG k X.A)(ho:Wr (PE X o td))(he:Wr (PE X e ty))(hf:Wr (PE X f tx))(m:M2 X o "get" apos e f aY):Wr (PE X (.Call (.Attribute o "get" apos) [e,f] [] aY)<|GG X.K td ty tx):=⟨zrD (vQ hr) ho.run he.run hf.run m⟩
end
section
def vX:U->Bool
 |.t _=>ż
 |.k _=>ż
 |.d (.dict kvs)=>ko kvs
 |_=>Ż
def ZR{x:V}{u:U}(h:Rp K H x u)(e:vX u=ż):∃a,x=.ref a/\KO H a:=by
 unfold vX at e;split at e
 .have(a,ws,rfl,h1,_):=h
  exact⟨a,rfl,.inr ⟨_,.inl h1⟩⟩
 .have(a,ws,rfl,h1,_):=h
  exact⟨a,rfl,.inl ⟨_,.inl h1⟩⟩
 .have(a,ob,ws,rfl,h1,_):=DF.du h e
  exact⟨a,rfl,.inr ⟨_,.inr ⟨ob,h1⟩⟩⟩
 .cases e
def wg(md my mx:ME):ME:=λρ=>(md ρ).bind λp=>(p.1.get p.2).bind λu0=>if vX u0=ż then(my p.2).bind λq=>(mx q.2).bind λz=>(p.1.get z.2).bind λu=>(q.1.get z.2).bind λy=>(z.1.get z.2).bind λx=>(kN u y).bind λo=>match x with
 |.d x=>ž (.u<|.d<|o.getD x,z.2)
 |_=>Ž else Ž
def N2{tx:TE}{md my mx:ME}(hd:VE K td md)(hy:VE K ty my)(hx:VE K tx mx):VE K (GG K td ty tx) (wg md my mx):=by
 intro ρ σ H a aj Q r e q;obtain⟨⟨a1,aq⟩,e1,e⟩:=bQ e;have(u0,e0,e):=bQ e;split at e
 rotate_left
 .cases e
 rename_i hu0;obtain⟨⟨b1,aD⟩,e2,e⟩:=bQ e;obtain⟨⟨c1,mm⟩,e3,e⟩:=bQ e;have(u,eu,e):=bQ e;have(y,ey,e):=bQ e;have(x,ex,e):=bQ e;have(o,eo,e):=bQ e;split at e
 rotate_left
 .cases e
 cases e;refine hd ρ σ H a1 aq _ r e1 λv1 H1 g1 k1=>?_;have(b,rfl,hb):=ZR (k1.now r g1 e0) hu0;refine⟨b,rfl,hb,hy aq σ H1 b1 _ _ g1.rs e2 λv2 H2 g2 k2=>hx aD σ H2 c1 _ _ g2.rs e3 λv3 H3 g3 k3=>?_⟩;have(b',eb,h):=GY (k1.later r g1 (g2.trans g3) eu) (k2.later g1.rs g2 g3 ey) eo;cases eb;have p3:=k3.now g2.rs g3 ex;rcases h with⟨w,d',rfl,g,p⟩|⟨rfl,g⟩
 .exact⟨_,g,q w H3 ((g1.trans g2).trans g3) ⟨p,Nw.data⟩⟩
 .exact⟨_,g,q v3 H3 ((g1.trans g2).trans g3) ⟨p3,Nw.data⟩⟩
end
def ZQ:Manifest.canonical (String.map (λc=>if(c.isAlphanum || c=='_' || c=='.')=ż then c else '_') "dict_itemiterator.__iter__") ++ "" = "dict_keyiterator.__iter__":=by decide +kernel
def ZP:entryFor table "dict_itemiterator.__iter__"=ž Builtin.«dict_keyiterator.__iter__»:=entryFor_alias (by kernel_rfl) (by kernel_rfl) ZQ (by kernel_rfl)
section
variable{d:Qg}{ok ov:Qc}
def oI{T:Qc}{vs:Array Qc}{x:Qc}{Q:Unit->Qd->Prop}(e:s.heap.get? it=ž {cls:=T,data:=.fields vs})(hj:j < vs.size)
  (q:∀h':ĵ,h'.get? it=ž {cls:=T,data:=.fields (vs.setIfInBounds j x)}->h'.objs.size=s.heap.objs.size->(∀b o,b≠it->s.heap.get? b=ž o->h'.get? b=ž o)->Q () {s with heap:=h'}):ĕ (Ę prog w) A (a3k (.ref it) j x) Q E s:=by
 refine Ϗ e rfl hj<|q _ ?_ ?_ λb o hb z=>?_
 .exact Ô _ e (ã<|ù rfl _)
 .exact a6t ..
 .exact((ë ..).2 b hb).trans z
def zqI{Q:Qb Qc->Qd->Prop}(k:a4L s.heap it d i es.size ep ok ov)(r:oB s.heap d es ep){x:ύ}(hx:es[i]?=ž x)
  (q:∀h':ĵ,IsItemIterOut h' it d (i+1) es.size ep x.key x.val s.heap.objs.size->h'.get? s.heap.objs.size=ž {cls:=.type "tuple",data:=.seq #[x.key,x.val]}->(∀b o,b≠it->s.heap.get? b=ž o->h'.get? b=ž o)->Q (ž<|.ref s.heap.objs.size) {s with heap:=h'}):ĕ (Ę prog w) A (Ψ<|.ref it) Q E s:=by
 have kT:s.TypeIs (.ref it) "dict_itemiterator":=⟨_,k,rfl⟩;have(o,e,_,dat):=r;have lG:s.heap.objs.size≠it:=Ľ (qj<|qh k);unfold Ψ;refine qa<|Ρ (ł (name:=ϔ "__next__") kT Ø
  (ĭ Ø kT a3v ?_<|a3f _))
 refine qa<|qb<|qa<|qa ?_;refine qa<|ϟ kT<|qb<|qa<|a2l k rfl ?_;simp only[show Ũ "dict_itemiterator"=ż by decide,if_true];show ĕ _ _ (if(Ĝ d==Ė)=ż then _ else _) _ _ s;rw[a6Q (show ¬((Ĝ d==Ė)=ż) from qf)];refine qa<|qb<|qa<|ŀ e dat ?_;rw[a6Q (by simp)];refine qa<|qb<|qa<|Ŵ e dat ?_;rw[a6Q (by simp)];refine qb ?_;simp only[show ¬((i:Int) < 0) from by omega,if_false,ı,hx];refine qa<|qa<|ϟ kT<|qb<|qa<|a1E kT ?_;show ĕ _ _ (a3k (.ref it) 3 (Ϝ<|(i:Int)+1) >>= _) _ _ s;refine qa<|oI k (by simp) λh1 k1 z1 f1=>?_;refine qa<|Ō ?_;have To:a1I {s with heap:=h1} (.ref it) "dict_itemiterator":=⟨_,k1,rfl⟩;refine qa<|a1E To ?_;show ĕ _ _ (a6A (.ref it) _ >>= _) _ _ _;refine qa<|a1E To ?_;show ĕ _ _ (a0W (.ref it) 6 x.key x.val) _ _ _;unfold a0W;simp only[a4B];refine qa<|qy ?_ (by show(2:Nat)<=Ĕ;decide);have k2:(h1.push {cls:=.type "tuple",data:=.seq #[x.key,x.val]}).get? it=_:=qd _ k1;have t2:(h1.push {cls:=.type "tuple",data:=.seq #[x.key,x.val]}).get? h1.objs.size=_:=qg _ rfl;have f2:∀b o,b≠it->s.heap.get? b=ž o->(h1.push {cls:=.type "tuple",data:=.seq #[x.key,x.val]}).get? b=ž o:=λb o hb z=>qd _<|f1 b o hb z;rw[z1]at t2;show ĕ _ _ _ _ _ {s with heap:=h1.push {cls:=.type "tuple",data:=.seq #[x.key,x.val]}};generalize h1.push {cls:=.type "tuple",data:=.seq #[x.key,x.val]}=h2 at k2 t2 f2 ⊢;rw[z1];unfold a6y;refine qa<|qa<|Ŀ k2 rfl (x:=.none) rfl<|qb ?_;show ĕ _ _ (if ż=ż then _ else _) _ _ _;rw[a6P rfl];show ĕ _ _ (field (.ref it) 6 >>= _) _ _ _;refine qa<|Ŀ k2 rfl (x:=ok) rfl ?_;refine qa<|Ŀ k2 rfl (x:=ov) rfl ?_;refine qa<|oI k2 (by simp) λh3 k3 z3 f3=>?_;refine qa<|oI k3 (by simp) λh4 k4 z4 f4=>?_;refine qa<|oI k4 (by simp) λh5 k5 z5 f5=>?_;refine qa<|oI k5 (by simp) λh6 k6 z6 f6=>?_;refine qa<|wpAny_letGo<|qb<|qb ⟨_,rfl,qb<|q _ ?_ ?_ λb o hb z=>?_⟩
 .show h6.get? it=_
  rw[k6];rfl
 .exact f6 _ _ lG (f5 _ _ lG<|f4 _ _ lG<|f3 _ _ lG t2)
 .exact f6 b o hb (f5 b o hb<|f4 b o hb<|f3 b o hb<|f2 b o hb z)
def ZO{Q:Qb Qc->Qd->Prop}(hh:A.handled=Ž)(k:a4L s.heap it d i es.size ep ok ov)(r:oB s.heap d es ep)(hx:es.size<=i)
  (q:∀h':ĵ,a4Z it s.heap h'->Q Ž {s with heap:=h'}):ĕ (Ę prog w) A (Ψ<|.ref it) Q E s:=by
 have kT:s.TypeIs (.ref it) "dict_itemiterator":=⟨_,k,rfl⟩;have(o,e,_,dat):=r;unfold Ψ;refine qa<|Ρ (ł (name:=ϔ "__next__") kT Ø
  (ĭ Ø kT a3v ?_<|a3f _))
 refine qa<|qb<|qa<|qa ?_;refine qa<|ϟ kT<|qb<|qa<|a2l k rfl ?_;simp only[show Ũ "dict_itemiterator"=ż by decide,if_true];show ĕ _ _ (if(Ĝ d==Ė)=ż then _ else _) _ _ s;rw[a6Q (show ¬((Ĝ d==Ė)=ż) from qf)];refine qa<|qb<|qa<|ŀ e dat ?_;rw[a6Q (by simp)];refine qa<|qb<|qa<|Ŵ e dat ?_;rw[a6Q (by simp)];refine qb ?_;simp only[show ¬((i:Int) < 0) from by omega,if_false,ı,a4l hx];refine qa<|qa<|ϟ kT<|qb ?_;show ĕ _ _ (a3k (.ref it) 2 .none >>= _) _ _ s;refine qa<|Ϗ k rfl (by simp) ?_;show ĕ _ _ (newExc (.type "StopIteration") [] >>= _) _ _ _;refine qa ?_;simp only[newExc,a4B];refine qa<|qy ?_ (by show(0:Nat)<=Ĕ;exact À _);refine qa (m:=τ _ _)<|wpAny_of_eq (a:=Ė) (by first|rfl | (simp only[τ];rfl)) ?_;refine qy ?_ (by first|trivial|size_fits);simp only[raiseNew];refine qa<|a5e ?_;rw[show A.in1.handled=Ž from hh];refine qa<|qb<|wpAny_throw ?_;refine qa<|ϋ (T := "StopIteration") (b:=ż) ⟨_,qg _ rfl,rfl⟩ a4D ?_;exact qb<|q _<|((ë ..).extBut.push _).push _
def zqJ(hd:(d==Ň)=Ż)(r:oB s.heap d es ep)
  (q:Q (.ref s.heap.objs.size) {s with heap:=s.heap.push {cls:=.type "dict_items",data:=.fields #[.ref d]}}):ĕ (Ę prog w) A (a2A (.builtin "dict.items") [.ref d]) Q E s:=by
 have hT:=r.typeIs;have(o,e,_,dat):=r;refine ĭ F.slot_dict_items hT F.entry_dict_items ?_<|F.args_dict_items_1 _;unfold Builtin.«dict.items» Builtin.Dict.noArgs;refine qa<|qa<|ϲ hT ?_;refine qa<|qb ?_;refine qa<|qb<|qb ?_;unfold Ϛ;rw[hd,a6Q qf];refine qa<|qb ?_;unfold newFields;exact qa<|qy<|qb ⟨_,rfl,q⟩
def zqK{v:Qg}(hv:s.heap.IsItemsView v d)(r:oB s.heap d es ep)
  (q:∀h':ĵ,a4L h' s.heap.objs.size d 0 es.size ep .none .none->(∀b o,s.heap.get? b=ž o->h'.get? b=ž o)->Q (.ref s.heap.objs.size) {s with heap:=h'}):ĕ (Ę prog w) A (a3H<|.ref v) Q E s:=by
 have(o,e,_,dat):=r;have(o2,e2,c2,d2):=id hv;have hT:=hv.typeIs (s:=s);refine a3i hT a5w<|ĭ a5w hT F.entry_dict_items_iter ?_<|F.args_dict_items_iter_1 _;unfold Builtin.«dict_items.__iter__»;refine qa<|qb ?_;unfold a6B;refine qa<|qa<|Ŀ e2 d2 (x:=.ref d) rfl<|qb ?_;unfold a6z;refine qa<|qa<|ŀ e dat<|qa<|Ŵ e dat ?_;unfold newFields;refine qy (qb ⟨_,rfl, "dict_itemiterator",_,⟨_,qg _ rfl,rfl⟩,Ø.lookup,?_⟩) (by rw[show Ũ "dict_itemiterator"=ż by decide,a6P rfl];show(8:Nat)<=Ĕ+2;decide);exact q _ (qg _ rfl) λb o z=>qd _ z
end
def HG{X:Cx}{o:Obj}(I:Inv X pins σ H s)(e:H a=ž (.aZ o<|.dT kvs)):
  (a==Ň)=Ż/\∃(es:Array ύ) (ep:Nat),s.heap.get? a=ž o/\o.ExactDict/\o.data=.dict es ep/\es.size=kvs.length/\∀(i:Nat) (k:Qa Key) (v:V),kvs[i]?=ž (k,v)->∃(b:Qg) (x:ύ),es[i]?=ž x/\x.key=.ref b/\be X.K H b (k.map kV)/\zU v x.val:=by
 have(ea,z,y,xs,r,o',es,ep,h1,h2,h3,h4,h5):=(show bX X.prog X.w X.K H s.heap a (.aZ o<|.dT kvs) from I.aC a _ e);rw[ea]at h1;cases h1;refine⟨y,es,ep,ea,h2,h3,?_,λi k v hi=>?_⟩
 .have:=congrArg a0L h4
  rw[ģ,ē,<-HR r]at this;exact this
 .have(q,hq,r1,r2,r3):=Qo r i (k,v) hi
  refine⟨q.2.1,a0h (ϰ<|zI X.prog X.w) q,?_,rfl,r2,r3⟩;have:es.toList[i]?=ž (a0h (ϰ<|zI X.prog X.w) q):=by rw[h4,ĝ,hq];rfl
  simpa using this
def UT(K:qc)(a:Qg)(o:Obj)(kvs:Qa (Qa Key×V)):It :=
 ⟨λi H=>H a=ž (.aZ o<|.dT kvs)/\i < kvs.length,λi H x H'=>∃T,H T=Ž/\x=.ref T/\∀k v,kvs[i]?=ž (k,v)->∃b,be K H b (k.map kV)/\H'=upd H T (.tup [.ref b,v]),λi H=>H a=ž (.aZ o<|.dT kvs)/\kvs.length<=i⟩
def zns{k:Nat}(a it:Qg)(o:Obj)(kvs:Qa (Qa Key×V))(ep:Nat)(AV:∃es,o.data=.dict es ep):Turn P w K (.Tuple elts k pos) (UT K a o kvs) [it] it (λi h=>∃ok ov,a4L h it a i kvs.length ep ok ov) where
 mem:=by simp
 obj:=λi h st b hb=>by
  have e:b=it:=by simpa using hb
  subst e;have(ok,ov,e):=st;exact⟨_,e,λv z=>by
   have z':a3b _=a1N v:=z;cases z'⟩
 keep:=λi h h' st k=>by
  have(ok,ov,e):=st;exact⟨ok,ov,k it (by simp) _ e⟩
 item:=by
  intro X hP hw hK hc i pins s σ H E I hf st hg;subst hP hw hK;have(e,hi):=hg;have(ok,ov,st):=st;have(uJ,es,gX,ea,xd,dat,hsz,ent):=HG I e;have u9:gX=ep:=by
   have(rH,z):=AV;rw[dat]at z;injection z
  subst u9;have(b,x,ex,kx,hb,rv):=ent i kvs[i].1 kvs[i].2 (ql hi);refine zqI (es:=es) (by rw[hsz];exact st) ⟨o,ea,xd,dat⟩ ex λh1 ur mZ kk=>?_;refine⟨_,rfl,wpAny_letOwnedTupleGo_items (s:={s with heap:=h1}) ur λh2 bM sb=>?_⟩;have lG:s.heap.objs.size≠it:=Ľ (qj<|qh st);have I2:Inv X pins σ H {s with heap:=h2}:=I.dS (t':=s.toks) (wr:=[it]) (λb o hb q=>(sb.2 b (by simpa using hb)).trans<|kk b o (by simpa using hb) q) hf;have fT:jo X pins H s.heap.objs.size:=I.gD (qe _) (I.aC.fresh<|qe _);rw[kx]at mZ;have I3:Inv X pins σ (upd H s.heap.objs.size<|.tup [.ref b,kvs[i].2]) {s with heap:=h2}:=I2.nJ fT I.sz ⟨by show 2<=Ĕ;decide,[.ref b,x.val],.cons rfl<|.cons rv .nil,_,(sb.2 _ lG).trans mZ,rfl,⟨_,rfl⟩,.inl rfl⟩;refine⟨.ref s.heap.objs.size,_,I3,rfl,⟨_,I.aC.fresh<|qe _,rfl,λk v nZ=>⟨b,?_,?_⟩⟩,⟨_,_,by rw[<-hsz];exact bM⟩,λc hc=>?_⟩
  .rw[ql hi]at nZ
   rw[qw nZ]at hb;exact hb
  .rw[ql hi]at nZ
   rw[qw nZ]
  .have e:c=it:=by simpa using hc
   subst e;rw[zw<|Ľ lG];exact(hf c hc).1
 done:=by
  intro X hP hw hK hc i pins s σ H E I hf st hg;subst hP hw hK;have(e,hi):=hg;have(ok,ov,st):=st;have(uJ,es,gX,ea,xd,dat,hsz,ent):=HG I e;have u9:gX=ep:=by
   have(rH,z):=AV;rw[dat]at z;injection z
  subst u9;have(f0,f1,f2,f3,f4,f5):=hf it (by simp);exact ZO (es:=es) (I.ok.hd hc) (by rw[hsz];exact st) ⟨o,ea,xd,dat⟩ (by omega) λh' eb=>⟨rfl,I.turned (t':=s.toks) (λb o hb e=>eb b o hb e) f0 f1 f3 f4 f5⟩
 self:=λ_ _ _ _ _ st h=>by
  have(ok,ov,st):=st;exact a3i ⟨_,st,rfl⟩ a3D<|ĭ a3D ⟨_,st,rfl⟩ ZP (qb ⟨_,rfl, "dict_itemiterator",_,⟨_,st,rfl⟩,Ø.lookup,h⟩)<|F.args_dict_itemiterator_iter_1 _
section
variable{X:Cx}{kk:Nat}
def Mi(K:qc)(td:TE):TI:=λσ H R=>td σ H λx H1=>∃a o kvs,x=.ref a/\H1 a=ž (.aZ o<|.dT kvs)/\R (UT K a o kvs) H1
def GQ{d:Ķ}(hd:Wr (PE X d td))(dY:Υ d "items" X.env (Ÿ d X.env)=Ÿ d X.env:=by rfl)(dW:(apos.endLine==aY.line)=ż:=by rfl):Wr (PI X (.Tuple elts kk qT) (.Call (.Attribute d "items" apos) [] [] aY)<|Mi X.K td):=by
 refine⟨?_⟩;intro pins s σ H R I h;refine a5B dY dW<|aF (hd.run pins s σ H _ I h) λv s1 hZ=>?_;have(x,H1,I1,r1,q1):=hZ;have(a,o,kvs,rfl,e,q):=q1;cases r1;have(uJ,es,ep,ea,xd,dat,hsz,_):=HG I1 e;have S4:oB s1.heap a es ep:=⟨o,ea,xd,dat⟩;refine⟨"dict", "dict.items",F.plainAttrs_dict,F.slot_dict_items,F.type_dict_items,S4.typeIs,λb hb=>?_,ă rfl<|a4R<|zqJ uJ S4 ?_⟩
 .cases hb
  exact⟨o,ea,xd.2.1⟩
 have I2:Inv X pins σ H1 {s1 with heap:=s1.heap.push {cls:=.type "dict_items",data:=.fields #[.ref a]}}:=I1.kept (t':=s1.toks) λb o z=>qd _ z;refine zqK (v:=s1.heap.objs.size) (s:={s1 with heap:=s1.heap.push {cls:=.type "dict_items",data:=.fields #[.ref a]}}) ⟨_,qg _ rfl,rfl,rfl⟩ ⟨o,qd _ ea,xd,dat⟩ λh' hit Ei=>?_;refine⟨_,_,_,_,H1,rfl,I2.kept (t':=s1.toks) Ei,zns a _ o kvs ep ⟨es,dat⟩,⟨_,_,by rw[<-hsz];exact hit⟩,λb hb=>?_,q⟩;rw[qp.mp hb];exact I2.gD (qe _)<|I2.aC.fresh<|qe _
end
def wd:U->Qb (Qa D)
 |.d (.dict kvs)=>if ko kvs=ż then ž (kvs.map λp=>.tuple [p.1,p.2])else Ž
 |_=>Ž
def Ng:∀{ws:Qa (Qa Key×V)} {kvs:Qa (D×D)},jg K H ws kvs->∀{i:Nat} {p:D×D},kvs[i]?=ž p->∃k v,ws[i]?=ž (k,v)/\p.1=jN k/\DF K H v p.2
 |_,_,.nil,i,p,h=>by simp at h
 |_,_,.cons hv t,0,p,h=>by cases h;exact⟨_,_,rfl,rfl,hv⟩
 |_,_,.cons hv t,i+1,p,h=>Ng t (i:=i) h
def XB{kvs:Qa (D×D)}(h:jg K H ws kvs):ws.length=kvs.length :=
 h.ind (P:=λws kvs=>ws.length=kvs.length) rfl λ_ _ t=>congrArg (·+1) t
def HF{me:ME}(h:VE K te me):VI K (Mi K te) (gS wd me):=by
 intro ρ σ H ds aj R r e q;obtain⟨⟨a,aq⟩,e1,e⟩:=bQ e;have(u,eu,e):=bQ e;have(xs,ex,e):=bQ e;cases e;refine h ρ σ H a _ _ r e1 λv H1 g1 k1=>?_;have p:=k1.now r g1 eu;unfold wd at ex;split at ex
 .split at ex
  rotate_left
  .cases ex
  rename_i nx;cases ex;have(b,o,ws,rfl,h1,h2):=DF.du p nx;refine⟨b,o,ws,rfl,h1,q _ _ g1 λH2 k i=>?_⟩;have lN:=k.aZ _ _ _ h1;refine⟨λd ed=>?_,λei=>?_⟩
  .rw[ĝ]at ed
   obtain⟨⟨kd,vd⟩,ew,rfl⟩:=qq.mp ed;have(ks,w,gW,rfl,dv):=Ng h2 ew;refine⟨⟨lN,(qk.mp gW).1⟩,λx H' y=>?_⟩;have(T,nT,rfl,y):=y;have(kb,AS,rfl):=y ks w gW;have sm:=iz nT (.tup [.ref kb,w]);exact⟨sm,.tup (.inl zz)<|.cons (DF.kp sm.kp<|.tup AS De)<|.cons ((dv.kp k).kp sm.kp) .nil⟩
  .rw[ē,<-XB h2]at ei
   exact⟨lN,đ ei.symm⟩
 .cases ex
noncomputable abbrev vZ(h:ĵ)(t1:Qg):ĵ:=h.push {cls:=.type "tuple_iterator",data:=.fields #[.ref t1,.int 0 0]}
abbrev yA(h:ĵ)(t1 t2:Qg):ĵ:=(vZ h t1).push {cls:=.type "tuple_iterator",data:=.fields #[.ref t2,.int 0 0]}
abbrev vY(h:ĵ)(t1 t2:Qg):ĵ:=(yA h t1 t2).push {cls:=.type "tuple",data:=.seq #[.ref h.objs.size,.ref (vZ h t1).objs.size]}
abbrev Dm(h:ĵ)(t1 t2:Qg):ĵ:=(vY h t1 t2).push {cls:=.type "tuple",data:=.seq #[.none,.none]}
abbrev HJ(h:ĵ)(t1 t2:Qg):ĵ:=(Dm h t1 t2).push {cls:=.type "zip",data:=.fields #[.none,.bool Ż,.bool Ż,.ref (yA h t1 t2).objs.size,.ref (vY h t1 t2).objs.size]}
def ZN(t1 t2:Qg)(xs ys:Array Qc):
  Meets (Builtin.«zip.__new__» ⟨[.type "zip",.ref t1,.ref t2],[]⟩) (λ_ R s=>s.heap.IsTuple t1 xs/\s.heap.IsTuple t2 ys/\
   R (.ok<|.ret<|.ref (Dm s.heap t1 t2).objs.size) {s with heap:=HJ s.heap t1 t2}):=
 .of_wp λprog w A R s h=>by
  have(hp,g,d,tk,os):=s;have(h1,h2,h):=h;have i9:Heap.IsTuple (vZ hp t1) t2 ys:=by
   have(o,e,r):=h2;exact⟨o,qd _ e,r⟩
  have JN:=sub_zip
  wp_walk using wpAny_pyIter_tuple h1,wpAny_pyIter_tuple i9
  exact⟨_,rfl,h⟩
section
variable{z TI TO i1 i2 t1 t2:Qg}{k:Nat}{xs ys:Array Qc}{x y a b:Qc}
def zqL{Q:Qb Qc->Qd->Prop}(ap:ZipApart z TI TO i1 i2 t1 t2)(hz:IsZip s.heap z TI TO .none)(hI:a1L s.heap TI (.ref i1) (.ref i2))(hO:a1L s.heap TO a b)
  (h1:s.heap.IsTupleIter i1 t1 k) (h2:s.heap.IsTupleIter i2 t2 k) (g1:s.heap.IsTuple t1 xs) (g2:s.heap.IsTuple t2 ys) (ex:xs[k]?=ž x) (ey:ys[k]?=ž y)
  (q:∀h':ĵ,IsZip h' z TI TO (Ϝ s.heap.objs.size)->a1L h' TO x y->h'.IsTupleIter i1 t1 (k+1)->h'.IsTupleIter i2 t2 (k+1)->a1L h' s.heap.objs.size x y->
   (∀c o,c≠z->c≠TO->c≠i1->c≠i2->s.heap.get? c=ž o->h'.get? c=ž o)->Q (ž<|.ref s.heap.objs.size) {s with heap:=h'}):ĕ (Ę prog w) A (Ψ<|.ref z) Q E s:=by
 have kT:s.TypeIs (.ref z) "zip":=⟨_,hz,rfl⟩;unfold Ψ;refine qa<|Ρ<|ł (name:=ϔ "__next__") kT a1D<|ĭ a1D kT F.entry_zip_next ?_<|F.args_zip_next_1 _;unfold Builtin.«zip.__next__»;refine qa<|qb ?_;refine qa<|Ŀ hz rfl (x:=.bool Ż) rfl ?_;refine qa<|Ŀ hz rfl (x:=.ref TI) rfl ?_;refine qa<|Ϡ hI rfl ?_;show ĕ _ _ (Ŭ (.ref z) >>= _) _ _ s;unfold Ŭ;refine qa<|qa<|Ŀ hz rfl (x:=.none) rfl<|qb ?_;show ĕ _ _ (if ż=ż then _ else _) _ _ _;rw[a6P rfl];refine qa<|ų<|qa<|Ŀ hz rfl (x:=.ref TO) rfl ?_;refine qa<|oI hz (by simp) λha ka za fa=>?_;have T9:a1L ha TO a b:=fa _ _ ap.TOz hO;have A3:ha.IsTupleIter i1 t1 k:=by
  have(o,e,r):=h1;exact⟨o,fa _ _ ap.i1z e,r⟩
 have Km:ha.IsTuple t1 xs:=by
  have(o,e,r):=g1;exact⟨o,fa _ _ ap.l1z e,r⟩
 refine qa ?_;show ĕ _ _ (forIn [(Ĝ i1,0),(Ĝ i2,1)] (Ž,()) _) _ _ _;rw[a1r];refine qa<|qa<|a5d ?_;show ĕ _ _ (Ő (.ref i1) >>= _) _ _ _;refine qa<|HS (s:={s with heap:=ha}) A3 Km ex λhb kb sb=>qb ?_;refine qa<|Ϡ (s:={s with heap:=hb}) (o:=_) ((sb.2 _ ap.TOi1).trans T9) rfl ?_;refine qa<|a6C (s:={s with heap:=hb}) ((sb.2 _ ap.TOi1).trans T9) λhc kc sc=>?_;refine qa<|wpAny_letGo<|qb ?_;show ĕ _ _ (forIn [(Ĝ i2,1)] (Ž,()) _) _ _ _;rw[a1r];have nR:∀c o,c≠z->c≠TO->c≠i1->s.heap.get? c=ž o->hc.get? c=ž o:=λc o n1 n2 n3 e=>(sc.2 c n2).trans<|(sb.2 c n3).trans<|fa c o n1 e;have h22:hc.IsTupleIter i2 t2 k:=by
  have(o,e,r):=h2;exact⟨o,nR _ _ ap.i2z (Ľ ap.TOi2) (Ľ ap.i12) e,r⟩
 have g22:hc.IsTuple t2 ys:=by
  have(o,e,r):=g2;exact⟨o,nR _ _ ap.l2z ap.l2TO ap.l2i1 e,r⟩
 refine qa<|qa<|a5d ?_;show ĕ _ _ (Ő (.ref i2) >>= _) _ _ _;refine qa<|HS (s:={s with heap:=hc}) h22 g22 ey λhd kd sd=>qb ?_;have T8:a1L hd TO x b:=(sd.2 _ ap.TOi2).trans kc;refine qa<|Ϡ (s:={s with heap:=hd}) T8 rfl ?_;refine qa<|a6C (s:={s with heap:=hd}) T8 λhe ke se=>?_;refine qa<|wpAny_letGo<|qb ?_;show ĕ _ _ (forIn ([]:Qa (Qc×Nat)) (Ž,()) _) _ _ _;rw[a1C];refine qb ?_;have T7:a1L he TO x y:=ke;show ĕ _ _ (seqItems? (.ref TO) >>= _) _ _ _;refine qa<|Ϡ (s:={s with heap:=he}) T7 rfl ?_;simp only[a4B];refine qa<|qy ?_ (by show(2:Nat)<=Ĕ;decide);have sz:he.objs.size=s.heap.objs.size:=by rw[se.1,sd.1,sc.1,sb.1];exact za
 show ĕ _ _ (a0x (.ref z) (.ref he.objs.size) >>= _) _ _ {s with heap:=he.push {cls:=.type "tuple",data:=.seq #[x,y]}};have kz:(he.push {cls:=.type "tuple",data:=.seq #[x,y]}).get? z=ž {cls:=.type "zip",data:=.fields #[.ellipsis,.bool Ż,.bool Ż,.ref TI,.ref TO]}:=
  qd _ ((se.2 _<|Ľ ap.TOz).trans<|(sd.2 _<|Ľ ap.i2z).trans<|(sc.2 _<|Ľ ap.TOz).trans<|(sb.2 _<|Ľ ap.i1z).trans ka)
 have kt:(he.push {cls:=.type "tuple",data:=.seq #[x,y]}).get? he.objs.size=ž {cls:=.type "tuple",data:=.seq #[x,y]}:=qg _ rfl;have kO:(he.push {cls:=.type "tuple",data:=.seq #[x,y]}).get? TO=_:=qd _ T7;have k1:a6u (he.push {cls:=.type "tuple",data:=.seq #[x,y]}) i1 t1 (k+1):=by
  have(o,e,r):=kb;exact⟨o,qd _<|(se.2 _<|Ľ ap.TOi1).trans<|(sd.2 _ ap.i12).trans<|(sc.2 _<|Ľ ap.TOi1).trans e,r⟩
 have k2:a6u (he.push {cls:=.type "tuple",data:=.seq #[x,y]}) i2 t2 (k+1):=by
  have(o,e,r):=kd;exact⟨o,qd _<|(se.2 _<|Ľ ap.TOi2).trans e,r⟩
 have kk:∀c o,c≠z->c≠TO->c≠i1->c≠i2->s.heap.get? c=ž o->(he.push {cls:=.type "tuple",data:=.seq #[x,y]}).get? c=ž o:=λc o n1 n2 n3 n4 e=>
  qd _ ((se.2 c n2).trans<|(sd.2 c n4).trans<|nR c o n1 n2 n3 e)
 have nz:he.objs.size≠z:=by
  rw[sz];exact Ľ<|qj<|qh hz
 generalize he.push {cls:=.type "tuple",data:=.seq #[x,y]}=hf at kz kt kO k1 k2 kk ⊢;unfold a0x;refine qa<|qa<|oI (s:={s with heap:=hf}) kz (by simp) λhg kg zg fg=>?_;refine oI (s:={s with heap:=hg}) kg (by simp) λhh kh zh fh=>?_;have up:∀c o,c≠z->hf.get? c=ž o->hh.get? c=ž o:=λc o n e=>fh c o n<|fg c o n e;refine qb ⟨_,rfl,qb ?_⟩;rw[sz]at kt kh nz ⊢;refine q hh kh (up _ _ ap.TOz kO) ?_ ?_ (up _ _ nz kt) λc o n1 n2 n3 n4 e=>up _ _ n1<|kk c o n1 n2 n3 n4 e
 .have(o,e,r):=k1
  exact⟨o,up _ _ ap.i1z e,r⟩
 .have(o,e,r):=k2
  exact⟨o,up _ _ ap.i2z e,r⟩
def ZM{Q:Qb Qc->Qd->Prop}(hh:A.handled=Ž)(ap:ZipApart z TI TO i1 i2 t1 t2)(hz:IsZip s.heap z TI TO .none)(hI:a1L s.heap TI (.ref i1) (.ref i2))(hO:a1L s.heap TO a b)
  (h1:s.heap.IsTupleIter i1 t1 k) (h2:s.heap.IsTupleIter i2 t2 k) (g1:s.heap.IsTuple t1 xs) (g2:s.heap.IsTuple t2 ys) (en:xs[k]?=Ž)
  (q:∀h':ĵ,(∀c o,c≠z->c≠TO->c≠i1->c≠i2->s.heap.get? c=ž o->h'.get? c=ž o)->Q Ž {s with heap:=h'}):ĕ (Ę prog w) A (Ψ<|.ref z) Q E s:=by
 have kT:s.TypeIs (.ref z) "zip":=⟨_,hz,rfl⟩;unfold Ψ;refine qa<|Ρ<|ł (name:=ϔ "__next__") kT a1D<|ĭ a1D kT F.entry_zip_next ?_<|F.args_zip_next_1 _;unfold Builtin.«zip.__next__»;refine qa<|qb ?_;refine qa<|Ŀ hz rfl (x:=.bool Ż) rfl ?_;refine qa<|Ŀ hz rfl (x:=.ref TI) rfl ?_;refine qa<|Ϡ hI rfl ?_;show ĕ _ _ (Ŭ (.ref z) >>= _) _ _ s;unfold Ŭ;refine qa<|qa<|Ŀ hz rfl (x:=.none) rfl<|qb ?_;show ĕ _ _ (if ż=ż then _ else _) _ _ _;rw[a6P rfl];refine qa<|ų<|qa<|Ŀ hz rfl (x:=.ref TO) rfl ?_;refine qa<|oI hz (by simp) λha ka za fa=>?_;have A3:ha.IsTupleIter i1 t1 k:=by
  have(o,e,r):=h1;exact⟨o,fa _ _ ap.i1z e,r⟩
 have Km:ha.IsTuple t1 xs:=by
  have(o,e,r):=g1;exact⟨o,fa _ _ ap.l1z e,r⟩
 refine qa ?_;show ĕ _ _ (forIn [(Ĝ i1,0),(Ĝ i2,1)] (Ž,()) _) _ _ _;rw[a1r];refine qa<|qa<|a5d ?_;show ĕ _ _ (Ő (.ref i1) >>= _) _ _ _;refine qa<|Px (s:={s with heap:=ha}) hh A3 Km en λhb e sb hZ=>?_;have(oe,ge,ce):=hZ;have kb:=sb z _ (Ľ ap.i1z) ka;refine oI (s:={s with heap:=hb}) kb (by simp) λhc kc zc fc=>?_;have nez:e≠z:=λh=>by
  rw[h]at ge;have z1:=qw (ge.symm.trans kb);rw[z1]at ce;have z2 : "zip" = "StopIteration":=a4P ce;exact absurd z2 (by decide)
 show ĕ _ _ (a2V (.ref e) (.type "StopIteration") >>= _) _ _ _;refine qa<|ϋ (T := "StopIteration") (b:=ż) ⟨oe,fc _ _ nez ge,ce⟩ a4D ?_;exact qb<|q hc λc o n1 n2 n3 n4 e=>fc c o n1<|sb c o n3<|fa c o n1 e
end
def UP(K:qc)(a b:Qg):It :=
 ⟨λi H=>∃xs ys x y,bI K H a xs/\bI K H b ys/\xs[i]?=ž x/\ys[i]?=ž y,λi H x H'=>∃T,H T=Ž/\x=.ref T/\∀xs ys v u,bI K H a xs->bI K H b ys->xs[i]?=ž v->ys[i]?=ž u->H'=upd H T (.tup [v,u]),λi H=>∃xs ys,bI K H a xs/\bI K H b ys/\xs.length=i⟩
abbrev UM(z TI TO i1 i2 t1 t2:Qg)(i:Nat)(h:ĵ):Prop:=IsZip h z TI TO .none/\a1L h TI (.ref i1) (.ref i2)/\(∃a b,a1L h TO a b)/\h.IsTupleIter i1 t1 i/\h.IsTupleIter i2 t2 i
def ZL{k:Nat}(z TI TO i1 i2 t1 t2:Qg)(ap:ZipApart z TI TO i1 i2 t1 t2):
  Turn P w K (.Tuple elts k pos) (UP K t1 t2) [z,TI,TO,i1,i2] z (UM z TI TO i1 i2 t1 t2) where
 mem:=by simp
 obj:=λi h st c hc=>by
  obtain⟨hz,hI,⟨a,b,hO⟩,⟨o1,e1,_,d1⟩,⟨o2,e2,_,d2⟩⟩:=st;simp only[qu,ķ,or_false]at hc;rcases hc with rfl|rfl|rfl|rfl|rfl
  .exact⟨_,hz,λv q=>by
    have q':a3b _=a1N v:=q;cases q'⟩
  .exact⟨_,hI,λv q=>by
    have q':a5a _ _=a1N v:=q;cases q'⟩
  .exact⟨_,hO,λv q=>by
    have q':a5a _ _=a1N v:=q;cases q'⟩
  .exact⟨o1,e1,λv q=>by rw[d1]at q;cases q⟩
  .exact⟨o2,e2,λv q=>by rw[d2]at q;cases q⟩
 keep:=λi h h' st kk=>by
  obtain⟨hz,hI,⟨a,b,hO⟩,⟨o1,e1,r1⟩,⟨o2,e2,r2⟩⟩:=st;exact⟨kk z (by simp) _ hz,kk TI (by simp) _ hI,⟨a,b,kk TO (by simp) _ hO⟩,⟨o1,kk i1 (by simp) _ e1,r1⟩,⟨o2,kk i2 (by simp) _ e2,r2⟩⟩
 item:=by
  intro X hP hw hK hc i pins s σ H E I hf st hg;subst hP hw hK;have(xs,ys,x,y,i5,m7,hx,hy):=hg;obtain⟨hz,hI,⟨a,b,hO⟩,h1,h2⟩:=st;have(uF,D7,w6,_):=I.tuple i5;have(gT,I0,sX,_):=I.tuple m7;have(u1,eu1,r1):=D7.get hx;have(u2,eu2,r2):=I0.get hy;refine zqL ap hz hI hO h1 h2 w6 sX (by simpa using eu1) (by simpa using eu2) λh' z' O' k1 k2 mZ kk=>?_;refine⟨_,rfl,wpAny_letOwnedTupleGo_zip (s:={s with heap:=h'}) z' λi9 z2 sb=>?_⟩;have nm:s.heap.objs.size∉[z,TI,TO,i1,i2]:=λhm=>by
   have:s.heap.objs.size < s.heap.objs.size:=by
    simp only[qu,ķ,or_false]at hm;have(_,e1,_):=h1;have(_,e2,_):=h2;rcases hm with h|h|h|h|h
    .exact qi (h▸qh hz) (qe _)
    .exact qi (h▸qh hI) (qe _)
    .exact qi (h▸qh hO) (qe _)
    .exact qi (h▸qh e1) (qe _)
    .exact qi (h▸qh e2) (qe _)
   exact Ð _ this
  have nz:s.heap.objs.size≠z:=λh=>nm (by rw[h];simp);have I2:Inv X pins σ H {s with heap:=i9}:=I.dS (t':=s.toks) (wr:=[z,TI,TO,i1,i2]) (λc o hc q=>by
   simp only[qu,ķ,or_false,not_or]at hc;exact(sb.2 c hc.1).trans<|kk c o hc.1 hc.2.2.1 hc.2.2.2.1 hc.2.2.2.2 q) hf
  have fT:jo X pins H s.heap.objs.size:=I.gD (qe _) (I.aC.fresh<|qe _);have I3:Inv X pins σ (upd H s.heap.objs.size<|.tup [x,y]) {s with heap:=i9}:=I2.nJ fT I.sz ⟨by show 2<=Ĕ;decide,[u1,u2],.cons r1<|.cons r2 .nil,_,(sb.2 _ nz).trans mZ,rfl,⟨_,rfl⟩,.inl rfl⟩;refine⟨.ref s.heap.objs.size,_,I3,rfl,⟨_,I.aC.fresh<|qe _,rfl,λmV iV v u JR JQ hv hu=>?_⟩,⟨z2,(sb.2 _ ap.TIz).trans<|kk _ _ ap.TIz ap.TITO ap.TIi1 ap.TIi2 hI,⟨_,_,(sb.2 _ ap.TOz).trans O'⟩,?_,?_⟩,λc hc=>?_⟩
  .cases I.dg i5 JR
   cases I.dg m7 JQ;rw[hx]at hv;rw[hy]at hu;cases hv;cases hu;rfl
  .have(o,e,r):=k1
   exact⟨o,(sb.2 _ ap.i1z).trans e,r⟩
  .have(o,e,r):=k2
   exact⟨o,(sb.2 _ ap.i2z).trans e,r⟩
  .have ne:c≠s.heap.objs.size:=λh=>nm<|h▸hc
   rw[zw ne];exact(hf c hc).1
 done:=by
  intro X hP hw hK hc i pins s σ H E I hf st hg;subst hP hw hK;have(xs,ys,i5,m7,hl):=hg;obtain⟨hz,hI,⟨a,b,hO⟩,h1,h2⟩:=st;have(uF,D7,w6,_):=I.tuple i5;have(gT,I0,sX,_):=I.tuple m7;refine ZM (I.ok.hd hc) ap hz hI hO h1 h2 w6 sX (by
   have:=D7.length;simp;omega) λh' kk=>⟨rfl,I.dS (t':=s.toks) (wr:=[z,TI,TO,i1,i2]) (λc o hc q=>by
   simp only[qu,ķ,or_false,not_or]at hc;exact kk c o hc.1 hc.2.2.1 hc.2.2.2.1 hc.2.2.2.2 q) hf⟩
 self:=λ_ _ _ _ _ st h=>wpAny_pyIter_zip st.1 h
section
def zqM{t1 t2:Qg}{xs ys:Array Qc}(h1:s.heap.IsTuple t1 xs)(h2:s.heap.IsTuple t2 ys)
  (h:∀h':ĵ,UM (s.heap.objs.size+4) (s.heap.objs.size+2) (s.heap.objs.size+3) s.heap.objs.size (s.heap.objs.size+1) t1 t2 0 h'->(∀b o,s.heap.get? b=ž o->h'.get? b=ž o)->Q (.ref<|s.heap.objs.size+4) {s with heap:=h'}):
  ĕ (Ę prog w) A (a2A (.type "zip") [.ref t1,.ref t2]) Q E s:=by
 refine callType_new F.called_zip (by decide) (F.typeCall_zip_2 _ _) (F.newCall_zip_2 _ _) (λobj=>F.args_object_init_3 obj _ _) F.entry_zip_new (ZN t1 t2 xs ys) ⟨h1,h2,?_⟩;have z1:(vZ s.heap t1).objs.size=s.heap.objs.size+1:=Ŏ ..;have z2:(yA s.heap t1 t2).objs.size=s.heap.objs.size+2:=by rw[Ŏ,z1]
 have z3:(vY s.heap t1 t2).objs.size=s.heap.objs.size+3:=by rw[Ŏ,z2]
 have z4:(Dm s.heap t1 t2).objs.size=s.heap.objs.size+4:=by rw[Ŏ,z3]
 show _/\_;rw[z4];have ez:(HJ s.heap t1 t2).get? (s.heap.objs.size+4)=ž {cls:=.type "zip",data:=.fields #[.none,.bool Ż,.bool Ż,.ref<|s.heap.objs.size+2,.ref<|s.heap.objs.size+3]}:=by
  have:=qg (Dm s.heap t1 t2) (o:={cls:=.type "zip",data:=.fields #[.none,.bool Ż,.bool Ż,.ref (yA s.heap t1 t2).objs.size,.ref (vY s.heap t1 t2).objs.size]}) rfl;rw[z4,z2,z3]at this;rw[<-this];unfold HJ;rw[z2,z3]
 refine⟨⟨_,ez,rfl⟩,h _ ⟨ez,?_,⟨.none,.none,?_⟩,⟨{cls:=.type "tuple_iterator",data:=.fields #[.ref t1,.int 0 0]},?_,rfl,rfl⟩,⟨{cls:=.type "tuple_iterator",data:=.fields #[.ref t2,.int 0 0]},?_,rfl,rfl⟩⟩ λb o x=>?_⟩
 .have:=qg (yA s.heap t1 t2) (o:={cls:=.type "tuple",data:=.seq #[.ref s.heap.objs.size,.ref (vZ s.heap t1).objs.size]}) rfl
  rw[z2,z1]at this;refine qd _<|qd _ ?_;unfold vY;rw[z1];exact this
 .have:=qg (vY s.heap t1 t2) (o:={cls:=.type "tuple",data:=.seq #[.none,.none]}) rfl
  rw[z3]at this;exact qd _ this
 .exact qd _ (qd _<|qd _<|qd _<|qg _ rfl)
 .have:=qg (vZ s.heap t1) (o:={cls:=.type "tuple_iterator",data:=.fields #[.ref t2,.int 0 0]}) rfl
  rw[z1]at this;exact qd _<|qd _<|qd _ this
 .exact qd _ (qd _<|qd _<|qd _<|qd _ x)
end
section
variable{X:Cx}{k:Nat}
def Sq(K:qc)(ta:TA):TI:=λσ H R=>ta σ H λvs H1=>∃a b,vs=[.ref a,.ref b]/\(∃xs,bI K H1 a xs)/\(∃ys,bI K H1 b ys)/\R (UP K a b) H1
def Mh{a b:Ķ}{ta:TA}(ha:Wr (PA X [a,b] ta))(hK:X.K=K:=by rfl)(hg:Gl X "zip":=by exact rfl)(hm:X.mg "zip"=Ž:=by exact tT ‹Bl _ _› (by decide))(hs:eG a=ż:=by rfl)(uK:[b].all eG=ż:=by rfl):
  Wr (PI X (.Tuple elts k qT) (.Call (.Name "zip" p) [a,b] [] pos)<|Sq K ta):=by
 subst hK;refine⟨?_⟩;intro pins s σ H R I h;refine Call_<|t9 I hg hm boot_zip<|ê (aF (ha.run pos pins s σ H _ I h) λus s1 hZ=>?_) (j8 hs)<|sJ uK;have(vs,H1,I1,r1,q1):=hZ;obtain⟨t1,t2,e,⟨xs,i5⟩,⟨ys,m7⟩,q⟩:=q1;subst e;have(u1,u2,rfl,ru1,ru2):=Cq r1;cases ru1;cases ru2;have(uF,D7,w6,hz1):=I1.tuple i5;have(gT,I0,sX,hz2):=I1.tuple m7;have tl1:t1 < s1.heap.objs.size:=by
  have(o,e,_):=w6;exact qh e
 have tl2:t2 < s1.heap.objs.size:=by
  have(o,e,_):=sX;exact qh e
 have sS:∀{x y:Nat},x < y->x≠y:=λh=>qj h;refine zqM (show s1.heap.IsTuple t1 uF.toArray from w6) (show s1.heap.IsTuple t2 gT.toArray from sX) λh' kC kk=>?_;have I2:Inv X pins σ H1 {s1 with heap:=h'}:=I1.kept (t':=s1.toks) kk;refine wpAny_pyIter_zip kC.1 ?_;have f:∀j:Nat,jo X pins H1 (s1.heap.objs.size+j):=λj=>I1.gD (Ç _ _)<|I1.aC.fresh<|Ç _ _;have ap:ZipApart (s1.heap.objs.size+4) (s1.heap.objs.size+2) (s1.heap.objs.size+3) s1.heap.objs.size (s1.heap.objs.size+1) t1 t2:=by
  generalize s1.heap.objs.size=n at tl1 tl2;constructor<;>(simp only[Qg]at *;omega)
 refine⟨_,_,_,_,H1,rfl,I2,ZL _ _ _ _ _ t1 t2 ap,kC,λc hc=>?_,q⟩;simp only[qu,ķ,or_false]at hc;rcases hc with rfl|rfl|rfl|rfl|rfl
 .exact f 4
 .exact f 2
 .exact f 3
 .exact f 0
 .exact f 1
end
noncomputable def tF:Qa D->Qa D->Qa D
 |x::xs,y::ys=>.tuple [x,y]::tF xs ys
 |_,_=>[]
def Nd:∀{xs ys:Qa D} {i:Nat} {d:D},(tF xs ys)[i]?=ž d->∃x y,xs[i]?=ž x/\ys[i]?=ž y/\d=.tuple [x,y]
 |[],ys,i,d,h=>by simp[tF]at h
 |x::xs,[],i,d,h=>by simp[tF]at h
 |x::xs,y::ys,0,d,h=>by cases h;exact⟨x,y,rfl,rfl,rfl⟩
 |x::xs,y::ys,i+1,d,h=>Nd (xs:=xs) (ys:=ys) (i:=i) h
def O0:∀(xs ys:Qa D),xs.length=ys.length->(tF xs ys).length=xs.length
 |[],[],_=>rfl
 |[],y::ys,h=>by cases h
 |x::xs,[],h=>by cases h
 |x::xs,y::ys,h=>congrArg (·+1)<|O0 xs ys<|Ϙ h
def xJ:Qa U->Qb (Qa D)
 |[.d<|.tuple xs,.d<|.tuple ys]=>if xs.length=ys.length then ž (tF xs ys)else Ž
 |_=>Ž
def Bx(ma:MA):MI:=λρ=>(ma ρ).bind λp=>(bY p.2 p.1).bind λus=>(xJ us).bind λds=>ž (ds,p.2)
def Mf{ta:TA}{ma:MA}(h:kH K ta ma):VI K (Sq K ta) (Bx ma):=by
 intro ρ σ H ds aj R r e q;obtain⟨⟨as,aq⟩,e1,e⟩:=bQ e;have(us,eu,e):=bQ e;have(zs,ez,e):=bQ e;cases e;refine h ρ σ H as aq _ r e1 λvs H1 g1 s1=>?_;have rp:=s1.pj r g1 eu;unfold xJ at ez;split at ez
 .split at ez
  rotate_left
  .cases ez
  rename_i xs ys hl;cases ez;cases rp with
  |cons p1 t=>
   cases t with
   |cons p2 t=>
    cases t;have(a,vx,rfl,h1,d1):=DF.aH p1;have(b,vy,rfl,h2,d2):=DF.aH p2;refine⟨a,b,rfl,⟨vx,(be.sq h1)⟩,⟨vy,(be.sq h2)⟩,q _ _ g1 λH2 kk i=>⟨λd ed=>?_,λei=>?_⟩⟩
    .have(x,y,ex,ey,rfl):=Nd ed
     have(v,ev,dv):=(d1.kp kk).get ex;have(w,ew,dw):=(d2.kp kk).get ey;refine⟨⟨vx,vy,v,w,(be.kp kk h1).sq,(be.kp kk h2).sq,ev,ew⟩,λz H' y=>?_⟩;have(T,nT,rfl,y):=y;cases y vx vy v w ((be.kp kk h1).sq) ((be.kp kk h2).sq) ev ew;have sm:=iz nT (.tup [v,w]);exact⟨sm,.tup (.inl zz)<|.cons (dv.kp sm.kp)<|.cons (dw.kp sm.kp) .nil⟩
    .exact⟨vx,vy,(be.kp kk h1).sq,(be.kp kk h2).sq,by rw[O0 _ _ hl]at ei;rw[d1.len];exact ei.symm⟩
 .cases ez
section
def zlW{b:Qg}{Q:Bool->Qd->Prop}(hT:s.TypeIs (.ref b) "tuple")(h:Q Ż s):ĕ (Ę prog w) A (a3g<|.ref b) Q E s:=by
 unfold a3g;refine qa<|Φ hT F.slot_tuple_eq.lookup<|qb ?_;exact h
def zlX{id:String}{d:Qg}{o:Obj}{Q:Array ύ->Qd->Prop}(ho:s.heap.get? d=ž o)(hd:o.data=.dict es ep)
  (hk:∀e∈es.toList,∃b,e.key=.ref b/\s.TypeIs (.ref b) "tuple") (hh:∀e∈es.toList,¬(es.filter (·.hash==e.hash)).size > 1) (h:Q es s):
  ĕ (Ę prog w) A (a1Y id d) Q E s:=by
 unfold a1Y;refine qa<|ŀ ho hd ?_;refine qa ?_;rw[<-a2f];refine Ζ _ (λrest _ s'=>s'=s/\∀e∈rest,e∈es.toList) _ ?_ ?_ _ _ ⟨rfl,λe h=>h⟩
 .rintro e rest b s' ⟨rfl,hr⟩
  have(c,ec,tc):=hk e (hr e qo);rw[ec];refine qa<|zlW tc ?_;simp only[ϛ,if_true];rw[a6Q<|hh e<|hr e qo];exact qb ⟨rfl,λe h=>hr e<|qm _ h⟩
 .rintro b s' ⟨rfl,_⟩
  exact qb h
def zAC(ne:es.isEmpty=Ż)(hk:∀e∈es.toList,∃b,e.key=.ref b):(decide (es.size<=8) && es.all λe=>(keyPart e.key).isSome)=Ż:=by
 have:(es.all λe=>(keyPart e.key).isSome)=Ż:=by
  rw[<-a2O];cases h:es.toList with
  |nil=>
   have:es=#[]:=by
    apply Č;rw[h]
   rw[this]at ne;cases ne
  |cons e r=>
   have(b,eb):=hk e (by rw[h];exact qo);rw[ω,eb];rfl
 rw[this,Bool.and_false]
def ziU{d:Qg}{o:Obj}(hdS:(d==Ň)=Ż)(ho:s.heap.get? d=ž o)(hx:o.ExactDict)(hd:o.data=.dict es ep)(hz:es.size<=Ĕ)
  (hk:∀e∈es.toList,∃b,e.key=.ref b/\s.TypeIs (.ref b) "tuple") (hh:∀e∈es.toList,¬(es.filter (·.hash==e.hash)).size > 1)
  (h:∀h':ĵ,(∃o' gX,h'.get? s.heap.objs.size=ž o'/\o'.ExactDict/\o'.data=.dict es gX)->(∀b u,s.heap.get? b=ž u->h'.get? b=ž u)->Q (.ref s.heap.objs.size) {s with heap:=h'}):
  ĕ (Ę prog w) A (a2A (.type "dict") [.ref d]) Q E s:=by
 refine callType_codes (Q₁:=λobj aI=>obj=.ref s.heap.objs.size/\aI={s with heap:=s.heap.push {cls:=.type "dict",data:=.dict #[]}}) F.kt_called_dict (F.kt_typeCall_dict_1 _) F.entry_dict_init (kt_code_dict_new _ ⟨rfl,rfl⟩) ?_;rintro obj aI ⟨rfl,rfl⟩;have nd:s.heap.objs.size≠d:=Ľ (qj<|qh ho);have hn:(s.heap.push {cls:=.type "dict",data:=.dict #[]}).get? s.heap.objs.size=ž {cls:=.type "dict",data:=.dict #[]}:=qg _ rfl;have dF:(s.heap.push {cls:=.type "dict",data:=.dict #[]}).get? d=ž o:=qd _ ho;have kk:∀b u,s.heap.get? b=ž u->(s.heap.push {cls:=.type "dict",data:=.dict #[]}).get? b=ž u:=λb u e=>qd _ e;generalize s.heap.push {cls:=.type "dict",data:=.dict #[]}=h1 at hn dF kk ⊢;have tn:a1I {s with heap:=h1} (.ref s.heap.objs.size) "dict":=⟨_,hn,rfl⟩;have to:a1I {s with heap:=h1} (.ref d) "dict":=⟨_,dF,hx.1⟩;refine⟨tn,F.args_dict_init_2 _ _,?_⟩;unfold Builtin.«dict.__init__»;refine qa ?_;unfold Builtin.Dict.selfAndRest;refine qa<|ϲ tn ?_;show ĕ _ _ (pure (s.heap.objs.size,[Ĝ d])) _ _ _;refine qb ?_;show ĕ _ _ (a2M "dict.__init__" s.heap.objs.size (.ref d) [] .none) _ _ _;unfold a2M;refine qa<|a3h to ?_;rw[a6Q (by decide)];refine qa ?_;unfold Builtin.Dict.merge;refine qa ?_;unfold Builtin.Dict.readDirectly;refine qa<|ϋ to isSubtype_dict_dict ?_;simp only[ś,ĥ,if_false];refine qa<|Φ to F.slot_dict_iter.lookup<|qb ?_;simp only[a6U,if_true];refine qa<|qb ?_;unfold Builtin.Dict.mergeDict;rw[a6Q (by simpa using nd)];unfold Ϛ;rw[a6Q (by rw[hdS];exact qf)];refine qa<|qb ?_;refine qa<|ŀ dF hd ?_;cases ne:es.isEmpty with
 |true=>
  have e0:es=#[]:=Array.isEmpty_iff.mp ne;subst e0;have fw:(decide ((#[]:Array ύ).size<=8) && (#[]:Array ύ).all λe=>(keyPart e.key).isSome)=ż:=by rw[<-a2O];rfl
  simp only[fw,ś,ĥ,if_false];refine qa<|Ŵ (s:={s with heap:=h1}) dF hd ?_;refine qa<|ŀ (s:={s with heap:=h1}) dF hd ?_;refine qa ?_;rw[a0t];simp only[a2o,a2G,š,Nat.div_one,Array.size_empty,List.range'_zero,a1C];refine qb<|qb ?_;exact qa<|qb<|qb ⟨rfl,h h1 ⟨_,0,hn,⟨rfl,rfl,rfl⟩,rfl⟩ kk⟩
 |false=>
  have fw:=zAC ne λe he=>let ⟨b,eb,_⟩:=hk e he;⟨b,eb⟩;simp only[fw,ϛ,if_true];refine qa<|ŀ hn rfl ?_;simp only[Array.isEmpty_empty,if_true];refine qa<|zlX (s:={s with heap:=h1}) dF hd (λe he=>?_) hh ?_
  .have(b,eb,o2,eo,ec):=hk e he
   exact⟨b,eb,o2,kk _ _ eo,ec⟩
  simp only[ne,ϛ,if_true];refine qa<|wpAny_updateDictKeysTo hn rfl ?_ (by show es.size<=_;omega);refine qb<|qa<|qb<|qb ⟨rfl,h _ ⟨_,_,Ô _ hn rfl,⟨rfl,rfl,rfl⟩,rfl⟩ λb u e=>?_⟩;exact((ë ..).2 b<|qj<|qh e).trans<|kk b u e
end
noncomputable def hK:Key->Int
 |.inl i=>hashInt i
 |.inr _=>0
def hT(ks:Qa Key):Int:=a4A (ŉ<|ks.map hK)
def IE(ks:Qa Key):Bool:=ks.all λk=>match k with |.inl _=>ż |.inr _=>Ż
def tV(Tn:Qa (Qa Key)):Bool:=Tn.all IE && decide ((Tn.map hT).Nodup)
def zCP:∀{ks:Qa Key},IE ks=ż->(ϰ<|zI P w).hash ks=hT ks:=λ{ks} h=>by
 show a4A (ŉ<|ks.map<|Sw w)=_;unfold hT;congr 2;refine É λk hk=>?_;have:=ï.mp h k hk;cases k with
 |inl i=>rfl
 |inr x=>cases this
def znu{es:Qa ύ}(hn:(es.map (·.hash)).Nodup){e:ύ}(he:e∈es):(es.filter (·.hash==e.hash)).length<=1:=by
 induction es with
 |nil=>cases he
 |cons x es ih=>
  rw[ę,a3d]at hn;rw[ξ];rcases qu.mp he with rfl|TV
  .rw[a6P (by simp)]
   have:es.filter (·.hash==e.hash)=[]:=List.filter_eq_nil_iff.mpr λy hy z=>hn.1<|Ã.mpr ⟨y,hy,by simpa using z⟩;rw[this];simp
  .have:¬((x.hash==e.hash)=ż):=λz=>hn.1<|Ã.mpr ⟨e,TV,by simpa using (beq_iff_eq.mp z).symm⟩
   rw[a6Q this];exact ih hn.2 TV
section
variable{X:Cx}
def XA{l:Qa (Qa Key×V)}{m:Qa (Qa Key×Qg×Qc)}(r:KT X.K H l m):m.map (·.1)=l.map (·.1):=by
 induction r with
 |nil=>rfl
 |cons hq t ih=>rw[ę,ę,ih,hq.1]
def Xz(I:Inv X pins σ H s)(e:Rd H a (.dT kvs))(hh:tV (kvs.map (·.1))=ż)(h:∀p s',H p=Ž->Inv X pins σ (upd H p<|.dT kvs) s'->Q (.ref p) s'):ĕ (Ę X.prog X.w) A (a2A (.type "dict") [.ref a]) Q E s:=by
 have(z,y,xs,r,o,es,ep,h1,h2,h3,h4,h5):=(show bX X.prog X.w X.K H s.heap a (.dT kvs) from F3 I.aC e);have(_,_,mV,r',dd):=qE I.bO I.aC e;have hlen:es.size=kvs.length:=by
  have:=congrArg a0L h4;rw[ģ,ē,<-HR r]at this;exact this
 have(hi,hn):=Bool.and_eq_true_iff.mp hh;have hn:=a6T hn;have nQ:=XA r;have hashes:es.toList.map (·.hash)=(kvs.map (·.1)).map hT:=by
  rw[h4,<-nQ,ĳ,ĳ];refine É λx hx=>?_;exact zCP<|ï.mp hi x.1 (by rw[<-nQ];exact Ã.mpr ⟨x,hx,rfl⟩)
 refine ziU y h1 h2 h3 (by omega) (λq hq=>?_) (λq hq=>?_) λh' ⟨o',gX,n1,n2,n3⟩ kk=>?_
 .rw[h4]at hq
  have(x,hx,rfl):=Ã.mp hq;have key:∀{l:Qa (Qa Key×V)} {m:Qa (Qa Key×Qg×Qc)},KT X.K H l m->∀x∈m,be X.K H x.2.1 (x.1.map kV):=by
   intro l m q
   induction q with
   |nil=>intro x hx;cases hx
   |cons hq _ ih=>
    intro x hx;rcases qu.mp hx with e|hx
    .subst e
     rw[<-hq.1];exact hq.2.1
    .exact ih x hx
  exact⟨x.2.1,rfl,(r9 I.bO I.aC<|key r x hx).typeIs⟩
 .rw[<-hashes]at hn
  have:=znu hn hq;rw[<-ģ,Array.toList_filter];omega
 .refine h _ _ (I.aC.fresh<|qe _) (I.laid (a:=s.heap.objs.size) (o:=.dT kvs) (t':=s.toks) kk (qe _) ⟨z,beq_eq_false_iff_ne.mpr<|Ľ<|qj I.Ky,xs,?_,o',es,gX,n1,n2,n3,h4,h5⟩)
  exact KT.keeps r λb ys hb=>by rw[zw (λz=>by rw[z,I.aC.fresh<|qe _]at hb;cases hb)];exact hb
def znv:gJ X (.type "dict") (λxs H Q=>∃a kvs,xs=[.ref a]/\Rd H a (.dT kvs)/\tV (kvs.map (·.1))=ż/\∀p,H p=Ž->Q (.ref p) (upd H p<|.dT kvs)):=by
 intro pins s σ H xs us Q I r h;have(a,kvs,rfl,hr,hh,q):=h;have(u,rfl,ru):=oO r;cases ru;exact Xz I hr hh λp s' hp I'=>⟨.ref p,_,I',rfl,q p hp⟩
end
def tN:Qa (D×D)->Qb (Qa<|Qa Key×D)
 |[]=>ž []
 | (k,d)::r=>(dR k).bind λk=>(tN r).bind λr=>ž<|(k,d)::r
def wD:U->Qb U
 |.t kvs=>if tV (kvs.map (·.1))=ż then ž (.t kvs)else Ž
 |.d (.dict kvs)=>if ko kvs=ż then(tN kvs).bind λkvs=>if tV (kvs.map (·.1))=ż then ž (.t kvs)else Ž else Ž
 |_=>Ž
section
def OZ{kvs:Qa (Qa Key×D)}(h:fA K H ws kvs):ws.map (·.1)=kvs.map (·.1):=by
 induction h with
 |nil=>rfl
 |cons hq t ih=>rw[ę,ę,ih,hq.1]
def Hs:∀{kvs:Qa (D×D)} {ws:Qa (Qa Key×V)} {r:Qa (Qa Key×D)},jg K H ws kvs->tN kvs=ž r->fA K H ws r
 |[],ws,r,h,e=>by cases h;cases e;exact .nil
 | (k,d)::kvs,ws,r,h,e=>by
  have(k',ek,e):=bQ (show(dR k).bind _=ž r from e);have(r',er,e):=bQ e;cases e;cases h with
  | @cons k2 v _ vs ds hv t=>
   rw[Dr]at ek;cases ek;exact .cons ⟨rfl,hv⟩<|Hs t er
def zqN:VC K (λxs H Q=>∃a kvs,xs=[.ref a]/\Rd H a (.dT kvs)/\tV (kvs.map (·.1))=ż/\∀p,H p=Ž->Q (.ref p) (upd H p<|.dT kvs)) (f1 wD):=rR λv a u H Q h e q=>by
 unfold wD at e;split at e
 .split at e
  rotate_left
  .cases e
  rename_i kvs hh;cases e;have(b,ws,rfl,h1,h2):=h;refine⟨b,ws,rfl,.inl h1,by rw[OZ h2];exact hh,λp hp=>?_⟩;have sm:=iz hp (.dT ws);exact q _ _ sm ⟨p,ws,rfl,zz,h2.kp sm.kp⟩ λ_=>⟨p,rfl,hp⟩
 .split at e
  rotate_left
  .cases e
  rename_i nx;have(r,er,e):=bQ e;split at e
  rotate_left
  .cases e
  rename_i hh;cases e;have(b,o,ws,rfl,h1,h2):=DF.du h nx;have kd:=Hs h2 er;refine⟨b,ws,rfl,.inr ⟨o,h1⟩,by rw[OZ kd];exact hh,λp hp=>?_⟩;have sm:=iz hp (.dT ws);exact q _ _ sm ⟨p,ws,rfl,zz,kd.kp sm.kp⟩ λ_=>⟨p,rfl,hp⟩
 .cases e
end
def B5(i j:Int):Prop:=i.natAbs.log2 < 1000000/\j.natAbs.log2 < 1000000
def OY{n:Int}(h:n.natAbs.log2 < 1000000):Builtin.Int.intBits n<=2^20:=by
 refine intBits_le ?_
 by_cases z:n.natAbs=0
 .rw[z];exact Nat.two_pow_pos _
 .exact qi ((a5t z).mp h) (æ (by decide) (by decide))
section
variable{X:Cx}
def yF:bz X (Ŷ .Mult) (rI B5 λi j=>.int<|i * j):=wZ λ_ _ _ _ _ _ _ hc q=>mul_int q<|IntMulOk.of_bits (OY hc.1)<|OY hc.2
end
section
def tM:=pK B5 λi j=>.int<|i * j
def yE:VO K (rI B5 λi j=>.int<|i * j) tM:=vO λi j H=>.int _
noncomputable def B4:Qa U->Qb U
 |[.d<|.int i,.d<|.int j]=>ž<|.d<|.int (if j < i then j else i)
 |_=>Ž
def Xy:VC K (λxs H Q=>∃i j,xs=[.int i,.int j]/\Q (.int (if j < i then j else i)) H) B4:=by
 intro vs us u H Q hr e q;unfold B4 at e;split at e
 .rename_i i j
  cases e;cases hr with
  |cons h1 t=>
   cases t with
   |cons h2 t=>
    cases t;cases DF.int_inv h1;cases DF.int_inv h2;exact⟨i,j,rfl,q _ _ (λ_ _ z=>z) (.int _) Nw.data⟩
 .cases e
end
section
variable{ρ:En}{me ma mb mc mk mi md my mv mx mo:ME}{mA mK:MA}{mt mu:MT}{mI:MI}{mg:MG}{m1 m2:MS}{u:U}{x:D}
variable{QE:Ar×En->Prop}{QI:Qa D×En->Prop}
def zl0:Wo (wg md my mx ρ) QE=Wo (md ρ) (Co (λp=>(p.1.get p.2).bind λu0=>if vX u0=ż then(my p.2).bind λq=>(mx q.2).bind λz=>(p.1.get z.2).bind λu=>(q.1.get z.2).bind λy=>(z.1.get z.2).bind λx=>(kN u y).bind λo=>x.da.bind λx=>ž (.u<|.d<|o.getD x,z.2)else Ž) ⟨0⟩ QE):=by
 have e:wg md my mx ρ=(md ρ).bind λp=>(p.1.get p.2).bind λu0=>if vX u0=ż then(my p.2).bind λq=>(mx q.2).bind λz=>(p.1.get z.2).bind λu=>(q.1.get z.2).bind λy=>(z.1.get z.2).bind λx=>(kN u y).bind λo=>x.da.bind λx=>ž (.u<|.d<|o.getD x,z.2)else Ž:=by
  unfold wg;refine bind_fn λp=>bind_fn λu0=>?_;split
  .refine bind_fn λq=>bind_fn λz=>bind_fn λu=>bind_fn λy=>bind_fn λx=>bind_fn λo=>?_
   cases x<;>rfl
  .rfl
 rw[e,zr]
def ZK:Wo (Bx mA ρ) QI=Wo (mA ρ) (Co (λp=>(bY p.2 p.1).bind λus=>(xJ us).bind λds=>ž (ds,p.2)) ⟨0⟩ QI):=by
 show Wo (a0B _ _) QI=_;rw[zr]
def zpe{kvs:Qa (Qa Key×D)}:vX (.t kvs)=ż:=rfl
def ZJ{a:Int}:B4 [.d<|.int a,.d<|.int b]=ž (.d<|.int (if b < a then b else a)):=rfl
def yp{a:Int}(h:a.natAbs.log2 < 1000000)(h2:b.natAbs.log2 < 1000000):tM (.d<|.int a) (.d<|.int b)=ž (.d<|.int<|a * b):=vL (c:=B5) ⟨h,h2⟩
def zAE{g:α->D}{b:α->Bool}{e:α->D}{Q:Qa D×En->Prop}(hz:as.length<=Ĕ)
  (st:∀a∈as,∀ys,Wo (mg (g a) ρ)<|Co mt ⟨0⟩<|AA nt me ys λaj zs=>aj=ρ/\zs=if b a=ż then ys++[e a]else ys) (q:Q ((as.filter b).map e,ρ)):Wo (jM nt mg mt me (as.map g) ρ []) Q:=by
 refine Lx (λi aj ys=>aj=ρ/\ys=((as.take i).filter b).map e) (by rw[ē];exact hz) (λi aj ys h=>?_) ⟨rfl,rfl⟩ (λi d aj ys hd h=>?_) λaj ys h=>?_
 .rw[h.2,ē]
  exact qx (Ĉ _ _) (by rw[ţ];exact Nat.min_le_left _ _)
 .have(rfl,rfl):=h
  rw[ĝ]at hd;have(a,ha,rfl):=qq.mp hd;have:=st a (Ì ha) (((as.take i).filter b).map e);have en:((as.take<|i+1).filter b).map e=if b a=ż then((as.take i).filter b).map e++[e a]else((as.take i).filter b).map e:=by
   rw[List.take_succ,ha,a5M,ğ];show _++(([a]:Qa α).filter b).map e=_;rw[ξ];split<;>simp
  rw[en];exact this
 .have(rfl,rfl):=h
  rw[ē,ŧ<|qe _];exact q
end
end Internal
namespace Internal
open PySem
noncomputable def pP(n d:Int):Int:=(if d < 0 then -n else n) / (ō n d:Nat)
noncomputable def om(n d:Int):Int:=(if d < 0 then -d else d) / (ō n d:Nat)
def zqO{n d:Int}(hd:d≠0):pP n d * d=n * om n d/\1<=om n d/\ō (pP n d) (om n d)=1/\om n d<=d.natAbs/\(pP n d).natAbs<=n.natAbs:=by
 have hg:0 < ō n d:=a3t n hd;have(u,hu):=Int.gcd_dvd_left n d;have(v,hv):=Int.gcd_dvd_right n d;have TN:(0:Int) < (ō n d:Nat):=Int.natCast_pos.mpr hg;have hc:ō (n / (ō n d:Nat)) (d / (ō n d:Nat))=1:=Int.gcd_ediv_gcd_ediv_gcd hg;unfold pP om;generalize (ō n d:Nat)=g at *;have EH:(g:Int)≠0:=by omega
 have eu:n / (g:Int)=u:=by rw[hu];exact ü u EH
 have ev:d / (g:Int)=v:=by rw[hv];exact ü v EH
 have Ue:(-n) / (g:Int)=-u:=by rw[hu,<-a0V];exact ü (-u) EH
 have uZ:(-d) / (g:Int)=-v:=by rw[hv,<-a0V];exact ü (-v) EH
 rw[eu,ev]at hc;have g1:1<=g:=hg;have an:n.natAbs=g * u.natAbs:=by rw[hu,ϝ];rfl
 have ad:d.natAbs=g * v.natAbs:=by rw[hv,ϝ];rfl
 have lu:u.natAbs<=n.natAbs:=by rw[an];exact a4J _ hg
 have lv:v.natAbs<=d.natAbs:=by rw[ad];exact a4J _ hg
 by_cases c:d < 0
 .rw[a6P c,a6P c,Ue,uZ]
  have hv0:v < 0:=by
   rcases(by omega:v < 0\/0<=v)with z|z
   .exact z
   .have:=a1M (ε TN) z
    omega
  refine⟨?_,by omega,?_,by omega,by omega⟩
  .rw[hu,hv]
   simp only[Int.neg_mul,a0V,Int.neg_inj]
   ac_rfl
  .rw[a5v,Int.gcd_neg]
   exact hc
 .rw[a6Q c,a6Q c,eu,ev]
  have hv0:0 < v:=by
   rcases(by omega:0 < v\/v<=0)with z|z
   .exact z
   .have:=a1M (ε TN) (show 0<=-v by omega)
    rw[a0V,<-hv]at this;omega
  refine⟨?_,by omega,hc,by omega,by omega⟩;rw[hu,hv]
  ac_rfl
def ZI{n d N D:Int}(hd:d≠0)(h1:1<=D)(hc:ō N D=1)(he:N * d=n * D):N=pP n d/\D=om n d:=by
 have(e,y1,c,_,_):=zqO (n:=n) hd;generalize pP n d=x at *;generalize om n d=y at *;have k:N * y=x * D:=by
  have z:(N * y) * d=(x * D) * d:=by grind
  exact Ď hd z
 have d1:D∣y:=by
  have t:D∣N * y:=⟨x,by rw[k];ac_rfl⟩;have u:=Ċ.mpr t;rw[a4M,hc]at u;simpa using u
 have d2:y∣D:=by
  have t:y∣x * D:=⟨N,by rw[<-k];ac_rfl⟩;have u:=Ċ.mpr t;rw[a4M,c]at u;simpa using u
 have l1:=Int.le_of_dvd (by omega) d1;have l2:=Int.le_of_dvd (by omega) d2;have e2:D=y:=by omega
 refine⟨?_,e2⟩;rw[e2]at k;exact Ď (by omega) k
def Pg(n d:Int){g:Int}(hg:0 < g):n.fdiv (if d < 0 then 0 - g else g)=(if d < 0 then -n else n) / g:=by
 split
 .rw[Int.zero_sub,<-a0C _ (ε hg)]
  have:=Int.neg_fdiv_neg (-n) g;rw[Int.neg_neg]at this;exact this
 .rw[a0C _<|ε hg]
def ZH(x y:Int):ō (if x < 0 then -x else x) (if y < 0 then -y else y)=ō x y:=by
 rw[Yl];split
 .exact Int.gcd_neg
 .rfl
def Xx{n d:Int}(hd:d≠0):pP n d=(Ń n d).num/\om n d=((Ń n d).den:Int):=by
 have h:=ZI (n:=n) (d:=d) (N:=(Ń n d).num) (D:=((Ń n d).den:Int)) hd (by have:=(Ń n d).den_pos;omega) (by
  have:=(Ń n d).reduced;exact this) (by
  have e:Ń (Ń n d).num ((Ń n d).den:Int)=Ń n d:=a2p _;rw[Rat.divInt_eq_divInt_iff (by have:=(Ń n d).den_pos;omega) hd]at e;rw[e])
 exact⟨h.1.symm,h.2.symm⟩
noncomputable def fR(r:Rat):D:=.tuple [.int r.num,.int (r.den:Int)]
def zAF{n d:Int}(hd:d≠0):į [.int<|pP n d,.int<|om n d]=fR (Ń n d):=by
 have(e1,e2):=Xx (n:=n) hd;rw[e1,e2];rfl
def vD(r:Rat):1<=(r.den:Int):=by have:=r.den_pos;omega
def cop(r:Rat):ō r.num (r.den:Int)=1:=by
 have:=r.reduced;exact this
def Xw(a b:Rat):Ń (a.num * b.den+b.num * a.den) ((a.den:Int) * b.den)=a+b:=by
 rw[Rat.add_def',<-a6F,a3s]
def Xv(a b:Rat):Ń (a.num * b.num) ((a.den:Int) * b.den)=a * b:=by
 rw[Rat.mul_def',<-a6F,a3s]
def ZG(r:Rat):r * (r.den:Rat)=(r.num:Rat):=by
 have e:(r.num:Rat) / ((r.den:Int):Rat)=r:=by rw[<-a6g];exact a2p r
 have n:((r.den:Int):Rat)≠0:=λh=>by
  have:=Rat.intCast_inj.mp (show((r.den:Int):Rat)=((0:Int):Rat) from h);have:=r.den_pos;omega
 have:=Rat.div_mul_cancel (a:=(r.num:Rat)) n;rw[e]at this;exact this
def Bd(M B:Nat)(r:Rat):Prop:=∃k:Int,r * (M:Rat)=(k:Rat)/\k.natAbs<=B
section
variable{M N C:Nat}{r s:Rat}
def Bd.le(h:Bd M B r)(c:B<=C):Bd M C r:=let ⟨k,e,b⟩:=h;⟨k,e,qx b c⟩
def Bd.size(hM:0 < M)(h:Bd M B r):r.den<=M/\r.num.natAbs<=B:=by
 have(k,e,b):=h;have e2:r.num * (M:Int)=k * (r.den:Int):=by
  have h1:=ZG r;have h2:((r.num * (M:Int):Int):Rat)=((k * (r.den:Int):Int):Rat):=by
   rw[Ι,Ι,<-h1,<-e,a0o,a0o,a4f,a4f,Rat.mul_comm (r.den:Rat)]
  exact Rat.intCast_inj.mp h2
 have dv:(r.den:Int)∣(M:Int):=by
  have t:(r.den:Int)∣r.num * (M:Int):=⟨k,by rw[e2,Int.mul_comm]⟩;have u:=Ċ.mpr t;rw[a4M,cop]at u;simpa using u
 have(c,hc):=dv;have dp:(0:Int) < r.den:=by have:=r.den_pos;omega
 have c0:0 < c:=by
  rcases(by omega:0 < c\/c<=0)with z|z
  .exact z
  .have:=a1M (ε dp) (show 0<=-c by omega)
   rw[a0V,<-hc]at this;omega
 have ek:k=r.num * c:=by
  rw[hc]at e2;have:k * (r.den:Int)=(r.num * c) * (r.den:Int):=by rw[<-e2];ac_rfl
  exact Ď (by omega) this
 constructor
 .have:(r.den:Int) * 1<=(r.den:Int) * c:=Int.mul_le_mul_of_nonneg_left (by omega) (by omega)
  omega
 .rw[ek,ϝ]at b
  exact qx (Nat.le_mul_of_pos_right _ (by omega)) b
def Bd.add(h:Bd M B r)(h':Bd M C s):Bd M (B+C) (r+s):=by
 have(k,e,b):=h;have(l,f,c):=h';exact⟨k+l,by rw[Rat.add_mul,e,f,Rat.intCast_add],qx (Int.natAbs_add_le _ _)<|Nat.add_le_add b c⟩
def Bd.mul(h:Bd M B r)(h':Bd N C s):Bd (M * N) (B * C) (r * s):=by
 have(k,e,b):=h;have(l,f,c):=h';refine⟨k * l,?_,by rw[ϝ];exact ð b c⟩;rw[Ι,<-e,<-f,Rat.natCast_mul];grind
def Bd.neg(h:Bd M B r):Bd M B (-r):=by
 have(k,e,b):=h;exact⟨-k,by rw[a5m,e,Rat.intCast_neg],by rw[Int.natAbs_neg];exact b⟩
def Bd.zero:Bd M B 0:=⟨0,by rw[ϡ];rfl,À _⟩
def Bd.wide(h:Bd M B r)(c:Nat):Bd (M * c) (B * c) r:=by
 have(k,e,b):=h;refine⟨k * c,?_,by rw[ϝ,Ţ];exact Ê _ b⟩;rw[Ι,<-e,Rat.natCast_mul,a0o,a4f]
def Bd.one:Bd 1 1 1:=⟨1,by rw[ϳ];rfl,qe _⟩
end
abbrev Pq(α:Type):=Qa (Qa Int×α)
section
noncomputable def look(p:Pq α)(k:Qa Int):Qb α:=(p.find? λt=>decide<|t.1=k).map (·.2)
noncomputable def eM(p:Pq α)(k:Qa Int)(x:α):Pq α:=if(p.any λt=>decide<|t.1=k)=ż then p.map (λt=>if t.1=k then(t.1,x)else t)else p++[(k,x)]
def cT(p:Pq α):Prop:=(p.map (·.1)).Nodup
def HK{p:Pq α}{k:Qa Int}:look p k=Ž↔(p.any λt=>decide<|t.1=k)=Ż:=by
 induction p with
 |nil=>simp[look]
 |cons t p ih=>
  unfold look at ih ⊢;rw[Į,ŵ]
  by_cases h:t.1=k
  .simp[h]
  .rw[a6S h,a2e]
   exact ih
def ZF{p:Pq α}{k:Qa Int}:(look p k).isSome=(p.any λt=>decide<|t.1=k):=by
 cases h:look p k with
 |none=>rw[HK.mp h];rfl
 |some x=>
  cases z:(p.any λt=>decide<|t.1=k)with
  |true=>rfl
  |false=>rw[HK.mpr z]at h;cases h
def ZE(p:Pq α)(k:Qa Int)(x:α):(eM p k x).map (·.1)=if(p.any λt=>decide<|t.1=k)=ż then p.map (·.1)else p.map (·.1)++[k]:=by
 unfold eM;split
 .rw[ĳ]
  refine É λt _=>?_;show(if t.1=k then(t.1,x)else t).1=t.1;split<;>rfl
 .rw[ğ]
  rfl
def Nb{p:Pq α}{k:Qa Int}{x:α}{t:Qa Int×α}(h:t∈eM p k x):(t∈p/\t.1≠k)\/t=(k,x):=by
 unfold eM at h;split at h
 .have(u,hu,rfl):=Ã.mp h
  by_cases c:u.1=k
  .rw[a6P c];exact .inr (by rw[c])
  .rw[a6Q c];exact .inl ⟨hu,c⟩
 .rename_i hn
  rcases Â.mp h with z|z
  .exact .inl ⟨z,λe=>hn<|î.mpr ⟨t,z,a6R e⟩⟩
  .exact .inr (qp.mp z)
def cT.put{p:Pq α}(h:cT p)(k:Qa Int)(x:α):cT (eM p k x):=by
 unfold cT;rw[ZE];split
 .exact h
 .rename_i hn
  refine List.nodup_append.mpr ⟨h,by simp,λa ha b hb=>?_⟩;have:b=k:=by simpa using hb
  rw[this];have(t,ht,rfl):=Ã.mp ha;exact λe=>hn<|î.mpr ⟨t,ht,a6R e⟩
def Na(p:Pq α)(k:Qa Int)(x:α):(eM p k x).length<=p.length+1:=by
 unfold eM;split
 .rw[ē];omega
 .rw[qr];exact qe _
def d9[Add α][Zero α](acc:Pq α)(ts:Pq α):Pq α:=ts.foldl (λa t=>eM a t.1<|(look a t.1).getD 0+t.2) acc
end
section
variable[Add α][Zero α]
def Ct(ts:Pq α):∀{acc:Pq α},cT acc->cT (d9 acc ts):=by
 induction ts with
 |nil=>exact λh=>h
 |cons t ts ih=>exact λh=>ih<|h.put _ _
def yD(ts:Pq α):∀(acc:Pq α),(d9 acc ts).length<=acc.length+ts.length:=by
 induction ts with
 |nil=>intro acc;exact qe _
 |cons t ts ih=>
  intro acc;have h1:=ih (eM acc t.1<|(look acc t.1).getD 0+t.2);have h2:=Na acc t.1 ((look acc t.1).getD 0+t.2);rw[qt];show(d9 (eM acc t.1<|(look acc t.1).getD 0+t.2) ts).length<=_;omega
def Pf(acc ts:Pq α)(t:Qa Int×α):d9 acc (ts++[t])=eM (d9 acc ts) t.1 ((look (d9 acc ts) t.1).getD 0+t.2):=by
 unfold d9;rw[List.foldl_append];rfl
def Pe{Pk:Qa Int->Prop}(ts:Pq α):∀{acc:Pq α},(∀t∈acc,Pk t.1)->(∀t∈ts,Pk t.1)->∀t∈d9 acc ts,Pk t.1:=by
 induction ts with
 |nil=>exact λh _=>h
 |cons t ts ih=>
  intro acc h1 h2;refine ih (acc:=eM acc t.1 _) (λu hu=>?_) λu hu=>h2 u<|qm _ hu;rcases Nb hu with⟨z,_⟩|rfl
  .exact h1 u z
  .exact h2 t qo
end
def ZD{p:Pq α}{k:Qa Int}{x:α}(h:look p k=ž x):(k,x)∈p:=by
 unfold look at h;have(t,ht,rfl):=qq.mp h;have h1:=a3O ht;have h2:t.1=k:=by simpa using a6M ht
 rw[<-h2];exact h1
def si{p:Pq α}(nd:cT p){t:Qa Int×α}(h:t∈p):look p t.1=ž t.2:=by
 induction p with
 |nil=>cases h
 |cons u p ih=>
  have sR:u.1∉p.map (·.1)/\cT p:=ā.mp nd;unfold look at ih ⊢;rw[Į];rcases qu.mp h with rfl|h
  .rw[a6R rfl];rfl
  .rw[a6S λe=>sR.1<|List.mem_map.mpr ⟨t,h,e.symm⟩]
   exact ih sR.2 h
noncomputable def aJ(p:Pq Rat)(g:Qa Int->Rat):Rat:=(p.map λt=>t.2 * g t.1).sum
def eQ(g:Qa Int->Rat):aJ [] g=0:=rfl
def zC(t:Qa Int×Rat)(p:Pq Rat)(g:Qa Int->Rat):aJ (t::p) g=t.2 * g t.1+aJ p g:=rfl
def yC(p q:Pq Rat)(g:Qa Int->Rat):aJ (p++q) g=aJ p g+aJ q g:=by
 induction p with
 |nil=>rw[a1p,eQ,a1l]
 |cons t p ih=>rw[a1b,zC,zC,ih,a2g]
def Pd{p q:Pq Rat}(h:p.Perm q)(g:Qa Int->Rat):aJ p g=aJ q g:=by
 induction h with
 |nil=>rfl
 |cons t _ ih=>rw[zC,zC,ih]
 |swap t u p=>rw[zC,zC,zC,zC];grind
 |trans _ _ i1 i2=>exact i1.trans i2
def Cs(p:Pq Rat)(g:Qa Int->Rat):aJ (p.filter λt=>decide<|t.2≠0) g=aJ p g:=by
 induction p with
 |nil=>rfl
 |cons t p ih=>
  rw[ξ]
  by_cases h:t.2=0
  .rw[a6Q (by simp[h]),zC,h,ih];grind
  .rw[a6P (by simp[h]),zC,zC,ih]
def ZC{p:Pq Rat}(nd:cT p){k:Qa Int}{x:Rat}(h:look p k=ž x)(y:Rat)(g:Qa Int->Rat):aJ (p.map λt=>if t.1=k then(t.1,x+y)else t) g=aJ p g+y * g k:=by
 induction p with
 |nil=>cases h
 |cons t p ih=>
  have sR:t.1∉p.map (·.1)/\cT p:=ā.mp nd;rw[ę,zC,zC]
  by_cases c:t.1=k
  .have e:p.map (λt=>if t.1=k then(t.1,x+y)else t)=p:=by
    have:∀u∈p,(λt:Qa Int×Rat=>if t.1=k then(t.1,x+y)else t) u=id u:=λu hu=>a6Q λz=>sR.1<|Ã.mpr ⟨u,hu,z.trans c.symm⟩;rw[a1U this,a4Y]
   have ex:t.2=x:=by
    unfold look at h;rw[Į,a6R c]at h;exact qw h
   rw[e,a6P c,ex,c];grind
  .have h':look p k=ž x:=by
    unfold look at h ⊢;rw[Į,a6S c]at h;exact h
   rw[a6Q c,ih sR.2 h'];grind
def Xu{p:Pq Rat}(nd:cT p)(k:Qa Int)(y:Rat)(g:Qa Int->Rat):aJ (eM p k<|(look p k).getD 0+y) g=aJ p g+y * g k:=by
 unfold eM;cases h:look p k with
 |none=>
  rw[a6Q (by rw[HK.mp h];exact qf),yC,zC,eQ,a2u];grind
 |some x=>
  rw[a6P (by rw[<-ZF,h];rfl),a2t];exact ZC nd h y g
def CV(ts:Pq Rat)(g:Qa Int->Rat):∀{acc:Pq Rat},cT acc->aJ (d9 acc ts) g=aJ acc g+aJ ts g:=by
 induction ts with
 |nil=>intro acc _;rw[eQ,ů];rfl
 |cons t ts ih=>
  intro acc nd;show aJ (d9 (eM acc t.1 _) ts) g=_;rw[ih<|nd.put _ _,Xu nd,zC,a2g]
def w5(a b:Qa Int×α):Prop:=c9 a.1 b.1=ż
def ins(x:Qa Int×α):Pq α->Pq α
 |[]=>[x]
 |y::l=>if c9 x.1 y.1=ż then x::y::l else y::ins x l
def wY:Pq α->Pq α
 |[]=>[]
 |x::l=>ins x<|wY l
def Hr(x:Qa Int×α):∀l:Pq α,(ins x l).Perm<|x::l
 |[]=>.refl _
 |y::l=>by
  unfold ins;split
  .exact .refl _
  .exact((Hr x l).cons y).trans (List.Perm.swap x y l)
def sI:∀l:Pq α,(wY l).Perm l
 |[]=>.refl _
 |x::l=>(Hr x<|wY l).trans<|(sI l).cons x
def Pc(x:Qa Int×α):∀{l:Pq α},l.Pairwise w5->(∀y∈l,x.1≠y.1)->(ins x l).Pairwise w5
 |[],_,_=>by unfold ins;simp
 |y::l,h,ne=>by
  have(h1,h2):=Ï.mp h;unfold ins;split
  .rename_i c
   refine Ï.mpr ⟨λw hw=>?_,h⟩;rcases qu.mp hw with rfl|hw
   .exact c
   .exact wM c (h1 w hw)
  .rename_i c
   refine Ï.mpr ⟨λw hw=>?_,Pc x h2 λw hw=>ne w<|qm _ hw⟩;rcases qu.mp ((Hr x l).mem_iff.mp hw)with rfl|hw
   .exact(wL<|ne y qo).resolve_left c
   .exact h1 w hw
def Hq:∀{l:Pq α},cT l->(wY l).Pairwise w5
 |[],_=>.nil
 |x::l,nd=>by
  have sR:x.1∉l.map (·.1)/\cT l:=ā.mp nd;exact Pc x (Hq sR.2) λy hy e=>sR.1<|Ã.mpr ⟨y,(sI l).mem_iff.mp hy,e.symm⟩
structure Nf (p:Pq Rat):Prop where
 st:p.Pairwise w5
 nz:∀t∈p,t.2≠0
def GO{p:Pq Rat}{k:Qa Int}(h:∀t∈p,t.1≠k):aJ p (λe=>if e=k then 1 else 0)=0:=by
 induction p with
 |nil=>rfl
 |cons t p ih=>
  rw[zC,ih λu hu=>h u<|qm _ hu,a6Q<|h t qo];grind
def sS{a b:Qa Int×α}(h:w5 a b):a.1≠b.1:=λe=>by
 unfold w5 at h;rw[e,ub]at h;cases h
def Nf.tail{t:Qa Int×Rat}{p:Pq Rat}(h:Nf (t::p)):Nf p:=⟨(Ï.mp h.st).2,λu hu=>h.nz u<|qm _ hu⟩
def Nf.ic{t:Qa Int×Rat}{p:Pq Rat}(h:Nf (t::p)):aJ (t::p) (λe=>if e=t.1 then 1 else 0)=t.2:=by
 rw[zC,GO λu hu e=>sS ((List.pairwise_cons.mp h.st).1 u hu) e.symm,a6P rfl];grind
def M9:∀{p q:Pq Rat},Nf p->Nf q->(∀g,aJ p g=aJ q g)->p=q
 |[],[],_,_,_=>rfl
 |[],t::q,_,hq,h=>by
  have:=h λe=>if e=t.1 then 1 else 0;rw[hq.ic,eQ]at this;exact absurd this.symm<|hq.nz t qo
 |t::p,[],hp,_,h=>by
  have:=h λe=>if e=t.1 then 1 else 0;rw[hp.ic,eQ]at this;exact absurd this<|hp.nz t qo
 |t::p,u::q,hp,hq,h=>by
  have key:t.1=u.1:=by
   by_cases c:t.1=u.1
   .exact c
   .exfalso
    rcases wL c with z|z
    .have:=h λe=>if e=t.1 then 1 else 0
     rw[hp.ic,GO]at this
     .exact hp.nz t qo this
     .intro w hw e
      rcases qu.mp hw with rfl|hw
      .exact c e.symm
      .have:=wM z ((Ï.mp hq.st).1 w hw)
       rw[e,ub]at this;cases this
    .have:=h λe=>if e=u.1 then 1 else 0
     rw[hq.ic,GO]at this
     .exact hq.nz u qo this.symm
     .intro w hw e
      rcases qu.mp hw with rfl|hw
      .exact c e
      .have:=wM z ((Ï.mp hp.st).1 w hw)
       rw[e,ub]at this;cases this
  have val:t.2=u.2:=by
   have:=h λe=>if e=t.1 then 1 else 0;rw[hp.ic,key,hq.ic]at this;exact this
  have tl:∀g,aJ p g=aJ q g:=λg=>by
   have:=h g;rw[zC,zC,key,val]at this;grind
  rw[M9 hp.tail hq.tail tl,Prod.ext key val]
noncomputable def nz(p:Pq Rat):Pq Rat:=p.filter λt=>decide<|t.2≠0
def LH{p:Pq Rat}(h:cT p):cT (nz p):=h.sublist (List.filter_sublist.map _)
def pC:cT ([]:Pq Rat):=a1B
def PB(M B:Nat)(p:Pq Rat):Prop:=∀t∈p,Bd M B t.2
def Hb{M:Nat}{p:Pq Rat}(h:PB M B p)(k:Qa Int):Bd M B ((look p k).getD 0):=by
 cases e:look p k with
 |none=>exact Bd.zero
 |some x=>exact h _<|ZD e
def CJ{M:Nat}(ts:Pq Rat):∀{C:Nat} {acc:Pq Rat},PB M C acc->PB M B ts->PB M (C+ts.length * B) (d9 acc ts):=by
 induction ts with
 |nil=>intro C acc h _ t ht;exact(h t ht).le (by rw[ũ];omega)
 |cons t ts ih=>
  intro C acc h h' u hu;have hp:PB M (C+B) (eM acc t.1<|(look acc t.1).getD 0+t.2):=λv hv=>by
   rcases Nb hv with⟨z,_⟩|rfl
   .exact(h v z).le (by omega)
   .exact(Hb h _).add (h' t qo)
  exact(ih hp (λv hv=>h' v<|qm _ hv) u hu).le (by rw[qt,Ο];omega)
def S8{M:Nat}:PB M B []:=λt ht=>by cases ht
noncomputable def aT(a b:Qa Int):Qa Int:=List.zipWith (·+·) a b
def dz[Mul α](p q:Pq α):Pq α:=p.flatMap λs=>q.map λt=>(aT s.1 t.1,s.2 * t.2)
def ZA(s:Qa Int×Rat)(q:Pq Rat)(g:Qa Int->Rat):aJ (q.map λt=>(aT s.1 t.1,s.2 * t.2)) g=s.2 * aJ q λb=>g (aT s.1 b):=by
 induction q with
 |nil=>rw[Ů,eQ,eQ,a2B]
 |cons t q ih=>rw[ę,zC,zC,ih];grind
def yM(p q:Pq Rat)(g:Qa Int->Rat):aJ (dz p q) g=aJ p λa=>aJ q λb=>g (aT a b):=by
 induction p with
 |nil=>rfl
 |cons s p ih=>
  show aJ (_++dz p q) g=_;rw[yC,ZA,ih,zC]
def oY{p:Pq Rat}{h:Qa Int->Rat}(e:∀t∈p,g t.1=h t.1):aJ p g=aJ p h:=by
 induction p with
 |nil=>rfl
 |cons t p ih=>rw[zC,zC,e t qo,ih λu hu=>e u<|qm _ hu]
def zqQ(p:Pq Rat)(g:Qa Int->Rat)(c:Rat):(aJ p λe=>c * g e)=c * aJ p g:=by
 induction p with
 |nil=>rw[eQ,eQ,a2B]
 |cons t p ih=>rw[zC,zC,ih];grind
def Du[Mul α](p q:Pq α):(dz p q).length=p.length * q.length:=by
 induction p with
 |nil=>simp[dz]
 |cons s p ih=>
  show(_++dz p q).length=_;rw[qr,ih,ē,qt,Ο,a0S,a2K]
def CU[Mul α]{p q:Pq α}{t:Qa Int×α}(h:t∈dz p q):∃u∈p,∃v∈q,t=(aT u.1 v.1,u.2 * v.2):=by
 have(u,hu,h):=ý.mp h;have(v,hv,rfl):=Ã.mp h;exact⟨u,hu,v,hv,rfl⟩
def Xt{M N C:Nat}{p q:Pq Rat}(h:PB M B p)(h':PB N C q):PB (M * N) (B * C) (dz p q):=λt ht=>by
 have(u,hu,v,hv,rfl):=CU ht;exact(h u hu).mul<|h' v hv
noncomputable def iv(m:Nat)(r:Rat):Int:=r.num * ((m:Int) / (r.den:Int))
noncomputable def bJ(ks:Qa Int):D:=.tuple (ks.map ľ)
noncomputable abbrev kL(ks:Qa Int):Qa Key:=ks.map a0c
section
variable{c:α->D}
def bg(c:α->D)(p:Pq α):Qa (Qa Key×D):=p.map λt=>(kL t.1,c t.2)
def cB(c:α->D)(p:Pq α):Qa (D×D):=p.map λt=>(bJ t.1,c t.2)
def D2(c:α->D)(p:Pq α):Qa D:=p.map λt=>.tuple [bJ t.1,c t.2]
def wc{a b:Qa Int}:kL a=kL b↔a=b:=Yh
def Me(k:Qa Int):jN (kL k)=bJ k:=by
 unfold jN bJ kL;rw[ĳ];rfl
def ud(k:Qa Int):dR (bJ k)=ž (kL k):=by rw[<-Me,Dr]
def N7(p:Pq α):(bg c p).map (λp=>(jN p.1,p.2))=cB c p:=by
 unfold bg cB;rw[ĳ];refine É λt _=>?_;show(jN<|kL t.1,c t.2)=_;rw[Me]
def uc{p:Pq α}:U.fz (.t<|bg c p)=ž (.dict<|cB c p):=by
 show ž (a4n _)=_;rw[N7]
def yo(p:Pq α):ko (cB c p)=ż:=by
 cases p with
 |nil=>rfl
 |cons t p=>rfl
def Xs(p:Pq α)(k:Qa Int):tH (bg c p) (kL k)=(look p k).map c:=by
 unfold tH bg look
 induction p with
 |nil=>rfl
 |cons t p ih=>
  rw[ę,Į,Į]
  by_cases h:t.1=k
  .rw[a6R h,a6R<|wc.mpr h];rfl
  .rw[a6S h,a6S λz=>h<|wc.mp z];exact ih
def Zz(p:Pq α)(k:Qa Int):vM (cB c p) (kL k)=(look p k).map c:=by
 unfold vM cB look
 induction p with
 |nil=>rfl
 |cons t p ih=>
  rw[ę,Į,Į]
  by_cases h:t.1=k
  .rw[a6R h,a6R (show dR (bJ t.1)=ž (kL k) by rw[ud,h])];rfl
  .rw[a6S h,a6S (show ¬dR (bJ t.1)=ž (kL k) by rw[ud];exact λz=>h<|wc.mp<|qw z)];exact ih
def Hy{p:Pq α}{k:Qa Int}:kN (.t<|bg c p) (.d<|bJ k)=ž ((look p k).map c):=by
 show(dR<|bJ k).map _=_;rw[ud,a0e,Xs]
def zpi{p:Pq α}{k:Qa Int}:kN (.d<|.dict<|cB c p) (.d<|bJ k)=ž ((look p k).map c):=by
 show(if ko (cB c p)=ż then _ else _)=_;rw[a6P<|yo p];show(dR<|bJ k).map _=_;rw[ud,a0e,Zz]
def Zy{p:Pq α}:ko (cB c p)=ż:=yo p
def ztA{p:Pq α}:(cB c p).map (λx=>x.1)=p.map λt=>bJ t.1:=by
 unfold cB;rw[ĳ];rfl
def zl6{k:Qa Int}:dR (bJ k)=ž (kL k):=ud k
def zAG(p:Pq α)(k:Qa Int)(x:α):mD (bg c p) (kL k) (c x)=bg c (eM p k x):=by
 have any:((bg c p).any λkv=>decide<|kv.1=kL k)=(p.any λt=>decide<|t.1=k):=by
  unfold bg;rw[List.any_map];congr 1
  funext t
  exact decide_eq_decide.mpr wc
 unfold mD eM;rw[any];split
 .unfold bg
  rw[ĳ,ĳ];refine É λt _=>?_;show(if kL t.1=kL k then _ else _)=(λt:Qa Int×α=>(kL t.1,c t.2)) (if t.1=k then(t.1,x)else t)
  by_cases h:t.1=k
  .rw[a6P<|wc.mpr h,a6P h]
  .rw[a6Q λz=>h<|wc.mp z,a6Q h]
 .unfold bg
  rw[ğ];rfl
def Mr(p:Pq α):(bg c p).length=p.length:=ē ..
def tE{p:Pq α}{k:Qa Int}{x:α}(h:p.length < 16777216):FZ (.t<|bg c p) (bJ k) (c x)=ž (.t<|bg c<|eM p k x):=by
 show(dR<|bJ k).bind _=_;rw[ud,bd,a6P (by rw[Mr];exact h),zAG]
def zjC{p:Pq α}:wd (.d<|.dict<|cB c p)=ž (D2 c p):=by
 show(if ko (cB c p)=ż then _ else _)=_;rw[a6P<|yo p];unfold cB D2;rw[ĳ];rfl
def Ho:∀p:Pq α,tN (cB c p)=ž (bg c p)
 |[]=>rfl
 |t::p=>by
  show(dR<|bJ t.1).bind _=_;rw[ud,bd];show(tN<|cB c p).bind _=_;rw[Ho p,bd];rfl
def Pb(p:Pq α):(bg c p).map (·.1)=(p.map (·.1)).map kL:=by
 unfold bg;rw[ĳ,ĳ];rfl
def yf(p:Pq α):Prop:=tV ((p.map (·.1)).map kL)=ż
def zCQ{p:Pq α}(h:yf p):wD (.d<|.dict<|cB c p)=ž (.t<|bg c p):=by
 show(if ko (cB c p)=ż then _ else _)=_;rw[a6P<|yo p,Ho,bd,a6P (by rw[Pb];exact h)]
def LG{p:Pq α}(h:yf p):wD (.t<|bg c p)=ž (.t<|bg c p):=by
 show(if _ then _ else _)=_;rw[a6P (by rw[Pb];exact h)]
end
def Xk{r:Rat}:aS (.d<|fR r) (.d<|.int 0)=ž (.d<|.int r.num):=rfl
def Xj{r:Rat}:aS (.d<|fR r) (.d<|.int 1)=ž (.d<|.int (r.den:Int)):=rfl
def Mq(r:Rat):(!decide (r.num=0))=decide (r≠0):=by
 rw[Ş,a0N,decide_eq_false_iff_not,decide_eq_true_iff];exact not_congr a3p
def Pa{f:α->D}{g:β->D}:∀(as:Qa α) (bs:Qa β),tF (as.map f) (bs.map g)=(as.zip bs).map λt=>.tuple [f t.1,g t.2]
 |[],bs=>by cases bs<;>rfl
 |a::as,[]=>rfl
 |a::as,b::bs=>by rw[ę,ę,a0u,ę,<-Pa as bs];rfl
def Hx{f:α->D}{ks:Qa Int}(h:as.length=ks.length):xJ [.d<|.tuple<|as.map f,.d<|bJ ks]=ž ((as.zip ks).map λt=>.tuple [f t.1,.int t.2]):=by
 show(if _ then _ else _)=_;rw[a6P (by rw[ē,ē];exact h),Pa]
def P6{as ks:Qa Int}(h:as.length=ks.length):xJ [.d<|bJ as,.d<|bJ ks]=ž ((as.zip ks).map λt=>.tuple [.int t.1,.int t.2]):=Hx (f:=ľ) h
def yn{g:α->D}{e:α->D}{mg:MG}{mt:MT}{me:ME}{ρ:En}{Q:Qa D×En->Prop}(hz:as.length<=16777216)
  (st:∀a∈as,∀ys,Wo (mg (g a) ρ)<|Co mt ⟨0⟩<|AA nt me ys λaj zs=>aj=ρ/\zs=ys++[e a]) (q:Q (as.map e,ρ)):Wo (jM nt mg mt me (as.map g) ρ []) Q:=by
 refine zAE (b:=λ_=>ż) (e:=e) (by rw[xS];exact hz) (λa ha ys=>?_) ?_
 .simp only[if_true]
  exact st a ha ys
 .rw[show as.filter (λ_=>ż)=as from List.filter_eq_self.mpr λ_ _=>rfl]
  exact q
def PY(r:Rat):ϐ (fR r)=ż:=by
 unfold ϐ fR;simp[a1t,Ξ,a0f,a1e]
def zAH(a b:Rat):a0p (fR a) (fR b)=decide (a=b):=by
 unfold fR;simp only[a0p,PyData.eqvAll];rw[Ş,decide_eq_true_iff];constructor
 .intro h
  simp only[Ĵ,beq_iff_eq]at h;exact Rat.ext h.1 (by omega)
 .rintro rfl
  simp
def Ha{a b:Rat}{neg:Bool}:oz neg (.d<|fR a) (.d<|fR b)=ž (.d<|.bool (if neg=ż then !decide (a=b)else decide (a=b))):=by
 show(ž<|fR a).bind _=_;rw[bd];show(ž<|fR b).bind _=_;rw[bd,a6P ⟨PY a,PY b⟩,zAH]
def zAI{r:Rat}(h1:r.num.natAbs < 10^n)(h2:r.den < 10^n)(h0:0 < n:=by decide)(h3:n<=470:=by decide):gY 1 (2 * (n+1+2)+3) (fR r):=by
 refine wF (λd hd=>?_)<|qe _;rcases qu.mp hd with rfl|hd
 .exact wG h1 h0 h3
 .rw[qp.mp hd]
  exact wG (by rw[Ţ];exact h2) h0 h3
def Z9{o:Qb Rat}:(Option.map fR o).getD (.tuple [.int 0,.int 1])=fR (o.getD 0):=by cases o<;>rfl
def zqR[Mul α](p q:Pq α)(s:Qa Int×α):dz (p++[s]) q=dz p q++q.map λt=>(aT s.1 t.1,s.2 * t.2):=by
 unfold dz;rw[a1W];simp
def hU(a b:Qa Int):aT a b=aT b a:=by
 unfold aT;rw[List.zipWith_comm];congr 1
 funext x y
 exact Int.add_comm _ _
noncomputable def mon:Qa (Rat×Int)->Rat
 |[]=>1
 |t::l=>t.1^t.2.toNat * mon l
def mono(pt:Qa Rat)(e:Qa Int):Rat:=mon (pt.zip e)
noncomputable def fP(s:Int)(q:Pq Rat):Pq Rat:=q.map λt=>(t.1,(s:Rat) * t.2)
def zAJ{s:Int}(hs:s=1\/s=-1)(r:Rat):į [.int<|s * r.num,.int (r.den:Int)]=fR ((s:Rat) * r):=by
 rcases hs with rfl|rfl
 .rw[Int.one_mul,show((1:Int):Rat)=1 from rfl,ϳ];rfl
 .rw[show((-1:Int):Rat)=-1 from rfl,a5m,ϳ,Int.neg_mul,Int.one_mul];rfl
def Gj{M:Nat}{s:Int}(hs:s=1\/s=-1){q:Pq Rat}(h:PB M B q):PB M B (fP s q):=λt ht=>by
 have(u,hu,rfl):=Ã.mp ht;rcases hs with rfl|rfl
 .show Bd M B (((1:Int):Rat) * u.2)
  rw[show((1:Int):Rat)=1 from rfl,ϳ];exact h u hu
 .show Bd M B (((-1:Int):Rat) * u.2)
  rw[show((-1:Int):Rat)=-1 from rfl,a5m,ϳ];exact(h u hu).neg
def zqS{p:Pq α}{k:Qa Int}{x:α}(h:∀t∈p,t.1≠k):eM p k x=p++[(k,x)]:=by
 unfold eM;rw[a6Q];intro z;have(t,ht,e):=î.mp z;exact h t ht<|a6T e
def Z8{bs cs:Pq α}{t:Qa Int×α}(nd:cT (bs++t::cs)):∀u∈bs,u.1≠t.1:=λu hu e=>by
 unfold cT at nd;rw[ğ,ę]at nd;exact(List.nodup_append.mp nd).2.2 u.1 (Ã.mpr ⟨u,hu,rfl⟩) t.1 qo e
def M8(bs:Pq Rat)(t:Qa Int×Rat):nz (bs++[t])=if t.2=0 then nz bs else nz bs++[t]:=by
 unfold nz;rw[a5M,ξ]
 by_cases h:t.2=0
 .rw[a6P h,a6Q (by simp[h])];simp
 .rw[a6Q h,a6P (by simp[h])];rfl
def Mp{bs cs:Pq Rat}{t:Qa Int×Rat}(nd:cT (bs++t::cs)):eM (nz bs) t.1 t.2=nz bs++[t]:=zqS λu hu=>Z8 nd u (é.mp hu).1
def CI{f:α->β}:∀{l:Qa α},(l.map f).Nodup->∀a∈l,∀b∈l,f a=f b->a=b
 |[],_,a,ha,_,_,_=>by cases ha
 |x::l,nd,a,ha,b,hb,e=>by
  rw[ę,a3d]at nd;rcases qu.mp ha with h1|h1
  .rcases qu.mp hb with h2|h2
   .rw[h1,h2]
   .exact(nd.1<|Ã.mpr ⟨b,h2,by rw[<-e,h1]⟩).elim
  .rcases qu.mp hb with h2|h2
   .exact(nd.1<|Ã.mpr ⟨a,h1,by rw[e,h2]⟩).elim
   .exact CI nd.2 a h1 b h2 e
def zAK{n d:Int}{M:Nat}(hd:0 < d)(h:d∣(M:Int))(h0:0 < M):Bd M (n.natAbs * M) (Ń n d):=by
 have(c,hc):=h;have c0:0 < c:=by
  rcases(by omega:0 < c\/c<=0)with z|z
  .exact z
  .have:=a1M (ε hd) (show 0<=-c by omega)
   rw[a0V,<-hc]at this;omega
 have dr:((d:Int):Rat)≠0:=λz=>by
  have:=Rat.intCast_inj.mp (show((d:Int):Rat)=((0:Int):Rat) from z);omega
 refine⟨n * c,?_,?_⟩
 .have e:(M:Rat)=((d:Int):Rat) * ((c:Int):Rat):=by rw[<-Ι,<-hc,a0o]
  rw[e,a6g,Ι];grind
 .rw[ϝ]
  refine a5K _ ?_;have:1 * c<=d * c:=Int.mul_le_mul_of_nonneg_right (by omega) (by omega);omega
end Internal
namespace Internal
open PySem PySem.Spec PyProof.Rows
open PySem.AutoSeq1 (wpAny_loadPart')
def znz(t:Qg)(items:Array Qc)(n:Nat)(dd:Qb Qg)(sl:Array (Qb Qc))(u:Tok):
  Meets (Builtin.«tuple.__mul__» ⟨[.ref t,.int 1 u],[]⟩) (λ_ R s=>s.heap.get? t=ž {cls:=.type "tuple",dict:=dd,data:=.seq items n,slots:=sl}/\R (.ok<|.ret<|.ref t) s):=
 .of_wp λprog w A R s h=>by
  have(hp,g,d,tk,os):=s;have(hl,h):=h
  wp_walk using wpAny_loadPart' hl
  exact⟨_,rfl,h⟩
def znA(t:Qg)(items:Array Qc)(n:Nat)(dd:Qb Qg)(sl:Array (Qb Qc))(x:Int)(u:Tok)(hf:(decide (x < -2^63) || decide (x>=2^63))=Ż)(h1:(items.isEmpty || x==1)=Ż)(h0:(decide (x<=0) || items.isEmpty)=ż):
  Meets (Builtin.«tuple.__mul__» ⟨[.ref t,.int x u],[]⟩) (λ_ R s=>s.heap.get? t=ž {cls:=.type "tuple",dict:=dd,data:=.seq items n,slots:=sl}/\
   R (.ok<|.ret<|.ref s.heap.objs.size) {s with heap:=s.heap.push {cls:=.type "tuple",data:=.seq #[]}}):=
 .of_wp λprog w A R s h=>by
  have(hp,g,d,tk,os):=s;have(hl,h):=h
  wp_walk using wpAny_loadPart' hl
  refine a4c (by rw[hf];rfl) ?_
  wp_walk using wpAny_loadPart' hl
  exact⟨_,rfl,h⟩
def znB(t:Qg)(items:Array Qc)(n:Nat)(dd:Qb Qg)(sl:Array (Qb Qc))(x:Int)(u:Tok)(hf:(decide (x < -2^63) || decide (x>=2^63))=Ż)(h1:(items.isEmpty || x==1)=Ż)(h0:(decide (x<=0) || items.isEmpty)=Ż)
  (hm:¬((items.size:Int) * x > (2^63 - 1) / 8)) (ht:Builtin.Tuple.tupleTooMany ((items.size:Int) * x)=Ż) (hz:(a2h (λx1 x2=>x1++x2) #[] (Ě x.toNat items)).size<=Ĕ):
  Meets (Builtin.«tuple.__mul__» ⟨[.ref t,.int x u],[]⟩) (λ_ R s=>s.heap.get? t=ž {cls:=.type "tuple",dict:=dd,data:=.seq items n,slots:=sl}/\
   R (.ok<|.ret<|.ref s.heap.objs.size) {s with heap:=s.heap.push {cls:=.type "tuple",data:=.seq (a2h (λx1 x2=>x1++x2) #[] (Ě x.toNat items))}}):=
 .of_wp λprog w A R s h=>by
  have(hp,g,d,tk,os):=s;have(hl,h):=h
  wp_walk using wpAny_loadPart' hl
  refine a4c (by rw[hf];rfl) ?_
  wp_walk using wpAny_loadPart' hl
  refine a4c (a6S hm) ?_
  wp_walk using wpAny_loadPart' hl
  exact⟨_,rfl,h⟩
def zgu:fillsNumberSlot (.type "tuple") "mul"=pure Ż :=
 PySem.fillsNumberSlot_seq (id := "tuple.__mul__") (r:=ž (.builtin "tuple.__rmul__")) F.slot_tuple_mul.lookup (by decide +kernel) F.slot_tuple_rmul.lookup (by decide +kernel)
def zkE:seqRepeat? (.type "tuple")=pure (ž<|.builtin "tuple.__mul__"):=by
 unfold seqRepeat?;rw[a5S (T := "tuple") (name := "__mul__") (id := "tuple.__mul__") F.slot_tuple_mul.lookup (by decide +kernel),a5S (T := "tuple") (name := "__rmul__") (id := "tuple.__rmul__") F.slot_tuple_rmul.lookup (by decide +kernel)];rfl
def zik(a:Int)(t:Tok)(l:Qg)(items:Array Qc)(n:Nat)(dd:Qb Qg)(sl:Array (Qb Qc)):
  Meets (Builtin.«int.__rmul__» ⟨[.int a t,.ref l],[]⟩) (λ_ R s=>s.heap.get? l=ž {cls:=.type "tuple",dict:=dd,data:=.seq items n,slots:=sl}/\R (.ok<|.ret Value.notImplemented) s):=
 .of_wp λprog w A R s h=>by have(hp,g,d,tk,os):=s;have(hl,h):=h;wp_walk;exact⟨_,rfl,h⟩
section
variable{X:Cx}
def LF(K:qc):R2:=λx y H Q=>∃l k xs,x=.ref l/\y=.int k/\bI K H l xs/\xs≠[]/\k < 1000000/\-1000000 < k/\xs.length * k.toNat<=1000000/\
 ((k=1/\Q x H)\/(k≠1/\∀p,H p=Ž->Q (.ref p) (upd H p<|.tup (Ě k.toNat xs).flatten)))
def Xr(K:qc)(hK:X.K=K:=by rfl):bz X (Ŷ .Mult) (LF K):=by
 subst hK;intro pins s σ H x y v u Q I rx ry h;have(l,k,xs,rfl,rfl,hq,rA,hk,hk0,hz,q):=h;cases rx;have(t,rfl):=ry;have(ai,rv,ht,hzz):=I.tuple hq;obtain⟨⟨c,jR,dt,sl⟩,hl,hc,n,hd⟩:=ht;replace hc:c=.type "tuple":=hc;replace hd:dt=.seq ai.toArray n:=hd;subst hc hd;have lv:=rv.length;have Tp:ai.toArray.isEmpty=Ż:=by
  cases ai with
  |nil=>cases rv;exact absurd rfl rA
  |cons a r=>rfl
 have hf:(decide (k < -2^63) || decide (k>=2^63))=Ż:=by
  rw[a5b];exact⟨a6S (by omega),a6S (by omega)⟩
 have f0:a2h (λx1 x2=>x1++x2) #[] (Ě k.toNat ai.toArray)=(Ě k.toNat ai).flatten.toArray:=by
  have:=PF ai k.toNat [];rw[a1p]at this;exact this
 have ln:(Ě k.toNat xs).flatten.length<=Ĕ:=by
  rw[Oc,Nat.mul_comm];have:Ĕ=16777216:=xS;omega
 refine wpAny_binaryOp_repeat_ref (T := "tuple") (U := "int") (by decide) ⟨_,hl,rfl⟩ (λs'=>typeIs_int s' k t) zgu F.fills_int_mul F.slot_int_rmul zkE F.slot_int_index.lookup
  (a1F F.slot_int_rmul (typeIs_int s k t) F.entry_int_rmul (F.args_int_rmul_2 _ _) (zik k t l ai.toArray n jR sl) ⟨hl,rfl,⟨_,hl,rfl⟩,?_⟩)
 rcases q with⟨rfl,q⟩|⟨k1,q⟩
 .exact a1F a3u ⟨_,hl,rfl⟩ a3a (a2L _ _) (znz l ai.toArray n jR sl t) ⟨hl,.ref l,H,I,rfl,q⟩
 .have h1:(ai.toArray.isEmpty || k==1)=Ż:=by rw[Tp,a2e];simpa using k1
  by_cases k0:k<=0
  .refine a1F a3u ⟨_,hl,rfl⟩ a3a (a2L _ _) (znA l ai.toArray n jR sl k t hf h1 (by rw[a6R k0];rfl)) ⟨hl,.ref _,_,I.laid (t':=s.toks) (o:=.tup []) (λ_ _ q=>qd _ q) (qe _) ⟨À _,[],.nil,_,qg _ rfl,rfl,⟨_,rfl⟩,.inl rfl⟩,rfl,?_⟩
   have:=q _ I.fresh;rw[show k.toNat=0 by omega]at this;exact this
  .have m63:(ai.toArray.size:Int) * k<=1000000:=by
    have e1:(ai.toArray.size:Int)=(xs.length:Int):=by rw[ě,lv]
    have e2:k=(k.toNat:Int):=by omega
    rw[e1,e2,<-a3s];omega
   refine a1F a3u ⟨_,hl,rfl⟩ a3a (a2L _ _) (znB l ai.toArray n jR sl k t hf h1 (by rw[a6S k0,Tp];rfl) (by omega) (a6S (by rw[show((Ĕ:Nat):Int)=16777216 by rw[xS];rfl];omega)) ?_) ⟨hl,.ref _,_,I.laid (t':=s.toks) (o:=.tup (Ě k.toNat xs).flatten) (λ_ _ q=>qd _ q) (qe _) ⟨ln,(Ě k.toNat ai).flatten,rv.rep k.toNat,_,qg _ rfl,rfl,⟨0,?_⟩,.inl rfl⟩,rfl,q _ I.fresh⟩
   .rw[f0,ě,Oc,Nat.mul_comm]
    have:Ĕ=16777216:=xS;rw[<-lv];omega
   .show a5a (a2h (λx1 x2=>x1++x2) #[] (Ě k.toNat ai.toArray)) _=_
    rw[f0]
end
def B3:U->U->Qb U
 |.d (.tuple xs),.d (.int k)=>if xs≠[]/\k < 1000000/\-1000000 < k/\xs.length * k.toNat<=1000000 then ž (.d<|.tuple (Ě k.toNat xs).flatten)else Ž
 |_,_=>Ž
def M7{ds:Qa D}(h:aQ K H vs ds):∀n:Nat,aQ K H (Ě n vs).flatten (Ě n ds).flatten
 |0=>.nil
 |n+1=>by
  rw[Ś,Ś,ϒ,ϒ];exact h.app<|M7 h n
def Xq:VO K (LF K) B3:=by
 intro x y a b u H Q ha hb e q;unfold B3 at e;split at e
 .split at e
  rotate_left
  .cases e
  rename_i xs k hc;cases e;have(l,vs,rfl,h1,h2):=DF.aH ha;cases DF.int_inv hb;have ln:=h2.len;refine⟨l,k,vs,rfl,rfl,(be.sq h1),λz=>hc.1<|ć (by rw[<-ln,z];rfl),hc.2.1,hc.2.2.1,by rw[ln];exact hc.2.2.2,?_⟩
  by_cases k1:k=1
  .subst k1
   refine .inl ⟨rfl,q _ _ (λ_ _ z=>z) ?_ Nw.data⟩;have e:(Ě (1:Int).toNat xs).flatten=xs:=by simp
   rw[e];exact DF.tup h1 h2
  .refine .inr ⟨k1,λp hp=>?_⟩
   have sm:=iz hp (.tup (Ě k.toNat vs).flatten);exact q _ _ sm (.tup (.inl zz)<|(M7 h2 _).kp sm.kp) Nw.data
 .cases e
def zpm{xs:Qa D}{k:Int}(h:0 < xs.length)(h2:k < 1000)(h3:-1000 < k)(h4:xs.length < 1000):B3 (.d<|.tuple xs) (.d<|.int k)=ž (.d<|.tuple (Ě k.toNat xs).flatten):=by
 show(if _ then _ else _)=_;rw[a6P ⟨λz=>by rw[z]at h;exact Ð _ h,by omega,by omega,qx (ð (Û h4) (show k.toNat<=1000 by omega)) (by decide)⟩]
end Internal
namespace Internal
open PySem PySem.Spec PyProof.Rows
def GC(K:qc)(tk tv:TE):TE:=λσ H Q=>∀p,H p=Ž->tk σ (upd H p<|.dT []) λx H1=>tv σ H1 λy H2=>H2 p=ž (.dT [])/\∃k b,x=.ref b/\be K H2 b (k.map kV)/\Q (.ref p) (upd H2 p<|.dT [(k,y)])
def Z7{X:Cx}{k v:Ķ}{tk:TE}(hu:X.A.units+1 < Θ)(hk:PE X k tk)(hv:PE X v tv):PE X (.Dict [ž k] [v] pos) (GC X.K tk tv):=by
 intro pins s σ H Q I q;have hn:=I.aC.fresh (qe s.heap.objs.size);have I1:=I.laid (a:=s.heap.objs.size) (o:=.dT []) (h':=s.heap.push {cls:=.type "dict",data:=.dict #[]}) (t':=s.toks) (λ_ _ q=>qd _ q) (qe _) (OX s.heap I.Ky);refine wpAny_Dict_any rfl rfl (by simp) (by show 1<=15;decide)<|pairTrees_cons_walk<|aF (hk pins _ σ _ _ I1<|q _ hn) λu s1 hZ=>?_;have(x,H1,I1,rx,q1):=hZ;refine aF (hv pins s1 σ H1 _ I1 q1) λw2 s2 hZ=>?_;have(y,H2,I2,ry,e,ks,b,ex,eb,q2):=hZ;refine pairTrees_nil_walk ?_;subst ex;cases rx;unfold storeAll;rw[a1r];have(z,hd,xs,rel,dd):=LV I2.bO I2.aC e;cases rel;refine qa<|qa<|wpAny_dictSet_heap (hsz:=À _) (show X.A.units < Θ from a6l hu) (r9 I2.bO I2.aC eb) dd λh' xv hs=>qb ?_;dsimp only;rw[a1C];refine qb ?_;have(q',es,ep,hq,h2,h3,h4,_,h5):=xv;refine⟨.ref s.heap.objs.size,_,Hd (ob:=.dT [(ks,y)]) I2 (by rw[e];exact ϱ) hs ⟨q',hq⟩ ⟨by show 1<=Ĕ;decide,hd,_,(KT.put (kvs:=[]) .nil ks eb ry).keeps λc ys ec=>?_,q',es,ep,hq,h2,h3,h4,h5⟩,rfl,q2⟩;rw[zw (yi ec e (λz=>nomatch z))];exact ec
def G9{X:Cx}{k v:Ķ}{tk:TE}(hr:aG n X.A)(hk:Wr (PE X k tk))(hv:Wr (PE X v tv)):Wr (PE X (.Dict [ž k] [v] pos)<|GC X.K tk tv):=⟨Z7 (vQ hr) hk.run hv.run⟩
section
variable{ρ aq aj:En}
def Rs.free{p:Qg}{c o:HO}(r:Rs K ρ σ H)(hc:H p=ž c)(m:Mo c)(n:¬Ow ρ σ p):Rs K ρ σ (upd H p o):=by
 have kp:=oS hc m o;refine⟨r.len,λi u e=>?_,r.apart⟩;have(v,ev,q):=r.rep i u e;refine⟨v,ev,q.kp kp λou a c' ea ha=>?_⟩;have ne:a≠p:=by
  rintro rfl;exact n ⟨i,u,e,ou,by rw[ev,ea]⟩
 rw[zw ne];exact ha
def Go.free{p:Qg}{c o:HO}(g:Go K ρ σ H aj H')(hp:H p=Ž)(hc:H' p=ž c)(m:Mo c)(n:¬Ow aj σ p):Go K ρ σ H aj (upd H' p o):=by
 refine⟨g.rs.free hc m n,λa ob ha hn=>?_,g.shr,λa ha=>?_⟩
 .have ne:a≠p:=by
   rintro rfl;rw[hp]at ha;cases ha
  rw[zw ne];exact g.fr a ob ha hn
 .by_cases e:a=p
  .subst e
   exact hp
  .rw[zw e]at ha
   exact g.dm a ha
def ym(mk mv:ME):ME:=λρ=>(mk ρ).bind λp=>(mv p.2).bind λq=>(p.1.get q.2).bind λk=>(q.1.get q.2).bind λv=>k.da.bind λk=>v.da.bind λv=>(dR k).bind λk=>ž (.u<|.t [(k,v)],q.2)
def M6{w:U}{x:D}(h:w.da=ž x):w=.d x:=by
 cases w<;>first | (cases h;rfl) |cases h
def G8{tk:TE}{mk mv:ME}(hk:VE K tk mk)(hv:VE K tv mv):VE K (GC K tk tv) (ym mk mv):=by
 intro ρ σ H a aj Q r e q;obtain⟨⟨a1,aq⟩,e1,e⟩:=bQ e;obtain⟨⟨b1,aD⟩,e2,e⟩:=bQ e;have(uk,ek,e):=bQ e;have(uv,ev,e):=bQ e;have(dk,edk,e):=bQ e;have(dv,edv,e):=bQ e;have(ks,eks,e):=bQ e;cases e;cases M6 edk;cases M6 edv;intro p hp;have sm:=iz hp (.dT []);have g0:=Go.grow r sm;have n0:¬Ow ρ σ p:=λz=>by
  have(c,hc,_):=r.ow z;rw[hp]at hc;cases hc
 refine hk ρ σ (upd H p<|.dT []) a1 aq _ g0.rs e1 λx H1 g1 k1=>hv aq σ H1 b1 _ _ g1.rs e2 λy H2 g2 k2=>?_;have n1:¬Ow aq σ p:=λz=>n0<|g1.shr.ow z;have n2:¬Ow aD σ p:=λz=>n1<|g2.shr.ow z;have AJ:H2 p=ž (.dT []):=g2.fr p _ (g1.fr p _ zz n0) n1;have pk:=k1.later g0.rs g1 g2 ek;have pv:=k2.now g1.rs g2 ev;have(b,rfl,hb):=yH pk eks;have kp:=oS AJ trivial (.dT [(ks,y)]);refine⟨AJ,ks,b,rfl,hb,q _ _ (((g0.trans g1).trans g2).free hp AJ trivial n2) ⟨⟨p,[(ks,y)],rfl,zz,.cons ⟨rfl,DF.kp kp pv⟩ .nil⟩,λ_=>⟨p,rfl,hp⟩⟩⟩
end
section
variable{ρ:En}{mk mv:ME}{mA:MA}{f:Qa D->Qa D}{QE:Ar×En->Prop}{QI:Qa D×En->Prop}
def zma:Wo (ym mk mv ρ) QE=Wo (mk ρ) (Co (λp=>(mv p.2).bind λq=>(p.1.get q.2).bind λk=>(q.1.get q.2).bind λv=>k.da.bind λk=>v.da.bind λv=>(dR k).bind λk=>ž (.u<|.t [(k,v)],q.2)) ⟨0⟩ QE):=by
 show Wo (a0B _ _) QE=_;rw[zr]
end
end Internal
namespace Internal
open PySem
noncomputable def ch:Nat->Nat->Nat
 |_,0=>1
 |0,_+1=>0
 |n+1,k+1=>ch n k+ch n (k+1)
def part(a:Rat)(k j:Nat):Rat:=(ch k j:Rat) * a^(k - j)
def So{a b:Qa Int}(h:a.length+b.length<=1000):wj (.d<|bJ a) (.d<|bJ b)=ž (.d<|bJ<|a++b):=by
 have:=Pj (xs:=a.map ľ) (ys:=b.map ľ) (by rw[ē,ē];omega);rw[<-ğ]at this;exact this
def zAL{k:Int}:į [.int k]=bJ [k]:=rfl
end Internal
namespace Internal
open PySem PySem.Spec PyProof.Rows
open PySem.AutoSeq1 (wpAny_loadPart')
open MeetsSeq MeetsSeq2 MeetsSeq3 SeqRoads2
def zqT{a:Int}{t u:Tok}(h:Q (.bool<|decide<|a<=b) s):ĕ (Ę prog w) A (richCompare .LtE (.int a t)<|.int b u) Q E s:=le_int h
def leB(xs ys:Qa Int):Bool:=!c9 ys xs
def A5(xs ys:Qa Int):Bool:=!c9 xs ys
def znD(l b:Qg)(items aX:Array Qc)(n n2:Nat)(dd ve:Qb Qg)(sl pf:Array (Qb Qc))(xs ys:Qa Int):
  Meets (Builtin.«tuple.__le__» ⟨[.ref l,.ref b],[]⟩)
   (λA R s=>s.heap.get? l=ž {cls:=.type "tuple",dict:=dd,data:=.seq items n,slots:=sl}/\s.heap.get? b=ž {cls:=.type "tuple",dict:=ve,data:=.seq aX n2,slots:=pf}/\
    a0q items.toList xs/\a0q aX.toList ys/\R (.ok<|.ret<|.bool<|leB xs ys) s):=
 .of_wp λprog w A R s h=>by
  have(hp,g,d,tk,os):=s;have(hl,hb,i1,i2,h):=h;have f2:=AutoSeq1.sub_tuple_tuple
  wp_walk using wpAny_loadPart' hl,wpAny_loadPart' hb,Ζ _ (λrest b s'=>b.1=Ž/\s'=⟨hp,g,d,tk,os⟩/\∃(vs us:Qa Qc) (as bs:Qa Int),rest=vs.zip us/\a0q vs as/\a0q us bs/\(ν items < ν aX↔as.length < bs.length)/\(ν aX < ν items↔bs.length < as.length)/\
   R (.ok<|.ret<|.bool<|leB as bs) ⟨hp,g,d,tk,os⟩) _
  case turn=>
   rintro⟨y,x⟩ rest b s' ⟨jw,rfl,vs,us,as,bs,hz,j1,j2,hn,hm,hR⟩;cases j1 with
   |nil=>cases hz
   | @cons a t vs as j1=>
    cases j2 with
    |nil=>cases hz
    | @cons c u us bs j2=>
     rw[a0u]at hz;injection hz with hyx AI;injection hyx with e1 e2;subst e1 e2;refine qa<|a1w ?_
     by_cases e:a=c
     .subst e
      rw[a6U]
      wp_walk
      refine⟨rfl,rfl,vs,us,as,bs,AI,j1,j2,?_,?_,?_⟩
      .rw[hn,qt,qt]
       omega
      .rw[hm,qt,qt]
       omega
      .simpa [leB,A5,c9] using hR
     .rw[beq_eq_false_iff_ne.mpr e]
      wp_walk using zqT
      refine⟨_,rfl,?_⟩;simp only[leB,A5,c9,a6Q e,a6Q<|Ľ e]at hR;rw[<-decide_not]at hR;simp only[Int.not_lt]at hR;exact hR
  case fin=>
   rintro⟨b1,b2⟩ s' ⟨jw,rfl,vs,us,as,bs,hz,j1,j2,hn,hm,hR⟩;simp only at jw;subst jw
   wp_walk
   refine⟨_,rfl,?_⟩;cases j1 with
   |nil=>
    cases j2 with
    |nil=>
     have n1:¬ν items < ν aX:=λz=>absurd (hn.mp z)<|Ð _;have n2:¬ν aX < ν items:=λz=>absurd (hm.mp z)<|Ð _;simpa [Δ,leB,A5,c9,a2Z n1,a2Z n2] using hR
    |cons c u j2=>
     have n1:=hn.mpr (a6G _);simpa [Δ,leB,A5,c9,Û n1,a1f n1] using hR
   |cons a t j1=>
    cases j2 with
    |nil=>
     have n1:=hm.mpr (a6G _);simpa [Δ,leB,A5,c9,Û n1,a1f n1] using hR
    |cons c u j2=>cases hz
  case h=>
   refine⟨rfl,rfl,a0l items,a0l aX,xs,ys,rfl,i1,i2,?_,?_,h⟩
   .rw[<-a1s i1,<-a1s i2,ģ,ģ]
   .rw[<-a1s i1,<-a1s i2,ģ,ģ]
end Internal
namespace Internal
open PySem PySem.Spec PyProof.Rows
section
variable{l b:Qg}{items aX:Array Qc}{xs ys:Qa Int}
def znE(hl:s.heap.IsTuple l items)(hb:s.heap.IsTuple b aX)(i1:a0q items.toList xs)(i2:a0q aX.toList ys)(hu:A.units < Θ)
  (h:Q (.bool<|leB xs ys) s):ĕ (Ę prog w) A (Ĭ .LtE (.ref l)<|.ref b) Q E s:=by
 obtain⟨⟨cls,dd,data,sl⟩,ho,hc,n,hd⟩:=id hl;obtain⟨⟨Ba,ve,data2,pf⟩,pI,AY,n2,hd2⟩:=id hb;simp only at hc hd AY hd2;subst hc hd AY hd2;exact richCompare_meets_room (op:=.LtE) ⟨_,ho,rfl⟩ ⟨_,pI,rfl⟩ F.slot_tuple_le F.entry_tuple_le (F.args_tuple_le_2 _ _) (znD l b items aX n n2 dd ve sl pf xs ys) ⟨ho,pI,i1,i2,⟨(λx=>nomatch x),h⟩⟩ hu
end
def LD(K:qc)(g:Qa Int->Qa Int->Bool):R2:=λx y H Q=>∃a b ns ms,x=.ref a/\y=.ref b/\bI K H a (ns.map V.int)/\bI K H b (ms.map V.int)/\Q (.bl<|g ns ms) H
section
variable{X:Cx}{k:Nat}
def Mn(K:qc)(hK:X.K=K)(hr:aG k X.A):bz X (Ĭ .LtE) (LD K leB):=by
 subst hK;intro pins s σ H x y v u Q I rx ry h;have(a,b,ns,ms,rfl,rfl,ha,hb,q):=h;cases rx;cases ry;have(ai,r1,p1,_):=I.tuple ha;have(gT,r2,p2,_):=I.tuple hb;exact znE p1 p2 (Qq r1) (Qq r2) (a6l<|vQ hr) ⟨.bl _,H,I,rfl,q⟩
end
section
noncomputable def inD:D->Qb Int
 |.int i=>ž i
 |_=>Ž
def M5{us:Qa V}{ds:Qa D}{bs:Qa Int}(h:aQ K H us ds):ds.mapM inD=ž bs->us=bs.map V.int:=by
 refine h.ind (P:=λus ds=>∀ys,ds.mapM inD=ž ys->us=ys.map V.int) (λys e=>?_) (λ{v d vs ds} h t ih ys e=>?_) bs
 .cases e;rfl
 .rw[ŷ]at e
  have(y,e1,e):=bQ e;have(iV,e2,e):=bQ e;cases e;cases d with
  |int x=>cases e1;cases DF.int_inv h;rw[ih _ e2];rfl
  |_=>cases e1
def xV(g:Qa Int->Qa Int->Bool):U->U->Qb U
 |.d (.tuple xs),.d (.tuple ys)=>(xs.mapM inD).bind λa=>(ys.mapM inD).bind λb=>ž<|.d<|.bool<|g a b
 |_,_=>Ž
def M4{g:Qa Int->Qa Int->Bool}:VO K (LD K g) (xV g):=by
 intro x y a b u H Q ha hb e q;unfold xV at e;split at e
 .have(n1,e1,e):=bQ e
  have(n2,e2,e):=bQ e;cases e;have(p,us,rfl,h1,h2):=DF.aH ha;have(p',nH,rfl,lN,i9):=DF.aH hb;cases M5 h2 e1;cases M5 i9 e2;exact⟨p,p',n1,n2,rfl,rfl,(be.sq h1),(be.sq lN),q _ _ (dI.refl H) (DF.bl _) Nw.data⟩
 .cases e
def zpq{g:Qa Int->Qa Int->Bool}{a c d:Int}:xV g (.d<|.tuple [.int a,.int b]) (.d<|.tuple [.int c,.int d])=ž (.d<|.bool<|g [a,b] [c,d]):=rfl
end
def G7(r r' pA:R2)(ta tb tc td:TE):TE:=λσ H Q=>ta σ H λx H1=>tb σ H1 λy H2=>r x y H2 λz H3=>∃k,z=.bl k/\
 (if k=ż then tc σ H3 λw' H4=>r' y w' H4 λz' H5=>∃k',z'=.bl k'/\(if k'=ż then td σ H5 λv H6=>pA w' v H6 Q else Q (.bl Ż) H5)else Q (.bl Ż) H3)
section
variable{X:Cx}{a b c d:Ķ}{tc:TE}
def zqU{jK:a2S}{r r' pA:R2}(ho:bz X (Ĭ op) r)(dF:bz X (Ĭ hV) r')(uR:bz X (Ĭ jK) pA)(ha:PE X a ta)(hb:PE X b tb)(hc:PE X c tc)(hd:PE X d td)
  (hm:a2s [op,hV,jK] [b,c,d]=Ż:=by with_unfolding_all rfl):PT X (.Compare a [op,hV,jK] [b,c,d] pos) (tO<|G7 r r' pA ta tb tc td):=by
 intro pins s σ H Q I h;refine isTrue_chain (aF (ha pins s σ H _ I h) λv s1 hZ=>?_) hm;have(x,H1,I1,r1,q1):=hZ;refine test_link<|aF (hb pins s1 σ H1 _ I1 q1) λu s2 hZ=>?_;have(y,H2,I2,r2,q2):=hZ;refine aF (ho pins s2 σ H2 x y v u _ I2 r1 r2 q2) λd s3 hZ=>?_;have(z,H3,I3,r3,k,e,q3):=hZ;subst e;cases r3;refine ĺ ?_;cases k with
 |false=>
  have(k',e',q'):=q3;cases e';exact ite_ff ⟨H3,I3,q'⟩
 |true=>
  refine ite_tt<|test_link<|aF (hc pins s3 σ H3 _ I3 q3) λw' s4 hZ=>?_;have(z',H4,I4,r4,q4):=hZ;refine aF (dF pins s4 σ H4 y z' u w' _ I4 r2 r4 q4) λd s5 hZ=>?_;have(z2,H5,I5,r5,k2,e2,q5):=hZ;subst e2;cases r5;refine ĺ ?_;cases k2 with
  |false=>
   have(k',e',q'):=q5;cases e';exact ite_ff ⟨H5,I5,q'⟩
  |true=>
   refine ite_tt<|test_last<|aF (hd pins s5 σ H5 _ I5 q5) λw2 s6 hZ=>?_;have(z3,H6,I6,r6,q6):=hZ;refine aF (uR pins s6 σ H6 z' z3 w' w2 _ I6 r4 r6 q6) λd' s7 hZ=>?_;have(z4,H7,I7,r7,k3,e3,q7):=hZ;subst e3;cases r7;exact ĺ ⟨H7,I7,q7⟩
def zqV{jK:a2S}{r r' pA:R2}(ho:bz X (Ĭ op) r)(dF:bz X (Ĭ hV) r')(uR:bz X (Ĭ jK) pA)(ha:Wr (PE X a ta))(hb:Wr (PE X b tb))(hc:Wr (PE X c tc))(hd:Wr (PE X d td))(hm:a2s [op,hV,jK] [b,c,d]=Ż:=by rfl):
  Wr (PT X (.Compare a [op,hV,jK] [b,c,d] pos)<|tO<|G7 r r' pA ta tb tc td):=⟨zqU ho dF uR ha.run hb.run hc.run hd.run hm⟩
end
section
def yL(f f' rG:U->U->Qb U)(ma mb mc md:ME):ME:=λρ=>(ma ρ).bind λp=>(mb p.2).bind λq=>(p.1.get q.2).bind λx=>(q.1.get q.2).bind λy=>(f x y).bind λr=>match r with
 |.d (.bool ż)=>(mc q.2).bind λs=>(q.1.get s.2).bind λy'=>(s.1.get s.2).bind λz=>(f' y' z).bind λr'=>match r' with
  |.d (.bool ż)=>(md s.2).bind λt=>(s.1.get t.2).bind λz'=>(t.1.get t.2).bind λv=>(rG z' v).bind λu=>ž (.u u,t.2)
  |.d (.bool Ż)=>ž (.u<|.d<|.bool Ż,s.2)
  |_=>Ž
 |.d (.bool Ż)=>ž (.u<|.d<|.bool Ż,q.2)
 |_=>Ž
def Z6{r r' pA:R2}{f f' rG:U->U->Qb U}{tc:TE}{ma mb mc md:ME}(h:VO K r f)(h':VO K r' f')(h'':VO K pA rG)(ha:VE K ta ma)(hb:VE K tb mb)(hc:VE K tc mc)(hd:VE K td md):VE K (G7 r r' pA ta tb tc td) (yL f f' rG ma mb mc md):=by
 intro ρ σ H a aj Q rs e q;obtain⟨⟨a1,aq⟩,e1,e⟩:=bQ e;obtain⟨⟨b1,aD⟩,e2,e⟩:=bQ e;have(x,ex,e):=bQ e;have(y,ey,e):=bQ e;have(rr,er,e):=bQ e;refine ha ρ σ H a1 aq _ rs e1 λv1 H1 g1 k1=>hb aq σ H1 b1 aD _ g1.rs e2 λv2 H2 g2 k2=>?_;refine h _ _ x y rr H2 _ (k1.later rs g1 g2 ex) (k2.now g1.rs g2 ey) er λv H3 s p n=>?_;have g3:=Go.grow g2.rs s;split at e
 .cases DF.bh p
  refine⟨ż,rfl,?_⟩;rw[a6P rfl];obtain⟨⟨c1,mm⟩,e3,e⟩:=bQ e;have(y',Kr,e):=bQ e;have(z,ez,e):=bQ e;have(rr',er',e):=bQ e;refine hc aD σ H3 c1 _ _ g3.rs e3 λv3 H4 g4 k4=>?_;refine h' _ _ y' z rr' H4 _ (k2.later g1.rs g2 (g3.trans g4) Kr) (k4.now g3.rs g4 ez) er' λw H5 s5 p5 n5=>?_;have g5:=Go.grow g4.rs s5;split at e
  .cases DF.bh p5
   refine⟨ż,rfl,?_⟩;rw[a6P rfl];obtain⟨⟨d1,gH⟩,e4,e⟩:=bQ e;have(z',ez',e):=bQ e;have(t,et,e):=bQ e;have(u,eu,e):=bQ e;cases e;refine hd mm σ H5 d1 _ _ g5.rs e4 λv5 H6 g6 k6=>?_;refine h'' _ _ z' t u H6 _ (k4.later g3.rs g4 (g5.trans g6) ez') (k6.now g5.rs g6 et) eu λw H7 s7 p7 n7=>?_;exact q w H7 ((((((g1.trans g2).trans g3).trans g4).trans g5).trans g6).trans<|Go.grow g6.rs s7) ⟨p7,n7.mono λb hb=>(g1.trans g2).dm b<|g3.dm b<|g4.dm b<|g5.dm b<|g6.dm b hb⟩
  .cases DF.bh p5
   cases e;refine⟨Ż,rfl,?_⟩;rw[a6Q (by decide)];exact q _ H5 ((((g1.trans g2).trans g3).trans g4).trans g5) ⟨DF.bl _,Nw.data⟩
  .cases e
 .cases DF.bh p
  cases e;refine⟨Ż,rfl,?_⟩;rw[a6Q (by decide)];exact q _ H3 ((g1.trans g2).trans g3) ⟨DF.bl _,Nw.data⟩
 .cases e
end
section
variable{f f' rG:U->U->Qb U}{ma mb mc md:ME}{ρ:En}{QE:Ar×En->Prop}
def zqW:yL f f' rG ma mb mc md ρ=(ma ρ).bind λp=>(mb p.2).bind λq=>(p.1.get q.2).bind λx=>(q.1.get q.2).bind λy=>(f x y).bind λr=>r.m8.bind λb=>if b=ż then(mc q.2).bind λs=>(q.1.get s.2).bind λy'=>(s.1.get s.2).bind λz=>(f' y' z).bind λr'=>r'.m8.bind λb'=>if b'=ż then(md s.2).bind λt=>(s.1.get t.2).bind λz'=>(t.1.get t.2).bind λv=>(rG z' v).bind λu=>ž (.u u,t.2)else ž (.u<|.d<|.bool Ż,s.2)else ž (.u<|.d<|.bool Ż,q.2):=by
 unfold yL;have key:∀{β:Type} (r:U) (X Y:Qb β),(match r with |.d (.bool ż)=>X |.d (.bool Ż)=>Y|_=>Ž)=r.m8.bind λb=>if b=ż then X else Y:=by
  intro β r X Y;cases r with
  |d x=>
   cases x with
   |bool b=>cases b<;>rfl
   |_=>rfl
  |_=>rfl
 simp only[key]
def zjE:Wo (yL f f' rG ma mb mc md ρ) QE=Wo (ma ρ) (Co (λp=>(mb p.2).bind λq=>(p.1.get q.2).bind λx=>(q.1.get q.2).bind λy=>(f x y).bind λr=>r.m8.bind λb=>if b=ż then(mc q.2).bind λs=>(q.1.get s.2).bind λy'=>(s.1.get s.2).bind λz=>(f' y' z).bind λr'=>r'.m8.bind λb'=>if b'=ż then(md s.2).bind λt=>(s.1.get t.2).bind λz'=>(t.1.get t.2).bind λv=>(rG z' v).bind λu=>ž (.u u,t.2)else ž (.u<|.d<|.bool Ż,s.2)else ž (.u<|.d<|.bool Ż,q.2)) ⟨0⟩ QE):=by rw[zqW,zr]
end
end Internal
namespace HT
open PySem PySem.Spec PyProof.Rows
end HT
namespace Internal
open PySem PySem.Spec PyProof.Rows
end Internal
namespace Internal
open PySem PySem.Calls PySem.Spec PyProof.Rows
end Internal
namespace Internal
open PySem PySem.Spec PyProof.Rows
end Internal
namespace Internal
open PySem
end Internal
namespace Internal
open PySem PySem.Spec PyProof.Rows
def LB:R2:=λx y H Q=>∃a b,x=.bl a/\y=.bl b/\Q (.bl (!(a==b))) H
def Xp{X:Cx}:bz X (Ĭ .IsNot) LB:=by
 intro pins s σ H x y v u Q I rx ry h;have(a,b,rfl,rfl,q):=h;cases rx;cases ry;refine qb ?_;refine⟨.bl _,H,I,?_,q⟩;cases a<;>cases b<;>rfl
noncomputable def xU:U->U->Qb U
 |.d (.bool a),.d (.bool b)=>ž<|.d<|.bool (!(a==b))
 |_,_=>Ž
def Xo:VO K LB xU:=by
 intro x y a b u H Q ha hb e q;unfold xU at e;split at e
 .cases e
  exact⟨_,_,DF.bh ha,DF.bh hb,q _ _ (dI.refl H) (DF.bl _) Nw.data⟩
 .cases e
def zpr{a b:Bool}:xU (.d<|.bool a) (.d<|.bool b)=ž (.d<|.bool (!(a==b))):=rfl
section
variable{ρ aj aq:En}{H1:Hp}
def A9(nt:Nat)(mg:MG)(mt:MT)(mk mv:ME):Qa D->En->Qa (Qa Key×D)->Qb (Qa (Qa Key×D)×En)
 |[],ρ,ys=>ž (ys,ρ)
 |d::ds,ρ,ys=>if ys.length < Ĕ then(mg d ρ).bind λaq=>(mt aq).bind λb=>if b.1=ż then(mk b.2).bind λp=>(mv p.2).bind λq=>(p.1.get q.2).bind λuk=>(q.1.get q.2).bind λuv=>uk.da.bind λdk=>uv.da.bind λdv=>(dR dk).bind λk=>
   A9 nt mg mt mk mv ds (reset nt q.2) (mD ys k dv)else A9 nt mg mt mk mv ds (reset nt b.2) ys else Ž
end
section
variable{c:β->D}{mI:MI}{mg:MG}{mt:MT}{mk mv me ma:ME}{mA:MA}{ρ:En}{QE:Ar×En->Prop}{QT:Bool×En->Prop}
def zDD(nt:Nat)(mk mv:ME)(ys:Qa (Qa Key×D))(P:En->Qa (Qa Key×D)->Prop)(p:Bool×En):Prop :=
 if p.1=ż then Wo (mk p.2) (Co (λp=>(mv p.2).bind λq=>(p.1.get q.2).bind λuk=>(q.1.get q.2).bind λuv=>uk.da.bind λdk=>uv.da.bind λdv=>(dR dk).bind λk=>ž (reset nt q.2,mD ys k dv)) ⟨0⟩ λz=>P z.1 z.2)else P (reset nt p.2) ys
def dcP(l:Pq β):Pq β:=l.foldl (λys t=>eM ys t.1 t.2) []
def Z5{g:α->D}{b:α->Bool}{k:α->Qa Int}{v:α->β}{Q:Qa (Qa Key×D)×En->Prop}(hz:as.length<=16777216)
  (st:∀a∈as,∀ys:Pq β,Wo (mg (g a) ρ)<|Co mt ⟨0⟩<|zDD nt mk mv (bg c ys) λaj zs=>aj=ρ/\zs=bg c (if b a=ż then eM ys (k a) (v a)else ys))
  (q:Q (bg c<|dcP<|(as.filter b).map λa=>(k a,v a),ρ)):Wo (A9 nt mg mt mk mv (as.map g) ρ []) Q:=by
 have main:∀(es:Qa α) (acc:Pq β),(∀a∈es,a∈as)->acc.length+es.length<=16777216->Q (bg c<|((es.filter b).map λa=>(k a,v a)).foldl (λys t=>eM ys t.1 t.2) acc,ρ)->Wo (A9 nt mg mt mk mv (es.map g) ρ<|bg c acc) Q:=by
  intro es
  induction es with
  |nil=>intro acc _ _ q;exact⟨_,rfl,q⟩
  |cons a es ih=>
   intro acc hm hl q;rw[qt]at hl;obtain⟨aq,e1,⟨bb,aD⟩,e2,kk⟩:=st a (hm a qo) acc;rw[ę];unfold A9;rw[a6P (by rw[Mr];show _ < 16777216;omega),zr];refine⟨aq,e1,?_⟩;rw[kZ,zr];refine⟨_,e2,?_⟩;rw[kZ];rw[ξ]at q;have pl:=Na acc (k a) (v a);cases bb with
   |false=>
    have(e3,e4):=kk;rw[a6Q qf,e3,e4]
    by_cases hb:b a=ż
    .rw[a6P hb]
     rw[a6P hb]at q;exact ih _ (λx hx=>hm x<|qm _ hx) (by omega) q
    .rw[a6Q hb]
     rw[a6Q hb]at q;exact ih _ (λx hx=>hm x<|qm _ hx) (by omega) q
   |true=>
    rw[a6P rfl,zr];have(p,e3,kk):=kk;refine⟨p,e3,?_⟩;rw[kZ];have(z,e4,e5,e6):=kk;have(q1,f1,e4):=bQ e4;have(uk,f2,e4):=bQ e4;have(uv,f3,e4):=bQ e4;have(dk,f4,e4):=bQ e4;have(dv,f5,e4):=bQ e4;have(kk,f6,e4):=bQ e4;cases e4;rw[f1,bd,f2,bd,f3,bd,f4,bd,f5,bd,f6,bd];dsimp only at e5 e6;rw[e5,e6]
    by_cases hb:b a=ż
    .rw[a6P hb]
     rw[a6P hb]at q;exact ih _ (λx hx=>hm x<|qm _ hx) (by omega) q
    .rw[a6Q hb]
     rw[a6Q hb]at q;exact ih _ (λx hx=>hm x<|qm _ hx) (by omega) q
 exact main as [] (λ_ h=>h) (by simpa using hz) q
end
section
variable{X:Cx}{i v f:Ķ}{tx:TE}{k:Nat}(K:qc)(hK:X.K=K)
include hK
end
end Internal
namespace Internal
open PySem PySem.Calls PySem.Spec PyProof.Rows
abbrev l0:=Qa (Qa Key×Qa Key)
noncomputable def sN(g:l0)(k:Qa Key):Qb (Qa Key):=(g.find? λq=>decide<|q.1=k).map (·.2)
def kF(f g:l0):Bool:=(f.length==g.length) && f.all λp=>decide<|sN g p.1=ž p.2
def FT{F:α->β->Prop}{m:Qa β}(h:Γ F l m):∀{i:Nat} {x:α},l[i]?=ž x->∃y,m[i]?=ž y/\F x y:=by
 induction h with
 |nil=>intro i x e;cases e
 |cons hq t ih=>
  intro i x e;cases i with
  |zero=>cases(show ž _=ž x from e);exact⟨_,rfl,hq⟩
  |succ i=>exact ih e
def CH{F:α->β->Prop}{m:Qa β}(h:Γ F l m):l.length=m.length:=by
 induction h with
 |nil=>rfl
 |cons _ _ ih=>simp[ih]
def OD{g:l0}(hn:(g.map (·.1)).Nodup){k v:Qa Key}(e:g[j]?=ž (k,v)):sN g k=ž v:=by
 induction g generalizing j with
 |nil=>cases e
 |cons q r ih=>
  rw[ę,a3d]at hn;cases j with
  |zero=>
   cases(show ž q=ž (k,v) from e);unfold sN;rw[Į,a6R rfl];rfl
  |succ j=>
   have m:k∈r.map (·.1):=Ã.mpr ⟨_,Ì (show r[j]?=ž (k,v) from e),rfl⟩;have ne:¬q.1=k:=λz=>hn.1<|z▸m;unfold sN;rw[Į,a6S ne];exact ih hn.2 (show r[j]?=ž (k,v) from e)
def Z4{g:l0}{k:Qa Key}(h:∀(j:Nat) (v:Qa Key),g[j]?≠ž (k,v)):sN g k=Ž:=by
 unfold sN;rw[List.find?_eq_none.mpr]
 .rfl
 .intro q hq z
  have(j,hj):=List.mem_iff_getElem?.mp hq;exact h j q.2 (by rw[hj,<-a6T z])
section
abbrev TK(prog:Qe)(w:Qh):=ϰ (zI prog w)
def xB(prog:Qe)(w:Qh)(h:ĵ)(xs:Qa (Qa Key×Qg×Qc))(f:l0):Prop:=Γ (λx p=>x.1=p.1/\∃c,x.2.2=.ref c/\(TK prog w).is h p.2 c) xs f
def Z3{xs:Qa (Qa Key×Qg×Qc)}{f:l0}(v:xB prog w h xs f):f.map (·.1)=xs.map (·.1):=by
 induction v with
 |nil=>rfl
 |cons hq _ ih=>rw[ę,ę,ih,hq.1]
def OC{nm:String}{b:Qg}{oa ob:Obj}{fs:Array ύ}{gX:Nat}{xs:Qa (Qa Key×Qg×Qc)}{f g:l0}{Q:Bool->Qd->Prop}(hu:(TK prog w).room A)(ha:(a==Ň)=Ż)(hb:(b==Ň)=Ż)
  (pH:s.heap.get? a=ž oa) (rC:oa.data=.dict es ep) (rq:s.heap.get? b=ž ob) (cN:ob.data=.dict fs gX) (hx:es.toList=xs.map (a0h<|TK prog w)) (hy:fs.toList=ys.map (a0h<|TK prog w))
  (Eo:∀x∈xs,(TK prog w).is s.heap x.1 x.2.1) (Em:∀x∈ys,(TK prog w).is s.heap x.1 x.2.1) (ny:(ys.map (·.1)).Nodup) (vx:xB prog w s.heap xs f) (vy:xB prog w s.heap ys g) (h:Q (kF f g) s):
  ĕ (Ę prog w) A (a2T nm a b) Q E s:=by
 have sx:es.size=f.length:=(size_of_entries hx).trans (CH vx);have sy:fs.size=g.length:=(size_of_entries hy).trans (CH vy);have ng:(g.map (·.1)).Nodup:=by rw[Z3 vy];exact ny
 unfold a2T Ϛ;rw[a6Q (show ¬(a==Ň)=ż by rw[ha];exact qf),a6Q (show ¬(b==Ň)=ż by rw[hb];exact qf)];refine qa<|qb<|qa<|qb ?_;refine qa<|ŀ pH rC ?_;dsimp only;refine qa<|ŀ rq cN ?_
 by_cases hsz:es.size=fs.size
 .rw[a6Q (by simpa using hsz)]
  refine qa<|Ŵ pH rC ?_;refine qa ?_;rw[a0t];simp only[a2o,a2G,š,Nat.div_one];have hlen:(f.length==g.length)=ż:=by rw[<-sx,<-sy,hsz];exact a6U _
  refine Ζ _ (λrest r s'=>s'=s/\r=(Ž,())/\∃i,i<=f.length/\rest=List.range' i (f.length - i)/\∀j p,j < i->f[j]?=ž p->sN g p.1=ž p.2) _ ?_ ?_ _ _ ⟨rfl,rfl,0,À _,by rw[sx,a2G],λj p hj=>absurd hj<|a1u _⟩
  .rintro x rest r s' ⟨rfl,rfl,i,hi,hr,aC⟩
   have eJ:i < f.length:=by
    rcases Ü i f.length with z|z
    .exact z
    .rw[Nat.sub_eq_zero_of_le z]at hr;cases hr
   obtain⟨n,hn⟩:∃n,f.length - i=n+1:=⟨f.length - i - 1,by omega⟩;rw[hn,a6m]at hr;injection hr with hr1 hr2;subst hr1;obtain⟨⟨k,c,v⟩,nZ⟩:∃y,xs[x]?=ž y:=⟨xs[x]'(by rw[CH vx];exact eJ),ql _⟩;obtain⟨⟨k',kv⟩,hf,e1,cv,e2,hcv⟩:=FT vx nZ;cases(show k=k' from e1);cases(show v=.ref cv from e2);have hex:es[x]?=ž ⟨(TK prog w).hash k,.ref c,.ref cv⟩:=by rw[entry_at hx x,nZ];rfl
   refine qa<|ŀ pH rC ?_;rw[hex];dsimp only;have bad:¬sN g k=ž kv->Q Ż s':=λrA=>by
    have:kF f g=Ż:=by
     unfold kF;rw[hlen,Ε];exact List.all_eq_false.mpr ⟨_,Ì hf,by rw[a6S rA];exact qf⟩
    rw[<-this];exact h
   refine qa<|Ō<|qa<|wpAny_dictFind_heap hu (Eo _<|Ì nZ) rq cN hy Em ny (λJW=>?_) λj p hj=>?_
   .refine qb ?_
    simp only[ϛ,if_true];refine qb ?_;refine qb<|bad ?_;rw[Z4 λj v z=>?_]
    .intro z;cases z
    .obtain⟨y,Ep,hy2⟩:∃y,ys[j]?=ž y/\y.1=k:=by
      obtain⟨y,Ep⟩:∃y,ys[j]?=ž y:=⟨ys[j]'(by rw[CH vy];exact(qk.mp z).1),ql _⟩;have(q,i5,m7,_):=FT vy Ep;rw[z]at i5;cases i5;exact⟨y,Ep,m7⟩
     exact JW j y.2 (by rw[Ep,<-hy2])
   .obtain⟨⟨k2,kb⟩,hg,e3,cb,e4,Kb⟩:=FT vy hj
    have(pa,vb):=p;cases(show k=k2 from e3);cases(show vb=.ref cb from e4);have hfj:fs[j]?=ž ⟨(TK prog w).hash k,.ref pa,.ref cb⟩:=by rw[entry_at hy j,hj];rfl
    refine qa<|ŀ rq cN ?_;rw[hfj];dsimp only;refine Ō<|(TK prog w).eqBool hu hcv Kb ?_;have va:=OD ng hg
    by_cases q:kv=kb
    .rw[a6R q]
     simp only[ś,ĥ,if_false];refine qa<|Ŵ pH rC ?_;rw[a6Q (by simp)];refine qb ⟨rfl,rfl,x+1,eJ,?_,λj p hj hp=>?_⟩
     .rw[hr2,show f.length - (x+1)=n by omega]
     .rcases Ü j x with z|z
      .exact aC j p z hp
      .cases(show j=x by omega)
       rw[hf]at hp;cases hp;rw[q];exact va
    .rw[a6S q]
     simp only[ϛ,if_true];refine qb ?_;refine qb<|bad ?_;rw[va];intro z;cases z;exact q rfl
  .rintro r s' ⟨rfl,rfl,i,hi,hr,aC⟩
   have hi2:f.length<=i:=by
    rcases Ü i f.length with z|z
    .obtain⟨n,hn⟩:∃n,f.length - i=n+1:=⟨f.length - i - 1,by omega⟩
     rw[hn,a6m]at hr;cases hr
    .exact z
   have:kF f g=ż:=by
    unfold kF;rw[hlen,Ε];refine ï.mpr λp hp=>?_;have(j,hj):=List.mem_iff_getElem?.mp hp;exact a6R<|aC j p (qi (qk.mp hj).1 hi2) hj
   rw[this]at h;exact qb h
 .rw[a6P (by simpa using hsz)]
  have hbf:kF f g=Ż:=by
   unfold kF;rw[show(f.length==g.length)=Ż by rw[<-sx,<-sy];simpa using hsz,a3F]
  rw[hbf]at h;exact qa<|ų<|qb h
def zCS{wanted:Bool}{nm:String}{b:Qg}{xs:Qa (Qa Key×Qg×Qc)}{f g:l0}(JS:(op=.Eq/\wanted=ż)\/(op=.NotEq/\wanted=Ż))(ha:(a==Ň)=Ż)(hb:(b==Ň)=Ż)
  (da:s.heap.DictOfH (TK prog w) a xs) (db:s.heap.DictOfH (TK prog w) b ys) (vx:xB prog w s.heap xs f) (vy:xB prog w s.heap ys g) (hu:A.units+8 < Θ) (h:Q (.bool<|kF f g==wanted) s):
  ĕ (Ę prog w) A (Ĭ op (.ref a)<|.ref b) Q E s:=by
 have(oa,es,ep,pH,ca,rC,hx,Eo,nx):=da;have(ob,fs,gX,rq,cb,cN,hy,Em,ny):=db;have ta:s.TypeIs (.ref a) "dict":=⟨_,pH,ca.1⟩;have tb:s.TypeIs (.ref b) "dict":=⟨_,rq,cb.1⟩;rcases JS with⟨rfl,rfl⟩|⟨rfl,rfl⟩
 .refine a0H (op:=.Eq) ta tb a4i (ĭ a4i ta PySem.F.entry_dict_eq ?_<|PySem.F.args_dict_eq_2 _ _) (Æ (Ç _ 8) hu)
  show ĕ _ _ (ϧ "__eq__" ⟨[.ref a,.ref b],[]⟩ >>= _) _ _ s;refine qa ?_;unfold ϧ;refine qa<|ϲ ta ?_;show ĕ _ _ (pure (Ĝ a,Ĝ b)) _ _ s;refine qb ?_;refine qa<|ϋ (T := "dict") tb a3X ?_;simp only[ś,ĥ,if_false];refine qa<|qb<|qa<|qb ?_;refine qa<|OC (show _ < Θ from by dsimp only[a5c];omega) ha hb pH rC rq cN hx hy Eo Em ny vx vy ?_;refine qb ⟨_,rfl,?_,?_⟩
  .exact λx=>nomatch x
  .simpa using h
 .refine a0H (op:=.NotEq) ta tb a4h (ĭ a4h ta PySem.F.entry_dict_ne ?_<|PySem.F.args_dict_ne_2 _ _) (Æ (Ç _ 8) hu)
  show ĕ _ _ (ϧ "__ne__" ⟨[.ref a,.ref b],[]⟩ >>= _) _ _ s;refine qa ?_;unfold ϧ;refine qa<|ϲ ta ?_;show ĕ _ _ (pure (Ĝ a,Ĝ b)) _ _ s;refine qb ?_;refine qa<|ϋ (T := "dict") tb a3X ?_;simp only[ś,ĥ,if_false];refine qa<|qb<|qa<|qb ?_;refine qa<|OC (show _ < Θ from by dsimp only[a5c];omega) ha hb pH rC rq cN hx hy Eo Em ny vx vy ?_;refine qb ⟨_,rfl,?_,?_⟩
  .exact λx=>nomatch x
  .simpa using h
end
def EW(K:qc)(H:Hp)(kvs:Qa (Qa Key×V))(f:l0):Prop:=Γ (λp q=>p.1=q.1/\∃c,p.2=.ref c/\be K H c (q.2.map kV)) kvs f
def Mm(ku:K.In h)(ok:cP P w K H h){xs:Qa (Qa Key×Qg×Qc)}{f:l0}(t:KT K H kvs xs)(u:EW K H kvs f):xB P w h xs f:=by
 induction t generalizing f with
 |nil=>cases u;exact .nil
 |cons hq _ ih=>cases u with
  |cons hp u=>
   have(e1,_,rv):=hq;have(e2,c,e3,tp):=hp;rw[e3]at rv;exact .cons ⟨e1.symm.trans e2,c,rv,r9 ku ok tp⟩<|ih u
def LA(K:qc)(wanted:Bool):R2:=λx y H Q=>∃a b kvs Eh f g,x=.ref a/\y=.ref b/\Rd H a (.dT kvs)/\Rd H b (.dT Eh)/\EW K H kvs f/\EW K H Eh g/\Q (.bl<|kF f g==wanted) H
def Xn{X:Cx}{k:Nat}{wanted:Bool}(JS:(op=.Eq/\wanted=ż)\/(op=.NotEq/\wanted=Ż))(K:qc)(hK:X.K=K)(hr:aG k X.A):bz X (Ĭ op) (LA K wanted):=by
 subst hK;intro pins s σ H x y v u Q I rx ry h;have(a,b,kvs,Eh,f,g,rfl,rfl,ea,eb,tf,tg,q):=h;cases rx;cases ry;have(_,ya,xs,ra,da):=qE I.bO I.aC ea;have(_,yb,ys,rb,db):=qE I.bO I.aC eb;exact zCS (nm := "") JS ya yb da db (Mm I.bO I.aC ra tf) (Mm I.bO I.aC rb tg) (by have:=hr.units;omega) ⟨.bl _,H,I,rfl,q⟩
section
def vf:U->Qb (Qa<|Qa Key×D)
 |.t kvs=>ž kvs
 |.d (.dict ds)=>if ko ds=ż then tN ds else Ž
 |_=>Ž
def sT:Qa (Qa Key×D)->Qb l0
 |[]=>ž []
 | (k,d)::r=>(dR d).bind λv=>(sT r).bind λr=>ž<|(k,v)::r
def B2(wanted:Bool)(u v:U):Qb U:=(vf u).bind λa=>(vf v).bind λb=>(sT a).bind λf=>(sT b).bind λg=>ž<|.d<|.bool<|kF f g==wanted
def Ml{u:U}{kvs:Qa (Qa Key×D)}(h:Rp K H v u)(e:vf u=ž kvs):∃a ws,v=.ref a/\Rd H a (.dT ws)/\fA K H ws kvs:=by
 unfold vf at e;split at e
 .cases e
  have(a,ws,rfl,h1,h2):=h;exact⟨a,ws,rfl,.inl h1,h2⟩
 .split at e
  .rename_i nx
   have(a,o,ws,rfl,h1,h2):=DF.du h nx;exact⟨a,ws,rfl,.inr ⟨o,h1⟩,Hs h2 e⟩
  .cases e
 .cases e
def Mk{kvs:Qa (Qa Key×D)}{f:l0}(t:fA K H ws kvs)(e:sT kvs=ž f):EW K H ws f:=by
 induction t generalizing f with
 |nil=>cases e;exact .nil
 | @cons _ kd _ r hq _ ih=>
  have(k,d):=kd;have(v,ev,e):=bQ (show(dR d).bind _=ž f from e);have(r',er,e):=bQ e;cases e;have(b,e2,tb):=yH hq.2 ev;exact .cons ⟨hq.1,b,e2,tb⟩<|ih er
def Yc{wanted:Bool}:VO K (LA K wanted) (B2 wanted):=by
 intro x y a b u H Q ha hb e q;have(k1,e1,e):=bQ e;have(k2,e2,e):=bQ e;have(f,e3,e):=bQ e;have(g,e4,e):=bQ e;cases e;have(c,ws,rfl,h1,h2):=Ml ha e1;have(c',ws',rfl,h3,h4):=Ml hb e2;exact⟨c,c',ws,ws',f,g,rfl,rfl,h1,h3,Mk h2 e3,Mk h4 e4,q _ _ (λ_ _ z=>z) (.bl _) Nw.data⟩
end
end Internal
namespace Internal
open PySem PySem.Spec PyProof.Rows
def Sm:∀{us:Qa α},us.length=1->∃a,us=[a]
 |[a],_=>⟨a,rfl⟩
def BF:∀{us:Qa α},us.length=2->∃a b,us=[a,b]
 |[a,b],_=>⟨a,b,rfl⟩
def ID{us:Qa α}(h:us.length=3):∃a b c,us=[a,b,c]:=by
 cases us with
 |nil=>cases h
 |cons a us=>
  have(b,c,rfl):=BF (Ϙ h);exact⟨a,b,c,rfl⟩
def IC{us:Qa α}(h:us.length=4):∃a b c d,us=[a,b,c,d]:=by
 cases us with
 |nil=>cases h
 |cons a us=>
  have(b,c,d,rfl):=ID (Ϙ h);exact⟨a,b,c,d,rfl⟩
def Sl{us:Qa α}(h:us.length=5):∃a b c d e,us=[a,b,c,d,e]:=by
 cases us with
 |nil=>cases h
 |cons a us=>
  have(b,c,d,e,rfl):=IC (Ϙ h);exact⟨a,b,c,d,e,rfl⟩
structure Zs where
 P:Qe
 w:Qh
 K:qc
 mg:Str->Qb Qc
 base:ĵ
def cU(K:qc)(x:Str)(st:ū):Prop:=∃(f:Qg) (fd:Ϣ),jS K x x st f fd/\Ī K Ģ x=ž (ž<|.ref f)
def fnK{f:Qg}{oc:Qc}{od an:Qb Qg}{kV doc pm bo ct:Qc}(a:Ī K Ģ x=ž (ž<|.ref f))(l:K.lookup f=ž ⟨oc,od,.func<|ό x x (sF st) (j0 st) (zN st) .none kV doc pm an bo ct,mX⟩)
  (c:a0k K bo x=ż) (k:ň K (.ref f)=ż):cU K x st:=⟨f,_,MR l c k,a⟩
def cZ(Z:Zs)(x:Str)(st:ū):Prop:=∃(f:Qg) (fd:Ϣ),jS Z.K x x st f fd/\Z.mg x=ž (.ref f)
def cU.z(a:cU K x st)(X:K.In h)(G:h.Ns Ģ mg):cZ ⟨P,w,K,mg,base⟩ x st:=by
 have(f,fd,F,g):=a;exact⟨f,fd,F,ô X G g⟩
abbrev Zs.C(Z:Zs)(x:Str)(k:Nat)(ps:Qa Str)(n:Nat)(F:FD):Prop:=KS Z.P Z.w Z.K Z.mg Z.base x k ps (qX Z.K n F)
abbrev Zs.X(Z:Zs)(x:Str)(k:Nat)(ps:Qa Str)(n:Nat)(F:FX):Prop:=Bv Z.P Z.w Z.K Z.mg Z.base x k ps (IY Z.K n F)
section
variable{Z:Zs}{k nn:Nat}{m:MS}{f:Qg}
abbrev Lf(Z:Zs)(x:Str)(st:ū)(k:Nat)(pn:Qa Nat)(m:MS)(N:Qa Str)(f:Qg):Prop:=∀{bo:Qc} {A:Qf} {outer:Qa Env} {s:Qd} {H:Hp} {E:XK},N.Nodup->aG k (A.deeper<|a0z x (zN st) s.heap.objs.size f bo)->
 ∃t,VS Z.K pn KQ t m/\Wr (fu (jV iS Z.P Z.w Z.K Z.mg Z.base N x (zN st) f bo A outer s H E).uz (j0 st) t)
abbrev zCV(Z:Zs)(x:Str)(st:ū)(k:Nat)(pn:Qa Nat)(m:MS)(N:Qa Str)(f:Qg):Prop:=∀{bo:Qc} {A:Qf} {outer:Qa Env} {s:Qd} {H:Hp} {E:XK},N.Nodup->aG k (A.deeper<|a0z x (zN st) s.heap.objs.size f bo)->
 qD (jV (rM Z.P Z.w Z.K) Z.P Z.w Z.K Z.mg Z.base N x (zN st) f bo A outer s H E) (Bt E)->
 ∃t,VS Z.K pn (Bt E) t m/\Wr (fu (jV (rM Z.P Z.w Z.K) Z.P Z.w Z.K Z.mg Z.base N x (zN st) f bo A outer s H E) (j0 st) t)
def Tc(F:jS Z.K x x st f fd)(N:Qa Str)(bP:Lf Z x st k pn m N f)(S:bA N ps (zN st):=by exact⟨rfl,rfl,rfl,by decide +kernel,rfl,by decide +kernel,by decide +kernel⟩)(uN:ps.length=n:=by rfl)(hN:N.length=nn:=by rfl)(nX:n<=nn:=by decide):
  bU Z.P Z.w Z.K Z.mg Z.base iS (k+1) f fd ps (qX Z.K n<|cQ nn pn m):=F.okV S uN hN nX λbo A outer s H E hr=>let ⟨t,a,b⟩:=bP S.nd hr;⟨t,b,a⟩
def dH(A:cZ Z x st)(N:Qa Str)(bP:∀{f},Lf Z x st k pn m N f)(S:bA N ps (zN st):=by exact⟨rfl,rfl,rfl,by decide +kernel,rfl,by decide +kernel,by decide +kernel⟩)(uN:ps.length=n:=by rfl)(hN:N.length=nn:=by rfl)(nX:n<=nn:=by decide)
  (hb:∀(kV doc pm:Qc) (an:Qb Qg) (bo ct:Qc) (us:Qa Qc),us.length=ps.length->bindArgs (ό x x (sF st) (j0 st) (zN st) .none kV doc pm an bo ct) ⟨us,[]⟩=pure (ps.zip us):=by
   intro _ _ _ _ _ _ us hl
   first
   | (have(_,rfl):=Sm hl;rfl)
   | (have(_,_,rfl):=BF hl;rfl)
   | (have(_,_,_,rfl):=ID hl;rfl)
   | (have(_,_,_,_,rfl):=IC hl;rfl)
   | (have(_,_,_,_,_,rfl):=Sl hl;rfl)
   | (cases(ć hl);rfl)):Z.C x (k+1) ps n (cQ nn pn m):=
 let ⟨f,fd,F,g⟩:=A;⟨⟨f,fd,Tc F N bP S uN hN nX,F.binds hb,F.kp,g⟩⟩
def Sk(A:cZ Z x st)(N:Qa Str)(bP:∀{f},zCV Z x st k pn m N f)(S:bA N ps (zN st):=by exact⟨rfl,rfl,rfl,by decide +kernel,rfl,by decide +kernel,by decide +kernel⟩)(uN:ps.length=n:=by rfl)(hN:N.length=nn:=by rfl)(nX:n<=nn:=by decide)
  (hb:∀(kV doc pm:Qc) (an:Qb Qg) (bo ct:Qc) (us:Qa Qc),us.length=ps.length->bindArgs (ό x x (sF st) (j0 st) (zN st) .none kV doc pm an bo ct) ⟨us,[]⟩=pure (ps.zip us):=by
   intro _ _ _ _ _ _ us hl
   first
   | (have(_,rfl):=Sm hl;rfl)
   | (have(_,_,rfl):=BF hl;rfl)
   | (have(_,_,_,rfl):=ID hl;rfl)
   | (have(_,_,_,_,rfl):=IC hl;rfl)
   | (have(_,_,_,_,_,rfl):=Sl hl;rfl)
   | (cases(ć hl);rfl)):Z.X x (k+1) ps n (xP nn pn m):=
 let ⟨f,fd,F,g⟩:=A;⟨⟨f,fd,F.okX S uN hN nX λbo A outer s H E hr hx=>let ⟨t,a,b⟩:=bP S.nd hr hx;⟨t,b,a⟩,F.binds hb,F.kp,g⟩⟩
end
end Internal
namespace Internal
open PySem
section
variable{a:α}{f:α->Qb β}{R:β->Prop}{t:Ph f}
def V8:Wo (ž a) (Co f t R)=Wo (f a) R:=gf
def V7{x:Fl}{Q:Fl->Prop}{P:En->Prop}:Wo (ž x) (tU Q P)=tU Q P x:=gf
end
end Internal
namespace Internal
open PySem PySem.Spec PyProof.Rows
end Internal
namespace Internal
open PySem PySem.Spec
def Tt(b:Bool):Prop:=b=ż
def V6{b:Bool}(h:b=ż):Tt b:=h
noncomputable def xA(ρ:En)(i:Nat):Bool:=((ρ[i]?).join).isSome
noncomputable def gt(ρ:En)(i:Nat):U:=((ρ[i]?).join).getD (.d .none)
def zCX{ρ:En}:gt ρ i=((ρ[i]?).join).getD (.d .none):=rfl
def zCY{u v:U}:(ž u:Qb U).getD v=u:=rfl
def M3{ρ:En}(h:xA ρ i=ż):(ρ[i]?).join=ž (gt ρ i):=by
 unfold xA at h;unfold gt;cases e:(ρ[i]?).join with
 |none=>rw[e]at h;cases h
 |some u=>rfl
def vg(ρ:En):Ar->Bool
 |.s i=>xA ρ i
 |.u _=>ż
def ag(ρ:En):Ar->U
 |.s i=>gt ρ i
 |.u x=>x
def zCZ{ρ:En}:ag ρ (.s i)=gt ρ i:=rfl
def zC0{ρ:En}{x:U}:ag ρ (.u x)=x:=rfl
def CT{ρ:En}{a:Ar}(h:vg ρ a=ż):a.get ρ=ž (ag ρ a):=by
 cases a with
 |s i=>exact M3 h
 |u x=>rfl
def gs(ρ:En)(as:Qa Ar):Qa U:=as.map (ag ρ)
def zC1{ρ:En}:gs ρ []=[]:=rfl
def zC2{ρ:En}{a:Ar}{as:Qa Ar}:gs ρ (a::as)=ag ρ a::gs ρ as:=rfl
def GB{ρ:En}:∀{as:Qa Ar},as.all (vg ρ)=ż->bY ρ as=ž (gs ρ as)
 |[],_=>rfl
 |a::as,h=>by
  rw[ω,ϓ]at h;rw[Qu,CT h.1,bd,GB h.2];rfl
noncomputable def KG{α:Type}(m:En->Qb α)(ρ:En):Qb α:=m ρ
def Cu(ρ:En)(t:Ph ρ)(Q:Ar×En->Prop)(u:U):Prop:=Q (.u u,ρ)
def Cw(ρ:En)(as:Qa Ar)(t:Ph ρ)(Q:Ar×En->Prop)(o:U×Qa U):Prop:=Q (.u o.1,wb ρ as o.2)
def Jy(f:U->Qb U)(p:Ar×En):Qb (Ar×En):=(p.1.get p.2).bind λx=>(f x).bind λu=>ž (.u u,p.2)
noncomputable def Le(mA:MA)(p:Ar×En):Qb (Qa Ar×En):=(mA p.2).bind λq=>ž (p.1::q.1,q.2)
noncomputable def Mj(a:Ar)(q:Qa Ar×En):Qb (Qa Ar×En):=ž (a::q.1,q.2)
def JA(f:Qa U->Qb U)(p:Qa Ar×En):Qb (Ar×En):=(bY p.2 p.1).bind λus=>(f us).bind λu=>ž (.u u,p.2)
def BE(f:FD)(p:Qa Ar×En):Qb (Ar×En):=if gI p.2 p.1=ż then(bY p.2 p.1).bind λus=>(f us).bind λo=>ž (.u o.1,wb p.2 p.1 o.2)else Ž
def IB(i:Nat)(p:Ar×En):Qb Fl:=(put p).bind λq=>ž<|.nx<|q.2.set i<|some q.1
def kB(p:Ar×En):Qb (Bool×En):=(p.1.get p.2).bind λu=>u.m8.bind λb=>ž (b,p.2)
noncomputable def Ej(m1 m2:MS)(p:Bool×En):Qb Fl:=if p.1=ż then m1 p.2 else m2 p.2
noncomputable def Ld(p:Ar×En):Qb Fl:=ž (.nx p.2)
section
variable{γ:Type}{ρ:En}{ma mb me:ME}{mA:MA}{mt:MT}{m1 m2:MS}{u x y:U}{d:D}{a b:Ar}{as:Qa Ar}{f:U->Qb U}{f2:U->U->Qb U}{fl:Qa U->Qb U}{F:FD}
variable{QE:Ar×En->Prop}{QA:Qa Ar×En->Prop}{QT:Bool×En->Prop}{QS:Fl->Prop}
def V5{m:En->Qb α}{Q:α->Prop}:Wo (KG m ρ) Q=Wo (m ρ) Q:=rfl
def V4{g:Ar×En->Qb β}{t:Ph ρ}{t2:Ph g}{R:β->Prop}:Cu ρ t (Co g t2 R) u=Wo (g (.u u,ρ)) R:=rfl
def Z2{g:Ar×En->Qb β}{t:Ph g}{R:β->Prop}(h:Tt (xA ρ i)):Wo (zi i ρ) (Co g t R)=Wo (g (.s i,ρ)) R:=by
 rw[N9,M3 h,gf,kZ,gf];rfl
def zC3{g:Ar×En->Qb β}{t:Ph g}{R:β->Prop}:Wo (mC d ρ) (Co g t R)=Wo (g (.u<|.d d,ρ)) R:=SN
def zpu(h:Tt (vg ρ a && vg ρ b)):Wo (By f2 a (b,ρ)) QE=Wo (f2 (ag ρ a)<|ag ρ b) (Cu ρ ⟨0⟩ QE):=by
 have(h1,h2):=Bool.and_eq_true_iff.mp h;unfold By;rw[CT h1,bd,CT h2,bd,zr];exact congrArg (Wo _)<|funext λ_=>gf
def V3:Wo (cn f ma ρ) QE=Wo (ma ρ) (Co (Jy f) ⟨0⟩ QE):=zCM
def Z1(h:Tt (vg ρ a)):Wo (Jy f (a,ρ)) QE=Wo (f<|ag ρ a) (Cu ρ ⟨0⟩ QE):=by
 unfold Jy;rw[CT h,bd,zr];exact congrArg (Wo _)<|funext λ_=>gf
def zpv:Wo (ze me mA ρ) QA=Wo (me ρ) (Co (Le mA) ⟨0⟩ QA):=XR
def zmf:Wo (Le mA (a,ρ)) QA=Wo (mA ρ) (Co (Mj a) ⟨0⟩ QA):=zr
def zjF{g:Qa Ar×En->Qb β}{t:Ph g}{R:β->Prop}:Wo (Mj a (as,ρ)) (Co g t R)=Wo (g (a::as,ρ)) R:=gf
def Z0{g:Qa Ar×En->Qb β}{t:Ph g}{R:β->Prop}:Wo (zo ρ) (Co g t R)=Wo (g ([],ρ)) R:=N8
def V1:Wo (bW fl mA ρ) QE=Wo (mA ρ) (Co (JA fl) ⟨0⟩ QE):=zCN
def ZZ(h:Tt (as.all<|vg ρ)):Wo (JA fl (as,ρ)) QE=Wo (fl<|gs ρ as) (Cu ρ ⟨0⟩ QE):=by
 unfold JA;rw[GB h,bd,zr];exact congrArg (Wo _)<|funext λ_=>gf
def ZY:Wo (aR F mA ρ) QE=Wo (mA ρ) (Co (BE F) ⟨0⟩ QE):=zAv
def zpw(h:Tt (gI ρ as && as.all (vg ρ))):Wo (BE F (as,ρ)) QE=Wo (F<|gs ρ as) (Cw ρ as ⟨0⟩ QE):=by
 have(h1,h2):=Bool.and_eq_true_iff.mp h;unfold BE;rw[a6P h1,GB h2,bd,zr];exact congrArg (Wo _)<|funext λ_=>gf
def VZ{us:Qa U}{g:Ar×En->Qb β}{t:Ph ρ}{t2:Ph g}{R:β->Prop}:Cw ρ as t (Co g t2 R) (u,us)=Wo (g (.u u,wb ρ as us)) R:=rfl
def ZX:Wo (aU i me ρ) QS=Wo (me ρ) (Co (IB i) ⟨0⟩ QS):=zAw
def zpx{t:Ph (pQ m2)}:Wo (IB i (.u u,ρ)) (Co (pQ m2) t QS)=Wo (KG m2<|ρ.set i<|some u) QS:=gf
def zC4:Wo (mB me ρ) QT=Wo (me ρ) (Co kB ⟨0⟩ QT):=zDC
def VY{c:Bool}{g:Bool×En->Qb β}{t:Ph g}{R:β->Prop}:Wo (kB (.u<|.d<|.bool c,ρ)) (Co g t R)=Wo (g (c,ρ)) R:=gf
def ZW:Wo (bL mt m1 m2 ρ) QS=Wo (mt ρ) (Co (Ej m1 m2) ⟨0⟩ QS):=zAx
def ZV:Wo (Ej m1 m2 (ż,ρ)) QS=Wo (m1 ρ) QS:=rfl
def ZU:Wo (Ej m1 m2 (Ż,ρ)) QS=Wo (m2 ρ) QS:=rfl
def zpy:Wo (jG me ρ) QS=Wo (me ρ) (Co Ld ⟨0⟩ QS):=XQ
def zpz{t:Ph (pQ m2)}:Wo (bV ρ) (Co (pQ m2) t QS)=Wo (KG m2 ρ) QS:=Pl
def zpA{p:Qa Ar×En}:BE F p=if gI p.2 p.1=ż then(bY p.2 p.1).bind λus=>(F us).bind λo=>ž (.u o.1,wb p.2 p.1 o.2)else Ž:=rfl
def zpB{p:Ar×En}:IB i p=(put p).bind λq=>ž (.nx<|q.2.set i<|some q.1):=rfl
def VW{p:Ar×En}:kB p=(p.1.get p.2).bind λu=>u.m8.bind λb=>ž (b,p.2):=rfl
def zt0{p:Bool×En}:Ej m1 m2 p=if p.1=ż then m1 p.2 else m2 p.2:=rfl
def zmg{p:Ar×En}:Ld p=ž (.nx p.2):=rfl
end
end Internal
namespace Internal
open PySem PySem.Spec PyProof.Rows
abbrev KX(K:qc)(H:Hp):Qa (Qa K3×V)->Qa (Qa K3×Qg×Qc)->Prop:=Γ λp q=>p.1=q.1/\N3 K H p.1 q.2.1/\zU p.2 q.2.2
noncomputable def U.fl(c f:Str):U->Qb (Qa D)
 |.o c' fs=>if c'=c then(match fs.lookup f with|some (.l xs)=>ž xs|_=>Ž)else Ž
 |_=>Ž
def PP(K:qc)(H:Hp):HO->PU->Prop
 |.lst us,.l xs=>aQ K H us xs
 |.dT us,.t xs=>fA K H us xs
 |.dX us,.x xs=>fA K H us xs
 |_,_=>False
noncomputable def PU.part:PU->Bool
 |.d _=>Ż
 |_=>ż
noncomputable def U.fp(c f:Str):U->Qb PU
 |.o c' fs=>if c'=c then fs.lookup f else Ž
 |_=>Ž
noncomputable def PU.xs:PU->Qb (Qa<|Qa K3×D)
 |.x kvs=>ž kvs
 |_=>Ž
noncomputable def PU.ls:PU->Qb (Qa D)
 |.l xs=>ž xs
 |_=>Ž
structure KN (P:Qe) (w:Qh) (K:qc) (mg:Str->Qb Qc) (base:ĵ) (c:Str) (m:Str) (k:Nat) (ps:Qa Str) (sp:Sp):Prop where
 ex:∃(C f:Qg) (fd:Ϣ),XN K c C/\E9 K C/\bU P w K mg base iS k f fd ps sp/\kY K fd ps []/\KJ K C m f
def zAP:TE:=λ_ H Q=>∀p,H p=Ž->Q (.ref p) (upd H p<|.dX [])
def PU.new:PU->TE
 |.l _=>BI pX
 |.t _=>CO
 |_=>zAP
def PU.ho:PU->HO
 |.l _=>.lst []
 |.t _=>.dT []
 |_=>.dX []
noncomputable def PU.nil:PU->Bool
 |.l []=>ż
 |.t []=>ż
 |.x []=>ż
 |_=>Ż
abbrev Zs.M(Z:Zs)(c x:Str)(k:Nat)(ps:Qa Str)(n:Nat)(F:FD):Prop:=KN Z.P Z.w Z.K Z.mg Z.base c x k ps (qX Z.K n F)
noncomputable def lsN:U->Qb (Qa D)
 |.l xs=>ž xs
 |.d (.list xs)=>ž xs
 |_=>Ž
def zqX(l:Qg)(items:Array Qc)(n:Nat)(sl:Array (Qb Qc))(b:Qg)(aX:Array Qc)(n2:Nat)(pf:Array (Qb Qc))(hc0:items.size+aX.size<=Ĕ):
  Meets (Builtin.«list.__add__» ⟨[.ref l,.ref b],[]⟩) (λ_ R s=>s.heap.get? l=ž {cls:=.type "list",dict:=Ž,data:=.seq items n,slots:=sl}/\s.heap.get? b=ž {cls:=.type "list",dict:=Ž,data:=.seq aX n2,slots:=pf}/\R (.ok<|.ret<|.ref s.heap.objs.size) {s with heap:=s.heap.push {cls:=.type "list",data:=.seq (items++aX)},toks:=s.toks}):=
 .of_wp λprog w A R s h=>by
  have(hp,g,d,tk,os):=s;have(hl,hb,h):=h;have f1:=PySem.AutoSeq1.idx_int;have f2:=PySem.AutoSeq1.sub_tuple_tuple;have f3:=PySem.AutoSeq1.sub_list_list;have f4:=PySem.AutoSeq1.sub_tuple_list;have f5:=PySem.AutoSeq1.sub_list_tuple
  wp_walk using Œ hl,Œ hb
  exact⟨_,rfl,h⟩
section
variable{X:Cx}
def Lc(K:qc):R2:=λx y H Q=>∃l b xs zs,x=.ref l/\y=.ref b/\b9 K H l xs/\b9 K H b zs/\xs.length+zs.length<=Ĕ/\∀p,H p=Ž->Q (.ref p) (upd H p<|.lst<|xs++zs)
def Yb(hK:X.K=K:=by rfl):bz X (Ŷ .Add) (Lc K):=by
 subst hK;intro pins s σ H x y v u Q I rx ry h;have(l,b,xs,zs,rfl,rfl,hH,hB,hz,q):=h;cases rx;cases ry;obtain⟨ai,r,⟨o,n,e,c1,d1,t1⟩,_⟩:=I.list hH;obtain⟨gT,r2,⟨o2,n2,e2,c2,d2,t2⟩,_⟩:=I.list hB;have(cls,dd,data,sl):=o;have(Ba,ve,data2,pf):=o2;simp only at c1 d1 t1 c2 d2 t2;subst c1 d1 t1 c2 d2 t2;have l1:=r.length;have l2:=r2.length;have ea:ai.toArray++gT.toArray=(ai++gT).toArray:=by simp
 refine a3l ⟨_,e,rfl⟩ ⟨_,e2,rfl⟩ noFill_list_add seq_list_add F.slot_list_add F.entry_list_add (F.args_list_add_2 _ _) (zqX l ai.toArray n sl b gT.toArray n2 pf (by rw[ě,ě];omega)) ⟨e,e2,?_⟩;rw[ea];exact⟨.ref _,_,I.Jv (t':=s.toks) (r.append r2) (by rw[qr];omega),rfl,q _ I.fresh⟩
end
def FV(u w:U):Qb U:=(lsN u).bind λxs=>(lsN w).bind λys=>if xs.length+ys.length<=Ĕ then ž (.l<|xs++ys)else Ž
def Mv{u:U}{xs:Qa D}(p:Rp K H v u)(h:lsN u=ž xs):∃a us,v=.ref a/\b9 K H a us/\aQ K H us xs:=by
 unfold lsN at h;split at h
 .cases h
  have(a,us,rfl,h1,h2):=p;exact⟨a,us,rfl,b9.of h1,h2⟩
 .cases h
  have(b,vy,rfl,h2,d2):=DF.lst_inv p;exact⟨b,vy,rfl,PL.sq h2,d2⟩
 .cases h
def Ya:VO K (Lc K) FV:=by
 intro x y a b u H Q ha hb e q;have(xs,ex,e):=bQ e;have(ys,ey,e):=bQ e;split at e
 .rename_i hz
  cases e;have(p,us,rfl,h1,h2):=Mv ha ex;have(p',nH,rfl,lN,i9):=Mv hb ey;refine⟨p,p',us,nH,rfl,rfl,h1,lN,by rw[h2.len,i9.len];exact hz,λr hr=>?_⟩;have s:=iz hr (.lst<|us++nH);exact q _ _ s ⟨r,_,rfl,zz,(h2.app i9).kp s.kp⟩ λ_=>⟨r,rfl,hr⟩
 .cases e
open PySem.AutoSeq1 (wpAny_loadPart')
open MeetsSeq MeetsSeq2 MeetsSeq3 SeqRoads2
end Internal
namespace Internal
open PySem PySem.Spec PyProof.Rows
noncomputable def Cx.JD(X:Cx):Cx:={X with A:=X.A.in1,xe:=λ_ _=>False}
end Internal
namespace Internal
open PySem PySem.Spec PySem.W PyProof.Rows
end Internal
namespace Internal
open PySem PySem.Spec PyProof.Rows
end Internal
namespace Internal
open PySem PySem.Spec PySem.W PyProof.Rows
structure fU (prog:Qe) (w:Qh) (A:Qf) (s:Qd) (κ:a3n) (ah:Array ġ) (r:ġ->Int):Prop where
 ask:∀x∈ah.toList,∀y∈ah.toList,∀C:Bool->Qd->Prop,C (decide<|r x < r y) s->ĕ (Ę prog w) A (keyLt' κ x.1 y.1) C (λ_ _=>False) s
 nd:(ah.toList.map r).Nodup
structure SS (κ:a3n) (ah:Array ġ) (st:ĩ):Prop where
 perm:(Ħ st).Perm ah
 kind:ş st=κ
 failed:Τ st=Ž
noncomputable def R(r:ġ->Int)(xs:Array ġ)(i:Nat):Int:=match xs[i]? with
 |some x=>r x
 |none=>0
def Seg(r:ġ->Int)(xs:Array ġ)(lo hi:Nat):Prop:=∀i j,lo<=i->i < j->j < hi->R r xs i < R r xs j
def iB{xs ys:Array ġ}(h:xs[i]?=ys[j]?):R r xs i=R r ys j:=by unfold R;rw[h]
def dG{xs:Array ġ}{x:ġ}(h:xs[i]?=ž x):R r xs i=r x:=by unfold R;rw[h]
def Seg.up{xs:Array ġ}{lo:Nat}{v:Int}(h:Seg r xs lo hi)(h1:lo<=i)(cY:i<=j)(hj:j < hi)(hv:v < R r xs i):v < R r xs j:=by
 rcases a5W cY with c|rfl
 .exact Int.lt_trans hv (h i j h1 c hj)
 .exact hv
def Seg.dn{xs:Array ġ}{lo:Nat}{v:Int}(h:Seg r xs lo hi)(h1:lo<=i)(cY:i<=j)(hj:j < hi)(hv:R r xs j < v):R r xs i < v:=by
 rcases a5W cY with c|rfl
 .exact Int.lt_trans (h i j h1 c hj) hv
 .exact hv
def Hn{xs:Array ġ}{src d:Nat}(hs:src < xs.size)(hd:d<=src)(k:Nat):
  R r (a4E xs src d) k=if k=src - d then R r xs src else if src - d < k/\k<=src then R r xs (k - 1)else R r xs k:=by
 have e:=getElem?_bubble hs d hd k
 by_cases h1:k=src - d
 .rw[a6P h1]at e ⊢;exact iB e
 .rw[a6Q h1]at e ⊢
  by_cases h2:src - d < k/\k<=src
  .rw[a6P h2]at e ⊢;exact iB e
  .rw[a6Q h2]at e ⊢;exact iB e
def zC5{xs:Array ġ}{src d p:Nat}(hs:src < xs.size)(hp:p+d=src):
  (∀q,q < p->R r (a4E xs src d) q=R r xs q)/\R r (a4E xs src d) p=R r xs src/\∀q,p<=q->q < src->R r (a4E xs src d) (q+1)=R r xs q:=by
 subst hp;have hd:=a1v d p;refine⟨λq hq=>?_,?_,λq h1 h2=>?_⟩
 .rw[Hn hs hd,š,a6Q<|qj hq,a6Q λz=>absurd z.1<|Nat.lt_asymm hq]
 .rw[Hn hs hd,š,a6P rfl]
 .rw[Hn hs hd,š,a6Q<|Nat.ne_of_gt<|a2J h1,a6P ⟨a2J h1,h2⟩,š]
def zt3{xs:Array ġ}(hj:j<=xs.size)(k:Nat):
  R r (mirror xs i j<|(j - i) / 2) k=if i<=k/\k < j then R r xs (i+j - 1 - k)else R r xs k:=by
 have e:=getElem?_mirror_all (i:=i) hj k
 by_cases h1:i<=k/\k < j
 .rw[a6P h1]at e ⊢;exact iB e
 .rw[a6Q h1]at e ⊢;exact iB e
structure il (lo hi:Nat) (st au:ĩ):Prop where
 perm:(Ħ au).Perm (Ħ st)
 out:∀k,k < lo\/hi<=k->(Ħ au)[k]?=(Ħ st)[k]?
 kind:ş au=ş st
 failed:Τ au=Τ st
 pend:Ġ au=Ġ st
def il.refl{lo:Nat}{st:ĩ}:il lo hi st st:=⟨a0O _,λ_ _=>rfl,rfl,rfl,rfl⟩
def il.trans{lo:Nat}{st cW:ĩ}(h:il lo hi st au)(h':il lo hi au cW):il lo hi st cW :=
 ⟨h'.perm.trans h.perm,λk hk=>(h'.out k hk).trans<|h.out k hk,h'.kind.trans h.kind,h'.failed.trans h.failed,h'.pend.trans h.pend⟩
def il.wide{lo uE iP:Nat}{st:ĩ}(h:il lo hi st au)(h1:uE<=lo)(h2:hi<=iP):il uE iP st au :=
 ⟨h.perm,λk hk=>h.out k (by omega),h.kind,h.failed,h.pend⟩
section
variable{st:ĩ}{lo:Nat}
def SS.size(h:SS κ ah st):(Ħ st).size=ah.size:=h.perm.size_eq
def SS.chg(h:SS κ ah st)(c:il lo hi st au):SS κ ah au:=⟨c.perm.trans h.perm,c.kind.trans h.kind,c.failed.trans h.failed⟩
def SS.mem(h:SS κ ah st){x:ġ}(e:(Ħ st)[i]?=ž x):x∈ah.toList :=
 (ì.mp h.perm).mem_iff.mp (by have(hi,rfl):=Ñ.mp e;simp)
def SS.at(h:SS κ ah st)(hi:i < ah.size):∃x,(Ħ st)[i]?=ž x:=⟨_,getElem?_pos _ i (by rw[h.size];exact hi)⟩
def SS.ne(h:SS κ ah st)(S:fU prog w A s κ ah r)(hi:i < ah.size)(hj:j < ah.size)(e:i≠j):R r (Ħ st) i≠R r (Ħ st) j:=by
 have nd:((Ħ st).toList.map r).Nodup:=((ì.mp h.perm).map r).nodup_iff.mpr S.nd;have(x,ex):=h.at hi;have(y,ey):=h.at hj;rw[dG ex,dG ey];intro z;have lx:i < ((Ħ st).toList.map r).length:=by simp[h.size,hi]
 have ly:j < ((Ħ st).toList.map r).length:=by simp[h.size,hj]
 have(_,e1):=Ñ.mp ex;have(_,e2):=Ñ.mp ey;have e3:((Ħ st).toList.map r)[i]=((Ħ st).toList.map r)[j]:=by simp[e1,e2,z]
 have pw:=á.mp nd;rcases a5V e with eJ|eJ
 .exact pw i j lx ly eJ e3
 .exact pw j i ly lx eJ e3.symm
def xT{x y:ġ}{Q:Qb Bool->ĩ->Prop}(S:fU prog w A s κ ah r)(hk:ş st=κ)(hx:x∈ah.toList)(hy:y∈ah.toList)(h:Q (ž<|decide<|r x < r y) st):wpS (Ę prog w) A E s (lt' x y) Q st:=by
 rw[lt'_eq];refine ė<|a1g ?_;rw[hk];refine ė<|a2k<|Ρ<|Ŝ (S.ask x hx y hy (λb s'=>s'=s/\b=decide (r x < r y)) ⟨rfl,rfl⟩) (λb s' hb=>?_) λ_ _ z=>z.elim;have(rfl,rfl):=hb;exact⟨rfl,Ğ h⟩
def gk{x:ġ}{Q:ġ->ĩ->Prop}(e:arr[i]?=ž x)(h:Q x st):wpS (Ę prog w) A E s (Η arr i) Q st:=by
 rw[elem'_eq,e];exact Ğ h
def yk{Q:Qb Bool->ĩ->Prop}(S:fU prog w A s κ ah r)(hB:SS κ ah st)(hi:i < ah.size)(hj:j < ah.size)(h:Q (ž<|decide<|R r (Ħ st) i < R r (Ħ st) j) st):wpS (Ę prog w) A E s (ltAt' i j) Q st:=by
 have(x,ex):=hB.at hi;have(y,ey):=hB.at hj;rw[dG ex,dG ey]at h;rw[ltAt'_eq];refine ė<|a1g ?_;show wpS _ _ _ _ (do let x <-Η (Ħ st) i;let y <-Η (Ħ st) j;lt' x y) Q st;exact ė<|gk ex<|ė<|gk ey<|xT S hB.kind (hB.mem ex) (hB.mem ey) h
def zC6{Q:Unit->ĩ->Prop}(hj:j<=(Ħ st).size)(h:∀au,il i j st au->(∀k,R r (Ħ au) k=if i<=k/\k < j then R r (Ħ st) (i+j - 1 - k)else R r (Ħ st) k)->Q () au):wpS (Ę prog w) A E s (reverseSlice' i j) Q st:=by
 rw[reverseSlice'_eq];refine Β<|h _ ⟨mirror_perm _ _ _ _,λk hk=>?_,rfl,rfl,rfl⟩ λk=>zt3 hj k;show(mirror (Ħ st) i j<|(j - i) / 2)[k]?=_;rw[getElem?_mirror_all hj,a6Q (by omega)]
def UW(r:ġ->Int)(xs:Array ġ)(lo hi:Nat):Prop:=∀i j,lo<=i->i < j->j < hi->R r xs j < R r xs i
def Lb{a bN:Nat}{Q:AscSt->ĩ->Prop}{f:Nat->AscSt->StateT ĩ Sem (ForInStep AscSt)}(S:fU prog w A s κ ah r)(hn:lo+bN<=ah.size)(ha:1<=a)(han:a<=bN)(hB:SS κ ah st)
  (hs:Seg r (Ħ st) lo (lo+a)) (hf:∀i c,f i c=(do
   let je <-ltAt' (lo+c.snd) (lo+c.snd - 1)
   match je with
   |some iE=>if iE=ż then pure (Ϧ (Ž,c.snd))else pure (Ű (Ž,c.snd+1))
   |_=>pure<|Ϧ (ž Ž,c.snd)))
  (h:∀n,a<=n->n<=bN->Seg r (Ħ st) lo (lo+n)->(n=bN\/R r (Ħ st) (lo+n) < R r (Ħ st) (lo+n - 1))->Q (Ž,n) st):
  wpS (Ę prog w) A E s (forIn [a:bN] (Ž,a) f) Q st:=by
 refine Ŕ (I:=λx c au=>au=st/\c=(Ž,x)/\Seg r (Ħ st) lo (lo+x)) ?step ?fin ⟨rfl,rfl,hs⟩
 case fin=>
  rintro c au ⟨rfl,rfl,dE⟩;rw[show max a bN=bN by omega]at dE ⊢;exact h bN han (qe _) dE<|.inl rfl
 case step=>
  rintro x c au T2 hxn ⟨rfl,rfl,dE⟩;rw[hf];dsimp only;refine ė<|yk S hB (by omega) (by omega) ?_
  by_cases cX:R r (Ħ au) (lo+x) < R r (Ħ au) (lo+x - 1)
  .rw[a6R cX]
   simp only[if_true];exact Ğ<|h x T2 (by omega) dE<|.inr cX
  .rw[a6S cX]
   simp only[ĥ,if_false];refine Ğ ⟨rfl,rfl,λi j lL cY hj=>?_⟩
   by_cases JY:j < lo+x
   .exact dE i j lL cY JY
   .have lM:j=lo+x:=by omega
    subst lM;have ne:=hB.ne S (i:=lo+x) (j:=lo+x - 1) (by omega) (by omega) (by omega)
    by_cases iP:i=lo+x - 1
    .subst iP;omega
    .have:=dE i (lo+x - 1) lL (by omega) (by omega)
     omega
def Mu{bN:Nat}{Q:Qb Nat->ĩ->Prop}{f:Nat->AscSt->StateT ĩ Sem (ForInStep AscSt)}{T:AscSt->StateT ĩ Sem (Qb Nat)}(S:fU prog w A s κ ah r)(hn:lo+bN<=ah.size)(m1:2<=m)(m2:m<=bN)(hB:SS κ ah st)
  (hd:UW r (Ħ st) lo (lo+m)) (hf:∀i c,f i c=(do
   let je <-ltAt' (lo+c.snd) (lo+c.snd - 1)
   match je with
   |some iE=>if iE=ż then pure (Ϧ (Ž,c.snd))else pure (Ű (Ž,c.snd+1))
   |_=>pure<|Ϧ (ž Ž,c.snd))) (hT:∀n,T (Ž,n)=pure (ž n))
  (h:∀m au,il lo (lo+bN) st au->1<=m->m<=bN->Seg r (Ħ au) lo (lo+m)->Q (ž m) au):
  wpS (Ę prog w) A E s (do reverseSlice' lo (lo+m);let KC <-forIn [m:bN] (Ž,m) f;T KC) Q st:=by
 refine ė<|zC6 (r:=r) (by rw[hB.size];omega) λbM c2 e2=>?_;refine ė<|Lb S hn (by omega) m2 (hB.chg c2) (λi j lL cY hj=>?_) hf λk k1 k2 hk _=>?_
 .rw[e2,e2,a6P (by omega),a6P (by omega)]
  exact hd _ _ (by omega) (by omega) (by omega)
 .rw[hT]
  exact Ğ<|h k bM (c2.wide (qe _) (by omega)) (by omega) k2 hk
def znG{bN:Nat}{Q:Qb Nat->ĩ->Prop}(S:fU prog w A s κ ah r)(hn:lo+bN<=ah.size)(h1:1<=bN)(hB:SS κ ah st)
  (h:∀m au,il lo (lo+bN) st au->1<=m->m<=bN->Seg r (Ħ au) lo (lo+m)->Q (ž m) au):wpS (Ę prog w) A E s (countRun' lo bN) Q st:=by
 rw[countRun'_eq];refine ė<|Lb S hn (qe 1) h1 hB (λi j _ _ _=>by omega) (λi c=>rfl) λn n1 n2 JO hor=>?_;dsimp only
 by_cases nX:n=bN
 .rw[a6P (by simpa using nX)]
  exact Ğ<|h n st il.refl n1 n2 JO
 .rw[a6Q (by simpa using nX)]
  have eJ:=hor.resolve_left nX
  by_cases EA:n > 1
  .rw[a6P EA]
   refine ė<|yk S hB (by omega) (by omega) ?_;rw[a6R<|JO lo (lo+n - 1) (qe _) (by omega) (by omega)];simp only[if_true];exact Ğ<|h n st il.refl n1 n2 JO
  .rw[a6Q EA]
   have AM:n=1:=by omega
   subst AM;refine ė<|a2k<|ų ⟨rfl,?_⟩;refine ė<|Ŕ (I:=λx c au=>au=st/\c=(Ž,x,0)/\UW r (Ħ st) lo (lo+x)) ?step ?fin ⟨rfl,rfl,?init⟩
   case init=>
    intro i j lL cY hj;have e1:i=lo:=by omega
    have e2:j=lo+1:=by omega
    subst e1 e2;exact eJ
   case step=>
    rintro x c au T2 hxn ⟨rfl,rfl,dE⟩;dsimp only;refine ė<|yk S hB (by omega) (by omega) ?_
    by_cases cX:R r (Ħ au) (lo+x) < R r (Ħ au) (lo+x - 1)
    .rw[a6R cX]
     simp only[if_true];rw[a6Q (by omega)];refine Ğ ⟨rfl,rfl,λi j lL cY hj=>?_⟩
     by_cases JY:j < lo+x
     .exact dE i j lL cY JY
     .have lM:j=lo+x:=by omega
      subst lM
      by_cases iP:i=lo+x - 1
      .subst iP;exact cX
      .have:=dE i (lo+x - 1) lL (by omega) (by omega)
       omega
    .rw[a6S cX]
     simp only[ĥ,if_false];have ne:=hB.ne S (i:=lo+x) (j:=lo+x - 1) (by omega) (by omega) (by omega);refine ė<|yk S hB (by omega) (by omega) ?_;rw[a6R (by omega)];simp only[if_true];refine Ğ ?_;dsimp only;rw[a6Q<|a4j 0];exact Mu S hn (by omega) (by omega) hB dE (λ_ _=>rfl) (λ_=>rfl) h
   case fin=>
    rintro c au ⟨rfl,rfl,dE⟩;rw[show max (1+1) bN=bN by omega]at dE ⊢;dsimp only;rw[a6Q<|a4j 0];exact Mu S hn (by omega) (qe _) hB dE (λ_ _=>rfl) (λ_=>rfl) h
def zkJ{ok:Nat}{Q:Bool->ĩ->Prop}(S:fU prog w A s κ ah r)(hn:lo+n<=ah.size)(aC:ok<=n)(hB:SS κ ah st)(hs:Seg r (Ħ st) lo (lo+ok))
  (h:∀au,il lo (lo+n) st au->Seg r (Ħ au) lo (lo+n)->Q ż au):wpS (Ę prog w) A E s (binarySort' lo n ok) Q st:=by
 rw[binarySort'_eq];refine ė<|Ť (Ŕ (I:=λk c au=>c=(Ž,())/\il lo (lo+n) st au/\Seg r (Ħ au) lo (lo+min k n))
  (Q:=λc au=>c=(Ž,())/\il lo (lo+n) st au/\Seg r (Ħ au) lo (lo+n)) ?step ?fin ?init) ?post
 case post=>
  rintro c au ⟨rfl,c1,dE⟩;exact Ğ<|h au c1 dE
 case init=>
  refine⟨rfl,il.refl,λi j lL cY hj=>?_⟩;exact hs i j lL cY (by omega)
 case fin=>
  rintro c au ⟨hc,c1,dE⟩;refine⟨hc,c1,?_⟩
  rwa[show min (max (max ok 1) n) n=n by omega]at dE
 case step=>
  rintro k c au hak hkn ⟨rfl,c1,dE⟩;rw[show min k n=k by omega]at dE;have Kl:=hB.chg c1;have hk:lo+k < ah.size:=by omega
  refine ė<|Ť (Ŕ (I:=λx c cW=>cW=au/\∃l rr,c=(Ž,l,rr)/\l<=rr/\rr<=k/\rr+x<=k+l/\
    (∀q,lo<=q->q < lo+l->R r (Ħ au) q < R r (Ħ au) (lo+k))/\(∀q,lo+rr<=q->q < lo+k->R r (Ħ au) (lo+k) < R r (Ħ au) q))
   (Q:=λc cW=>cW=au/\∃l rr,c=(Ž,l,rr)/\l<=k/\
    (∀q,lo<=q->q < lo+l->R r (Ħ au) q < R r (Ħ au) (lo+k))/\(∀q,lo+l<=q->q < lo+k->R r (Ħ au) (lo+k) < R r (Ħ au) q)) ?AD ?JG ?AF) ?AE
  case AF=>exact⟨rfl,0,k,rfl,À _,qe _,by omega,λq h1 h2=>absurd h2<|a6H h1,λq h1 h2=>absurd h2<|a6H h1⟩
  case JG=>
   rintro c cW ⟨rfl,l,rr,rfl,hlr,AH,hm,nY,xk⟩;have:l=rr:=by omega
   subst this;exact⟨rfl,l,l,rfl,AH,nY,xk⟩
  case AD=>
   rintro x c cW _ hxk ⟨rfl,l,rr,rfl,hlr,AH,hm,nY,xk⟩;dsimp only
   by_cases iQ:l>=rr
   .rw[a6P iQ]
    have:l=rr:=by omega
    subst this;exact Ğ ⟨rfl,l,l,rfl,AH,nY,xk⟩
   .rw[a6Q iQ]
    obtain⟨md,em⟩:∃md,(l+rr) / 2=md:=⟨_,rfl⟩;obtain⟨e1,e2⟩:l<=md/\md < rr:=by omega
    rw[em];clear em iQ;have mk:=qi e2 AH;have mL:=Ù mk lo;refine ė<|yk S Kl hk (ø mL hk) ?_
    by_cases cX:R r (Ħ cW) (lo+k) < R r (Ħ cW) (lo+md)
    .rw[a6R cX]
     simp only[if_true];exact Ğ ⟨rfl,l,md,rfl,e1,Û mk,by omega,nY,λq h1 h2=>dE.up (Ç _ _) h1 h2 cX⟩
    .rw[a6S cX]
     simp only[ĥ,if_false];have ne:=Kl.ne S hk (ø mL hk) (û mL);have EA:R r (Ħ cW) (lo+md) < R r (Ħ cW) (lo+k):=by omega
     exact Ğ ⟨rfl,md+1,rr,rfl,e2,AH,by omega,λq h1 h2=>dE.dn h1 (è h2) mL EA,xk⟩
  case AE=>
   rintro c cW ⟨rfl,l,rr,rfl,TH,nY,xk⟩;have(d,rfl):=Ò TH;show wpS _ _ _ _ (do moveDown' (lo+(l+d)) (lo+l);pure (Ű (Ž,()))) _ _;have TL:lo+(l+d) < (Ħ cW).size:=by rw[Kl.size];exact hk
   have hd:d<=lo+(l+d):=qx (a1v _ _) (a1v _ _);rw[moveDown'_eq,show lo+(l+d) - (lo+l)=d by rw[<-Ŧ,Ŋ]];refine ė<|Β<|Ğ ⟨rfl,c1.trans ⟨bubble_perm _ _ _,λq hq=>?_,rfl,rfl,rfl⟩,?_⟩
   .show(a4E (Ħ cW) (lo+(l+d)) d)[q]?=_
    rw[getElem?_bubble TL _ hd,<-Ŧ,š,a6Q (by omega),a6Q (by omega)]
   .rw[a3r hkn]
    intro i j lL cY hj;show R r (a4E (Ħ cW) (lo+(l+d)) d) i < R r (a4E (Ħ cW) (lo+(l+d)) d) j;have(b1,b2,b3):=zC5 (r:=r) TL (Ŧ lo l d);have dn:∀j,lo+l < j->∃j',j=j'+1:=λj h=>⟨j - 1,(Nat.sub_add_cancel<|Æ (À _) h).symm⟩;rcases a6k i (lo+l)with c|rfl|c
    .rw[b1 i c]
     rcases a6k j (lo+l)with e|rfl|e
     .rw[b1 j e];exact dE i j lL cY<|qi e<|ÿ TH _
     .rw[b2];exact nY i lL c
     .have(j,rfl):=dn j e
      rw[b3 j (δ e)<|a1n hj];exact dE i j lL (qi c<|è e)<|ą hj
    .have(j,rfl):=dn j cY
     rw[b2,b3 j (δ cY)<|a1n hj];exact xk j (è cY)<|ą hj
    .have(j,rfl):=dn j (ø c cY)
     have(i,rfl):=dn i c;have lM:=ą hj;have uS:=ą cY;rw[b3 i (δ c)<|a2I uS lM,b3 j (qx (δ c)<|Nat.le_of_lt uS) lM];exact dE i j (qx (Ç _ _)<|è c) uS lM
end
noncomputable def qL:Bool->ġ->Array ġ->Nat->Nat->Nat->StateT ĩ Sem (Qb Nat):=sortPriv% PySem.Builtin.gallop
noncomputable def ua(left:Bool)(key:ġ)(arr:Array ġ)(base i:Nat):StateT ĩ Sem (Qb Bool):=do
 let x <-Η arr (base+i)
 if left then lt' x key else return (<-lt' key x).map (!·)
def znH(left:Bool)(key:ġ)(arr:Array ġ)(base n hint:Nat):qL left key arr base n hint=(do
 let mut f7:=0
 let mut mY:=1
 let mut lo:=0
 let mut hi:=0
 let ž right <-ua left key arr base hint|return Ž
 if right then
  let gx:=n - hint
  for _ in [0:n] do
   if mY>=gx then break
   let ž more <-ua left key arr base (hint+mY) |return Ž
   if !more then break
   f7:=mY
   mY:=2 * mY+1
  lo:=hint+f7+1
  hi:=hint+min mY gx
 else
  let gx:=hint+1
  for _ in [0:n] do
   if mY>=gx then break
   let ž found <-ua left key arr base (hint - mY) |return Ž
   if found then break
   f7:=mY
   mY:=2 * mY+1
  lo:=hint+1 - min mY gx
  hi:=hint - f7
 for _ in [0:n] do
  if lo>=hi then break
  let m:=lo+(hi - lo) / 2
  let ž more <-ua left key arr base m|return Ž
  if more then lo:=m+1 else hi:=m
 return ž hi):=rfl
section
variable{st:ĩ}
def gL(r:ġ->Int)(left:Bool)(key:ġ)(arr:Array ġ)(base i:Nat):Bool:=if left=ż then decide (R r arr (base+i) < r key)else !decide (r key < R r arr (base+i))
def zt5{left:Bool}{key:ġ}{base:Nat}{x:ġ}{Q:Qb Bool->ĩ->Prop}(S:fU prog w A s κ ah r)(hk:ş st=κ)(i6:key∈ah.toList)(ex:arr[base+i]?=ž x)(hx:x∈ah.toList)
  (h:Q (ž<|gL r left key arr base i) st):wpS (Ę prog w) A E s (ua left key arr base i) Q st:=by
 unfold ua;refine ė<|gk ex ?_;unfold gL at h;rw[dG ex]at h;cases left
 .simp only[ĥ,if_false]at h ⊢
  exact ė<|xT S hk i6 hx<|Ğ h
 .simp only[if_true]at h ⊢
  exact xT S hk hx i6 h
abbrev FU:=Qb (Qb Nat)×Nat×Nat
def La{B:Nat->Bool}{lo:Nat}{Q:Qb Nat->ĩ->Prop}{f:Nat->FU->StateT ĩ Sem (ForInStep FU)}{T:FU->StateT ĩ Sem (Qb Nat)}
  (bw:∀{i:Nat} {Q:Qb Bool->ĩ->Prop},i < n->Q (ž<|B i) st->wpS (Ę prog w) A E s (ask i) Q st) (mono:∀i j,i<=j->j < n->B j=ż->B i=ż)
  (hf:∀i c,f i c=(if c.snd.fst>=c.snd.snd then pure (Ϧ (Ž,c.snd.fst,c.snd.snd))
   else do
    let je <-ask (c.snd.fst+(c.snd.snd - c.snd.fst) / 2)
    match je with
     |some more=>
      if more=ż then pure (Ű (Ž,c.snd.fst+(c.snd.snd - c.snd.fst) / 2+1,c.snd.snd))
      else pure (Ű (Ž,c.snd.fst,c.snd.fst+(c.snd.snd - c.snd.fst) / 2))
     |x=>pure<|Ϧ (ž Ž,c.snd.fst,c.snd.snd))) (hT:∀l k,T (Ž,l,k)=pure (ž k))
  (h1:lo<=hi) (h2:hi<=n) (ht:∀i,i < lo->B i=ż) (hff:∀i,hi<=i->i < n->B i=Ż)
  (h:∀k,k<=n->(∀i,i < k->B i=ż)->(∀i,k<=i->i < n->B i=Ż)->Q (ž k) st):wpS (Ę prog w) A E s (do let KC <-forIn [0:n] (Ž,lo,hi) f;T KC) Q st:=by
 refine ė<|Ť (Ŕ (I:=λx c au=>au=st/\∃l k,c=(Ž,l,k)/\l<=k/\k<=n/\k+x<=n+l/\(∀i,i < l->B i=ż)/\(∀i,k<=i->i < n->B i=Ż))
  (Q:=λc au=>au=st/\∃k,c=(Ž,k,k)/\k<=n/\(∀i,i < k->B i=ż)/\(∀i,k<=i->i < n->B i=Ż)) ?step ?fin ⟨rfl,lo,hi,rfl,h1,h2,by omega,ht,hff⟩) ?post
 case post=>
  rintro c au ⟨rfl,k,rfl,k1,k2,k3⟩;rw[hT];exact Ğ<|h k k1 k2 k3
 case fin=>
  rintro c au ⟨rfl,l,k,rfl,a1,a2,a3,a4,a5⟩;have:l=k:=by omega
  subst this;exact⟨rfl,l,rfl,a2,a4,a5⟩
 case step=>
  rintro x c au _ hx ⟨rfl,l,k,rfl,a1,a2,a3,a4,a5⟩;rw[hf];dsimp only
  by_cases iQ:l>=k
  .rw[a6P iQ]
   have:l=k:=by omega
   subst this;exact Ğ ⟨rfl,l,rfl,a2,a4,a5⟩
  .rw[a6Q iQ]
   obtain⟨md,em⟩:∃md,l+(k - l) / 2=md:=⟨_,rfl⟩;obtain⟨e1,e2⟩:l<=md/\md < k:=by omega
   rw[em];clear em iQ;have e3:=qi e2 a2;refine ė<|bw e3 ?_;cases e:B md with
   |true=>
    simp only[if_true];exact Ğ ⟨rfl,_,_,rfl,e2,a2,by omega,λi hi=>mono i md (è hi) e3 e,a5⟩
   |false=>
    simp only[ĥ,if_false];refine Ğ ⟨rfl,_,_,rfl,e1,Û e3,by omega,a4,λi hi hn=>?_⟩;cases e2:B i with
    |false=>rfl
    |true=>rw[mono md i hi hn e2]at e;cases e
def zt7{left:Bool}{key:ġ}{base hint:Nat}{Q:Qb Nat->ĩ->Prop}(S:fU prog w A s κ ah r)(hk:ş st=κ)(i6:key∈ah.toList)(uW:∀i,i < n->∃x,arr[base+i]?=ž x/\x∈ah.toList)
  (mono:∀i j,i<=j->j < n->gL r left key arr base j=ż->gL r left key arr base i=ż) (hh:hint < n)
  (h:∀k,k<=n->(∀i,i < k->gL r left key arr base i=ż)->(∀i,k<=i->i < n->gL r left key arr base i=Ż)->Q (ž k) st):wpS (Ę prog w) A E s (qL left key arr base n hint) Q st:=by
 have bw:∀{i:Nat} {Q:Qb Bool->ĩ->Prop},i < n->Q (ž<|gL r left key arr base i) st->wpS (Ę prog w) A E s (ua left key arr base i) Q st:=λ{i Q} hi hq=>by
  have(x,ex,hx):=uW i hi;exact zt5 S hk i6 ex hx hq
 have Bg:∀i j,i<=j->j < n->gL r left key arr base i=Ż->gL r left key arr base j=Ż:=λi j cY hj hf=>by
  cases e:gL r left key arr base j with
  |false=>rfl
  |true=>rw[mono i j cY hj e]at hf;cases hf
 rw[znH];dsimp only;refine ė<|bw hh ?_;cases e0:gL r left key arr base hint with
 |true=>
  simp only[if_true];refine ė<|Ť (Ŕ (I:=λx c au=>au=st/\∃l o,c=(Ž,l,o)/\x+1<=o/\hint+l < n/\l < o/\gL r left key arr base (hint+l)=ż)
   (Q:=λc au=>au=st/\∃l o,c=(Ž,l,o)/\hint+l < n/\l < o/\gL r left key arr base (hint+l)=ż/\(o>=n - hint\/(hint+o < n/\gL r left key arr base (hint+o)=Ż))) ?step ?fin ⟨rfl,0,1,rfl,qe _,hh,Nat.zero_lt_one,e0⟩) ?post
  case fin=>
   rintro c au ⟨rfl,l,o,rfl,a1,a2,a3,a4⟩;exact⟨rfl,l,o,rfl,a2,a3,a4,.inl<|qx (a3N _ _)<|qx (a6J 0 n)<|Û a1⟩
  case step=>
   rintro x c au _ hx ⟨rfl,l,o,rfl,a1,a2,a3,a4⟩;dsimp only
   by_cases iQ:o>=n - hint
   .rw[a6P iQ]
    exact Ğ ⟨rfl,l,o,rfl,a2,a3,a4,.inl iQ⟩
   .rw[a6Q iQ]
    have w9:hint+o < n:=by omega
    refine ė<|bw w9 ?_;cases e:gL r left key arr base (hint+o)with
    |true=>
     simp only[ś,ĥ,if_false];exact Ğ ⟨rfl,_,_,rfl,by omega,w9,by omega,e⟩
    |false=>
     simp only[ϛ,if_true];exact Ğ ⟨rfl,l,o,rfl,a2,a3,a4,.inr ⟨w9,e⟩⟩
  case post=>
   rintro c au ⟨rfl,l,o,rfl,a2,a3,a4,a5⟩;dsimp only;obtain⟨mo,e,b1,b2,b3⟩:∃mo,min o (n - hint)=mo/\l < mo/\hint+mo<=n/\(mo=o\/hint+mo=n):=⟨_,rfl,by omega,by omega,by omega⟩;rw[e];refine La (B:=gL r left key arr base) bw mono (λ_ _=>rfl) (λ_ _=>rfl) (ÿ b1 hint) b2 (λi hi=>mono i (hint+l) (è hi) a2 a4) (λi hi hn=>?_) h;rcases b3 with rfl|b3
   .rcases a5 with z|⟨z1,z2⟩
    .omega
    .exact Bg (hint+mo) i hi hn z2
   .exact absurd (qx (đ b3.symm) hi) (a1f hn)
 |false=>
  simp only[ĥ,if_false];refine ė<|Ť (Ŕ (I:=λx c au=>au=st/\∃l o,c=(Ž,l,o)/\x+1<=o/\l<=hint/\l < o/\gL r left key arr base (hint - l)=Ż)
   (Q:=λc au=>au=st/\∃l o,c=(Ž,l,o)/\l<=hint/\l < o/\gL r left key arr base (hint - l)=Ż/\(o>=hint+1\/(o<=hint/\gL r left key arr base (hint - o)=ż))) ?step ?fin ⟨rfl,0,1,rfl,qe _,À _,Nat.zero_lt_one,e0⟩) ?post
  case fin=>
   rintro c au ⟨rfl,l,o,rfl,a1,a2,a3,a4⟩;exact⟨rfl,l,o,rfl,a2,a3,a4,.inl<|qx hh<|qx (a6J 0 n)<|Û a1⟩
  case step=>
   rintro x c au _ hx ⟨rfl,l,o,rfl,a1,a2,a3,a4⟩;dsimp only
   by_cases iQ:o>=hint+1
   .rw[a6P iQ]
    exact Ğ ⟨rfl,l,o,rfl,a2,a3,a4,.inl iQ⟩
   .rw[a6Q iQ]
    have w9:=è (Nat.lt_of_not_le iQ);refine ė<|bw (Æ (a3N _ _) hh) ?_;cases e:gL r left key arr base (hint - o)with
    |false=>
     simp only[ĥ,if_false];exact Ğ ⟨rfl,_,_,rfl,by omega,w9,by omega,e⟩
    |true=>
     simp only[if_true];exact Ğ ⟨rfl,l,o,rfl,a2,a3,a4,.inr ⟨w9,e⟩⟩
  case post=>
   rintro c au ⟨rfl,l,o,rfl,a2,a3,a4,a5⟩;dsimp only;obtain⟨lo,e,b1,b2⟩:∃lo,hint+1 - min o (hint+1)=lo/\lo<=hint - l/\(lo=0\/o<=hint/\lo=hint - o+1):=⟨_,rfl,by omega,by omega⟩;rw[e];refine La (B:=gL r left key arr base) bw mono (λ_ _=>rfl) (λ_ _=>rfl) b1 (qx (a3N _ _)<|Û hh) (λi hi=>?_) (λi hi hn=>Bg (hint - l) i hi hn a4) h;rcases b2 with rfl|⟨b2,rfl⟩
   .exact absurd hi (a1u _)
   .rcases a5 with z|⟨z1,z2⟩
    .exact absurd z (a1f<|a2J b2)
    .exact mono i (hint - o) (è hi) (Æ (a3N _ _) hh) z2
def wH{left:Bool}{key:ġ}{base hint e:Nat}{Q:Qb Nat->ĩ->Prop}(S:fU prog w A s κ ah r)(hk:ş st=κ)(i6:key∈ah.toList)(he:base+n=e)(uW:∀q,base<=q->q < e->∃x,arr[q]?=ž x/\x∈ah.toList)
  (sg:Seg r arr base e) (ne:∀q,base<=q->q < e->R r arr q≠r key) (hh:hint < n)
  (h:∀k,k<=n->(∀q,base<=q->q < base+k->R r arr q < r key)->(∀q,base+k<=q->q < e->r key < R r arr q)->Q (ž k) st):wpS (Ę prog w) A E s (qL left key arr base n hint) Q st:=by
 subst he;have bt:∀i,i < n->(gL r left key arr base i=ż↔R r arr (base+i) < r key):=λi hi=>by
  have:=ne (base+i) (Ç _ _) (Ù hi _);cases left
  .show(!decide (r key < R r arr (base+i)))=ż↔_
   rw[a0N,decide_eq_false_iff_not];omega
  .exact decide_eq_true_iff
 refine zt7 S hk i6 (λi hi=>uW _ (Ç _ _)<|Ù hi _) (λi j cY hj hb=>?_) hh λk k1 k2 k3=>h k k1 (λq q1 q2=>?_) λq q1 q2=>?_
 .rw[bt j hj]at hb
  rw[bt i<|a5X cY hj];exact sg.dn (Ç _ _) (ÿ cY _) (Ù hj _) hb
 .have(i,rfl):=Ò q1
  have hi:=â q2;exact(bt i<|qi hi k1).mp<|k2 i hi
 .have(i,rfl):=Ò (qx (Ç _ _) q1)
  have hi:=â q2;have h1:=ne _ (Ç _ _) q2;have h3:¬R r arr (base+i) < r key:=λz=>by
   have h2:=k3 i (Nat.le_of_add_le_add_left q1) hi;rw[(bt i hi).mpr z]at h2;cases h2
  omega
end
noncomputable def yX:Nat->StateT ĩ Sem Unit:=sortPriv% PySem.Builtin.setMinGallop
noncomputable abbrev eE(st:ĩ)(g:Nat):ĩ:=a4Q (ş st) (Ħ st) (Ġ st) g (Τ st)
def DL(g:Nat):yX g=modify λs=>eE s g:=rfl
noncomputable def Hm:Array ġ->Array ġ->StateT ĩ Sem (Array ġ):=sortPriv% PySem.Builtin.mergeLo
def oH(a b:Array ġ)(out:Array ġ)(ia ib:Nat):Array ġ:=out++a.extract ia a.size++b.extract ib b.size
def vW(a b:Array ġ)(out:Array ġ)(ia ib:Nat):Array ġ:=out++b.extract ib b.size++a.extract ia a.size
abbrev xF:=Qb (Array ġ)×Array ġ×Nat×Nat×Nat×Nat×Nat
abbrev Bq:=Qb (Array ġ)×Array ġ×Nat×Nat×Nat×Nat
abbrev Bj:=Qb (Array ġ)×Array ġ×Nat×Nat×Nat
noncomputable def BD(a b out:Array ġ)(ia ib mg ac bc:Nat):StateT ĩ Sem (ForInStep xF):=
 Η a ia >>= λx=>
 (if(ia+1+1==a.size)=ż then pure (.done (ž<|vW a b (out.push x) (ia+1) ib,out.push x,ia+1,ib,mg,ac,bc))
 else(if(decide (ac < 7) && decide (bc < 7))=ż then pure (.done (Ž,out.push x,ia+1,ib,mg,ac,bc))
 else pure (.yield (Ž,out.push x,ia+1,ib,mg,ac,bc))))
noncomputable def BC(a b out:Array ġ)(ia ib mg ac bc:Nat):StateT ĩ Sem (ForInStep xF):=
 Η b ib >>= λy=>
 (if(ib+1==b.size)=ż then pure (.done (ž<|oH a b (out.push y) ia<|ib+1,out.push y,ia,ib+1,mg,ac,bc))
 else(Η a ia >>= λx=>qL ż x b (ib+1) (b.size - (ib+1)) 0 >>= λje=>
  (match je with
  |some k=>(if k > 0 then
    (if(ib+1+k==b.size)=ż then pure (.done (ž<|oH a b (out.push y++b.extract (ib+1) (ib+1+k)) ia<|ib+1+k,out.push y++b.extract (ib+1) (ib+1+k),ia,ib+1+k,mg,ac,k))
    else BD a b (out.push y++b.extract (ib+1) (ib+1+k)) ia (ib+1+k) mg ac k)
   else BD a b (out.push y) ia (ib+1) mg ac k)
  |_=>pure<|.done (ž<|oH a b (out.push y) ia<|ib+1,out.push y,ia,ib+1,mg,ac,bc))))
noncomputable def BB(a b out:Array ġ)(ia ib mg ac bc:Nat):StateT ĩ Sem (ForInStep xF):=
 yX mg >>= λ_=>Η b ib >>= λy=>qL Ż y a ia (a.size - ia) 0 >>= λje=>
 (match je with
 |some k=>(if k > 0 then
   (if(ia+k+1==a.size)=ż then pure (.done (ž<|vW a b (out++a.extract ia (ia+k)) (ia+k) ib,out++a.extract ia (ia+k),ia+k,ib,mg,k,bc))
   else(if(ia+k==a.size)=ż then pure (.done (ž<|oH a b (out++a.extract ia (ia+k)) (ia+k) ib,out++a.extract ia (ia+k),ia+k,ib,mg,k,bc))
   else BC a b (out++a.extract ia (ia+k)) (ia+k) ib mg k bc))
  else BC a b out ia ib mg k bc)
 |_=>pure<|.done (ž<|oH a b out ia ib,out,ia,ib,mg,ac,bc))
noncomputable def IA(a b:Array ġ)(mg:Nat)(c:Bq):StateT ĩ Sem (ForInStep Bq):=
 Η b c.snd.snd.snd.fst >>= λy=>Η a c.snd.snd.fst >>= λx=>lt' y x >>= λje=>
 (match je with
 |some Bf=>(if Bf=ż then(Η b c.snd.snd.snd.fst >>= λy=>
   (if(c.snd.snd.snd.fst+1==b.size)=ż then pure (.done (ž<|oH a b (c.snd.fst.push y) c.snd.snd.fst<|c.snd.snd.snd.fst+1,c.snd.fst.push y,c.snd.snd.fst,c.snd.snd.snd.fst+1,0,c.snd.snd.snd.snd.snd+1))
   else(if c.snd.snd.snd.snd.snd+1>=mg then pure (.done (Ž,c.snd.fst.push y,c.snd.snd.fst,c.snd.snd.snd.fst+1,0,c.snd.snd.snd.snd.snd+1))
   else pure (.yield (Ž,c.snd.fst.push y,c.snd.snd.fst,c.snd.snd.snd.fst+1,0,c.snd.snd.snd.snd.snd+1)))))
  else(Η a c.snd.snd.fst >>= λx=>
   (if(c.snd.snd.fst+1+1==a.size)=ż then pure (.done (ž<|vW a b (c.snd.fst.push x) (c.snd.snd.fst+1) c.snd.snd.snd.fst,c.snd.fst.push x,c.snd.snd.fst+1,c.snd.snd.snd.fst,c.snd.snd.snd.snd.fst+1,0))
   else(if c.snd.snd.snd.snd.fst+1>=mg then pure (.done (Ž,c.snd.fst.push x,c.snd.snd.fst+1,c.snd.snd.snd.fst,c.snd.snd.snd.snd.fst+1,0))
   else pure (.yield (Ž,c.snd.fst.push x,c.snd.snd.fst+1,c.snd.snd.snd.fst,c.snd.snd.snd.snd.fst+1,0))))))
 |_=>pure<|.done (ž<|oH a b c.snd.fst c.snd.snd.fst c.snd.snd.snd.fst,c.snd.fst,c.snd.snd.fst,c.snd.snd.snd.fst,c.snd.snd.snd.snd.fst,c.snd.snd.snd.snd.snd))
noncomputable def Sv(a b:Array ġ)(c:Bj)(d:Bq):StateT ĩ Sem (ForInStep Bj):=
 (match d.fst with
 |some r=>pure<|.done (ž r,d.snd.fst,d.snd.snd.fst,d.snd.snd.snd.fst,c.snd.snd.snd.snd)
 |none=>(liftM (rule "list.sort.gallop") >>= λ(_:Unit)=>
  forIn [0:a.size+b.size] ((Ž,d.snd.fst,d.snd.snd.fst,d.snd.snd.snd.fst,c.snd.snd.snd.snd+1,d.snd.snd.snd.snd.fst,d.snd.snd.snd.snd.snd):xF) (λ_ e=>
   (if e.snd.snd.snd.snd.fst > 1 then BB a b e.snd.fst e.snd.snd.fst e.snd.snd.snd.fst (e.snd.snd.snd.snd.fst - 1) e.snd.snd.snd.snd.snd.fst e.snd.snd.snd.snd.snd.snd
   else BB a b e.snd.fst e.snd.snd.fst e.snd.snd.snd.fst e.snd.snd.snd.snd.fst e.snd.snd.snd.snd.snd.fst e.snd.snd.snd.snd.snd.snd)) >>= λe=>
  (match e.fst with
  |some r=>pure<|.done (ž r,e.snd.fst,e.snd.snd.fst,e.snd.snd.snd.fst,e.snd.snd.snd.snd.fst)
  |none=>(yX (e.snd.snd.snd.snd.fst+1) >>= λ_=>pure<|.yield (Ž,e.snd.fst,e.snd.snd.fst,e.snd.snd.snd.fst,e.snd.snd.snd.snd.fst+1)))))
noncomputable def Iz(a b:Array ġ)(c:Bj):StateT ĩ Sem (ForInStep Bj):=
 forIn [0:a.size+b.size] ((Ž,c.snd.fst,c.snd.snd.fst,c.snd.snd.snd.fst,0,0):Bq) (λ_ d=>IA a b c.snd.snd.snd.snd d) >>= Sv a b c
def zmi(a b:Array ġ):Hm a b=(do
 liftM (rule "list.sort.merge-lo")
 let x <-Η b 0
 if(1==b.size)=ż then pure (oH a b #[x] 0 1)
 else if(0+1==a.size)=ż then pure (vW a b #[x] 0 1)
 else do
  let st <-get
  let c <-forIn [0:a.size+b.size] ((Ž,#[x],0,1,Š st):Bj) λ_ c=>Iz a b c
  match c.fst with
  |some r=>pure r
  |none=>unsupported "internal:list.sort.merge-bound"):=by kernel_rfl
structure Mg (r:ġ->Int) (a b out:Array ġ) (ia ib:Nat):Prop where
 la:ia<=a.size
 lb:ib<=b.size
 perm:out.toList.Perm (a.toList.take ia++b.toList.take ib)
 up:out.toList.Pairwise λx y=>r x < r y
 ba:∀x∈out.toList,∀j,ia<=j->j < a.size->r x < R r a j
 bb:∀x∈out.toList,∀j,ib<=j->j < b.size->r x < R r b j
section
variable{a b out:Array ġ}{ia ib:Nat}
def Mg.swap(h:Mg r a b out ia ib):Mg r b a out ib ia:=⟨h.lb,h.la,h.perm.trans ĉ,h.up,h.bb,h.ba⟩
def Mg.push{x:ġ}(h:Mg r a b out ia ib)(ex:a[ia]?=ž x)(sa:Seg r a 0 a.size)(hb:∀j,ib<=j->j < b.size->r x < R r b j):Mg r a b (out.push x) (ia+1) ib:=by
 have(hi,e):=Ñ.mp ex;have rx:R r a ia=r x:=dG ex;refine⟨hi,h.lb,?_,?_,λy hy j h1 h2=>?_,λy hy j h1 h2=>?_⟩
 .rw[ő,a2x (by simpa using hi)]
  have e2:a.toList[ia]=x:=by simpa using e
  rw[e2];have h1:=h.perm.append_right [x];refine h1.trans ?_;rw[İ,İ];exact a3B _ ĉ
 .rw[ő]
  refine Ó.mpr ⟨h.up,ç _ _,λy hy z hz=>?_⟩;rw[qp.mp hz,<-rx];exact h.ba y hy ia (qe _) hi
 .rw[ő]at hy
  rcases Â.mp hy with hy|hy
  .exact h.ba y hy j (by omega) h2
  .rw[qp.mp hy,<-rx]
   exact sa ia j (À _) (by omega) h2
 .rw[ő]at hy
  rcases Â.mp hy with hy|hy
  .exact h.bb y hy j h1 h2
  .rw[qp.mp hy]
   exact hb j h1 h2
def Mg.app(sa:Seg r a 0 a.size):∀{k:Nat} {out:Array ġ} {ia:Nat},Mg r a b out ia ib->ia+k<=a.size->(∀i,i < k->∀j,ib<=j->j < b.size->R r a (ia+i) < R r b j)->Mg r a b (out++a.extract ia (ia+k)) (ia+k) ib
 |0,out,ia,h,hk,hb=>by
  have e:a.extract ia (ia+0)=#[]:=by
   apply Č;simp
  rw[e,a0s];exact h
 |k+1,out,ia,h,hk,hb=>by
  have hi:ia < a.size:=by omega
  have ex:a[ia]?=ž a[ia]:=getElem?_pos a ia hi;have h1:=h.push ex sa λj j1 j2=>by
   have:=hb 0 (by omega) j j1 j2;rw[ϻ,dG ex]at this;exact this
  have h2:=Mg.app sa (k:=k) h1 (by omega) λi hi j j1 j2=>by
   have:=hb (i+1) (by omega) j j1 j2
   rwa[show ia+(i+1)=ia+1+i by omega]at this
  have e:out++a.extract ia (ia+(k+1))=out.push a[ia]++a.extract (ia+1) (ia+1+k):=by
   apply Č;rw[ϗ,ϗ,ő,ϯ,ϯ,İ];congr 1;rw[ώ,ώ,show ia+(k+1) - ia=k+1 by omega,show ia+1+k - (ia+1)=k by omega,ŋ (by simpa using hi),List.take_succ_cons];simp
  rw[e,show ia+(k+1)=ia+1+k by omega];exact h2
def jj(r:ġ->Int)(a b o:Array ġ):Prop:=o.toList.Perm (a.toList++b.toList)/\o.toList.Pairwise λx y=>r x < r y
def Mg.fin(h:Mg r a b out a.size b.size):jj r a b out:=by
 have:=h.perm;rw[ŧ (by simp),ŧ (by simp)]at this;exact⟨this,h.up⟩
def Mg.done(h:Mg r a b out ia ib)(sa:Seg r a 0 a.size)(sb:Seg r b 0 b.size)(c:ia=a.size\/ib=b.size):jj r a b (oH a b out ia ib):=by
 have la:=h.la;have lb:=h.lb;unfold oH;rcases c with rfl|rfl
 .have e:a.extract a.size a.size=#[]:=by
   apply Č;simp
  rw[e,a0s];have:=(h.swap.app sb (k:=b.size - ib) (by omega) λi hi j h1 h2=>by omega).swap;rw[show ib+(b.size - ib)=b.size by omega]at this;exact this.fin
 .have h1:=h.app sa (k:=a.size - ia) (by omega) λi hi j h1 h2=>by omega
  rw[show ia+(a.size - ia)=a.size by omega]at h1;have e:b.extract b.size b.size=#[]:=by
   apply Č;simp
  rw[e,a0s];exact h1.fin
def Mg.last(h:Mg r a b out ia ib)(sa:Seg r a 0 a.size)(sb:Seg r b 0 b.size)(c:ia+1=a.size)(lst:∀j,j < b.size->R r b j < R r a (a.size - 1)):jj r a b (vW a b out ia ib):=by
 have lb:=h.lb;unfold vW;have h1:=(h.swap.app sb (k:=b.size - ib) (by omega) λi hi j h1 h2=>by
  rw[show j=a.size - 1 by omega];exact lst _ (by omega)).swap
 rw[show ib+(b.size - ib)=b.size by omega]at h1;have h2:=h1.app sa (k:=a.size - ia) (by omega) λi hi j h1 h2=>by omega
 rw[show ia+(a.size - ia)=a.size by omega]at h2;exact h2.fin
end
section
variable{st:ĩ}{a b:Array ġ}
structure iR (r:ġ->Int) (ah a b:Array ġ):Prop where
 ma:∀x∈a.toList,x∈ah.toList
 mb:∀x∈b.toList,x∈ah.toList
 sa:Seg r a 0 a.size
 sb:Seg r b 0 b.size
 ne:∀i j,i < a.size->j < b.size->R r a i≠R r b j
def iR.swap(h:iR r ah a b):iR r ah b a:=⟨h.mb,h.ma,h.sb,h.sa,λi j hi hj e=>h.ne j i hj hi e.symm⟩
def iR.at(h:iR r ah a b)(hi:i < a.size):∃x,a[i]?=ž x/\x∈ah.toList:=⟨a[i],getElem?_pos a i hi,h.ma _ (by simp)⟩
def kI(r:ġ->Int)(a b:Array ġ)(lo:Nat)(o:Qb (Array ġ))(out:Array ġ)(ia ib:Nat):Prop:=match o with
 |some o=>jj r a b o
 |none=>Mg r a b out ia ib/\ia+1 < a.size/\ib < b.size/\lo<=ia+ib
def GP(r:ġ->Int)(a b:Array ġ)(lo:Nat)(st:ĩ)(f:ForInStep xF)(au:ĩ):Prop:=(∃g,au=eE st g)/\match f with
 |.done c=>kI r a b lo c.1 c.2.1 c.2.2.1 c.2.2.2.1
 |.yield c=>c.1=Ž/\kI r a b lo Ž c.2.1 c.2.2.1 c.2.2.2.1
variable{out:Array ġ}{ia ib mg ac bc lo:Nat}
def Mt(T:iR r ah a b)(lst:∀j,j < b.size->R r b j < R r a (a.size - 1))(M:Mg r a b out ia ib)(h1:ia+1 < a.size)(h2:ib < b.size)(h3:lo<=ia+ib+1)(hx:∀j,ib<=j->j < b.size->R r a ia < R r b j):
  wpS (Ę prog w) A E s (BD a b out ia ib mg ac bc) (GP r a b lo st) st:=by
 unfold BD;have(x,ex,mx):=T.at (i:=ia) (by omega);refine ė<|gk ex ?_;have M1:=M.push ex T.sa λj j1 j2=>by
  rw[<-dG (r:=r) ex];exact hx j j1 j2
 by_cases c:ia+1+1=a.size
 .rw[a6P (by simpa using c)]
  exact Ğ ⟨⟨Š st,rfl⟩,M1.last T.sa T.sb c lst⟩
 .rw[a6Q (by simpa using c)]
  have ok:kI r a b lo Ž (out.push x) (ia+1) ib:=⟨M1,by omega,h2,by omega⟩;split
  .exact Ğ ⟨⟨Š st,rfl⟩,ok⟩
  .exact Ğ ⟨⟨Š st,rfl⟩,rfl,ok⟩
def Ms(S:fU prog w A s κ ah r)(hk:ş st=κ)(T:iR r ah a b)(lst:∀j,j < b.size->R r b j < R r a (a.size - 1))(M:Mg r a b out ia ib)(h1:ia+1 < a.size)(h2:ib < b.size)(h3:lo<=ia+ib+1)(hy:∀j,ia<=j->j < a.size->R r b ib < R r a j):
  wpS (Ę prog w) A E s (BC a b out ia ib mg ac bc) (GP r a b lo st) st:=by
 unfold BC;have(y,ey,my):=T.swap.at (i:=ib) h2;refine ė<|gk ey ?_;have M1:=(M.swap.push ey T.sb λj j1 j2=>by
  rw[<-dG (r:=r) ey];exact hy j j1 j2).swap
 by_cases c:ib+1=b.size
 .rw[a6P (by simpa using c)]
  exact Ğ ⟨⟨Š st,rfl⟩,M1.done T.sa T.sb<|.inr c⟩
 .rw[a6Q (by simpa using c)]
  have(x,ex,mx):=T.at (i:=ia) (by omega);have rx:R r a ia=r x:=dG ex;refine ė<|gk ex<|ė<|wH (e:=b.size) S hk mx (by omega) (λq _ q2=>T.swap.at q2) (λi j _ i2 i3=>T.sb i j (À _) i2 i3) (λq _ q2 z=>T.ne ia q (by omega) q2<|rx.trans z.symm) (by omega) λk k1 below above=>?_;rw[<-rx]at below above
  .dsimp only
   by_cases kp:k > 0
   .rw[a6P kp]
    have M2:=(M1.swap.app T.sb (k:=k) (by omega) λi hi j j1 j2=>T.sa.up (À _) j1 j2<|below _ (Ç _ _)<|Ù hi _).swap
    by_cases c2:ib+1+k=b.size
    .rw[a6P (by simpa using c2)]
     exact Ğ ⟨⟨Š st,rfl⟩,M2.done T.sa T.sb<|.inr c2⟩
    .rw[a6Q (by simpa using c2)]
     exact Mt T lst M2 h1 (by omega) (by omega) above
   .rw[a6Q kp]
    have k0:k=0:=by omega
    subst k0;exact Mt T lst M1 h1 (by omega) (by omega) above
def zAS(S:fU prog w A s κ ah r)(hk:ş st=κ)(T:iR r ah a b)(lst:∀j,j < b.size->R r b j < R r a (a.size - 1))(M:Mg r a b out ia ib)(h1:ia+1 < a.size)(h2:ib < b.size)(h3:lo<=ia+ib):
  wpS (Ę prog w) A E s (BB a b out ia ib mg ac bc) (GP r a b lo st) st:=by
 unfold BB;rw[DL];refine ė<|Β ?_;have(y,ey,my):=T.swap.at (i:=ib) h2;have ry:R r b ib=r y:=dG ey;refine ė<|gk ey<|ė<|wH (st:=eE st mg) (e:=a.size) S hk my (by omega) (λq _ q2=>T.at q2) (λi j _ i2 i3=>T.sa i j (À _) i2 i3) (λq _ q2 z=>T.ne q ib q2 h2<|z.trans ry.symm) (by omega) λk k1 below above=>?_;rw[<-ry]at below above
 .dsimp only
  have gp:∀{m:StateT ĩ Sem (ForInStep xF)},wpS (Ę prog w) A E s m (GP r a b lo<|eE st mg) (eE st mg)->wpS (Ę prog w) A E s m (GP r a b lo st) (eE st mg):=λh=>Ť h λc au hc=>by
   obtain⟨⟨g,rfl⟩,hc⟩:=hc;exact⟨⟨g,rfl⟩,hc⟩
  by_cases kp:k > 0
  .rw[a6P kp]
   have M1:=M.app T.sa (k:=k) (by omega) λi hi j j1 j2=>T.sb.up (À _) j1 j2<|below _ (Ç _ _)<|Ù hi _
   by_cases c1:ia+k+1=a.size
   .rw[a6P (by simpa using c1)]
    exact Ğ ⟨⟨mg,rfl⟩,M1.last T.sa T.sb c1 lst⟩
   .rw[a6Q (by simpa using c1)]
    by_cases c2:ia+k=a.size
    .rw[a6P (by simpa using c2)]
     exact Ğ ⟨⟨mg,rfl⟩,M1.done T.sa T.sb<|.inl c2⟩
    .rw[a6Q (by simpa using c2)]
     exact gp<|Ms S hk T lst M1 (by omega) h2 (by omega) above
  .rw[a6Q kp]
   have k0:k=0:=by omega
   subst k0;exact gp<|Ms S hk T lst M h1 h2 (by omega) above
def FP(r:ġ->Int)(a b:Array ġ)(lo:Nat)(st:ĩ)(f:ForInStep Bq)(au:ĩ):Prop:=au=st/\match f with
 |.done c=>kI r a b lo c.1 c.2.1 c.2.2.1 c.2.2.2.1
 |.yield c=>c.1=Ž/\kI r a b lo Ž c.2.1 c.2.2.1 c.2.2.2.1
def zAT(S:fU prog w A s κ ah r)(hk:ş st=κ)(T:iR r ah a b)(lst:∀j,j < b.size->R r b j < R r a (a.size - 1))(M:Mg r a b out ia ib)(h1:ia+1 < a.size)(h2:ib < b.size)(h3:lo<=ia+ib+1):
  wpS (Ę prog w) A E s (IA a b mg (Ž,out,ia,ib,ac,bc)) (FP r a b lo st) st:=by
 unfold IA;dsimp only;have(y,ey,my):=T.swap.at (i:=ib) h2;have(x,ex,mx):=T.at (i:=ia) (by omega);have rx:R r a ia=r x:=dG ex;have ry:R r b ib=r y:=dG ey;refine ė<|gk ey<|ė<|gk ex<|ė<|xT S hk my mx ?_
 by_cases c:r y < r x
 .rw[a6R c]
  dsimp only;rw[a6P rfl];refine ė<|gk ey ?_;have M1:=(M.swap.push ey T.sb λj j1 j2=>T.sa.up (À _) j1 j2 (by rw[rx];exact c)).swap
  by_cases c1:ib+1=b.size
  .rw[a6P (by simpa using c1)]
   exact Ğ ⟨rfl,M1.done T.sa T.sb<|.inr c1⟩
  .rw[a6Q (by simpa using c1)]
   have ok:kI r a b lo Ž (out.push y) ia (ib+1):=⟨M1,h1,by omega,by omega⟩;split
   .exact Ğ ⟨rfl,ok⟩
   .exact Ğ ⟨rfl,rfl,ok⟩
 .rw[a6S c]
  dsimp only;rw[a6Q qf];refine ė<|gk ex ?_;have ne:=T.ne ia ib (by omega) h2;have M1:=M.push ex T.sa λj j1 j2=>T.sb.up (À _) j1 j2 (by omega)
  by_cases c1:ia+1+1=a.size
  .rw[a6P (by simpa using c1)]
   exact Ğ ⟨rfl,M1.last T.sa T.sb c1 lst⟩
  .rw[a6Q (by simpa using c1)]
   have ok:kI r a b lo Ž (out.push x) (ia+1) ib:=⟨M1,by omega,h2,by omega⟩;split
   .exact Ğ ⟨rfl,ok⟩
   .exact Ğ ⟨rfl,rfl,ok⟩
def zAU(S:fU prog w A s κ ah r)(hk:ş st=κ)(T:iR r ah a b)(lst:∀j,j < b.size->R r b j < R r a (a.size - 1))(M:Mg r a b out ia ib)(h1:ia+1 < a.size)(h2:ib < b.size)(h3:lo<=ia+ib):
  wpS (Ę prog w) A E s (Iz a b (Ž,out,ia,ib,mg)) (λf au=>(∃g,au=eE st g)/\match f with
   |.done c=>∃o,c.1=ž o/\jj r a b o
   |.yield c=>c.1=Ž/\kI r a b (lo+1) Ž c.2.1 c.2.2.1 c.2.2.2.1) st:=by
 unfold Iz;dsimp only;refine ė<|Ť (Ŕ (I:=λx c au=>au=st/\c.1=Ž/\kI r a b (lo+min x 1) Ž c.2.1 c.2.2.1 c.2.2.2.1) (Q:=λc au=>au=st/\kI r a b (lo+1) c.1 c.2.1 c.2.2.1 c.2.2.2.1) ?step ?fin ⟨rfl,rfl,M,h1,h2,h3⟩) ?post
 case fin=>
  rintro⟨c,c1,c2,c3,c4,c5⟩ au ⟨kC,e,hc⟩;have e':c=Ž:=e;have gU:kI r a b (lo+min (max 0<|a.size+b.size) 1) Ž c1 c2 c3:=hc;rw[show min (max 0<|a.size+b.size) 1=1 by omega]at gU;subst e';exact⟨kC,gU⟩
 case step=>
  rintro x ⟨c,c1,c2,c3,c4,c5⟩ au _ hx ⟨rfl,e,hc⟩;dsimp only at e hc;subst e;have(q1,q2,q3,q4):=hc;refine Ť (zAT (lo:=lo+1) S hk T lst q1 q2 q3 (by omega)) λf bM hf=>?_;have(rfl,hf):=hf;cases f with
  |done d=>exact⟨rfl,hf⟩
  |yield d=>
   refine⟨rfl,hf.1,?_⟩;rw[show min (x+1) 1=1 by omega];exact hf.2
 case post=>
  rintro⟨d,d1,d2,d3,d4,d5⟩ au ⟨rfl,hd⟩;unfold Sv;dsimp only at hd ⊢;cases d with
  |some o=>exact Ğ ⟨⟨Š au,rfl⟩,o,rfl,hd⟩
  |none=>
   dsimp only;refine ė<|a2k<|ų ⟨rfl,?_⟩;refine ė<|Ť (Ŕ (I:=λx c bM=>(∃g,bM=eE au g)/\c.1=Ž/\kI r a b (lo+1) Ž c.2.1 c.2.2.1 c.2.2.2.1) (Q:=λc bM=>(∃g,bM=eE au g)/\kI r a b (lo+1) c.1 c.2.1 c.2.2.1 c.2.2.2.1) ?iW ?lO ⟨⟨Š au,rfl⟩,rfl,hd⟩) ?iZ
   case lO=>
    rintro⟨c,c1,c2,c3,c4,c5⟩ bM ⟨hg,e,hc⟩;dsimp only at e hc ⊢;subst e;exact⟨hg,hc⟩
   case iW=>
    rintro x ⟨c,c1,c2,c3,c4,c5,c6⟩ bM _ hx ⟨⟨g,rfl⟩,e,hc⟩;dsimp only at e hc ⊢;have(q1,q2,q3,q4):=hc;split
    all_goals
     refine Ť (zAS (st:=eE au g) (lo:=lo+1) S hk T lst q1 q2 q3 q4) λf iX hf=>?_;obtain⟨⟨g',rfl⟩,hf⟩:=hf;cases f with
     |done d=>exact⟨⟨g',rfl⟩,hf⟩
     |yield d=>exact⟨⟨g',rfl⟩,hf⟩
   case iZ=>
    rintro⟨e,e1,e2,e3,e4,e5,e6⟩ bM ⟨⟨g,rfl⟩,he⟩;dsimp only at he ⊢;cases e with
    |some o=>exact Ğ ⟨⟨g,rfl⟩,o,rfl,he⟩
    |none=>
     dsimp only;rw[DL];exact ė<|Β<|Ğ ⟨⟨_,rfl⟩,rfl,he⟩
def zqY{Q:Array ġ->ĩ->Prop}(S:fU prog w A s κ ah r)(hk:ş st=κ)(T:iR r ah a b)(a1:1<=a.size)(b1:1<=b.size)(first:R r b 0 < R r a 0)(lst:∀j,j < b.size->R r b j < R r a (a.size - 1))
  (h:∀o g,jj r a b o->Q o (eE st g)):wpS (Ę prog w) A E s (Hm a b) Q st:=by
 rw[zmi];refine ė<|a2k<|ų ⟨rfl,?_⟩;have(x0,e0,m0):=T.swap.at (i:=0) (by omega);refine ė<|gk e0 ?_;have M0:Mg r a b #[x0] 0 1:=by
  have:Mg r b a #[] 0 0:=⟨À _,À _,by simp,by simp,λx hx=>by simp at hx,λx hx=>by simp at hx⟩;exact(this.push e0 T.sb λj h1 h2=>by
   rw[<-dG (r:=r) e0];exact T.sa.up (À _) h1 h2 first).swap
 by_cases c1:1=b.size
 .rw[a6P (by simpa using c1)]
  exact Ğ<|h _ (Š st)<|M0.done T.sa T.sb<|.inr c1
 rw[a6Q (by simpa using c1)]
 by_cases c2:0+1=a.size
 .rw[a6P (by simpa using c2)]
  exact Ğ<|h _ (Š st)<|M0.last T.sa T.sb c2 lst
 rw[a6Q (by simpa using c2)];refine ė<|a1g ?_;refine ė<|Ť (Ŕ (I:=λx c au=>(∃g,au=eE st g)/\c.1=Ž/\kI r a b (x+1) Ž c.2.1 c.2.2.1 c.2.2.2.1) (Q:=λc au=>(∃g,au=eE st g)/\∃o,c.1=ž o/\jj r a b o) ?step ?fin ⟨⟨Š st,rfl⟩,rfl,M0,by show 0+1 < a.size;omega,by show 1 < b.size;omega,by show 0+1<=0+1;omega⟩) ?post
 case fin=>
  rintro⟨c,c1,c2,c3,c4⟩ au ⟨_,_,_,q2,q3,q4⟩;dsimp only at q2 q3 q4;omega
 case step=>
  rintro x ⟨c,c1,c2,c3,c4⟩ au _ hx ⟨⟨g,rfl⟩,e,q1,q2,q3,q4⟩;dsimp only at e q1 q2 q3 q4;subst e;refine Ť (zAU (st:=eE st g) S hk T lst q1 q2 q3 q4) λf iX hf=>?_;obtain⟨⟨g',rfl⟩,hf⟩:=hf;cases f with
  |done d=>exact⟨⟨g',rfl⟩,hf⟩
  |yield d=>exact⟨⟨g',rfl⟩,hf⟩
 case post=>
  rintro⟨c,c1⟩ au ⟨⟨g,rfl⟩,o,e,ho⟩;dsimp only at e;subst e;exact Ğ<|h o g ho
end
def kQ(a b:Array ġ)(out:Array ġ)(na nb:Nat):Array ġ:=a.extract 0 na++b.extract 0 nb++out.reverse
def yj(a b:Array ġ)(out:Array ġ)(na nb:Nat):Array ġ:=b.extract 0 nb++a.extract 0 na++out.reverse
noncomputable def Hl:Array ġ->Array ġ->StateT ĩ Sem (Array ġ):=sortPriv% PySem.Builtin.mergeHi
section
variable{a b out:Array ġ}{na nb:Nat}
structure Hg (r:ġ->Int) (a b out:Array ġ) (na nb:Nat):Prop where
 la:na<=a.size
 lb:nb<=b.size
 perm:out.toList.Perm (a.toList.drop na++b.toList.drop nb)
 up:out.toList.Pairwise λx y=>r y < r x
 ba:∀x∈out.toList,∀j,j < na->R r a j < r x
 bb:∀x∈out.toList,∀j,j < nb->R r b j < r x
def Hg.swap(h:Hg r a b out na nb):Hg r b a out nb na:=⟨h.lb,h.la,h.perm.trans ĉ,h.up,h.bb,h.ba⟩
def Hg.push{x:ġ}(h:Hg r a b out na nb)(sa:Seg r a 0 a.size)(h1:1<=na)(ex:a[na - 1]?=ž x)(hb:∀j,j < nb->R r b j < r x):Hg r a b (out.push x) (na - 1) nb:=by
 have(p,rfl):=Nat.exists_eq_add_of_le' h1;rw[š]at ex ⊢;have rx:R r a p=r x:=dG ex;have(hp,e):=Ñ.mp ex;refine⟨Û hp,h.lb,?_,?_,λy hy j j1=>?_,λy hy j j1=>?_⟩
 .rw[ő,ŋ (by simpa using hp)]
  have e2:a.toList[p]=x:=by simpa using e
  rw[e2];exact ĉ.trans<|h.perm.cons x
 .rw[ő]
  refine Ó.mpr ⟨h.up,ç _ _,λy hy z hz=>?_⟩;rw[qp.mp hz,<-rx];exact h.ba y hy p<|í _
 .rw[ő]at hy
  rcases Â.mp hy with hy|hy
  .exact h.ba y hy j (Ú j1)
  .rw[qp.mp hy,<-rx]
   exact sa j p (À _) j1 hp
 .rw[ő]at hy
  rcases Â.mp hy with hy|hy
  .exact h.bb y hy j j1
  .rw[qp.mp hy]
   exact hb j j1
def Hg.KA{c:Nat}(sa:Seg r a 0 a.size):∀{k:Nat} {out:Array ġ},Hg r a b out (c+k) nb->(∀i,c<=i->i < c+k->∀j,j < nb->R r b j < R r a i)->Hg r a b (out++(a.extract c<|c+k).reverse) c nb:=λ{k}=>by
 induction k with
 |zero=>
  intro out h _;have e:out++(a.extract c<|c+0).reverse=out:=by
   apply Č;simp
  rw[e];exact h
 |succ k ih=>
  intro out h hb;have hi:c+k < a.size:=h.la;have ex:a[c+k]?=ž a[c+k]:=getElem?_pos a _ hi;have h1:=h.push sa (a1v 1 _) ex λj j1=>by
   rw[<-dG (r:=r) ex];exact hb (c+k) (Ç _ _) (í _) j j1
  have e:out++(a.extract c<|c+(k+1)).reverse=out.push a[c+k]++(a.extract c<|c+k).reverse:=by
   apply Č;rw[ϗ,ϗ,ő,a1y,a1y,ϯ,ϯ,ώ,ώ,Ŋ,Ŋ,
    a2x (by rw[ŗ,ģ];omega),List.reverse_append,List.getElem_drop,İ]
   rfl
  rw[e];exact ih h1 λi i1 i2=>hb i i1<|Ú i2
def Hg.app{c:Nat}(h:Hg r a b out na nb)(sa:Seg r a 0 a.size)(hc:c<=na)(hb:∀i,c<=i->i < na->∀j,j < nb->R r b j < R r a i):Hg r a b (out++(a.extract c na).reverse) c nb:=by
 have(k,rfl):=Ò hc;exact Hg.KA sa h hb
def Hg.fin(h:Hg r a b out 0 0):jj r a b out.reverse:=by
 unfold jj;rw[a1y,List.pairwise_reverse];exact⟨(List.reverse_perm _).trans h.perm,h.up⟩
def Hg.done(h:Hg r a b out na nb)(sa:Seg r a 0 a.size)(sb:Seg r b 0 b.size)(c:na=0\/nb=0):jj r a b (kQ a b out na nb):=by
 have no:∀{j:Nat} {P:Prop},j < 0->P:=λh=>absurd h<|a1u _;rcases c with rfl|rfl
 .have h1:=(h.swap.app sb (À _) λi _ _ j=>no).swap.fin
  rw[a0b,η]at h1;have e:kQ a b out 0 nb=b.extract 0 nb++out.reverse:=by
   unfold kQ;rw[a5y,Array.empty_append]
  rw[e];exact h1
 .have h1:=(h.app sa (À _) λi _ _ j=>no).fin
  rw[a0b,η]at h1;have e:kQ a b out na 0=a.extract 0 na++out.reverse:=by
   unfold kQ;rw[a5y,a0s]
  rw[e];exact h1
def Hg.first(h:Hg r a b out na nb)(sa:Seg r a 0 a.size)(sb:Seg r b 0 b.size)(c:nb=1)(fst:∀j,j < a.size->R r b 0 < R r a j):jj r a b (yj a b out na nb):=by
 have la:=h.la;subst c;have h1:=h.app sa (À _) λi _ i2 j j1=>by
  cases Nat.lt_one_iff.mp j1;exact fst i<|qi i2 la
 have h2:=(h1.swap.app sb (À _) λi _ _ j j1=>absurd j1<|a1u _).swap.fin;rw[a0b,a0b,η,η,<-a5z]at h2;exact h2
end
abbrev xG:=Qb (Array ġ)×Nat×Nat×Array ġ×Nat×Nat×Nat
abbrev Br:=Qb (Array ġ)×Nat×Nat×Array ġ×Nat×Nat
abbrev Bk:=Qb (Array ġ)×Nat×Nat×Array ġ×Nat
noncomputable def EI(a b out:Array ġ)(na nb mg ac bc:Nat):StateT ĩ Sem (ForInStep xG):=
 Η a (na - 1) >>= λx=>
 (if(na - 1==0)=ż then pure (.done (ž<|kQ a b (out.push x) (na - 1) nb,na - 1,nb,out.push x,mg,ac,bc))
 else(if(decide (ac < 7) && decide (bc < 7))=ż then pure (.done (Ž,na - 1,nb,out.push x,mg,ac,bc))
 else pure (.yield (Ž,na - 1,nb,out.push x,mg,ac,bc))))
noncomputable def EJ(a b out:Array ġ)(na nb mg ac bc:Nat):StateT ĩ Sem (ForInStep xG):=
 Η b (nb - 1) >>= λy=>
 (if(nb - 1==1)=ż then pure (.done (ž<|yj a b (out.push y) na<|nb - 1,na,nb - 1,out.push y,mg,ac,bc))
 else(Η a (na - 1) >>= λx=>qL ż x b 0 (nb - 1) (nb - 1 - 1) >>= λje=>
  (match je with
  |some k=>(if nb - 1 - k > 0 then
    (if(k==1)=ż then pure (.done (ž<|yj a b (out.push y++(b.extract k<|nb - 1).reverse) na k,na,k,out.push y++(b.extract k<|nb - 1).reverse,mg,ac,nb - 1 - k))
    else(if(k==0)=ż then pure (.done (ž<|kQ a b (out.push y++(b.extract k<|nb - 1).reverse) na k,na,k,out.push y++(b.extract k<|nb - 1).reverse,mg,ac,nb - 1 - k))
    else EI a b (out.push y++(b.extract k<|nb - 1).reverse) na k mg ac (nb - 1 - k)))
   else EI a b (out.push y) na (nb - 1) mg ac (nb - 1 - k))
  |_=>pure<|.done (ž<|kQ a b (out.push y) na<|nb - 1,na,nb - 1,out.push y,mg,ac,bc))))
noncomputable def EK(a b out:Array ġ)(na nb mg ac bc:Nat):StateT ĩ Sem (ForInStep xG):=
 yX mg >>= λ_=>Η b (nb - 1) >>= λy=>qL Ż y a 0 na (na - 1) >>= λje=>
 (match je with
 |some k=>(if na - k > 0 then
   (if(k==0)=ż then pure (.done (ž<|kQ a b (out++(a.extract k na).reverse) k nb,k,nb,out++(a.extract k na).reverse,mg,na - k,bc))
   else EJ a b (out++(a.extract k na).reverse) k nb mg (na - k) bc)
  else EJ a b out na nb mg (na - k) bc)
 |_=>pure<|.done (ž<|kQ a b out na nb,na,nb,out,mg,ac,bc))
noncomputable def Kq(a b:Array ġ)(mg:Nat)(c:Br):StateT ĩ Sem (ForInStep Br):=
 Η b (c.snd.snd.fst - 1) >>= λy=>Η a (c.snd.fst - 1) >>= λx=>lt' y x >>= λje=>
 (match je with
 |some Bh=>(if Bh=ż then(Η a (c.snd.fst - 1) >>= λx=>
   (if(c.snd.fst - 1==0)=ż then pure (.done (ž<|kQ a b (c.snd.snd.snd.fst.push x) (c.snd.fst - 1) c.snd.snd.fst,c.snd.fst - 1,c.snd.snd.fst,c.snd.snd.snd.fst.push x,c.snd.snd.snd.snd.fst+1,0))
   else(if c.snd.snd.snd.snd.fst+1>=mg then pure (.done (Ž,c.snd.fst - 1,c.snd.snd.fst,c.snd.snd.snd.fst.push x,c.snd.snd.snd.snd.fst+1,0))
   else pure (.yield (Ž,c.snd.fst - 1,c.snd.snd.fst,c.snd.snd.snd.fst.push x,c.snd.snd.snd.snd.fst+1,0)))))
  else(Η b (c.snd.snd.fst - 1) >>= λy=>
   (if(c.snd.snd.fst - 1==1)=ż then pure (.done (ž<|yj a b (c.snd.snd.snd.fst.push y) c.snd.fst<|c.snd.snd.fst - 1,c.snd.fst,c.snd.snd.fst - 1,c.snd.snd.snd.fst.push y,0,c.snd.snd.snd.snd.snd+1))
   else(if c.snd.snd.snd.snd.snd+1>=mg then pure (.done (Ž,c.snd.fst,c.snd.snd.fst - 1,c.snd.snd.snd.fst.push y,0,c.snd.snd.snd.snd.snd+1))
   else pure (.yield (Ž,c.snd.fst,c.snd.snd.fst - 1,c.snd.snd.snd.fst.push y,0,c.snd.snd.snd.snd.snd+1))))))
 |_=>pure<|.done (ž<|kQ a b c.snd.snd.snd.fst c.snd.fst c.snd.snd.fst,c.snd.fst,c.snd.snd.fst,c.snd.snd.snd.fst,c.snd.snd.snd.snd.fst,c.snd.snd.snd.snd.snd))
noncomputable def Td(a b:Array ġ)(c:Bk)(d:Br):StateT ĩ Sem (ForInStep Bk):=
 (match d.fst with
 |some r=>pure<|.done (ž r,d.snd.fst,d.snd.snd.fst,d.snd.snd.snd.fst,c.snd.snd.snd.snd)
 |none=>(liftM (rule "list.sort.gallop") >>= λ(_:Unit)=>
  forIn [0:a.size+b.size] ((Ž,d.snd.fst,d.snd.snd.fst,d.snd.snd.snd.fst,c.snd.snd.snd.snd+1,d.snd.snd.snd.snd.fst,d.snd.snd.snd.snd.snd):xG) (λ_ e=>
   (if e.snd.snd.snd.snd.fst > 1 then EK a b e.snd.snd.snd.fst e.snd.fst e.snd.snd.fst (e.snd.snd.snd.snd.fst - 1) e.snd.snd.snd.snd.snd.fst e.snd.snd.snd.snd.snd.snd
   else EK a b e.snd.snd.snd.fst e.snd.fst e.snd.snd.fst e.snd.snd.snd.snd.fst e.snd.snd.snd.snd.snd.fst e.snd.snd.snd.snd.snd.snd)) >>= λe=>
  (match e.fst with
  |some r=>pure<|.done (ž r,e.snd.fst,e.snd.snd.fst,e.snd.snd.snd.fst,e.snd.snd.snd.snd.fst)
  |none=>(yX (e.snd.snd.snd.snd.fst+1) >>= λ_=>pure<|.yield (Ž,e.snd.fst,e.snd.snd.fst,e.snd.snd.snd.fst,e.snd.snd.snd.snd.fst+1)))))
noncomputable def Jk(a b:Array ġ)(c:Bk):StateT ĩ Sem (ForInStep Bk):=
 forIn [0:a.size+b.size] ((Ž,c.snd.fst,c.snd.snd.fst,c.snd.snd.snd.fst,0,0):Br) (λ_ d=>Kq a b c.snd.snd.snd.snd d) >>= Td a b c
def zmj(a b:Array ġ):Hl a b=(do
 liftM (rule "list.sort.merge-hi")
 let x <-Η a (a.size - 1)
 if(a.size - 1==0)=ż then pure (kQ a b #[x] (a.size - 1) b.size)
 else if(b.size==1)=ż then pure (yj a b #[x] (a.size - 1) b.size)
 else do
  let st <-get
  let c <-forIn [0:a.size+b.size] ((Ž,a.size - 1,b.size,#[x],Š st):Bk) λ_ c=>Jk a b c
  match c.fst with
  |some r=>pure r
  |none=>unsupported "internal:list.sort.merge-bound"):=by kernel_rfl
def jX(r:ġ->Int)(a b:Array ġ)(lo:Nat)(o:Qb (Array ġ))(out:Array ġ)(na nb:Nat):Prop:=match o with
 |some o=>jj r a b o
 |none=>Hg r a b out na nb/\1<=na/\2<=nb/\na+nb+lo<=a.size+b.size
def HP(r:ġ->Int)(a b:Array ġ)(lo:Nat)(st:ĩ)(f:ForInStep xG)(au:ĩ):Prop:=(∃g,au=eE st g)/\match f with
 |.done c=>jX r a b lo c.1 c.2.2.2.1 c.2.1 c.2.2.1
 |.yield c=>c.1=Ž/\jX r a b lo Ž c.2.2.2.1 c.2.1 c.2.2.1
section
variable{st:ĩ}{a b out:Array ġ}{na nb mg ac bc lo:Nat}
def K9(T:iR r ah a b)(M:Hg r a b out na nb)(h1:1<=na)(h2:2<=nb)(h3:na+nb+lo<=a.size+b.size+1)(hx:∀j,j < nb->R r b j < R r a (na - 1)):
  wpS (Ę prog w) A E s (EI a b out na nb mg ac bc) (HP r a b lo st) st:=by
 have la:=M.la;unfold EI;have(x,ex,mx):=T.at (i:=na - 1) (by omega);refine ė<|gk ex ?_;have M1:=M.push T.sa h1 ex λj j1=>by
  rw[<-dG (r:=r) ex];exact hx j j1
 by_cases c:na - 1=0
 .rw[a6P (by simpa using c)]
  exact Ğ ⟨⟨Š st,rfl⟩,M1.done T.sa T.sb<|.inl c⟩
 .rw[a6Q (by simpa using c)]
  have ok:jX r a b lo Ž (out.push x) (na - 1) nb:=⟨M1,by omega,h2,by omega⟩;split
  .exact Ğ ⟨⟨Š st,rfl⟩,ok⟩
  .exact Ğ ⟨⟨Š st,rfl⟩,rfl,ok⟩
def K8(S:fU prog w A s κ ah r)(hk:ş st=κ)(T:iR r ah a b)(fst:∀j,j < a.size->R r b 0 < R r a j)(M:Hg r a b out na nb)(h1:1<=na)(h2:2<=nb)(h3:na+nb+lo<=a.size+b.size+1)(hy:∀j,j < na->R r a j < R r b (nb - 1)):
  wpS (Ę prog w) A E s (EJ a b out na nb mg ac bc) (HP r a b lo st) st:=by
 have la:=M.la;have lb:=M.lb;unfold EJ;have(y,ey,my):=T.swap.at (i:=nb - 1) (by omega);refine ė<|gk ey ?_;have M1:=(M.swap.push T.sb (by omega) ey λj j1=>by
  rw[<-dG (r:=r) ey];exact hy j j1).swap
 by_cases c:nb - 1=1
 .rw[a6P (by simpa using c)]
  exact Ğ ⟨⟨Š st,rfl⟩,M1.first T.sa T.sb c fst⟩
 .rw[a6Q (by simpa using c)]
  have(x,ex,mx):=T.at (i:=na - 1) (by omega);have rx:R r a (na - 1)=r x:=dG ex;refine ė<|gk ex<|ė<|wH (e:=nb - 1) S hk mx (ř _) (λq _ q2=>T.swap.at (by omega)) (λi j _ i2 i3=>T.sb i j (À _) i2 (by omega)) (λq _ q2 z=>T.ne (na - 1) q (by omega) (by omega)<|rx.trans z.symm) (by omega) λk k1 below above=>?_;rw[<-rx,ř]at below above;replace below:=λq=>below q<|À _
  .dsimp only
   by_cases kp:nb - 1 - k > 0
   .rw[a6P kp]
    have M2:=(M1.swap.app T.sb (c:=k) (by omega) λi i1 i2 j j1=>T.sa.dn (À _) (č j1) (by omega)<|above i i1 i2).swap
    by_cases c2:k=1
    .rw[a6P (by simpa using c2)]
     exact Ğ ⟨⟨Š st,rfl⟩,M2.first T.sa T.sb c2 fst⟩
    .rw[a6Q (by simpa using c2)]
     by_cases c3:k=0
     .rw[a6P (by simpa using c3)]
      exact Ğ ⟨⟨Š st,rfl⟩,M2.done T.sa T.sb<|.inr c3⟩
     .rw[a6Q (by simpa using c3)]
      exact K9 T M2 h1 (by omega) (by omega) below
   .rw[a6Q kp]
    have k0:k=nb - 1:=by omega
    subst k0;exact K9 T M1 h1 (by omega) (by omega) below
def zC8(S:fU prog w A s κ ah r)(hk:ş st=κ)(T:iR r ah a b)(fst:∀j,j < a.size->R r b 0 < R r a j)(M:Hg r a b out na nb)(h1:1<=na)(h2:2<=nb)(h3:na+nb+lo<=a.size+b.size):
  wpS (Ę prog w) A E s (EK a b out na nb mg ac bc) (HP r a b lo st) st:=by
 have la:=M.la;have lb:=M.lb;unfold EK;rw[DL];refine ė<|Β ?_;have(y,ey,my):=T.swap.at (i:=nb - 1) (by omega);have ry:R r b (nb - 1)=r y:=dG ey;refine ė<|gk ey<|ė<|wH (st:=eE st mg) (e:=na) S hk my (ř _) (λq _ q2=>T.at (by omega)) (λi j _ i2 i3=>T.sa i j (À _) i2 (by omega)) (λq _ q2 z=>T.ne q (nb - 1) (by omega) (by omega)<|z.trans ry.symm) (by omega) λk k1 below above=>?_;rw[<-ry,ř]at below above;replace below:=λq=>below q<|À _
 .dsimp only
  have gp:∀{m:StateT ĩ Sem (ForInStep xG)},wpS (Ę prog w) A E s m (HP r a b lo<|eE st mg) (eE st mg)->wpS (Ę prog w) A E s m (HP r a b lo st) (eE st mg):=λh=>Ť h λc au hc=>by
   obtain⟨⟨g,rfl⟩,hc⟩:=hc;exact⟨⟨g,rfl⟩,hc⟩
  by_cases kp:na - k > 0
  .rw[a6P kp]
   have M1:=M.app T.sa (c:=k) (by omega) λi i1 i2 j j1=>T.sb.dn (À _) (č j1) (by omega)<|above i i1 i2
   by_cases c1:k=0
   .rw[a6P (by simpa using c1)]
    exact Ğ ⟨⟨mg,rfl⟩,M1.done T.sa T.sb<|.inl c1⟩
   .rw[a6Q (by simpa using c1)]
    exact gp<|K8 S hk T fst M1 (by omega) h2 (by omega) below
  .rw[a6Q kp]
   have k0:k=na:=by omega
   subst k0;exact gp<|K8 S hk T fst M h1 h2 (by omega) below
def FH(r:ġ->Int)(a b:Array ġ)(lo:Nat)(st:ĩ)(f:ForInStep Br)(au:ĩ):Prop:=au=st/\match f with
 |.done c=>jX r a b lo c.1 c.2.2.2.1 c.2.1 c.2.2.1
 |.yield c=>c.1=Ž/\jX r a b lo Ž c.2.2.2.1 c.2.1 c.2.2.1
def zC9(S:fU prog w A s κ ah r)(hk:ş st=κ)(T:iR r ah a b)(fst:∀j,j < a.size->R r b 0 < R r a j)(M:Hg r a b out na nb)(h1:1<=na)(h2:2<=nb)(h3:na+nb+lo<=a.size+b.size+1):
  wpS (Ę prog w) A E s (Kq a b mg (Ž,na,nb,out,ac,bc)) (FH r a b lo st) st:=by
 have la:=M.la;have lb:=M.lb;unfold Kq;dsimp only;have(y,ey,my):=T.swap.at (i:=nb - 1) (by omega);have(x,ex,mx):=T.at (i:=na - 1) (by omega);have rx:R r a (na - 1)=r x:=dG ex;have ry:R r b (nb - 1)=r y:=dG ey;refine ė<|gk ey<|ė<|gk ex<|ė<|xT S hk my mx ?_
 by_cases c:r y < r x
 .rw[a6R c]
  dsimp only;rw[a6P rfl];refine ė<|gk ex ?_;have M1:=M.push T.sa h1 ex λj j1=>T.sb.dn (À _) (č j1) (by omega) (by rw[ry];exact c)
  by_cases c1:na - 1=0
  .rw[a6P (by simpa using c1)]
   exact Ğ ⟨rfl,M1.done T.sa T.sb<|.inl c1⟩
  .rw[a6Q (by simpa using c1)]
   have ok:jX r a b lo Ž (out.push x) (na - 1) nb:=⟨M1,by omega,h2,by omega⟩;split
   .exact Ğ ⟨rfl,ok⟩
   .exact Ğ ⟨rfl,rfl,ok⟩
 .rw[a6S c]
  dsimp only;rw[a6Q qf];refine ė<|gk ey ?_;have ne:=T.ne (na - 1) (nb - 1) (by omega) (by omega);have M1:=(M.swap.push T.sb (by omega) ey λj j1=>T.sa.dn (À _) (č j1) (by omega) (by omega)).swap
  by_cases c1:nb - 1=1
  .rw[a6P (by simpa using c1)]
   exact Ğ ⟨rfl,M1.first T.sa T.sb c1 fst⟩
  .rw[a6Q (by simpa using c1)]
   have ok:jX r a b lo Ž (out.push y) na (nb - 1):=⟨M1,h1,by omega,by omega⟩;split
   .exact Ğ ⟨rfl,ok⟩
   .exact Ğ ⟨rfl,rfl,ok⟩
def zDa(S:fU prog w A s κ ah r)(hk:ş st=κ)(T:iR r ah a b)(fst:∀j,j < a.size->R r b 0 < R r a j)(M:Hg r a b out na nb)(h1:1<=na)(h2:2<=nb)(h3:na+nb+lo<=a.size+b.size):
  wpS (Ę prog w) A E s (Jk a b (Ž,na,nb,out,mg)) (λf au=>(∃g,au=eE st g)/\match f with
   |.done c=>∃o,c.1=ž o/\jj r a b o
   |.yield c=>c.1=Ž/\jX r a b (lo+1) Ž c.2.2.2.1 c.2.1 c.2.2.1) st:=by
 have la:=M.la;have lb:=M.lb;unfold Jk;dsimp only;refine ė<|Ť (Ŕ (I:=λx c au=>au=st/\c.1=Ž/\jX r a b (lo+min x 1) Ž c.2.2.2.1 c.2.1 c.2.2.1) (Q:=λc au=>au=st/\jX r a b (lo+1) c.1 c.2.2.2.1 c.2.1 c.2.2.1) ?step ?fin ⟨rfl,rfl,M,h1,h2,h3⟩) ?post
 case fin=>
  rintro⟨c,c1,c2,c3,c4,c5⟩ au ⟨kC,e,hc⟩;have e':c=Ž:=e;have gU:jX r a b (lo+min (max 0<|a.size+b.size) 1) Ž c3 c1 c2:=hc;rw[show min (max 0<|a.size+b.size) 1=1 by omega]at gU;subst e';exact⟨kC,gU⟩
 case step=>
  rintro x ⟨c,c1,c2,c3,c4,c5⟩ au _ hx ⟨rfl,e,hc⟩;dsimp only at e hc;subst e;have(q1,q2,q3,q4):=hc;refine Ť (zC9 (lo:=lo+1) S hk T fst q1 q2 q3 (by omega)) λf bM hf=>?_;have(rfl,hf):=hf;cases f with
  |done d=>exact⟨rfl,hf⟩
  |yield d=>
   refine⟨rfl,hf.1,?_⟩;rw[show min (x+1) 1=1 by omega];exact hf.2
 case post=>
  rintro⟨d,d1,d2,d3,d4,d5⟩ au ⟨rfl,hd⟩;unfold Td;dsimp only at hd ⊢;cases d with
  |some o=>exact Ğ ⟨⟨Š au,rfl⟩,o,rfl,hd⟩
  |none=>
   dsimp only;refine ė<|a2k<|ų ⟨rfl,?_⟩;refine ė<|Ť (Ŕ (I:=λx c bM=>(∃g,bM=eE au g)/\c.1=Ž/\jX r a b (lo+1) Ž c.2.2.2.1 c.2.1 c.2.2.1) (Q:=λc bM=>(∃g,bM=eE au g)/\jX r a b (lo+1) c.1 c.2.2.2.1 c.2.1 c.2.2.1) ?iW ?lO ⟨⟨Š au,rfl⟩,rfl,hd⟩) ?iZ
   case lO=>
    rintro⟨c,c1,c2,c3,c4,c5⟩ bM ⟨hg,e,hc⟩;dsimp only at e hc ⊢;subst e;exact⟨hg,hc⟩
   case iW=>
    rintro x ⟨c,c1,c2,c3,c4,c5,c6⟩ bM _ hx ⟨⟨g,rfl⟩,e,hc⟩;dsimp only at e hc ⊢;have(q1,q2,q3,q4):=hc;split
    all_goals
     refine Ť (zC8 (st:=eE au g) (lo:=lo+1) S hk T fst q1 q2 q3 q4) λf iX hf=>?_;obtain⟨⟨g',rfl⟩,hf⟩:=hf;cases f with
     |done d=>exact⟨⟨g',rfl⟩,hf⟩
     |yield d=>exact⟨⟨g',rfl⟩,hf⟩
   case iZ=>
    rintro⟨e,e1,e2,e3,e4,e5,e6⟩ bM ⟨⟨g,rfl⟩,he⟩;dsimp only at he ⊢;cases e with
    |some o=>exact Ğ ⟨⟨g,rfl⟩,o,rfl,he⟩
    |none=>
     dsimp only;rw[DL];exact ė<|Β<|Ğ ⟨⟨_,rfl⟩,rfl,he⟩
def zqZ{Q:Array ġ->ĩ->Prop}(S:fU prog w A s κ ah r)(hk:ş st=κ)(T:iR r ah a b)(a1:1<=a.size)(b1:1<=b.size)(fst:∀j,j < a.size->R r b 0 < R r a j)(lst:∀j,j < b.size->R r b j < R r a (a.size - 1))
  (h:∀o g,jj r a b o->Q o (eE st g)):wpS (Ę prog w) A E s (Hl a b) Q st:=by
 rw[zmj];refine ė<|a2k<|ų ⟨rfl,?_⟩;have(x0,e0,m0):=T.at (i:=a.size - 1) (by omega);refine ė<|gk e0 ?_;have M0:Hg r a b #[x0] (a.size - 1) b.size:=by
  have:Hg r a b #[] a.size b.size:=⟨qe _,qe _,by simp,.nil,λx hx=>by simp at hx,λx hx=>by simp at hx⟩;exact this.push T.sa a1 e0 λj j1=>by
   rw[<-dG (r:=r) e0];exact lst j j1
 by_cases c1:a.size - 1=0
 .rw[a6P (by simpa using c1)]
  exact Ğ<|h _ (Š st)<|M0.done T.sa T.sb<|.inl c1
 rw[a6Q (by simpa using c1)]
 by_cases c2:b.size=1
 .rw[a6P (by simpa using c2)]
  exact Ğ<|h _ (Š st)<|M0.first T.sa T.sb c2 fst
 rw[a6Q (by simpa using c2)];refine ė<|a1g ?_;refine ė<|Ť (Ŕ (I:=λx c au=>(∃g,au=eE st g)/\c.1=Ž/\jX r a b (x+1) Ž c.2.2.2.1 c.2.1 c.2.2.1) (Q:=λc au=>(∃g,au=eE st g)/\∃o,c.1=ž o/\jj r a b o) ?step ?fin ⟨⟨Š st,rfl⟩,rfl,M0,by show 1<=a.size - 1;omega,by show 2<=b.size;omega,by show a.size - 1+b.size+(0+1)<=a.size+b.size;omega⟩) ?post
 case fin=>
  rintro⟨c,c1,c2,c3,c4⟩ au ⟨_,_,_,q2,q3,q4⟩;dsimp only at q2 q3 q4;omega
 case step=>
  rintro x ⟨c,c1,c2,c3,c4⟩ au _ hx ⟨⟨g,rfl⟩,e,q1,q2,q3,q4⟩;dsimp only at e q1 q2 q3 q4;subst e;refine Ť (zDa (st:=eE st g) S hk T fst q1 q2 q3 q4) λf iX hf=>?_;obtain⟨⟨g',rfl⟩,hf⟩:=hf;cases f with
  |done d=>exact⟨⟨g',rfl⟩,hf⟩
  |yield d=>exact⟨⟨g',rfl⟩,hf⟩
 case post=>
  rintro⟨c,c1⟩ au ⟨⟨g,rfl⟩,o,e,ho⟩;dsimp only at e;subst e;exact Ğ<|h o g ho
end
def X9{σ:Type}{M:Model}{x:σ}{Q:PUnit->σ->Prop}{st:σ}(h:Q ⟨⟩ x):wpS M A E s (set x:StateT σ Sem PUnit) Q st:=by
 unfold wpS;rw[StateT.run_set];exact qb ⟨rfl,h⟩
noncomputable def Cb(ms:Qa ġ)(n s:Nat)(arr:Array ġ):Array ġ:=(ms.zipIdx n).foldl (λa (p,j)=>a.setIfInBounds (s+j) p) arr
def NC:∀{ms Z P S:Qa ġ} {n s:Nat} {arr:Array ġ},arr.toList=P++(Z++S)->P.length=s+n->Z.length=ms.length->(Cb ms n s arr).toList=P++(ms++S)
 |[],Z,P,S,n,s,arr,h,_,h2=>by
  rw[List.length_eq_zero_iff.mp h2]at h;exact h
 |m::ms,[],P,S,n,s,arr,h,_,h2=>by cases h2
 |m::ms,z::Z,P,S,n,s,arr,h,h1,h2=>by
  have e:=NC (ms:=ms) (Z:=Z) (P:=P++[m]) (S:=S) (n:=n+1) (s:=s) (arr:=arr.setIfInBounds (s+n) m) (by
   rw[a3y,h,<-h1,a4K _ _<|qe _,Nat.sub_self,İ];rfl) (by rw[qr,h1];rfl) (Ϙ h2)
  rw[İ]at e;exact e
def zmk(i:Nat):mergeAt' i=(do
 let s <-get
 let (ž (sa,na,power),ž (sb,nb,_)):=((Ġ s)[i]?,(Ġ s)[i+1]?) |unsupported "internal:list.sort.pending"
 set (a4z s<|((Ġ s).setIfInBounds i (sa,na+nb,power)).eraseIdxIfInBounds<|i+1)
 let ž k <-qL Ż (<-Η (Ħ s) sb) (Ħ s) sa na 0|return Ż
 let (sa,na):=(sa+k,na - k)
 if na==0 then return ż
 let ž nb <-qL ż (<-Η (Ħ s) (sa+na - 1)) (Ħ s) sb nb (nb - 1) |return Ż
 if nb==0 then return ż
 let x:=(Ħ s).extract sa sb
 let y:=(Ħ s).extract sb (sb+nb)
 let merged <-if na<=nb then Hm x y else Hl x y
 modify λs=>setArr s (Cb merged.toList 0 sa<|Ħ s)
 return (Τ<|<-get).isNone):=rfl
section
variable{st:ĩ}
variable{P Z X Y S o:Qa ġ}{a b:Array ġ}
def CG(h:a.toList=P++(Z++S))(hi:i < Z.length):a[P.length+i]?=ž Z[i]:=by
 rw[<-Ϩ,h,Ĥ<|Ϻ _ _,Ŋ,Ĩ hi,ql hi]
def X8{z:ġ}(h:a.toList=P++(Z++S))(hz:z∈Z):∃q,P.length<=q/\q < P.length+Z.length/\R r a q=r z:=by
 have(i,hi,rfl):=Đ hz;exact⟨P.length+i,Ç _ _,Ù hi _,dG<|CG h hi⟩
def OB(h:a.toList=P++(Z++S))(h':b.toList=P++(o++S))(e:o.length=Z.length){q:Nat}(hq:q < P.length\/P.length+Z.length<=q):b[q]?=a[q]?:=by
 rw[<-Ϩ,<-Ϩ,h,h'];rcases hq with c|c
 .rw[Ĩ c,Ĩ c]
 .have(k,rfl):=Ò c
  rw[Ŧ,Ĥ<|Ϻ _ _,Ĥ<|Ϻ _ _,Ŋ,Ĥ<|Ϻ _ _,<-e,Ĥ<|Ϻ _ _]
def NB(h:a.toList=P++(X++S))(hi:P.length=i)(hj:i+X.length=j):(a.extract i j).toList=X:=by
 subst hi hj;rw[ϯ,ώ,h,List.drop_left,Ŋ,List.take_left]
def zDE{sa lo e:Nat}(hA:a.toList=P++(Z++S))(hB:b.toList=P++(o++S))(po:o.Perm Z)(uo:o.Pairwise λx y=>r x < r y)(lP:P.length=lo)(lE:lo+Z.length=hi)(l1:sa<=lo)(l2:hi<=e)
  (low:∀i q,sa<=i->i < lo->lo<=q->q < e->R r a i < R r a q) (high:∀q j,sa<=q->q < hi->hi<=j->j < e->R r a q < R r a j) (sL:Seg r a sa lo) (sH:Seg r a hi e):Seg r b sa e:=by
 subst lP lE;have uE:=po.length_eq;have out:=λ{q}=>OB (q:=q) hA hB uE;have JD:∀q,P.length<=q->q < P.length+Z.length->∃q',P.length<=q'/\q' < P.length+Z.length/\R r b q=R r a q':=λq h1 h2=>by
  have(i,rfl):=Ò h1;have hi:i < o.length:=by rw[uE];exact â h2
  have(q',g1,g2,g3):=X8 (r:=r) hA (po.mem_iff.mp<|Ö hi);exact⟨q',g1,g2,(dG<|CG hB hi).trans g3.symm⟩
 intro i j h1 h2 h3;rcases Ü i P.length with a1|a1
 .rw[iB<|out<|.inl a1]
  rcases Ü j P.length with b1|b1
  .rw[iB<|out<|.inl b1];exact sL i j h1 h2 b1
  rcases Ü j (P.length+Z.length)with b2|b2
  .have(q',g1,g2,g3):=JD j b1 b2
   rw[g3];exact low i q' h1 a1 g1<|qi g2 l2
  .rw[iB<|out<|.inr b2];exact low i j h1 a1 b1 h3
 rcases Ü i (P.length+Z.length)with a2|a2
 .rcases Ü j (P.length+Z.length)with b2|b2
  .have(i,rfl):=Ò a1
   have(j,rfl):=Ò (qx a1<|Û h2);have hi:i < o.length:=by rw[uE];exact â a2
   have hj:j < o.length:=by rw[uE];exact â b2
   rw[dG<|CG hB hi,dG<|CG hB hj];exact á.mp uo i j hi hj<|â h2
  .have(q',g1,g2,g3):=JD i a1 a2
   rw[g3,iB<|out<|.inr b2];exact high q' j (qx l1 g1) g2 b2 h3
 .have b2:=qx a2 (Û h2)
  rw[iB<|out<|.inr a2,iB<|out<|.inr b2];exact sH i j a2 h2 h3
def zAV(l:Qa α){p:Nat}(h:p+n+m<=l.length):∃P X Y S,l=P++(X++(Y++S))/\P.length=p/\X.length=n/\Y.length=m :=
 ⟨l.take p,(l.drop p).take n,((l.drop p).drop n).take m,((l.drop p).drop n).drop m,by rw[θ,θ,θ],a1i (by omega),
  a1i (by rw[ŗ];omega),a1i (by rw[ŗ,ŗ];omega)⟩
def zq0{sa na pw sb nb Jc:Nat}{Q:Bool->ĩ->Prop}(S:fU prog w A s κ ah r)(hB:SS κ ah st)(p1:(Ġ st)[i]?=ž (sa,na,pw))(p2:(Ġ st)[i+1]?=ž (sb,nb,Jc))(Ug:sb=sa+na)(na1:1<=na)(nb1:1<=nb)(hn:sb+nb<=ah.size)
  (s1:Seg r (Ħ st) sa sb) (s2:Seg r (Ħ st) sb (sb+nb))
  (h:∀au,(Ħ au).Perm (Ħ st)->(∀k,k < sa\/sb+nb<=k->(Ħ au)[k]?=(Ħ st)[k]?)->ş au=ş st->Τ au=Τ st->Ġ au=((Ġ st).setIfInBounds i (sa,na+nb,pw)).eraseIdxIfInBounds (i+1)->Seg r (Ħ au) sa (sb+nb)->Q ż au):wpS (Ę prog w) A E s (mergeAt' i) Q st:=by
 have hz:=hB.size;rw[zmk];refine ė<|a1g ?_;rw[p1,p2];dsimp only;refine ė<|X9 ?_;have(y,ey):=hB.at (i:=sb) (by omega);have ry:R r (Ħ st) sb=r y:=dG ey;have at_:∀{q},q < ah.size->∃x,(Ħ st)[q]?=ž x/\x∈ah.toList:=λhq=>by
  have(x,ex):=hB.at hq;exact⟨x,ex,hB.mem ex⟩
 refine ė<|gk ey<|ė<|wH S hB.kind (hB.mem ey) Ug.symm (λq _ q2=>at_ (by omega)) s1 (λq _ q2=>by rw[<-ry];exact hB.ne S (by omega) (by omega) (by omega)) (by omega) λk k1 uD n8=>?_;rw[<-ry]at uD n8;clear ry ey;dsimp only
 by_cases c1:na - k=0
 .rw[a6P (by simpa using c1)]
  have e:na=k:=by omega
  subst e;refine Ğ<|h _ (a0O _) (λ_ _=>rfl) rfl rfl rfl λi j h1 h2 h3=>?_;show R r (Ħ st) i < R r (Ħ st) j;rcases Ü i sb with ci|ci
  .rcases Ü j sb with cj|cj
   .exact s1 i j h1 h2 cj
   .exact s2.up (qe _) cj h3 (uD i h1 (by omega))
  .exact s2 i j ci h2 h3
 rw[a6Q (by simpa using c1)];obtain⟨n,rfl⟩:∃n,na=k+(n+1):=⟨na - k - 1,by omega⟩;clear c1 k1 na1;have u4:sa+k+(n+1)=sb:=by rw[Ug,Ŧ]
 simp only[Ŋ];rw[show sa+k+(n+1) - 1=sa+k+n from rfl];have(x,ex):=hB.at (i:=sa+k+n) (by omega);have rx:R r (Ħ st) (sa+k+n)=r x:=dG ex;refine ė<|gk ex<|ė<|wH S hB.kind (hB.mem ex) rfl (λq _ q2=>at_ (by omega)) s2 (λq _ q2=>by rw[<-rx];exact hB.ne S (by omega) (by omega) (by omega)) (by omega) λm m1 Az n6=>?_;rw[<-rx]at Az n6;clear rx ex x y;dsimp only
 by_cases c2:m=0
 .exfalso
  subst c2;have h1:=n6 sb (qe _) (by omega);have h3:=n8 (sa+k+n) (Ç _ _) (by omega);omega
 rw[a6Q (by simpa using c2)];have(P,X,Y,T0,eL,lP,lX,lY):=zAV (Ħ st).toList (p:=sa+k) (n:=n+1) (m:=m) (by rw[ģ];omega);have eX:=NB eL lP (j:=sb) (by rw[lX];exact u4);have eY:=NB (P:=P++X) (X:=Y) (S:=T0) (a:=Ħ st) (i:=sb) (j:=sb+m) (by rw[eL,İ]) (by rw[qr,lP,lX];exact u4) (by rw[lY]);have eZ:(Ħ st).toList=P++((X++Y)++T0):=by rw[eL,İ]
 have lZ:sa+k+(X++Y).length=sb+m:=by rw[qr,lX,lY,<-u4];exact(Ŧ _ _ _).symm
 generalize ex:(Ħ st).extract (sa+k) sb=x at *;generalize ey:(Ħ st).extract sb (sb+m)=y at *;have zx:x.size=n+1:=by rw[<-ģ,eX,lX]
 have zy:y.size=m:=by rw[<-ģ,eY,lY]
 have Rx:∀q,q < n+1->R r x q=R r (Ħ st) (sa+k+q):=λq hq=>iB (by rw[<-ex,a4k,a6P (by omega)]);have Ry:∀q,q < m->R r y q=R r (Ħ st) (sb+q):=λq hq=>iB (by rw[<-ey,a4k,a6P (by omega)]);have Ax:∀z∈X++Y,z∈ah.toList:=λz hz=>(ì.mp hB.perm).mem_iff.mp (by rw[eZ];exact qv _<|Ë _ hz);have hs1:∀i j,i < j->j < n+1->R r (Ħ st) (sa+k+i) < R r (Ħ st) (sa+k+j):=λi j c1 c2=>s1 _ _ (by omega) (by omega) (by omega);have T:iR r ah x y:=by
  refine⟨λz hz=>Ax z<|Ë _<|eX▸hz,λz hz=>Ax z<|qv _<|eY▸hz,λi j h1 h2 h3=>?_,λi j h1 h2 h3=>?_,λi j h1 h2=>?_⟩
  .rw[zx]at h3
   rw[Rx i<|a2I h2 h3,Rx j h3];exact hs1 i j h2 h3
  .rw[zy]at h3
   rw[Ry i<|a2I h2 h3,Ry j h3];exact s2 _ _ (Ç _ _) (Ù h2 _) (by omega)
  .rw[zx]at h1
   rw[zy]at h2;rw[Rx i h1,Ry j h2];exact hB.ne S (by omega) (by omega) (by omega)
 have fst:∀j,j < x.size->R r y 0 < R r x j:=λj hj=>by
  rw[zx]at hj;rw[Ry 0<|Nat.pos_of_ne_zero c2,Rx j hj];exact n8 _ (Ç _ _) (by omega)
 have lst:∀j,j < y.size->R r y j < R r x (x.size - 1):=λj hj=>by
  rw[zy]at hj;rw[zx,š,Ry j hj,Rx n<|a6I _];exact Az _ (Ç _ _)<|Ù hj _
 have last:∀(o:Array ġ) (g:Nat),jj r x y o->wpS (Ę prog w) A E s (do
   modify λs=>setArr s<|Cb o.toList 0 (sa+k)<|Ħ s
   let lW <-get
   pure (Τ lW).isNone) Q (eE (a4z st<|((Ġ st).setIfInBounds i (sa,k+(n+1)+nb,pw)).eraseIdxIfInBounds<|i+1) g):=λo g ho=>by
  refine ė<|Β<|ė<|a1g ?_;have e:(Τ st).isNone=ż:=by rw[hB.failed];rfl
  show wpS _ _ _ _ (pure (Τ st).isNone) _ _;rw[e];have(po,uo):=ho;rw[eX,eY]at po;have eO:=NC (n:=0) (s:=sa+k) eZ lP po.length_eq.symm;refine Ğ<|h _ ?_ (λq hq=>?_) rfl rfl rfl ?_
  .rw[a3z]
   show(Cb o.toList 0 (sa+k)<|Ħ st).toList.Perm _;rw[eO,eZ];exact a3B _<|po.append_right _
  .exact OB eZ eO po.length_eq (by rw[lP,lZ];omega)
  .refine zDE eZ eO po uo lP lZ (Ç _ _) (by omega) (λi q h1 h2 h3 h4=>?_) (λq j h1 h2 h3 h4=>?_) (λi j h1 h2 h3=>s1 i j h1 h2 (by omega)) λi j h1 h2 h3=>s2 i j (by omega) h2 h3
   .rcases Ü q sb with c|c
    .exact s1 i q h1 (by omega) c
    .exact s2.up (qe _) c h4 (uD i h1 h2)
   .rcases Ü q sb with c|c
    .exact s1.dn h1 (show q<=sa+k+n by omega) (by omega) (n6 j h3 h4)
    .exact s2 q j c (by omega) h4
 split
 .exact ė (zqY S hB.kind T (by omega) (by omega) (fst 0 (by omega)) lst last)
 .exact ė (zqZ S hB.kind T (by omega) (by omega) fst lst last)
end
def iI:Nat->Qa (Nat×Nat)->Nat->Prop
 |s,[],e=>s=e
 |s,t::l,e=>t.1=s/\1<=t.2/\iI (s+t.2) l e
def iI.app:∀{l:Qa (Nat×Nat)} {s e:Nat} {l':Qa (Nat×Nat)},iI s (l++l') e↔∃m,iI s l m/\iI m l' e
 |[],s,e,l'=>⟨λh=>⟨s,rfl,h⟩,λ⟨m,h1,h2⟩=>by cases h1;exact h2⟩
 |t::l,s,e,l'=>by
  show(t.1=s/\1<=t.2/\iI (s+t.2) (l++l') e)↔∃m,(t.1=s/\1<=t.2/\iI (s+t.2) l m)/\iI m l' e;rw[iI.app];constructor
  .rintro⟨h1,h2,m,h3,h4⟩
   exact⟨m,⟨h1,h2,h3⟩,h4⟩
  .rintro⟨m,⟨h1,h2,h3⟩,h4⟩
   exact⟨h1,h2,m,h3,h4⟩
def iI.bd:∀{l:Qa (Nat×Nat)} {s e:Nat},iI s l e->s+l.length<=e/\∀t∈l,s<=t.1/\t.1+t.2<=e
 |[],s,e,h=>⟨đ h,λt ht=>by cases ht⟩
 |t::l,s,e,h=>by
  have(h1,h2,h3):=h;have(i1,i2):=iI.bd h3;refine⟨by rw[qt];omega,λu hu=>?_⟩;rcases qu.mp hu with rfl|hu
  .omega
  .have:=i2 u hu
   omega
noncomputable def sl(p:Array (Nat×Nat×Nat)):Qa (Nat×Nat):=p.toList.map λt=>(t.1,t.2.1)
structure RS (r:ġ->Int) (κ:a3n) (ah:Array ġ) (lo:Nat) (st:ĩ):Prop where
 ss:SS κ ah st
 le:lo<=ah.size
 runs:iI 0 (sl<|Ġ st) lo
 seg:∀t∈sl (Ġ st),Seg r (Ħ st) t.1<|t.1+t.2
def L7{x y:α}(h1:l[i]?=ž x)(h2:l[i+1]?=ž y):l=l.take i++x::y::l.drop (i+2):=by
 have(a1,e1):=qk.mp h1;have(a2,e2):=qk.mp h2
 conv=>lhs;rw[<-θ i l,ŋ a1,ŋ a2,e1,e2]
def zq1{x y z:α}(h1:l[i]?=ž x)(h2:l[i+1]?=ž y):(l.set i z).eraseIdx (i+1)=l.take i++z::l.drop (i+2):=by
 have(a1,e1):=qk.mp h1;have(a2,e2):=qk.mp h2;have h:=L7 h1 h2;have hp:(l.take i).length=i:=by rw[ţ];omega
 conv=>lhs;rw[h]
 rw[a4K _ _ (by omega),List.eraseIdx_append_of_length_le (by omega),hp,Nat.sub_self,show i+1 - i=1 by omega];rfl
section
variable{st:ĩ}{lo:Nat}
def OA{Q:Bool->ĩ->Prop}(S:fU prog w A s κ ah r)(h:RS r κ ah lo st)(hi:i+1 < (Ġ st).size)
  (k:∀au,RS r κ ah lo au->(Ġ au).size+1=(Ġ st).size->(∀q,lo<=q->(Ħ au)[q]?=(Ħ st)[q]?)->Q ż au):wpS (Ę prog w) A E s (mergeAt' i) Q st:=by
 obtain⟨t1,p1⟩:∃t,(Ġ st)[i]?=ž t:=⟨_,getElem?_pos _ i (by omega)⟩;obtain⟨t2,p2⟩:∃t,(Ġ st)[i+1]?=ž t:=⟨_,getElem?_pos _ (i+1) hi⟩;have(sa,na,pw):=t1;have(sb,nb,Jc):=t2;have q1:(Ġ st).toList[i]?=ž (sa,na,pw):=by rw[Ϩ];exact p1
 have q2:(Ġ st).toList[i+1]?=ž (sb,nb,Jc):=by rw[Ϩ];exact p2
 have e1:=L7 q1 q2;have rn:=h.runs;have es:sl (Ġ st)=((Ġ st).toList.take i).map (λt=>(t.1,t.2.1))++(sa,na)::(sb,nb)::((Ġ st).toList.drop<|i+2).map (λt=>(t.1,t.2.1)):=by
  unfold sl
  conv=>lhs;rw[e1]
  rw[ğ,ę,ę]
 have sg:=h.seg;rw[es]at rn sg;have(m,r1,r2):=iI.app.mp rn;have(x1,x2,x3,x4,r3):=r2;dsimp only at x1 x2 x3 x4 r3;have(b1,b2):=r1.bd;have(b3,b4):=r3.bd;subst x1;have hle:=h.le;refine zq0 S h.ss p1 p2 x3 x2 x4 (by omega) (sg (sa,na) (by simp) |> λz=>by rw[x3];exact z) (sg (sb,nb) (by simp)) λau a1 a2 a3 a4 a5 a6=>?_;have en:sl (Ġ au)=((Ġ st).toList.take i).map (λt=>(t.1,t.2.1))++(sa,na+nb)::((Ġ st).toList.drop<|i+2).map (λt=>(t.1,t.2.1)):=by
  unfold sl;rw[a5,Array.toList_eraseIdxIfInBounds,a3y,zq1 q1 q2,ğ,ę]
 have keep:∀u v:Nat,(v<=sa\/sb+nb<=u)->Seg r (Ħ st) u v->Seg r (Ħ au) u v:=λu v huv hs i j h1 h2 h3=>by
  rw[iB (r:=r)<|a2 i (by omega),iB (r:=r)<|a2 j (by omega)];exact hs i j h1 h2 h3
 refine k au ⟨⟨a1.trans h.ss.perm,a3.trans h.ss.kind,a4.trans h.ss.failed⟩,hle,?_,λt ht=>?_⟩ ?_ λq hq=>a2 q (by omega)
 .rw[en]
  refine iI.app.mpr ⟨sa,r1,rfl,by omega,?_⟩;rw[<-Ŧ];exact r3
 .rw[en]at ht
  rcases Â.mp ht with ht|ht
  .have:=b2 t ht
   exact keep _ _ (by omega)<|sg t<|Ë _ ht
  .rcases qu.mp ht with rfl|ht
   .dsimp only
    rw[show sa+(na+nb)=sb+nb by omega];exact a6
   .have:=b4 t ht
    exact keep _ _ (by omega)<|sg t<|qv _<|qm _<|qm _ ht
 .have z1:(sl<|Ġ au).length=(Ġ au).size:=by simp[sl]
  rw[en]at z1;rw[<-z1];simp;omega
def RS.chg(h:RS r κ ah lo st)(c:il lo hi st au):RS r κ ah lo au:=by
 refine⟨h.ss.chg c,h.le,by rw[c.pend];exact h.runs,λt ht=>?_⟩;rw[c.pend]at ht;have:=h.runs.bd.2 t ht;intro i j h1 h2 h3;rw[iB (r:=r)<|c.out i<|.inl (by omega),iB (r:=r)<|c.out j<|.inl (by omega)];exact h.seg t ht i j h1 h2 h3
def RS.push(h:RS r κ ah lo st)(n1:1<=n)(hn:lo+n<=ah.size)(hs:Seg r (Ħ st) lo (lo+n)):RS r κ ah (lo+n) (a4z st<|(Ġ st).push (lo,n,0)):=by
 have e:sl ((Ġ st).push (lo,n,0))=sl (Ġ st)++[(lo,n)]:=by
  unfold sl;rw[ő,ğ];rfl
 refine⟨⟨h.ss.perm,h.ss.kind,h.ss.failed⟩,hn,?_,λt ht=>?_⟩
 .show iI 0 (sl<|(Ġ st).push (lo,n,0)) _
  rw[e];exact iI.app.mpr ⟨lo,h.runs,rfl,n1,rfl⟩
 .have ht:t∈sl ((Ġ st).push (lo,n,0)):=ht
  rw[e]at ht;rcases Â.mp ht with ht|ht
  .exact h.seg t ht
  .rw[qp.mp ht]
   exact hs
def RS.pow{pw k:Nat}(h:RS r κ ah lo st):RS r κ ah lo (a4z st<|(Ġ st).modify k λ(a,b,_)=>(a,b,pw)):=by
 have e:sl ((Ġ st).modify k λ(a,b,_)=>(a,b,pw))=sl (Ġ st):=by
  unfold sl;rw[Array.toList_modify];apply a0M;intro i;rw[ĝ,ĝ,List.getElem?_modify];cases(Ġ st).toList[i]? with
  |none=>rfl
  |some t=>
   by_cases c:k=i
   .simp[c]
   .simp[c]
 refine⟨⟨h.ss.perm,h.ss.kind,h.ss.failed⟩,h.le,?_,λt ht=>?_⟩
 .show iI 0 (sl<|(Ġ st).modify k λ(a,b,_)=>(a,b,pw)) _
  rw[e];exact h.runs
 .have ht:t∈sl ((Ġ st).modify k λ(a,b,_)=>(a,b,pw)):=ht
  rw[e]at ht;exact h.seg t ht
def zDF{mr lo:Nat}{K:Nat->StateT ĩ Sem (ForInStep<|Qb Unit×Nat)}{Q:ForInStep (Qb Unit×Nat)->ĩ->Prop}(S:fU prog w A s κ ah r)(h4:RS r κ ah lo st)(hm:Seg r (Ħ st) lo (lo+m))(m1:1<=m)(m2:lo+m<=ah.size)(hY:Y=K (min (ah.size - lo) mr))
  (hK:∀n iX,RS r κ ah lo iX->Seg r (Ħ iX) lo (lo+n)->1<=n->lo+n<=ah.size->wpS (Ę prog w) A E s (K n) Q iX):
  wpS (Ę prog w) A E s (if m < mr then do
   liftM (rule "list.sort.binary-insertion")
   let b <-binarySort' lo (min (ah.size - lo) mr) m
   if(!b)=ż then pure (Ϧ (ž ⟨⟩,lo))else Y
  else K m) Q st:=by
 subst hY
 by_cases cm:m < mr
 .rw[a6P cm]
  refine ė<|a2k<|ų ⟨rfl,?_⟩;obtain⟨f,e,f1,f2⟩:∃f,min (ah.size - lo) mr=f/\m<=f/\lo+f<=ah.size:=⟨_,rfl,by omega,by omega⟩;rw[e];refine ė<|zkJ S f2 f1 h4.ss hm λiX g3 Es=>?_;exact hK f iX (h4.chg g3) Es (qx m1 f1) f2
 .rw[a6Q cm]
  exact hK m st h4 hm m1 m2
def znI{Q:Unit->ĩ->Prop}(S:fU prog w A s κ ah r)(h0:RS r κ ah 0 st)(h2:2<=ah.size)
  (h:∀au,SS κ ah au->Seg r (Ħ au) 0 ah.size->Q () au):wpS (Ę prog w) A E s sortRuns' Q st:=by
 rw[sortRuns'_eq];refine ė<|a1g ?_;dsimp only;simp only[h0.ss.size];generalize minRun' ah.size ah.size 0=mr;refine ė<|Ť (Ŕ
  (I:=λx c au=>∃lo,c=(Ž,lo)/\RS r κ ah lo au/\(x<=lo))
  (Q:=λc au=>∃lo,c=(Ž,lo)/\RS r κ ah lo au/\ah.size<=lo) ?step ?fin ⟨0,rfl,h0,qe _⟩) ?post
 case fin=>
  rintro c au ⟨lo,rfl,h1,h3⟩;exact⟨lo,rfl,h1,by omega⟩
 case step=>
  rintro x c ur _ hx ⟨lo,rfl,h1,h3⟩;dsimp only
  by_cases c1:lo>=ah.size
  .rw[a6P c1]
   exact Ğ ⟨lo,rfl,h1,c1⟩
  rw[a6Q c1];have hle:=h1.le;refine ė<|znG S (by omega) (by omega) h1.ss λm bM g1 m1 m2 hm=>?_;dsimp only;have h4:=h1.chg g1;apply zDF S h4 hm m1 (by omega) rfl;intro n iX h5 Es n1 n2;refine ė<|a1g ?_;cases hb:(Ġ iX).back? with
  |none=>
   dsimp only;exact ė<|Β<|Ğ ⟨lo+n,rfl,h5.push n1 n2 Es,by omega⟩
  |some b0=>
   have(s1,Jq,pw0):=b0;dsimp only;refine ė<|Ť (Ŕ (I:=λx c nK=>c=(Ž,())/\RS r κ ah lo nK/\Seg r (Ħ nK) lo (lo+n)) (Q:=λc nK=>c=(Ž,())/\RS r κ ah lo nK/\Seg r (Ħ nK) lo (lo+n)) ?_ (λ_ _ hh=>hh) ⟨rfl,h5,Es⟩) ?_
   .rintro x' c nK _ _ ⟨rfl,q1,q2⟩
    refine ė<|a1g ?_
    by_cases cp:(Ġ nK).size > 1
    .rw[a6P cp]
     obtain⟨⟨f1,f2,Ta⟩,eo⟩:∃t,(Ġ nK)[(Ġ nK).size - 2]?=ž t:=⟨_,getElem?_pos _ _ (by omega)⟩;rw[eo];dsimp only;split
     .exact Ğ ⟨rfl,q1,q2⟩
     .refine ė (OA S q1 (by omega) λqW k1 k2 k3=>?_)
      simp only[ś,ĥ,if_false];refine Ğ ⟨rfl,k1,λi j i1 i2 i3=>?_⟩;rw[iB (r:=r)<|k3 i (by omega),iB (r:=r)<|k3 j (by omega)];exact q2 i j i1 i2 i3
    .rw[a6Q cp]
     exact Ğ ⟨rfl,q1,q2⟩
   .rintro c nK ⟨rfl,q1,q2⟩
    dsimp only;have q3:=q1.pow (pw:=power' ah.size (2 * s1+Jq) (2 * s1+Jq+Jq+n) ah.size) (k:=(Ġ nK).size - 1);exact ė<|Β<|ė<|Β<|Ğ ⟨lo+n,rfl,q3.push n1 n2 q2,by omega⟩
 case post=>
  rintro c au ⟨lo,rfl,h1,h3⟩;have hle:=h1.le;have elo:lo=ah.size:=by omega
  subst elo;dsimp only;have pl:(Ġ au).size<=ah.size:=by
   have:=h1.runs.bd.1;have e:(sl<|Ġ au).length=(Ġ au).size:=by simp[sl]
   omega
  refine ė<|Ť (Ŕ (I:=λx c bM=>c=(Ž,())/\RS r κ ah ah.size bM/\((Ġ bM).size<=1\/(Ġ bM).size+x<=ah.size)) (Q:=λc bM=>c=(Ž,())/\RS r κ ah ah.size bM/\(Ġ bM).size<=1) ?iW ?lO ⟨rfl,h1,.inr (by omega)⟩) ?iZ
  case lO=>
   rintro c bM ⟨rfl,q1,q2⟩;exact⟨rfl,q1,by omega⟩
  case iW=>
   rintro x c bM _ hx ⟨rfl,q1,q2⟩;refine ė<|a1g ?_
   by_cases cp:(Ġ bM).size<=1
   .rw[a6P cp]
    exact Ğ ⟨rfl,q1,cp⟩
   .rw[a6Q cp]
    refine ė<|OA S q1 ?_ λqW k1 k2 k3=>?_
    .have key:∀b:Bool,(if b=ż then(Ġ bM).size - 2 - 1 else(Ġ bM).size - 2)+1 < (Ġ bM).size:=λb=>by
      cases b
      .rw[a6Q qf];omega
      .rw[a6P rfl];omega
     exact key _
    .simp only[ś,ĥ,if_false]
     exact Ğ ⟨rfl,k1,by omega⟩
  case iZ=>
   rintro c bM ⟨rfl,q1,q2⟩;dsimp only;refine Ğ<|h bM q1.ss ?_;have e:(sl<|Ġ bM).length=(Ġ bM).size:=by simp[sl]
   have rn:=q1.runs;have sg:=q1.seg
   match hl:sl (Ġ bM),rn,sg with
   |[],rn,_=>
    have:0=ah.size:=rn;omega
   |[u],rn,sg=>
    have(u1,u2,u3):=rn;have u3:0+u.2=ah.size:=u3;have:=sg u (by simp);rw[u1,u3]at this;exact this
   |u::v::l,_,_=>
    rw[hl]at e;simp at e;omega
end
open Classical in
def nU(vs:Qa Qc)(v:Qc):Nat:=if h:∃i,i < vs.length/\vs.getD i Ė=v then h.choose else 0
def wa{vs:Qa Qc}(nd:∀i j,i < vs.length->j < vs.length->vs.getD i Ė=vs.getD j Ė->i=j)(hi:i < vs.length):nU vs (vs.getD i Ė)=i:=by
 have h:∃j,j < vs.length/\vs.getD j Ė=vs.getD i Ė:=⟨i,hi,rfl⟩;unfold nU;rw[dif_pos h];exact nd _ _ h.choose_spec.1 hi h.choose_spec.2
def Hk{vs:Qa Qc}:(vs.toArray.zip vs.toArray).toList=(ħ vs.length).map λi=>(vs.getD i Ė,vs.getD i Ė):=by
 apply a0M;intro i;rw[ĝ]
 by_cases hi:i < vs.length
 .rw[a1V hi]
  simp[hi,List.getElem?_zip_eq_some]
 .rw[ι (by simp;omega),ι (by simp;omega)]
  rfl
section
def Zc{vs:Qa Qc}{Q:Unit->ĩ->Prop}(h2:2<=vs.length)(nd:∀i j,i < vs.length->j < vs.length->vs.getD i Ė=vs.getD j Ė->i=j)(inj:∀i j,i < vs.length->j < vs.length->rk i=rk j->i=j)
  (ask:Sy prog w A rk vs κ s) (h:∀au p,Pm vs.length p->Up rk p vs.length->Ħ au=p.map (kas_item<|vs.toArray.zip vs.toArray)->Τ au=Ž->Q () au):
  wpS (Ę prog w) A E s sortRuns' Q (a4Q κ (vs.toArray.zip vs.toArray) #[] 7 Ž):=by
 have mem:∀x∈(vs.toArray.zip vs.toArray).toList,∃i,i < vs.length/\x=(vs.getD i Ė,vs.getD i Ė):=λx hx=>by
  rw[Hk]at hx;have(i,hi,rfl):=Ã.mp hx;exact⟨i,Í.mp hi,rfl⟩
 have zs:(vs.toArray.zip vs.toArray).size=vs.length:=by simp
 have S:fU prog w A s κ (vs.toArray.zip vs.toArray) (λx=>rk<|nU vs x.1):=by
  refine⟨λx hx y hy C hC=>?_,?_⟩
  .have(i,hi,rfl):=mem x hx
   have(j,hj,rfl):=mem y hy;dsimp only at hC;rw[wa nd hi,wa nd hj]at hC;exact ask i j C hi hj hC
  .rw[Hk,ĳ]
   refine à.mpr<|a2q (λ{a b} ha hb (rA:a≠b)=>?_) a6n;have ha:=Í.mp ha;have hb:=Í.mp hb;show rk (nU vs<|vs.getD a Ė)≠rk (nU vs<|vs.getD b Ė);rw[wa nd ha,wa nd hb];exact λe=>rA<|inj a b ha hb e
 refine znI S ⟨⟨a0O _,rfl,rfl⟩,À _,rfl,λt ht=>by cases ht⟩ (by omega) λau hB hs=>?_;have ar:∀x∈(Ħ au).toList,∃i,i < vs.length/\x=(vs.getD i Ė,vs.getD i Ė):=λx hx=>mem x<|(ì.mp hB.perm).mem_iff.mp hx;have ki:∀i,i < vs.length->kas_item (vs.toArray.zip vs.toArray) i=(vs.getD i Ė,vs.getD i Ė):=λi hi=>by
  unfold kas_item;simp[a5x,hi]
 refine h au ((Ħ au).map λx=>nU vs x.1) ?_ (λi j cY hj=>?_) ?_ hB.failed
 .have:=(ì.mp hB.perm).map λx:ġ=>nU vs x.1
  unfold Pm;rw[a3z,a2N];refine this.trans ?_;rw[Hk,ĳ];have e:(ħ vs.length).map ((λx:ġ=>nU vs x.1) ∘ λi=>(vs.getD i Ė,vs.getD i Ė))=ħ vs.length:=by
   conv=>rhs;rw[<-a4Y (ħ vs.length)]
   exact É λi hi=>wa nd<|Í.mp hi
  rw[e]
 .have z:=hB.size
  have kr:∀q,q < vs.length->KR rk ((Ħ au).map λx=>nU vs x.1) q=R (λx=>rk<|nU vs x.1) (Ħ au) q:=λq hq=>by
   have e:(Ħ au)[q]?=ž (Ħ au)[q]:=getElem?_pos _ q (by omega);rw[dG e];unfold KR;have:q < (Ħ au).size:=by omega
   simp[a5x,this]
  by_cases e:i=j
  .rw[e];exact Int.le_refl _
  .rw[kr i (by omega),kr j hj]
   have:=hs i j (À _) (by omega) (by omega);omega
 .apply Č
  rw[a2N,a2N,ĳ]
  conv=>lhs;rw[<-a4Y (Ħ au).toList]
  refine É λx hx=>?_;have(i,hi,rfl):=ar x hx;show _=kas_item _ (nU vs<|vs.getD i Ė);rw[wa nd hi,ki i hi];rfl
def ziW{vs:Qa Qc}{P:PySem.Fin->Qd->Prop}(ho:s.heap.get? a=ž (a0y "list" vs.toArray n))(h64:vs.length<=100000)(nd:∀i j,i < vs.length->j < vs.length->vs.getD i Ė=vs.getD j Ė->i=j)(inj:∀i j,i < vs.length->j < vs.length->rk i=rk j->i=j)
  (hk:2<=vs.length->∀h':ĵ,(∀b o,b≠a->s.heap.get? b=ž o->h'.get? b=ž o)->∀Q:a3n->Qd->Prop,(∀κ,Sy prog w A rk vs κ {s with heap:=h'}->Q κ {s with heap:=h'})->ĕ (Ę prog w) A (keyKind' vs.toArray) Q (λ_ _=>False) {s with heap:=h'})
  (h:∀p:Array Nat,Pm vs.length p->Up rk p vs.length->P (.done<|.ret .none) {s with heap:=sortedHeap s.heap a vs (a2w<|p.toList.map λi=>vs.getD i Ė)}):
  ĕ (Ę prog w) A (Builtin.«list.sort» ⟨[.ref a],[]⟩) P E s:=by
 have line:(100000:Nat)<=Ĕ:=by decide
 have ha:a < s.heap.objs.size:=qh ho;obtain⟨e1,TC⟩:∃e1,(s.heap.update a<|ſ λ_=>#[]).get? a=ž (a0y "list" #[] e1):=⟨_,get?_update_seq ho λ_=>#[]⟩;have old:∀b o,(s.heap.update a<|ſ λ_=>#[]).get? b=ž o->(((s.heap.update a<|ſ λ_=>#[]).push<|a0y "tuple" vs.toArray 0).push<|a0y "list" #[] 0).get? b=ž o :=
  λb o e=>qd _<|qd _ e
 have Ex:=old _ _ TC;have keep:∀b o,b≠a->s.heap.get? b=ž o->(((s.heap.update a<|ſ λ_=>#[]).push<|a0y "tuple" vs.toArray 0).push<|a0y "list" #[] 0).get? b=ž o :=
  λb o ne e=>old b o (by rw[Α _ _ _ _ ne];exact e)
 rw[list_sort_plain];refine qa<|listItems_at ho rfl<|qa<|a5i ho rfl (qa<|seqEpoch_at TC rfl<|qa<|wpAny_newTuple (qa<|wpAny_newList (Ō ?_) ?_) ?_) ?_ ?_
 case refine_2=>exact À _
 case refine_3=>show vs.length<=_;omega
 case refine_4=>show vs.toArray.size<=_;rw[ě];omega
 case refine_5=>exact À _
 show ĕ (Ę prog w) A _ P E {s with heap:=((s.heap.update a<|ſ λ_=>#[]).push<|a0y "tuple" vs.toArray 0).push (a0y "list" #[] 0)};dsimp only;generalize hH:((s.heap.update a<|ſ λ_=>#[]).push<|a0y "tuple" vs.toArray 0).push (a0y "list" #[] 0)=h6 at *;have hsz:vs.toArray.size=vs.length:=by simp
 have fin:∀p:Array Nat,Pm vs.length p->Up rk p vs.length->P (.done<|.ret .none) {s with heap:=h6.update a (ſ λ_=>a2w<|p.toList.map λi=>vs.getD i Ė)}:=λp a1 a2=>by
  have:=h p a1 a2;unfold sortedHeap at this;rw[hH]at this;exact this
 by_cases h2:vs.toArray.size < 2
 .rw[a6P h2,a6P h2]
  refine qa<|qb ?_;rw[StateT.run_pure];refine qa<|qb ?_;dsimp only;have hz:(vs.toArray.zip vs.toArray).size=vs.length:=by simp
  have Kc:Ħ (a4Q general' (vs.toArray.zip vs.toArray) #[] 7 Ž)=(ħ vs.length).toArray.map (kas_item<|vs.toArray.zip vs.toArray):=by
   have:=kas_range (vs.toArray.zip vs.toArray);rw[hz]at this;exact this.symm
  have e:=kat_snds (ks:=vs) (vs:=vs) rfl Kc;rw[e];refine qa<|seqEpoch_at Ex rfl<|qa<|a5i Ex rfl ?_ ?_ ?_
  .show ĕ _ _ (if(e1 != e1)=ż then _ else _) _ _ _
   rw[bne_self_eq_false,a6Q qf];refine qb<|fin _ (a0O _) λi j cY hj=>?_;have:i=j:=by omega
   subst this;exact Int.le_refl _
  .exact À _
  .rw[ě,ē]
   simp;omega
 .rw[a6Q h2,a6Q h2]
  have i9:2<=vs.length:=by omega
  refine qa<|Ŝ (hk i9 h6 keep _ λκ ask=>?_) (λ_ _ x=>x) λ_ _ x=>x.elim;refine qa<|Ŝ (Zc (E:=E) (s:={s with heap:=h6}) (Q:=λ_ au=>∃p:Array Nat,Pm vs.length p/\Up rk p vs.length/\Ħ au=p.map (kas_item<|vs.toArray.zip vs.toArray)/\Τ au=Ž) i9 nd inj ask λau p a1 a2 a3 a4=>⟨p,a1,a2,a3,a4⟩) ?_ λ_ _ x=>x;rintro⟨⟨⟩,au⟩ s' ⟨rfl,p,a1,a2,Kc,hf⟩;dsimp only;have e:=kat_snds (ks:=vs) (vs:=vs) rfl Kc;rw[e,hf];refine qa<|seqEpoch_at Ex rfl<|qa<|a5i Ex rfl ?_ ?_ ?_
  .show ĕ _ _ (if(e1 != e1)=ż then _ else _) _ _ _
   rw[bne_self_eq_false,a6Q qf];exact qb<|fin p a1 a2
  .exact À _
  .rw[ě,ē,ģ,a1.size]
   omega
end
def rN(h:ĵ)(v:Qc)(ns:Qa Int):Prop:=∃(a:Qg) (i j:Int) (t t':Tok) (u:Qc),v=.ref a/\a2R h a #[.int i t,.int j t',u]/\ns=[i,j]
section
def zDb{v v':Qc}{Jm:Qa Int}{C:Bool->Qd->Prop}(p:rN s.heap v ns)(p':rN s.heap v' Jm)(ne:v=v'\/ns≠Jm)(h:C (c9 ns Jm) s):ĕ (Ę prog w) A (keyLt' (tuples' ż) v v') C (λ_ _=>False) s:=by
 obtain⟨a,i,j,t,t',u,rfl,⟨oa,ea,ca,na,da⟩,rfl⟩:=p;obtain⟨a',i',j',q,q',u',rfl,⟨oa',ij,ca',Jp,Kw⟩,rfl⟩:=p';refine kat_lt ea da ij Kw ?_;show KatLex prog w A ż _ C [(.int i t,.int i' q),(.int j t',.int j' q'),(u,u')] 0 s;refine kat_cons<|a1w ?_
 by_cases e1:i=i'
 .subst e1
  rw[a6U];refine kat_yes<|kat_cons<|a1w ?_
  by_cases e2:j=j'
  .subst e2
   rw[a6U];rcases ne with z|z
   .cases z
    rw[ea]at ij;cases ij;rw[da]at Kw;injection Kw with d1 d2;have d3:=congrArg a0l d1;have e3:u=u':=by
     have:=congrArg (λl:Qa Qc=>l[2]?) d3;simpa using this
    subst e3;refine kat_yes<|kat_cons<|a4F u prog w _ _<|kat_yes<|kat_nil ?_;rw[ub]at h;exact h
   .exact absurd rfl z
  .rw[show(j==j')=Ż by simpa using e2]
   refine kat_no<|kat_one _ _<|zqq ?_;have e3:c9 [i,j] [i,j']=decide (j < j'):=by simp[c9,e2]
   rw[e3]at h;exact h
 .rw[show(i==i')=Ż by simpa using e1]
  refine kat_no (show ĕ (Ę prog w) A (oneLt' ż (.int i t)<|.int i' q) C _ s from oneLt_int ?_);have e3:c9 [i,j] [i',j']=decide (i < i'):=by simp[c9,e1]
  rw[e3]at h;exact h
end
def rN.kept{v:Qc}(p:rN h v ns)(k:∀b o,h.get? b=ž o->h'.get? b=ž o):rN h' v ns:=by
 have(a,i,j,t,t',u,e,ta,r):=p;exact⟨a,i,j,t,t',u,e,zrQ ta<|k a,r⟩
def PX:∀{vs:Qa Qc},(∀v∈vs,∃ns,rN h v ns)->∃fs,KatTups h vs fs/\fs.length=vs.length/\∀f∈fs,∃(i:Int) (t:Tok),f=.int i t
 |[],_=>⟨[],.nil,rfl,λf hf=>by cases hf⟩
 |v::vs,hv=>by
  have(fs,k,l,q):=PX (vs:=vs) λx hx=>hv x<|qm _ hx;obtain⟨ns,a,i,j,t,t',u,rfl,⟨o,eo,co,n,dO⟩,_⟩:=hv v qo;refine⟨.int i t::fs,.cons eo co dO rfl k,by rw[qt,qt,l],λf hf=>?_⟩;rcases qu.mp hf with e|hf
  .exact⟨i,t,e⟩
  .exact q f hf
def zAW(K:qc)(H:Hp)(vs:Qa V)(ps:Qa (Qa Int)):Prop:=vs.length=ps.length/\∀i v,vs[i]?=ž v->∃(a:Qg) (m n:Int) (y:V),v=.ref a/\bI K H a [.int m,.int n,y]/\ps.getD i []=[m,n]
def L6(K:qc):Qa V->Hp->VK->Prop:=λxs H Q=>∃(l:Qg) (vs:Qa V) (ps:Qa (Qa Int)),xs=[.ref l]/\b9 K H l vs/\vs.length<=100000/\zAW K H vs ps/\ps.Nodup/\
 ∀(is:Qa Nat) r,is.Perm (ħ vs.length)->(is.map λi=>ps.getD i []).Pairwise (λa b=>c9 a b=ż)->H r=Ž->Q (.ref r) (upd H r<|.lst<|is.map λi=>vs.getD i .aO)
section
variable{X:Cx}
def zDc{x z:V}(h:zQ [x,y,z] us):∃u1 u2 u3,us=[u1,u2,u3]/\zU x u1/\zU y u2/\zU z u3:=by
 cases h with
 |cons h1 t=>
  cases t with
  |cons h2 t=>
   cases t with
   |cons h3 t=>
    cases t;exact⟨_,_,_,rfl,h1,h2,h3⟩
def znJ(K:qc)(hK:X.K=K){k:Nat}(hr:aG k X.A):gJ X (.builtin "sorted") (L6 K):=by
 subst hK;intro pins s σ H xs us Q I r h;obtain⟨l,vs,ps,rfl,hl,h64,⟨lp,hp⟩,nd,q⟩:=h;have(u,rfl,ru):=oO r;cases ru;obtain⟨ai,rv,⟨o,n,eo,co,_,dO⟩,_⟩:=I.list hl;have line:(100000:Nat)<=Ĕ:=by decide
 have lv:ai.length=vs.length:=rv.length.symm;have pr:∀i,i < ai.length->rN s.heap (ai.getD i Ė) (ps.getD i []):=λi hi=>by
  have iP:i < vs.length:=by omega
  have(a,m,n,y,ev,ha,hb):=hp i _ (ql iP);have(u,eu,ru):=rv.get (ql iP);rw[ev]at ru;cases ru;have(ia,ra,ta,_):=I.tuple ha;obtain⟨u1,u2,u3,rfl,⟨t1,rfl⟩,⟨t2,rfl⟩,r3⟩:=zDc ra;refine⟨a,m,n,t1,t2,u3,?_,ta,hb⟩;rw[qA,eu];rfl
 have ndV:∀i j,i < ai.length->j < ai.length->ai.getD i Ė=ai.getD j Ė->i=j:=λi j hi hj e=>by
  by_cases c:i=j
  .exact c
  .exfalso
   have h1:=pr i hi;have h2:=pr j hj;rw[e]at h1;obtain⟨a,m,n,t,t',u,e1,⟨o1,g1,_,n1,d1⟩,z1⟩:=h1;obtain⟨a',m',n',q,q',u',e2,⟨o2,g2,_,n2,d2⟩,z2⟩:=h2;rw[e1]at e2;cases e2;rw[g1]at g2;cases g2;rw[d1]at d2;injection d2 with d3 _;have d4:=congrArg a0l d3;have k1:a1z m t=.int m' q:=by
    have:=congrArg (λl:Qa Qc=>l[0]?) d4;simpa using this
   have k2:a1z n t'=.int n' q':=by
    have:=congrArg (λl:Qa Qc=>l[1]?) d4;simpa using this
   cases k1;cases k2;exact yU nd (by omega) (by omega) c<|z1.trans z2.symm
 have JE:∀i j,i < ai.length->j < ai.length->oC ps i=oC ps j->i=j:=λi j hi hj e=>by
  by_cases c:i=j
  .exact c
  .exfalso
   rcases wL (yU nd (by omega:i < ps.length) (by omega:j < ps.length) c)with z|z
   .have:=yQ (by omega) z
    omega
   .have:=yQ (by omega) z
    omega
 refine Calls.call_function_entry kind_sorted plain_sorted entry_sorted (args_sorted1 _) ?_;unfold Builtin.«sorted»;refine qa (m:=checkCount "sorted" 1 1 _)<|qb ?_;refine qa<|collect_list (vs:=ai) ⟨o,eo,co,n,dO⟩ (qa<|wpAny_newList ?_ ?_) (by omega)
 case refine_2=>omega
 generalize hH:(s.heap.push<|a0y "list" #[] 0).update s.heap.objs.size (ſ (·++ai.toArray))=h1 at *;have hsz:h1.objs.size=s.heap.objs.size+1:=by rw[<-hH,a6t,size_push']
 have sU:∀b o,s.heap.get? b=ž o->h1.get? b=ž o:=λb o e=>by
  have eJ:b < s.heap.objs.size:=qh e;rw[<-hH,Α _ _ _ _<|qj eJ,Heap.get?_push_ne _ _ _<|qj eJ];exact e
 have I1:Inv X pins σ H {s with heap:=h1,toks:=s.toks}:=I.kept sU;have AL:(h1.push<|a0y "list" ai.toArray 0).get? h1.objs.size=ž (a0y "list" ai.toArray 0):=qg _ rfl;have hu:X.A.units+64 < Θ:=hr.units;refine qa<|Ō<|ĭ slot_list_sort ⟨_,AL,rfl⟩ entry_list_sort (ziW (rk:=oC ps) (s:={s with heap:=h1.push (a0y "list" ai.toArray 0)}) AL (by omega) ndV JE (λh2 h' kp Q' hQ=>?_) λp a1 a2=>⟨_,rfl,?_⟩)<|args_list_sort _
 .have kp':∀b o,s.heap.get? b=ž o->h'.get? b=ž o:=λb o e=>by
   have eJ:b < s.heap.objs.size:=qh e;exact kp b o (qj (by rw[hsz];exact Ú eJ))<|qd _<|sU b o e
  have Jd:∀i,i < ai.length->rN h' (ai.getD i Ė) (ps.getD i []):=λi hi=>(pr i hi).kept kp';have(fs,kt,lf,tf):=PX (h:=h') (vs:=ai) λv hv=>by
   have(i,hi,e):=Đ hv;have:=Jd i hi;rw[show ai.getD i Ė=v by simp[hi,e]]at this;exact⟨_,this⟩
  refine kat_kind (fs:=fs) (T:=.type "int") kt (by omega) (λv hv=>?_) (by decide) ?_
  .have(i,t,rfl):=tf v hv
   exact .now
  .refine hQ _ λi j C hi hj hc=>?_
   rw[Yi nd (by omega) (by omega)]at hc;refine zDb (Jd i hi) (Jd j hj) ?_ hc
   by_cases e:i=j
   .exact .inl (by rw[e])
   .exact .inr (yU nd (by omega) (by omega) e)
 .refine qb ⟨_,rfl,?_⟩
  have(en,ho):=sortedHeap_at (vs:=ai) (out:=a2w (p.toList.map λi=>ai.getD i Ė)) AL;have fresh:H h1.objs.size=Ž:=I1.aC.fresh (qe _);have perm:p.toList.Perm (ħ vs.length):=by
   have:=a1.list;rw[lv]at this;exact this
  have mem:∀i∈p.toList,i < vs.length:=λi hi=>Í.mp<|perm.mem_iff.mp hi;have lm:p.toList.length=vs.length:=by
   have:=perm.length_eq;simpa using this
  rw[lv,lp]at a1 a2;refine⟨.ref h1.objs.size,_,I1.laid (t':=s.toks) (a:=h1.objs.size) (o:=.lst (p.toList.map λi=>vs.getD i .aO)) (λb o e=>?_) (qe _) ⟨by rw[ē];omega,p.toList.map λi=>ai.getD i Ė,en,Pw rv p.toList mem,by simpa using ho⟩,rfl,q p.toList _ perm (Vy nd a1 a2) fresh⟩;have hb:b < h1.objs.size:=qh e;rw[sortedHeap_old (qj hb) (by rw[Ŏ];exact Ú hb)];exact qd _ e
end
end Internal
namespace Internal
open PySem PySem.Spec PyProof.Rows
section
noncomputable def wk:D->Qb (Qa Int)
 |.tuple [.int m,.int n,_]=>ž [m,n]
 |_=>Ž
def Ae:Qa D->Qb (Qa<|Qa Int)
 |[]=>ž []
 |d::ds=>(wk d).bind λk=>(Ae ds).bind λks=>ž<|k::ks
def tD(a b:D):Prop:=∃k m,wk a=ž k/\wk b=ž m/\c9 k m=ż
def tD.Kz(a b:D)(h:tD a b):¬tD b a:=by
 rintro⟨k',m',e1,e2,h'⟩;have(k,m,e3,e4,h):=h;rw[e3]at e2;rw[e4]at e1;cases e1;cases e2;have:=wM h h';rw[ub]at this;cases this
open Classical in
def Ca(xs:Qa D):Qa D:=if h:∃L,L.Perm xs/\L.Pairwise tD then h.choose else []
def Oz{xs L:Qa D}(p:L.Perm xs)(s:L.Pairwise tD):Ca xs=L:=by
 have h:∃L:Qa D,L.Perm xs/\L.Pairwise tD:=⟨L,p,s⟩;unfold Ca;rw[dif_pos h];exact QP tD.Kz (h.choose_spec.1.trans p.symm) h.choose_spec.2 s
def CF(u:U):Qb U:=u.lst.bind λxs=>(Ae xs).bind λks=>if xs.length<=100000/\ks.Nodup then ž (.l<|Ca xs)else Ž
def NA:∀{xs:Qa D} {ks:Qa (Qa Int)},Ae xs=ž ks->ks.length=xs.length
 |[],ks,e=>by cases e;rfl
 |x::xs,ks,e=>by
  have(k,e1,e):=bQ e;have(nP,e2,e):=bQ e;cases e;simp[NA e2]
def CD:∀{xs:Qa D} {ks:Qa (Qa Int)} {i:Nat} {x:D},Ae xs=ž ks->xs[i]?=ž x->wk x=ž (ks.getD i [])
 |[],ks,i,x,e,ex=>by simp at ex
 |y::xs,ks,i,x,e,ex=>by
  have(k,e1,e):=bQ e;have(nP,e2,e):=bQ e;cases e;cases i with
  |zero=>cases(show ž y=ž x from ex);exact e1
  |succ i=>exact CD (i:=i) e2 ex
def Zb:VC K (L6 K) (f1 CF):=rR λv a u H Q h e q=>by
 have(xs,ex,e):=bQ e;have(ks,ek,e):=bQ e;split at e
 .rename_i hc
  cases e;have(p,ys,rfl,sq,ds):=h.lst ex;have ly:=ds.len;have lk:=NA ek;refine⟨p,ys,ks,rfl,sq,by omega,⟨by omega,λi v ev=>?_⟩,hc.2,λis r hp hs hr=>?_⟩
  .have(d,ed,dv):=ds.get' ev
   have kd:=CD ek ed;unfold wk at kd;split at kd
   .rename_i m n y
    have kd:=qw kd;have(a,zs,rfl,h1,h2):=DF.aH dv;cases h2 with
    | @cons z1 _ _ _ h3 t=>
     cases t with
     | @cons z2 _ _ _ h4 t=>
      cases t with
      | @cons z3 _ _ _ h5 t=>
       cases t;cases DF.int_inv h3;cases DF.int_inv h4;exact⟨a,m,n,z3,rfl,be.sq h1,kd.symm⟩
   .cases kd
  .have sm:=iz hr (.lst<|is.map λi=>ys.getD i .aO)
   have lt:∀i∈is,i < xs.length:=λi hi=>by
    have:=Í.mp (hp.mem_iff.mp hi);omega
   have ext:(ħ xs.length).map (λi=>xs.getD i .none)=xs:=by
    apply a0M;intro j;rw[ĝ]
    by_cases hj:j < xs.length
    .rw[a1V hj,a0e,qA,ql hj]
     rfl
    .rw[ι (by simpa using hj),ι (by omega)]
     rfl
   have s9:(is.map λi=>xs.getD i .none).Perm xs:=by
    have:=hp.map λi=>xs.getD i .none;rw[ly,ext]at this;exact this
   have sY:(is.map λi=>xs.getD i .none).Pairwise tD:=by
    rw[a0K]at hs ⊢;refine hs.imp_of_mem λ{i j} hi hj cY=>?_;have gi:=ql (lt i hi);have gj:=ql (lt j hj);refine⟨_,_,?_,?_,cY⟩
    .rw[qA,gi]
     exact CD ek gi
    .rw[qA,gj]
     exact CD ek gj
   rw[Oz s9 sY]at q;refine q _ _ sm ⟨r,_,rfl,zz,?_⟩ λ_=>⟨r,rfl,hr⟩;refine aQ.kp sm.kp ?_;clear hs hp s9 sY q sm
   induction is with
   |nil=>exact .nil
   |cons i is ih=>
    refine .cons ?_<|ih λj hj=>lt j<|qm _ hj;have gi:=ql (lt i qo);have(v,ev,dv):=ds.get gi;dsimp only;rw[qA,qA,gi,ev];exact dv
 .cases e
end
inductive E3 {a b c:Type} (p:a->b->c->Prop):Prop
 |mk (xa xb xc) (y:p xa xb xc):E3 p
inductive E4 {a b c d:Type} (p:a->b->c->d->Prop):Prop
 |mk (xa xb xc xd) (y:p xa xb xc xd):E4 p
inductive E5 {a b c d e:Type} (p:a->b->c->d->e->Prop):Prop
 |mk (xa xb xc xd xe) (y:p xa xb xc xd xe):E5 p
inductive E6 {a b c d e f:Type} (p:a->b->c->d->e->f->Prop):Prop
 |mk (xa xb xc xd xe xf) (y:p xa xb xc xd xe xf):E6 p
inductive E7 {a b c d e f g:Type} (p:a->b->c->d->e->f->g->Prop):Prop
 |mk (xa xb xc xd xe xf xg) (y:p xa xb xc xd xe xf xg):E7 p
inductive E8 {a b c d e f g h:Type} (p:a->b->c->d->e->f->g->h->Prop):Prop
 |mk (xa xb xc xd xe xf xg xh) (y:p xa xb xc xd xe xf xg xh):E8 p
section
variable{X:Cx}
def zAX(he:Wr (PE X e te))(hN:X.N.Nodup:=by first|assumption|exact yJ rfl)(hi:X.N[i]?=ž x:=by rfl)(hx:Loc X.env.scope x:=by first|exact a1S rfl|exact a1a rfl)(hf:X.fn x=ż\/X.env.scope.names.lookup x=ž .local:=by first|exact .inl rfl|exact .inr rfl|assumption):
  Wr (PS X (.AugAssign (.Name x pos') .Add e pos)<|pY (mW (ju λi j=>.int<|i+j) (ni i) te)<|k7 i):=⟨λpins s σ H D I h=>Vi hN hi hx he.run Vh hf pins s σ H D I h⟩
end
end Internal
namespace K48
open PySem Internal
noncomputable def top(i:Nat):ū:=PySem.Challenge.pw_undivide_k48_whole_back_from_tables.main.body.getD i (.Pass ⟨0,0,0,0⟩)
abbrev QN:ū:=top 6
abbrev R3:ū:=top 7
abbrev Rv:ū:=top 8
abbrev QM:ū:=top 13
abbrev Ru:ū:=top 14
abbrev P5:ū:=top 15
abbrev Rt:ū:=top 16
abbrev P4:ū:=top 18
abbrev Oy:ū:=top 19
abbrev P2:ū:=top 20
abbrev Rb:ū:=top 22
abbrev Rr:ū:=top 23
abbrev QL:ū:=top 25
abbrev Ra:ū:=top 26
abbrev RH:ū:=top 27
abbrev RY:ū:=top 28
abbrev Q9:ū:=top 29
abbrev RG:ū:=top 30
abbrev RW:ū:=top 31
abbrev Sb:ū:=top 32
abbrev Sa:ū:=top 33
abbrev RV:ū:=top 34
abbrev RF:ū:=top 35
abbrev RE:ū:=top 36
abbrev Sg:ū:=top 37
abbrev RU:ū:=top 38
abbrev Rq:ū:=top 39
abbrev Sf:ū:=top 40
abbrev R9:ū:=top 41
abbrev RT:ū:=top 42
abbrev RQ:ū:=top 43
abbrev Ro:ū:=top 44
abbrev K7:ū:=top 45
noncomputable def Sj:Qa (Str×Qa Str):=[("UndivideError",["ValueError", "Exception", "BaseException", "object"]),("BadLetters",["UndivideError", "ValueError", "Exception", "BaseException", "object"]),("BadWay",["UndivideError", "ValueError", "Exception", "BaseException", "object"])]
noncomputable abbrev SU:Qa Str:=["at"]
noncomputable def zAY:ū->ū
 |.ClassDef _ _ _ (b::_) _ _ _ _ _ _ _=>b
 |s=>s
abbrev yO:ū:=zAY (top 3)
def znK:bA ["self", "at"] ["self", "at"] (zN yO):=⟨rfl,rfl,rfl,by decide +kernel,rfl,by decide +kernel,by decide +kernel⟩
section
def Bs(Z:Zs):Prop:=Bl Z.mg ["isinstance", "int", "bool", "tuple", "len", "abs", "str", "all", "set", "enumerate", "range", "sorted", "dict", "zip", "max", "min"]/\XT Z.K Sj SU/\(∃G,Z.mg "KEPT_WORDS"=ž (.ref G)/\xE Z.K G ["letters", "part", "rounds", "end", "give"])/\(∃T,Z.mg "MOST_LETTERS"=ž (.int 3 T))/\(∃T,Z.mg "LONGEST_LETTER"=ž (.int 5 T))/\(∃G,Z.mg "NOUGHT"=ž (.ref G)/\vn Z.K G [0,1])/\(∃C,XN Z.K "UndivideError" C/\Z.mg "UndivideError"=ž (.ref C))/\(∃C,XN Z.K "BadLetters" C/\Z.mg "BadLetters"=ž (.ref C)/\oh Z.K Z.mg "BadLetters" C)/\(∃C,XN Z.K "BadWay" C/\Z.mg "BadWay"=ž (.ref C)/\vh Z.P Z.w Z.K Z.mg Z.base "BadWay" C "at")
variable{Z:Zs}
def QK:MS:=(bp<|jH (cn (fC "int")<|zi 0)<|vN<|cn (fC "bool")<|zi 0)
def uf:FD:=cQ 1 [0] QK
abbrev DD(Z:Zs):Prop:=Z.C "is_number" 1 ["thing"] 1 uf
def zmq(B:Bs Z)(A:cZ Z "is_number" QN):DD Z :=
 have hB:=B.1;dH A ["thing"] λnd hr=>⟨_,(zV<|mR (ir (T := "int") zd)<|Gs<|ir (T := "bool") zd),
 (zH<|zP<|mO (bB iy Á<|af aa<|af (iA (v:=.ty "int") ñ rfl) zf)<|nD<|w_not<|bB iy Á<|af aa<|af (iA (v:=.ty "bool") Ć rfl) zf)⟩
def R1:MS:=(zB (tY (BO<|zi 1)<|xR 0 1<|ze (zi 1)<|ze (av jD (zi 0)<|zi 1) zo)
  (bp<|zi 0))
def DI:FD:=cQ 2 [] R1
abbrev R0(Z:Zs):Prop:=Z.C "common_factor" 1 ["one", "other"] 2 DI
def zg5(B:Bs Z)(A:cZ Z "common_factor" R3):R0 Z :=
 have hB:=B.1;dH A ["one", "other"] λnd hr=>⟨_,(zq (NG (Vt zd)<|Lp<|zb zd<|zb (zn mT zd zd) zm)
 (zV zd)),
 (aE (NQ (zBR aa)<|zH<|LL<|af aa<|af (zX mU aa aa) zf)
 (zH<|zP aa))⟩
def QH:MS:=(zB (bL (eI (dA<|mB<|cn (fC "str")<|zi 0)<|eI (mB<|av xu (bW (f1 yc)<|ze (zi 0) zo)<|mC<|.int 5)<|mB<|cn (BU ["letters", "part", "rounds", "end", "give"])<|zi 0) (bp<|mC<|.bool Ż) bV)
  (bp<|jH (Ay a3c<|zi 0)<|jH (Ay a1H<|zi 0)<|Ay a1G<|zi 0))
def DH:FD:=cQ 1 [0] QH
abbrev QD(Z:Zs):Prop:=Z.C "is_letter" 1 ["thing"] 1 DH
def zmr(B:Bs Z)(A:cZ Z "is_letter" QM):QD Z :=
 by obtain⟨hB,_,⟨bE,cJ,cu⟩,_,⟨cO,bq⟩,_⟩:=B;exact dH A ["thing"] λnd hr=>⟨_,(zq (cx (fK (dJ<|dB<|ir (T := "str") zd)<|fK (zG<|zn Cg (cy YT<|zb zd zm) zj)<|zG<|zCK cu zd) (zV fE) zS)
 (zV<|mR (Im zd)<|mR (Im zd)<|Im zd)),
 (aE (cz (gM<|fM (dM<|eF<|bB iy Á<|af aa<|af (iA (v:=.ty "str") PyProof.Rows.boot_str rfl) zf)<|fM (zW Cr (bB zjW Ä<|af aa zf)<|wu (v:=.int 5) rfl bq ⟨_,rfl⟩)<|iN<|zW (zAt _ rfl hr ["letters", "part", "rounds", "end", "give"] (by decide +kernel)) aa (wu (v:=.ref bE) rfl cJ rfl) rfl) (zH<|zP fF) zR)
 (zH<|zP<|mO (Ge _ rfl ö PySem.F.slot_str_isascii PySem.F.type_str_isascii znl aa)<|mO (Ge _ rfl ö PySem.F.slot_str_isalpha PySem.F.type_str_isalpha znm aa)<|nD<|Ge _ rfl ö PySem.F.slot_str_islower PySem.F.type_str_islower znn aa))⟩
def Q8:MS:=(zB (jU (zi 1)<|fJ 2<|zL (zA 2)<|zL (zA 3) gc)
  (zB (aU 4 mQ)
  (zB (eN (Cd<|ze (av fD (zi 2)<|mC<|.int 1)<|ze (bW (f1 dQ)<|ze (zi 0) zo) zo) (zA 5) (zB (jU (av aS (av aS (zi 0)<|zi 3)<|zi 5)<|fJ 2<|zL (zA 6)<|zL (zA 7) gc)
  (zB (mJ 4 (cD<|ze (zi 2)<|ze (zi 5) zo)<|cD<|ze (cD<|ze (cn kP<|av aS (zi 6)<|mC<|.int 0)<|ze (av aS (zi 6)<|mC<|.int 1) zo)<|ze (zi 7) zo)
  (mJ 4 (cD<|ze (zi 5)<|ze (zi 5) zo)<|av aS (av aS (zi 0)<|zi 3)<|zi 2))))
  (oK [0,1] 4))))
def DC:FD:=cQ 8 [0,1] Q8
abbrev Q7(Z:Zs):Prop:=Z.C "steps_from" 1 ["rows", "state"] 2 DC
def zkN(B:Bs Z)(A:cZ Z "steps_from" Rb):Q7 Z :=
 have hB:=B.1;dH A ["rows", "state", "head", "now", "told", "place", "f", "letter"] λnd hr=>⟨_,(zq (oJ zd<|g9<|zE zu<|zE zu hE)
 (zq (zM qM)
 (zq (fW (YO<|zb (zn gm zd zj)<|zb (cy fG<|zb zd zm) zm) zu (zq (oJ (zn zF (zn zF zd zd) zd)<|g9<|zE zu<|zE zu hE)
 (zq (tX (cR<|zb zd<|zb zd zm)<|cR<|zb (cR<|zb (pT qH<|zn zF zd zj)<|zb (zn zF zd zj) zm)<|zb zd zm)
 (tX (cR<|zb zd<|zb zd zm)<|zn zF (zn zF zd zd) zd))))
 yx))),
 (aE (jZ aa<|hG<|bZ zt<|bZ zt hJ)
 (aE (zO qN)
 (aE (fX (zrN<|af (zX gK aa zk)<|af (bB fL Ä<|af aa zf) zf) zt (aE (jZ (zZ zT (zZ zT aa aa) aa)<|hG<|bZ zt<|bZ zt hJ)
 (aE (t5 hr aa (cS<|af aa<|af aa zf)<|cS<|af (cS<|af (p8 qJ<|zZ zT aa zk)<|af (zZ zT aa zk) zf)<|af aa zf)
 (zH<|t5 hr aa (cS<|af aa<|af aa zf)<|zZ zT (zZ zT aa aa) aa))))
 (zH<|zP aa))))⟩
def QC:MS:=(zB (aU 2<|av fD (av g7 (mC<|.int 7919)<|zi 1)<|mC<|.int 11)
  (zB (bL (mB<|av n9 (zi 1)<|bW (f1 dQ)<|ze (zi 0) zo) (aU 2<|av iq (zi 0)<|zi 1)<|bL (mB<|av xu (bW (f1 dQ)<|ze (zi 0) zo)<|mC<|.int 0) (aU 2<|av fD (zi 2)<|av g7 (av jD (av iq (zi 0)<|av jD (zi 1)<|bW (f1 dQ)<|ze (zi 0) zo)<|mC<|.int 2147483629)<|mC<|.int 69623) bV)
  (zB (aU 3<|av fD (av jD (av fD (av g7 (av jD (zi 2)<|mC<|.int 2147483629)<|mC<|.int 48271)<|av g7 (mC<|.int 40692)<|zi 1)<|mC<|.int 2147483629)<|mC<|.int 1)
  (bp<|jC<|ze (av g7 (zi 2)<|bW (f1 xY)<|ze (av A7 (zi 2)<|av BR (mC<|.int 10)<|mC<|.int 18) zo)<|ze (zi 3) zo))))
def DG:FD:=cQ 4 [0,1] QC
abbrev QB(Z:Zs):Prop:=Z.C "_law_box" 1 ["_law_script", "_law_k"] 2 DG
def zms(B:Bs Z)(A:cZ Z "_law_box" QL):QB Z :=
 have hB:=B.1;dH A ["_law_script", "_law_k", "_law_cell", "_law_seed"] λnd hr=>⟨_,(zq (zM<|zn gm (zn j7 zj zd) zj)
 (zq (tZ<|cx (zG<|zn qC zd<|cy fG<|zb zd zm) (zM<|zn jJ zd zd)<|cx (zG<|zn Cg (cy fG<|zb zd zm) zj) (zM<|zn gm zd<|zn j7 (zn mT (zn jJ zd<|zn mT zd<|cy fG<|zb zd zm) zj) zj) zS)
 (zq (zM<|zn gm (zn mT (zn gm (zn j7 (zn mT zd zj) zj)<|zn j7 zj zd) zj) zj)
 (zV<|mM<|zb (zn j7 zd<|cy NK<|zb (zn Gd zd<|zn Vw zj zj) zm)<|zb zd zm)))),
 (aE (zO<|zX gK (zX j9 zk aa) zk)
 (aE (t6<|cz (zW qF aa<|bB fL Ä<|af aa zf) (zH<|zO<|zZ jF aa aa)<|zH<|cz (zW Cr (bB fL Ä<|af aa zf) zk) (zH<|zO<|zX gK aa<|zX j9 (zX mU (zZ jF aa<|zX mU aa<|bB fL Ä<|af aa zf) zk) zk) zR)
 (aE (zO<|zX gK (zX mU (zX gK (zX j9 (zX mU aa zk) zk)<|zX j9 zk aa) zk) zk)
 (zH<|zP<|mN<|af (zX j9 aa<|oE Qj ñ<|af (oM F6 aa<|zX Ve zk zk) zf)<|af aa zf))))⟩
def Q6:MS:=(zB (bL (mB<|av xu (av iq (zi 0)<|mC<|.int 0)<|mC<|.int 0) (zB (aU 2<|av jD (av iq (zi 0)<|mC<|.int 0)<|zi 1)
  (zB (rX 0 (av xZ (av iq (zi 0)<|mC<|.int 0)<|zi 1)<|mC<|.int 0)
  (bp<|zi 2))) bV)
  (zB (aU 3<|av jD (av g7 (av iq (zi 0)<|mC<|.int 1)<|mC<|.int 69623)<|mC<|.int 2147483647)
  (zB (rX 0 (av fD (av jD (av fD (av g7 (zi 3)<|mC<|.int 48271)<|mC<|.int 30103)<|mC<|.int 2147483629)<|mC<|.int 1)<|mC<|.int 1)
  (bp<|av jD (av xZ (av fD (av g7 (zi 3)<|mC<|.int 2147483647)<|av iq (zi 0)<|mC<|.int 1)<|mC<|.int 8191)<|zi 1))))
def zD:FD:=cQ 4 [0,1] Q6
abbrev wO(Z:Zs):Prop:=Z.C "_law_take" 1 ["_law_box_here", "_law_wide"] 2 zD
def zkO(B:Bs Z)(A:cZ Z "_law_take" Ra):wO Z :=
 have hB:=B.1;dH A ["_law_box_here", "_law_wide", "_law_digit", "_law_one"] λnd hr=>⟨_,(zq (cx (zG<|zn Cg (zn jJ zd zj) zj) (zq (zM<|zn mT (zn jJ zd zj) zd)
 (zq (Df (zn NM (zn jJ zd zj) zd) zj)
 (zV zd))) zS)
 (zq (zM<|zn mT (zn j7 (zn jJ zd zj) zj) zj)
 (zq (Df (zn gm (zn mT (zn gm (zn j7 zd zj) zj) zj) zj) zj)
 (zV<|zn mT (zn NM (zn gm (zn j7 zd zj)<|zn jJ zd zj) zj) zd)))),
 (aE (cz (zW Cr (zZ jF aa zk) zk) (aE (zO<|zX mU (zZ jF aa zk) aa)
 (aE (jZ (zX OV (zZ jF aa zk) aa)<|CM aa zk Dt)
 (zH<|zP aa))) zR)
 (aE (zO<|zX mU (zX j9 (zZ jF aa zk) zk) zk)
 (aE (jZ (zX gK (zX mU (zX gK (zX j9 aa zk) zk) zk) zk)<|CM aa zk Dt)
 (zH<|zP<|zX mU (zX OV (zX gK (zX j9 aa zk)<|zZ jF aa zk) zk) aa))))⟩
def RP:MS:=(zB (aU 2<|bW (f1 vz)<|ze (zi 0) zo)
  (zB (aU 3<|bW (f1 vz)<|ze (zi 1) zo)
  (zB (tY (mB<|av (dP ż) (zi 3)<|mC<|.int 0)<|xR 2 3<|ze (zi 3)<|ze (av jD (zi 2)<|zi 3) zo)
  (zB (bL (mB<|av n9 (zi 1)<|mC<|.int 0) (aU 2<|av pS (mC<|.int 0)<|zi 2) bV)
  (bp<|cD<|ze (av Ci (zi 0)<|zi 2)<|ze (av Ci (zi 1)<|zi 2) zo)))))
def sM:FD:=cQ 4 [0,1] RP
abbrev y8(Z:Zs):Prop:=Z.C "_law_fraction" 1 ["_law_n", "_law_d"] 2 sM
def zgw(B:Bs Z)(A:cZ Z "_law_fraction" RY):y8 Z :=
 have hB:=B.1;dH A ["_law_n", "_law_d", "_law_one", "_law_two"] λnd hr=>⟨_,(zq (zM<|cy Gv<|zb zd zm)
 (zq (zM<|cy Gv<|zb zd zm)
 (zq (NG (zG<|zn oR zd zj)<|Lp<|zb zd<|zb (zn mT zd zd) zm)
 (zq (tZ<|cx (zG<|zn qC zd zj) (zM<|zn t4 zj zd) zS)
 (zV<|cR<|zb (zn NL zd zd)<|zb (zn NL zd zd) zm))))),
 (aE (zO<|bB HE a0E<|af aa zf)
 (aE (zO<|bB HE a0E<|af aa zf)
 (aE (NQ (zW oP aa zk)<|zH<|LL<|af aa<|af (zX mU aa aa) zf)
 (aE (t6<|cz (zW qF aa zk) (zH<|zO<|zX t8 zk aa) zR)
 (zH<|zP<|cS<|af (zX OU aa aa)<|af (zX OU aa aa) zf)))))⟩
def R8:MS:=(zB (bL (mB<|av (dP Ż) (av aS (zi 1)<|mC<|.int 0)<|mC<|.int 0) (bp mQ) bV)
  (bp<|ym (av B3 (cD<|ze (mC<|.int 0) zo)<|zi 0)<|zi 1))
def Aa:FD:=cQ 2 [0,1] R8
abbrev Ig(Z:Zs):Prop:=Z.C "_law_poly_number" 1 ["_law_many", "_law_f"] 2 Aa
def zeM(B:Bs Z)(A:cZ Z "_law_poly_number" Sa):Ig Z :=
 have hB:=B.1;dH A ["_law_many", "_law_f"] λnd hr=>⟨_,(zq (cx (zG<|zn nF (zn zF zd zj) zj) (zV qM) zS)
 (zV<|G8 (zn Xq (cR<|zb zj zm) zd) zd)),
 (aE (cz (zW nE (zZ zT aa zk) zk) (zH<|zP qN) zR)
 (zH<|zP<|G9 hr (zX (Xr _ rfl) (cS<|af zk zf) aa) aa))⟩
def Ie:MS:=(zB (jU (zi 0)<|fJ 2<|zL (zA 2)<|zL (zA 3) gc)
  (zB (bL (mB<|av (dP Ż) (av aS (zi 2)<|mC<|.int 0)<|mC<|.int 0) (bp mQ) bV)
  (bp<|ym (bW (f1 rZ)<|ze (q0 (kS<|ze (zi 1) zo) 1 [3] (zA 0) rP<|bW (f1 xY)<|ze (av (dP Ż) (zi 0)<|zi 1) zo) zo)<|zi 2)))
def wU:FD:=cQ 4 [0,1] Ie
abbrev Ic(Z:Zs):Prop:=Z.C "_law_entry_poly" 1 ["_law_entry_here", "_law_many"] 2 wU
def zfz(B:Bs Z)(A:cZ Z "_law_entry_poly" Sg):Ic Z :=
 have hB:=B.1;dH A ["_law_entry_here", "_law_many", "_law_f", "_law_letter"] λnd hr=>⟨_,(zq (oJ zd<|g9<|zE zu<|zE zu hE)
 (zq (cx (zG<|zn nF (zn zF zd zj) zj) (zV qM) zS)
 (zV<|G8 (cy wJ<|zb (xQ (oX<|zb zd zm) zu yt<|cy NK<|zb (zn nF zd zd) zm) zm) zd))),
 (aE (jZ aa<|hG<|bZ zt<|bZ zt hJ)
 (aE (cz (zW nE (zZ zT aa zk) zk) (zH<|zP qN) zR)
 (zH<|zP<|G9 hr (oE wN Å<|af (BG (oW<|af aa zf) zt yy<|oE Qj ñ<|af (oM nE aa aa) zf) zf) aa)))⟩
def Rm:MS:=(zB (aU 1<|jC<|ze (cD<|ze (cD zo)<|ze (mC<|.int 1) zo) zo)
  (zB (eN (kS<|ze (zi 0) zo) (zA 2) (zB (aU 3<|jC zo)
  (zB (eN (gS vv<|h9<|zi 1) (fJ 2<|zL (zA 4)<|zL (zA 5) gc)<|eN (kS<|ze (av fD (zi 2)<|mC<|.int 1) zo) (zA 6) (zB (aU 7<|av g7 (zi 5)<|av pS (mC<|.int 1)<|av g7 (mC<|.int 2)<|av jD (av pS (zi 2)<|zi 6)<|mC<|.int 2)
  (jG<|mE 3<|cD<|ze (av wj (av wj (nN nj (zi 4) nG<|nC<|zi 6)<|cD<|ze (zi 2) zo)<|nN nj (zi 4) (nC<|zi 6) nG)<|ze (zi 7) zo)))
  (aU 1<|h9<|zi 3))))
  (oK [0] 1)))
def DN:FD:=cQ 8 [0] Rm
abbrev Rl(Z:Zs):Prop:=Z.C "_law_orders" 1 ["_law_many"] 1 DN
def ziw(B:Bs Z)(A:cZ Z "_law_orders" Rq):Rl Z :=
 have hB:=B.1;dH A ["_law_many", "_law_found", "_law_k", "_law_longer", "_law_order", "_law_sign", "_law_place", "_law_other"] λnd hr=>⟨_,(zq (zM<|mM<|zb (cR<|zb (cR zm)<|zb zj zm) zm)
 (zq (fW (oX<|zb zd zm) zu (zq (zM<|mM zm)
 (zq (fW (G0<|jk zd) (g9<|zE zu<|zE zu hE)<|fW (oX<|zb (zn gm zd zj) zm) zu (zq (zM<|zn j7 zd<|zn t4 zj<|zn j7 zj<|zn mT (zn t4 zd zd) zj)
 (rY<|tQ<|cR<|zb (zn O4 (zn O4 (rQ wo zd sv<|su zd)<|cR<|zb zd zm)<|rQ wo zd (su zd) sv)<|zb zd zm)))
 (zM<|jk zd))))
 yx)),
 (aE (zO<|mN<|af (cS<|af (cS zf)<|af zk zf) zf)
 (aE (fX (oW<|af aa zf) zt (aE (zO<|mN zf)
 (aE (fX (Hh<|jl aa) (hG<|bZ zt<|bZ zt hJ)<|zH<|fX (oW<|af (zX gK aa zk) zf) zt (aE (zO<|zX j9 aa<|zX t8 zk<|zX j9 zk<|zX mU (zX t8 aa aa) zk)
 (zH<|r8<|p6 _ rfl ß Ý Þ ug aa<|af (cS<|af (zX O5 (zX O5 (sA vp aa sD<|sC aa)<|cS<|af aa zf)<|sA vp aa (sC aa) sD)<|af aa zf) zf)))
 (zH<|zO<|jl aa))))
 (zH<|zP aa)))⟩
def RO:MS:=(bp<|jH (cn (fC "int")<|zi 0)<|vN<|cn (fC "bool")<|zi 0)
def wW:FD:=cQ 1 [0] RO
abbrev RN(Z:Zs):Prop:=Z.C "_law_is_whole" 1 ["_law_thing"] 1 wW
def zgx(B:Bs Z)(A:cZ Z "_law_is_whole" RQ):RN Z :=
 have hB:=B.1;dH A ["_law_thing"] λnd hr=>⟨_,(zV<|mR (ir (T := "int") zd)<|Gs<|ir (T := "bool") zd),
 (zH<|zP<|mO (bB iy Á<|af aa<|af (iA (v:=.ty "int") ñ rfl) zf)<|nD<|w_not<|bB iy Á<|af aa<|af (iA (v:=.ty "bool") Ć rfl) zf)⟩
def RD:MS:=(zB (bL (eI (dA<|mB<|cn (fC "tuple")<|zi 0)<|mB<|av (dP ż) (bW (f1 dQ)<|ze (zi 0) zo)<|mC<|.int 2) (bp<|mC<|.bool Ż) bV)
  (zB (jU (zi 0)<|fJ 2<|zL (zA 1)<|zL (zA 2) gc)
  (zB (bL (eI (dA<|mB<|aR uf<|ze (zi 1) zo)<|dA<|mB<|aR uf<|ze (zi 2) zo) (bp<|mC<|.bool Ż) bV)
  (bp<|jH (av A7 (zi 2)<|mC<|.int 1)<|av (dP Ż) (aR DI<|ze (bW (f1 vz)<|ze (zi 1) zo)<|ze (zi 2) zo)<|mC<|.int 1))))
def DU:FD:=cQ 3 [0] RD
abbrev RC(Z:Zs):Prop:=Z.C "is_fraction" 2 ["thing"] 1 DU
def ziX(B:Bs Z)(A:cZ Z "is_fraction" Rv)(c0:DD Z)(c1:R0 Z):RC Z :=
 have hB:=B.1;dH A ["thing", "above", "beneath"] λnd hr=>⟨_,(zq (cx (fK (dJ<|dB<|ir (T := "tuple") zd)<|zG<|zn oR (cy fG<|zb zd zm) zj) (zV fE) zS)
 (zq (oJ zd<|g9<|zE zu<|zE zu hE)
 (zq (cx (fK (dJ<|dB<|zK 1<|zb zd zm)<|dJ<|dB<|zK 1<|zb zd zm) (zV fE) zS)
 (zV<|mR (zn Gd zd zj)<|zn nF (zK 2<|zb (cy Gv<|zb zd zm)<|zb zd zm) zj)))),
 (aE (cz (gM<|fM (dM<|eF<|bB iy Á<|af aa<|af (iA (v:=.ty "tuple") Å rfl) zf)<|iN<|zW oP (bB fL Ä<|af aa zf) zk) (zH<|zP fF) zR)
 (aE (jZ aa<|hG<|bZ zt<|bZ zt hJ)
 (aE (cz (gM<|fM (dM<|eF<|zJ<|af aa zf)<|iN<|dM<|eF<|zJ<|af aa zf) (zH<|zP fF) zR)
 (zH<|zP<|mO (oM F6 aa zk)<|nD<|oM nE (zJ<|af (bB HE a0E<|af aa zf)<|af aa zf) zk))))⟩
def RB:MS:=(zB (bL (eI (dA<|mB<|cn (fC "tuple")<|zi 0)<|dA<|mB<|tW rE rE (mC<|.int 1) (bW (f1 dQ)<|ze (zi 0) zo)<|mC<|.int 3) (bp<|mC<|.bool Ż) bV)
  (bp<|jH (bW (f1 Io)<|ze (q0 (gS tI<|zi 0) 1 [] (zA 0) rP<|aR DH<|ze (zi 0) zo) zo)<|av (dP Ż) (cn CW<|zi 0)<|bW (f1 dQ)<|ze (zi 0) zo))
def DS:FD:=cQ 1 [0] RB
abbrev RA(Z:Zs):Prop:=Z.C "are_letters" 2 ["things"] 1 DS
def ziY(B:Bs Z)(A:cZ Z "are_letters" Ru)(c0:QD Z):RA Z :=
 by obtain⟨hB,_,_,⟨dD,bR⟩,_⟩:=B;exact dH A ["things"] λnd hr=>⟨_,(zq (cx (fK (dJ<|dB<|ir (T := "tuple") zd)<|dJ<|zG<|CY tR tR zj (cy fG<|zb zd zm) zj) (zV fE) zS)
 (zV<|mR (cy zAr<|zb (xQ (Cz zd) zu yt<|zK 1<|zb zd zm) zm)<|zn nF (zsG zd)<|cy fG<|zb zd zm)),
 (aE (cz (gM<|fM (dM<|eF<|bB iy Á<|af aa<|af (iA (v:=.ty "tuple") Å rfl) zf)<|iN<|dM<|O6 tP tP zk (bB fL Ä<|af aa zf)<|wu (v:=.int 3) rfl bR ⟨_,rfl⟩) (zH<|zP fF) zR)
 (zH<|zP<|mO (bB (zBU _ rfl rfl) PyProof.Rows.boot_all<|af (BG (CL aa) zt yy<|zJ<|af aa zf) zf)<|nD<|oM nE (bB zqE Ä<|af (oE (zqD _ rfl rfl) rfl<|af aa zf) zf)<|bB fL Ä<|af aa zf))⟩
def P1:MS:=(bp<|jH (aR uf<|ze (zi 0) zo)<|tW rE n9 (mC<|.int 0) (zi 0)<|zi 1)
def wQ:FD:=cQ 2 [0,1] P1
abbrev HX(Z:Zs):Prop:=Z.C "is_place" 2 ["thing", "many"] 2 wQ
def znL(B:Bs Z)(A:cZ Z "is_place" P5)(c0:DD Z):HX Z :=
 have hB:=B.1;dH A ["thing", "many"] λnd hr=>⟨_,(zV<|mR (zK 1<|zb zd zm)<|CY tR qC zj zd zd),
 (zH<|zP<|mO (zJ<|af aa zf)<|nD<|NR tP qF zk aa aa)⟩
def Rk:MS:=(zB (jU (zi 0)<|fJ 2<|zL (zA 1)<|zL (zA 2) gc)
  (zB (aU 3<|jC zo)
  (zB (aU 4<|mC<|.int 1)
  (zB (aU 5<|ym (cD<|ze (mC<|.int 0)<|ze (mC<|.int 0) zo)<|mC<|.int 0)
  (zB (eN (kS<|ze (av pS (bW (f1 dQ)<|ze (zi 2) zo)<|mC<|.int 1) zo) (zA 6) (zB (aU 7 mQ)
  (zB (eN (gS wd<|h9<|zi 5) (fJ 2<|zL (zA 8)<|zL (zA 9) gc)<|eN (gS wd<|h9<|aR DC<|ze (zi 2)<|ze (zi 8) zo) (fJ 2<|zL (zA 10)<|zL (zA 11) gc)<|bL (mB<|cn (vF ż [0,1])<|av aS (zi 11)<|mC<|.int 0) (zB (bL (mB<|BM ż (zi 10)<|zi 7) (zB (mJ 7 (zi 10)<|zi 4)
  (aU 4<|av fD (zi 4)<|mC<|.int 1)) bV)
  (jG<|mE 3<|cD<|ze (zi 9)<|ze (jY (zi 7)<|zi 10)<|ze (zi 11) zo)) bV)
  (aU 5<|h9<|zi 7))))
  (zB (eN (gS wd<|h9<|zi 5) (fJ 2<|zL (fJ 2<|zL (zA 12)<|zL (zA 13) gc)<|zL (zA 9) gc)<|bL (mB<|cn (vF ż [0,1])<|av aS (av aS (av aS (zi 2)<|zi 13)<|zi 12)<|mC<|.int 0) (jG<|mE 3<|cD<|ze (zi 9)<|ze (zi 4)<|ze (av aS (av aS (zi 2)<|zi 13)<|zi 12) zo) bV)
  (bp<|cD<|ze (zi 1)<|ze (av fD (zi 4)<|mC<|.int 1)<|ze (bW (f1 rZ)<|ze (bW (f1 CF)<|ze (zi 3) zo) zo) zo)))))))
def uh:FD:=cQ 14 [0] Rk
abbrev Rj(Z:Zs):Prop:=Z.C "web_of_table" 2 ["table"] 1 uh
def ziy(B:Bs Z)(A:cZ Z "web_of_table" Rr)(c0:Q7 Z):Rj Z :=
 by obtain⟨hB,_,_,_,_,⟨cc,cC,bK⟩,_⟩:=B;exact dH A ["table", "letters", "rows", "ways", "dots", "ahead", "step", "behind", "state", "start", "other", "entry", "head", "now"] λnd hr=>⟨_,(zq (oJ zd<|g9<|zE zu<|zE zu hE)
 (zq (zM<|mM zm)
 (zq (zM zj)
 (zq (zM<|G8 (cR<|zb zj<|zb zj zm) zj)
 (zq (fW (oX<|zb (zn t4 (cy fG<|zb zd zm) zj) zm) zu (zq (zM qM)
 (zq (fW (HF<|jk zd) (g9<|zE zu<|zE zu hE)<|fW (HF<|jk<|zK 2<|zb zd<|zb zd zm) (g9<|zE zu<|zE zu hE)<|cx (zG<|F0 (neg:=ż) bK<|zn zF zd zj) (zq (tZ<|cx (dB<|zr9 zd zd) (zq (tX zd zd)
 (zM<|zn gm zd zj)) zS)
 (rY<|tQ<|cR<|zb zd<|zb (qG zd zd)<|zb zd zm)) zS)
 (zM<|jk zd))))
 (zq (fW (HF<|jk zd) (g9<|zE (g9<|zE zu<|zE zu hE)<|zE zu hE)<|cx (zG<|F0 (neg:=ż) bK<|zn zF (zn zF (zn zF zd zd) zd) zj) (rY<|tQ<|cR<|zb zd<|zb zd<|zb (zn zF (zn zF zd zd) zd) zm) zS)
 (zV<|cR<|zb zd<|zb (zn gm zd zj)<|zb (cy wJ<|zb (cy Zb<|zb zd zm) zm) zm))))))),
 (aE (jZ aa<|hG<|bZ zt<|bZ zt hJ)
 (aE (zO<|mN zf)
 (aE (zO zk)
 (aE (zO<|G9 hr (cS<|af zk<|af zk zf) zk)
 (aE (fX (oW<|af (zX t8 (bB fL Ä<|af aa zf) zk) zf) zt (aE (zO qN)
 (aE (fX (GQ<|jl aa) (hG<|bZ zt<|bZ zt hJ)<|zH<|fX (GQ<|jl<|zJ<|af aa<|af aa zf) (hG<|bZ zt<|bZ zt hJ)<|zH<|cz (zW (CB _ rfl hr) (zZ zT aa zk)<|wu (v:=.ref cc) rfl cC rfl) (aE (t6<|cz (zqp hr aa aa) (aE (t5 hr aa aa aa)
 (zH<|zAX zk)) zR)
 (zH<|r8<|p6 _ rfl ß Ý Þ ug aa<|af (cS<|af aa<|af (qI hr aa aa)<|af aa zf) zf)) zR)
 (zH<|zO<|jl aa))))
 (aE (fX (GQ<|jl aa) (hG<|bZ (hG<|bZ zt<|bZ zt hJ)<|bZ zt hJ)<|zH<|cz (zW (CB _ rfl hr) (zZ zT (zZ zT (zZ zT aa aa) aa) zk)<|wu (v:=.ref cc) rfl cC rfl) (zH<|r8<|p6 _ rfl ß Ý Þ ug aa<|af (cS<|af aa<|af aa<|af (zZ zT (zZ zT aa aa) aa) zf) zf) zR)
 (zH<|zP<|cS<|af aa<|af (zX gK aa zk)<|af (oE wN Å<|af (bB (znJ _ rfl hr) PyProof.Rows.boot_sorted<|af aa zf) zf) zf)))))))⟩
def Rz:MS:=(zB (aU 2<|mC<|.str "abcdefghijklmnopqrstuvwxyz")
  (zB (aU 3<|q0 (kS<|ze (av fD (mC<|.int 1)<|aR zD<|ze (zi 0)<|ze (mC<|.int 4) zo) zo) 1 [0,2] (zA 0) rP<|av tG (zi 2)<|aR zD<|ze (zi 1)<|ze (mC<|.int 26) zo)
  (zB (aU 4<|aR zD<|ze (zi 0)<|ze (bW (f1 dQ)<|ze (zi 3) zo) zo)
  (zB (aU 5<|aR zD<|ze (zi 0)<|ze (mC<|.int 26) zo)
  (zB (aU 6<|jC zo)
  (zB (eN (kS<|ze (zi 1) zo) (zA 7) (zB (aU 8<|av tG (zi 2)<|av jD (av fD (zi 5)<|av g7 (mC<|.int 7)<|zi 7)<|mC<|.int 26)
  (zB (aU 9<|av p9 (av p9 (Eg Ah vK (mC<|.str "")<|nN xN (zi 3) nG<|nC<|zi 4)<|zi 8)<|Eg Ah vK (mC<|.str "")<|nN xN (zi 3) (nC<|av fD (zi 4)<|mC<|.int 1) nG)
  (zB (aU 9<|av p9 (zi 9)<|av ye (mC<|.str "q")<|aR zD<|ze (zi 0)<|ze (mC<|.int 2) zo)
  (zB (bL (eI (mB<|av (rF Ż) (zi 9)<|zi 6)<|mB<|av (rF Ż) (zi 9)<|cD<|ze (mC<|.str "part")<|ze (mC<|.str "end")<|ze (mC<|.str "give")<|ze (mC<|.str "rounds")<|ze (mC<|.str "letters") zo) (aU 9<|av p9 (mC<|.str "zz")<|av tG (zi 2)<|zi 7) bV)
  (jG<|mE 6<|zi 9))))))
  (zB (bL (mB<|av (dP Ż) (aR zD<|ze (zi 0)<|ze (mC<|.int 5) zo)<|mC<|.int 0) (zB (aU 10<|av iq (jC<|ze (mC<|.str "ends")<|ze (mC<|.str "pa")<|ze (mC<|.str "gives")<|ze (mC<|.str "giv")<|ze (mC<|.str "x")<|ze (mC<|.str "y")<|ze (mC<|.str "r")<|ze (mC<|.str "rk") zo)<|aR zD<|ze (zi 0)<|ze (mC<|.int 8) zo)
  (bL (mB<|av (rF ż) (zi 10)<|zi 6) (rX 6 (zi 10)<|aR zD<|ze (zi 0)<|ze (zi 1) zo) bV)) bV)
  (bp<|bW (f1 rZ)<|ze (zi 6) zo))))))))
def DR:FD:=cQ 11 [0,1] Rz
abbrev Rw(Z:Zs):Prop:=Z.C "_law_names" 2 ["_law_box_here", "_law_many"] 2 DR
def ziZ(B:Bs Z)(A:cZ Z "_law_names" RH)(c0:wO Z):Rw Z :=
 have hB:=B.1;dH A ["_law_box_here", "_law_many", "_law_alphabet", "_law_signs", "_law_spot", "_law_first", "_law_found", "_law_k", "_law_one", "_law_name", "_law_odd"] λnd hr=>⟨_,(zq (zM iK)
 (zq (zM<|xQ (oX<|zb (zn gm zj<|zK 2<|zb zd<|zb zj zm) zm) zu yt<|zn Gn zd<|zK 2<|zb zd<|zb zj zm)
 (zq (zM<|zK 2<|zb zd<|zb (cy fG<|zb zd zm) zm)
 (zq (zM<|zK 2<|zb zd<|zb zj zm)
 (zq (zM<|mM zm)
 (zq (fW (oX<|zb zd zm) zu (zq (zM<|zn Gn zd<|zn mT (zn gm zd<|zn j7 zj zd) zj)
 (zq (zM<|zn Dd (zn Dd (Su My NZ iK<|rQ ND zd sv<|su zd) zd)<|Su My NZ iK<|rQ ND zd (su<|zn gm zd zj) sv)
 (zq (zM<|zn Dd zd<|zn YU iK<|zK 2<|zb zd<|zb zj zm)
 (zq (tZ<|cx (fK (zG<|zn (F1 Ż) zd zd)<|zG<|zn (F1 Ż) zd<|cR<|zb iK<|zb iK<|zb iK<|zb iK<|zb iK zm) (zM<|zn Dd iK<|zn Gn zd zd) zS)
 (rY<|tQ zd))))))
 (zq (tZ<|cx (zG<|zn nF (zK 2<|zb zd<|zb zj zm) zj) (zq (zM<|zn jJ (mM<|zb iK<|zb iK<|zb iK<|zb iK<|zb iK<|zb iK<|zb iK<|zb iK zm)<|zK 2<|zb zd<|zb zj zm)
 (cx (zG<|zn (F1 ż) zd zd) (Df zd<|zK 2<|zb zd<|zb zd zm) zS)) zS)
 (zV<|cy wJ<|zb zd zm)))))))),
 (aE (zO iL)
 (aE (zBS (oW<|af (zX gK zk<|zJ<|af aa<|af zk zf) zf) zt yy<|zZ GH aa<|zJ<|af aa<|af zk zf)
 (aE (zO<|zJ<|af aa<|af (bB fL Ä<|af aa zf) zf)
 (aE (zO<|zJ<|af aa<|af zk zf)
 (aE (zO<|mN zf)
 (aE (fX (oW<|af aa zf) zt (aE (zO<|zZ GH aa<|zX mU (zX gK aa<|zX j9 zk aa) zk)
 (aE (zO<|zX DA (zX DA (p6 _ rfl ö a3Z a3W (NO _ rfl) iL<|af (sA LP aa sD<|sC aa) zf) aa)<|p6 _ rfl ö a3Z a3W (NO _ rfl) iL<|af (sA LP aa (sC<|zX gK aa zk) sD) zf)
 (aE (zO<|zX DA aa<|zX zm0 iL<|zJ<|af aa<|af zk zf)
 (aE (t6<|cz (gM<|fM (zW SD aa aa rfl)<|iN<|zW SD aa (cS<|af iL<|af iL<|af iL<|af iL<|af iL zf) rfl) (zH<|zO<|zX DA iL<|zZ GH aa aa) zR)
 (zH<|r8<|p6 _ rfl ß Ý Þ ug aa<|af aa zf))))))
 (aE (t6<|cz (zW nE (zJ<|af aa<|af zk zf) zk) (aE (zO<|zZ jF (mN<|af iL<|af iL<|af iL<|af iL<|af iL<|af iL<|af iL<|af iL zf)<|zJ<|af aa<|af zk zf)
 (zH<|cz (zW Yk aa aa rfl) (zH<|jZ aa<|CM aa (zJ<|af aa<|af aa zf) Dt) zR)) zR)
 (zH<|zP<|oE wN Å<|af aa zf))))))))⟩
def Qv:MS:=(bp<|aR sM<|ze (av fD (av tM (av aS (zi 0)<|mC<|.int 0)<|av aS (zi 1)<|mC<|.int 1)<|av tM (av aS (zi 1)<|mC<|.int 0)<|av aS (zi 0)<|mC<|.int 1)<|ze (av tM (av aS (zi 0)<|mC<|.int 1)<|av aS (zi 1)<|mC<|.int 1) zo)
def yZ:FD:=cQ 2 [0,1] Qv
abbrev Ia(Z:Zs):Prop:=Z.C "_law_plus" 2 ["_law_one", "_law_other"] 2 yZ
def zkP(B:Bs Z)(A:cZ Z "_law_plus" Q9)(c0:y8 Z):Ia Z :=
 have hB:=B.1;dH A ["_law_one", "_law_other"] λnd hr=>⟨_,(zV<|zK 2<|zb (zn gm (zn yE (zn zF zd zj)<|zn zF zd zj)<|zn yE (zn zF zd zj)<|zn zF zd zj)<|zb (zn yE (zn zF zd zj)<|zn zF zd zj) zm),
 (zH<|zP<|zJ<|af (zX gK (zX yF (zZ zT aa zk)<|zZ zT aa zk)<|zX yF (zZ zT aa zk)<|zZ zT aa zk)<|af (zX yF (zZ zT aa zk)<|zZ zT aa zk) zf)⟩
def Q4:MS:=(bp<|aR sM<|ze (av tM (av aS (zi 0)<|mC<|.int 0)<|av aS (zi 1)<|mC<|.int 0)<|ze (av tM (av aS (zi 0)<|mC<|.int 1)<|av aS (zi 1)<|mC<|.int 1) zo)
def DQ:FD:=cQ 2 [0,1] Q4
abbrev Q3(Z:Zs):Prop:=Z.C "_law_times" 2 ["_law_one", "_law_other"] 2 DQ
def zi0(B:Bs Z)(A:cZ Z "_law_times" RG)(c0:y8 Z):Q3 Z :=
 have hB:=B.1;dH A ["_law_one", "_law_other"] λnd hr=>⟨_,(zV<|zK 2<|zb (zn yE (zn zF zd zj)<|zn zF zd zj)<|zb (zn yE (zn zF zd zj)<|zn zF zd zj) zm),
 (zH<|zP<|zJ<|af (zX yF (zZ zT aa zk)<|zZ zT aa zk)<|af (zX yF (zZ zT aa zk)<|zZ zT aa zk) zf)⟩
def RM:MS:=(zB (aU 1<|aR zD<|ze (zi 0)<|ze (mC<|.int 12) zo)
  (zB (bL (mB<|av n9 (zi 1)<|mC<|.int 7) (bp<|av iq (jC<|ze (cD<|ze (mC<|.int 0)<|ze (mC<|.int 1) zo)<|ze (cD<|ze (mC<|.int 1)<|ze (mC<|.int 1) zo)<|ze (cD<|ze (mC<|.int 1)<|ze (mC<|.int 1) zo)<|ze (cD<|ze (cn kP<|mC<|.int 1)<|ze (mC<|.int 1) zo)<|ze (cD<|ze (mC<|.int 2)<|ze (mC<|.int 1) zo)<|ze (cD<|ze (mC<|.int 1)<|ze (mC<|.int 2) zo)<|ze (cD<|ze (cn kP<|mC<|.int 2)<|ze (mC<|.int 3) zo) zo)<|zi 1) bV)
  (zB (bL (mB<|av n9 (zi 1)<|mC<|.int 11) (bp<|aR sM<|ze (av pS (aR zD<|ze (zi 0)<|ze (mC<|.int 19) zo)<|mC<|.int 9)<|ze (av fD (mC<|.int 1)<|aR zD<|ze (zi 0)<|ze (mC<|.int 4) zo) zo) bV)
  (bp<|aR sM<|ze (av pS (aR zD<|ze (zi 0)<|ze (mC<|.int 1999999) zo)<|mC<|.int 999999)<|ze (av fD (mC<|.int 1)<|aR zD<|ze (zi 0)<|ze (mC<|.int 4) zo) zo))))
def DK:FD:=cQ 2 [0] RM
abbrev RL(Z:Zs):Prop:=Z.C "_law_multiple" 2 ["_law_box_here"] 1 DK
def zgy(B:Bs Z)(A:cZ Z "_law_multiple" RV)(c0:wO Z)(c1:y8 Z):RL Z :=
 have hB:=B.1;dH A ["_law_box_here", "_law_kind"] λnd hr=>⟨_,(zq (zM<|zK 2<|zb zd<|zb zj zm)
 (zq (cx (zG<|zn qC zd zj) (zV<|zn jJ (mM<|zb (cR<|zb zj<|zb zj zm)<|zb (cR<|zb zj<|zb zj zm)<|zb (cR<|zb zj<|zb zj zm)<|zb (cR<|zb (pT qH zj)<|zb zj zm)<|zb (cR<|zb zj<|zb zj zm)<|zb (cR<|zb zj<|zb zj zm)<|zb (cR<|zb (pT qH zj)<|zb zj zm) zm) zd) zS)
 (zq (cx (zG<|zn qC zd zj) (zV<|zK 2<|zb (zn t4 (zK 2<|zb zd<|zb zj zm) zj)<|zb (zn gm zj<|zK 2<|zb zd<|zb zj zm) zm) zS)
 (zV<|zK 2<|zb (zn t4 (zK 2<|zb zd<|zb zj zm) zj)<|zb (zn gm zj<|zK 2<|zb zd<|zb zj zm) zm)))),
 (aE (zO<|zJ<|af aa<|af zk zf)
 (aE (cz (zW qF aa zk) (zH<|zP<|zZ jF (mN<|af (cS<|af zk<|af zk zf)<|af (cS<|af zk<|af zk zf)<|af (cS<|af zk<|af zk zf)<|af (cS<|af (p8 qJ zk)<|af zk zf)<|af (cS<|af zk<|af zk zf)<|af (cS<|af zk<|af zk zf)<|af (cS<|af (p8 qJ zk)<|af zk zf) zf) aa) zR)
 (aE (cz (zW qF aa zk) (zH<|zP<|zJ<|af (zX t8 (zJ<|af aa<|af zk zf) zk)<|af (zX gK zk<|zJ<|af aa<|af zk zf) zf) zR)
 (zH<|zP<|zJ<|af (zX t8 (zJ<|af aa<|af zk zf) zk)<|af (zX gK zk<|zJ<|af aa<|af zk zf) zf))))⟩
def R7:MS:=(zB (bL (eI (dA<|mB<|cn (fC "tuple")<|zi 0)<|mB<|av (dP ż) (bW (f1 dQ)<|ze (zi 0) zo)<|mC<|.int 2) (bp<|mC<|.bool Ż) bV)
  (zB (eN (gS tI<|zi 0) (zA 1)<|bL (eI (dA<|mB<|cn (fC "int")<|zi 1)<|mB<|cn (fC "bool")<|zi 1) (bp<|mC<|.bool Ż) bV)
  (bp<|jH (av xu (av aS (zi 0)<|mC<|.int 1)<|mC<|.int 0)<|av (oz Ż) (aR sM<|ze (av aS (zi 0)<|mC<|.int 0)<|ze (av aS (zi 0)<|mC<|.int 1) zo)<|zi 0)))
def DW:FD:=cQ 2 [0] R7
abbrev R6(Z:Zs):Prop:=Z.C "_law_is_fraction" 2 ["_law_thing"] 1 DW
def zeN(B:Bs Z)(A:cZ Z "_law_is_fraction" R9)(c0:y8 Z):R6 Z :=
 have hB:=B.1;dH A ["_law_thing", "_law_one"] λnd hr=>⟨_,(zq (cx (fK (dJ<|dB<|ir (T := "tuple") zd)<|zG<|zn oR (cy fG<|zb zd zm) zj) (zV fE) zS)
 (zq (fW (Cz zd) zu<|cx (fK (dJ<|dB<|ir (T := "int") zd)<|dB<|ir (T := "bool") zd) (zV fE) zS)
 (zV<|mR (zn Cg (zn zF zd zj) zj)<|zn (GJ Ż) (zK 2<|zb (zn zF zd zj)<|zb (zn zF zd zj) zm) zd))),
 (aE (cz (gM<|fM (dM<|eF<|bB iy Á<|af aa<|af (iA (v:=.ty "tuple") Å rfl) zf)<|iN<|zW oP (bB fL Ä<|af aa zf) zk) (zH<|zP fF) zR)
 (aE (fX (CL aa) zt<|zH<|cz (gM<|fM (dM<|eF<|bB iy Á<|af aa<|af (iA (v:=.ty "int") ñ rfl) zf)<|iN<|eF<|bB iy Á<|af aa<|af (iA (v:=.ty "bool") Ć rfl) zf) (zH<|zP fF) zR)
 (zH<|zP<|mO (oM Cr (zZ zT aa zk) zk)<|nD<|oM (MN _ rfl hr) (zJ<|af (zZ zT aa zk)<|af (zZ zT aa zk) zf) aa)))⟩
def Ri:MS:=(zB (bL (dA<|mB<|aR DS<|ze (zi 0) zo) (wm<|Iq "BadLetters") bV)
  (bp<|mC<|.bool ż))
def DM:FX:=xP 1 [0] Ri
abbrev Rh(Z:Zs):Prop:=Z.X "look_letters" 3 ["letters"] 1 DM
def ziz(B:Bs Z)(A:cZ Z "look_letters" Rt)(c0:RA Z):Rh Z :=
 by obtain⟨hB,_,_,_,_,_,_,⟨bG,aP,cK,bf⟩,_⟩:=B;exact Sk A ["letters"] λnd hr hx=>⟨_,(zq (cx (dJ<|dB<|zK 1<|zb zd zm) (Dc<|zsx bf.xn bf.cl) zS)
 (zV fE)),
 (aE (cz (dM<|eF<|zJ<|af aa zf) (zH<|CZ _ rfl hr hx<|zqC bf rfl) zR)
 (zH<|zP fF))⟩
def HW:MS:=(zB (bL (eI (dA<|mB<|cn (fC "tuple")<|zi 0)<|mB<|av (dP ż) (bW (f1 dQ)<|ze (zi 0) zo)<|mC<|.int 2) (bp<|mC<|.bool Ż) bV)
  (zB (jU (zi 0)<|fJ 2<|zL (zA 2)<|zL (zA 3) gc)
  (bp<|jH (aR DU<|ze (zi 2) zo)<|BP (av (vo Ż) (zi 3)<|mC .none)<|aR wQ<|ze (zi 3)<|ze (zi 1) zo)))
def yW:FD:=cQ 4 [0,1] HW
abbrev Qi(Z:Zs):Prop:=Z.C "is_entry" 3 ["thing", "many_letters"] 2 yW
def znM(B:Bs Z)(A:cZ Z "is_entry" P4)(c0:RC Z)(c1:HX Z):Qi Z :=
 have hB:=B.1;dH A ["thing", "many_letters", "f", "letter"] λnd hr=>⟨_,(zq (cx (fK (dJ<|dB<|ir (T := "tuple") zd)<|zG<|zn oR (cy fG<|zb zd zm) zj) (zV fE) zS)
 (zq (oJ zd<|g9<|zE zu<|zE zu hE)
 (zV<|mR (zK 1<|zb zd zm)<|zB1 (zn Mz zd Cj)<|zK 2<|zb zd<|zb zd zm))),
 (aE (cz (gM<|fM (dM<|eF<|bB iy Á<|af aa<|af (iA (v:=.ty "tuple") Å rfl) zf)<|iN<|zW oP (bB fL Ä<|af aa zf) zk) (zH<|zP fF) zR)
 (aE (jZ aa<|hG<|bZ zt<|bZ zt hJ)
 (zH<|zP<|mO (zJ<|af aa zf)<|nD<|zDv (oM ML aa Ck)<|nD<|zJ<|af aa<|af aa zf)))⟩
def RK:MS:=(zB (aU 3<|bW (f1 wD)<|ze (zi 0) zo)
  (zB (eN (gS rV<|h9<|zi 1) (zA 4) (zB (aU 5<|cD<|ze (av g7 (zi 2)<|av aS (jY (zi 1)<|zi 4)<|mC<|.int 0)<|ze (av aS (jY (zi 1)<|zi 4)<|mC<|.int 1) zo)
  (mJ 3 (zi 4)<|aR yZ<|ze (wg (zi 3) (zi 4)<|cD<|ze (mC<|.int 0)<|ze (mC<|.int 1) zo)<|ze (zi 5) zo)))
  (zB (aU 6 mQ)
  (zB (eN (gS rV<|h9<|zi 3) (zA 4)<|bL (mB<|av (dP ż) (av aS (jY (zi 3)<|zi 4)<|mC<|.int 0)<|mC<|.int 0) (mJ 6 (zi 4)<|jY (zi 3)<|zi 4) bV)
  (oK [0,1,2] 6)))))
def wV:FD:=cQ 7 [0,1,2] RK
abbrev Ih(Z:Zs):Prop:=Z.C "_law_poly_add" 3 ["_law_one", "_law_other", "_law_sign"] 3 wV
def zgz(B:Bs Z)(A:cZ Z "_law_poly_add" RW)(c0:Ia Z):Ih Z :=
 have hB:=B.1;dH A ["_law_one", "_law_other", "_law_sign", "_law_found", "_law_powers", "_law_more", "_law_kept"] λnd hr=>⟨_,(zq (zM<|cy zqN<|zb zd zm)
 (zq (fW (yG<|jk zd) zu (zq (zM<|cR<|zb (zn j7 zd<|zn zF (qG zd zd) zj)<|zb (zn zF (qG zd zd) zj) zm)
 (tX zd<|zK 2<|zb (N2 zd zd<|cR<|zb zj<|zb zj zm)<|zb zd zm)))
 (zq (zM qM)
 (zq (fW (yG<|jk zd) zu<|cx (zG<|zn oR (zn zF (qG zd zd) zj) zj) (tX zd<|qG zd zd) zS)
 yx)))),
 (aE (zO<|oE znv PyProof.Rows.boot_dict<|af aa zf)
 (aE (fX (yP<|jl aa) zt (aE (zO<|cS<|af (zX j9 aa<|zZ zT (qI hr aa aa) zk)<|af (zZ zT (qI hr aa aa) zk) zf)
 (zH<|t5 hr aa aa<|zJ<|af (N4 hr aa aa (cS<|af zk<|af zk zf) ⟨rfl,rfl,rfl,rfl⟩)<|af aa zf)))
 (aE (zO qN)
 (aE (fX (yP<|jl aa) zt<|zH<|cz (zW oP (zZ zT (qI hr aa aa) zk) zk) (zH<|t5 hr aa aa<|qI hr aa aa) zR)
 (zH<|zP aa)))))⟩
def Sh:MS:=(zB (aU 2 mQ)
  (zB (eN (gS rV<|h9<|zi 0) (zA 3)<|eN (gS rV<|h9<|zi 1) (zA 4) (zB (aU 5<|bW (f1 rZ)<|ze (q0 (Bx<|ze (zi 3)<|ze (zi 4) zo) 2 [] (fJ 2<|zL (zA 0)<|zL (zA 1) gc) rP<|av fD (zi 0)<|zi 1) zo)
  (zB (aU 6<|aR DQ<|ze (jY (zi 0)<|zi 3)<|ze (jY (zi 1)<|zi 4) zo)
  (mJ 2 (zi 5)<|aR yZ<|ze (wg (zi 2) (zi 5)<|cD<|ze (mC<|.int 0)<|ze (mC<|.int 1) zo)<|ze (zi 6) zo))))
  (zB (aU 7 mQ)
  (zB (eN (gS rV<|h9<|zi 2) (zA 5)<|bL (mB<|av (dP ż) (av aS (jY (zi 2)<|zi 5)<|mC<|.int 0)<|mC<|.int 0) (mJ 7 (zi 5)<|jY (zi 2)<|zi 5) bV)
  (oK [0,1] 7)))))
def wR:FD:=cQ 8 [0,1] Sh
abbrev Ii(Z:Zs):Prop:=Z.C "_law_poly_mult" 3 ["_law_one", "_law_other"] 2 wR
def zgb(B:Bs Z)(A:cZ Z "_law_poly_mult" Sb)(c0:Ia Z)(c1:Q3 Z):Ii Z :=
 have hB:=B.1;dH A ["_law_one", "_law_other", "_law_found", "_law_left", "_law_right", "_law_powers", "_law_more", "_law_kept"] λnd hr=>⟨_,(zq (zM qM)
 (zq (fW (yG<|jk zd) zu<|fW (yG<|jk zd) zu (zq (zM<|cy wJ<|zb (xQ (Mf<|zb zd<|zb zd zm) (g9<|zE zu<|zE zu hE) yt<|zn gm zd zd) zm)
 (zq (zM<|zK 2<|zb (qG zd zd)<|zb (qG zd zd) zm)
 (tX zd<|zK 2<|zb (N2 zd zd<|cR<|zb zj<|zb zj zm)<|zb zd zm))))
 (zq (zM qM)
 (zq (fW (yG<|jk zd) zu<|cx (zG<|zn oR (zn zF (qG zd zd) zj) zj) (tX zd<|qG zd zd) zS)
 yx)))),
 (aE (zO qN)
 (aE (fX (yP<|jl aa) zt<|zH<|fX (yP<|jl aa) zt (aE (zO<|oE wN Å<|af (BG (Mh<|af aa<|af aa zf) (hG<|bZ zt<|bZ zt hJ) yy<|zX gK aa aa) zf)
 (aE (zO<|zJ<|af (qI hr aa aa)<|af (qI hr aa aa) zf)
 (zH<|t5 hr aa aa<|zJ<|af (N4 hr aa aa (cS<|af zk<|af zk zf) ⟨rfl,rfl,rfl,rfl⟩)<|af aa zf))))
 (aE (zO qN)
 (aE (fX (yP<|jl aa) zt<|zH<|cz (zW oP (zZ zT (qI hr aa aa) zk) zk) (zH<|t5 hr aa aa<|qI hr aa aa) zR)
 (zH<|zP aa)))))⟩
def Q2:MS:=(zB (aU 3<|aR DK<|ze (zi 0) zo)
  (zB (bL (vw (mB<|av (dP Ż) (av aS (zi 3)<|mC<|.int 0)<|mC<|.int 0)<|dA<|mB<|zi 2) (aU 3<|cD<|ze (mC<|.int 1)<|ze (mC<|.int 1) zo) bV)
  (zB (aU 4<|aR zD<|ze (zi 0)<|ze (av fD (zi 1)<|mC<|.int 1) zo)
  (zB (bL (mB<|av (dP Ż) (zi 4)<|zi 1) (bp<|cD<|ze (zi 3)<|ze (mC .none) zo) bV)
  (bp<|cD<|ze (av iq (jC<|ze (zi 3)<|ze (cD<|ze (mC<|.int 1)<|ze (mC<|.int 1) zo) zo)<|aR zD<|ze (zi 0)<|ze (mC<|.int 2) zo)<|ze (zi 4) zo)))))
def DP:FD:=cQ 5 [0,1,2] Q2
abbrev Q1(Z:Zs):Prop:=Z.C "_law_entry" 3 ["_law_box_here", "_law_many", "_law_may_be_nought"] 3 DP
def zi1(B:Bs Z)(A:cZ Z "_law_entry" RF)(c0:wO Z)(c1:RL Z):Q1 Z :=
 have hB:=B.1;dH A ["_law_box_here", "_law_many", "_law_may_be_nought", "_law_f", "_law_k"] λnd hr=>⟨_,(zq (zM<|zK 1<|zb zd zm)
 (zq (tZ<|cx (Gu (zG<|zn nF (zn zF zd zj) zj)<|dJ<|dB zd) (zM<|cR<|zb zj<|zb zj zm) zS)
 (zq (zM<|zK 2<|zb zd<|zb (zn gm zd zj) zm)
 (zq (cx (zG<|zn nF zd zd) (zV<|cR<|zb zd<|zb Cj zm) zS)
 (zV<|cR<|zb (zn jJ (mM<|zb zd<|zb (cR<|zb zj<|zb zj zm) zm)<|zK 2<|zb zd<|zb zj zm)<|zb zd zm))))),
 (aE (zO<|zJ<|af aa zf)
 (aE (t6<|cz (gM<|GD (zW nE (zZ zT aa zk) zk)<|Hi<|dM<|eF aa) (zH<|zO<|cS<|af zk<|af zk zf) zR)
 (aE (zO<|zJ<|af aa<|af (zX gK aa zk) zf)
 (aE (cz (zW nE aa aa) (zH<|zP<|cS<|af aa<|af Ck zf) zR)
 (zH<|zP<|cS<|af (zZ jF (mN<|af aa<|af (cS<|af zk<|af zk zf) zf)<|zJ<|af aa<|af zk zf)<|af aa zf)))))⟩
def RJ:MS:=(zB (bL (eI (dA<|mB<|cn (fC "tuple")<|zi 0)<|eI (mB<|av (dP ż) (bW (f1 dQ)<|ze (zi 0) zo)<|mC<|.int 2)<|dA<|mB<|aR DW<|ze (av aS (zi 0)<|mC<|.int 0) zo) (bp<|mC<|.bool Ż) bV)
  (zB (bL (vw (mB<|av (dP Ż) (av aS (av aS (zi 0)<|mC<|.int 0)<|mC<|.int 0)<|mC<|.int 0)<|dA<|mB<|zi 2) (bp<|mC<|.bool Ż) bV)
  (zB (bL (mB<|av (vo Ż) (av aS (zi 0)<|mC<|.int 1)<|mC .none) (bp<|mC<|.bool ż) bV)
  (bp<|jH (cn (fC "int")<|av aS (zi 0)<|mC<|.int 1)<|jH (vN<|cn (fC "bool")<|av aS (zi 0)<|mC<|.int 1)<|tW rE n9 (mC<|.int 0) (av aS (zi 0)<|mC<|.int 1)<|zi 1))))
def DJ:FD:=cQ 3 [0,1,2] RJ
abbrev RI(Z:Zs):Prop:=Z.C "_law_is_entry" 3 ["_law_entry_here", "_law_many", "_law_may_be_nought"] 3 DJ
def zgA(B:Bs Z)(A:cZ Z "_law_is_entry" RT)(c0:R6 Z):RI Z :=
 have hB:=B.1;dH A ["_law_entry_here", "_law_many", "_law_may_be_nought"] λnd hr=>⟨_,(zq (cx (fK (dJ<|dB<|ir (T := "tuple") zd)<|fK (zG<|zn oR (cy fG<|zb zd zm) zj)<|dJ<|dB<|zK 1<|zb (zn zF zd zj) zm) (zV fE) zS)
 (zq (cx (Gu (zG<|zn nF (zn zF (zn zF zd zj) zj) zj)<|dJ<|dB zd) (zV fE) zS)
 (zq (cx (zG<|zn Mz (zn zF zd zj) Cj) (zV fE) zS)
 (zV<|mR (ir (T := "int")<|zn zF zd zj)<|mR (Gs<|ir (T := "bool")<|zn zF zd zj)<|CY tR qC zj (zn zF zd zj) zd)))),
 (aE (cz (gM<|fM (dM<|eF<|bB iy Á<|af aa<|af (iA (v:=.ty "tuple") Å rfl) zf)<|fM (zW oP (bB fL Ä<|af aa zf) zk)<|iN<|dM<|eF<|zJ<|af (zZ zT aa zk) zf) (zH<|zP fF) zR)
 (aE (cz (gM<|GD (zW nE (zZ zT (zZ zT aa zk) zk) zk)<|Hi<|dM<|eF aa) (zH<|zP fF) zR)
 (aE (cz (zW ML (zZ zT aa zk) Ck) (zH<|zP fF) zR)
 (zH<|zP<|mO (bB iy Á<|af (zZ zT aa zk)<|af (iA (v:=.ty "int") ñ rfl) zf)<|mO (w_not<|bB iy Á<|af (zZ zT aa zk)<|af (iA (v:=.ty "bool") Ć rfl) zf)<|nD<|NR tP qF zk (zZ zT aa zk) aa))))⟩
def Ox:MS:=(zB (bL (eI (dA<|mB<|cn (fC "tuple")<|zi 0)<|mB<|av (dP ż) (bW (f1 dQ)<|ze (zi 0) zo)<|mC<|.int 3) (bp<|mC<|.bool Ż) bV)
  (zB (jU (zi 0)<|fJ 3<|zL (zA 3)<|zL (zA 4)<|zL (zA 5) gc)
  (zB (bL (eI (dA<|mB<|aR wQ<|ze (zi 3)<|ze (zi 1) zo)<|eI (dA<|mB<|aR wQ<|ze (zi 4)<|ze (zi 1) zo)<|mB<|av A7 (zi 3)<|zi 4) (bp<|mC<|.bool Ż) bV)
  (bp<|jH (aR yW<|ze (zi 5)<|ze (zi 2) zo)<|cn (vF ż [0,1])<|av aS (zi 5)<|mC<|.int 0))))
def Dq:FD:=cQ 6 [0,1,2] Ox
abbrev Ov(Z:Zs):Prop:=Z.C "is_way" 4 ["way", "dots", "many_letters"] 3 Dq
def Za(B:Bs Z)(A:cZ Z "is_way" Oy)(c0:HX Z)(c1:Qi Z):Ov Z :=
 by obtain⟨hB,_,_,_,_,⟨cc,cC,bK⟩,_⟩:=B;exact dH A ["way", "dots", "many_letters", "start", "end", "entry"] λnd hr=>⟨_,(zq (cx (fK (dJ<|dB<|ir (T := "tuple") zd)<|zG<|zn oR (cy fG<|zb zd zm) zj) (zV fE) zS)
 (zq (oJ zd<|g9<|zE zu<|zE zu<|zE zu hE)
 (zq (cx (fK (dJ<|dB<|zK 2<|zb zd<|zb zd zm)<|fK (dJ<|dB<|zK 2<|zb zd<|zb zd zm)<|zG<|zn Gd zd zd) (zV fE) zS)
 (zV<|mR (zK 2<|zb zd<|zb zd zm)<|F0 (neg:=ż) bK<|zn zF zd zj)))),
 (aE (cz (gM<|fM (dM<|eF<|bB iy Á<|af aa<|af (iA (v:=.ty "tuple") Å rfl) zf)<|iN<|zW oP (bB fL Ä<|af aa zf) zk) (zH<|zP fF) zR)
 (aE (jZ aa<|hG<|bZ zt<|bZ zt<|bZ zt hJ)
 (aE (cz (gM<|fM (dM<|eF<|zJ<|af aa<|af aa zf)<|fM (dM<|eF<|zJ<|af aa<|af aa zf)<|iN<|zW F6 aa aa) (zH<|zP fF) zR)
 (zH<|zP<|mO (zJ<|af aa<|af aa zf)<|nD<|oM (CB _ rfl hr) (zZ zT aa zk)<|wu (v:=.ref cc) rfl cC rfl))))⟩
def Q0:MS:=(zB (aU 3<|av fD (mC<|.int 1)<|aR zD<|ze (zi 0)<|ze (zi 2) zo)
  (zB (aU 4<|aR zD<|ze (zi 0)<|ze (mC<|.int 3) zo)
  (zB (aU 5<|jC zo)
  (zB (eN (kS<|ze (zi 3) zo) (zA 6) (zB (aU 7<|jC zo)
  (zB (eN (kS<|ze (zi 3) zo) (zA 8) (zB (aU 9<|aR DP<|ze (zi 0)<|ze (bW (f1 dQ)<|ze (zi 1) zo)<|ze (mC<|.bool ż) zo)
  (zB (bL (vw (mB<|av (dP Ż) (zi 4)<|mC<|.int 2)<|mB<|av (dP Ż) (aR zD<|ze (zi 0)<|ze (mC<|.int 3) zo)<|mC<|.int 0) (aU 9<|cD<|ze (cD<|ze (mC<|.int 0)<|ze (mC<|.int 1) zo)<|ze (mC .none) zo) bV)
  (jG<|mE 7<|zi 9))))
  (jG<|mE 5<|bW (f1 rZ)<|ze (zi 7) zo))))
  (bp<|cD<|ze (zi 1)<|ze (bW (f1 rZ)<|ze (zi 5) zo) zo)))))
def DO:FD:=cQ 10 [0,1,2] Q0
abbrev QZ(Z:Zs):Prop:=Z.C "_law_table" 4 ["_law_box_here", "_law_letters", "_law_most"] 3 DO
def zi2(B:Bs Z)(A:cZ Z "_law_table" RE)(c0:wO Z)(c1:Q1 Z):QZ Z :=
 have hB:=B.1;dH A ["_law_box_here", "_law_letters", "_law_most", "_law_many", "_law_kind", "_law_rows", "_law_k", "_law_row", "_law_j", "_law_entry_here"] λnd hr=>⟨_,(zq (zM<|zn gm zj<|zK 2<|zb zd<|zb zd zm)
 (zq (zM<|zK 2<|zb zd<|zb zj zm)
 (zq (zM<|mM zm)
 (zq (fW (oX<|zb zd zm) zu (zq (zM<|mM zm)
 (zq (fW (oX<|zb zd zm) zu (zq (zM<|zK 3<|zb zd<|zb (cy fG<|zb zd zm)<|zb fE zm)
 (zq (tZ<|cx (Gu (zG<|zn nF zd zj)<|zG<|zn nF (zK 2<|zb zd<|zb zj zm) zj) (zM<|cR<|zb (cR<|zb zj<|zb zj zm)<|zb Cj zm) zS)
 (rY<|tQ zd))))
 (rY<|tQ<|cy wJ<|zb zd zm))))
 (zV<|cR<|zb zd<|zb (cy wJ<|zb zd zm) zm))))),
 (aE (zO<|zX gK zk<|zJ<|af aa<|af aa zf)
 (aE (zO<|zJ<|af aa<|af zk zf)
 (aE (zO<|mN zf)
 (aE (fX (oW<|af aa zf) zt (aE (zO<|mN zf)
 (aE (fX (oW<|af aa zf) zt (aE (zO<|zJ<|af aa<|af (bB fL Ä<|af aa zf)<|af fF zf)
 (aE (t6<|cz (gM<|GD (zW nE aa zk)<|Hi<|zW nE (zJ<|af aa<|af zk zf) zk) (zH<|zO<|cS<|af (cS<|af zk<|af zk zf)<|af Ck zf) zR)
 (zH<|r8<|p6 _ rfl ß Ý Þ ug aa<|af aa zf))))
 (zH<|r8<|p6 _ rfl ß Ý Þ ug aa<|af (oE wN Å<|af aa zf) zf))))
 (zH<|zP<|cS<|af aa<|af (oE wN Å<|af aa zf) zf)))))⟩
def R5:MS:=(zB (jU (zi 0)<|fJ 3<|zL (zA 1)<|zL (zA 2)<|zL (zA 3) gc)
  (zB (aU 4<|av FV (jC<|ze (h9<|aR Aa<|ze (bW (f1 dQ)<|ze (zi 1) zo)<|ze (cD<|ze (mC<|.int 1)<|ze (mC<|.int 1) zo) zo) zo)<|q0 (kS<|ze (av pS (zi 2)<|mC<|.int 1) zo) 1 [] (zA 0) rP<|h9 mQ)
  (zB (eN (gS tI<|zi 3) (fJ 3<|zL (zA 5)<|zL (zA 6)<|zL (zA 7) gc) (zB (aU 8<|aR wR<|ze (av iq (zi 4)<|zi 5)<|ze (aR wU<|ze (zi 7)<|ze (bW (f1 dQ)<|ze (zi 1) zo) zo) zo)
  (rX 4 (h9<|aR wV<|ze (av iq (zi 4)<|zi 6)<|ze (zi 8)<|ze (mC<|.int 1) zo)<|zi 6)))
  (bp<|av iq (zi 4)<|cn kP<|mC<|.int 1))))
def y0:FD:=cQ 9 [0] R5
abbrev R4(Z:Zs):Prop:=Z.C "_law_web_poly" 4 ["_law_web"] 1 y0
def zgB(B:Bs Z)(A:cZ Z "_law_web_poly" RU)(c0:Ih Z)(c1:Ii Z)(c2:Ig Z)(c3:Ic Z):R4 Z :=
 have hB:=B.1;dH A ["_law_web", "_law_letters", "_law_dots", "_law_ways", "_law_found", "_law_begin", "_law_end", "_law_entry_here", "_law_part"] λnd hr=>⟨_,(zq (oJ zd<|g9<|zE zu<|zE zu<|zE zu hE)
 (zq (zM<|zn Ya (mM<|zb (jk<|zK 2<|zb (cy fG<|zb zd zm)<|zb (cR<|zb zj<|zb zj zm) zm) zm)<|xQ (oX<|zb (zn t4 zd zj) zm) zu yt<|jk qM)
 (zq (fW (Cz zd) (g9<|zE zu<|zE zu<|zE zu hE) (zq (zM<|zK 2<|zb (zn jJ zd zd)<|zb (zK 2<|zb zd<|zb (cy fG<|zb zd zm) zm) zm)
 (Df (jk<|zK 3<|zb (zn jJ zd zd)<|zb zd<|zb zj zm) zd)))
 (zV<|zn jJ zd<|pT qH zj)))),
 (aE (jZ aa<|hG<|bZ zt<|bZ zt<|bZ zt hJ)
 (aE (zO<|zX Yb (mN<|af (jl<|zJ<|af (bB fL Ä<|af aa zf)<|af (cS<|af zk<|af zk zf) zf) zf)<|BG (oW<|af (zX t8 aa zk) zf) zt yy<|jl qN)
 (aE (fX (CL aa) (hG<|bZ zt<|bZ zt<|bZ zt hJ) (aE (zO<|zJ<|af (zZ jF aa aa)<|af (zJ<|af aa<|af (bB fL Ä<|af aa zf) zf) zf)
 (zH<|jZ (jl<|zJ<|af (zZ jF aa aa)<|af aa<|af zk zf)<|CM aa aa Dt)))
 (zH<|zP<|zZ jF aa<|p8 qJ zk))))⟩
def Se:MS:=(zB (jU (zi 0)<|fJ 2<|zL (zA 1)<|zL (zA 2) gc)
  (zB (aU 3 mQ)
  (zB (eN (gS vv<|h9<|aR DN<|ze (bW (f1 dQ)<|ze (zi 2) zo) zo) (fJ 2<|zL (zA 4)<|zL (zA 5) gc) (zB (aU 6<|aR Aa<|ze (bW (f1 dQ)<|ze (zi 1) zo)<|ze (cD<|ze (mC<|.int 1)<|ze (mC<|.int 1) zo) zo)
  (zB (eN (Bx<|ze (zi 2)<|ze (zi 4) zo) (fJ 2<|zL (zA 7)<|zL (zA 8) gc)<|aU 6<|aR wR<|ze (zi 6)<|ze (aR wU<|ze (av aS (zi 7)<|zi 8)<|ze (bW (f1 dQ)<|ze (zi 1) zo) zo) zo)
  (aU 3<|aR wV<|ze (zi 3)<|ze (zi 6)<|ze (zi 5) zo))))
  (oK [0] 3))))
def y9:FD:=cQ 9 [0] Se
abbrev Sd(Z:Zs):Prop:=Z.C "_law_signed_sum" 4 ["_law_table_here"] 1 y9
def zfC(B:Bs Z)(A:cZ Z "_law_signed_sum" Sf)(c0:Ih Z)(c1:Ii Z)(c2:Ig Z)(c3:Ic Z)(c4:Rl Z):Sd Z :=
 have hB:=B.1;dH A ["_law_table_here", "_law_letters", "_law_rows", "_law_found", "_law_order", "_law_sign", "_law_part", "_law_row", "_law_column"] λnd hr=>⟨_,(zq (oJ zd<|g9<|zE zu<|zE zu hE)
 (zq (zM qM)
 (zq (fW (G0<|jk<|zK 1<|zb (cy fG<|zb zd zm) zm) (g9<|zE zu<|zE zu hE) (zq (zM<|zK 2<|zb (cy fG<|zb zd zm)<|zb (cR<|zb zj<|zb zj zm) zm)
 (zq (fW (Mf<|zb zd<|zb zd zm) (g9<|zE zu<|zE zu hE)<|zM<|zK 2<|zb zd<|zb (zK 2<|zb (zn zF zd zd)<|zb (cy fG<|zb zd zm) zm) zm)
 (zM<|zK 3<|zb zd<|zb zd<|zb zd zm))))
 yx))),
 (aE (jZ aa<|hG<|bZ zt<|bZ zt hJ)
 (aE (zO qN)
 (aE (fX (Hh<|jl<|zJ<|af (bB fL Ä<|af aa zf) zf) (hG<|bZ zt<|bZ zt hJ) (aE (zO<|zJ<|af (bB fL Ä<|af aa zf)<|af (cS<|af zk<|af zk zf) zf)
 (aE (fX (Mh<|af aa<|af aa zf) (hG<|bZ zt<|bZ zt hJ)<|zH<|zO<|zJ<|af aa<|af (zJ<|af (zZ zT aa aa)<|af (bB fL Ä<|af aa zf) zf) zf)
 (zH<|zO<|zJ<|af aa<|af aa<|af aa zf))))
 (zH<|zP aa))))⟩
def Rg:MS:=(zB (bL (eI (dA<|mB<|cn (fC "tuple")<|zi 0)<|eI (mB<|av (dP ż) (bW (f1 dQ)<|ze (zi 0) zo)<|mC<|.int 3)<|eI (mB<|av (oz ż) (av aS (zi 0)<|mC<|.int 0)<|zi 1)<|dA<|mB<|aR wW<|ze (av aS (zi 0)<|mC<|.int 1) zo) (bp<|mC<|.bool Ż) bV)
  (zB (bL (eI (dA<|mB<|tW rE rE (mC<|.int 2) (av aS (zi 0)<|mC<|.int 1)<|zi 2)<|dA<|mB<|cn (fC "tuple")<|av aS (zi 0)<|mC<|.int 2) (bp<|mC<|.bool Ż) bV)
  (zB (aU 3<|cD<|ze (cn kP<|mC<|.int 1)<|ze (cn kP<|mC<|.int 1) zo)
  (zB (eN (gS tI<|av aS (zi 0)<|mC<|.int 2) (zA 4) (zB (bL (eI (dA<|mB<|cn (fC "tuple")<|zi 4)<|eI (mB<|av (dP ż) (bW (f1 dQ)<|ze (zi 4) zo)<|mC<|.int 3)<|eI (dA<|mB<|aR wW<|ze (av aS (zi 4)<|mC<|.int 0) zo)<|dA<|mB<|aR wW<|ze (av aS (zi 4)<|mC<|.int 1) zo) (bp<|mC<|.bool Ż) bV)
  (zB (bL (eI (dA<|mB<|yL rE n9 n9 (mC<|.int 0) (av aS (zi 4)<|mC<|.int 0) (av aS (zi 4)<|mC<|.int 1)<|av aS (zi 0)<|mC<|.int 1)<|mB<|av (xV leB) (nN nj (zi 4) nG<|nC<|mC<|.int 2)<|zi 3) (bp<|mC<|.bool Ż) bV)
  (zB (bL (dA<|mB<|aR DJ<|ze (av aS (zi 4)<|mC<|.int 2)<|ze (bW (f1 dQ)<|ze (zi 1) zo)<|ze (mC<|.bool Ż) zo) (bp<|mC<|.bool Ż) bV)
  (aU 3<|nN nj (zi 4) nG<|nC<|mC<|.int 2)))))
  (bp<|mC<|.bool ż)))))
def yY:FD:=cQ 5 [0,1,2] Rg
abbrev Rf(Z:Zs):Prop:=Z.C "_law_is_web" 4 ["_law_web", "_law_letters", "_law_most"] 3 yY
def ziB(B:Bs Z)(A:cZ Z "_law_is_web" Ro)(c0:RI Z)(c1:RN Z):Rf Z :=
 have hB:=B.1;dH A ["_law_web", "_law_letters", "_law_most", "_law_last", "_law_way"] λnd hr=>⟨_,(zq (cx (fK (dJ<|dB<|ir (T := "tuple") zd)<|fK (zG<|zn oR (cy fG<|zb zd zm) zj)<|fK (zG<|zn (GJ ż) (zn zF zd zj) zd)<|dJ<|dB<|zK 1<|zb (zn zF zd zj) zm) (zV fE) zS)
 (zq (cx (fK (dJ<|zG<|CY tR tR zj (zn zF zd zj) zd)<|dJ<|dB<|ir (T := "tuple")<|zn zF zd zj) (zV fE) zS)
 (zq (zM<|cR<|zb (pT qH zj)<|zb (pT qH zj) zm)
 (zq (fW (Cz<|zn zF zd zj) zu (zq (cx (fK (dJ<|dB<|ir (T := "tuple") zd)<|fK (zG<|zn oR (cy fG<|zb zd zm) zj)<|fK (dJ<|dB<|zK 1<|zb (zn zF zd zj) zm)<|dJ<|dB<|zK 1<|zb (zn zF zd zj) zm) (zV fE) zS)
 (zq (cx (fK (dJ<|zG<|Z6 tR qC qC zj (zn zF zd zj) (zn zF zd zj)<|zn zF zd zj)<|zG<|zn M4 (rQ wo zd sv<|su zj) zd) (zV fE) zS)
 (zq (cx (dJ<|dB<|zK 3<|zb (zn zF zd zj)<|zb (cy fG<|zb zd zm)<|zb fE zm) (zV fE) zS)
 (zM<|rQ wo zd sv<|su zj)))))
 (zV fE))))),
 (aE (cz (gM<|fM (dM<|eF<|bB iy Á<|af aa<|af (iA (v:=.ty "tuple") Å rfl) zf)<|fM (zW oP (bB fL Ä<|af aa zf) zk)<|fM (zW (CB _ rfl hr) (zZ zT aa zk) aa)<|iN<|dM<|eF<|zJ<|af (zZ zT aa zk) zf) (zH<|zP fF) zR)
 (aE (cz (gM<|fM (dM<|O6 tP tP zk (zZ zT aa zk) aa)<|iN<|dM<|eF<|bB iy Á<|af (zZ zT aa zk)<|af (iA (v:=.ty "tuple") Å rfl) zf) (zH<|zP fF) zR)
 (aE (zO<|cS<|af (p8 qJ zk)<|af (p8 qJ zk) zf)
 (aE (fX (CL<|zZ zT aa zk) zt (aE (cz (gM<|fM (dM<|eF<|bB iy Á<|af aa<|af (iA (v:=.ty "tuple") Å rfl) zf)<|fM (zW oP (bB fL Ä<|af aa zf) zk)<|fM (dM<|eF<|zJ<|af (zZ zT aa zk) zf)<|iN<|dM<|eF<|zJ<|af (zZ zT aa zk) zf) (zH<|zP fF) zR)
 (aE (cz (gM<|fM (dM<|zqV tP qF qF zk (zZ zT aa zk) (zZ zT aa zk)<|zZ zT aa zk)<|iN<|zW (Mn _ rfl hr) (sA vp aa sD<|sC zk) aa) (zH<|zP fF) zR)
 (aE (cz (dM<|eF<|zJ<|af (zZ zT aa zk)<|af (bB fL Ä<|af aa zf)<|af fF zf) (zH<|zP fF) zR)
 (zH<|zO<|sA vp aa sD<|sC zk)))))
 (zH<|zP fF)))))⟩
def P9:MS:=(zB (jU (zi 0)<|fJ 3<|zL (zA 1)<|zL (zA 2)<|zL (zA 3) gc)
  (zB (vG jG<|Cn DM<|ze (zi 1) zo)
  (zB (bL (eI (dA<|mB<|aR uf<|ze (zi 2) zo)<|mB<|av n9 (zi 2)<|mC<|.int 2) (wm<|Ef "BadWay" "at"<|ze (cn kP<|mC<|.int 1) zo) bV)
  (zB (bL (dA<|mB<|cn (fC "tuple")<|zi 3) (wm<|Ef "BadWay" "at"<|ze (mC<|.int 0) zo) bV)
  (zB (aU 4<|cD<|ze (cn kP<|mC<|.int 1)<|ze (cn kP<|mC<|.int 1) zo)
  (zB (eN (Cc<|ze (zi 3) zo) (fJ 2<|zL (zA 5)<|zL (zA 6) gc) (zB (bL (eI (dA<|mB<|aR Dq<|ze (zi 6)<|ze (zi 2)<|ze (bW (f1 dQ)<|ze (zi 1) zo) zo)<|mB<|av (xV leB) (nN nj (zi 6) nG<|nC<|mC<|.int 2)<|zi 4) (wm<|Ef "BadWay" "at"<|ze (zi 5) zo) bV)
  (aU 4<|nN nj (zi 6) nG<|nC<|mC<|.int 2)))
  (bp<|mC<|.bool ż)))))))
def yV:FX:=xP 7 [0] P9
abbrev P8(Z:Zs):Prop:=Z.X "look_web" 5 ["web"] 1 yV
def znN(B:Bs Z)(A:cZ Z "look_web" P2)(c0:DD Z)(c1:Rh Z)(c2:Ov Z):P8 Z :=
 by obtain⟨hB,_,_,_,_,_,_,_,⟨eD,bD,gC,aM⟩⟩:=B;exact Sk A ["web", "letters", "dots", "ways", "ahead", "at", "way"] λnd hr hx=>⟨_,(zq (oJ zd<|g9<|zE zu<|zE zu<|zE zu hE)
 (zq (zsw<|Mw 1<|zb zd zm)
 (zq (cx (fK (dJ<|dB<|zK 1<|zb zd zm)<|zG<|zn qC zd zj) (Dc<|GU aM.xn aM.cl aM.na<|zb (pT qH zj) zm) zS)
 (zq (cx (dJ<|dB<|ir (T := "tuple") zd) (Dc<|GU aM.xn aM.cl aM.na<|zb zj zm) zS)
 (zq (zM<|cR<|zb (pT qH zj)<|zb (pT qH zj) zm)
 (zq (fW (YN<|zb zd zm) (g9<|zE zu<|zE zu hE) (zq (cx (fK (dJ<|dB<|zK 3<|zb zd<|zb zd<|zb (cy fG<|zb zd zm) zm)<|zG<|zn M4 (rQ wo zd sv<|su zj) zd) (Dc<|GU aM.xn aM.cl aM.na<|zb zd zm) zS)
 (zM<|rQ wo zd sv<|su zj)))
 (zV fE))))))),
 (aE (jZ aa<|hG<|bZ zt<|bZ zt<|bZ zt hJ)
 (aE (r8<|Mx c1 hx<|af aa zf)
 (aE (cz (gM<|fM (dM<|eF<|zJ<|af aa zf)<|iN<|zW qF aa zk) (zH<|CZ _ rfl hr hx<|Hz aM<|af (p8 qJ zk) zf) zR)
 (aE (cz (dM<|eF<|bB iy Á<|af aa<|af (iA (v:=.ty "tuple") Å rfl) zf) (zH<|CZ _ rfl hr hx<|Hz aM<|af zk zf) zR)
 (aE (zO<|cS<|af (p8 qJ zk)<|af (p8 qJ zk) zf)
 (aE (fX (Yj<|af aa zf) (hG<|bZ zt<|bZ zt hJ) (aE (cz (gM<|fM (dM<|eF<|zJ<|af aa<|af aa<|af (bB fL Ä<|af aa zf) zf)<|iN<|zW (Mn _ rfl hr) (sA vp aa sD<|sC zk) aa) (zH<|CZ _ rfl hr hx<|Hz aM<|af aa zf) zR)
 (zH<|zO<|sA vp aa sD<|sC zk)))
 (zH<|zP fF)))))))⟩
def K6:MS:=(zB (aU 1<|jC zo)
  (zB (eN (kS<|ze (bW Cf<|ze (mC<|.int 1)<|ze (bW B4<|ze (bW (f1 dQ)<|ze (zi 0) zo)<|ze (mC<|.int 2) zo) zo) zo) (zA 2) (zB (aU 3<|aR DG<|ze (zi 0)<|ze (zi 2) zo)
  (jG<|mE 1<|aR DO<|ze (zi 3)<|ze (aR DR<|ze (zi 3)<|ze (av fD (mC<|.int 1)<|aR zD<|ze (zi 3)<|ze (mC<|.int 3) zo) zo)<|ze (mC<|.int 4) zo)))
  (zB (aU 4<|aR uh<|ze (av iq (zi 1)<|mC<|.int 0) zo)
  (zB (eN (gS vv<|h9<|zi 1) (zA 5) (zB (aU 6<|bW (f1 dQ)<|ze (av aS (zi 5)<|mC<|.int 1) zo)
  (zB (aU 7<|aR uh<|ze (zi 5) zo)
  (zB (bL (eI (dA<|mB<|aR yY<|ze (zi 7)<|ze (av aS (zi 5)<|mC<|.int 0)<|ze (av fD (av g7 (av g7 (zi 6)<|zi 6)<|av fD (zi 6)<|mC<|.int 1)<|mC<|.int 2) zo)<|mB<|av xU (pE<|Cn yV<|ze (zi 7) zo)<|mC<|.bool ż) (bp<|mC<|.bool Ż) bV)
  (bL (mB<|av (B2 Ż) (aR y0<|ze (zi 7) zo)<|aR y9<|ze (zi 5) zo) (bp<|mC<|.bool Ż) bV)))))
  (bp<|av (oz Ż) (aR uh<|ze (av iq (zi 1)<|mC<|.int 0) zo)<|zi 4)))))
def vV:FD:=cQ 8 [0] K6
def zAZ{f:Qg}(B:Bs Z)(F:jS Z.K "law" "law" K7 f fd)(c0:P8 Z)(c1:Rj Z)(c2:QB Z)(c3:wO Z)(c4:Rw Z)(c5:QZ Z)(c6:R4 Z)(c7:Sd Z)(c8:Rf Z):bU Z.P Z.w Z.K Z.mg Z.base iS 6 f fd ["_law_script"] (qX Z.K 1 vV):=
 have hB:=B.1;Tc F ["_law_script", "_law_tables", "_law_k", "_law_box_here", "_law_first", "_law_table_here", "_law_many", "_law_heard"] λnd hr=>⟨_,(zq (zM<|mM zm)
 (zq (fW (oX<|zb (cy YQ<|zb zj<|zb (cy Xy<|zb (cy fG<|zb zd zm)<|zb zj zm) zm) zm) zu (zq (zM<|zK 2<|zb zd<|zb zd zm)
 (rY<|tQ<|zK 3<|zb zd<|zb (zK 2<|zb zd<|zb (zn gm zj<|zK 2<|zb zd<|zb zj zm) zm)<|zb zj zm)))
 (zq (zM<|zK 1<|zb (zn jJ zd zj) zm)
 (zq (fW (G0<|jk zd) zu (zq (zM<|cy fG<|zb (zn zF zd zj) zm)
 (zq (zM<|zK 1<|zb zd zm)
 (zq (cx (fK (dJ<|dB<|zK 3<|zb zd<|zb (zn zF zd zj)<|zb (zn gm (zn j7 (zn j7 zd zd)<|zn gm zd zj) zj) zm)<|zG<|zn Xo (Mw 1<|zb zd zm).1 fE) (zV fE) zS)
 (cx (zG<|zn Yc (zK 1<|zb zd zm)<|zK 1<|zb zd zm) (zV fE) zS)))))
 (zV<|zn (GJ Ż) (zK 1<|zb (zn jJ zd zj) zm) zd))))),
 (aE (zO<|mN zf)
 (aE (fX (oW<|af (bB (zp6 rfl) PyProof.Rows.boot_max<|af zk<|af (bB (zp7 rfl) PyProof.Rows.boot_min<|af (bB fL Ä<|af aa zf)<|af zk zf) zf) zf) zt (aE (zO<|zJ<|af aa<|af aa zf)
 (zH<|r8<|p6 _ rfl ß Ý Þ ug aa<|af (zJ<|af aa<|af (zJ<|af aa<|af (zX gK zk<|zJ<|af aa<|af zk zf) zf)<|af zk zf) zf)))
 (aE (zO<|zJ<|af (zZ jF aa zk) zf)
 (aE (fX (Hh<|jl aa) zt (aE (zO<|bB fL Ä<|af (zZ zT aa zk) zf)
 (aE (zO<|zJ<|af aa zf)
 (aE (cz (gM<|fM (dM<|eF<|zJ<|af aa<|af (zZ zT aa zk)<|af (zX gK (zX j9 (zX j9 aa aa)<|zX gK aa zk) zk) zf)<|iN<|zW Xp (Mx c0 YW<|af aa zf) fF) (zH<|zP fF) zR)
 (zH<|cz (zW (Xn (.inr ⟨rfl,rfl⟩) _ rfl hr) (zJ<|af aa zf)<|zJ<|af aa zf) (zH<|zP fF) zR)))))
 (zH<|zP<|oM (MN _ rfl hr) (zJ<|af (zZ jF aa zk) zf) aa)))))⟩
end
end K48
set_option exponentiation.threshold 10000
open PySem Internal
open Lean in
local macro_rules|`(tactic|simp![$ls,*])=>do
 let u<-("↓Z2 ↓zC3 ↓zpu ↓V3 ↓Z1 ↓zpv ↓zmf ↓zjF ↓Z0 ↓V1 ↓ZZ ↓ZY ↓zpw ↓ZX ↓zpx ↓zC4 ↓VY ↓ZW ↓ZV ↓ZU ↓zpy ↓zpz ↓V4 ↓VZ ~V5 ~zpA ~zpB ~VW ~zt0 ~zmg zCX zCY zCZ zC0 zC1 zC2 ↓V8 ↓V7 gf ↓zr ↓kZ N9 SN ↓W9 ↓zsJ ↓~W8 N8 ↓zsK ↓zsL ↓zsM ↓zsN ↓zoR Pl ↓zsO ↓W7 ↓zsP ↓zoS ↓zsQ ↓zoT ↓zsR ↓zsS ↓zsT ↓zlJ ↓zoU ↓zoV ↓zsV ↓zlK ↓W6 ↓W5 ↓zoW ↓zoX ↓zoZ ↓zsX ↓zsY ↓W2 ↓zjy ↓zo0 ↓zsZ ↓zs0 ↓zlL ↓zo1 ↓zlM ↓zo2 ↓W1 ↓zlN ↓zs2 ↓zlO ↓zo3 ↓zs4 ↓zlP ↓zs5 ↓zo4 ↓zl0 ↓ZK ↓zma ↓zjE ↓Z5 bd WW zsd zox zlx Qu zjt zhY zly zse zCa zCb zsf ~zoy ~zoz ~zoA WV WU WS WR zoC zCd zCe WO WN WM zCg zCh zCi zsi zsj zoD zsk WL WK zCo zCp zCq zCr WJ WI zsn zso zCs WH WG WE zoE WD WC WB WA Xi Xh ~zoF zlz zjv Xg Xf zsp zoG zCt zCu zCv zCw zCx SQ SO zCy zCz zCA Xd Xc zoI Xb Xa zoJ zsq zsr W4 W3 zoY W0 ~zs3 ~zlQ ~zlR ~zlS ~MD ~zs7 xS zs8 ZT Pj zo6 WZ WY WX Xm Xl zpe ZJ N7 uc Hy zpi Zy ztA zl6 zjC Xk Xj Hx P6 Ha Z9 zpm zpq zpr !List.getElem?_cons_zero !List.getElem?_cons_succ !List.set_cons_zero !List.set_cons_succ !List.cons_append !List.nil_append !List.length_cons !List.length_nil !List.replicate !Option.map_some !decide_eq_true_eq !List.mem_cons !List.not_mem_nil !true_or !or_true !or_false !false_or !if_true !if_false !ite_true !ite_false !true_and !and_true !and_false !false_and !Bool.not_true !Bool.not_false !Bool.false_eq_true !not_true !not_false_iff !Nat.zero_add !Nat.reduceAdd !Nat.reduceLeDiff !Nat.reduceEqDiff !Nat.reduceSub !Nat.reduceLT !List.map_cons !List.map_nil !List.getD_cons_zero !List.getD_cons_succ !List.drop_succ_cons !List.drop_zero !decide_true !decide_false !Bool.true_and !Bool.and_true !Bool.true_or !Bool.or_true !Bool.false_or !Bool.or_false !Bool.false_and !Bool.and_false !reduceCtorEq !List.length_map !List.length_append Xe zoH !String.reduceEq ↓!reduceIte !Int.reduceEq !Int.reduceNe !Int.reduceLT !Int.reduceLE !Int.reduceAdd !Int.reduceSub !Int.reduceNeg !Int.reduceToNat !Int.cast_ofNat_Int !implies_true !forall_const !Option.map_none".splitOn " ").toArray.mapM λx=>do
  let n:=(((x.replace "↓" "").replace "~" "").replace "!" "").toName
  let y:=mkIdent (if x.contains '!' then n else `Internal++n)
  if x.startsWith "↓" then `(Parser.Tactic.simpLemma|↓$y:term) else if x.startsWith "~" then `(Parser.Tactic.simpLemma|nr $y) else `(Parser.Tactic.simpLemma|$y:term)
 `(tactic|simp (disch:=first|with_unfolding_all exact V6 rfl|omega | (simp only[List.length_cons,ũ,ē,List.length_append,ţ,ŗ,ř,Nat.reduceAdd]<;>omega) |fail) only[$ls,*,$u,*])
local macro_rules | `(tactic| simp!)=>`(tactic| simp![a5T])
namespace K48
open PySem Internal
noncomputable abbrev bx(x y:Int):U:=.l [.int x,.int y]
def iC{x y w:Int}{Q:U×Qa U->Prop}(hw:0 < w)(JM:w<=18446744073709551616)(k:∀r x' y',0<=r->r < w->Q (.d<|.int r,[bx x' y',.d<|.int w])):Wo (zD [bx x y,.d<|.int w]) Q:=by
 simp![zD,Q6];refine kR (λhx=>?_) λhx=>?_
 .simp![hx]
  exact k _ _ _ (ó _ (by omega))<|ú _ hw
 .simp![hx]
  exact k _ _ _ (ó _ (by omega))<|ú _ hw
def L5{k:Int}(h0:0<=k)(h:k < (ns.length:Int)):∃v:Int,cw (ns.map ľ) k=ž (.int v):=by
 have hk:k.toNat < ns.length:=by omega
 refine⟨ns[k.toNat],?_⟩;unfold cw fQ;rw[a6P h0,a6P (by rw[ē];exact h),bd,ĝ,ql hk];rfl
def zDe{k:Int}{Q:U×Qa U->Prop}(h0:0<=k)(q:∀x y,Q (bx x y,[.d<|.list<|ns.map .int,.d<|.int k])):Wo (DG [.d<|.list<|ns.map .int,.d<|.int k]) Q:=by
 simp![DG,QC,ē];refine kR (λh1=>?_) λh1=>?_
 .have(v,hv):=L5 h0 h1
  simp![hv];exact q _ _
 .simp![ē]
  refine kR (λh2=>?_) λh2=>?_
  .have hm:=ú k h2
   have hm0:=ó k (show(ns.length:Int)≠0 by omega);have(v,hv):=L5 hm0 hm;simp![hv];exact q _ _
  .simp!
   exact q _ _
def zA0{a b:Nat}(h:a<=b)(hb:b.log2 < 9000):a.log2 < 9000:=by
 by_cases z:a=0
 .rw[z];decide
 .exact Æ ((Nat.le_log2 (by omega)).mpr<|qx (Nat.log2_self_le z) h) hb
def Ab{n d:Int}(hd:d≠0)(hb:d.natAbs.log2 < 9000):sM [.d<|.int n,.d<|.int d]=ž (.d<|fR<|Ń n d,[.d<|.int n,.d<|.int d]):=by
 have gl:ō n d<=d.natAbs:=Int.gcd_le_natAbs_right n hd;have gp:0 < ō n d:=a3t n hd;have A4:=zA0 gl hb;refine zY ?_;rw[<-zAF hd];unfold pP om;rw[<-Pg n d (show(0:Int) < (ō n d:Nat) by omega),<-Pg d d (show(0:Int) < (ō n d:Nat) by omega)];simp![sM,RP];refine O2 (λk ρ=>∃a b:Int,ρ=[ž<|.d<|.int n,ž<|.d<|.int d,ž<|.d<|.int a,ž<|.d<|.int b]/\0<=a/\0<=b/\b.toNat=k/\ō a b=ō n d) _ ⟨_,_,rfl,by split<;>omega,by split<;>omega,rfl,ZH n d⟩ ?_;rintro k _ ⟨a,b,rfl,ha,hb0,hk,hg⟩;simp!
 by_cases hz:b=0
 .subst hz
  have e:a=((ō n d:Nat):Int):=by rw[<-hg,a5Z];omega
  subst e;have c1:vP n ((ō n d:Nat):Int):=⟨by omega,by rw[Ţ];exact A4⟩;have c2:vP n (0 - ((ō n d:Nat):Int)):=⟨by omega,by rw[Int.zero_sub,Int.natAbs_neg,Ţ];exact A4⟩;simp!;refine kR (λh=>?_) λh=>?_
  .simp![h,Cy (a:=n) c2,Cy (a:=d) c2]
  .simp![h,Cy (a:=n) c1,Cy (a:=d) c1]
 .simp![hz]
  refine⟨(a % b).toNat,?_,_,_,rfl,by omega,ó _ hz,rfl,?_⟩
  .have:=ú a (show 0 < b by omega)
   have:=ó a hz;omega
  .rw[OT a b ha (by omega)]
   exact hg
structure Sz (r:Rat):Prop where
 n:r.num.natAbs < 2^4000
 d:r.den < 2^4000
def Sz.di{r:Rat}(h:Sz r):(r.den:Int).natAbs < 2^4000:=by rw[Ţ];exact h.d
def lgd(h:n < 2^4000):n.log2 < 4000:=Dz (by decide) h
def pD(h:n < 2^4000):n.log2 < 1000000:=ø (lgd h) (by decide)
def L4{a b:Nat}(h:a < 2^4000)(h':b < 2^4000):(a * b).log2 < 9000:=by
 refine ø (Dz (k:=4000+4000) (by decide) ?_) (by decide);rw[Ū];exact Nat.mul_lt_mul'' h h'
section
variable{a b:Rat}
def Qz(ha:Sz a)(hb:Sz b):yZ [.d<|fR a,.d<|fR b]=ž (.d<|fR<|a+b,[.d<|fR a,.d<|fR b]):=by
 refine zY ?_;have da:=vD a;have db:=vD b;have Kv:((a.den:Int) * (b.den:Int))≠0:=Int.mul_ne_zero (by omega) (by omega);have lf:=Ab (n:=a.num * (b.den:Int)+b.num * (a.den:Int)) Kv (by rw[ϝ,Ţ,Ţ];exact L4 ha.d hb.d);rw[Xw]at lf;simp![yZ,Qv,yp (pD ha.n)<|pD hb.di,yp (pD hb.n)<|pD ha.di,yp (pD ha.di)<|pD hb.di,lf]
def zkQ(ha:Sz a)(hb:Sz b):DQ [.d<|fR a,.d<|fR b]=ž (.d<|fR<|a * b,[.d<|fR a,.d<|fR b]):=by
 refine zY ?_;have da:=vD a;have db:=vD b;have Kv:((a.den:Int) * (b.den:Int))≠0:=Int.mul_ne_zero (by omega) (by omega);have lf:=Ab (n:=a.num * b.num) Kv (by rw[ϝ,Ţ,Ţ];exact L4 ha.d hb.d);rw[Xv]at lf;simp![DQ,Q4,yp (pD ha.n)<|pD hb.n,yp (pD ha.di)<|pD hb.di,lf]
end
def zDf{ws:Qa Str}{w:Str}:BU ws (.d<|.str w)=ž (.d<|.bool<|iO (.str w)<|ws.map V.str):=rfl
def zDG{neg:Bool}{ws:Qa Str}{w:Str}:rF neg (.d<|.str w) (.d<|.tuple<|ws.map Ņ)=ž (.d<|.bool (if neg=ż then !iO (.str w) (ws.map V.str)else iO (.str w) (ws.map V.str))):=by
 unfold rF;show((xO (.str w)<|ws.map Ņ).bind _)=_;unfold xO;rw[HI];rfl
noncomputable def low(c:Nat):Bool:=decide (97<=c) && decide (c<=122)
noncomputable def kept:Qa Str:=["letters", "part", "rounds", "end", "give"]
def f9(z:Str):Bool:=decide (1<=z.length) && (decide (z.length<=5) && (!iO (.str z) (kept.map V.str) && z.cps.toList.all low))
def K5:∀c,c < 128->a5G c=(low c || (decide (65<=c) && decide (c<=90))):=by decide +kernel
def K4:∀c,c < 128->a5F c=low c:=by decide +kernel
def K0:∀c,c < 128->(a5D c || a5E c)=(decide (65<=c) && decide (c<=90)):=by decide +kernel
def zq2{z:Str}(h:cM n z):a3c z=ż:=by
 unfold a3c;rw[a5A];intro c hc;exact a6R<|h.2 c<|Array.mem_toList_iff.mpr hc
def zq3{z:Str}(h:cM n z):(a1H z && a1G z)=(decide (1<=z.length) && z.cps.toList.all low):=by
 have hs:z.length=z.cps.toList.length:=by rw[ģ];rfl
 unfold a1H a1G;rw[<-a2O,<-a6c,<-a6c,hs];have ha:=h.2;generalize z.cps.toList=cs at ha;have e1:cs.all a5G=cs.all (λc=>low c || (decide (65<=c) && decide (c<=90))):=by
  rw[Ş,ϙ,ϙ];exact⟨λk c hc=>by rw[<-K5 c (ha c hc)];exact k c hc,λk c hc=>by rw[K5 c<|ha c hc];exact k c hc⟩
 have e2:cs.any a5F=cs.any low:=by
  rw[Ş,ϸ,ϸ];exact⟨λ⟨c,hc,k⟩=>⟨c,hc,by rw[<-K4 c (ha c hc)];exact k⟩,λ⟨c,hc,k⟩=>⟨c,hc,by rw[K4 c<|ha c hc];exact k⟩⟩
 have e3:(cs.any λc=>a5D c || a5E c)=cs.any (λc=>decide (65<=c) && decide (c<=90)):=by
  rw[Ş,ϸ,ϸ];exact⟨λ⟨c,hc,k⟩=>⟨c,hc,by rw[<-K0 c (ha c hc)];exact k⟩,λ⟨c,hc,k⟩=>⟨c,hc,by rw[K0 c<|ha c hc];exact k⟩⟩
 rw[e1,e2,e3,Ş];simp only[ϓ,decide_eq_true_iff,ϙ,ϸ,Bool.or_eq_true_iff,a0N];constructor
 .rintro⟨⟨h0,h1⟩,h2,h3⟩
  refine⟨h0,λc hc=>?_⟩;rcases h1 c hc with k|k
  .exact k
  .have:(cs.any λc=>decide (65<=c) && decide (c<=90))=ż:=î.mpr ⟨c,hc,by simp[k]⟩
   rw[this]at h3;cases h3
 .rintro⟨h0,h1⟩
  refine⟨⟨h0,λc hc=>.inl<|h1 c hc⟩,?_,?_⟩
  .cases cs with
   |nil=>simp at h0
   |cons c cs=>exact⟨c,qo,h1 c qo⟩
  .rw[a6b]
   intro k;have(c,hc,k):=î.mp k;have:=h1 c hc;unfold low at this;simp only[ϓ,decide_eq_true_iff]at this k;omega
def zkR{z:Str}(h:cM n z)(hn:n<=1000):DH [.d<|.str z]=ž (.d<|.bool<|f9 z,[.d<|.str z]):=by
 refine zY ?_;have hl:=h.1;have ea:=zq2 h;have al:=zq3 h;simp![DH,QH];refine kR (λc=>?_) λc=>?_
 .have e:f9 z=Ż:=by
   unfold f9;rw[show decide (z.length<=5)=Ż from a6S (by omega)];simp
  simp![e]
 simp![zDf];have l5:decide (z.length<=5)=ż:=a6R (by omega);refine kR (λc=>?_) λc=>?_
 .have e:f9 z=Ż:=by
   have c':iO (V.str z) (kept.map V.str)=ż:=c;unfold f9;rw[c'];simp
  simp![e]
 .have c':iO (V.str z) (kept.map V.str)=Ż:=by simpa [kept] using c
  simp![ea];have e:f9 z=(a1H z && a1G z):=by
   unfold f9;rw[l5,c',al];rfl
  refine kR (λc=>?_) λc=>?_
  .rw[c,Ε]at e
   simp![e]
  .rw[Bool.eq_false_iff.mpr c,a3F]at e
   simp![e]
noncomputable abbrev ks(ns:Qa Str):Qa Key:=ns.map a0Q
def tJ(ns:Qa Str):Nat:=g8 (ks ns) (ks ns).length
def jI(ns:Qa Str):Bool:=decide (1<=ns.length) && (decide (ns.length<=3) && (ns.all f9 && decide (tJ ns=ns.length)))
def PV:∀(zs:Qa Str),(zs.map Ņ).mapM nu=ž (ks zs)
 |[]=>rfl
 |z::zs=>by
  rw[ę,ŷ,PV zs];rfl
def Ou{f:α->Bool}:∀(zs:Qa α),(zs.map λz=>PyData.bool<|f z).mapM Kx=ž (zs.map f)
 |[]=>rfl
 |z::zs=>by
  rw[ę,ŷ,Ou zs];rfl
def PR{ns:Qa Str}(h:ns.length<=4):CW (.d<|.tuple<|ns.map Ņ)=ž (.d<|.int (tJ ns:Nat)):=by
 show((ns.map Ņ).mapM nu).bind _=_;rw[PV,bd,a6P (by rw[ē];omega)];rfl
def zA1{f:α->Bool}{zs:Qa α}:Io (.l<|zs.map λz=>PyData.bool<|f z)=ž (.d<|.bool<|zs.all f):=by
 show(ž _).bind _=_;rw[bd,Ou,bd,List.all_map];rfl
def ziE{ns:Qa Str}(hn:n<=1000)(hl:ns.length<=4)(hz:∀z∈ns,cM n z):DS [.d<|.tuple<|ns.map .str]=ž (.d<|.bool<|jI ns,[.d<|.tuple<|ns.map .str]):=by
 refine zY ?_;simp![DS,RB];refine kR (λc=>?_) λc=>?_
 .simp!
  refine kR (λc'=>?_) λc'=>?_
  .have e:jI ns=Ż:=by
    unfold jI;rw[show decide (ns.length<=3)=Ż from a6S (by simp at c';omega)];simp
   simp![e]
  have l1:decide (1<=ns.length)=ż:=a6R (by omega);have l3:decide (ns.length<=3)=ż:=a6R (by simp at c';omega);simp!;refine yn (e:=λz=>.bool<|f9 z) (by omega) (λz AG ys=>?_) ?_
  .simp![zkR (hz z AG) hn]
  .simp![zA1,PR]
   have e:jI ns=(ns.all f9 && decide (((tJ ns:Nat):Int)=(ns.length:Int))):=by
    unfold jI;rw[l1,l3,show decide (tJ ns=ns.length)=decide (((tJ ns:Nat):Int)=(ns.length:Int)) from decide_eq_decide.mpr (by omega)];rfl
   refine kR (λc=>?_) λc=>?_
   .rw[c]at e
    simp![e,PR]
   .rw[Bool.eq_false_iff.mpr c]at e
    simp![e]
 .have e:jI ns=Ż:=by
   unfold jI;rw[show decide (1<=ns.length)=Ż from a6S (by omega)];rfl
  simp![e]
def zg6{ns:Qa Str}(hn:n<=1000)(hl:ns.length<=4)(hz:∀z∈ns,cM n z):DM [.d<|.tuple<|ns.map .str]=ž (if jI ns=ż then .inl (.d<|.bool ż,[.d<|.tuple<|ns.map .str])else .inr (.dict [(.none,.str "BadLetters")],[.d<|.tuple<|ns.map .str])):=by
 refine zY ?_;simp![DM,Ri,ziE hn hl hz];cases jI ns<;>simp!
abbrev cs(z:Str):Qa Nat:=z.cps.toList
def zA2{y:Str}(h:cs x=cs y):x=y:=by
 cases x;cases y;congr 1;exact Array.toList_inj.mp h
def wy{y:Str}:cs (x++y)=cs x++cs y:=by
 show(x++y).cps.toList=_;rw[a3L,ϗ]
noncomputable def nB:Qa (Qa Nat):=[[108,101,116,116,101,114,115],[112,97,114,116],[114,111,117,110,100,115],[101,110,100],[103,105,118,101]]
def wC{zs:Qa Str}:iO (.str x) (zs.map V.str)=ż↔x∈zs:=by
 unfold iO;rw[List.any_map,ϸ];constructor
 .rintro⟨y,hy,e⟩
  have:y=x:=by simpa [pL] using e
  exact this▸hy
 .intro h
  exact⟨x,h,by simp[pL]⟩
def Nz:x∈kept↔cs x∈nB:=by
 have e:kept.map cs=nB:=by decide +kernel
 rw[<-e,a4r];exact⟨λh=>⟨x,h,rfl⟩,λ⟨y,hy,e⟩=>zA2 e▸hy⟩
def Qs(q:Qa Nat):Prop:=q=[]\/q=[113]
def KZ{a b q q' w:Qa Nat}{c c' x:Nat}(hq:Qs q)(hw:w∈nB)(h:a++c::(b++q)=[122,122,x])(h':a++c'::(b++q')=w):False:=by
 cases a with
 |nil=>
  cases b with
  |nil=>
   rcases hq with rfl|rfl<;>simp at h
  |cons y b=>
   simp only[a1p,a1b,Ϸ]at h h';have(_,rfl,_):=h;subst h';simp[nB]at hw
 |cons y a=>
  simp only[a1b,Ϸ]at h;have(rfl,_):=h;subst h';simp[nB]at hw
def Nm(a b:Qa Nat)(f:Int)(j:Nat)(z:Str):Prop :=
 (∃q,Qs q/\cs z=a++(97+((f+7 * (j:Int)) % 26).toNat)::(b++q))\/(cs z=[122,122,97+j]/\∃c q w,w∈nB/\a++c::(b++q)=w)
def Nm.ne{a b:Qa Nat}{f:Int}{k:Nat}{y:Str}(hj:j < k)(hk:k<=2)(hx:Nm a b f j x)(hy:Nm a b f k y):x≠y:=by
 rintro rfl;rcases hx with⟨q,h1,e1⟩|⟨e1,c1,q1,w1,m1,k1⟩
 .rcases hy with⟨q',h2,e2⟩|⟨e2,c2,q2,w2,m2,k2⟩
  .rw[e1,List.append_cancel_left_eq]at e2
   simp only[Ϸ]at e2;have:=e2.1;omega
  .rw[e1]at e2
   exact KZ h1 m2 e2 k2
 .rcases hy with⟨q',h2,e2⟩|⟨e2,_⟩
  .rw[e2]at e1
   exact KZ h2 m1 e1 k1
  .rw[e1]at e2
   simp at e2;omega
def Nm.nodup{a b:Qa Nat}{f:Int}{zs:Qa Str}(hl:zs.length<=3)(h:∀j z,zs[j]?=ž z->Nm a b f j z):zs.Nodup:=by
 rw[a2i,a0G];intro i j hi hj cY;exact Nm.ne cY (by omega) (h i _<|ql hi)<|h j _<|ql hj
def zq4{zs:Qa Str}(h:zs.Nodup)(hx:x∉zs):(zs.set i x).Nodup:=by
 rw[a2i,a0G]at h ⊢;intro p q hp hq hpq;rw[Ĺ]at hp hq;rw[a6p,a6p];split
 .split
  .omega
  .intro e
   exact hx<|e▸Ö _
 .split
  .intro e
   exact hx<|e▸Ö _
  .exact h p q hp hq hpq
def CS{c:Nat}:low c=ż↔97<=c/\c<=122:=by
 unfold low;rw[ϓ,decide_eq_true_iff,decide_eq_true_iff]
def Ot{z:Str}(h1:1<=(cs z).length)(h5:(cs z).length<=5)(hk:¬cs z∈nB)(hl:∀c∈cs z,low c=ż):f9 z=ż:=by
 have e:z.length=(cs z).length:=by rw[ģ];rfl
 unfold f9;rw[e,a6R h1,a6R h5,Ε,Ε,List.all_eq_true.mpr hl,Bool.and_true];rw[show iO (.str z) (kept.map V.str)=Ż from Bool.eq_false_iff.mpr λh=>hk<|Nz.mp<|wC.mp h];rfl
def Y9{z:Str}(hj:j<=2)(h:cs z=[122,122,97+j]):f9 z=ż:=by
 refine Ot (by rw[h];simp) (by rw[h];simp) (by rw[h];simp[nB]) λc hc=>?_;rw[h]at hc;rw[CS];simp at hc;omega
def Y8{z:Str}{a b q:Qa Nat}{c:Nat}(ha:∀c∈a,low c=ż)(hb:∀c∈b,low c=ż)(hl:a.length+b.length<=3)(hq:Qs q)(hc:low c=ż)(h:cs z=a++c::(b++q))(hk:¬cs z∈nB):f9 z=ż:=by
 have lq:q.length<=1:=by rcases hq with rfl|rfl<;>simp
 refine Ot ?_ ?_ hk λd hd=>?_
 .rw[h,qr,qt];omega
 .rw[h,qr,qt,qr];omega
 .rw[h]at hd
  simp only[a1q,qu]at hd;rcases hd with hd|rfl|hd|hd
  .exact ha d hd
  .exact hc
  .exact hb d hd
  .rcases hq with rfl|rfl
   .cases hd
   .cases qp.mp hd
    decide
def P7:∀{ks:Qa Key} (i:Nat),ks.Nodup->i<=ks.length->g8 ks i=i
 |ks,0,_,_=>rfl
 |ks,i+1,h,hi=>by
  have ih:=P7 i h (by omega);have e:ks[i]?=ž ks[i]:=ql (by omega);have n:oq ks i ks[i]=Ż:=by
   rw[a6b];intro z;have(x,hx,ex):=î.mp z;have(j,hj,rfl):=List.mem_iff_getElem.mp hx;rw[ţ]at hj;rw[List.getElem_take]at ex;rw[a2i,a0G]at h;exact h j i (by omega) (by omega) (by omega)<|a6T ex
  unfold g8;rw[e];dsimp only;rw[n,a6Q qf,ih]
def zq5{ns:Qa Str}(h1:1<=ns.length)(h3:ns.length<=3)(hl:∀z∈ns,f9 z=ż)(hn:ns.Nodup):jI ns=ż:=by
 have hk:(ks ns).Nodup:=by
  unfold ks;rw[a2i,a0K];exact List.Pairwise.imp (λh e=>h<|Sum.inr.inj e) hn
 have e:tJ ns=ns.length:=by
  unfold tJ;rw[P7 _ hk<|qe _,ē]
 unfold jI;rw[a6R h1,a6R h3,a6R e,List.all_eq_true.mpr hl];rfl
noncomputable abbrev tw:Str := "abcdefghijklmnopqrstuvwxyz"
def zA3:∀k,k < 26->(cs tw)[k]?=ž (97+k):=by decide +kernel
def GA{r:Int}(h0:0<=r)(h1:r < 26):tG (.d<|.str tw) (.d<|.int r)=ž (.d<|.str ⟨#[97+r.toNat]⟩):=by
 have hl:tw.length=(cs tw).length:=by rw[ģ];rfl
 have h26:tw.length=26:=by decide
 have(c,e,m,q):=GR (xs:=cs tw) h0 (by rw[<-hl,h26];exact h1);rw[zA3 _ (by omega)]at q;cases q;unfold tG;dsimp only;rw[a6P (by decide),e];rfl
def X7{z:Str}{n:Int}(h0:0<=n)(h1:n<=1):ye (.d<|.str z) (.d<|.int n)=ž (.d<|.str<|p4 z n):=by
 unfold ye;dsimp only;rw[a6P ⟨h0,h1⟩]
def zDg{n:Int}(h0:0<=n)(h1:n<=1):Qs (cs<|p4 "q" n):=by
 rcases(by omega:n=0\/n=1)with rfl|rfl
 .exact .inl (by decide)
 .exact .inr (by decide)
def KY{neg:Bool}{ws:Qa Str}{w:Str}:rF neg (.d<|.str w) (.l<|ws.map Ņ)=ž (.d<|.bool (if neg=ż then !iO (.str w) (ws.map V.str)else iO (.str w) (ws.map V.str))):=by
 unfold rF;show((xO (.str w)<|ws.map Ņ).bind _)=_;unfold xO;rw[HI];rfl
def Lw(n:Nat)(z:Str):Prop:=(cs z).length<=n/\∀c∈cs z,low c=ż
def Lw.app{y:Str}(hx:Lw n x)(hy:Lw m y):Lw (n+m) (x++y):=⟨by rw[wy,qr];have:=hx.1;have:=hy.1;omega,λc hc=>by
 rw[wy,a1q]at hc;exact hc.elim (hx.2 c)<|hy.2 c⟩
def Lw.mono{z:Str}(h:Lw n z)(hm:n<=m):Lw m z:=⟨qx h.1 hm,h.2⟩
def Lw.ES{z:Str}(h:Lw n z):cM n z:=⟨by have:=h.1;rw[ģ]at this;exact this,λc hc=>by have:=CS.mp (h.2 c hc);omega⟩
def Lw.one{c:Nat}(h:low c=ż):Lw 1 ⟨#[c]⟩:=⟨qe _,λd hd=>by
 cases qp.mp hd;exact h⟩
def Lw.join:∀{ys:Qa Str},(∀z∈ys,Lw n z)->Lw (ys.length * n) (a5p "" ys)
 |[],_=>⟨À _,λc hc=>by cases hc⟩
 |[x],h=>(h x qo).mono (by simp)
 |x::y::r,h=>by
  have:=((h x qo).app (show Lw 0 "" from⟨qe _,λc hc=>by cases hc⟩)).app (Lw.join λz hz=>h z<|qm _ hz);exact this.mono (by simp only[qt,Ο];omega)
def Oq{ys:Qa Str}(h:∀z∈ys,Lw n z):Lw (ys.length * n) (ŝ "" ys):=by
 show Lw _ (a1R "" ys);rw[a1Q];exact Lw.join h
def zq6{z:Str}(h:f9 z=ż):cM 10 z:=by
 unfold f9 at h;simp only[ϓ,decide_eq_true_iff]at h;have(_,h5,_,hl):=h;exact⟨by omega,λc hc=>by have:=CS.mp (ï.mp hl c hc);omega⟩
def B9{r:Int}(h0:0<=r)(h1:r < 26):low (97+r.toNat)=ż:=CS.mpr ⟨by omega,by omega⟩
def Ny:x∈(["part", "end", "give", "rounds", "letters"]:Qa Str)↔cs x∈nB:=by
 rw[<-Nz];constructor<;>(intro h;simp only[kept,qu,ķ,or_false]at h ⊢;rcases h with rfl|rfl|rfl|rfl|rfl<;>simp)
def X6{x y m:Int}{Q:U×Qa U->Prop}(h1:1<=m)(h3:m<=3)(k:∀(ns:Qa Str) x' y',ns.length=m.toNat->(∀z∈ns,cM 10 z)->jI ns=ż->Q (.d<|.tuple<|ns.map .str,[bx x' y',.d<|.int m])):Wo (DR [bx x y,.d<|.int m]) Q:=by
 have k':∀(ns:Qa Str) x' y',ns.length=m.toNat->(∀z∈ns,f9 z=ż)->ns.Nodup->Q (.d<|.tuple<|ns.map .str,[bx x' y',.d<|.int m]):=λns x' y' hl hz hn=>k ns x' y' hl (λz h=>zq6<|hz z h)<|zq5 (by omega) (by omega) hz hn;simp![DR,Rz];refine iC (by decide) (by decide) λr1 x1 y1 a1 b1=>?_;simp!;refine XF (λi ρ ys=>E3 λ(x y:Int) (zs:Qa Str)=>ρ=[Ž,ž<|bx x y,ž<|.d<|.str tw]/\ys=zs.map Ņ/\zs.length=i/\∀z∈zs,Lw 1 z) ?_ ⟨_,_,[],rfl,rfl,rfl,λz hz=>by cases hz⟩ ?_ ?_ ?_
 .rw[zl];omega
 .rintro i ρ ys ⟨x,y,zs,rfl,rfl,hl,_⟩
  simp[hl]
 .rintro i _ _ hi ⟨x,y,zs,rfl,rfl,hl,hz⟩
  simp![MD];refine iC (by decide) (by decide) λr2 x2 y2 a2 b2=>?_;simp![GA];exact⟨x2,y2,zs++[⟨#[97+r2.toNat]⟩],rfl,by rw[ğ];rfl,by rw[qr,hl];rfl,λz AG=>by
   rcases Â.mp AG with h|h
   .exact hz z h
   .cases qp.mp h
    exact Lw.one<|B9 a2 b2⟩
 rintro _ _ ⟨x2,y2,sg,rfl,rfl,hl,hs⟩;simp!;refine iC (by omega) (by omega) λr3 x3 y3 a3 b3=>?_;simp!;refine iC (by decide) (by decide) λr4 x4 y4 a4 b4=>?_;simp!;have Tu:∀z∈sg.take r3.toNat,Lw 1 z:=λz hz=>hs z<|a4W hz;have JM:∀z∈sg.drop (r3+1).toNat,Lw 1 z:=λz hz=>hs z<|a4X hz;have jA:=Oq Tu;have jB:=Oq JM;have la:(cs<|ŝ ""<|sg.take r3.toNat).length+(cs<|ŝ ""<|sg.drop (r3+1).toNat).length<=3:=by
  have p:=jA.1;have q:=jB.1;rw[ţ]at p;rw[ŗ]at q;omega
 have hA:=jA.2;have hB:=jB.2;refine vI (λi ρ=>E6 λ(x y:Int) (v7 v8 v9:Qb U) (zs:Qa Str)=>ρ=[ž<|bx x y,ž<|.d<|.int m,ž<|.d<|.str tw,ž<|.l<|sg.map .str,ž<|.d<|.int r3,ž<|.d<|.int r4,ž<|.l<|zs.map Ņ,v7,v8,v9,Ž]/\zs.length=i/\(∀z∈zs,f9 z=ż)/\∀j z,zs[j]?=ž z->Nm (cs<|ŝ ""<|sg.take r3.toNat) (cs<|ŝ ""<|sg.drop (r3+1).toNat) r4 j z) ⟨x4,y4,Ž,Ž,Ž,[],rfl,rfl,(λz hz=>by cases hz),λj z hz=>by cases hz⟩ ?_ ?_
 .rintro i _ hi ⟨x,y,v7,v8,v9,zs,rfl,xj,hz,hn⟩
  have ec:(0:Int)+(i:Nat)=(i:Int):=by omega
  have m0:=ó (r4+7 * (i:Int)) (show(26:Int)≠0 by decide);have m1:=ú (r4+7 * (i:Int)) (show(0:Int) < 26 by decide);rw[ec];simp![GA,Gk,HH,<-a0T,<-a4b];refine N6 (n:=1) (m:=4) (λz hz=>(Tu z hz).ES) (by rw[ţ];omega) (by decide) λj1=>?_;simp!;refine Cv j1 (Lw.one<|B9 m0 m1).ES (by decide) λj2=>?_;simp![Gk,HH,<-a0T,<-a4b];refine N6 (n:=1) (m:=4) (λz hz=>(JM z hz).ES) (by rw[ŗ];omega) (by decide) λj3=>?_;simp!;refine Cv j2 j3 (by decide) λj4=>?_;simp!;refine iC (by decide) (by decide) λr5 x5 y5 a5 b5=>?_;have hq:=zDg (n:=r5) a5 (by omega);have i5:cM 1 (p4 "q" r5):=by
   rcases(by omega:r5=0\/r5=1)with rfl|rfl
   .exact⟨by decide,by decide⟩
   .exact⟨by decide,by decide⟩
  simp![X7];refine Cv j4 i5 (by decide) λj5=>?_;have Ku:cs (ŝ "" (sg.take r3.toNat)++⟨#[97+((r4+7 * (i:Int)) % 26).toNat]⟩++ŝ "" (sg.drop (r3+1).toNat)++p4 "q" r5)=cs (ŝ ""<|sg.take r3.toNat)++(97+((r4+7 * (i:Int)) % 26).toNat)::(cs (ŝ ""<|sg.drop (r3+1).toNat)++cs (p4 "q" r5)):=by
   rw[wy,wy,wy,İ,İ];rfl
  generalize ŝ "" (sg.take r3.toNat)++⟨#[97+((r4+7 * (i:Int)) % 26).toNat]⟩++ŝ "" (sg.drop (r3+1).toNat)++p4 "q" r5=nm at *;have hN:Nm (cs<|ŝ ""<|sg.take r3.toNat) (cs<|ŝ ""<|sg.drop (r3+1).toNat) r4 i nm:=.inl ⟨_,hq,Ku⟩;have n1:iO (.str nm) (zs.map V.str)=Ż:=Bool.eq_false_iff.mpr λh=>by
   have(j,hj,e):=List.mem_iff_getElem.mp (wC.mp h);exact Nm.ne (by omega) (by omega) (hn j _<|ql hj) hN e
  have i1:=KY (neg:=Ż) (ws:=zs) (w:=nm);rw[n1,a6Q qf]at i1;have i2:rF Ż (.d<|.str nm) (.d<|.tuple [.str "part",.str "end",.str "give",.str "rounds",.str "letters"])=ž (.d<|.bool<|iO (.str nm)<|(["part", "end", "give", "rounds", "letters"]:Qa Str).map V.str):=zDG (neg:=Ż) (ws:=["part", "end", "give", "rounds", "letters"]);have fin:∀(nm:Str),f9 nm=ż->Nm (cs<|ŝ ""<|sg.take r3.toNat) (cs<|ŝ ""<|sg.drop (r3+1).toNat) r4 i nm->(∀z∈zs++[nm],f9 z=ż)/\∀j z,(zs++[nm])[j]?=ž z->Nm (cs<|ŝ ""<|sg.take r3.toNat) (cs<|ŝ ""<|sg.drop (r3+1).toNat) r4 j z:=λnm h1 h2=>⟨λz AG=>by
   rcases Â.mp AG with h|h
   .exact hz z h
   .cases qp.mp h
    exact h1,λj z e=>by
   rcases Ü j zs.length with h|h
   .rw[Ĩ h]at e
    exact hn j z e
   .rw[Ĥ h]at e
    have:j - zs.length=0:=by
     have:=(qk.mp e).1;simp at this;omega
    rw[this]at e;cases e;rw[show j=i by omega];exact h2⟩
  by_cases hk:cs nm∈nB
  .rw[wC.mpr<|Ny.mpr hk]at i2
   simp![i1,i2,GA];refine Cv (show cM 2 "zz" by unfold cM;decide) (Lw.one<|B9 (r:=(i:Int)) (by omega) (by omega)).ES (by decide) λj6=>?_;simp!;have ez:cs ("zz"++⟨#[97+((i:Int)).toNat]⟩)=[122,122,97+i]:=by
    rw[wy,ı];rfl
   have(f1,f2):=fin _ (Y9 (by omega) ez) (.inr ⟨ez,_,_,_,hk,Ku.symm⟩);exact⟨_,_,_,_,_,_,by rw[<-a5L,<-ğ],by rw[qr,xj];rfl,f1,f2⟩
  .rw[Bool.eq_false_iff.mpr λh=>hk<|Ny.mp<|wC.mp h]at i2
   simp![i1,i2];have(f1,f2):=fin _ (Y8 hA hB la hq (B9 m0 m1) Ku hk) hN;exact⟨_,_,_,_,_,_,by rw[<-a5L,<-ğ],by rw[qr,xj];rfl,f1,f2⟩
 .rintro _ ⟨x,y,v7,v8,v9,zs,rfl,xj,hz,hn⟩
  have nd:=Nm.nodup (by omega) hn;simp!;refine iC (by decide) (by decide) λr5 x5 y5 a5 b5=>?_;simp!;refine kR (λh5=>?_) λh5=>?_
  .simp!
   refine iC (by decide) (by decide) λr6 x6 y6 a6 b6=>?_;simp!;refine zAA (f:=Ņ) (xs:=["ends", "pa", "gives", "giv", "x", "y", "r", "rk"]) a6 b6 λz mz _=>?_;have az:f9 z=ż:=by
    have:∀z∈(["ends", "pa", "gives", "giv", "x", "y", "r", "rk"]:Qa Str),f9 z=ż:=by decide +kernel
    exact this z mz
   have i1:=KY (neg:=ż) (ws:=zs) (w:=z);rw[a6P rfl]at i1
   by_cases hm:z∈zs
   .rw[wC.mpr hm]at i1
    simp![i1];exact k' zs _ _ xj hz nd
   .rw[Bool.eq_false_iff.mpr λh=>hm<|wC.mp h]at i1
    simp![i1];refine iC (by omega) (by omega) λr7 x7 y7 a7 b7=>?_;have e7:fQ zs.length r7=ž r7.toNat:=by
     unfold fQ;rw[a6P a7,a6P (by omega)]
    simp![e7];have es:(zs.map Ņ).set r7.toNat (.str z)=(zs.set r7.toNat z).map Ņ:=by rw[List.map_set]
    rw[es];refine k' _ _ _ (by rw[Ĺ];exact xj) (λw hw=>?_)<|zq4 nd hm;rcases List.mem_or_eq_of_mem_set hw with h|h
    .exact hz w h
    .exact h▸az
  .simp!
   exact k' zs _ _ xj hz nd
def IF{d:Int}(h:1<=d)(h2:d<=1000000):d.natAbs.log2 < 9000:=ø (Dz (k:=30) (by decide) (by omega)) (by decide)
def oG{n d:Int}(hn:n.natAbs<=1000000)(h1:1<=d)(h4:d<=4):Bd 12 12000000 (Ń n d):=by
 have:d∣((12:Nat):Int):=by
  rcases(by omega:d=1\/d=2\/d=3\/d=4)with rfl|rfl|rfl|rfl<;>decide
 exact(zAK (M:=12) (by omega) this (by decide)).le (by omega)
def Y7{x y:Int}{Q:U×Qa U->Prop}(k:∀r x' y',Bd 12 12000000 r->Q (.d<|fR r,[bx x' y'])):Wo (DK [bx x y]) Q:=by
 simp![DK,RM];refine iC (by decide) (by decide) λr x1 y1 h0 h1=>?_;simp!;refine kR (λh7=>?_) λh7=>?_
 .simp!
  refine MC h0 (by show r < 7;omega) λa ha=>?_;have hq:∃q:Rat,a=fR q/\Bd 12 12000000 q:=by
   simp only[qu,ķ,or_false]at ha;rcases ha with rfl|rfl|rfl|rfl|rfl|rfl|rfl
   .exact⟨Ń 0 1,rfl,oG (by decide) (by decide) (by decide)⟩
   .exact⟨Ń 1 1,rfl,oG (by decide) (by decide) (by decide)⟩
   .exact⟨Ń 1 1,rfl,oG (by decide) (by decide) (by decide)⟩
   .exact⟨Ń (-1) 1,rfl,oG (by decide) (by decide) (by decide)⟩
   .exact⟨Ń 2 1,rfl,oG (by decide) (by decide) (by decide)⟩
   .exact⟨Ń 1 2,rfl,oG (by decide) (by decide) (by decide)⟩
   .exact⟨Ń (-2) 3,rfl,oG (by decide) (by decide) (by decide)⟩
  have(q,rfl,hq):=hq;simp!;exact k q _ _ hq
 .simp!
  refine kR (λA3=>?_) λA3=>?_
  .simp!
   refine iC (by decide) (by decide) λr2 x2 y2 h2 h3=>?_;simp!;refine iC (by decide) (by decide) λr3 x3 y3 h4 h5=>?_;simp![Ab (n:=r2 - 9) (d:=1+r3) (by omega)<|IF (by omega) (by omega)];exact k _ _ _<|oG (by omega) (by omega) (by omega)
  .simp!
   refine iC (by decide) (by decide) λr2 x2 y2 h2 h3=>?_;simp!;refine iC (by decide) (by decide) λr3 x3 y3 h4 h5=>?_;simp![Ab (n:=r2 - 999999) (d:=1+r3) (by omega)<|IF (by omega) (by omega)];exact k _ _ _<|oG (by omega) (by omega) (by omega)
end K48
open PySem Internal
namespace K48
open PySem Internal
def vU{M:Nat}{r:Rat}(h:Bd M B r)(hM:0 < M)(h1:M < 2^4000)(h2:B < 2^4000):Sz r:=by
 have(a,b):=h.size hM;exact⟨Æ b h2,Æ a h1⟩
def Ln(n:Nat)(p:Pq α):Prop:=∀t∈p,t.1.length=n
abbrev dT(p:Pq Rat):U:=.d (.dict<|cB fR p)
def L3{u:U}{a b:Qb α}:(if u.own=ż/\u.own=Ż then a else b)=b:=a6Q λ⟨h,h'⟩=>by rw[h]at h';cases h'
def Qy{M:Nat}{p q:Pq Rat}{u1 u2:U}{s:Int}(uI:wD u1=ž (.t<|bg fR p))(sW:u2.fz=ž (.dict<|cB fR q))(hs:s=1\/s=-1)(np:cT p)(nq:cT q)(hp:PB M B p)(hq:PB M B q)(hM:0 < M)(h1:M < 2^4000)(h2:B+q.length * B < 2^4000)(l1:p.length < 2000)(l2:q.length < 2000):
  wV [u1,u2,.d<|.int s]=ž (.t<|bg fR<|nz<|d9 p<|fP s q,[u1,dT q,.d<|.int s]):=by
 refine zY ?_;have sp:fP s q=q.map λt=>(t.1,(s:Rat) * t.2):=rfl;simp![wV,RK,uI,sW];refine k9 (λbs cs ρ=>∃o4 o5,ρ=[ž u1,ž<|dT q,ž<|.d<|.int s,ž<|.t<|bg fR<|d9 p<|fP s bs,o4,o5,Ž]) ⟨_,_,rfl⟩ ?_ ?_
 .rintro bs t cs _ e ⟨o4,o5,rfl⟩
  have tq:t∈q:=by rw[e];simp
  have lb:bs.length+1<=q.length:=by rw[e,qr,qt];omega
  have gl:=yD (fP s bs) p;rw[show(fP s bs).length=bs.length from ē ..]at gl;have gb:PB M (B+q.length * B) (d9 p<|fP s bs):=λv hv=>(CJ (fP s bs) hp (Gj hs λw hw=>hq w (by rw[e];exact Ë _ hw)) v hv).le (by
   rw[show(fP s bs).length=bs.length from ē ..];have:=Ê B (show bs.length<=q.length by omega);omega)
  have s1:=vU (Hb gb t.1) hM h1 h2;have s2:Sz ((s:Rat) * t.2):=vU (Gj hs hq (t.1,(s:Rat) * t.2)<|Ã.mpr ⟨t,tq,rfl⟩) hM h1 (by omega);simp![si nq tq,zAJ hs,Qz s1 s2];rw[tE (by omega)];simp!;rw[show fP s (bs++[t])=fP s bs++[(t.1,(s:Rat) * t.2)] by unfold fP;rw[ğ];rfl,Pf];exact⟨_,_,rfl⟩
 .rintro _ ⟨o4,o5,rfl⟩
  have gn:cT (d9 p<|fP s q):=Ct _ np;have gl:=yD (fP s q) p;rw[show(fP s q).length=q.length from ē ..]at gl;generalize d9 p (fP s q)=r at gn gl;simp!;refine k9 (λbs cs ρ=>∃o4,ρ=[ž u1,ž<|dT q,ž<|.d<|.int s,ž<|dT r,o4,o5,ž<|.t<|bg fR<|nz bs]) ⟨_,rfl⟩ ?_ ?_
  .rintro bs t cs _ e ⟨o4,rfl⟩
   have tr:t∈r:=by rw[e];simp
   have ln:(nz bs).length<=bs.length:=Ĉ _ _;have lb:bs.length+1<=r.length:=by rw[e,qr,qt];omega
   simp![si gn tr,Mq];rw[M8]
   by_cases z:t.2=0
   .simp![z,ne_eq]
    exact⟨_,rfl⟩
   .simp![z,ne_eq,si gn tr,tE (c:=fR) (p:=nz bs) (k:=t.1) (x:=t.2) (by omega)]
    rw[Mp (cs:=cs) (by rw[<-e];exact gn)];exact⟨_,rfl⟩
  .rintro _ ⟨o4,rfl⟩
   simp![L3]
def Qx{M N C:Nat}{p q:Pq Rat}{u1 u2:U}{Q:U×Qa U->Prop}(uI:u1.fz=ž (.dict<|cB fR p))(sW:u2.fz=ž (.dict<|cB fR q))(np:cT p)(nq:cT q)(hp:PB M B p)(hq:PB N C q)(lp:Ln n p)(lq:Ln n q)(ln:n < 64)(hM:0 < M)(hN:0 < N)(h1:M * N < 2^4000)(h2:M < 2^4000)(h3:N < 2^4000)(h4:B < 2^4000)(h5:C < 2^4000)(h6:p.length * q.length * (B * C) < 2^4000)(hBC:0 < B * C)
  (l1:p.length * q.length < 2000) (lp6:p.length < 64) (lq6:q.length < 64) (kq:∀qS,qS.fz=ž (.dict<|cB fR q)->(qS=u2\/qS=dT q)->Q (.t<|bg fR<|nz<|d9 []<|dz p q,[dT p,qS])):Wo (wR [u1,u2]) Q:=by
 have fin:∀(o1 o3 o4 o5 o6:Qb U) (r:Pq Rat),cT r->r.length < 2000->∀(Q:Fl->Prop),(∀o5,Q<|.nx [ž<|dT p,o1,ž<|dT r,o3,o4,o5,o6,ž<|.t<|bg fR<|nz r])->Wo (iU (zA 5) (bL (mB<|av (dP ż) (av aS (jY (zi 2)<|zi 5)<|mC<|.int 0)<|mC<|.int 0) (mJ 7 (zi 5)<|jY (zi 2)<|zi 5) bV) (r.map λt=>bJ t.1) [ž<|dT p,o1,ž<|dT r,o3,o4,o5,o6,ž<|.t []]) Q:=by
  intro o1 o3 o4 o5 o6 r gn gl Q hQ;refine k9 (λbs cs ρ=>∃o5,ρ=[ž<|dT p,o1,ž<|dT r,o3,o4,o5,o6,ž<|.t<|bg fR<|nz bs]) ⟨_,rfl⟩ ?_ ?_
  .rintro bs t cs _ e ⟨o5,rfl⟩
   have tr:t∈r:=by rw[e];simp
   have ln:(nz bs).length<=bs.length:=Ĉ _ _;have lb:bs.length+1<=r.length:=by rw[e,qr,qt];omega
   simp![si gn tr,Mq];rw[M8]
   by_cases z:t.2=0
   .simp![z,ne_eq]
    exact⟨_,rfl⟩
   .simp![z,ne_eq,si gn tr,tE (c:=fR) (p:=nz bs) (k:=t.1) (x:=t.2) (by omega)]
    rw[Mp (cs:=cs) (by rw[<-e];exact gn)];exact⟨_,rfl⟩
  .rintro _ ⟨o5,rfl⟩
   exact hQ o5
 simp![wR,Sh,uI];refine k9 (λbs cs ρ=>E5 λ(x:U) (o3 o4 o5 o6:Qb U)=>ρ=[ž<|dT p,ž x,ž<|.t<|bg fR<|d9 []<|dz bs q,o3,o4,o5,o6,Ž]/\(x=u2\/x=dT q)) ⟨u2,_,_,_,_,rfl,.inl rfl⟩ ?_ ?_
 .rintro bs s cs _ e ⟨x,o3,o4,o5,o6,rfl,jv⟩
  have hx:x.fz=ž (.dict<|cB fR q):=by
   rcases jv with rfl|rfl
   .exact sW
   .rfl
  have sp:s∈p:=by rw[e];simp
  have lbs:bs.length+1<=p.length:=by rw[e,qr,qt];omega
  have lpm:(dz bs q).length+q.length<=p.length * q.length:=by
   rw[Du];have:=Ê q.length lbs;rw[Ο,a0S]at this;exact this
  simp![hx];refine k9 (λds fs ρ=>E3 λ(o4 o5 o6:Qb U)=>ρ=[ž<|dT p,ž<|dT q,ž<|.t<|bg fR<|d9 []<|dz bs q++ds.map λt=>(aT s.1 t.1,s.2 * t.2),ž<|.d<|bJ s.1,o4,o5,o6,Ž]) ⟨_,_,_,by rw[Ů,ŕ]⟩ ?_ ?_
  .rintro ds t fs _ e2 ⟨o4,o5,o6,rfl⟩
   have tq:t∈q:=by rw[e2];simp
   have lds:ds.length+1<=q.length:=by rw[e2,qr,qt];omega
   have hle:s.1.length=t.1.length:=by rw[lp s sp,lq t tq]
   have s1:=vU (hp s sp) hM h2 h4;have s2:=vU (hq t tq) hN h3 h5;have hb:PB (M * N) (B * C) (dz bs q++ds.map λt=>(aT s.1 t.1,s.2 * t.2)):=λv hv=>by
    rcases Â.mp hv with z|z
    .have(a,ha,b,hb,rfl):=CU z
     exact(hp a (by rw[e];exact Ë _ ha)).mul<|hq b hb
    .have(b,hb,rfl):=Ã.mp z
     exact(hp s sp).mul<|hq b (by rw[e2];exact Ë _ hb)
   have ll:(dz bs q++ds.map λt=>(aT s.1 t.1,s.2 * t.2)).length<=p.length * q.length:=by
    rw[qr,ē];omega
   have gl:=yD (dz bs q++ds.map λt=>(aT s.1 t.1,s.2 * t.2)) [];rw[ũ,ř]at gl;have gb:PB (M * N) (p.length * q.length * (B * C)) (d9 []<|dz bs q++ds.map λt=>(aT s.1 t.1,s.2 * t.2)):=λv hv=>(CJ _ (C:=0) S8 hb v hv).le (by
    have:=Ê (B * C) ll;omega)
   have s3:=vU (Hb gb<|aT s.1 t.1) (a5s hM hN) h1 h6;have s4:Sz (s.2 * t.2):=vU ((hp s sp).mul<|hq t tq) (a5s hM hN) h1 (by
    have h7:1 * (B * C)<=p.length * q.length * (B * C):=Ê _ (by
     have:1 * 1<=p.length * q.length:=ð (by omega) (by omega);omega)
    omega)
   simp![P6 hle];refine yn (e:=λt=>.int<|t.1+t.2) (by rw[a3e,lp s sp];omega) (λt ht ys=>?_) ?_
   .simp!
   .rw[show((s.1.zip t.1).map λt=>ľ<|t.1+t.2)=(aT s.1 t.1).map ľ by unfold aT;rw[a6o,List.zip,a6o]]
    simp![show į ((aT s.1 t.1).map ľ)=bJ (aT s.1 t.1) from rfl,si np sp,si nq tq,zkQ s1 s2,Qz s3 s4];rw[tE (by omega)];simp!;rw[ğ,<-İ,ę,Ů,Pf];exact⟨_,_,_,rfl⟩
  .rintro _ ⟨o4,o5,o6,rfl⟩
   simp!;rw[zqR];exact⟨dT q,_,_,_,_,rfl,.inr rfl⟩
 .rintro _ ⟨x,o3,o4,o5,o6,rfl,hx⟩
  have gl:=yD (dz p q) [];rw[ũ,Du]at gl;simp!;refine fin _ _ _ _ _ _ (Ct _ pC) (by omega) _ λo5=>?_;rcases hx with rfl|rfl
  .simp![L3]
   exact kq x sW<|.inl rfl
  .simp!
   exact kq (dT q) rfl<|.inr rfl
noncomputable def pV:Nat->Nat->Qa (Qa Int)
 |0,_=>[[]]
 |n+1,w=>(ħ<|w+1).flatMap λ(j:Nat)=>(pV n<|w - j).map λl=>(j:Int)::l
structure Ks (n w:Nat) (a:Qa Int):Prop where
 ln:a.length=n
 pos:∀k∈a,0<=k
 sm:a.sum<=(w:Int)
def Nx:∀{a:Qa Int},(∀k∈a,0<=k)->0<=a.sum
 |[],_=>by decide
 |k::a,h=>by
  rw[ĸ];have:=h k qo;have:=Nx λj hj=>h j<|qm k hj;omega
def FK:∀{n w:Nat} {a:Qa Int},Ks n w a->a∈pV n w
 |0,_,[],_=>qp.mpr rfl
 |0,_,_::_,h=>by have:=h.ln;simp at this
 |n+1,_,[],h=>by have:=h.ln;simp at this
 |n+1,w,k::a,h=>by
  have h1:=h.pos k qo;have h2:=Nx λj hj=>h.pos j<|qm k hj;have h3:=h.sm;rw[ĸ]at h3;refine ý.mpr ⟨k.toNat,Í.mpr (by omega),Ã.mpr ⟨a,FK ⟨Ϙ h.ln,λj hj=>h.pos j<|qm k hj,by omega⟩,?_⟩⟩;rw[Int.toNat_of_nonneg h1]
def Ks.up{w w':Nat}{a:Qa Int}(h:Ks n w a)(c:w<=w'):Ks n w' a:=⟨h.ln,h.pos,by have:=h.sm;omega⟩
def Oo:∀{a b:Qa Int},a.length=b.length->(aT a b).sum=a.sum+b.sum
 |[],[],_=>rfl
 |[],_::_,h=>by simp at h
 |_::_,[],h=>by simp at h
 |x::a,y::b,h=>by
  show((x+y)::aT a b).sum=_;rw[ĸ,ĸ,ĸ,Oo<|Ϙ h];omega
def Om:∀{a b:Qa Int},(∀k∈a,0<=k)->(∀k∈b,0<=k)->∀k∈aT a b,0<=k
 |[],_,_,_,k,hk=>by simp[aT]at hk
 |_::_,[],_,_,k,hk=>by simp[aT]at hk
 |x::a,y::b,h,h',k,hk=>by
  rcases qu.mp (show k∈(x+y)::aT a b from hk)with rfl|hk
  .have:=h x qo
   have:=h' y qo;omega
  .exact Om (λj hj=>h j<|qm _ hj) (λj hj=>h' j<|qm _ hj) k hk
def Ks.add{w w':Nat}{a b:Qa Int}(h:Ks n w a)(h':Ks n w' b):Ks n (w+w') (aT a b):=by
 refine⟨?_,Om h.pos h'.pos,?_⟩
 .unfold aT
  rw[a5u,h.ln,h'.ln,a2H]
 .rw[Oo<|h.ln.trans h'.ln.symm]
  have:=h.sm;have:=h'.sm;omega
def zA5:((pV 1 4).map λa=>hT<|kL a).Nodup:=by decide +kernel
def zA6:((pV 2 4).map λa=>hT<|kL a).Nodup:=by decide +kernel
def zA7:((pV 3 4).map λa=>hT<|kL a).Nodup:=by decide +kernel
def zA8{p:Pq Rat}(h1:1<=n)(h3:n<=3)(nd:cT p)(ky:∀t∈p,Ks n (4) t.1):yf p:=by
 have inj:∀a∈pV n (4),∀b∈pV n (4),hT (kL a)=hT (kL b)->a=b:=by
  rcases(by omega:n=1\/n=2\/n=3)with rfl|rfl|rfl
  .exact CI zA5
  .exact CI zA6
  .exact CI zA7
 unfold yf tV;rw[ϓ];constructor
 .rw[ϙ]
  intro ks hk;have(a,_,rfl):=Ã.mp hk;rw[IE,ϙ];intro k hk;have(i,_,rfl):=Ã.mp hk;rfl
 .rw[decide_eq_true_iff,ĳ]
  have mem:∀a∈p.map (·.1),a∈pV n (4):=λa ha=>by
   have(t,ht,rfl):=Ã.mp ha;exact FK<|ky t ht
  refine à.mpr<|a2q (λ{a b} ha hb (rA:a≠b)=>?_) nd;exact λe=>rA<|inj a (mem a ha) b (mem b hb) e
structure PG (n e a:Nat) (p:Pq Rat):Prop where
 nd:cT p
 ky:∀t∈p,Ks n a t.1
 bd:PB (12^a) (2^(24 * a+e)) p
section
variable{e e' a c:Nat}{p q:Pq Rat}
def PG.len(h:PG n e a p)(n1:1<=n)(n3:n<=3)(a4:a<=4):p.length<=35:=by
 have:=Ă h.nd (l₂:=pV n (4)) λx hx=>by
  have(t,ht,rfl):=Ã.mp hx;exact FK<|(h.ky t ht).up a4
 rw[ē]at this;refine qx this ?_;rcases(by omega:n=1\/n=2\/n=3)with rfl|rfl|rfl<;>decide
def PG.up(h:PG n e a p)(hc:a<=c)(he:e<=e'):PG n e' c p:=by
 refine⟨h.nd,λt ht=>(h.ky t ht).up hc,λt ht=>?_⟩;have(d,rfl):=Ò hc;rw[Ū];refine((h.bd t ht).wide<|12^d).le ?_;have h1:12^d<=2^(24 * d):=by rw[Nat.pow_mul];exact a5J (by decide) d
 refine qx (a5K _ h1) ?_;rw[<-Ū];exact æ (by decide) (by omega)
def PG.hash(h:PG n e a p)(n1:1<=n)(n3:n<=3)(a4:a<=4):yf p:=zA8 n1 n3 h.nd λt ht=>(h.ky t ht).up a4
def PG.mul(h:PG n e a p)(h':PG n e' c q)(n1:1<=n)(n3:n<=3)(hac:a+c<=4):PG n (e+e'+11) (a+c) (nz<|d9 []<|dz p q):=by
 refine⟨LH<|Ct _ pC,λt ht=>?_,λt ht=>?_⟩
 .refine Pe (Pk:=λk=>Ks n (a+c) k) (dz p q) (λt h=>by cases h) (λt ht=>?_) t (é.mp ht).1
  have(u,hu,v,hv,rfl):=CU ht;exact(h.ky u hu).add<|h'.ky v hv
 .have:=CJ (dz p q) (C:=0) S8 (Xt h.bd h'.bd) t (é.mp ht).1
  rw[<-Ū]at this;refine this.le ?_;rw[Du,ř];have l1:=h.len n1 n3 (by omega);have l2:=h'.len n1 n3 (by omega);have l3:p.length * q.length<=2^11:=qx (ð l1 l2) (by decide);refine qx (Ê _ l3) ?_;rw[<-Ū,<-Ū];exact æ (by decide) (by omega)
def PG.add(h:PG n e a p)(h':PG n e a q)(n1:1<=n)(n3:n<=3)(a4:a<=4){s:Int}(hs:s=1\/s=-1):PG n (e+6) a (nz<|d9 p<|fP s q):=by
 have pk:∀t∈fP s q,Ks n a t.1:=λt ht=>by
  have(u,hu,rfl):=Ã.mp ht;exact h'.ky u hu
 refine⟨LH<|Ct _ h.nd,λt ht=>Pe (Pk:=λk=>Ks n a k) (fP s q) h.ky pk t (é.mp ht).1,λt ht=>?_⟩;refine(CJ (fP s q) h.bd (Gj hs h'.bd) t (é.mp ht).1).le ?_;rw[show(fP s q).length=q.length from ē ..];have l2:=h'.len n1 n3 a4;have:=Ê (2^(24 * a+e)) l2;rw[<-Ŧ,Ū _ _ 6];omega
end
noncomputable def zs(n:Nat):Qa Int:=Ě n 0
noncomputable def mw(n k:Nat):Qa Int:=Ě k 0++[1]++Ě (n - k - 1) 0
def mq(n:Nat)(f:Rat):Pq Rat:=if f=0 then []else [(zs n,f)]
def zA9(k:Nat):į (Ě k [ľ 0]).flatten=bJ (Ě k 0):=by
 unfold bJ;congr 1
 induction k with
 |zero=>rfl
 |succ k ih=>rw[Ś,ϒ,Ś,ę,<-ih];rfl
def Y6(r:Rat):decide (r.num=0)=decide (r=0):=decide_eq_decide.mpr a3p
def Rc{f:Rat}(hn:n<=3):Aa [.d<|.int (n:Int),.d<|fR f]=ž (.t<|bg fR<|mq n f,[.d<|.int (n:Int),.d<|fR f]):=by
 refine zY ?_;simp![Aa,R8,Y6];unfold mq
 by_cases z:f=0
 .simp![z]
  rfl
 .simp![z,zA9,ı]
  rfl
def Y5{k:Nat}(hk:k < n):(mw n k).length=n:=by
 unfold mw;rw[qr,qr,Ł,Ł,ŏ];omega
def wx(n:Nat):(zs n).length=n:=Ł
def Y4{k:Nat}:∀j∈mw n k,0<=j/\j<=1:=λj hj=>by
 unfold mw at hj;rcases Â.mp hj with z|z
 .rcases Â.mp z with z|z
  .rw[a0U z];omega
  .rw[qp.mp z];omega
 .rw[a0U z];omega
def Gz:∀j∈zs n,j=0:=λj hj=>a0U hj
def Ee{t:Qa Int×Rat}:cT [t]:=by unfold cT;simp
def BA{x y:Nat}(h:x < y):2^x < 2^y:=a5r (by decide) h
def Hw(f:Rat)(p:Pq Rat)(h:Qa Int->Rat):aJ (p.map λt=>(t.1,f * t.2)) h=f * aJ p h:=by
 induction p with
 |nil=>rw[Ů,eQ,a2B]
 |cons t p ih=>
  rw[ę,zC,zC,ih];grind
def sh(n:Nat):Qb Nat->Qa Int->Qa Int
 |none,k=>k
 |some j,k=>aT k<|mw n j
def Y3:(mw n j).sum=1:=by
 unfold mw;simp
def X5(hj:j < n):Ks n 1 (mw n j):=⟨Y5 hj,λk hk=>(Y4 k hk).1,by rw[Y3];decide⟩
def G6(xs ys:Qa Rat):(xs++ys).sum=xs.sum+ys.sum:=by
 induction xs with
 |nil=>rw[a1p,a2y,a1l]
 |cons x xs ih=>rw[a1b,ĸ,ĸ,ih,a2g]
def OK(p:Pq Rat):aJ p (λ_=>0)=0:=by
 induction p with
 |nil=>rfl
 |cons t p ih=>
  rw[zC,ih,a2B,ů]
end K48
open PySem Internal
namespace K48
open PySem Internal
abbrev Et:=Rat×Qb Nat
noncomputable def i4:Qb Nat->D
 |none=>.none
 |some k=>.int (k:Int)
def cA(e:Et):D:=.tuple [fR e.1,i4 e.2]
structure EO (n:Nat) (e:Et):Prop where
 bd:Bd 12 12000000 e.1
 lt:∀k,e.2=ž k->k < n
def bd1:Bd 12 12000000 1:=oG (n:=1) (d:=1) (by decide) (by decide) (by decide)
def uk(n:Nat):Qb Nat->Qa Int
 |none=>zs n
 |some j=>mw n j
def dC(n:Nat)(e:Et):Pq Rat:=if e.1=0 then []else [(uk n e.2,e.1)]
def Ev(n:Nat)(e:Et)(g:Qa Int->Rat):Qa Int->Rat:=λk=>e.1 * g (sh n e.2 k)
def CQ:∀{n:Nat} {k:Qa Int},k.length=n->aT k (zs n)=k
 |0,[],_=>rfl
 |n+1,x::k,h=>by
  show(x+0)::aT k (zs n)=_;rw[CQ<|Ϙ h,Int.add_zero]
 |0,_::_,h=>by cases h
 |_+1,[],h=>by cases h
def yB{l:Qb Nat}{k:Qa Int}(h:k.length=n):aT k (uk n l)=sh n l k:=by
 cases l with
 |none=>exact CQ h
 |some j=>rfl
def units:∀n∈[1,2,3],(∀j∈ħ n,((ħ n).map λk:Nat=>(if(k:Int)=(j:Int)then(1:Int)else 0))=mw n j)/\((ħ n).map λk:Nat=>(0:Int))=zs n:=by decide
def QY{e:Et}(n1:1<=n)(n3:n<=3)(he:∀k,e.2=ž k->k < n):wU [.d<|cA e,.d<|.int (n:Int)]=ž (.t<|bg fR<|dC n e,[.d<|cA e,.d<|.int (n:Int)]):=by
 refine zY ?_;have(f,l):=e;have un:=units n (by rcases(by omega:n=1\/n=2\/n=3)with rfl|rfl|rfl<;>decide);have ed:cA (f,l)=.tuple [fR f,i4 l]:=rfl;unfold dC;dsimp only
 by_cases z:f=0
 .subst z
  simp![wU,Ie,ed,show((0:Rat).num=0)=True from eq_true rfl,if_true];rfl
 .simp![wU,Ie,ed,a3p,z,ı]
  cases l with
  |none=>
   refine yn (g:=λk:Nat=>ľ<|0+(k:Int)) (as:=ħ n) (e:=λk:Nat=>.int (0:Int)) (by rw[Χ];omega) (λk hk ys=>?_) ?_
   .have q:dP Ż (.d<|.int<|0+(k:Int)) (.d .none)=ž (.d<|.bool Ż):=rfl
    simp![i4,q]
   .rw[show((ħ n).map λk:Nat=>ľ 0)=((ħ n).map λk:Nat=>(0:Int)).map ľ by rw[ĳ];rfl,un.2]
    simp![i4,show į ((zs n).map ľ)=bJ (zs n) from rfl];rfl
  |some j=>
   have hj:=he j rfl;refine yn (g:=λk:Nat=>ľ<|0+(k:Int)) (as:=ħ n) (e:=λk:Nat=>.int (if(k:Int)=(j:Int)then(1:Int)else 0)) (by rw[Χ];omega) (λk hk ys=>?_) ?_
   .rw[Int.zero_add]
    by_cases c:(k:Int)=(j:Int)
    .simp![i4,c]
    .simp![i4,c]
   .rw[show((ħ n).map λk:Nat=>ľ (if(k:Int)=(j:Int)then(1:Int)else 0))=((ħ n).map λk:Nat=>if(k:Int)=(j:Int)then(1:Int)else 0).map ľ by rw[ĳ];rfl,un.1 j<|Í.mpr hj]
    simp![i4,show į ((mw n j).map ľ)=bJ (mw n j) from rfl];rfl
structure PZ (n e a:Nat) (p:Pq Rat):Prop where
 pg:PG n e a p
 nz:∀t∈p,t.2≠0
def Si(q:Pq Rat):∀t∈Internal.nz q,t.2≠0:=λt ht=>a6T (é.mp ht).2
def PZ.up{e a e' a':Nat}{p:Pq Rat}(h:PZ n e a p)(ha:a<=a')(he:e<=e'):PZ n e' a' p:=⟨h.pg.up ha he,h.nz⟩
def PZ.nil{e a:Nat}:PZ n e a []:=⟨⟨a1B,λt h=>(by cases h),λt h=>(by cases h)⟩,λt h=>(by cases h)⟩
def B8{l:Qb Nat}(h:∀k,l=ž k->k < n):Ks n 1 (uk n l):=by
 cases l with
 |none=>
  refine⟨wx n,λk hk=>by rw[Gz k hk];decide,?_⟩;unfold uk zs;simp
 |some j=>exact X5<|h j rfl
noncomputable def we(e:Et):Nat:=if e.2=Ž/\(e.1=1\/e.1=-1)then 0 else 1
def FJ{e:Et}:we e<=1:=by
 unfold we;split<;>decide
def zDH:Bd 1 1 (-1):=Bd.one.neg
def KW{w:Nat}:Ks n w (zs n):=by
 refine⟨wx n,λk hk=>by rw[Gz k hk];decide,?_⟩;unfold zs;simp
def Gy{e:Et}(he:EO n e):PZ n 0 (we e) (dC n e):=by
 unfold dC;split
 .exact PZ.nil
 .rename_i z
  by_cases c:e.2=Ž/\(e.1=1\/e.1=-1)
  .rw[show we e=0 from a6P c]
   refine⟨⟨Ee,λt ht=>?_,λt ht=>?_⟩,λt ht=>?_⟩
   all_goals cases qp.mp ht
   .rw[c.1]
    exact KW
   .rcases c.2 with e1|e1
    .show Bd _ _ e.1
     rw[e1];exact Bd.one
    .show Bd _ _ e.1
     rw[e1];exact zDH
   .exact z
  rw[show we e=1 from a6Q c];refine⟨⟨Ee,λt ht=>?_,λt ht=>?_⟩,λt ht=>?_⟩
  all_goals cases qp.mp ht
  .exact B8 he.lt
  .exact he.bd.le (by decide)
  .exact z
def Nv{e:Et}:(dC n e).length<=1:=by
 unfold dC;split
 .exact À _
 .exact qe _
def X4:PZ n 0 0 (mq n 1):=by
 have e:mq n 1=[(zs n,1)]:=a6Q (by decide);rw[e];refine⟨⟨Ee,λt ht=>?_,λt ht=>?_⟩,λt ht=>?_⟩
 all_goals cases qp.mp ht
 .exact KW
 .exact Bd.one
 .exact(by decide:(1:Rat)≠0)
def Y2(g:Qa Int->Rat):aJ (mq n 1) g=g (zs n):=by
 have e:mq n 1=[(zs n,1)]:=a6Q (by decide);rw[e,zC,eQ];grind
def pU(n:Nat)(p:Pq Rat)(e:Et):Pq Rat:=Internal.nz (d9 []<|dz p<|dC n e)
def rO(s:Int)(p q:Pq Rat):Pq Rat:=Internal.nz (d9 p<|fP s q)
def wB{e:Et}(g:Qa Int->Rat):aJ (dC n e) g=e.1 * g (uk n e.2):=by
 unfold dC;split
 .rename_i z
  rw[z,eQ,ϡ]
 .rw[zC,eQ,ů]
def X3{d a:Nat}{p:Pq Rat}{e:Et}(h:PG n d a p)(g:Qa Int->Rat):aJ (pU n p e) g=aJ p (Ev n e g):=by
 unfold pU;rw[show Internal.nz (d9 []<|dz p<|dC n e)=(d9 []<|dz p<|dC n e).filter (λt=>decide<|t.2≠0) from rfl,Cs,CV _ _ pC,eQ,a1l,yM];refine oY λt ht=>?_;rw[wB,yB (h.ky t ht).ln];rfl
def Y1{s:Int}{p q:Pq Rat}(h:cT p)(g:Qa Int->Rat):aJ (rO s p q) g=aJ p g+s * aJ q g:=by
 unfold rO;rw[show Internal.nz (d9 p<|fP s q)=(d9 p<|fP s q).filter (λt=>decide<|t.2≠0) from rfl,Cs,CV _ _ h];congr 1;exact Hw _ _ _
section
variable{d a:Nat}{p q:Pq Rat}{e:Et}{u1 u2:U}
def PZ.S2(h:PZ n d a p)(n1:1<=n)(n3:n<=3)(ha:a+we e<=4)(he:EO n e):PZ n (d+11) (a+we e) (pU n p e):=⟨h.pg.mul (Gy he).pg n1 n3 ha,Si _⟩
def PZ.add(h:PZ n d a p)(h':PZ n d a q)(n1:1<=n)(n3:n<=3)(ha:a<=4){s:Int}(hs:s=1\/s=-1):PZ n (d+6) a (rO s p q):=⟨h.pg.add h'.pg n1 n3 ha hs,Si _⟩
def FI{k:Nat}:0 < 12^k:=ď (by decide)
def Bz{k:Nat}(h:k<=8):12^k < 2^4000:=Æ (æ (by decide) h) (qi (by decide:12^8 < 2^30)<|æ (by decide) (by decide))
def zBa{Q:U×Qa U->Prop}(n1:1<=n)(n3:n<=3)(uI:u1.fz=ž (.dict<|cB fR p))(sW:u2.fz=ž (.dict<|cB fR<|dC n e))(hp:PZ n d a p)(ha:a+we e<=4)(hd:d<=3000)(he:EO n e)(kq:∀qS,Q (.t<|bg fR<|pU n p e,[dT p,qS])):Wo (wR [u1,u2]) Q:=by
 have lp:=hp.pg.len n1 n3 (by omega);have le:=Nv (n:=n) (e:=e);have hq:=Gy he;have w1:=FJ (e:=e);have lm:p.length * (dC n e).length<=35 * 1:=ð lp le;refine Qx uI sW hp.pg.nd hq.pg.nd hp.pg.bd hq.pg.bd (λt ht=>(hp.pg.ky t ht).ln) (λt ht=>(hq.pg.ky t ht).ln) (by omega) FI FI (by rw[<-Ū];exact Bz (by omega)) (Bz (by omega)) (Bz (by omega)) (BA (by omega)) (BA (by omega)) ?_ (a5s (ď (by decide))<|ď (by decide)) (by omega) (by omega) (by omega) λqS _ _=>kq qS;refine Æ (Ê _<|qx lm (by decide:35 * 1<=2^6)) ?_;rw[<-Ū,<-Ū];exact BA (by omega)
def zBb{s:Int}(n1:1<=n)(n3:n<=3)(uI:u1=.d (.dict<|cB fR p)\/u1=.t (bg fR p))(sW:u2.fz=ž (.dict<|cB fR q))(hs:s=1\/s=-1)(hp:PZ n d a p)(hq:PZ n d a q)(ha:a<=4)(hd:d<=3000):
  wV [u1,u2,.d<|.int s]=ž (.t<|bg fR<|rO s p q,[u1,dT q,.d<|.int s]):=by
 have lp:=hp.pg.len n1 n3 ha;have lq:=hq.pg.len n1 n3 ha;have hh:=hp.pg.hash n1 n3 ha;refine Qy (by rcases uI with rfl|rfl;exact zCQ hh;exact LG hh) sW hs hp.pg.nd hq.pg.nd hp.pg.bd hq.pg.bd FI (Bz (by omega)) ?_ (by omega) (by omega);have h1:q.length * 2^(24 * a+d)<=35 * 2^(24 * a+d):=Ê _ lq;have h2:2^(24 * a+d+6)=2^(24 * a+d) * 64:=Ū _ _ _;have h3:2^(24 * a+d+6) < 2^4000:=BA (by omega);omega
end
end K48
open PySem Internal
namespace K48
open PySem Internal
def e9(r:Qa Et):D:=.tuple (r.map cA)
def fR1:į [.int 1,.int 1]=fR 1:=rfl
def Y0{c:Prop}[Decidable c]{X:Qb (Bool×En)}{ρ:En}{Q:Bool×En->Prop}(h:c->X=ž (Ż,ρ))(q:Q (Ż,ρ)):Wo (if c then X else ž (Ż,ρ)) Q:=by
 split
 .rename_i hc
  rw[h hc];exact⟨_,rfl,q⟩
 .exact⟨_,rfl,q⟩
def X2{x y:Int}{Q:U×Qa U->Prop}(n1:1<=n)(n3:n<=3)(k:∀e x' y',EO n e->Q (.d<|cA e,[bx x' y',.d<|.int (n:Int),.d<|.bool ż])):Wo (DP [bx x y,.d<|.int (n:Int),.d<|.bool ż]) Q:=by
 simp![DP,Q2];refine Y7 λp x1 y1 sm=>?_;simp!;refine Y0 (λc=>zY ?_) ?_
 .simp!
 simp!;refine iC (by omega) (by omega) λr x2 y2 a2 b2=>?_;simp!
 by_cases c:r=(n:Int)
 .simp![c]
  exact k (p,Ž) _ _ ⟨sm,λk hk=>by cases hk⟩
 .simp![c]
  refine iC (by decide) (by decide) λr3 x3 y3 a3 b3=>?_;simp!;refine MC a3 b3 λz hz=>?_;have e:(r.toNat:Int)=r:=by omega
  have hq:∃q:Rat,z=fR q/\Bd 12 12000000 q:=by
   simp only[qu,ķ,or_false]at hz;rcases hz with rfl|rfl
   .exact⟨p,rfl,sm⟩
   .exact⟨1,rfl,bd1⟩
  have(q,rfl,hq):=hq;simp!;have:=k (q,ž r.toNat) x3 y3 ⟨hq,λk hk=>by cases hk;omega⟩;simp only[cA,i4,e]at this;exact this
structure TO (n:Nat) (t:Qa (Qa Et)):Prop where
 l1:1<=t.length
 l4:t.length<=4
 sq:∀r∈t,r.length=t.length
 en:∀r∈t,∀e∈r,EO n e
def iD(ns:Qa Str)(t:Qa (Qa Et)):D:=.tuple [.tuple<|ns.map .str,.tuple<|t.map e9]
def X1{x y:Int}{ns:Qa Str}{Q:U×Qa U->Prop}(n1:1<=ns.length)(n3:ns.length<=3)(k:∀t x' y',TO ns.length t->Q (.d<|iD ns t,[bx x' y',.d<|.tuple<|ns.map .str,.d<|.int 4])):Wo (DO [bx x y,.d<|.tuple<|ns.map .str,.d<|.int 4]) Q:=by
 simp![DO,Q0];refine iC (by decide) (by decide) λr1 x1 y1 a1 b1=>?_;simp!;refine iC (by decide) (by decide) λr2 x2 y2 a2 b2=>?_;simp!;refine vI (λi ρ=>E7 λ(x y:Int) (v6 v7 v8 v9:Qb U) (t:Qa (Qa Et))=>ρ=[ž<|bx x y,ž<|.d<|.tuple<|ns.map .str,ž<|.d<|.int 4,ž<|.d<|.int<|1+r1,ž<|.d<|.int r2,ž<|.l<|t.map e9,v6,v7,v8,v9]/\t.length=i/\∀r∈t,r.length=(1+r1).toNat/\∀e∈r,EO ns.length e)
  ⟨_,_,_,_,_,_,[],rfl,rfl,λr hr=>by cases hr⟩ ?_ ?_
 .rintro i _ hi ⟨x,y,v6,v7,v8,v9,t,rfl,ht,hr⟩
  simp!;refine vI (λj ρ=>E5 λ(x y:Int) (v8 v9:Qb U) (ro:Qa Et)=>ρ=[ž<|bx x y,ž<|.d<|.tuple<|ns.map .str,ž<|.d<|.int 4,ž<|.d<|.int<|1+r1,ž<|.d<|.int r2,ž<|.l<|t.map e9,ž<|.d<|.int<|0+(i:Nat),ž<|.l<|ro.map cA,v8,v9]/\ro.length=j/\∀e∈ro,EO ns.length e)
   ⟨_,_,_,_,[],rfl,rfl,λr hr=>by cases hr⟩ ?_ ?_
  .rintro j _ hj ⟨x,y,v8,v9,ro,rfl,hl,he⟩
   have uY:∀{e:Et} {x' y':Int},EO ns.length e->E5 λ(x y:Int) (v8 v9:Qb U) (I9:Qa Et)=>[ž<|bx x' y',ž<|U.d<|.tuple<|ns.map .str,ž<|.d<|.int 4,ž<|.d<|.int<|1+r1,ž<|.d<|.int r2,ž<|.l<|t.map e9,ž<|.d<|.int<|0+(i:Nat),ž<|.l<|ro.map cA++[cA e],ž<|.d<|.int<|0+(j:Nat),ž<|.d<|cA e]=[ž<|bx x y,ž<|.d<|.tuple<|ns.map .str,ž<|.d<|.int 4,ž<|.d<|.int<|1+r1,ž<|.d<|.int r2,ž<|.l<|t.map e9,ž<|.d<|.int<|0+(i:Nat),ž<|.l<|I9.map cA,v8,v9]/\I9.length=j+1/\∀e∈I9,EO ns.length e:=λ{e x' y'} h=>
    ⟨x',y',_,_,ro++[e],by rw[ğ];rfl,by simp[hl],λz hz=>by
     rcases Â.mp hz with hz|hz
     .exact he z hz
     .cases qp.mp hz
      exact h⟩
   have z0:EO ns.length (0,Ž):=⟨Bd.zero,λk hk=>by cases hk⟩;have e0:į [.tuple [.int 0,.int 1],.none]=cA (0,Ž):=rfl;simp!;refine X2 n1 n3 λe x3 y3 ho=>?_;simp!
   by_cases c2:r2=2
   .simp![c2]
    refine iC (by decide) (by decide) λr3 x4 y4 a3 b3=>?_;simp!
    by_cases c3:r3=0
    .simp![c3,e0]
     rw[<-c2];exact uY z0
    .simp![c3]
     rw[<-c2];exact uY ho
   .simp![c2]
    exact uY ho
  .rintro _ ⟨x,y,v8,v9,ro,rfl,hl,he⟩
   simp!;refine⟨x,y,_,_,_,_,t++[ro],by rw[ğ];rfl,by simp[ht],λz hz=>?_⟩;rcases Â.mp hz with hz|hz
   .exact hr z hz
   .cases qp.mp hz
    exact⟨hl,he⟩
 .rintro _ ⟨x,y,v6,v7,v8,v9,t,rfl,ht,hr⟩
  simp!;exact k t x y ⟨by omega,by omega,λr h=>by rw[(hr r h).1,ht],λr h=>(hr r h).2⟩
end K48
open PySem Internal
namespace K48
open PySem Internal
def HV:∀a b c:Qa Int,aT (aT a b) c=aT a (aT b c)
 |[],_,_=>rfl
 |_::_,[],_=>rfl
 |_::_,_::_,[]=>rfl
 |x::a,y::b,z::c=>by
  show(x+y+z)::aT (aT a b) c=(x+(y+z))::aT a (aT b c);rw[HV a b c,Int.add_assoc]
def OJ(p:Pq Rat)(g h:Qa Int->Rat):(aJ p λa=>g a+h a)=aJ p g+aJ p h:=by
 induction p with
 |nil=>rw[eQ,eQ,eQ,ů]
 |cons t p ih=>
  rw[zC,zC,zC,ih];grind
def OI{a b:Qa Int}(ha:a.length=n)(hb:b.length=n):(aT a b).length=n:=by
 unfold aT;rw[a5u,ha,hb,a2H]
def Nu{k:Qa Int}(h:k.length=n):aT (zs n) k=k:=by
 rw[Internal.hU,CQ h]
abbrev Ed:=Nat×Nat×Pq Rat
abbrev Vs:=Nat->Pq Rat
def eS(V:Vs)(d:Nat)(g:Qa Int->Rat)(x:Ed):Rat:=if x.2.1=d then aJ (V x.1) (λe=>aJ x.2.2 λf=>g<|aT e f)else 0
def sE(V:Vs)(d:Nat)(g:Qa Int->Rat)(E:Qa Ed):Rat:=(E.map<|eS V d g).sum
def zBc{V:Vs}{d:Nat}{E F:Qa Ed}:sE V d g (E++F)=sE V d g E+sE V d g F:=by
 unfold sE;rw[ğ,G6]
def Nt{V:Vs}{d:Nat}{x:Ed}{F:Qa Ed}:sE V d g (x::F)=eS V d g x+sE V d g F:=by
 unfold sE;rw[ę,ĸ]
def L0{V:Vs}{d:Nat}:sE V d g []=0:=rfl
structure GV (n:Nat) (E:Qa Ed) (V:Vs):Prop where
 ky:∀d,Ln n (V d)
 eq:∀d g,aJ (V d) g=(if d=0 then g (zs n)else 0)+sE V d g E
noncomputable def upd(V:Vs)(m:Nat)(q:Pq Rat):Vs:=λd=>if d=m then q else V d
def Gx{V:Vs}{q:Pq Rat}:upd V m q m=q:=a6P rfl
def zw{V:Vs}{d:Nat}{q:Pq Rat}(h:d≠m):upd V m q d=V d:=a6Q h
def zBd{V:Vs}{d:Nat}{q:Pq Rat}{E:Qa Ed}(no:∀x∈E,x.1≠m):sE (upd V m q) d g E=sE V d g E:=by
 unfold sE;congr 1;refine É λx hx=>?_;unfold eS;rw[zw<|no x hx]
def LZ{p q:Pq Rat}(hp:Ln n p)(hq:Ln n q):Ln n (dz p q):=λt ht=>by
 have(u,hu,v,hv,rfl):=CU ht;exact OI (hp u hu)<|hq v hv
def YZ(p q:Pq Rat)(h:Qa Int->Qa Int->Rat):aJ p (λe=>aJ q λf=>h e f)=aJ q (λf=>aJ p λe=>h e f):=by
 induction p with
 |nil=>
  simp only[eQ];exact(OK q).symm
 |cons t p ih=>
  simp only[zC];rw[ih,OJ,zqQ]
def Rn(n:Nat):Type:={f:(Qa Int->Rat)->Rat // ∃p:Pq Rat,Ln n p/\f=aJ p}
namespace Rn
variable{n:Nat}
def of(p:Pq Rat)(h:Ln n p):Rn n:=⟨aJ p,p,h,rfl⟩
def ext{a b:Rn n}(h:∀g,a.1 g=b.1 g):a=b:=Subtype.ext (funext h)
def ln1{r:Rat}:Ln n [(zs n,r)]:=λt ht=>by
 cases List.mem_singleton.mp ht;exact wx n
def cst(r:Rat):Rn n:=of [(zs n,r)] ln1
def add(a b:Rn n):Rn n:=⟨λg=>a.1 g+b.1 g,by
 have(_,p,hp,rfl):=a;have(_,q,hq,rfl):=b;exact⟨p++q,λt ht=>(List.mem_append.mp ht).elim (hp t)<|hq t,funext λg=>(yC p q g).symm⟩⟩
def neg(a:Rn n):Rn n:=⟨λg=>(-1) * a.1 g,by
 have(_,p,hp,rfl):=a;exact⟨p.map λt=>(t.1,(-1) * t.2),λt ht=>by
  have(u,hu,rfl):=List.mem_map.mp ht;exact hp u hu,funext λg=>(Hw _ p g).symm⟩⟩
def mul(a b:Rn n):Rn n:=⟨λg=>a.1 λe=>b.1 λf=>g<|aT e f,by
 have(_,p,hp,rfl):=a;have(_,q,hq,rfl):=b;exact⟨dz p q,LZ hp hq,funext λg=>(yM p q g).symm⟩⟩
def pow(a:Rn n):Nat->Rn n
 |0=>cst 1
 |k+1=>mul (pow a k) a
def bS(r:Rat)(g:List Int->Rat):(cst r:Rn n).1 g=r * g (zs n):=by
 show aJ _ _=_;rw[zC,eQ,ů]
def wA(r:Rat)(a:Rn n)(g:List Int->Rat):(mul (cst r) a).1 g=r * a.1 g:=by
 show(cst r:Rn n).1 (λe=>a.1 λf=>g<|aT e f)=_;rw[bS];have(_,p,hp,rfl):=a;congr 1;show(aJ p λf=>g<|aT (zs n) f)=aJ p g;exact oY λt ht=>by rw[Nu<|hp t ht]
def mul_comm(a b:Rn n):mul a b=mul b a:=by
 have(_,p,hp,rfl):=a;have(_,q,hq,rfl):=b;refine ext λg=>?_;show aJ p (λe=>aJ q λf=>g<|aT e f)=aJ q λe=>aJ p λf=>g<|aT e f;rw[YZ];exact oY λu _=>oY λv _=>by rw[Internal.hU]
instance:ϑ (Rn n) where
 add:=add
 mul:=mul
 neg:=neg
 sub a b:=add a (neg b)
 natCast:=⟨λk=>cst (k:Rat)⟩
 ofNat k:=⟨cst (k:Rat)⟩
 intCast:=⟨λk=>cst (k:Rat)⟩
 nsmul:=⟨λk a=>mul (cst (k:Rat)) a⟩
 zsmul:=⟨λk a=>mul (cst (k:Rat)) a⟩
 npow:=⟨pow⟩
 add_zero a:=ext λg=>by
  show a.1 g+(cst ((0:Nat):Rat):Rn n).1 g=a.1 g;rw[bS];exact(by grind:a.1 g+((0:Nat):Rat) * g (zs n)=a.1 g)
 add_comm a b:=ext λg=>Rat.add_comm _ _
 add_assoc a b c:=ext λg=>a2g _ _ _
 mul_assoc a b c:=by
  have(_,p,hp,rfl):=a;have(_,q,hq,rfl):=b;have(_,r,hr,rfl):=c;refine ext λg=>?_;show(aJ p λe=>aJ q λf=>aJ r λh=>g<|aT (aT e f) h)=aJ p λe=>aJ q λf=>aJ r λh=>g<|aT e<|aT f h;exact oY λu _=>oY λv _=>oY λw _=>by rw[HV]
 mul_one a:=by
  show mul a (cst ((1:Nat):Rat))=a;rw[mul_comm];exact ext λg=>by rw[wA];exact ϳ _
 one_mul a:=ext λg=>by
  show(mul (cst ((1:Nat):Rat)) a).1 g=_;rw[wA];exact ϳ _
 left_distrib a b c:=by
  have(_,p,hp,rfl):=a;exact ext λg=>OJ p (λe=>b.1 λf=>g<|aT e f) λe=>c.1 λf=>g (aT e f)
 right_distrib a b c:=ext λg=>rfl
 zero_mul a:=ext λg=>by
  show(mul (cst ((0:Nat):Rat)) a).1 g=(cst ((0:Nat):Rat):Rn n).1 g;rw[wA,bS];exact(ϡ _).trans (ϡ _).symm
 mul_zero a:=by
  show mul a (cst ((0:Nat):Rat))=cst ((0:Nat):Rat);rw[mul_comm];exact ext λg=>by rw[wA,bS];exact(ϡ _).trans (ϡ _).symm
 pow_zero a:=rfl
 pow_succ a k:=rfl
 ofNat_succ k:=ext λg=>by
  show(cst ((k+1:Nat):Rat):Rn n).1 g=(cst (k:Rat):Rn n).1 g+(cst ((1:Nat):Rat):Rn n).1 g;rw[bS,bS,bS];have:(((k+1:Nat)):Rat)=(k:Rat)+1:=by grind
  rw[this];grind
 neg_add_cancel a:=ext λg=>by
  show(-1) * a.1 g+a.1 g=(cst ((0:Nat):Rat):Rn n).1 g;rw[bS];have:(((0:Nat)):Rat)=0:=rfl;rw[this];grind
 sub_eq_add_neg a b:=rfl
 neg_zsmul i a:=ext λg=>by
  show(mul (cst ((-i:Int):Rat)) a).1 g=(-1) * (mul (cst (i:Rat)) a).1 g;rw[wA,wA];have:(((-i:Int)):Rat)=-(i:Rat):=by grind
  rw[this];grind
 intCast_neg i:=ext λg=>by
  show(cst ((-i:Int):Rat):Rn n).1 g=(-1) * (cst (i:Rat):Rn n).1 g;rw[bS,bS];have:(((-i:Int)):Rat)=-(i:Rat):=by grind
  rw[this];grind
 mul_comm:=mul_comm
end Rn
section
variable[ϑ α]
noncomputable def um(A:Nat->Nat->α)(h w h' w':Nat):α:=(if h'=h/\h < w' then -(A w w')else 0)+(if h'=w'/\h < h' then A w h else 0)
noncomputable def fO(m:Nat):Qa (Nat×Nat):=(ħ m).flatMap λh=>((ħ m).filter λw=>decide<|h<=w).map λw=>(h,w)
noncomputable def bH(xs:Qa α):α:=xs.foldr (·+·) 0
def lay(A:Nat->Nat->α)(m:Nat):Nat->Nat->Nat->α
 |0,h,w=>if h=0/\w=0 then 1 else 0
 |k+1,h,w=>bH<|(fO m).map λs=>lay A m k s.1 s.2 * um A s.1 s.2 h w
def fin(A:Nat->Nat->α)(m:Nat):α:=bH ((fO m).map λs=>lay A m (m - 1) s.1 s.2 * A s.2 s.1)
def zDI:fO 2=[(0,0),(0,1),(1,1)]:=by decide
def lO(A:Nat->Nat->α):fin A 2=A 0 0 * A 1 1 - A 0 1 * A 1 0:=by
 unfold fin;simp[zDI,bH,lay,um];grind
end
end K48
open PySem Internal
namespace K48
open PySem Internal
structure Wy where
 a:Nat
 b:Nat
 e:Et
def Wy.d(x:Wy):D:=.tuple [.int (x.a:Int),.int (x.b:Int),cA x.e]
def mH(x y:Wy):Prop:=¬(x.a=y.a/\x.b=y.b)
def ew(n:Nat)(x:Wy):Ed:=(x.a,x.b,dC n x.e)
noncomputable def Wy.le(x y:Wy):Bool:=decide (x.a < y.a\/(x.a=y.a/\x.b<=y.b))
def Ll{a c d:Int}:(a < c\/(a=c/\b < d))->c9 [a,b] [c,d]=ż:=by
 intro h;rcases h with h|⟨rfl,h⟩
 .show(if a=c then _ else decide (a < c))=ż
  rw[a6Q (by omega)];exact a6R h
 .show(if a=a then(if b=d then Ż else decide (b < d))else _)=ż
  rw[a6P rfl,a6Q (by omega)];exact a6R h
def pO(x y:Wy):Prop:=x.a < y.a\/(x.a=y.a/\x.b < y.b)
def mH.symm{x y:Wy}(h:mH x y):mH y x:=λz=>h ⟨z.1.symm,z.2.symm⟩
def mH.ne{x y:Wy}(h:mH x y):x.a=y.a->x.b=y.b->False:=λh1 h2=>h ⟨h1,h2⟩
def ji(W:Qa Wy):Qa Wy:=W.mergeSort Wy.le
def wK{W:Qa Wy}:(ji W).Perm W:=List.mergeSort_perm _ _
def Nr{W:Qa Wy}(h:W.Pairwise mH):(ji W).Pairwise pO:=by
 have hs:(ji W).Pairwise λx y=>Wy.le x y=ż:=List.pairwise_mergeSort (λa b c h1 h2=>by
  unfold Wy.le at *;simp only[decide_eq_true_eq]at *;omega) (λa b=>by
  unfold Wy.le;simp only[Bool.or_eq_true,decide_eq_true_eq];omega) _
 have ha:(ji W).Pairwise mH:=(wK.pairwise_iff λh=>mH.symm h).mpr h;refine(hs.and ha).imp λ{x y} ⟨h1,h2⟩=>?_;have nn:=h2.ne;unfold Wy.le at h1;unfold pO;simp only[decide_eq_true_eq]at h1;rcases h1 with h1|⟨h1,h3⟩
 .exact .inl h1
 .exact .inr ⟨h1,Nat.lt_of_le_of_ne h3<|nn h1⟩
def zBe{W:Qa Wy}:Ae (W.map Wy.d)=ž (W.map λx=>[(x.a:Int),(x.b:Int)]):=by
 induction W with
 |nil=>rfl
 |cons x W ih=>
  show(wk x.d).bind _=_;rw[ih];rfl
def X0{W:Qa Wy}(h:W.Pairwise mH)(hl:W.length<=300):CF (.l<|W.map Wy.d)=ž (.l<|(ji W).map Wy.d):=by
 have e:Ca (W.map Wy.d)=(ji W).map Wy.d:=by
  refine Oz (wK.map _) ?_;rw[a0K];refine(Nr h).imp λ{x y} h=>⟨[(x.a:Int),(x.b:Int)],[(y.a:Int),(y.b:Int)],rfl,rfl,Ll ?_⟩;unfold pO at h;omega
 have nd:(W.map λx=>[(x.a:Int),(x.b:Int)]).Nodup:=by
  unfold a2i;rw[a0K];refine h.imp λ{x y} h z=>?_;simp only[Ϸ,and_true]at z;exact h.ne (by omega) (by omega)
 unfold CF;show(ž<|W.map Wy.d).bind _=_;rw[a2v,zBe,a2v,a6P ⟨by rw[ē];omega,nd⟩,e]
def xI(b:Rat):vF ż [0,1] (.d<|fR b)=ž (.d<|.bool (!decide (b=0))):=Ha (a:=b) (b:=0) (neg:=ż)
noncomputable def w4(W:Qa Wy):Qa Wy:=W.filter λx=>!decide (x.e.1=0)
abbrev mn(ls:Qa Str)(d:Nat)(W:Qa Wy):D:=.tuple [.tuple<|ls.map .str,.int (d:Int),.tuple<|W.map Wy.d]
def Nq{neg:Bool}{d:D}{k M:Nat}(h:gY k M d)(hk:k<=64):oz neg (.d d) (.d d)=ž (.d<|.bool (!neg)):=by
 rw[h.eqD h hk hk,PySem.SeqAt.eqv_refl d h.lay];cases neg<;>rfl
def znT{r:Rat}(hr:Bd 12 12000000 r):DW [.d<|fR r]=ž (.d<|.bool ż,[.d<|fR r]):=by
 refine zY ?_;have(gd,gn):=hr.size (by decide);have d1:=vD r;have lf:=Ab (n:=r.num) (d:=(r.den:Int)) (by omega) (IF d1 (by omega));rw[a2p]at lf;have er:fR r=.tuple [.int r.num,.int (r.den:Int)]:=rfl;simp![DW,R7,er];refine wz (λi ρ=>∃v1,ρ=[ž<|U.d<|.tuple [.int r.num,.int (r.den:Int)],v1]) ⟨_,rfl⟩ ?_ ?_
 .rintro i d _ hd ⟨v1,rfl⟩
  obtain⟨z,rfl⟩:∃z:Int,d=.int z:=by
   have hm:=Ì hd;simp only[qu,ķ,or_false]at hm;rcases hm with rfl|rfl<;>exact⟨_,rfl⟩
  simp!;exact⟨_,rfl⟩
 .rintro _ ⟨v1,rfl⟩
  rw[<-er];have eq:=Ha (a:=r) (b:=r) (neg:=Ż);have lJ:aS (.d<|fR r) (.d<|.int 0)=ž (.d<|.int r.num):=rfl;have JB:aS (.d<|fR r) (.d<|.int 1)=ž (.d<|.int (r.den:Int)):=rfl;simp![lf,eq,lJ,JB,show((0:Int) < (r.den:Int))=True from eq_true (by omega),if_true]
def zDi{f:Rat}(h:Bd 12 12000000 f):gY 1 31 (fR f):=(zAI (n:=8) (Æ (h.size (by decide)).2 (by decide))<|Æ (h.size (by decide)).1 (by decide)).mono (qe _) (by decide)
def LY{ns:Qa Str}(n3:ns.length<=3)(ha:∀z∈ns,cM 10 z):gY 1 400 (.tuple<|ns.map .str):=by
 refine(wF (n:=3) (k:=0) (M:=102) (λd hd=>?_) (by rw[ē];exact n3)).mono (qe _) (by decide);have(z,hz,rfl):=Ã.mp hd;exact XD<|ha z hz
def Qw{i:Int}:wW [.d<|.int i]=ž (.d<|.bool ż,[.d<|.int i]):=by
 refine zY ?_;simp![wW,RO]
def Lk:vo Ż (.d .none) (.d .none)=ž (.d<|.bool ż):=rfl
def Lj{i:Int}:vo Ż (.d<|.int i) (.d .none)=ž (.d<|.bool Ż):=rfl
def zmE{e:Et}(he:EO n e)(h0:e.1≠0):DJ [.d<|cA e,.d<|.int (n:Int),.d<|.bool Ż]=ž (.d<|.bool ż,[.d<|cA e,.d<|.int (n:Int),.d<|.bool Ż]):=by
 refine zY ?_;have fo:=znT he.bd;have(f,l):=e;have n0:f.num≠0:=λz=>h0<|Rat.num_eq_zero.mp z;have ed:cA (f,l)=.tuple [fR f,i4 l]:=rfl;have lJ:aS (.d<|fR f) (.d<|.int 0)=ž (.d<|.int f.num):=rfl;simp![DJ,RJ,ed,fo,lJ,n0];cases l with
 |none=>simp![i4,Lk]
 |some j=>
  have hj:j < n:=he.lt j rfl;simp![i4,Lj,show((0:Int)<=(j:Int))=True from eq_true (by omega),if_true,show decide ((j:Int) < (n:Int))=ż from a6R (by omega)]
def Md{a c d:Int}(h:c < a\/(c=a/\d < b)):leB [a,b] [c,d]=Ż:=by
 unfold leB;rw[Ll h];rfl
def zq7{ls:Qa Str}{D0:Nat}{M:Int}{W:Qa Wy}(n3:ls.length<=3)(ha:∀z∈ls,cM 10 z)(h2:2<=D0)(hM:(D0:Int)<=M)(hb:∀x∈W,x.a < x.b/\x.b < D0/\EO ls.length x.e/\x.e.1≠0)(hp:W.Pairwise pO):
  yY [.d<|mn ls D0 W,.d<|.tuple<|ls.map .str,.d<|.int M]=ž (.d<|.bool ż,[.d<|mn ls D0 W,.d<|.tuple<|ls.map .str,.d<|.int M]):=by
 refine zY ?_;have es:=Nq (neg:=ż) (LY n3 ha) (by decide);simp![yY,Rg,es,Qw,show((2:Int)<=(D0:Int))=True from eq_true (by omega),if_true,show decide ((D0:Int)<=M)=ż from a6R hM];refine k9 (λbs cs ρ=>E3 λ(l1 l2:Int) (v4:Qb U)=>ρ=[ž<|.d<|mn ls D0 W,ž<|.d<|.tuple<|ls.map .str,ž<|.d<|.int M,ž<|.d<|.tuple [.int l1,.int l2],v4]/\∀x∈cs,l1 < (x.a:Int)\/(l1=x.a/\l2 < x.b)) ⟨-1,-1,Ž,rfl,λx hx=>by omega⟩ ?_ ?_
 .rintro bs x cs _ hW ⟨l1,l2,v4,rfl,hx⟩
  have bx:=hb x (by rw[hW];simp);have lx:=Md (hx x (by simp));have ie:=zmE bx.2.2.1 bx.2.2.2;have px:∀y∈cs,pO x y:=by
   rw[hW]at hp;have:=(Ó.mp hp).2.1;exact(Ï.mp this).1
  have ct:jz [ľ (x.a:Int),.int (x.b:Int),cA x.e] Ž (ž 2)=[.int (x.a:Int),.int (x.b:Int)]:=rfl;simp![Wy.d,Qw,lx,ie,ct,show((0:Int)<=(x.a:Int))=True from eq_true (by omega),if_true,show((x.a:Int) < (x.b:Int))=True from eq_true (by omega),decide_true,show((x.b:Int) < (D0:Int))=True from eq_true (by omega)];exact⟨_,_,_,rfl,λy hy=>by have:=px y hy;unfold pO at this;omega⟩
 .rintro _ ⟨l1,l2,v4,rfl,hx⟩
  simp!
end K48
open PySem Internal
namespace K48
open PySem Internal
def zDJ{xs ys:Qa D}(h:xs.length+ys.length<=16777216):FV (.l xs) (.l ys)=ž (.l<|xs++ys):=by
 show(if xs.length+ys.length<=Ĕ then _ else _)=_;rw[a6P (by rw[a2m];exact h)]
def pd(p:Pq Rat):D:=.dict (cB fR p)
def eW(n:Nat)(ps:Qa (Pq Rat))(j:Nat)(g:Qa Int->Rat)(w:Wy):Rat:=if w.b=j then aJ (ps.getD w.a []) (Ev n w.e g)else 0
structure WQ (n m:Nat) (h:Nat->Nat) (bs:Qa Wy) (ps:Qa (Pq Rat)):Prop where
 ln:ps.length=m+1
 pz:∀j p,ps[j]?=ž p->PZ n (17 * bs.length) (h j) p
 eq:∀j p,ps[j]?=ž p->∀g,aJ p g=(if j=0 then g (zs n)else 0)+(bs.map<|eW n ps j g).sum
structure Wv (n m:Nat) (h:Nat->Nat) (A:Qa Wy):Prop where
 en:∀w∈A,EO n w.e/\w.e.1≠0
 lt:∀w∈A,w.a < w.b/\w.b<=m
 up:A.Pairwise pO
 w:∀w∈A,h w.a+we w.e<=h w.b
 l:∀d,h d<=4
 ln:A.length<=174
def Li{ps:Qa (Pq Rat)}{p:Pq Rat}(h:ps[j]?=ž p):cw (ps.map pd) (j:Int)=ž (pd p):=by
 have hl:=(qk.mp h).1;unfold cw fQ;rw[a6P (by omega),a6P (by rw[ē];omega),bd,ĝ,ı,h];rfl
def WQ.step{h:Nat->Nat}{A bs cs:Qa Wy}{w:Wy}{ps:Qa (Pq Rat)}{p q:Pq Rat}(n1:1<=n)(n3:n<=3)(H:Wv n m h A)(ea:A=bs++w::cs)(I:WQ n m h bs ps)(hp:ps[w.a]?=ž p)(hq:ps[w.b]?=ž q):
  WQ n m h (bs++[w]) (ps.set w.b<|rO 1 q<|pU n p w.e):=by
 have hw:w∈A:=by rw[ea];simp
 have(l1,l2):=H.lt w hw;have he:=(H.en w hw).1;have hh:=H.w w hw;have h4:=H.l w.b;have ln:=I.ln;have pp:=I.pz _ _ hp;have pq:=I.pz _ _ hq;have hl:w.b < ps.length:=by omega
 have pr:=pp.S2 n1 n3 (by omega) he;have nw:=(pq.up (qe _) (by omega:17 * bs.length<=17 * bs.length+11)).add (pr.up (a':=h w.b) (by omega)<|qe _) n1 n3 (by omega) (.inl rfl:(1:Int)=1\/(1:Int)=-1);have bef:∀v∈bs++[w],v.a≠w.b:=λv hv z=>by
  have up:=H.up;rw[ea]at up;rcases Â.mp hv with hv|hv
  .have:=(Ó.mp up).2.2 v hv w qo
   unfold pO at this;omega
  .cases qp.mp hv
   omega
 have sm:∀(j:Nat) (g:Qa Int->Rat),((bs++[w]).map<|eW n (ps.set w.b<|rO 1 q<|pU n p w.e) j g).sum=(bs.map<|eW n ps j g).sum+(if w.b=j then aJ p (Ev n w.e g)else 0):=λj g=>by
  rw[a1U (g:=eW n ps j g) λv hv=>by
   unfold eW;rw[qA,qA,qB<|Ľ<|bef v hv],ğ,G6,ę,Ů,ĸ,a2y,ů]
  unfold eW;rw[qA (i:=w.a),hp,a2t]
 refine⟨by rw[Ĺ];exact ln,λj r hr=>?_,λj r hr g=>?_⟩
 .rw[qr,ŏ]
  by_cases c:w.b=j
  .subst c
   rw[ń hl]at hr;cases hr;exact nw.up (qe _) (by omega)
  .rw[qB c]at hr
   exact(I.pz j r hr).up (qe _) (by omega)
 .rw[sm]
  by_cases c:w.b=j
  .subst c
   rw[ń hl]at hr;cases hr;rw[Y1 pq.pg.nd,X3 pp.pg,I.eq _ _ hq,a6P rfl];rw[show((1:Int):Rat)=1 from rfl];grind
  .rw[qB c]at hr
   rw[a6Q c,ů];exact I.eq j r hr g
def znU{ns:Qa Str}{A:Qa Wy}{Q:U×Qa U->Prop}(n1:1<=ns.length)(n3:ns.length<=3)(m1:1<=m)(m6:m<=100)(h:Wv ns.length m hp A)
   (k:∀ps p,WQ ns.length m hp A ps->ps[m]?=ž p->Q (.d<|pd p,[.d<|mn ns (m+1) A])):Wo (y0 [.d<|mn ns (m+1) A]) Q:=by
 have em1:((m+1:Nat):Int) - 1=(m:Int):=by omega
 have pn:=Rc (n:=ns.length) (f:=1) n3;have ln:=h.ln;rw[show fR 1=.tuple [.int 1,.int 1] from rfl]at pn;simp![y0,R5,pn,em1,ı];refine yn (g:=λc:Nat=>ľ<|0+(c:Int)) (as:=ħ m) (e:=λ_=>pd []) (by rw[Χ];omega) (λc hc ys=>?_) ?_
 .simp!
  rfl
 .have ct:=zDJ (xs:=[a4n<|cB fR<|mq ns.length 1]) (ys:=(ħ m).map λ_=>pd []) (by rw[ē,Χ];show 1+m<=_;omega)
  rw[show [a4n<|cB fR<|mq ns.length 1]++((ħ m).map λ_=>pd [])=(mq ns.length 1::(ħ m).map λ_=>[]).map pd by rw[ę,ĳ];rfl]at ct;simp![ct];refine k9 (λbs cs ρ=>E5 λ(ps:Qa (Pq Rat)) (v5 v6 v7 v8:Qb U)=>ρ=[ž<|U.d<|.tuple [.tuple<|ns.map .str,.int ((m+1:Nat):Int),.tuple<|A.map Wy.d],ž<|.d<|.tuple<|ns.map .str,ž<|.d<|.int ((m+1:Nat):Int),ž<|.d<|.tuple<|A.map Wy.d,ž<|.l<|ps.map pd,v5,v6,v7,v8]/\WQ ns.length m hp bs ps) ⟨mq ns.length 1::(ħ m).map λ_=>[],_,_,_,_,rfl,?_⟩ ?_ ?_
  .refine⟨by simp,λj p hp=>?_,λj p hp g=>?_⟩
   .cases j with
    |zero=>
     cases(show ž _=ž p from hp);exact X4.up (À _)<|qe _
    |succ j=>
     rw[Ν,ĝ]at hp;have(_,_,rfl):=qq.mp hp;exact PZ.nil
   .cases j with
    |zero=>
     cases(show ž _=ž p from hp);rw[Y2,a6P rfl];exact(ů _).symm
    |succ j=>
     rw[Ν,ĝ]at hp;have(_,_,rfl):=qq.mp hp;rw[a6Q (by omega),eQ,Ů,a2y,ů]
  .rintro bs w cs _ ea ⟨ps,v5,v6,v7,v8,rfl,I⟩
   have hw:w∈A:=by rw[ea];simp
   have(l1,l2):=h.lt w hw;have he:=(h.en w hw).1;have pl:=I.ln;have hh:=h.w w hw;have h4:=h.l w.b;have lb:bs.length+1<=174:=by have:=congrArg a0L ea;rw[qr,qt]at this;omega
   have Ew:ps[w.a]?=ž ps[w.a]:=ql (by omega);have hq:ps[w.b]?=ž ps[w.b]:=ql (by omega);generalize ps[w.a]=p at Ew;generalize ps[w.b]=q at hq;have st:=I.step n1 n3 h ea Ew hq;have pp:=I.pz _ _ Ew;have pq:=I.pz _ _ hq;have ewd:w.d=.tuple [.int (w.a:Int),.int (w.b:Int),cA w.e]:=rfl;have epo:=QY n1 n3 he.lt;have epd:∀r:Pq Rat,pd r=.dict (cB fR r):=λ_=>rfl;simp![ewd,Li Ew,epo];refine zBa n1 n3 rfl uc pp (by omega) (by omega) he λu2=>?_;have ad:=zBb (s:=1) (u1:=.d (pd q)) (u2:=.t (bg fR<|pU ns.length p w.e)) n1 n3 (.inl rfl) uc (.inl rfl) (pq.up (qe _) (by omega:_<=17 * bs.length+11)) ((pp.S2 n1 n3 (by omega) he).up (by omega)<|qe _) (by omega) (by omega);have ix:fQ ps.length (w.b:Int)=ž w.b:=by
    unfold fQ;rw[a6P (by omega),a6P (by omega),ı]
   have ms:(ps.map pd).set w.b (.dict<|cB fR<|rO 1 q<|pU ns.length p w.e)=(ps.set w.b<|rO 1 q<|pU ns.length p w.e).map pd:=List.map_set.symm;simp![Li hq,ad,ix,ms];exact⟨_,_,_,_,_,rfl,st⟩
  .rintro _ ⟨ps,v5,v6,v7,v8,rfl,I⟩
   have pl:=I.ln;have sZ:ps[m]?=ž ps[m]:=ql (by omega);generalize ps[m]=p at sZ;have la:cw (ps.map pd) (-1)=ž (pd p):=by
    unfold cw fQ;rw[a6Q (by decide),a6P (by rw[ē];omega),bd,ē,show -1+((ps.length:Nat):Int)=(m:Int) by omega,ĝ,ı,sZ];rfl
   simp![la];exact k ps p I sZ
def Zr{xs ys:Qa Rat}(h:xs.Perm ys):xs.sum=ys.sum:=by
 induction h with
 |nil=>rfl
 |cons x _ ih=>rw[ĸ,ĸ,ih]
 |swap x y l=>
  rw[ĸ,ĸ,ĸ,ĸ];grind
 |trans _ _ a b=>exact a.trans b
def zBf{p:Pq Rat}{e:Et}(h:Ln n p)(g:Qa Int->Rat):aJ p (λk=>aJ (dC n e) λf=>g<|aT k f)=aJ p (Ev n e g):=oY λt ht=>by
 rw[wB,yB<|h t ht];rfl
def Np{V:Vs}:∀{W:Qa Wy},sE V j g (W.map<|ew n)=((w4 W).map λx=>eS V j g<|ew n x).sum
 |[]=>rfl
 |x::W=>by
  rw[ę,Nt,Np (W:=W)];unfold w4
  by_cases c:x.e.1=0
  .rw[List.filter_cons_of_neg (by simpa using c)]
   have e0:eS V j g (ew n x)=0:=by
    unfold eS ew;dsimp only;split
    .rw[show dC n x.e=[] from a6P c]
     exact OK _
    .rfl
   rw[e0,a1l]
  .rw[List.filter_cons_of_pos (by simpa using c),ę,ĸ]
def zq8{h:Nat->Nat}{W:Qa Wy}{V:Vs}{ps:Qa (Pq Rat)}(H:Wv n m h (ji<|w4 W))(I:WQ n m h (ji<|w4 W) ps)(G:GV n (W.map<|ew n) V):∀(j:Nat) (p:Pq Rat),ps[j]?=ž p->∀g,aJ p g=aJ (V j) g:=by
 intro j
 induction j using Nat.strongRecOn with
 |_ j ih=>
  intro p hp g;rw[I.eq j p hp,G.eq,Np,<-Zr ((wK (W:=w4 W)).map _)];congr 2;refine É λw hw=>?_;have(l1,l2):=H.lt w hw;have ln:=I.ln;unfold eW eS ew;dsimp only;split
  .rename_i c
   have e:=ql (l:=ps) (i:=w.a) (by omega);rw[zBf<|G.ky _,qA,e,a2t,ih w.a (by omega) _ e]
  .rfl
end K48
open PySem Internal
namespace K48
open PySem Internal
abbrev Od:=Qa Int×Int
def oD(o:Od):D:=.tuple [bJ o.1,.int o.2]
noncomputable def B7(k p:Nat)(σ:Qa Int):Qa Int:=σ.take p++[(k:Int)]++σ.drop p
def jh(k:Nat)(o:Od):Qa Od:=(ħ<|k+1).map λp=>(B7 k p o.1,o.2 * (1 - 2 * (((k:Int) - (p:Int)) % 2)))
def fB:Nat->Qa Od
 |0=>[([],1)]
 |k+1=>(fB k).flatMap<|jh k
def Hv{k:Nat}:∀o∈fB k,o.1.length=k/\(o.2=1\/o.2=-1):=by
 induction k with
 |zero=>
  intro o ho;cases qp.mp ho;exact⟨rfl,.inl rfl⟩
 |succ k ih=>
  intro o ho;have(u,hu,ho):=ý.mp ho;have(p,hp,rfl):=Ã.mp ho;have(h1,h2):=ih u hu;have hp:=Í.mp hp;refine⟨?_,?_⟩
  .unfold B7
   simp;omega
  .dsimp only
   rcases h2 with h|h<;>rw[h]<;>omega
def zDj{σ:Qa Int}{p:Nat}:nj (.d<|bJ σ) Ž (ž (p:Int))=ž (.d<|bJ<|σ.take p):=by
 show ž (U.d<|.tuple<|jz (σ.map ľ) Ž<|some (p:Int))=_;rw[Gk (by omega),ı,<-a0T];rfl
def XZ{σ:Qa Int}{p:Nat}:nj (.d<|bJ σ) (ž (p:Int)) Ž=ž (.d<|bJ<|σ.drop p):=by
 show ž (U.d<|.tuple<|jz (σ.map ľ) (ž (p:Int)) Ž)=_;rw[HH (by omega),ı,<-a4b];rfl
def XY{k:Nat}(h:k<=3):(fB k).length<=6:=by
 rcases(by omega:k=0\/k=1\/k=2\/k=3)with rfl|rfl|rfl|rfl<;>decide
def Nn{k:Nat}:∀bs:Qa Od,(bs.flatMap<|jh k).length=bs.length * (k+1)
 |[]=>by simp
 |b::bs=>by
  rw[a2z,qr,Nn bs,qt,Ο,a0S,a2K];unfold jh;simp
def zq9(h1:1<=m)(h4:m<=4):DN [.d<|.int (m:Int)]=ž (.d<|.list<|(fB m).map oD,[.d<|.int (m:Int)]):=by
 refine zY ?_;simp![DN,Rm];rw[ı];refine vI (λi ρ=>E7 λ(u1:U) (v2 v3 v4 v5 v6 v7:Qb U)=>ρ=[ž<|U.d<|.int (m:Int),ž u1,v2,v3,v4,v5,v6,v7]/\u1.fz=ž (.list<|(fB i).map oD)/\(1<=i->u1=.d (.list<|(fB i).map oD))) ⟨_,_,_,_,_,_,_,rfl,rfl,λz=>by omega⟩ ?_ ?_
 .rintro k _ hk ⟨u1,v2,v3,v4,v5,v6,v7,rfl,hu,_⟩
  have ek:(0:Int)+(k:Nat)=(k:Int):=by omega
  rw[ek];simp![hu];refine k9 (λbs cs ρ=>E4 λ(v4 v5 v6 v7:Qb U)=>ρ=[ž<|U.d<|.int (m:Int),ž<|.d<|.list<|(fB k).map oD,ž<|.d<|.int (k:Int),ž<|.l<|(bs.flatMap<|jh k).map oD,v4,v5,v6,v7]) ⟨_,_,_,_,rfl⟩ ?_ ?_
  .rintro bs o cs _ e ⟨v4,v5,v6,v7,rfl⟩
   have ho:o∈fB k:=by rw[e];simp
   have(hl,hs):=Hv o ho;have lb:bs.length+cs.length+1=(fB k).length:=by rw[e,qr,qt];omega
   have lo6:=XY (k:=k) (by omega);have fl:(bs.flatMap<|jh k).length<=6 * 4:=by rw[Nn];exact ð (by omega) (by omega)
   have ed:oD o=.tuple [bJ o.1,.int o.2]:=rfl;have et:((k:Int)+1).toNat=k+1:=by omega
   simp![ed];rw[et];refine vI (λj ρ=>∃(v6 v7:Qb U),ρ=[ž<|U.d<|.int (m:Int),ž<|.d<|.list<|(fB k).map oD,ž<|.d<|.int (k:Int),ž<|.l<|(bs.flatMap (jh k)++(jh k o).take j).map oD,ž<|.d<|bJ o.1,ž<|.d<|.int o.2,v6,v7]) ⟨v6,v7,by rw[List.take_zero,ŕ]⟩ ?_ ?_
   .rintro p _ hp ⟨v6,v7,rfl⟩
    have ep:(0:Int)+(p:Nat)=(p:Int):=by omega
    rw[ep];have l1:(o.1.take p).length<=k:=by rw[ţ];omega
    have l2:(o.1.drop p).length<=k:=by rw[ŗ];omega
    have c1:=So (a:=o.1.take p) (b:=[(k:Int)]) (by show _+1<=1000;omega);have c2:=So (a:=o.1.take p++[(k:Int)]) (b:=o.1.drop p) (by rw[qr];show _+1+_<=1000;omega);have tk:(jh k o).take (p+1)=(jh k o).take p++[(B7 k p o.1,o.2 * (1 - 2 * (((k:Int) - (p:Int)) % 2)))]:=by
     unfold jh;rw[<-a0T,<-a0T,a6K,a6K,a3r (by omega),a3r (by omega),a6L,ğ];rfl
    simp![zDj,XZ,zAL,c1,c2];rw[tk,<-İ];simp only[ğ];exact⟨_,_,rfl⟩
   .rintro _ ⟨v6,v7,rfl⟩
    simp!;have tk2:(jh k o).take (k+1)=jh k o:=ŧ (by unfold jh;simp);have fm:(bs++[o]).flatMap (jh k)=bs.flatMap (jh k)++jh k o:=by simp
    rw[tk2,fm];exact⟨_,_,_,_,rfl⟩
  .rintro _ ⟨v4,v5,v6,v7,rfl⟩
   simp!;exact⟨_,_,_,_,_,_,_,rfl,rfl,rfl⟩
 .rintro _ ⟨u1,v2,v3,v4,v5,v6,v7,rfl,hu,h⟩
  rw[h h1];simp!
def NN(n:Nat):Qa (Qa Et×Int)->(Qa Int->Rat)->Qa Int->Rat
 |[],g,k=>g k
 |x::xs,g,k=>(x.1.getD x.2.toNat (0,Ž)).1 * NN n xs g (sh n (x.1.getD x.2.toNat (0,Ž)).2 k)
def XX(n:Nat)(xs:Qa (Qa Et×Int))(x:Qa Et×Int)(g:Qa Int->Rat):∀k,NN n (xs++[x]) g k=NN n xs (λa=>(x.1.getD x.2.toNat (0,Ž)).1 * g (sh n (x.1.getD x.2.toNat (0,Ž)).2 a)) k:=by
 induction xs with
 |nil=>intro k;rfl
 |cons y xs ih=>
  intro k;show _ * NN n (xs++[x]) g _=_ * NN n xs _ _;rw[ih]
def Zq{p:Pq Rat}{e:Et}(hk:∀t∈p,t.1.length=n)(g:Qa Int->Rat):aJ (nz<|d9 []<|dz p<|dC n e) g=aJ p λa=>e.1 * g (sh n e.2 a):=by
 unfold nz;rw[Cs,CV _ _ pC,eQ,a1l,yM];refine oY λt ht=>?_;rw[wB,yB<|hk t ht]
def OH{k:Nat}:∀o∈fB k,∀c∈o.1,0<=c/\c < (k:Int):=by
 induction k with
 |zero=>
  intro o ho;cases qp.mp ho;intro c hc;cases hc
 |succ k ih=>
  intro o ho c hc;have(u,hu,ho):=ý.mp ho;have(p,hp,rfl):=Ã.mp ho;unfold B7 at hc;rcases Â.mp hc with hc|hc
  .rcases Â.mp hc with hc|hc
   .have:=ih u hu c (a4W hc)
    omega
   .rw[qp.mp hc]
    omega
  .have:=ih u hu c (a4X hc)
   omega
def zBg{r:Qa Et}{c:Int}(h0:0<=c)(h1:c < (r.length:Int)):aS (.d<|e9 r) (.d<|.int c)=ž (.d<|cA<|r.getD c.toNat (0,Ž)):=by
 have hk:c.toNat < r.length:=by omega
 show(cw (r.map cA) c).map U.d=_;have e:cw (r.map cA) c=ž (cA r[c.toNat]):=by
  unfold cw fQ;rw[a6P h0,a6P (by rw[ē];exact h1),bd,ĝ,ql hk];rfl
 rw[e,qA,ql hk];rfl
def zBh{e:Et}(h:EO n e):PG n 0 1 (dC n e)/\(dC n e).length<=1:=⟨(Gy h).pg.up FJ<|qe _,Nv⟩
def FR:mq n 1=[(zs n,1)]:=a6Q (by decide)
def D9{x:Nat}(h:x < 4000):2^x < 2^4000:=a5r (by decide) h
def Ea{x:Nat}(h:x<=8):12^x < 2^4000:=Æ (æ (by decide) h) (qi (by decide:12^8 < 2^32)<|æ (by decide) (by decide))
def zkV{ns:Qa Str}{t:Qa (Qa Et)}{Q:U×Qa U->Prop}(n1:1<=ns.length)(n3:ns.length<=3)(hT:TO ns.length t)
  (k:∀p e,PG ns.length e t.length p->e<=400->(∀u∈p,u.2≠0)->(∀g,aJ p g=((fB t.length).map λo=>(o.2:Rat) * NN ns.length (t.zip o.1) g (zs ns.length)).sum)->Q (.t<|bg fR p,[.d<|iD ns t])):Wo (y9 [.d<|iD ns t]) Q:=by
 have h1:=hT.l1;have h4:=hT.l4;have oo:=zq9 h1 h4;have pn:=Rc (n:=ns.length) (f:=1) n3;unfold iD;simp![y9,Se,oo,pn];refine k9 (λbs cs ρ=>E6 λ(p:Pq Rat) (v4 v5 v6 v7 v8:Qb U)=>ρ=[ž<|U.d<|į [į<|a0v Ņ ns,į<|a0v e9 t],ž<|U.d<|į<|a0v Ņ ns,ž<|U.d<|į<|a0v e9 t,ž<|.t<|bg fR p,v4,v5,v6,v7,v8]/\PG ns.length (50+6 * bs.length) t.length p/\(∀u∈p,u.2≠0)/\∀g,aJ p g=(bs.map λo=>(o.2:Rat) * NN ns.length (t.zip o.1) g (zs ns.length)).sum) ⟨[],_,_,_,_,_,rfl,⟨a1B,λs hs=>(by cases hs),λs hs=>(by cases hs)⟩,(λs hs=>by cases hs),λg=>rfl⟩ ?_ ?_
 .rintro bs o cs _ e ⟨p,v4,v5,v6,v7,v8,rfl,hp,TB,dq⟩
  have ho:o∈fB t.length:=by rw[e];simp
  have(hl,hs):=Hv o ho;have lo:bs.length+cs.length+1<=24:=by
   have:(fB t.length).length<=24:=by rcases(by omega:t.length=1\/t.length=2\/t.length=3\/t.length=4)with h|h|h|h<;>rw[h]<;>decide
   rw[e,qr,qt]at this;omega
  have ed:oD o=.tuple [bJ o.1,.int o.2]:=rfl;have zp:=Hx (f:=e9) (as:=t) (ks:=o.1) hl.symm;simp![ed,pn,fR1,zp];refine k9 (λds es ρ=>E4 λ(q:Pq Rat) (u6:U) (v7 v8:Qb U)=>ρ=[ž<|U.d<|į [į<|a0v Ņ ns,į<|a0v e9 t],ž<|U.d<|į<|a0v Ņ ns,ž<|U.d<|į<|a0v e9 t,ž<|.t<|bg fR p,ž<|.d<|bJ o.1,ž<|.d<|.int o.2,ž u6,v7,v8]/\u6.fz=ž (.dict<|cB fR q)/\PG ns.length (11 * ds.length) ds.length q/\q.length<=1/\∀g,aJ q g=NN ns.length ds g (zs ns.length)) ⟨mq ns.length 1,_,_,_,rfl,uc,?_,?_,λg=>?_⟩ ?_ ?_
  .rw[FR]
   refine⟨Ee,λs hs=>?_,λs hs=>?_⟩
   .cases qp.mp hs
    refine⟨wx _,λk hk=>by rw[Gz k hk];decide,?_⟩;show(zs ns.length).sum<=_;unfold zs;simp
   .cases qp.mp hs
    exact Bd.one
  .rw[FR]
   exact qe _
  .rw[FR,zC,eQ]
   show 1 * g (zs ns.length)+0=g (zs ns.length);grind
  .rintro ds x es _ e2 ⟨q,u6,v7,v8,rfl,hu,hq,i5,uL⟩
   have hx:x∈t.zip o.1:=by rw[e2];simp
   have(xr,xc):=x;have(Ts,hx2):=a1o hx;have rl:=hT.sq xr Ts;have cr:=OH o ho xc hx2;have ld:ds.length+es.length+1=t.length:=by
    have:=congrArg a0L e2;rw[a3e,qr,qt,hl,a2H]at this;omega
   have ix:=zBg (r:=xr) (c:=xc) cr.1 (by rw[rl];exact cr.2);have TQ:EO ns.length (xr.getD xc.toNat (0,Ž)):=by
    have hk:xc.toNat < xr.length:=by omega
    rw[qA,ql hk];exact hT.en xr Ts _<|Ö hk
   generalize iQ:xr.getD xc.toNat (0,Ž)=en at *;have(eP,eL):=zBh TQ;have ep:=QY (e:=en) n1 n3 TQ.lt;have pm:=hq.mul eP n1 n3 (by omega);simp![ix,ep];refine Qx hu uc hq.nd eP.nd hq.bd eP.bd (λs hs=>(hq.ky s hs).ln) (λs hs=>(eP.ky s hs).ln) (by omega) (ď (by decide)) (ď (by decide)) (by rw[<-Ū];exact Ea (by omega)) (Ea (by omega)) (Ea (by decide)) (D9 (by omega)) (D9 (by decide)) ?_ ?_ ?_ (by omega) (by omega) λqS h2 _=>?_
   .rw[<-Ū]
    refine Æ (Ê _<|ð i5 eL) ?_;simp only[a0S];exact D9 (by omega)
   .rw[<-Ū]
    exact ď (by decide)
   .exact Æ (ð i5 eL) (by decide)
   .simp!
    refine⟨_,_,_,_,rfl,uc,pm.up (qe _) (by omega),?_,λg=>?_⟩
    .refine qx (Ĉ _ _) (qx (yD _ _) ?_)
     rw[Du,ũ,ř];exact ð i5 eL
    .rw[Zq λs hs=>(hq.ky s hs).ln,uL,XX]
     dsimp only;rw[iQ]
  .rintro _ ⟨q,u6,v7,v8,rfl,hu,hq,i5,uL⟩
   have lz:(t.zip o.1).length=t.length:=by rw[a3e,hl,a2H]
   rw[lz]at hq;have m7:=hq.up (qe _) (by omega:11 * t.length<=50+6 * bs.length);have l1:=hp.len n1 n3 h4;have pa:=Qy (u1:=.t (bg fR p)) (u2:=u6) (s:=o.2) (LG<|hp.hash n1 n3 h4) hu hs hp.nd m7.nd hp.bd m7.bd (ď (by decide)) (Ea (by omega)) (by
    refine Æ (ÿ (Ê _ i5) _) ?_;rw[a0S,<-Nat.two_mul,<-Nat.pow_succ'];exact D9 (by omega)) (by omega) (by omega)
   have pp:=hp.add m7 n1 n3 h4 hs;simp![pa];refine⟨_,_,_,_,_,_,rfl,pp.up (qe _) (by omega),λu hu=>?_,λg=>?_⟩
   .have:=(é.mp hu).2
    simpa using this
   .unfold nz
    rw[Cs,CV _ _ hp.nd,dq,show fP o.2 q=q.map λt=>(t.1,(o.2:Rat) * t.2) from rfl,Hw,uL,ğ,G6,ę,Ů,ĸ,a2y,ů]
 .rintro _ ⟨p,v4,v5,v6,v7,v8,rfl,hp,TB,dq⟩
  have l24:(fB t.length).length<=24:=by rcases(by omega:t.length=1\/t.length=2\/t.length=3\/t.length=4)with h|h|h|h<;>rw[h]<;>decide
  have fin:=k p _ hp (by omega) TB dq;simp!;exact fin
end K48
open PySem Internal
namespace K48
open PySem Internal
def zgE{x y:Int}(hx:0<=x)(hy:0<=y):DI [.d<|.int x,.d<|.int y]=ž (.d<|.int (ō x y:Nat),[.d<|.int x,.d<|.int y]):=by
 refine zY ?_;simp![DI,R1];refine O2 (λk ρ=>∃a b:Int,ρ=[ž<|.d<|.int a,ž<|.d<|.int b]/\0<=a/\0<=b/\b.toNat=k/\ō a b=ō x y) _ ⟨x,y,rfl,hx,hy,rfl,rfl⟩ ?_;rintro k _ ⟨a,b,rfl,ha,hb,hk,hg⟩;simp!
 by_cases hz:b=0
 .subst hz
  have e:a=((ō x y:Nat):Int):=by rw[<-hg,a5Z];omega
  subst e;simp![bne_self_eq_false]
 .have jw:(b != 0)=ż:=by simp[hz]
  simp![jw];refine⟨(a % b).toNat,?_,_,_,rfl,by omega,ó _ hz,rfl,?_⟩
  .have:=ú a (show 0 < b by omega)
   have:=ó a hz;omega
  .rw[OT a b ha (by omega)]
   exact hg
def HY{i:Int}:uf [.d<|.int i]=ž (.d<|.bool ż,[.d<|.int i]):=by
 refine zY ?_;simp![uf,QK]
def HU{m:Int}(h:(i:Int) < m):wQ [.d<|.int (i:Int),.d<|.int m]=ž (.d<|.bool ż,[.d<|.int (i:Int),.d<|.int m]):=by
 refine zY ?_;have c:(0:Int)<=(i:Int):=by omega
 simp![wQ,P1,HY,c,h]
def Zp(a b:Int):ō (if a < 0 then -a else a) b=ō a b:=by
 split
 .exact a5v
 .rfl
def zi4{f:Rat}:DU [.d<|fR f]=ž (.d<|.bool ż,[.d<|fR f]):=by
 refine zY ?_;have c:=vD f;have cf:=zgE (x:=if f.num < 0 then -f.num else f.num) (y:=(f.den:Int)) (by split<;>omega) (by omega);rw[Zp,show ō f.num f.den=1 from f.reduced]at cf;simp![DU,RD,fR,HY,c,cf]
def znV{e:Et}(he:EO n e):yW [.d<|cA e,.d<|.int (n:Int)]=ž (.d<|.bool ż,[.d<|cA e,.d<|.int (n:Int)]):=by
 refine zY ?_;have(f,l):=e;have ed:cA (f,l)=.tuple [fR f,i4 l]:=rfl;have fo:=zi4 (f:=f);cases l with
 |none=>simp![yW,HW,ed,fo,i4,Lk]
 |some j=>
  have hj:=HU (i:=j) (m:=(n:Int)) (by have:=he.lt j rfl;omega);simp![yW,HW,ed,fo,i4,Lj,hj]
def Zo{D0:Nat}{x:Wy}(h1:x.a < x.b)(h2:x.b < D0)(he:EO n x.e)(h0:x.e.1≠0):Dq [.d x.d,.d<|.int (D0:Int),.d<|.int (n:Int)]=ž (.d<|.bool ż,[.d x.d,.d<|.int (D0:Int),.d<|.int (n:Int)]):=by
 refine zY ?_;have pa:=HU (i:=x.a) (m:=(D0:Int)) (by omega);have pb:=HU (i:=x.b) (m:=(D0:Int)) (by omega);have ie:=znV he;have lJ:aS (.d<|cA x.e) (.d<|.int 0)=ž (.d<|fR x.e.1):=rfl;have lt:((x.a:Int)>=(x.b:Int))=False:=eq_false (by omega);have ng:(vF ż [0,1]<|.d<|fR x.e.1)=ž (.d<|.bool ż):=by rw[xI,a6S h0];rfl
 simp![Dq,Ox,Wy.d,pa,pb,ie,lJ,lt,if_false,ng]
def zmG{ls:Qa Str}{D0:Nat}{W:Qa Wy}(n3:ls.length<=3)(ha:∀z∈ls,cM 10 z)(hl:jI ls=ż)(h2:2<=D0)(hb:∀x∈W,x.a < x.b/\x.b < D0/\EO ls.length x.e/\x.e.1≠0)(hp:W.Pairwise pO):
  yV [.d<|mn ls D0 W]=ž (.inl (.d<|.bool ż,[.d<|mn ls D0 W])):=by
 refine zY ?_;have ll:=zg6 (n:=10) (ns:=ls) (by decide) (by omega) ha;rw[a6P hl]at ll;have d2:((D0:Int) < 2)=False:=eq_false (by omega);simp![yV,P9,ll,HY,d2,if_false];refine wz (λi ρ=>E4 λ(l1 l2:Int) (v5 v6:Qb U)=>ρ=[ž<|U.d<|mn ls D0 W,ž<|.d<|.tuple<|ls.map .str,ž<|.d<|.int (D0:Int),ž<|.d<|.tuple<|W.map Wy.d,ž<|.d<|.tuple [.int l1,.int l2],v5,v6]/\∀x∈W.drop i,l1 < (x.a:Int)\/(l1=x.a/\l2 < x.b)) ⟨-1,-1,Ž,Ž,rfl,λx hx=>by omega⟩ ?_ ?_
 .rintro i d _ hd ⟨l1,l2,v5,v6,rfl,hx⟩
  have(y,ey,rfl):=HZ hd;rw[ĝ]at ey;have(x,ex,rfl):=qq.mp ey;have dr:W.drop i=x::W.drop (i+1):=by
   have(hi,e):=qk.mp ex;rw[ŋ hi,e]
  have bx:=hb x (Ì ex);rw[dr]at hx;have lx:=Md (hx x qo);have iw:=Zo (D0:=D0) bx.1 bx.2.1 bx.2.2.1 bx.2.2.2;have ct:jz [ľ (x.a:Int),.int (x.b:Int),cA x.e] Ž (ž 2)=[.int (x.a:Int),.int (x.b:Int)]:=rfl;have pr:=List.Pairwise.sublist (List.drop_sublist i W) hp;rw[dr]at pr;have px:=(Ï.mp pr).1;have xd:x.d=.tuple [.int (x.a:Int),.int (x.b:Int),cA x.e]:=rfl;rw[xd]at iw ⊢;simp![iw,lx,ct];exact⟨_,_,_,_,rfl,λy hy=>by have:=px y hy;unfold pO at this;omega⟩
 .rintro _ ⟨l1,l2,v5,v6,rfl,hx⟩
  simp!
end K48
open PySem Internal
namespace K48
open PySem Internal
abbrev St:=Nat×Nat
noncomputable def sk(s:St):Qa Int:=[(s.1:Int),(s.2:Int)]
def vT{s s':St}(h:sk s=sk s'):s=s':=by
 unfold sk at h;simp only[Ϸ,and_true]at h;exact Prod.ext (by omega) (by omega)
noncomputable def En(t:Qa (Qa Et))(i j:Nat):Et:=(t.getD i []).getD j (0,Ž)
noncomputable def lH(e:Et):Et:=(-e.1,e.2)
def two(t:Qa (Qa Et))(s:St)(p:Nat):Qa (St×Et):=[((s.1,p),lH<|En t s.2 p),((p,p),En t s.2 s.1)]
def gP(t:Qa (Qa Et))(s:St)(i:Nat):Qa (St×Et):=(ħ i).flatMap λj=>two t s<|s.1+1+j
def kE(l:Qa (St×α)):Pq α:=l.map λx=>(sk x.1,x.2)
def Dp{t:Qa (Qa Et)}{s:St}:gP t s (i+1)=gP t s i++two t s (s.1+1+i):=by
 unfold gP;rw[a6L,a1W];simp
def CP{t:Qa (Qa Et)}{s:St}:∀i,(gP t s i).length=2 * i
 |0=>rfl
 |i+1=>by
  rw[Dp,qr,CP i];show 2 * i+2=_;omega
def G5{t:Qa (Qa Et)}{s:St}{x:St×Et}(h:x∈gP t s i):∃p,s.1 < p/\p < s.1+1+i/\(x=((s.1,p),lH<|En t s.2 p)\/x=((p,p),En t s.2 s.1)):=by
 unfold gP two at h;have(j,hj,hx):=ý.mp h;have:=Í.mp hj;simp only[qu,ķ,or_false]at hx;exact⟨s.1+1+j,by omega,by omega,hx⟩
def Hu{p:Pq α}{k:Qa Int}{x:α}(h:∀u∈p,u.1≠k):eM p k x=p++[(k,x)]:=by
 unfold eM;rw[a6Q];intro z;have(u,hu,e):=î.mp z;exact h u hu<|a6T e
def Mc{a b:Qa (St×α)}:kE (a++b)=kE a++kE b:=ğ
def zBi(f:Rat):į [.int (-f.num),.int (f.den:Int)]=fR (-f):=by
 unfold fR;rw[Rat.neg_num,Rat.neg_den]
abbrev FQ(t:Qa (Qa Et)):D:=.tuple (t.map e9)
def Nl{t:Qa (Qa Et)}(hT:∀r∈t,r.length=m)(h:i < t.length):∃r,cw (t.map e9) (i:Int)=ž (e9 r)/\r∈t/\t.getD i []=r:=by
 refine⟨t[i],Dk ?_,Ö h,?_⟩
 .rw[ĝ,ql h]
  rfl
 .rw[qA,ql h]
  rfl
def G4{r:Qa Et}(h:j < r.length):cw (r.map cA) (j:Int)=ž (cA<|r.getD j (0,Ž)):=by
 refine Dk ?_;rw[ĝ,ql h,qA,ql h];rfl
def zi5{t:Qa (Qa Et)}{s:St}(hm:t.length=m)(m4:m<=4)(hT:∀r∈t,r.length=m)(h1:s.1<=s.2)(h2:s.2 < m):
  DC [.d<|FQ t,.d<|bJ<|sk s]=ž (.t<|bg cA<|kE<|gP t s<|m - 1 - s.1,[.d<|FQ t,.d<|bJ<|sk s]):=by
 refine zY ?_;have(r,ar,mr,er):=Nl (m:=m) hT (i:=s.2) (by omega);have lr:=hT r mr;have ks:bJ (sk s)=.tuple [.int (s.1:Int),.int (s.2:Int)]:=rfl;have lt:(t.map e9).length=m:=by rw[ē,hm]
 have en:(((m:Nat):Int) - ((s.1:Int)+1)).toNat=m - 1 - s.1:=by omega
 simp![DC,Q8,ks,lt];rw[en];refine wz (λi ρ=>i<=m - 1 - s.1/\E3 λ(v5 v6 v7:Qb U)=>ρ=[ž<|.d<|FQ t,ž<|.d<|.tuple [.int (s.1:Int),.int (s.2:Int)],ž<|.d<|.int (s.1:Int),ž<|.d<|.int (s.2:Int),ž<|.t<|bg cA<|kE<|gP t s i,v5,v6,v7]) ⟨À _,_,_,_,rfl⟩ ?_ ?_
 .rintro i d _ hd ⟨_,v5,v6,v7,rfl⟩
  have(hi,rfl):=Dw hd;rw[show(s.1:Int)+1+(i:Int)=((s.1+1+i:Nat):Int) by omega];have as:=Dp (t:=t) (s:=s) (i:=i);have lk:=CP (t:=t) (s:=s) i;have mem:=λx=>G5 (t:=t) (s:=s) (i:=i) (x:=x);generalize hp:s.1+1+i=p at *;generalize gP t s i=l at *;have a1:=G4 (r:=r) (j:=p) (by omega);have a2:=G4 (r:=r) (j:=s.1) (by omega);have e1:r.getD p (0,Ž)=En t s.2 p:=by unfold En;rw[er]
  have e2:r.getD s.1 (0,Ž)=En t s.2 s.1:=by unfold En;rw[er]
  rw[e1]at a1;rw[e2]at a2;unfold two at as;generalize En t s.2 p=e at *;generalize En t s.2 s.1=e' at *;have ed:cA e=.tuple [fR e.1,i4 e.2]:=rfl;have k1:į [.int (s.1:Int),.int (p:Int)]=bJ (sk (s.1,p)):=rfl;have k2:į [.int (p:Int),.int (p:Int)]=bJ (sk (p,p)):=rfl;have x1:į [.tuple [.int (-e.1.num),.int (e.1.den:Int)],i4 e.2]=cA (lH e):=by rw[zBi];rfl
  have n1:∀u∈kE l,u.1≠sk (s.1,p):=λu hu z=>by
   have(x,hx,rfl):=Ã.mp hu;have z:=vT z;obtain⟨q,q1,q2,rfl|rfl⟩:=mem x hx<;>simp only[Ų]at z<;>omega
  have n2:∀u∈kE l++[(sk (s.1,p),lH e)],u.1≠sk (p,p):=λu hu z=>by
   rcases Â.mp hu with hu|hu
   .have(x,hx,rfl):=Ã.mp hu
    have z:=vT z;obtain⟨q,q1,q2,rfl|rfl⟩:=mem x hx<;>simp only[Ų]at z<;>omega
   .cases qp.mp hu
    have z:=vT z;simp only[Ų]at z;omega
  have kl:(kE l).length=2 * i:=by unfold kE;rw[ē,lk]
  have p1:=tE (c:=cA) (p:=kE l) (k:=sk (s.1,p)) (x:=lH e) (by omega);have p2:=tE (c:=cA) (p:=kE l++[(sk (s.1,p),lH e)]) (k:=sk (p,p)) (x:=e') (by rw[qr,ŏ];omega);rw[Hu n1]at p1;rw[Hu n2]at p2;have ro:e9 r=.tuple (r.map cA):=rfl;have nn:∀x:Int,kP (.d<|.int x)=ž (.d<|.int (-x)):=λ_=>rfl;have fin:kE (gP t s<|i+1)=kE l++[(sk (s.1,p),lH e)]++[(sk (p,p),e')]:=by
   rw[as,Mc,İ];rfl
  simp![ar,ro,a1,a2,ed,fR,k1,k2];rw[x1];simp![p1,ar,ro,a2,k2,p2];exact⟨by omega,_,_,_,by rw[fin]⟩
 .rintro _ ⟨_,v5,v6,v7,rfl⟩
  rw[Dy];simp![ks]
end K48
open PySem Internal
namespace K48
open PySem Internal
section
variable{γ:Type}[ϑ α]
def Dn(xs ys:Qa α):bH (xs++ys)=bH xs+bH ys:=by
 induction xs with
 |nil=>
  show bH ys=0+bH ys;grind
 |cons x xs ih=>
  show x+bH (xs++ys)=x+bH xs+bH ys;rw[ih];grind
def HN:∀{xs:Qa β} {f:β->α},(∀x∈xs,f x=0)->bH (xs.map f)=0
 |[],_,_=>rfl
 |x::xs,f,h=>by
  show f x+bH (xs.map f)=0;rw[h x qo,HN λy hy=>h y<|qm _ hy];grind
def OG{xs:Qa β}{f g:β->α}:bH (xs.map λx=>f x+g x)=bH (xs.map f)+bH (xs.map g):=by
 induction xs with
 |nil=>
  show(0:α)=0+0;grind
 |cons x xs ih=>
  show f x+g x+bH (xs.map λx=>f x+g x)=f x+bH (xs.map f)+(g x+bH (xs.map g));rw[ih];grind
def Ht[DecidableEq β]{c:β->α}{y:β}:∀{xs:Qa β},xs.Nodup->y∈xs->bH (xs.map λx=>if x=y then c x else 0)=c y
 |[],_,h=>by cases h
 |x::xs,nd,h=>by
  have(n1,n2):=ā.mp nd;show(if x=y then c x else 0)+bH (xs.map λx=>if x=y then c x else 0)=c y
  by_cases e:x=y
  .subst e
   rw[a6P rfl,HN λz hz=>a6Q λq=>n1 (by rw[<-q];exact hz)];grind
  .rw[a6Q e,Ht n2<|(qu.mp h).resolve_left<|Ľ e]
   grind
def OF{As:Qa (St×β)}{f:β->α}{c:St->α}{S:Qa St}(nd:S.Nodup)(h:∀y∈As,y.1∈S):bH (S.map λs=>bH (As.map λy=>if y.1=s then f y.2 else 0) * c s)=bH (As.map λy=>f y.2 * c y.1):=by
 induction As with
 |nil=>
  exact HN λs _=>by
   show(0:α) * c s=0;grind
 |cons y As ih=>
  have ih:=ih λz hz=>h z<|qm _ hz;show bH (S.map λs=>((if y.1=s then f y.2 else 0)+bH (As.map λy=>if y.1=s then f y.2 else 0)) * c s)=f y.2 * c y.1+bH (As.map λy=>f y.2 * c y.1);rw[<-ih,<-Ht (c:=λs=>f y.2 * c s) nd (h y qo),<-OG];congr 1;refine É λs _=>?_
  by_cases e:y.1=s
  .subst e
   rw[a6P rfl,a6P rfl];grind
  .rw[a6Q e,a6Q<|Ľ e]
   grind
def qK{h w:Nat}:(h,w)∈fO m↔h<=w/\w < m:=by
 unfold fO;simp only[List.mem_flatMap,List.mem_range,a4r,List.mem_filter,decide_eq_true_eq,Ų];constructor
 .rintro⟨a,ha,b,⟨hb,A2⟩,rfl,rfl⟩
  exact⟨A2,hb⟩
 .rintro⟨h1,h2⟩
  exact⟨h,by omega,w,⟨h2,h1⟩,rfl,rfl⟩
def Mb(h:m<=4):(fO m).Nodup:=by
 rcases(by omega:m=0\/m=1\/m=2\/m=3\/m=4)with rfl|rfl|rfl|rfl|rfl<;>decide
end
def GV.add{a b:Nat}{E:Qa Ed}{V:Vs}{q:Pq Rat}(h:GV n E V)(hb:∀x∈E,x.1≠b)(ab:a≠b)(kq:Ln n q):GV n (E++[(a,b,q)]) (upd V b<|V b++dz (V a) q):=by
 refine⟨λd=>?_,λd g=>?_⟩
 .by_cases c:d=b
  .subst c
   rw[Gx];exact λt ht=>(Â.mp ht).elim (h.ky d t)<|LZ (h.ky a) kq t
  .rw[zw c]
   exact h.ky d
 .rw[zBc,Nt,L0,zBd hb]
  unfold eS;dsimp only
  by_cases c:d=b
  .subst c
   rw[Gx,a6P rfl,zw ab,yC,yM,h.eq];grind
  .rw[zw c,a6Q<|Ľ c,h.eq]
   grind
def vR{E:Qa Ed}{V:Vs}(h:GV n E V)(d:Nat):Rn n:=Rn.of (V d) (h.ky d)
def eR(n:Nat)(e:Et)(h:∀k,e.2=ž k->k < n):Rn n:=Rn.of (dC n e) λt ht=>by
 unfold dC at ht;split at ht
 .cases ht
 .cases qp.mp ht
  exact(B8 h).ln
def eX(n:Nat)(e:Et):Rn n:=if h:∀k,e.2=ž k->k < n then eR n e h else 0
def Lh{e:Et}(h:EO n e):eX n e=eR n e h.lt:=dif_pos h.lt
def zDK{e:Et}(h:e.1=0):eX n e=0:=by
 unfold eX;split
 .refine Rn.ext λg=>?_
  show aJ (dC n e) g=(Rn.cst ((0:Nat):Rat):Rn n).1 g;rw[Rn.bS,show dC n e=[] from a6P h,eQ];exact(ϡ _).symm
 .rfl
def zDk{e:Et}:eX n (lH e)=-eX n e:=by
 unfold eX
 by_cases h:∀k,e.2=ž k->k < n
 .rw[dif_pos h,dif_pos (show ∀k,(lH e).2=ž k->k < n from h)]
  refine Rn.ext λg=>?_;show aJ (dC n<|lH e) g=(-1) * aJ (dC n e) g;rw[wB,wB];show -e.1 * _=_;unfold lH;grind
 .rw[dif_neg h,dif_neg (show ¬∀k,(lH e).2=ž k->k < n from h)]
  grind
def AR(n:Nat)(t:Qa (Qa Et))(i j:Nat):Rn n:=eX n (En t i j)
def Nk{t:Qa (Qa Et)}{s:St}{h' w':Nat}(hw:h'<=w'):∀i,bH ((gP t s i).map λx=>if x.1=(h',w')then eX n x.2 else 0)=(if h'=s.1/\s.1 < w'/\w' < s.1+1+i then -(AR n t s.2 w')else 0)+(if h'=w'/\s.1 < h'/\h' < s.1+1+i then AR n t s.2 s.1 else 0)
 |0=>by
  rw[a6Q (by omega),a6Q (by omega)];show(0:Rn n)=0+0;grind
 |i+1=>by
  rw[Dp,ğ,Dn,Nk hw i];unfold two;show _+((if(s.1,s.1+1+i)=(h',w')then eX n (lH<|En t s.2<|s.1+1+i)else 0)+((if(s.1+1+i,s.1+1+i)=(h',w')then eX n (En t s.2 s.1)else 0)+0))=_;rw[zDk];simp only[Ų]
  by_cases c1:h'=s.1/\s.1 < w'/\w' < s.1+1+i
  .rw[a6P c1,a6Q (show ¬(h'=w'/\s.1 < h'/\h' < s.1+1+i) by omega),a6Q (show ¬(s.1=h'/\s.1+1+i=w') by omega),a6Q (show ¬(s.1+1+i=h'/\s.1+1+i=w') by omega),a6P (show h'=s.1/\s.1 < w'/\w' < s.1+1+(i+1) by omega),a6Q (show ¬(h'=w'/\s.1 < h'/\h' < s.1+1+(i+1)) by omega)]
   grind
  by_cases c2:h'=w'/\s.1 < h'/\h' < s.1+1+i
  .rw[a6Q c1,a6P c2,a6Q (show ¬(s.1=h'/\s.1+1+i=w') by omega),a6Q (show ¬(s.1+1+i=h'/\s.1+1+i=w') by omega),a6Q (show ¬(h'=s.1/\s.1 < w'/\w' < s.1+1+(i+1)) by omega),a6P (show h'=w'/\s.1 < h'/\h' < s.1+1+(i+1) by omega)]
   grind
  by_cases c3:s.1=h'/\s.1+1+i=w'
  .have(rfl,rfl):=c3
   rw[a6Q c1,a6Q c2,a6P ⟨rfl,rfl⟩,a6Q (show ¬(s.1+1+i=s.1/\s.1+1+i=s.1+1+i) by omega),a6P (show s.1=s.1/\s.1 < s.1+1+i/\s.1+1+i < s.1+1+(i+1) by omega),a6Q (show ¬(s.1=s.1+1+i/\s.1 < s.1/\s.1 < s.1+1+(i+1)) by omega)];unfold AR;grind
  by_cases c4:s.1+1+i=h'/\s.1+1+i=w'
  .have(rfl,rfl):=c4
   rw[a6Q c1,a6Q c2,a6Q c3,a6P ⟨rfl,rfl⟩,a6Q (show ¬(s.1+1+i=s.1/\s.1 < s.1+1+i/\s.1+1+i < s.1+1+(i+1)) by omega),a6P (show s.1+1+i=s.1+1+i/\s.1 < s.1+1+i/\s.1+1+i < s.1+1+(i+1) by omega)];unfold AR;grind
  .rw[a6Q c1,a6Q c2,a6Q c3,a6Q c4,a6Q (show ¬(h'=s.1/\s.1 < w'/\w' < s.1+1+(i+1)) by omega),a6Q (show ¬(h'=w'/\s.1 < h'/\h' < s.1+1+(i+1)) by omega)]
   grind
def XW{t:Qa (Qa Et)}{s:St}{h' w':Nat}(hs:s.1 < m)(hw:h'<=w')(hm:w' < m):bH ((gP t s<|m - 1 - s.1).map λx=>if x.1=(h',w')then eX n x.2 else 0)=um (AR n t) s.1 s.2 h' w':=by
 rw[Nk hw];unfold um;congr 1
 .by_cases c:h'=s.1/\s.1 < w'
  .rw[a6P (by omega),a6P c]
  .rw[a6Q (by omega),a6Q c]
 .by_cases c:h'=w'/\s.1 < h'
  .rw[a6P (by omega),a6P c]
  .rw[a6Q (by omega),a6Q c]
end K48
open PySem Internal
namespace K48
open PySem Internal
def Lg{R:α->α->Prop}(sym:∀{x y},R x y->R y x):∀{l:Qa α} {x y:α},l.Pairwise R->x∈l->y∈l->x≠y->R x y
 |[],_,_,_,h,_,_=>by cases h
 |z::l,x,y,p,hx,hy,ne=>by
  have(p1,p2):=Ï.mp p;rcases qu.mp hx with rfl|h2
  .rcases qu.mp hy with rfl|h3
   .exact absurd rfl ne
   .exact p1 y h3
  .rcases qu.mp hy with rfl|h3
   .exact sym (p1 x h2)
   .exact Lg (λh=>sym h) p2 h2 h3 ne
abbrev Tr:=Nat×St×Et
structure MI (n m k lo nl c0:Nat) (hp:Nat->Nat) (V0:Vs) (P:Qa Tr) (W:Qa Wy) (B:Qa (St×Nat)) (V:Vs) (aw:Nat):Prop where
 g:GV n (W.map<|ew n) V
 w:∀x∈W,x.a < x.b/\x.b < aw/\EO n x.e/\x.e.1≠0
 z:∀d,aw<=d->V d=[]
 ap:W.Pairwise mH
 o:∀x∈W,x.a < nl
 pC:nl<=aw
 s:∀y∈B,y.1∈fO m/\nl<=y.2/\y.2 < aw
 nd:B.Pairwise λx y=>x.1≠y.1/\x.2≠y.2
 q:∀x∈W,lo<=x.a->∃p∈P,p.1=x.a/\(p.2.1,x.b)∈B
 v:∀h w,h<=w->w < m->bH (B.map λy=>if y.1=(h,w)then vR g y.2 else 0)=bH (P.map λp=>if p.2.1=(h,w)then vR g p.1 * eX n p.2.2 else 0)
 pl:∀p∈P,p.1 < nl
 hw:∀x∈W,hp x.a+we x.e<=hp x.b
 ha:∀d,d < nl->hp d<=k
 hb:∀d,nl<=d->hp d=k+1
 ln:W.length<=c0+P.length
 bl:aw=nl+B.length
 u:∀d,d < nl->V d=V0 d
section
variable{k lo nl c0:Nat}{V0:Vs}{P:Qa Tr}{W:Qa Wy}{B:Qa (St×Nat)}{V:Vs}{aw a b:Nat}{s:St}{e:Et}
def xW{E F:Qa Ed}{V V':Vs}{d:Nat}(h:GV n E V)(h':GV n F V')(e:V' d=V d):vR h' d=vR h d:=Rn.ext λg=>by
 show aJ (V' d) g=aJ (V d) g;rw[e]
def zBj{E F:Qa Ed}{V:Vs}{q:Pq Rat}(h:GV n E V)(h':GV n F (upd V b<|V b++dz (V a) q))(kq:Ln n q):vR h' b=vR h b+vR h a * Rn.of q kq:=Rn.ext λg=>by
 show aJ (upd V b (V b++dz (V a) q) b) g=aJ (V b) g+aJ (V a) λe=>aJ q λf=>g<|aT e f;rw[Gx,yC,yM]
def zDl{f:Et}(hf:∀k,f.2=ž k->k < n):Ln n (dC n f):=λt ht=>by
 unfold dC at ht;split at ht
 .cases ht
 .cases qp.mp ht
  exact(B8 hf).ln
def Ma{g:GV n (W.map<|ew n) V}{c:St}:bH ((P++[(a,s,e)]).map λp=>if p.2.1=c then vR g p.1 * eX n p.2.2 else 0)=bH (P.map λp=>if p.2.1=c then vR g p.1 * eX n p.2.2 else 0)+(if s=c then vR g a * eX n e else 0):=by
 rw[ğ,Dn];show _+((if s=c then vR g a * eX n e else 0)+0)=_;grind
def zBk{F:Qa Ed}{V':Vs}{g:GV n (W.map<|ew n) V}{g':GV n F V'}{c:St}(pl:∀p∈P,p.1 < nl)(h:∀d,d < nl->V' d=V d):(P.map λp=>if p.2.1=c then vR g' p.1 * eX n p.2.2 else 0)=P.map λp=>if p.2.1=c then vR g p.1 * eX n p.2.2 else 0:=É λp hp=>by rw[xW g g'<|h _<|pl p hp]
def MI.zero(I:MI n m k lo nl c0 hp V0 P W B V aw)(ha:a < nl)(h0:e.1=0):MI n m k lo nl c0 hp V0 (P++[(a,s,e)]) W B V aw:=by
 refine⟨I.g,I.w,I.z,I.ap,I.o,I.pC,I.s,I.nd,λx hx hl=>?_,λh w h1 h2=>?_,λp hp=>?_,I.hw,I.ha,I.hb,?_,I.bl,I.u⟩
 .have(p,hp,h):=I.q x hx hl
  exact⟨p,Ë _ hp,h⟩
 .rw[I.v h w h1 h2,Ma,zDK h0]
  split<;>grind
 .rcases Â.mp hp with hp|hp
  .exact I.pl p hp
  .cases qp.mp hp
   exact ha
 .have:=I.ln
  rw[qr,ŏ];omega
def MI.put(I:MI n m k lo nl c0 hp V0 P W B V aw)(ha:a < nl)(hl:lo<=a)(he:EO n e)(h0:e.1≠0)(df:∀p∈P,p.1=a->p.2.1≠s)(hB:(s,b)∈B):∃V',MI n m k lo nl c0 hp V0 (P++[(a,s,e)]) (W++[⟨a,b,e⟩]) B V' aw:=by
 have(_,nb,bd):=I.s _ hB;dsimp only at nb bd;have kq:=zDl he.lt;have gg:=I.g.add (a:=a) (b:=b) (q:=dC n e) (λx hx=>by
  have(y,hy,rfl):=Ã.mp hx;have:=I.o y hy;show y.a≠b;omega) (by omega) kq
 have g':GV n ((W++[(⟨a,b,e⟩:Wy)]).map<|ew n) (upd V b<|V b++dz (V a) (dC n e)):=by
  rw[ğ];exact gg
 have low:∀d,d < nl->upd V b (V b++dz (V a) (dC n e)) d=V d:=λd hd=>zw (by omega);have bn:B.Nodup:=I.nd.imp λh z=>h.1 (by rw[z]);have same:∀y∈B,y.2=b->y=(s,b):=λy hy e=>by
  refine Classical.byContradiction λne=>?_;exact(Lg (λh=>⟨h.1.symm,h.2.symm⟩) I.nd hy hB ne).2 e
 refine⟨_,g',λx hx=>?_,λd hd=>?_,Ó.mpr ⟨I.ap,ç _ _,λx hx y hy=>?_⟩,λx hx=>?_,I.pC,I.s,I.nd,λx hx hxl=>?_,λh w h1 h2=>?_,λp hp=>?_,λx hx=>?_,I.ha,I.hb,?_,I.bl,λd hd=>(low d hd).trans<|I.u d hd⟩
 .rcases Â.mp hx with hx|hx
  .exact I.w x hx
  .cases qp.mp hx
   exact⟨by dsimp only;omega,bd,he,h0⟩
 .rw[zw (by omega)]
  exact I.z d hd
 .cases qp.mp hy
  rintro⟨z1,z2⟩;dsimp only at z1 z2;have(p,hp,p1,p2):=I.q x hx (by omega);rw[z2]at p2;have:=same _ p2 rfl;simp only[Ų,and_true]at this;exact df p hp (by omega) this
 .rcases Â.mp hx with hx|hx
  .exact I.o x hx
  .cases qp.mp hx
   exact ha
 .rcases Â.mp hx with hx|hx
  .have(p,hp,h):=I.q x hx hxl
   exact⟨p,Ë _ hp,h⟩
  .cases qp.mp hx
   exact⟨_,qv _<|qp.mpr rfl,rfl,hB⟩
 .rw[Ma,zBk (g:=I.g) I.pl low,<-I.v h w h1 h2,xW I.g g'<|low a ha]
  have ex:eX n e=Rn.of (dC n e) kq:=Lh he;rw[<-Ht (c:=λy:St×Nat=>if y.1=(h,w)then vR I.g a * eX n e else 0) bn hB,<-OG];congr 1;refine É λy hy=>?_
  by_cases c:y=(s,b)
  .subst c
   rw[a6P rfl];dsimp only;split
   .rw[zBj I.g g' kq,ex]
   .grind
  .rw[a6Q c,xW I.g g'<|zw λz=>c<|same y hy z]
   grind
 .rcases Â.mp hp with hp|hp
  .exact I.pl p hp
  .cases qp.mp hp
   exact ha
 .rcases Â.mp hx with hx|hx
  .exact I.hw x hx
  .cases qp.mp hx
   have:=I.ha a ha;have:=I.hb b nb;have:=FJ (e:=e);dsimp only;omega
 .have:=I.ln
  rw[qr,qr,ŏ,ŏ];omega
def MI.new(I:MI n m k lo nl c0 hp V0 P W B V aw)(hs:s∈fO m)(hB:∀y∈B,y.1≠s):MI n m k lo nl c0 hp V0 P W (B++[(s,aw)]) V (aw+1):=by
 refine⟨I.g,λx hx=>?_,λd hd=>I.z d (by omega),I.ap,I.o,by have:=I.pC;omega,λy hy=>?_,Ó.mpr ⟨I.nd,ç _ _,λx hx y hy=>?_⟩,λx hx hl=>?_,λh w h1 h2=>?_,I.pl,I.hw,I.ha,I.hb,I.ln,?_,I.u⟩
 .have(h1,h2,h3):=I.w x hx
  exact⟨h1,by omega,h3⟩
 .rcases Â.mp hy with hy|hy
  .have(h1,h2,h3):=I.s y hy
   exact⟨h1,h2,by omega⟩
  .cases qp.mp hy
   exact⟨hs,I.pC,by dsimp only;omega⟩
 .cases qp.mp hy
  have:=(I.s x hx).2.2;exact⟨hB x hx,by dsimp only;omega⟩
 .have(p,hp,h1,h2):=I.q x hx hl
  exact⟨p,hp,h1,Ë _ h2⟩
 .rw[ğ,Dn,I.v h w h1 h2]
  have z:vR I.g aw=0:=Rn.ext λg=>by
   show aJ (V aw) g=(Rn.cst ((0:Nat):Rat):Rn n).1 g;rw[I.z aw<|qe _,Rn.bS,eQ];exact(ϡ _).symm
  show _+((if s=(h,w)then vR I.g aw else 0)+0)=_;rw[z];split<;>grind
 .have:=I.bl
  rw[qr,ŏ];omega
end
end K48
open PySem Internal
namespace K48
open PySem Internal
structure LS (n m k:Nat) (t:Qa (Qa Et)) (W:Qa Wy) (As:Qa (St×Nat)) (V:Vs) (hp:Nat->Nat) (lo aw:Nat):Prop where
 g:GV n (W.map<|ew n) V
 w:∀x∈W,x.a < x.b/\x.b < aw/\EO n x.e/\x.e.1≠0
 z:∀d,aw<=d->V d=[]
 ap:W.Pairwise mH
 o:∀x∈W,x.a < lo
 s:∀y∈As,y.1∈fO m/\lo<=y.2/\y.2 < aw
 nd:As.Pairwise λx y=>x.1≠y.1/\x.2≠y.2
 v:∀h w,h<=w->w < m->bH (As.map λy=>if y.1=(h,w)then vR g y.2 else 0)=lay (AR n t) m k h w
 hw:∀x∈W,hp x.a+we x.e<=hp x.b
 hl:∀d,d < aw->hp d<=k
 ln:W.length<=60 * k - 54
 al:As.length<=10/\(k=0->As.length<=1)
 dl:1<=aw/\aw<=1+10 * k
def jt(t:Qa (Qa Et))(m:Nat)(As:Qa (St×Nat)):Qa Tr:=As.flatMap λy=>(gP t y.1<|m - 1 - y.1.1).map λx=>(y.2,x.1,x.2)
def G3{t:Qa (Qa Et)}(m4:m<=4):∀As:Qa (St×Nat),(jt t m As).length<=6 * As.length
 |[]=>qe _
 |y::As=>by
  have:=G3 (t:=t) m4 As;unfold jt at *;rw[a2z,qr,ē,CP,qt];omega
def LS.start{t:Qa (Qa Et)}(m1:1<=m):∃V hp,LS n m 0 t [] [((0,0),0)] V hp 0 1:=by
 have g:GV n (([]:Qa Wy).map<|ew n) (λd=>if d=0 then [(zs n,1)]else []):=by
  refine⟨λd u hu=>?_,λd g=>?_⟩
  .split at hu
   .cases qp.mp hu
    exact wx n
   .cases hu
  .rw[Ů,L0]
   split
   .rw[zC,eQ]
    grind
   .rw[eQ,ů]
 refine⟨_,λ_=>0,g,λx hx=>(by cases hx),λd hd=>a6Q (by omega),.nil,λx hx=>(by cases hx),λy hy=>?_,ç _ _,λh w h1 h2=>?_,λx hx=>(by cases hx),λd hd=>qe _,À _,⟨by decide,λ_=>qe _⟩,by decide,by decide⟩
 .cases qp.mp hy
  exact⟨qK.mpr ⟨qe _,m1⟩,À _,by decide⟩
 .have e1:vR g 0=1:=Rn.ext λf=>by
   show aJ [(zs n,1)] f=(Rn.cst ((1:Nat):Rat):Rn n).1 f;rw[Rn.bS,zC,eQ,ů];rfl
  show(if(0,0)=(h,w)then vR g 0 else 0)+(0:Rn n)=if h=0/\w=0 then 1 else 0;rw[e1]
  by_cases c:h=0/\w=0
  .have(rfl,rfl):=c
   rw[a6P rfl,a6P ⟨rfl,rfl⟩];grind
  .rw[a6Q c,a6Q (λz=>c (by simp only[Ų]at z;omega))]
   grind
section
variable{k lo aw:Nat}{t:Qa (Qa Et)}{W:Qa Wy}{As:Qa (St×Nat)}{V:Vs}
noncomputable def lK(hp:Nat->Nat)(aw k:Nat):Nat->Nat:=λd=>if d < aw then hp d else k+1
def LS.begin(I:LS n m k t W As V hp lo aw):MI n m k lo aw W.length (lK hp aw k) V [] W [] V aw:=by
 refine⟨I.g,I.w,I.z,I.ap,λx hx=>by have:=I.w x hx;omega,qe _,λy hy=>(by cases hy),.nil,λx hx hl=>?_,λh w _ _=>rfl,λp hp=>(by cases hp),λx hx=>?_,λd hd=>?_,λd hd=>?_,by simp,by simp,λd _=>rfl⟩
 .have:=I.o x hx
  omega
 .have:=I.w x hx
  unfold lK;rw[a6P (by omega),a6P (by omega)];exact I.hw x hx
 .unfold lK
  rw[a6P hd];exact I.hl d hd
 .unfold lK
  rw[a6Q (by omega)]
def Nj(m4:m<=4):(fO m).length<=10:=by
 rcases(by omega:m=0\/m=1\/m=2\/m=3\/m=4)with rfl|rfl|rfl|rfl|rfl<;>decide
def LS.finish{W':Qa Wy}{B:Qa (St×Nat)}{V':Vs}{aL:Nat}(m4:m<=4)(I:LS n m k t W As V hp lo aw)(J:MI n m k lo aw W.length (lK hp aw k) V (jt t m As) W' B V' aL):LS n m (k+1) t W' B V' (lK hp aw k) aw aL:=by
 have bl:B.length<=10:=by
  have:=Ă (l₁:=B.map (·.1)) (l₂:=fO m) (à.mpr<|J.nd.imp λh=>h.1) λs hs=>by
   have(y,hy,rfl):=Ã.mp hs;exact(J.s y hy).1
  rw[ē]at this;exact qx this<|Nj m4
 refine⟨J.g,J.w,J.z,J.ap,J.o,J.s,J.nd,λh w h1 h2=>?_,J.hw,λd hd=>?_,?_,⟨bl,λz=>by omega⟩,by have:=I.dl;have:=J.pC;omega,by have:=I.dl;have:=J.bl;omega⟩
 .rw[J.v h w h1 h2]
  have low:∀y∈As,vR J.g y.2=vR I.g y.2:=λy hy=>xW I.g J.g<|J.u _ (I.s y hy).2.2;have e1:∀L:Qa (St×Nat),(∀y∈L,y∈As)->bH ((jt t m L).map λp=>if p.2.1=(h,w)then vR J.g p.1 * eX n p.2.2 else 0)=bH (L.map λy=>vR I.g y.2 * um (AR n t) y.1.1 y.1.2 h w):=λL=>by
   induction L with
   |nil=>exact λ_=>rfl
   |cons y L ih=>
    intro hL;have hy:=hL y qo;have ih:=ih λz hz=>hL z<|qm _ hz;have sm:=(qK (h:=y.1.1) (w:=y.1.2)).mp (I.s y hy).1;have e2:jt t m (y::L)=(gP t y.1<|m - 1 - y.1.1).map (λx=>(y.2,x.1,x.2))++jt t m L:=a2z;rw[e2,ğ,Dn,ih,ĳ];show _=vR I.g y.2 * _+bH (L.map _);congr 1;show bH ((gP t y.1<|m - 1 - y.1.1).map λx=>if x.1=(h,w)then vR J.g y.2 * eX n x.2 else 0)=_;rw[<-XW (n:=n) (t:=t) (s:=y.1) (h':=h) (w':=w) (by omega) h1 h2,low y hy];generalize gP t y.1 (m - 1 - y.1.1)=S
    induction S with
    |nil=>
     show(0:Rn n)=_ * 0;grind
    |cons x S ihS=>
     show(if x.1=(h,w)then vR I.g y.2 * eX n x.2 else 0)+bH (S.map _)=vR I.g y.2 * ((if x.1=(h,w)then eX n x.2 else 0)+bH (S.map _));rw[ihS];split<;>grind
  rw[e1 As λ_ h=>h,<-OF (f:=λd=>vR I.g d) (c:=λs:St=>um (AR n t) s.1 s.2 h w) (S:=fO m) (Mb m4) λy hy=>(I.s y hy).1];show _=bH ((fO m).map λs=>lay (AR n t) m k s.1 s.2 * um (AR n t) s.1 s.2 h w);congr 1;refine É λs hs=>?_;have sm:=qK.mp (show(s.1,s.2)∈fO m from hs);rw[<-I.v s.1 s.2 sm.1 sm.2]
 .unfold lK
  split
  .have:=I.hl d (by assumption)
   omega
  .exact qe _
 .have h1:=J.ln
  have h2:=G3 (t:=t) m4 As;have h3:=I.ln;have h4:=I.al
  by_cases c:k=0
  .subst c
   have:=h4.2 rfl;omega
  .omega
end
end K48
open PySem Internal
namespace K48
open PySem Internal
def nI(d:Nat):D:=.int (d:Int)
def zBl{l:Qa (St×α)}{u:Qa Int×α}(h:u∈kE l):∃x∈l,u=(sk x.1,x.2):=by
 have(x,hx,rfl):=Ã.mp h;exact⟨x,hx,rfl⟩
def zBm{l:Qa (St×α)}:(kE l).length=l.length:=ē _
def Ni{l:Qa (St×α)}{s:St}:look (kE l) (sk s)=(l.find? λx=>decide<|x.1=s).map (·.2):=by
 unfold look kE;rw[List.find?_map,Option.map_map];have e:((λt:Qa Int×α=>decide<|t.1=sk s) ∘ λx:St×α=>(sk x.1,x.2))=λx=>decide (x.1=s):=funext λx=>decide_eq_decide.mpr ⟨vT,λh=>by
  show sk x.1=sk s;rw[h]⟩
 rw[e];rfl
def FN{c:α->D}{l:Qa (St×α)}:D2 c (kE l)=l.map λy=>.tuple [bJ<|sk y.1,c y.2]:=by
 unfold D2 kE;rw[ĳ];rfl
def L9{t:Qa (Qa Et)}{s:St}:∀i,(gP t s i).Pairwise λx y=>x.1≠y.1
 |0=>.nil
 |i+1=>by
  rw[Dp];refine Ó.mpr ⟨L9 i,?_,λx hx y hy=>?_⟩
  .unfold two
   refine Ï.mpr ⟨λy hy=>?_,ç _ _⟩;cases qp.mp hy;intro z;simp only[Ų]at z;omega
  .have(q,q1,q2,hq):=G5 hx
   unfold two at hy;simp only[qu,ķ,or_false]at hy;rcases hy with rfl|rfl<;>rcases hq with rfl|rfl<;>(intro z;simp only[Ų]at z;omega)
def B6{t:Qa (Qa Et)}(hm:t.length=m)(hT:TO n t)(hi:i < m)(hj:j < m):EO n (En t i j):=by
 unfold En;have e1:t.getD i []=t[i]:=by
  rw[qA,ql (by omega)];rfl
 have mr:t[i]∈t:=Ö (by omega);rw[e1];have lr:=hT.sq _ mr;have e2:t[i].getD j (0,Ž)=t[i][j]:=by
  rw[qA,ql (by omega)];rfl
 rw[e2];exact hT.en _ mr _<|Ö (by omega)
def zBn{t:Qa (Qa Et)}{s:St}{x:St×Et}(hm:t.length=m)(hT:TO n t)(h1:s.1<=s.2)(h2:s.2 < m)(hx:x∈gP t s (m - 1 - s.1)):x.1∈fO m/\EO n x.2:=by
 obtain⟨q,q1,q2,rfl|rfl⟩:=G5 hx
 .have:=B6 (i:=s.2) (j:=q) hm hT h2 (by omega)
  exact⟨qK.mpr ⟨by omega,by omega⟩,⟨this.bd.neg,this.lt⟩⟩
 .exact⟨qK.mpr ⟨qe _,by omega⟩,B6 hm hT h2 (by omega)⟩
structure FW (n m:Nat) (t:Qa (Qa Et)) (W:Qa Wy) (aw:Nat) (V:Vs) (hp:Nat->Nat):Prop where
 g:GV n (W.map<|ew n) V
 v:vR g aw=fin (AR n t) m
 w:∀x∈W,x.a < x.b/\x.b < aw+1/\EO n x.e/\x.e.1≠0
 ap:W.Pairwise mH
 hw:∀x∈W,hp x.a+we x.e<=hp x.b
 hl:∀d,hp d<=4
 ln:W.length<=174
 dl:1<=aw/\aw<=1+10 * (m - 1)
def lst(t:Qa (Qa Et))(L:Qa (St×Nat)):Qa Tr:=L.map λy=>(y.2,(0,0),En t y.1.2 y.1.1)
def FW.of{lo aw:Nat}{t:Qa (Qa Et)}{W W':Qa Wy}{As:Qa (St×Nat)}{V V':Vs}(m1:1<=m)(m4:m<=4)(I:LS n m (m - 1) t W As V hp lo aw)(J:MI n m (m - 1) lo aw W.length (lK hp aw<|m - 1) V (lst t As) W' [((0,0),aw)] V' (aw+1)):FW n m t W' aw V' (lK hp aw<|m - 1):=by
 refine⟨J.g,?_,J.w,J.ap,J.hw,λd=>?_,?_,I.dl⟩
 .have e:=J.v 0 0 (qe _) m1
  have e1:bH ([((0,0),aw)].map λy:St×Nat=>if y.1=(0,0)then vR J.g y.2 else 0)=vR J.g aw:=by
   show(if((0:Nat),(0:Nat))=(0,0)then vR J.g aw else 0)+(0:Rn n)=_;rw[a6P rfl];grind
  rw[e1]at e;rw[e];unfold lst;rw[ĳ];show bH (As.map λy=>if((0:Nat),(0:Nat))=(0,0)then vR J.g y.2 * AR n t y.1.2 y.1.1 else 0)=_;have e2:(As.map λy=>if((0:Nat),(0:Nat))=(0,0)then vR J.g y.2 * AR n t y.1.2 y.1.1 else 0)=As.map λy=>vR I.g y.2 * AR n t y.1.2 y.1.1:=É λy hy=>by
   rw[a6P rfl,xW I.g J.g<|J.u _ (I.s y hy).2.2]
  rw[e2,<-OF (f:=λd=>vR I.g d) (c:=λs:St=>AR n t s.2 s.1) (S:=fO m) (Mb m4) λy hy=>(I.s y hy).1];unfold fin;congr 1;refine É λs hs=>?_;have sm:=(qK (h:=s.1) (w:=s.2)).mp hs;rw[<-I.v s.1 s.2 sm.1 sm.2]
 .unfold lK
  split
  .have:=I.hl d (by assumption)
   omega
  .omega
 .have h1:=J.ln
  have h2:=I.ln;have h3:=I.al.1;unfold lst at h1;rw[ē]at h1;omega
def ziK{ns:Qa Str}{t:Qa (Qa Et)}{Q:U×Qa U->Prop}(hm:t.length=m)(hT:TO ns.length t)
  (k:∀W V hp aw,FW ns.length m t W aw V hp->Q (.d<|mn ns (aw+1)<|ji W,[.d<|iD ns t])):Wo (uh [.d<|iD ns t]) Q:=by
 have m1:=hT.l1;have m4:=hT.l4;rw[hm]at m1 m4;have lt:(t.map e9).length=m:=by rw[ē,hm]
 have d0:į [.int 0,.int 0]=bJ (sk (0,0)):=rfl;unfold iD;simp![uh,Rk,lt,d0];refine vI (λi ρ=>E8 λ(u5:U) (W:Qa Wy) (V:Vs) (hp:Nat->Nat) (As:Qa (St×Nat)) (lo aw:Nat) (v6:Qb U)=>E7 λ(v7 v8 v9 v10 v11 qR qQ:Qb U)=>ρ=[ž<|U.d<|.tuple [.tuple<|ns.map .str,.tuple<|t.map e9],ž<|.d<|.tuple<|ns.map .str,ž<|.d<|.tuple<|t.map e9,ž<|.l<|W.map Wy.d,ž<|.d<|.int (aw:Int),ž u5,v6,v7,v8,v9,v10,v11,qR,qQ]/\u5.fz=ž (.dict<|cB nI<|kE As)/\LS ns.length m i t W As V hp lo aw) ?_ ?_ ?_
 .have(V,hp,h):=LS.start (n:=ns.length) (t:=t) m1
  exact⟨_,[],V,hp,_,0,1,_,_,_,_,_,_,_,_,rfl,rfl,h⟩
 .rintro i _ hi ⟨u5,W,V,hp,As,lo,aw,v6,v7,v8,v9,v10,v11,qR,qQ,rfl,hu,I⟩
  simp![hu];rw[FN];refine k9 (λbs cs ρ=>E8 λ(W':Qa Wy) (B:Qa (St×Nat)) (V':Vs) (aL:Nat) (v8 v9 v10 v11:Qb U)=>ρ=[ž<|U.d<|.tuple [.tuple<|ns.map .str,.tuple<|t.map e9],ž<|.d<|.tuple<|ns.map .str,ž<|.d<|.tuple<|t.map e9,ž<|.l<|W'.map Wy.d,ž<|.d<|.int (aL:Int),ž<|.d<|.dict<|cB nI<|kE As,ž<|.d<|.int<|0+(i:Int),ž<|.t<|bg nI<|kE B,v8,v9,v10,v11,qR,qQ]/\MI ns.length m i lo aw W.length (lK hp aw i) V (jt t m bs) W' B V' aL) ⟨W,[],V,aw,_,_,_,_,rfl,I.begin⟩ ?_ ?_
  .rintro bs y cs _ ea ⟨W',B,V',aL,v8,v9,v10,v11,rfl,J⟩
   have hy:y∈As:=by rw[ea];simp
   have(ys,y1,y2):=I.s y hy;have sm:=(qK (h:=y.1.1) (w:=y.1.2)).mp ys;have so:=zi5 (t:=t) (s:=y.1) hm m4 (λr hr=>by rw[hT.sq r hr,hm]) sm.1 sm.2;have ny:nI y.2=.int (y.2:Int):=rfl;have et:jt t m (bs++[y])=jt t m bs++(gP t y.1<|m - 1 - y.1.1).map λx=>(y.2,x.1,x.2):=by
    unfold jt;rw[a1W];simp
   have hS:∀x∈gP t y.1 (m - 1 - y.1.1),x.1∈fO m/\EO ns.length x.2:=λx hx=>zBn hm hT sm.1 sm.2 hx;have nS:=L9 (t:=t) (s:=y.1) (m - 1 - y.1.1);have lS:=CP (t:=t) (s:=y.1) (m - 1 - y.1.1);have Ji:∀p∈jt t m bs,p.1≠y.2:=λp hp z=>by
    unfold jt at hp;have(w,hw,hp):=ý.mp hp;have(x,hx,rfl):=Ã.mp hp;have nd:=I.nd;rw[ea]at nd;exact((Ó.mp nd).2.2 w hw y qo).2 z
   rw[et];generalize gP t y.1 (m - 1 - y.1.1)=S at *;simp![so,ny];rw[FN];refine k9 (λds es ρ=>E6 λ(W':Qa Wy) (B:Qa (St×Nat)) (V':Vs) (aL:Nat) (v10 v11:Qb U)=>ρ=[ž<|U.d<|.tuple [.tuple<|ns.map .str,.tuple<|t.map e9],ž<|.d<|.tuple<|ns.map .str,ž<|.d<|.tuple<|t.map e9,ž<|.l<|W'.map Wy.d,ž<|.d<|.int (aL:Int),ž<|.d<|.dict<|cB nI<|kE As,ž<|.d<|.int<|0+(i:Int),ž<|.t<|bg nI<|kE B,ž<|.d<|bJ<|sk y.1,ž<|.d<|.int (y.2:Int),v10,v11,qR,qQ]/\MI ns.length m i lo aw W.length (lK hp aw i) V (jt t m bs++ds.map λx=>(y.2,x.1,x.2)) W' B V' aL) ⟨W',B,V',aL,_,_,rfl,by rw[Ů,ŕ];exact J⟩ ?_ ?_
   .rintro ds x es _ eb ⟨W',B,V',aL,v10,v11,rfl,J⟩
    have hx:x∈S:=by rw[eb];simp
    have(xs,xo):=hS x hx;have lJ:aS (.d<|cA x.2) (.d<|.int 0)=ž (.d<|fR x.2.1):=rfl;have em:(jt t m bs++(ds++[x]).map λx=>(y.2,x.1,x.2))=(jt t m bs++ds.map λx=>(y.2,x.1,x.2))++[(y.2,x.1,x.2)]:=by
     rw[ğ,İ];rfl
    rw[em];have df:∀p∈(jt t m bs++ds.map λx=>(y.2,x.1,x.2)),p.1=y.2->p.2.1≠x.1:=λp hp z=>by
     rcases Â.mp hp with hp|hp
     .exact absurd z (Ji p hp)
     .have(x',jv,rfl):=Ã.mp hp
      rw[eb]at nS;exact(Ó.mp nS).2.2 x' jv x qo
    have bl:=J.bl;have bln:B.length<=10:=by
     have:=Ă (l₁:=B.map (·.1)) (l₂:=fO m) (à.mpr<|J.nd.imp λh=>h.1) λs hs=>by
      have(y,hy,rfl):=Ã.mp hs;exact(J.s y hy).1
     rw[ē]at this;exact qx this<|Nj m4
    have wln:=J.ln
    by_cases c:x.2.1=0
    .simp![lJ,xI,c]
     exact⟨W',B,V',aL,_,_,rfl,J.zero y2 c⟩
    .simp![lJ,xI,c]
     have wl:W'.length < 16777216:=by
      have h1:=I.ln;have h2:=G3 (t:=t) m4 bs;have h3:bs.length<=As.length:=by rw[ea];simp
      have h4:=I.al.1;have h5:ds.length<=S.length:=by rw[eb];simp
      rw[qr,ē]at wln;omega
     cases hl:look (kE B) (sk x.1)with
     |some d=>
      have hB:(x.1,d)∈B:=by
       rw[Ni]at hl;have(z,hz,rfl):=qq.mp hl;have h1:=a3O hz;have h2:z.1=x.1:=by simpa using a6M hz
       rw[<-h2];exact h1
      have(V2,J2):=J.put y2 y1 xo c df hB;have nd:nI d=.int (d:Int):=rfl;simp![a0e,a1T,ś,ĥ,Hy,hl,nd,wl];exact⟨W'++[⟨y.2,d,x.2⟩],B,V2,aL,_,_,by rw[ğ];rfl,J2⟩
     |none=>
      have hB:∀z∈B,z.1≠x.1:=λz hz e=>by
       have:=si (p:=kE B) (à.mpr<|à.mpr<|J.nd.imp λh e=>h.1<|vT e) (Ã.mpr ⟨z,hz,rfl⟩);dsimp only at this;rw[e,hl]at this;cases this
      have(V2,J2):=(J.new xs hB).put y2 y1 xo c df (b:=aL) (by simp);have nd:nI aL=.int (aL:Int):=rfl;have pu:=tE (c:=nI) (p:=kE B) (k:=sk x.1) (x:=aL) (by rw[zBm];omega);rw[Hu λu hu z=>by
       have(w,hw,rfl):=zBl hu;exact hB w hw<|vT z,show kE B++[(sk x.1,aL)]=kE (B++[(x.1,aL)]) from(Mc (a:=B) (b:=[(x.1,aL)])).symm,nd]at pu
      have lk:look (kE<|B++[(x.1,aL)]) (sk x.1)=ž aL:=by
       rw[Ni,List.find?_append,List.find?_eq_none.mpr λw hw=>by simpa using hB w hw];simp
      have e1:((aL:Nat):Int)+1=((aL+1:Nat):Int):=by omega
      simp![a5T,Option.isSome_none,ϛ,pu,Hy,lk,a0e,nd,wl,e1];exact⟨W'++[⟨y.2,aL,x.2⟩],B++[(x.1,aL)],V2,aL+1,_,_,by rw[ğ];rfl,J2⟩
   .rintro _ ⟨W',B,V',aL,v10,v11,rfl,J⟩
    simp!;exact⟨W',B,V',aL,_,_,_,_,rfl,J⟩
  .rintro _ ⟨W',B,V',aL,v8,v9,v10,v11,rfl,J⟩
   simp![uc];exact⟨_,W',V',_,B,aw,aL,_,_,_,_,_,_,_,_,rfl,rfl,I.finish m4 J⟩
 .rintro _ ⟨u5,W,V,hp,As,lo,aw,v6,v7,v8,v9,v10,v11,qR,qQ,rfl,hu,I⟩
  rw[show(((m:Nat):Int) - 1).toNat=m - 1 by omega]at I;have s0:((0,0):St)∈fO m:=qK.mpr ⟨qe _,m1⟩;simp![hu];rw[FN];refine k9 (λbs cs ρ=>E5 λ(W':Qa Wy) (V':Vs) (v9 qR qQ:Qb U)=>ρ=[ž<|U.d<|.tuple [.tuple<|ns.map .str,.tuple<|t.map e9],ž<|.d<|.tuple<|ns.map .str,ž<|.d<|.tuple<|t.map e9,ž<|.l<|W'.map Wy.d,ž<|.d<|.int (aw:Int),ž<|.d<|.dict<|cB nI<|kE As,v6,v7,v8,v9,v10,v11,qR,qQ]/\MI ns.length m (m - 1) lo aw W.length (lK hp aw<|m - 1) V (lst t bs) W' [((0,0),aw)] V' (aw+1)) ⟨W,V,_,_,_,rfl,I.begin.new s0 λy hy=>by cases hy⟩ ?_ ?_
  .rintro bs y cs _ ea ⟨W',V',v9,qR,qQ,rfl,J⟩
   have hy:y∈As:=by rw[ea];simp
   have(ys,y1,y2):=I.s y hy;have sm:=(qK (h:=y.1.1) (w:=y.1.2)).mp ys;have ny:nI y.2=.int (y.2:Int):=rfl;have ks:bJ (sk y.1)=.tuple [.int (y.1.1:Int),.int (y.1.2:Int)]:=rfl;have(r,ar,mr,er):=Nl (m:=m) (λr hr=>by rw[hT.sq r hr,hm]) (i:=y.1.2) (by omega);have lr:=hT.sq r mr;have ae:=G4 (r:=r) (j:=y.1.1) (by omega);have e1:r.getD y.1.1 (0,Ž)=En t y.1.2 y.1.1:=by unfold En;rw[er]
   rw[e1]at ae;have eo:=B6 (n:=ns.length) hm hT sm.2 (show y.1.1 < m by omega);have ro:e9 r=.tuple (r.map cA):=rfl;have em:lst t (bs++[y])=lst t bs++[(y.2,(0,0),En t y.1.2 y.1.1)]:=ğ;rw[em];generalize En t y.1.2 y.1.1=e at *;have ed:cA e=.tuple [fR e.1,i4 e.2]:=rfl;have lJ:aS (.d<|cA e) (.d<|.int 0)=ž (.d<|fR e.1):=rfl;have df:∀p∈lst t bs,p.1=y.2->p.2.1≠(0,0):=λp hp z=>by
    have(w,hw,rfl):=Ã.mp hp;have nd:=I.nd;rw[ea]at nd;exact absurd z ((Ó.mp nd).2.2 w hw y qo).2
   have wl:W'.length < 16777216:=by
    have h1:=J.ln;have h2:=I.ln;have h3:=I.al.1;have h4:bs.length<=As.length:=by rw[ea];simp
    unfold lst at h1;rw[ē]at h1;omega
   by_cases c:e.1=0
   .simp![ny,ks,ar,ro,ae,lJ,xI,c]
    exact⟨W',V',_,_,_,rfl,J.zero y2 c⟩
   .simp![ny,ks,ar,ro,ae,lJ,xI,c,wl]
    have(V2,J2):=J.put y2 y1 eo c df (b:=aw) (by simp);exact⟨W'++[⟨y.2,aw,e⟩],V2,_,_,_,by rw[ğ];rfl,J2⟩
  .rintro _ ⟨W',V',v9,qR,qQ,rfl,J⟩
   have F:=FW.of m1 m4 I J;have hs:=X0 (W:=W') F.ap (by have:=F.ln;omega);have e1:((aw:Nat):Int)+1=((aw+1:Nat):Int):=by omega
   simp![hs,e1];exact k W' V' _ aw F
end K48
open PySem Internal
namespace K48
open PySem Internal
def pF(p:Pq Rat):l0:=p.map λt=>(kL t.1,[.inl t.2.num,.inl (t.2.den:Int)])
def FL:∀p:Pq Rat,sT (bg fR p)=ž (pF p)
 |[]=>rfl
 |t::p=>by
  show(dR<|fR t.2).bind (λv=>(sT<|bg fR p).bind λr=>ž<|(kL t.1,v)::r)=_;rw[FL p];rfl
def zDm{a b:Qa Int}(h:kL a=kL b):a=b:=(List.map_inj_right λx y e=>by cases e;rfl).mp h
def Zn{p q:Pq Rat}(hp:p.Perm q)(nd:cT q):kF (pF p) (pF q)=ż:=by
 unfold kF;rw[show((pF p).length==(pF q).length)=ż by unfold pF;rw[ē,ē,hp.length_eq];exact a6U _,Ε];refine ï.mpr λx hx=>?_;have(t,ht,rfl):=Ã.mp hx;have(j,hj):=List.mem_iff_getElem?.mp (hp.mem_iff.mp ht);refine a6R<|OD ?_ (j:=j) ?_
 .unfold pF
  rw[ĳ];show(q.map λt=>kL t.1).Nodup;exact à.mpr<|(à.mp nd).imp λh e=>h<|zDm e
 .unfold pF
  rw[ĝ,hj];rfl
def zBo{w:Bool}{u v:U}{p q:Pq Rat}(hu:vf u=ž (bg fR p))(hv:vf v=ž (bg fR q))(hp:p.Perm q)(nd:cT q):B2 w u v=ž (.d<|.bool w):=by
 unfold B2;rw[hu,hv];show(sT<|bg fR p).bind (λf=>(sT<|bg fR q).bind λg=>ž<|U.d<|.bool<|kF f g==w)=_;rw[FL,FL];show ž (U.d<|.bool<|kF (pF p) (pF q)==w)=_;rw[Zn hp nd];cases w<;>rfl
def Zm{p q:Pq Rat}(n1:cT p)(z1:∀t∈p,t.2≠0)(n2:cT q)(z2:∀t∈q,t.2≠0)(h:∀g,aJ p g=aJ q g):p.Perm q:=by
 have e:wY p=wY q:=M9 ⟨Hq n1,λt ht=>z1 t<|(sI p).mem_iff.mp ht⟩ ⟨Hq n2,λt ht=>z2 t<|(sI q).mem_iff.mp ht⟩ λg=>by rw[Pd<|sI p,Pd<|sI q,h]
 exact(sI p).symm.trans<|e▸sI q
def zBp(p:Pq Rat):vf (dT p)=ž (bg fR p):=by
 show(if ko (cB fR p)=ż then tN (cB fR p)else Ž)=_;rw[a6P<|yo p,Ho]
def zBq{e:Et}(n3:n<=3)(h:EO n e):gY 2 200 (cA e):=by
 refine(wF (n:=2) (k:=1) (M:=90) (λd hd=>?_)<|qe _).mono (qe _) (by decide);simp only[qu,ķ,or_false]at hd;rcases hd with rfl|rfl
 .exact(zDi h.bd).mono (qe _) (by decide)
 .have(f,l):=e
  cases l with
  |none=>exact ZS.mono (by decide) (by decide)
  |some j=>
   have:=h.lt j rfl;exact(wG (n:=3) (by omega)).mono (by decide) (by decide)
def zBr{D0:Nat}{x:Wy}(n3:n<=3)(hd:D0<=100)(h:x.a < x.b/\x.b < D0/\EO n x.e):gY 3 700 x.d:=by
 refine(wF (n:=3) (k:=2) (M:=200) (λd ig=>?_)<|qe _).mono (qe _) (by decide);simp only[qu,ķ,or_false]at ig;rcases ig with rfl|rfl|rfl
 .exact(wG (n:=3) (by omega)).mono (by decide) (by decide)
 .exact(wG (n:=3) (by omega)).mono (by decide) (by decide)
 .exact zBq n3 h.2.2
def XU{ls:Qa Str}{D0:Nat}{W:Qa Wy}(n3:ls.length<=3)(ha:∀z∈ls,cM 10 z)(hd:D0<=100)(hl:W.length<=174)(h:∀x∈W,x.a < x.b/\x.b < D0/\EO ls.length x.e):gY 5 500000 (mn ls D0 W):=by
 refine(wF (n:=3) (k:=4) (M:=130000) (λd ig=>?_)<|qe _).mono (qe _) (by decide);simp only[qu,ķ,or_false]at ig;rcases ig with rfl|rfl|rfl
 .exact(LY n3 ha).mono (by decide) (by decide)
 .exact(wG (n:=3) (by omega)).mono (by decide) (by decide)
 .refine(wF (n:=174) (k:=3) (M:=700) (λd ig=>?_) (by rw[ē];exact hl)).mono (qe _) (by decide)
  have(x,hx,rfl):=Ã.mp ig;exact zBr n3 hd<|h x hx
noncomputable def jq{α:Type}[ϑ α](A:Nat->Nat->α):Nat->Qa Int->α
 |_,[]=>1
 |i,c::cs=>A i c.toNat * jq A (i+1) cs
noncomputable def ph{α:Type}[ϑ α](o:Od)(x:α):α:=if o.2=1 then x else -x
def Nh{t:Qa (Qa Et)}(hm:t.length=m)(hT:TO n t):∀(σ:Qa Int) (i:Nat) (k:Qa Int),i+σ.length=m->(∀c∈σ,0<=c/\c < (m:Int))->k.length=n->NN n ((t.drop i).zip σ) g k=(jq (AR n t) i σ).1 λf=>g<|aT k f
 |[],i,k,h,hc,hk=>by
  rw[List.zip_nil_right];show g k=(Rn.cst ((1:Nat):Rat):Rn n).1 _;rw[Rn.bS,CQ hk];exact(ϳ _).symm
 |c::σ,i,k,h,hc,hk=>by
  have hi:i < t.length:=by rw[hm,<-h,qt];omega
  have c0:=hc c qo;rw[ŋ hi,a0u];have ei:t[i].getD c.toNat (0,Ž)=En t i c.toNat:=by
   unfold En;rw[qA (l:=t),ql hi];rfl
  have eo:=B6 (n:=n) (t:=t) (i:=i) (j:=c.toNat) hm hT (by omega) (by omega);show(t[i].getD c.toNat (0,Ž)).1 * NN n ((t.drop<|i+1).zip σ) g (sh n (t[i].getD c.toNat (0,Ž)).2 k)=_;rw[ei];have sl:(sh n (En t i c.toNat).2 k).length=n:=by
   rw[<-yB hk];exact OI hk (B8 eo.lt).ln
  rw[Nh hm hT σ (i+1) _ (by rw[<-h,qt];omega) (λd hd=>hc d<|qm _ hd) sl];show _=(AR n t i c.toNat).1 λu=>(jq (AR n t) (i+1) σ).1 λf=>g<|aT k<|aT u f;rw[show AR n t i c.toNat=eR n (En t i c.toNat) eo.lt from Lh eo];show _=aJ (dC n<|En t i c.toNat) λu=>(jq (AR n t) (i+1) σ).1 λf=>g<|aT k<|aT u f;rw[wB,<-yB hk,show(λf=>g<|aT (aT k<|uk n (En t i c.toNat).2) f)=λf=>g (aT k<|aT (uk n (En t i c.toNat).2) f) from funext λf=>by rw[HV]]
abbrev XE:=a5Y
def vE(i j:Nat):XE:=.var (4 * i+j)
def Ik(xs:Qa XE):XE:=xs.foldr .add (.num 0)
def Ij:Nat->Qa Int->XE
 |_,[]=>.num 1
 |i,c::cs=>.mul (vE i c.toNat)<|Ij (i+1) cs
def Uk(m:Nat):XE:=Ik ((fB m).map λo=>if o.2=1 then Ij 0 o.1 else .neg (Ij 0 o.1))
def stE(h w h' w':Nat):XE:=.add (if h'=h/\h < w' then .neg (vE w w')else .num 0) (if h'=w'/\h < h' then vE w h else .num 0)
def Ti(m:Nat):Nat->Nat->Nat->XE
 |0,h,w=>if h=0/\w=0 then .num 1 else .num 0
 |k+1,h,w=>Ik<|(fO m).map λs=>.mul (Ti m k s.1 s.2)<|stE s.1 s.2 h w
def Uc(m:Nat):XE:=Ik ((fO m).map λs=>.mul (Ti m (m - 1) s.1 s.2)<|vE s.2 s.1)
def Jb(f:Nat->α):Nat->Nat->Lean.RArray α
 |0,k=>.leaf<|f k
 |n+1,k=>.branch (k+1) (.leaf<|f k)<|Jb f n<|k+1
section
variable[ϑ α]{A:Nat->Nat->α}
def CC(h:((Uk m).toPoly==(Uc m).toPoly)=ż)(e:bH ((fB m).map λo=>ph o<|jq A 0 o.1)=(Uk m).denote (Jb (λn=>A (n / 4)<|n % 4) 15 0))
  (e':(Uc m).denote (Jb (λn=>A (n / 4)<|n % 4) 15 0)=fin A m):bH ((fB m).map λo=>ph o<|jq A 0 o.1)=fin A m:=e.trans ((a4t _ _ _ h).trans e')
def zDL:bH ((fB 1).map λo=>ph o<|jq A 0 o.1)=fin A 1:=CC (by decide +kernel) (by kernel_rfl) (by kernel_rfl)
def zDM:bH ((fB 2).map λo=>ph o<|jq A 0 o.1)=fin A 2:=CC (by decide +kernel) (by kernel_rfl) (by kernel_rfl)
def zDN:bH ((fB 3).map λo=>ph o<|jq A 0 o.1)=fin A 3:=CC (by decide +kernel) (by kernel_rfl) (by kernel_rfl)
def zDO:bH ((fB 4).map λo=>ph o<|jq A 0 o.1)=fin A 4:=CC (by decide +kernel) (by kernel_rfl) (by kernel_rfl)
end
def znW{t:Qa (Qa Et)}(hm:t.length=m)(hT:TO n t):((fB m).map λo=>(o.2:Rat) * NN n (t.zip o.1) g (zs n)).sum=(fin (AR n t) m).1 g:=by
 have m1:=hT.l1;have m4:=hT.l4;have one:∀o∈fB m,(o.2:Rat) * NN n (t.zip o.1) g (zs n)=(ph o<|jq (AR n t) 0 o.1).1 g:=λo ho=>by
  have(hl,hs):=Hv o ho;have e:=Nh (g:=g) hm hT o.1 0 (zs n) (by omega) (OH o ho) (wx n);rw[List.drop_zero]at e;have e2:((jq (AR n t) 0 o.1).1 λf=>g<|aT (zs n) f)=(jq (AR n t) 0 o.1).1 g:=by
   generalize jq (AR n t) 0 o.1=a;have(_,p,hp,rfl):=a;show(aJ p λf=>g<|aT (zs n) f)=aJ p g;exact oY λu hu=>by rw[Nu<|hp u hu]
  rw[e,e2];unfold ph;rcases hs with h|h
  .rw[h,a6P rfl]
   exact ϳ _
  .rw[h,a6Q (by decide)]
   rfl
 rw[a1U one];have all:∀L:Qa Od,(L.map λo=>(ph o (jq (AR n t) 0 o.1):Rn n).1 g).sum=(bH<|L.map λo=>ph o<|jq (AR n t) 0 o.1).1 g:=λL=>by
  induction L with
  |nil=>
   show(0:Rat)=(Rn.cst ((0:Nat):Rat):Rn n).1 g;rw[Rn.bS];exact(ϡ _).symm
  |cons o L ih=>
   rw[ę,ĸ,ih];rfl
 rw[all];congr 1;rcases(by omega:m=1\/m=2\/m=3\/m=4)with rfl|rfl|rfl|rfl
 .rw[zDL]
 .rw[zDM]
 .rw[zDN]
 .rw[zDO]
end K48
open PySem Internal
namespace K48
open PySem Internal
def zBu:xU (.d<|.bool ż) (.d<|.bool ż)=ž (.d<|.bool Ż):=rfl
def Tb(d:D):Prop:=∃ns t,d=iD ns t/\1<=ns.length/\ns.length<=3/\(∀z∈ns,cM 10 z)/\jI ns=ż/\TO ns.length t
structure Tw (ns:Qa Str) (t:Qa (Qa Et)) (w:D):Prop where
 ok:uh [.d<|iD ns t]=ž (.d w,[.d<|iD ns t])
 iw:yY [.d w,.d<|.tuple<|ns.map .str,.d<|.int<|(t.length:Int) * (t.length:Int) * ((t.length:Int)+1)+2]=ž (.d<|.bool ż,[.d w,.d<|.tuple<|ns.map .str,.d<|.int<|(t.length:Int) * (t.length:Int) * ((t.length:Int)+1)+2])
 lw:yV [.d w]=ž (.inl (.d<|.bool ż,[.d w]))
 pe:∃p q,y0 [.d w]=ž (.d<|.dict<|cB fR p,[.d w])/\y9 [.d<|iD ns t]=ž (.t<|bg fR q,[.d<|iD ns t])/\p.Perm q/\cT q
 es:∀neg,oz neg (.d w) (.d w)=ž (.d<|.bool (!neg))
def OE{ns:Qa Str}{t:Qa (Qa Et)}(n1:1<=ns.length)(n3:ns.length<=3)(ha:∀z∈ns,cM 10 z)(hl:jI ns=ż)(hT:TO ns.length t):∃w,Tw ns t w:=by
 have m1:=hT.l1;have m4:=hT.l4;have(o,ew,W,V,hp,aw,rfl,F):=ziK (Q:=λo=>∃W V hp aw,o=(.d<|mn ns (aw+1)<|ji W,[.d<|iD ns t])/\FW ns.length t.length t W aw V hp) rfl hT λW V hp aw F=>⟨W,V,hp,aw,rfl,F⟩;have hb:∀x∈ji W,x.a < x.b/\x.b < aw+1/\EO ns.length x.e/\x.e.1≠0:=λx hx=>F.w x<|wK.mem_iff.mp hx;have eJ:=Nr (W:=W) F.ap;have ls:(ji W).length<=174:=by rw[wK.length_eq];exact F.ln
 have dl:=F.dl;have nW:w4 W=W:=List.filter_eq_self.mpr λx hx=>by
  have:=(F.w x hx).2.2.2;simpa using this
 have H:Wv ns.length aw hp (ji W):=⟨λx hx=>⟨(hb x hx).2.2.1,(hb x hx).2.2.2⟩,λx hx=>⟨(hb x hx).1,by have:=(hb x hx).2.1;omega⟩,eJ,λx hx=>F.hw x<|wK.mem_iff.mp hx,F.hl,ls⟩;have(o,ewp,ps,p,rfl,J,sZ):=znU (Q:=λo=>∃ps p,o=(.d<|pd p,[.d<|mn ns (aw+1)<|ji W])/\WQ ns.length aw hp (ji W) ps/\ps[aw]?=ž p) n1 n3 dl.1 (by omega) H λps p J sZ=>⟨ps,p,rfl,J,sZ⟩;have(o,es,q,e,rfl,hq,he,JP,uL):=zkV (Q:=λo=>∃q e,o=(.t<|bg fR q,[.d<|iD ns t])/\PG ns.length e t.length q/\e<=400/\(∀u∈q,u.2≠0)/\∀g,aJ q g=((fB t.length).map λo=>(o.2:Rat) * NN ns.length (t.zip o.1) g (zs ns.length)).sum) n1 n3 hT λq e hq he JP uL=>⟨q,e,rfl,hq,he,JP,uL⟩;have pz:=J.pz _ _ sZ;have w1:=zq8 (W:=W) (V:=V) (by rw[nW];exact H) (by rw[nW];exact J) F.g aw p sZ;have pq:p.Perm q:=Zm pz.pg.nd pz.nz hq.nd JP λg=>by
  rw[w1,uL,znW rfl hT,<-F.v];rfl
 have sq:((aw+1:Nat):Int)<=(t.length:Int) * (t.length:Int) * ((t.length:Int)+1)+2:=by
  have h2:=dl.2;rcases(by omega:t.length=1\/t.length=2\/t.length=3\/t.length=4)with h|h|h|h<;>rw[h]at h2 ⊢<;>omega
 refine⟨_,ew,zq7 n3 ha (by omega) sq hb eJ,zmG n3 ha hl (by omega) hb eJ,⟨p,q,ewp,es,pq,hq.nd⟩,λneg=>Nq (neg:=neg) (XU (ls:=ns) (D0:=aw+1) (W:=ji W) n3 ha (by omega) ls λx hx=>⟨(hb x hx).1,(hb x hx).2.1,(hb x hx).2.2.1⟩) (by decide)⟩
def zDn(ns:Qa Int)(hl:ns.length<=63):Wo (vV [.d<|.list<|ns.map .int]) λo=>o=(.d<|.bool ż,[.d<|.list<|ns.map .int]):=by
 simp![vV,K6,ē];refine wz (λi ρ=>E7 λ(ts:Qa D) (o2 o3 o4 o5 o6 o7:Qb U)=>ρ=[ž<|.d<|.list<|ns.map .int,ž<|.l ts,o2,o3,o4,o5,o6,o7]/\ts.length=i/\∀d∈ts,Tb d) ⟨_,_,_,_,_,_,_,rfl,rfl,λd hd=>by cases hd⟩ ?_ ?_
 .rintro i d _ hd ⟨ts,o2,o3,o4,o5,o6,o7,rfl,ht,jO⟩
  have(hi,rfl):=Dw hd;have hi4:i < 4:=by
   refine qi hi ?_;split<;>split<;>omega
  simp!;refine zDe (by omega) λx y=>?_;simp!;refine iC (by decide) (by decide) λr x1 y1 r0 r1=>?_;simp!;refine X6 (by omega) (by omega) λls x2 y2 hls ha nY=>?_;have l1:1<=ls.length:=by omega
  have l3:ls.length<=3:=by omega
  simp!;refine X1 l1 l3 λt x3 y3 hT=>?_;simp!;exact⟨_,_,_,_,_,_,_,rfl,by simp[ht],λz hz=>by
   rcases Â.mp hz with hz|hz
   .exact jO z hz
   .cases qp.mp hz
    exact⟨ls,t,rfl,l1,l3,ha,nY,hT⟩⟩
 .rintro _ ⟨ts,o2,o3,o4,o5,o6,o7,rfl,ht,jO⟩
  have l4:ts.length<=4/\1<=ts.length:=by
   rw[ht,Dy];constructor
   .split<;>split<;>omega
   .split<;>split<;>omega
  obtain⟨d0,tl,rfl⟩:∃d0 tl,ts=d0::tl:=by
   cases ts with
   |nil=>simp at l4
   |cons a b=>exact⟨a,b,rfl⟩
  have(Ju,t0,rfl,n1,n3,ha0,AO,hT0):=jO _ qo;have(w0,T0):=OE n1 n3 ha0 AO hT0;have a0:cw (iD Ju t0::tl) 0=ž (iD Ju t0):=Dk (j:=0) rfl;simp![a0,T0.ok];refine wz (λi ρ=>E5 λ(o2 o3 o5 o6 o7:Qb U)=>ρ=[ž<|.d<|.list<|ns.map .int,ž<|.d<|.list<|iD Ju t0::tl,o2,o3,ž<|.d w0,o5,o6,o7]) ⟨_,_,_,_,_,rfl⟩ ?_ ?_
  .rintro i d _ hd ⟨o2,o3,o5,o6,o7,rfl⟩
   have(ls,t,rfl,l1,l3,ha,nY,hT):=jO d (Ì hd);have(w,T):=OE l1 l3 ha nY hT;have(p,q,e1,e2,pq,ndq):=T.pe;have lJ:aS (.d<|iD ls t) (.d<|.int 0)=ž (.d<|.tuple<|ls.map .str):=rfl;have JB:aS (.d<|iD ls t) (.d<|.int 1)=ž (.d<|.tuple<|t.map e9):=rfl;have iw:=T.iw;have m4:=hT.l4;have f1:g7 (.d<|.int (t.length:Int)) (.d<|.int (t.length:Int))=ž (.d<|.int<|(t.length:Int) * (t.length:Int)):=SO (by omega);have f2:g7 (.d<|.int<|(t.length:Int) * (t.length:Int)) (.d<|.int<|(t.length:Int)+1)=ž (.d<|.int<|(t.length:Int) * (t.length:Int) * ((t.length:Int)+1)):=SQ (by omega);have Uh:=zBo (w:=Ż) (u:=.d (.dict<|cB fR p)) (v:=.t (bg fR q)) (zBp p) rfl pq ndq;simp![lJ,JB,ē,f1,f2,T.ok,iw,T.lw,zBu,e1,e2,Uh];rw[a6Q (by decide)];simp![e1,e2,Uh];exact⟨_,_,_,_,_,rfl⟩
  .rintro _ ⟨o2,o3,o5,o6,o7,rfl⟩
   have es:=T0.es Ż;simp![a0,T0.ok,es]
def zBv(ns:Qa Int)(hl:ns.length<=63):∃outs,vV [.d<|.list<|ns.map .int]=ž (.d<|.bool ż,outs):=⟨_,zY<|zDn ns hl⟩
abbrev L8(K:qc):Sp:=qX K 1 vV
def all_mk{l:a2E}{fa:Qg}(X:K.In h)(G:h.Ns Ģ mg)(hfa:mg "law"=ž (.ref fa)){gG bG eD eA bE cc:Qg}{lD lI lR lA ik lT:Qc}{lB lV gR lC:Qb Qg}{lg gQ lh:Array (Qb Qc)}{bu dh:Array Qc}{dU i0:Nat}{dD cO:Tok}
  (a0:cU K "is_number" QN)
  (a1:cU K "common_factor" R3)
  (a2:cU K "is_fraction" Rv)
  (a3:cU K "is_letter" QM)
  (a4:cU K "are_letters" Ru)
  (a5:cU K "is_place" P5)
  (a6:cU K "look_letters" Rt)
  (a7:cU K "is_entry" P4)
  (a8:cU K "is_way" Oy)
  (a9:cU K "look_web" P2)
  (UL:cU K "steps_from" Rb)
  (UK:cU K "web_of_table" Rr)
  (UJ:cU K "_law_box" QL)
  (UI:cU K "_law_take" Ra)
  (UH:cU K "_law_names" RH)
  (UG:cU K "_law_fraction" RY)
  (UE:cU K "_law_plus" Q9)
  (UD:cU K "_law_times" RG)
  (UC:cU K "_law_poly_add" RW)
  (UB:cU K "_law_poly_mult" Sb)
  (UA:cU K "_law_poly_number" Sa)
  (Uz:cU K "_law_multiple" RV)
  (Uy:cU K "_law_entry" RF)
  (Ux:cU K "_law_table" RE)
  (Uw:cU K "_law_entry_poly" Sg)
  (Uv:cU K "_law_web_poly" RU)
  (Uu:cU K "_law_orders" Rq)
  (Ut:cU K "_law_signed_sum" Sf)
  (Us:cU K "_law_is_fraction" R9)
  (Ur:cU K "_law_is_entry" RT)
  (Uq:cU K "_law_is_whole" RQ)
  (Uo:cU K "_law_is_web" Ro)
  (Um:cU K "law" K7)
  (z0:Ī K Ģ "isinstance"=ž Ž)
  (z1:Ī K Ģ "int"=ž Ž)
  (z2:Ī K Ģ "bool"=ž Ž)
  (z3:Ī K Ģ "tuple"=ž Ž)
  (z4:Ī K Ģ "len"=ž Ž)
  (z5:Ī K Ģ "abs"=ž Ž)
  (z6:Ī K Ģ "str"=ž Ž)
  (z7:Ī K Ģ "all"=ž Ž)
  (z8:Ī K Ģ "set"=ž Ž)
  (z9:Ī K Ģ "enumerate"=ž Ž)
  (IM:Ī K Ģ "range"=ž Ž)
  (IL:Ī K Ģ "sorted"=ž Ž)
  (IJ:Ī K Ģ "dict"=ž Ž)
  (II:Ī K Ģ "zip"=ž Ž)
  (IH:Ī K Ģ "max"=ž Ž)
  (IG:Ī K Ģ "min"=ž Ž)
  (IQ:Ir K Sj SU=ż)
  (aW:Ī K Ģ "UndivideError"=ž (ž<|.ref gG))
  (aP:Ī K Ģ "BadLetters"=ž (ž<|.ref bG))
  (cH:ň K (.ref bG)=ż)
  (cI:ī K (.ref bG) "__init__"=ž (ž<|.builtin "ValueError.__init__"))
  (bD:Ī K Ģ "BadWay"=ž (ž<|.ref eD))
  (gA:ň K (.ref eD)=ż)
  (gB:ī K (.ref eD) "__init__"=ž (ž<|.ref eA))
  (gy:K.lookup eA=ž ⟨lD,lB,.func<|ό "__init__" "BadWay.__init__" (sF yO) (j0 yO) (zN yO) .none lI lR lA lV ik lT,lg⟩)
  (gE:a0k K ik "BadWay.__init__"=ż)
  (fe:ň K (.ref eA)=ż)
  (fq:a0Y K (.ref eA)=ż)
  (cL:Ī K Ģ "KEPT_WORDS"=ž (ž<|.ref bE))
  (cG:K.lookup bE=ž ⟨.type "tuple",gR,.seq bu dU,gQ⟩)
  (cF:zQ [.str "letters",.str "part",.str "rounds",.str "end",.str "give"] bu.toList)
  (cE:bu.size<=Ĕ)
  (bT:Ī K Ģ "MOST_LETTERS"=ž (ž<|.int 3 dD))
  (br:Ī K Ģ "LONGEST_LETTER"=ž (ž<|.int 5 cO))
  (gF:Ī K Ģ "NOUGHT"=ž (ž<|.ref cc))
  (gz:K.lookup cc=ž ⟨.type "tuple",lC,.seq dh i0,lh⟩)
  (gr:zQ [.int<|0,.int<|1] dh.toList)
  (gq:dh.size<=Ĕ)
  : ∃fd:Ϣ,(∀(s:Qd) (v:Qc),a4w s fd ⟨[v],[]⟩ [("_law_script",v)])/\∀base:ĵ,K.In base->base.Ns Ģ mg->bU l.prog w K mg base iS 6 fa fd ["_law_script"] (qX K 1 vV):=by
 have(_,fd,F,g):=Um;cases hfa.symm.trans (ô X G g);refine⟨fd,λs v=>by have(_,_,_,_,_,_,_,_,_,rfl,_):=F.ex;exact .of_eq rfl,λbase _ _=>?_⟩;have hB:Bl mg ["isinstance", "int", "bool", "tuple", "len", "abs", "str", "all", "set", "enumerate", "range", "sorted", "dict", "zip", "max", "min"]:=Bl.cons (È X G z0) (Bl.cons (È X G z1)<|Bl.cons (È X G z2)<|Bl.cons (È X G z3)<|Bl.cons (È X G z4)<|Bl.cons (È X G z5)<|Bl.cons (È X G z6)<|Bl.cons (È X G z7)<|Bl.cons (È X G z8)<|Bl.cons (È X G z9)<|Bl.cons (È X G IM)<|Bl.cons (È X G IL)<|Bl.cons (È X G IJ)<|Bl.cons (È X G II)<|Bl.cons (È X G IH)<|Bl.cons (È X G IG)<|Bl.nil);have hT:=zCH IQ;have fS:=ô X G aW;have cK:=ô X G aP;have bf:oh K mg "BadLetters" bG:=⟨aP,(hT.cl _ _ _ rfl aP).1.cl,cK,cH,cI⟩;have gC:=ô X G bD;have jf:=MR (st:=yO) gy gE fe;have aM:vh l.prog w K mg base "BadWay" eD "at":=⟨bD,(hT.cl _ _ _ rfl bD).1.cl,(hT.cl _ _ _ rfl bD).2 _ (by decide),gC,gA,⟨_,_,gB,fq,jf.binds (λ_ _ _ _ _ _ us hl=>by have(_,_,rfl):=BF hl;rfl),jf.ok (k:=0) znK (λvs H Q E h=>YY h) λbo A outer s H vs Q E hr pG=>⟨_,Oa<|Yf (pv 0) (pv 1) rfl,YX pG⟩⟩⟩;have cJ:=ô X G cL;have cu:xE K bE ["letters", "part", "rounds", "end", "give"]:=⟨_,bu,dU,cG,rfl,rfl,cE,cF⟩;have bR:=ô X G bT;have bq:=ô X G br;have cC:=ô X G gF;have bK:vn K cc [0,1]:=⟨_,dh,i0,gz,rfl,rfl,gq,gr⟩
 let Z:Zs:=⟨l.prog,w,K,mg,base⟩
 have B:Bs Z:=⟨hB,hT,⟨_,cJ,cu⟩,⟨_,bR⟩,⟨_,bq⟩,⟨_,cC,bK⟩,⟨_,aW,fS⟩,⟨_,aP,cK,bf⟩,⟨_,bD,gC,aM⟩⟩;have C0:=zmq B (a0.z X G);have C1:=zg5 B (a1.z X G);have C2:=ziX B (a2.z X G) C0 C1;have C3:=zmr B (a3.z X G);have C4:=ziY B (a4.z X G) C3;have C5:=znL B (a5.z X G) C0;have C6:=ziz B (a6.z X G) C4;have C7:=znM B (a7.z X G) C2 C5;have C8:=Za B (a8.z X G) C5 C7;have C9:=znN B (a9.z X G) C0 C6 C8;have C10:=zkN B (UL.z X G);have C11:=ziy B (UK.z X G) C10;have C12:=zms B (UJ.z X G);have Bw:=zkO B (UI.z X G);have C14:=ziZ B (UH.z X G) Bw;have Fb:=zgw B (UG.z X G);have U1:=zkP B (UE.z X G) Fb;have C17:=zi0 B (UD.z X G) Fb;have U0:=zgz B (UC.z X G) U1;have UZ:=zgb B (UB.z X G) U1 C17;have UY:=zeM B (UA.z X G);have C21:=zgy B (Uz.z X G) Bw Fb;have C22:=zi1 B (Uy.z X G) Bw C21;have C23:=zi2 B (Ux.z X G) Bw C22;have UX:=zfz B (Uw.z X G);have C25:=zgB B (Uv.z X G) U0 UZ UY UX;have C26:=ziw B (Uu.z X G);have C27:=zfC B (Ut.z X G) U0 UZ UY UX C26;have C28:=zeN B (Us.z X G) Fb;have C29:=zgA B (Ur.z X G) C28;have C30:=zgx B (Uq.z X G);have C31:=ziB B (Uo.z X G) C29 C30;exact zAZ (Z:=Z) B F C9 C11 C12 Bw C14 C23 C25 C27 C31
def walk{l:a2E}{q:Qe}{loose:Qa Str}{XP:(Str->Qb Qc)->ĵ->Prop}{YP:Qh->ĵ->Prop}{d:DefRec}{K:Params->qc}(hn:l.most=ž 63)(AX:d.params.defaults=[])
  (hY:∀(w:Qh) (h:ĵ),YP w h->(K w.params).In h)
  (F:∀(w:Qh) (mg:Str->Qb Qc) (fa:Qg) (h:ĵ),(K w.params).In h->h.Ns Ģ mg->mg d.name=ž (.ref fa)->
   ∃fd:Ϣ,(∀(s:Qd) (u:Qc),a4w s fd ⟨[u],[]⟩ [("_law_script",u)])/\∀base:ĵ,(K w.params).In base->base.Ns Ģ mg->bU l.prog w (K w.params) mg base iS 6 fa fd ["_law_script"] (L8<|K w.params)):
  a6i q loose XP YP l.row.toRowW d [] (λf vs=>a5n f vs):=
 Internal.qP (n:=63) (k:=6) (x := "_law_script") (CX:=λ_=>iS) (sp:=λw=>L8<|K w.params) hn (by decide) AX ⟨rfl,by decide,by decide,rfl⟩ hY F (λw H a ns hl hO hS=>Vq hO hS<|zBv ns hl) λ_ _ _ _ _ z=>z
end K48
namespace PySem.W.Fast
def tw15739172819356206334:=()
def tw15797666217888701247:=()
def tw13146435454494112335:=()
def tw10964923023542721740:=()
def tw17225856542154331585:=()
def tw2405697064789474986:=()
def tw12710876276547399256:=()
def tw12657575878612510718:=()
def tw1834689467387150131:=()
def tw1772966029654017010:=()
def tw11056765815438523950:=()
def tw3337516403030707638:=()
def tw10780599635425330966:=()
def tw13354714554778641492:=()
def tw2755741467789234266:=()
def tw379819103144338046:=()
def tw11598922850812029687:=()
def tw17051101376139731179:=()
def tw4522241594876383073:=()
def tw6387132812126396203:=()
def tw6913386553445429965:=()
def tw9041750778018774263:=()
def tw5466055418995744778:=()
def tw8702753824543095345:=()
def tw12227182582633353554:=()
def tw12689483372604554609:=()
def tw3224174109302945903:=()
def tw2893393957124955439:=()
def tw7333493050690086551:=()
def tw17230725527209225832:=()
def tw18397106363183191296:=()
def tw6329327570265827382:=()
def tw17591318578595224289:=()
def tw780336319213742384:=()
def tw8004971860534026321:=()
def tw1690161267348817665:=()
def tw10198800237563233580:=()
def tw12287840433410693937:=()
def tw282920623225135989:=()
def tw2589751318409196261:=()
def tw17347503084678945838:=()
def tw4839071218996893298:=()
def tw4691642840178088573:=()
def tw7164048565039085280:=()
def tw10785464313260987609:=()
def tw6591363636714824072:=()
def tw9743950729764788749:=()
def tw13132540671265812210:=()
def tw8642585277757161381:=()
def tw5662485670740807375:=()
def tw14754739564560858269:=()
def tw547713276837784678:=()
def tw15878437382094331956:=()
def tw14996566612158073738:=()
def tw17912341120090327073:=()
def tw13060228328208167852:=()
def tw2453273665159603839:=()
def tw6948692869539074423:=()
def tw15531584219213759814:=()
def tw16532351694618342226:=()
def tw7639879221700369476:=()
def tw1205966571520621556:=()
def tw13092856102179492282:=()
def tw4047256536666114396:=()
def tw1774526716968901230:=()
def tw1112457034158831192:=()
def tw9859437179849089567:=()
def tw9274418158760877442:=()
def tw5229813414705346813:=()
def tw17134249193392233290:=()
def tw4111280049598095732:=()
def tw5503282258922183259:=()
def tw12219995067863200103:=()
def tw6499750343975963639:=()
def tw8118074956844110319:=()
def tw8892143823624608461:=()
def tw11216852424077812134:=()
def tw16688245792917205955:=()
def tw18327315104479509420:=()
def tw18221215602208879477:=()
def tw15098026097586989503:=()
def tw2639581268884691136:=()
def tw7302081732010397644:=()
def tw18233400002317531538:=()
def tw15665893815513945843:=()
def tw8049471926891697847:=()
def tw17447825369727228453:=()
def tw1877460988406088459:=()
def tw15661856694825852147:=()
def tw17391043969449546241:=()
def tw13714432099158517717:=()
def tw4813366895785158407:=()
def tw7374313473009728766:=()
def tw16405549156127312673:=()
def tw15643277920124890839:=()
def tw5435670152203991046:=()
def tw7665486958267878584:=()
def tw18136669702010060313:=()
def tw15089904018663602970:=()
def tw16900600192271171778:=()
def tw2924605033562031531:=()
def tw9183958359027868157:=()
def tw7922681563555685867:=()
def tw11933556967755396511:=()
def tw13751483949258312732:=()
def tw15481575173472343287:=()
def tw15858799254639489836:=()
def tw14116672710228790309:=()
def tw359165571556871957:=()
def tw5355959057295357316:=()
def tw14003061045952123382:=()
def tw7698805229802780169:=()
def tw5353884923675742997:=()
def tw8487704122699280261:=()
def tw16477203878967963497:=()
def tw7887729112161222030:=()
def tw15145688012922115:=()
def tw9089081444146086609:=()
def tw12373349472251350244:=()
def tw13804367944217079025:=()
def tw80925337360179039:=()
def tw9157226697772652553:=()
def tw12729822781003532804:=()
def tw336088933091625766:=()
def tw1602785275444611364:=()
def tw16331735628106783926:=()
def tw10978505036963401663:=()
def tw2372455706646632098:=()
def tw7107882639441174318:=()
def tw11969888181737617049:=()
def tw1741982161324963040:=()
def tw13093270858831152128:=()
def tw8977978086266580480:=()
def tw3813800692047547352:=()
def tw5926845855104488715:=()
def tw12000897155535556855:=()
def tw8937624257080478938:=()
def tw10854108275297713693:=()
def tw16741588273608446903:=()
def tw14364966840556410322:=()
def tw17361521639983163788:=()
def tw9585168441485162097:=()
def tw17535575272038139595:=()
def tw1304121707422646327:=()
def tw1765045856885020748:=()
def tw327428057580718254:=()
def tw10597954959810968956:=()
def tw5640860925758756019:=()
def tw3792355792413781361:=()
def tw1879758544896470832:=()
def tw10620104980409934305:=()
def tw5332058094123949864:=()
def tw12719852064425660840:=()
def tw2063131137956264648:=()
def tw15883527863193984918:=()
def tw11290168779871941312:=()
def tw12247209483685582732:=()
def tw5407112727318934173:=()
def tw14179573164264367283:=()
def tw14714066738533796309:=()
def tw16533652271328916120:=()
def tw6776399882651478800:=()
def tw13166860411775942199:=()
def tw14243663754137410702:=()
def tw797751456528601481:=()
def tw7534614631381614828:=()
def tw14240660992589235906:=()
def tw4168182597363473964:=()
def tw17730571425937624301:=()
def tw6310185795962459486:=()
def tw2569997402736596327:=()
def tw14252725914624288261:=()
def tw4522125835503250582:=()
def tw10871118226564898399:=()
def tw17761368434205183354:=()
end PySem.W.Fast
open PySem PySem.W PyProof.Rows
set_option maxRecDepth 100000 in
set_option maxHeartbeats 0 in
theorem PySem.Challenge.cw_undivide_k48_whole_back_from_tables_holds : PySem.Challenge.rw_undivide_k48_whole_back_from_tables.Holds := by
 w_on;o_law;k_head;(case hw=>w_witness2)
 k_fill
 refine K48.walk (l:=PySem.Challenge.rw_undivide_k48_whole_back_from_tables) rfl rfl (λw h Y=>PySem.W.kIn_of Y) ?F
 case F=>
  intro w mg fa h KX G AN;refine' K48.all_mk KX G AN ?a0 ?a1 ?a2 ?a3 ?a4 ?a5 ?a6 ?a7 ?a8 ?a9 ?UL ?UK ?UJ ?UI ?UH ?UG ?UE ?UD ?UC ?UB ?UA ?Uz ?Uy ?Ux ?Uw ?Uv ?Uu ?Ut ?Us ?Ur ?Uq ?Uo ?Um ?z0 ?z1 ?z2 ?z3 ?z4 ?z5 ?z6 ?z7 ?z8 ?z9 ?IM ?IL ?IJ ?II ?IH ?IG ?IQ ?aW ?aP ?cH ?cI ?bD ?gA ?gB ?gy ?gE ?fe ?fq ?cL ?cG ?cF ?cE ?bT ?br ?gF ?gz ?gr ?gq
  any_goals (refine' Internal.fnK ?_ ?_ ?_ ?_<;>try k_is)
  (case z0=>k_is)
  (case z1=>k_is)
  (case z2=>k_is)
  (case z3=>k_is)
  (case z4=>k_is)
  (case z5=>k_is)
  (case z6=>k_is)
  (case z7=>k_is)
  (case z8=>k_is)
  (case z9=>k_is)
  (case IM=>k_is)
  (case IL=>k_is)
  (case IJ=>k_is)
  (case II=>k_is)
  (case IH=>k_is)
  (case IG=>k_is)
  (case IQ=>kernel_rfl)
  (case aW=>k_is)
  (case aP=>k_is)
  (case cH=>k_is)
  (case cI=>k_is)
  (case bD=>k_is)
  (case gA=>k_is)
  (case gB=>k_is)
  (case gy=>k_is)
  (case gE=>k_is)
  (case fe=>k_is)
  (case fq=>k_is)
  (case cL=>k_is)
  (case cG=>k_is)
  (case cF=>(repeat (first|exact .nil|refine .cons ⟨_,rfl⟩ ?_)))
  (case cE=>exact by decide)
  (case bT=>k_is)
  (case br=>k_is)
  (case gF=>k_is)
  (case gz=>k_is)
  (case gr=>(repeat (first|exact .nil|refine .cons ⟨_,rfl⟩ ?_)))
  (case gq=>exact by decide)
