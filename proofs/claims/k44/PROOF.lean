import PyProof.Rows.All
import Wide.All
import OpenK.AllK
import Wide.FinOn
import Lean
import PyProof.EqAt
import PyProof.EqKinds
import PyProof.TupleCall
import PySem.Challenge.RW_undivide_k44_whole_webs_of_reckonings
set_option Elab.async false
set_option linter.all false
set_option maxRecDepth 100000
set_option compiler.extract_closed false
set_option bootstrap.genMatcherCode false
set_option genSizeOf false
local macro_rules | `(tactic| omega)=> `(tactic| lia)
noncomputable section
open Lean in
local macro_rules|`(tactic|have($a,$b,*):=$e)=>do
 let p<-(#[a]++b.getElems).mapM λx=>match x with|`($i:ident)=>`(Parser.Tactic.rcasesPatLo|$i:ident)|_=>`(Parser.Tactic.rcasesPatLo|_)
 `(tactic|obtain⟨$p,*⟩:=$e)
open Option renaming some→ž,none→Ž
open Bool renaming true→ż,false→Ż
open Array renaming length_toList→Ġ,toList_push→ň,getElem?_toList→ů,toList_extract→ϝ,toList_append→ϩ,reverse_reverse→Κ,size→Μ,reverse_append→δ,toList→ο,append_empty→a0e,toList_reverse→a1j,forIn_toList→a1D,toList_map→a2k,toList_setIfInBounds→a2V,perm_iff_toList_perm→a2W,getElem?_extract→a3z,getD→a4G,extract_zero→a4H,append_assoc→a4I,all_toList→a5b
open Array.Perm renaming refl→a0u
open Bool renaming false_eq_true→Ě,and_eq_true→ĩ,not_true→Ł,not_false→ϡ,eq_iff_iff→ϰ,false_or→a0A,true_and→a1C,not_eq_true'→a1Z,or_true→a3H,or_eq_false_iff→a4p,and_eq_true_iff→a4q
open False renaming elim→ō
open ForInStep renaming yield→Ũ,done→ϯ
open Int renaming toNat_natCast→İ,natAbs_natCast→Ś,gcd→Ŝ,natCast_add→š,natAbs_mul→ϑ,le_of_lt→Ζ,fdiv_eq_ediv_of_nonneg→a0m,mul_neg→a0z,eq_ofNat_of_zero_le→a0N,zero_add→a1c,mul_nonneg→a1q,le_refl→a2B,natCast_mul→a2Q,gcd_pos_of_ne_zero_right→a2R,gcd_comm→a3Z,add_zero→a4a
open List renaming length_map→ċ,replicate→č,map_cons→Ē,size_toArray→ē,map_append→ĕ,getElem?_map→ė,getElem?_append_right→ę,getElem?_append_left→Ĝ,mem_append→ğ,range→ĥ,length_replicate→Ħ,find?_cons→ħ,length_set→ī,getElem?_set_self→Ĭ,map_map→ĳ,append_assoc→Ķ,sum_cons→ĺ,not_mem_nil→Ļ,length_take→Ŀ,lookup_cons→Ņ,getElem?_replicate→Ō,length_nil→Ő,map_nil→Œ,replicate_succ→Ŕ,append_nil→ŕ,drop_eq_getElem_cons→Ţ,length_singleton→ţ,length_drop→ť,any_cons→ŭ,getElem?_eq_none→ų,extract_eq_drop_take→ŵ,flatten_cons→ź,lookup_append→ϒ,take_append_drop→ϗ,getElem?_cons_zero→ϵ,getElem?_cons_succ→Ϸ,length_range→Β,filter_cons→Ο,all_cons→Χ,mapM_cons→a0f,getElem?_drop→a0g,forIn_nil→a0h,length→a0s,ext_getElem?→a0t,eq_of_mem_replicate→a0y,take_of_length_le→a0R,length_take_of_le→a0S,nil_append→a0Z,forIn_cons→a1a,getElem_of_mem→a1t,getElem?_range→a1u,filterMap_cons→a1v,zip_cons_cons→a1F,foldl→a1G,contains_cons→a1H,toArray→a1W,take_succ_eq_append_getElem→a1X,pairwise_map→a1Y,take_length→a2o,getElem_mem→a2p,of_mem_zip→a2z,nodup_cons→a2A,nodup_nil→a2Y,map→a2Z,pairwise_singleton→a3y,sum_nil→a3F,set_append_right→a3Y,mem_of_mem_take→a4j,mem_of_mem_drop→a4k,map_id→a4l,map_congr_left→a4E,length_zipWith→a4F,map_inj_right→a4P,filter_append→a4Q,range'_zero→a5k,range'_succ→a5l,nodup_range→a5m,map_zipWith→a5n,getElem_inj→a5o,drop_length→a5p,countP_cons→a5q,cons_append→a5r,all_eq_true→a5s
open List.Pairwise renaming imp_of_mem→a1P,nil→a3b
open List.Perm renaming append_left→a3a
open List.cons renaming injEq→a4m
open Nat renaming add_sub_cancel_left→ŀ,add_sub_cancel→ŏ,pow_add→ś,add_assoc→ş,zero_add→Š,le_add_right→ϧ,add_zero→Ϩ,le_of_lt_succ→Ε,not_lt_zero→ν,add_mul→a0x,lt_of_succ_lt_succ→a0Y,strongRecOn→a1f,le_add_left→a1g,pow_pos→a1n,add_le_add_left→a1z,sub_zero→a2g,lt_trans→a2h,le_of_not_lt→a2w,mul_pos→a2y,lt_irrefl→a3x,sub_self→a3V,le_mul_of_pos_left→a3W,add_comm→a3X,one_mul→a4B,log2_lt→a4C,div_one→a4D,pow_le_pow_left→a4N,mul_le_mul_left→a4O,lt_or_gt_of_ne→a4X,lt_or_eq_of_le→a4Y,lt_of_le_of_lt→a4Z,lt_trichotomy→a5h,lt_succ_of_le→a5i,lt_of_succ_lt→a5j,zero_lt_succ→a5G,not_lt_of_le→a5H,not_le_of_lt→a5I,lt_succ_self→a5J
open Nat.succ renaming inj→ώ
open Ne renaming symm→ĭ
open Option renaming bind_some→Ι,bind→Ξ,getD_some→a1U,getD_none→a1V,map_some→a2n,isSome_some→a4i
open Option.some renaming injEq→a3t
open Or renaming inr→a1e,inl→a1T
open PyProof renaming noPylong_of_log2→a2N
open PyProof.Rows renaming wpS_bind→ď,wpS_pure→Ĕ,pendingOf→Ę,Keyed→ě,arrOf→Ğ,SortSt→ģ,wpS_forRange→ń,wpS_mono→ŗ,kindOf→Ř,gallopOf→ř,slot_tuple_getitem→ű,wpS_modify→Ŷ,elem'→ϱ,failedOf→Ϻ,envOfC→θ,wpS_get→π,IntsAre→a0a,seqObj→a0k,slot_tupleiter_next→a0o,AllBare→a0U,wpS_lift→a1J,assignInOrder_cons→a2t,boot_abs→a2v,SortKind→a2J,IsTup→a2P,setPending→a3J,bubble→a3M,subscriptTail→a4t,listUpdate_at→a4v,subscriptTail_builtinR→a4T,entry_tupleiter_next→a5B
open PyProof.Rows.IntsAre renaming length→a1b
open PyProof.Rows.SortSt renaming mk'→a4d
open PySem renaming wpAny→Č,sizeLine→Ď,model→Đ,mainGlobals→ĝ,compareOp→Ĥ,wpAny_bind→Ī,Heap→Į,Expr→į,cellsFrom→ı,sysModules→Ĳ,starEach→ķ,wpAny_call_entry→ĸ,wpAny_field→ļ,wpAny_dictEntries→Ľ,wpAny_truthy_bool→Ń,wpAny_holding→Ŋ,wpAny_mono→ŋ,wpAny_callSpecial?_slot→ő,wpAny_pure→œ,Stmt→Ş,wpAny_rule→ũ,FuncData→ū,eval→Ŭ,binaryOp→Ů,bootBuiltins→Ű,wpAny_isInstance→Ŵ,wpAny_setField→ŷ,rawInt→Ÿ,wpAny_loadPart_at→ό,attributeBase→ϐ,wpAny_seqItems→ϓ,wpAny_typeNameOfWhole_keyiter→ϖ,wpAny_Call_Name_kw→Ϙ,assignEach→ϙ,wpAny_passesOwn→ϛ,wpAny_dictEpoch→Ϝ,DictEntry→Ϡ,wpAny_notOrdered_dict→Ϣ,wpAny_richCompare_same_room→Ϥ,Paired→ϫ,wpAny_forIn_list→ϭ,codeAny_mono→Ϯ,PyData→ϴ,start→Ϲ,cLine→ϻ,wpAny_specialOf→Α,backTo→Γ,tupleKind→Η,Value→Θ,wpAny_newObj_type→Ρ,foldedSetIterable→Τ,Result→Υ,NameKind→Φ,BindsTo→Ω,Shared→ι,wpAny_standAt→ς,wpAny_attempt→τ,behindInMarks→υ,sliceBounds→a0b,GenState→a0d,wpAny_execs_nil→a0j,wpAny_isSubtype_exc→a0n,codeAny→a0q,swapsWith→a0v,wpAny_call→a0B,isInstance→a0C,call_meets→a0D,holding→a0P,getItem→a0Q,assign→a0V,wpAny_eqBool_int→a1h,pyNext→a1l,entryOfKey→a1m,Keyword→a1o,IsPair→a1p,letOwnedTupleGo→a1r,sizeLine_eq→a1K,firstArgMember→a1L,excClassObj→a1M,IsPart→a1Q,setFlight→a1R,lastMarks→a1S,swapsWithSole→a2l,swappedStores→a2m,wpAny_tupleItemsOf→a2r,tupleKind_room_in1→a2s,wpAny_typeOf→a2D,valueAt→a2E,concat_meets→a2F,callerA→a2G,Scope→a2K,Model→a2O,typeOf→a3d,noFill_tuple_add→a3e,isTrue→a3f,subscripted→a3l,keywordEach→a3m,wpAny_ite_false→a3u,standAt→a3A,argBest→a3B,Program→a3C,typeLookup→a3I,reduceHash→a3K,newFunctionEnv→a3L,bindName→a3N,PlainAttrs→a3U,wpAny_onRaise→a4r,wpAny_comprehension_free→a4s,seq_tuple_add→a4u,assignInOrder→a4w,call→a4z,noteFrame→a4J,list_append→a4K,PassesOwn→a4M,seqIndex_neg→a4U,seqSlot_of→a4V,wpAny_isOneOf_keyiter→a5c,isSubtype_tuple_tuple→a5d,wpAny_updateSeq_pair→a5A,codeAny_call_builtin→a5C
open PySem.Around renaming under→a1I
open PySem.AutoSeq1 renaming wpAny_loadPart'→ŉ
open PySem.BindsTo renaming of_defaults→a1i,of_eq→a5z
open PySem.Builtin.Dict renaming dictSlotArgs→ŝ,showsAll→Ϗ,samePairs→Ϫ,entriesForEmpty→a1w,updateFrom→a2j,quietEq→a2C
open PySem.Builtin.Dict_items renaming ownsTuple→a0T
open PySem.Builtin.ObjectAttr renaming storeInDict→a0H,storeInOwnDict→a5w,newKeyGuard→a5x,find→a5y
open PySem.Builtin.Slice renaming slicePlaces→ϔ,sliceAdjust→Ψ,sliceApplied→a1B
open PySem.Builtin.SmallTypes renaming nextOf→Ň,ownedTupleIsFree→Ť,ownedTupleHandOut→a0i
open PySem.Builtin.Str renaming glued→a5F
open PySem.Builtin.Tuple renaming tupleHashOf→ľ,tupleExact→Ϛ,tupleCompareSizes→Ϭ,tupleItemsOf→Λ
open PySem.Calls renaming callWith_builtin→a0O,spliced_cons→a1A,Name_function_global→a2U,evalArgs_plain→a4b,spliced_nil→a4S
open PySem.Code renaming isFrame→a3G,quiet_builtin→a4R
open PySem.Data renaming cell→a2q,seq→a4n,fields→a4o
open PySem.EntryCells renaming newEntry→a3k
open PySem.F renaming args_tuple_add_2→a0l,entry_tuple_add→a0r,slot_tuple_add→a0F,sub_dict_dict→a0K,slot_dict_get→a0L,slot_zip_next→a1k,args_tuple_mul_2→a2i,entry_tuple_mul→a2x,slot_tuple_mul→a2S,args_dict_keyiterator_next_1→a2T,args_dict_get_3→a2X,entry_dict_keyiterator_next→a3c,plainAttrs_str→a3h,entry_dict_get→a3i,args_dict_eq_2→a3j,type_str_join→a3p,slot_tuple_eq→a3q,slot_str_join→a3r,entry_dict_eq→a3s,slot_dict_ne→a3w,args_list_append_2→a5a,entry_list_append→a5v,slot_list_append→a5K
open PySem.Heap renaming size_push→Ŏ,SameBut→Ϧ,get?_update_ne→ξ,size_update→a5t,IsTupleIter→a5u
open PySem.Heap.SameBut renaming update→a5g
open PySem.IsL renaming update→a3T
open PySem.NameKind renaming cell→Ū,free→ϥ
open PySem.Obj renaming mapFields→Ĵ,mapSeq→Ų,cls_mapFields→a2f,data_mapFields→a4W
open PySem.Paired renaming length→a0p,snoc→a3E
open PySem.PassesOwn renaming leaving→a3D,never→a4h
open PySem.PyData renaming int→Ģ,str→ł,hasDict→ϋ,hasDictAll→ϕ,tuple→ϟ,canLayAll0→ϸ,shownAll→ε,depth→a0G,depthAll→a0M,canLay0→a1d,eqv→a1s,dict→a2e,showableAll→a4g
open PySem.SeqAt renaming shaped→ϣ,canLay_of_shaped→a0J
open PySem.SeqAt.EqAt renaming str_int→a3n,int_str→a3o,same→a3P
open PySem.Shared renaming TypeIs→a5D
open PySem.Str renaming ofString→ŧ,ofString→η,ofString_eq_toList→a1O
open PySem.Txt renaming join→a0I
open PySem.Value renaming none→đ,ref→Ė,builtin→Ν,int→a0E,str→a2a,type→a2H,bool→a2I,float→a3O
open PySem.Value.type renaming inj→a4c
open PySem.W renaming findIn→ġ,nsIn→Ĩ,keepIn→ĵ,fnOf→ņ,kitOne→Ŧ,mroIn→Ź,tailIn→ſ,codeIn→ϊ,emptyDict→ϳ,isFn→ζ,tail_of_in→μ,lookIn→a0X,specialIn→a1x,methodObj→a1y,takesIn→a2b,instObj→a2c,OpenLaw→a2d,notCls→a2u,clsIn→a2M,cellsFrom_some→a3g,kitx_tuple→a3R,check_slot→a3S,kitx_list→a4e,kitx_dict→a4f,plainGet→a4A,findObj→a4L,WalkO→a5f
open PySem.WalksT renaming enumerateD→a4x
open Rat renaming divInt→Ĺ,add_zero→Ŗ,intCast_mul→ϲ,intCast_natCast→ω,zero_add→a0c,one_mul→a0w,add_assoc→a1E,num_divInt_den→a1N,num_eq_zero→a2L,mul_assoc→a3v,mul_zero→a3Q,neg_mul→a4y,divInt_eq_div→a5e,divInt_ofNat→a5E
open Std.Legacy.Range renaming forIn_eq_forIn_range'→ύ,size→χ
open Sum renaming inl→Δ,inr→a0W
open True renaming intro→Ϟ
abbrev a5L.{u}:=@if_pos.{u}
abbrev a5M.{u}:=@if_neg.{u}
abbrev a5N:=@decide_eq_true
abbrev a5O:=@decide_eq_false
abbrev a5P:=@of_decide_eq_true
abbrev a5Q.{u}:=@beq_self_eq_true.{u}
namespace Internal
open PySem PySem.Spec PyProof.Rows
abbrev À:=@Nat.zero_le
abbrev Á:=@PySem.F.plainAttrs_list
abbrev Â:=@PySem.F.slot_list_append
abbrev Ã:=@PySem.F.type_list_append
abbrev Ä.{u,v}:=@List.mem_map.{u,v}
abbrev Å:=@PyProof.Rows.boot_isinstance
abbrev Æ:=@PySem.boot_len
abbrev Ç:=@ϧ
abbrev È.{u}:=@List.mem_append.{u}
abbrev É:=@a4Z
abbrev Ê.{u}:=@Array.getElem?_eq_some_iff.{u}
abbrev Ë:=@Nat.mul_le_mul_right
abbrev Ì:=@PySem.Heap.get?_update_other
abbrev Í.{u}:=@List.mem_of_getElem?.{u}
abbrev Î:=@PySem.W.mg_none_of
abbrev Ï:=@PyProof.Rows.boot_tuple
abbrev Ð:=@a3x
abbrev Ñ:=@Nat.exists_eq_add_of_le
abbrev Ò.{u}:=@List.mem_append_left.{u}
abbrev Ó:=@Nat.lt_or_ge
abbrev Ô:=@PySem.Heap.get?_update_self
abbrev Õ:=@List.mem_range
abbrev Ö:=@PySem.W.kia_one
abbrev Ø.{u,v}:=@List.map_congr_left.{u,v}
abbrev Ù:=@Nat.add_lt_add_left
abbrev Ú:=@PySem.Obj.isFreed_of_fields
abbrev Û:=@PyProof.Rows.boot_int
abbrev Ü.{u}:=@List.pairwise_cons.{u}
abbrev Ý.{u}:=@List.pairwise_iff_getElem.{u}
abbrev Þ:=@Nat.lt_of_add_lt_add_left
abbrev ß:=@PySem.F.slot_dict_keyiterator_next
abbrev à:=@Nat.pow_le_pow_right
abbrev á.{u}:=@List.mem_filter.{u}
abbrev â:=@Nat.le_of_lt
abbrev ã.{u}:=@Array.perm_iff_toList_perm.{u}
abbrev ä.{u}:=@List.all_eq_true.{u}
abbrev å:=@Nat.le_max_right
abbrev æ:=@PySem.Obj.data_mapFields
abbrev ç:=@Nat.le_max_left
abbrev è:=@Nat.lt_succ_of_lt
abbrev é:=@a5g
abbrev ê:=@a5J
abbrev ë:=@PyProof.Rows.callWith_type1
abbrev ì:=@a2h
abbrev í:=@Nat.le_of_eq
abbrev î.{u}:=@List.length_filter_le.{u}
abbrev ï:=@PySem.W.mg_of
abbrev ð:=@PySem.W.looks_findIn
abbrev ñ:=@Nat.ne_of_gt
abbrev ò.{u}:=@Option.isSome_iff_exists.{u}
abbrev ó:=@Int.mul_ediv_cancel_left
abbrev ô:=@PySem.mem_of_lookup
abbrev õ:=@PySem.F.slot_tuple_hash
abbrev ö:=@Int.emod_nonneg
abbrev ø:=@Int.emod_lt_of_pos
abbrev ù.{u}:=@List.getElem?_set_self.{u}
abbrev ú:=@a0Y
abbrev û:=@PyProof.Rows.boot_bool
abbrev ü.{u}:=@List.eq_nil_of_length_eq_zero.{u}
abbrev ý.{u,v}:=@List.pairwise_map.{u,v}
abbrev þ:=@Ε
abbrev ÿ:=@Nat.mul_le_mul
abbrev Ā.{u}:=@List.perm_append_comm.{u}
abbrev ā:=@PyProof.Rows.boot_max
abbrev Ă:=@Int.dvd_gcd_mul_iff_dvd_mul
abbrev ă.{u}:=@Array.ext'.{u}
abbrev Ą:=@PySem.F.slot_dict_eq
abbrev ą.{u}:=@List.pairwise_append.{u}
abbrev Ć:=@Nat.le_sub_one_of_lt
abbrev ć:=@Int.eq_of_mul_eq_mul_right
abbrev Ĉ:=@Nat.le_succ
abbrev ĉ.{u}:=@List.nodup_cons.{u}
abbrev Ċ:=@PySem.W.callWith_K
abbrev Qa.{u}:=@List.{u}
abbrev Qb.{u}:=@Option.{u}
abbrev Qc:=Θ
abbrev Qd:=ι
abbrev Qe:=a3C
abbrev Qf:=Around
abbrev Qg:=Addr
abbrev Qh:=World
abbrev qa:=@Ī
abbrev qb:=@œ
abbrev qc:=PySem.W.Frag
abbrev qd:=@Heap.get?_push_of_some
abbrev qe:=@Nat.le_refl
abbrev qf:=@Bool.false_ne_true
abbrev qg:=@Heap.get?_push_size
abbrev qh:=@Heap.lt_size
abbrev qi:=@Nat.lt_of_lt_of_le
abbrev qj:=@Nat.ne_of_lt
abbrev qk.{u}:=@List.getElem?_eq_some_iff.{u}
abbrev ql.{u}:=@List.getElem?_eq_getElem.{u}
abbrev qm.{u}:=@List.mem_cons_of_mem.{u}
abbrev qo.{u}:=@List.mem_cons_self.{u}
abbrev qp.{u}:=@List.mem_singleton.{u}
abbrev qq.{u,v}:=@Option.map_eq_some_iff.{u,v}
abbrev qr.{u}:=@List.length_append.{u}
abbrev qt.{u}:=@List.length_cons.{u}
abbrev qu.{u}:=@List.mem_cons.{u}
abbrev qv.{u}:=@List.mem_append_right.{u}
abbrev qw.{u}:=@Option.some.inj.{u}
abbrev qx:=@Nat.le_trans
abbrev qy:=@Ρ
abbrev qA.{u}:=@List.getD_eq_getElem?_getD.{u}
abbrev qB.{u}:=@List.getElem?_set_ne.{u}
abbrev Key:=Sum Int Str
noncomputable def vV:Key->Qc->Bool
 |.inl k,v=>Value.isInt k v
 |.inr x,v=>Value.isStrOf x v
noncomputable def SI(w:Qh):Key->Int
 |.inl k=>hashInt k
 |.inr x=>hashStr w x
def lR:∀{k:Key} {v:Qc},vV k v=ż->(∃i t,k=Δ i/\v=a0E i t)\/(∃x t,k=a0W x/\v=a2a x t)
 |.inl i,v,h=>by
  have(t,e):=Value.isInt_shape (k:=i) (v:=v) h;exact .inl ⟨i,t,rfl,e⟩
 |.inr x,v,h=>by
  have(t,e):=Value.isStrOf_shape (x:=x) (v:=v) h;exact .inr ⟨x,t,rfl,e⟩
def zpt(i:Int)(t:Tok):vV (.inl i) (.int i t)=ż:=by simp[vV,Value.isInt]
def zpu(x:Str)(t:Tok):vV (.inr x) (.str x t)=ż:=by simp[vV,Value.isStrOf]
def WY(a b:Int):decide ((Δ a:Key)=Δ b)=(a==b):=by
 by_cases e:a=b
 .subst e;simp
 .have h:¬(Δ a:Key)=Δ b:=λq=>e<|Sum.inl.inj q
  rw[a5O h];exact(beq_eq_false_iff_ne.mpr e).symm
def WX(a b:Str):decide ((a0W a:Key)=a0W b)=decide (a=b):=by
 by_cases e:a=b
 .subst e;simp
 .have h:¬(a0W a:Key)=a0W b:=λq=>e<|Sum.inr.inj q
  rw[a5O h,a5O e]
def WW(a:Int)(b:Str):decide ((Δ a:Key)=a0W b)=Ż:=a5O (λq=>nomatch q)
def WV(a:Str)(b:Int):decide ((a0W a:Key)=Δ b)=Ż:=a5O (λq=>nomatch q)
def dq(prog:Qe)(w:Qh):PySem.KeyKind prog w Key where
 is:=vV
 hash:=SI w
 inj:=λv a b ha hb=>by
  rcases lR ha with⟨i,t,rfl,rfl⟩|⟨x,t,rfl,rfl⟩
  .rcases lR hb with⟨j,u,rfl,e⟩|⟨y,u,rfl,e⟩
   .injection e with e1 _;rw[e1]
   .exact nomatch e
  .rcases lR hb with⟨j,u,rfl,e⟩|⟨y,u,rfl,e⟩
   .exact nomatch e
   .injection e with e1 _;rw[e1]
 byValue:=λk v h=>by
  rcases lR h with⟨i,t,rfl,rfl⟩|⟨x,t,rfl,rfl⟩<;>rfl
 pyHash:=λhv h=>by
  rcases lR hv with⟨i,t,rfl,rfl⟩|⟨x,t,rfl,rfl⟩
  .exact wpAny_pyHash_int h
  .exact wpAny_pyHash_str h
 eqBool:=λhu hv h=>by
  rcases lR hu with⟨i,t,rfl,rfl⟩|⟨x,t,rfl,rfl⟩
  .rcases lR hv with⟨j,u,rfl,rfl⟩|⟨y,u,rfl,rfl⟩
   .rw[WY]at h;exact a1h h
   .rw[WW]at h;exact a3o i t y u _ _ _ _ h
  .rcases lR hv with⟨j,u,rfl,rfl⟩|⟨y,u,rfl,rfl⟩
   .rw[WV]at h;exact a3n x t j u _ _ _ _ h
   .rw[WX]at h;exact wpAny_eqBool_str h
 «strs»:=λk x t v h=>by
  rcases lR h with⟨i,u,rfl,e⟩|⟨y,u,rfl,e⟩
  .exact nomatch e
  .injection e with e1 _
   subst e1;cases v<;>rfl
def zkq(prog:Qe)(w:Qh)(i:Int)(t:Tok):(dq prog w).is (.inl i) (.int i t)=ż:=zpt i t
def zkr(prog:Qe)(w:Qh)(x:Str)(t:Tok):(dq prog w).is (.inr x) (.str x t)=ż:=zpu x t
inductive V where
 |aK|bl (b:Bool) |int (i:Int) |str (x:Str) |lh (b:Array UInt8) |vh (b:UInt64) |ref (a:Qg) |ty (n:String)
 deriving DecidableEq
def aP:V->Qc->Prop
 |.aK,u=>u=đ
 |.bl b,u=>u=a2I b
 |.int i,u=>∃t,u=a0E i t
 |.str x,u=>∃t,u=a2a x t
 |.lh b,u=>∃t,u=Value.bytes b t
 |.vh b,u=>∃t,u=a3O b t
 |.ref a,u=>u=Ė a
 |.ty n,u=>u=a2H n
abbrev zY:Qa V->Qa Qc->Prop:=ϫ aP
def zY.length{xs:Qa V}{us:Qa Qc}(r:zY xs us):xs.length=us.length:=a0p r
def zY.get:∀{xs:Qa V} {us:Qa Qc} {i:Nat} {x:V},zY xs us->xs[i]?=ž x->∃u,us[i]?=ž u/\aP x u
 |_,_,_,_,.nil,e=>by simp at e
 |_,_,0,_,.cons r _,e=>by simp at e;subst e;exact⟨_,rfl,r⟩
 |_,_,i+1,x,.cons _ t,e=>by
  have(u,h1,h2):=zY.get (i:=i) (x:=x) t (by simpa using e);exact⟨u,by simpa using h1,h2⟩
def zY.set{x:V}{u:Qc}(r:aP x u):∀{xs:Qa V} {us:Qa Qc} (i:Nat),zY xs us->zY (xs.set i x) (us.set i u)
 |_,_,_,.nil=>.nil
 |_,_,0,.cons _ t=>.cons r t
 |_,_,i+1,.cons q t=>.cons q<|zY.set r i t
def zY.append{xs ys:Qa V}{us ws:Qa Qc}(h:zY xs us)(s:zY ys ws):zY (xs++ys) (us++ws):=by
 induction h with
 |nil=>exact s
 |cons r _ ih=>exact .cons r ih
def zY.take:∀{xs:Qa V} {us:Qa Qc} (n:Nat),zY xs us->zY (xs.take n) (us.take n)
 |_,_,0,_=>.nil
 |_,_,_+1,.nil=>.nil
 |_,_,n+1,.cons r t=>.cons r<|zY.take n t
def zY.drop:∀{xs:Qa V} {us:Qa Qc} (n:Nat),zY xs us->zY (xs.drop n) (us.drop n)
 |_,_,0,r=>r
 |_,_,_+1,.nil=>.nil
 |_,_,n+1,.cons _ t=>zY.drop n t
def jI:Qb V->Qb Qc->Prop
 |some v,ž u=>aP v u
 |none,Ž=>True
 |_,_=>False
def KV{κ:Type}:Qa (κ×V)->Qa (κ×Qc)->Prop:=ϫ λ(p:κ×V) (q:κ×Qc)=>p.1=q.1/\aP p.2 q.2
def kV:Key->V
 |.inl i=>.int i
 |.inr x=>.str x
structure IK (prog:Qe) (w:Qh) (J:Type) [DecidableEq J] where
 is:Į->J->Qc->Prop
 hash:J->Int
 draws:J->Nat
 jc:Nat
 inj:∀{h:Į} {v:Qc} {x y:J},is h x v->is h y v->x=y
 keeps:∀{h h':Į} {k:J} {v:Qc} {d:Qg} {o:Obj} {es ep},is h k v->h.get? d=ž o->o.data=.dict es ep->Ϧ d h h'->is h' k v
 pyHash:∀{A:Qf} {E:Qc->Qd->Prop} {s:Qd} {k:J} {v:Qc} {Q:Int->Qd->Prop},A.units+jc < ϻ->is s.heap k v->Q (hash k) {s with toks:=s.toks+draws k}->
  Č (Đ prog w) A (PySem.pyHash v) Q E s
 eqBool:∀{A:Qf} {E:Qc->Qd->Prop} {s:Qd} {x y:J} {u v:Qc} {Q:Bool->Qd->Prop},A.units+jc < ϻ->is s.heap x u->is s.heap y v->Q (decide<|x=y) s->
  Č (Đ prog w) A (PySem.eqBool u v) Q E s
 quiet:∀{A:Qf} {E:Qc->Qd->Prop} {s:Qd} {k:J} {v:Qc} {Q:Bool->Qd->Prop} (n:Nat),jc<=n->is s.heap k v->Q ż s->Č (Đ prog w) A (eqIsQuiet n v) Q E s
section
variable{prog:Qe}{w:Qh}{J:Type}[DecidableEq J](I:IK prog w J)
inductive bq (h:Į):Qa J->Qa Qc->Prop
 |nil:bq h [] []
 |cons {k:J} {v:Qc} {ks:Qa J} {vs:Qa Qc}:I.is h k v->bq h ks vs->bq h (k::ks) (v::vs)
def iG(h:Į)(ks:Qa J)(a:Qg):Prop:=∃o items n,h.get? a=ž o/\o.cls=.type "tuple"/\o.data=.seq items n/\bq I h ks items.toList
noncomputable def CF(ks:Qa J):Int:=a3K (ľ<|ks.map I.hash)
noncomputable def Dq(ks:Qa J):Nat:=(ks.map I.draws).sum+1
variable{I}
def bq.inj{h:Į}{x y:Qa J}{vs:Qa Qc}(hx:bq I h x vs)(hy:bq I h y vs):x=y:=by
 induction hx generalizing y with
 |nil=>cases hy;rfl
 |cons h1 _ ih=>
  cases hy with
  |cons h2 t2=>rw[I.inj h1 h2,ih t2]
def bq.keeps{h h':Į}{x:Qa J}{vs:Qa Qc}{d:Qg}{o:Obj}{es ep}(hx:bq I h x vs)(ho:h.get? d=ž o)(hd:o.data=.dict es ep)(hs:Ϧ d h h'):bq I h' x vs:=by
 induction hx with
 |nil=>exact .nil
 |cons h1 _ ih=>exact .cons (I.keeps h1 ho hd hs) ih
def iG.typeIs{s:Qd}{ks:Qa J}{a:Qg}(x:iG I s.heap ks a):s.TypeIs (.ref a) "tuple":=let ⟨o,_,_,ho,hc,_⟩:=x;⟨o,ho,hc⟩
def iG.tup{h:Į}{ks:Qa J}{a:Qg}(x:iG I h ks a):∃items,h.IsTuple a items:=let ⟨o,aq,n,ho,hc,hd,_⟩:=x;⟨aq,o,ho,hc,n,hd⟩
def iG.inj{h:Į}{a:Qg}{x y:Qa J}(hx:iG I h x a)(hy:iG I h y a):x=y:=by
 have(o,items,n,ho,_,hd,hi):=hx;have(o',JB,n',cZ,_,dZ,kl):=hy;obtain rfl:o=o':=qw (ho.symm.trans cZ);rw[hd]at dZ;injection dZ with h1 _;subst h1;exact hi.inj kl
def iG.keeps{h h':Į}{ks:Qa J}{a d:Qg}{o:Obj}{es ep}(x:iG I h ks a)(ho:h.get? d=ž o)(hd:o.data=.dict es ep)(hs:Ϧ d h h'):iG I h' ks a:=by
 have(o',items,n,cZ,hc,dZ,hi):=x;have qV:a≠d:=by
  rintro rfl;obtain rfl:o'=o:=qw (cZ.symm.trans ho);rw[hd]at dZ;exact nomatch dZ
 exact⟨o',items,n,(hs.2 a qV).trans cZ,hc,dZ,hi.keeps ho hd hs⟩
variable{A:Qf}{E:Qc->Qd->Prop}{s:Qd}
def Ot{ks:Qa J}{a:Qg}{Q:Int->Qd->Prop}(hu:A.units+(I.jc+1) < ϻ)(hk:iG I s.heap ks a)(h:Q (CF I ks) {s with toks:=s.toks+Dq I ks}):
  Č (Đ prog w) A (pyHash<|.ref a) Q E s:=by
 have hT:=hk.typeIs;have(o,items,n,ho,_,hd,hi):=hk;unfold pyHash
 first|unfold pyHashByItsType|skip
 first|refine qa (wpAny_cRoomFor_or (.inr (by omega)) ?_) |skip
 refine qa<|Α hT õ.lookup ?_;show Č _ _ (if(ž (Ν "tuple.__hash__")==ž đ)=ż then _ else _) Q E s;rw[a5M (by rw[beq_builtin_none];exact qf)];refine qa<|Α hT õ.lookup ?_;show Č _ _ (callSpecialIfBoundUnlessNone? (.ref a) "__hash__" _ >>= _) Q E s;refine qa<|wpAny_callSpecialIfBoundUnlessNone?_slot hT õ<|ĸ õ hT PySem.F.entry_tuple_hash ?_<|PySem.F.args_tuple_hash_1 _;show Č _ _ (Λ (.ref a) >>= _) _ _ s;refine qa<|a2r ho hd ?_;refine qa ?_;rw[<-a1D];refine ϭ _
  (λrest (b:Array Int) s'=>∃done left,ks=done++left/\bq I s.heap left rest/\b.toList=done.map I.hash/\s'={s with toks:=s.toks+(done.map I.draws).sum})
  _ ?_ ?_ _ _ ⟨[],ks,rfl,hi,rfl,rfl⟩
 .rintro x rest b s' ⟨done,left,rfl,hl,hb,rfl⟩
  cases hl with
  | @cons k _ nW _ h1 ED=>
   refine qa (I.pyHash (s:={s with toks:=s.toks+(done.map I.draws).sum}) (by show A.units+1+I.jc < _;omega) h1 ?_)
   first
    |exact qb ⟨done++[k],nW,by simp,ED,by simp[hb],by simp[ş]⟩
    |exact qa<|qb<|qb ⟨done++[k],nW,by simp,ED,by simp[hb],by simp[ş]⟩
 .rintro b s' ⟨done,left,rfl,hl,hb,rfl⟩
  cases hl;rw[ŕ]at h;show Č _ _ (retInt<|ľ b.toList) _ _ _;rw[hb];refine wpAny_ret_mkInt ?_;show Č _ _ (if(decide (-(2:Int)^63<=ľ (done.map I.hash)) && decide (ľ (done.map I.hash) < 2^63))=ż then _ else _) Q E _;unfold CF a3K at h;unfold Dq at h
  by_cases hr:(decide (-(2:Int)^63<=ľ (done.map I.hash)) && decide (ľ (done.map I.hash) < 2^63))=ż
  .rw[a5L hr]
   rw[a5L hr]at h;exact qb (by simpa [ş] using h)
  .rw[a5M hr]
   rw[a5M hr]at h;exact qa<|ũ<|qb (by simpa [ş] using h)
def zl3{x y:Qa J}{a b:Qg}{P:Fin->Qd->Prop}(hu:A.units+I.jc < ϻ)(hx:iG I s.heap x a)(hy:iG I s.heap y b)(h:P (.done<|.ret<|.bool<|decide<|x=y) s):
  Č (Đ prog w) A (Builtin.«tuple.__eq__» ⟨[.ref a,.ref b],[]⟩) P E s:=by
 have hTb:=hy.typeIs;have(oa,xs,na,jA,_,k7,hia):=hx;have(ob,ys,nb,kY,_,bY,hib):=hy;show Č _ _ (a0C (.ref b) (.type "tuple") >>= _) _ _ s;refine qa<|Ŵ hTb a5d ?_;simp only[Ł,Ě,if_false];refine qa<|a2r jA k7 ?_;refine qa<|a2r kY bY ?_;refine qa ?_;refine ϭ _
  (λrest r s'=>r.1=Ž/\s'=s/\∃x' y' lS jP,rest=List.zip lS jP/\bq I s.heap x' lS/\bq I s.heap y' jP/\decide (x'=y')=decide (x=y)/\(lS.length==jP.length)=(xs.size==ys.size))
  _ ?_ ?_ _ _ ⟨rfl,rfl,x,y,xs.toList,ys.toList,rfl,hia,hib,rfl,by simp⟩
 .rintro⟨u,v⟩ rest r s' ⟨hr,rfl,x',y',lS,jP,hz,kU,wZ,qX,hlen⟩
  cases kU with
  |nil=>simp at hz
  | @cons k1 u' SQ IS h1 JN=>
   cases wZ with
   |nil=>simp at hz
   | @cons k2 v' SM IP h2 JM=>
    simp only[a1F,a4m,Prod.mk.injEq]at hz;obtain⟨⟨rfl,rfl⟩,rfl⟩:=hz;refine qa<|I.eqBool (x:=k1) (y:=k2) hu h1 h2 ?_
    by_cases hk:k1=k2
    .subst hk
     rw[a5N rfl];simp only[Ł,Ě,if_false];refine qb ⟨rfl,rfl,SQ,SM,IS,IP,rfl,JN,JM,?_,by simpa using hlen⟩;rw[<-qX]
     by_cases Tq:SQ=SM
     .simp[Tq]
     .simp[Tq]
    .rw[a5O hk]
     simp only[ϡ,if_true];have hf:decide (x=y)=Ż:=by rw[<-qX];simp[hk]
     rw[hf]at h;exact qa<|qb<|qb<|qb h
 .rintro⟨r1,r2⟩ s' ⟨hr,rfl,x',y',lS,jP,hz,kU,wZ,qX,hlen⟩
  simp only at hr;subst hr;refine qb ?_;have Kd:(xs.size==ys.size)=decide (x=y):=by
   rw[<-qX,<-hlen];cases kU with
   |nil=>
    cases wZ with
    |nil=>simp
    |cons _ _=>simp
   |cons _ _=>
    cases wZ with
    |nil=>simp
    |cons _ _=>simp at hz
  show P (.done<|.ret<|.bool<|xs.size==ys.size) s';rw[Kd];exact h
def L6{x y:Qa J}{a b:Qg}{Q:Bool->Qd->Prop}(hu:A.units+(I.jc+1) < ϻ)(hx:iG I s.heap x a)(hy:iG I s.heap y b)(h:Q (decide<|x=y) s):
  Č (Đ prog w) A (eqBool (.ref a)<|.ref b) Q E s:=by
 unfold eqBool
 try with_reducible refine Ŋ ?_
 show Č _ _ (if(Ė a==Ė b)=ż then _ else _) Q E s
 by_cases Kn:(Ė a==Ė b)=ż
 .rw[a5L Kn]
  have e:a=b:=by have:=eq_of_beq Kn;injection this
  subst e;obtain rfl:=hx.inj hy;exact qa<|ũ<|qb (by simpa using h)
 .rw[a5M Kn]
  exact qa (Ϥ (op:=.Eq) hx.typeIs hy.typeIs a3q
   (ĸ a3q hx.typeIs PySem.F.entry_tuple_eq (zl3 (by show A.units+1+I.jc < _;omega) hx hy ⟨_,rfl,(λe=>nomatch e),Ń h⟩)<|PySem.F.args_tuple_eq_2 _ _) (by omega))
def Po{ks:Qa J}{a:Qg}{Q:Bool->Qd->Prop}(n:Nat)(hn:I.jc+1<=n)(hk:iG I s.heap ks a)(h:Q ż s):Č (Đ prog w) A (eqIsQuiet n<|.ref a) Q E s:=by
 have hT:=hk.typeIs;obtain⟨m,rfl⟩:∃m,n=m+1:=⟨n - 1,by omega⟩;have(o,items,n',ho,_,hd,hi):=hk;unfold eqIsQuiet;refine qa<|Α hT PySem.F.slot_tuple_eq.lookup ?_;show Č _ _ (a0C (.ref a) (.type "tuple") >>= _) _ _ s;refine qa<|Ŵ hT a5d ?_;simp only[Ł,Ě,if_false];refine qa<|ϓ ho hd ?_;refine qa ?_;show Č _ _ (forIn items _ _) _ _ s;rw[<-a1D];refine ϭ _ (λrest r s'=>r.1=Ž/\s'=s/\∃nW,bq I s.heap nW rest) _ ?_ ?_ _ _ ⟨rfl,rfl,ks,hi⟩
 .rintro v rest r s' ⟨hr,rfl,nW,vg⟩
  cases vg with
  |cons h1 t1=>
   refine qa<|I.quiet m (by omega) h1 ?_;simp only[Ł,Ě,if_false];exact qb ⟨rfl,rfl,_,t1⟩
 .rintro⟨r1,r2⟩ s' ⟨hr,rfl,_⟩
  simp only at hr;subst hr;exact qb h
end
def ikK(prog:Qe)(w:Qh):IK prog w Key where
 is:=λ_ k v=>(dq prog w).is k v=ż
 hash:=(dq prog w).hash
 draws:=λ_=>1
 jc:=0
 inj:=λhx hy=>(dq prog w).inj _ _ _ hx hy
 keeps:=λx _ _ _=>x
 pyHash:=λ_ hk h=>(dq prog w).pyHash hk h
 eqBool:=λ_ hx hy h=>(dq prog w).eqBool hx hy h
 quiet:=λn _ hk h=>by rw[eqIsQuiet_byValue n<|(dq prog w).byValue _ _ hk];exact qb h
def JG{prog:Qe}{w:Qh}{J:Type}[DecidableEq J](I:IK prog w J):IK prog w (Key ⊕ Qa J) where
 is:=λh x v=>match x with
  |.inl k=>(dq prog w).is k v=ż
  |.inr ks=>∃a,v=.ref a/\iG I h ks a
 hash:=λx=>match x with
  |.inl k=>(dq prog w).hash k
  |.inr ks=>CF I ks
 draws:=λx=>match x with
  |.inl _=>1
  |.inr ks=>Dq I ks
 jc:=I.jc+1
 inj:=λ{h v x y} hx hy=>by
  cases x with
  |inl k=>
   cases y with
   |inl k'=>exact congrArg Δ<|(dq prog w).inj _ _ _ hx hy
   |inr ks=>
    have(a,rfl,_):=hy;rcases lR hx with⟨i,t,_,e⟩|⟨z,t,_,e⟩<;>cases e
  |inr ks=>
   have(a,rfl,hx):=hx;cases y with
   |inl k'=>rcases lR hy with⟨i,t,_,e⟩|⟨z,t,_,e⟩<;>cases e
   |inr nW=>
    have(b,e,hy):=hy;cases e;exact congrArg a0W (hx.inj hy)
 keeps:=λ{h h' k v d o es ep} x ho hd hs=>by
  cases k with
  |inl k=>exact x
  |inr ks=>
   have(a,e,x):=x;exact⟨a,e,x.keeps ho hd hs⟩
 pyHash:=λ{A E s k v Q} hu hk h=>by
  cases k with
  |inl k=>exact(dq prog w).pyHash hk h
  |inr ks=>
   have(a,rfl,x):=hk;exact Ot hu x h
 eqBool:=λ{A E s x y u v Q} hu hx hy h=>by
  cases x with
  |inl k=>
   cases y with
   |inl k'=>exact(dq prog w).eqBool hx hy (by simpa using h)
   |inr ks=>
    have(b,rfl,hy):=hy;have(aq,ht):=hy.tup;have h':Q Ż s:=by simpa using h
    rcases lR hx with⟨i,t,rfl,rfl⟩|⟨z,t,rfl,rfl⟩
    .exact SeqAt.EqAt.int_tuple i t ht (by omega) _ _ _ _ h'
    .exact SeqAt.EqAt.str_tuple z t ht (by omega) _ _ _ _ h'
  |inr ks=>
   have(a,rfl,hx):=hx;have(aq,ht):=hx.tup;cases y with
   |inl k'=>
    have h':Q Ż s:=by simpa using h
    rcases lR hy with⟨i,t,rfl,rfl⟩|⟨z,t,rfl,rfl⟩
    .exact SeqAt.EqAt.tuple_int i t ht (by omega) _ _ _ _ h'
    .exact SeqAt.EqAt.tuple_str z t ht (by omega) _ _ _ _ h'
   |inr nW=>
    have(b,rfl,hy):=hy;exact L6 hu hx hy (by simpa using h)
 quiet:=λ{A E s k v Q} n hn hk h=>by
  cases k with
  |inl k=>rw[eqIsQuiet_byValue n<|(dq prog w).byValue _ _ hk];exact qb h
  |inr ks=>
   have(a,rfl,x):=hk;exact Po n hn x h
def WU{prog:Qe}{w:Qh}{J:Type}[DecidableEq J](I:IK prog w J)(hI:I.jc<=7):HeapKind prog w (Qa J) where
 is:=iG I
 hash:=CF I
 draws:=Dq I
 room:=λA=>A.units+(I.jc+1) < ϻ
 inj:=λhx hy=>hx.inj hy
 keeps:=λx ho hd hs=>x.keeps ho hd hs
 pyHash:=λhu hk h=>Ot hu hk h
 eqBool:=λhu hx hy h=>L6 hu hx hy h
 quiet:=λhk h=>Po 8 (by omega) hk h
abbrev K1:=Key ⊕ Qa Key
instance dK1:DecidableEq K1:=instDecidableEqSum
abbrev K2:=Key ⊕ Qa K1
instance dK2:DecidableEq K2:=instDecidableEqSum
abbrev K3:=Key ⊕ Qa K2
instance dK3:DecidableEq K3:=instDecidableEqSum
instance dL3:DecidableEq (Qa K3):=instDecidableEqList
def zAB(prog:Qe)(w:Qh):HeapKind prog w (Qa K3):=WU (JG<|JG<|JG<|ikK prog w) (by show 3<=7;decide)
inductive HO where
 |lst (xs:Qa V)
 |tup (xs:Qa V)
 |dK (kvs:Qa (Key×V)) |dT (kvs:Qa (Qa Key×V))
 |set (S:Int->Bool) (n:Nat)
 |ins (C dx:Qg) (fs:Qa (Str×V))
 |own (x:Qg)
 |xd (fs:Qa (Str×V))
 |met (f x:Qg)
 |Jf (lo hi:Int)
 |bj (o:Obj) (u:HO)
 |uC (ps:Array Qc)
 |ext (φ:Į->Prop)
 |sub (b:Qg) (p u:HO)
 |dX (kvs:Qa (Qa K3×V))
noncomputable def HO.flat:HO->Bool
 |.lst _=>ż
 |.dK _=>ż
 |.dT _=>ż
 |.dX _=>ż
 |_=>Ż
abbrev Hp:=Qg->Qb HO
noncomputable def upd(H:Hp)(a:Qg)(o:HO):Hp:=λb=>if b=a then ž o else H b
def zD{H:Hp}{a:Qg}{o:HO}:upd H a o a=ž o:=by unfold upd;rw[a5L rfl]
def zA{H:Hp}{a b:Qg}{o:HO}(h:b≠a):upd H a o b=H b:=by unfold upd;rw[a5M h]
def Y3{H:Hp}{a:Qg}{o u:HO}:upd (upd H a o) a u=upd H a u:=by
 funext b;unfold upd;split<;>rfl
def x8{H:Hp}{a b:Qg}{o u:HO}(h:H a=ž o)(h':H b=ž u)(d:o≠u):a≠b:=by
 intro e;subst e;rw[h]at h';exact d<|qw h'
def kQ{H:Hp}{a b:Qg}{o:HO}(h:H a=ž o)(h':H b=Ž):a≠b:=by
 intro e;subst e;rw[h]at h';cases h'
def zCM(K:qc)(a:Qg)(xs:Qa V):Prop:=∃(o:Obj) (aq:Array Qc) (n:Nat),K.lookup a=ž o/\o.cls=.type "tuple"/\o.data=.seq aq n/\aq.size<=Ď/\zY xs aq.toList/\∃i r,xs=.int i::r
def bg(K:qc)(H:Hp)(a:Qg)(xs:Qa V):Prop:=H a=ž (.tup xs)\/zCM K a xs
def bg.keeps{K:qc}{H H':Hp}{a:Qg}{xs:Qa V}(h:bg K H a xs)(ht:∀b ys,H b=ž (.tup ys)->H' b=ž (.tup ys)):bg K H' a xs:=h.imp (ht _ _) id
def oX(h:Į)(a:Qg)(items:Array Qc):Prop:=∃o,h.get? a=ž o/\o.cls=.type "tuple"/\(∃n,o.data=.seq items n)/\(o.dict=Ž\/∃i t r,items.toList=.int i t::r)
def oX.tup{h:Į}{a:Qg}{items:Array Qc}(x:oX h a items):a2P h a items:=let ⟨o,e,c,d,_⟩:=x;⟨o,e,c,d⟩
def oX.lt{h:Į}{a:Qg}{items:Array Qc}(x:oX h a items):a < h.objs.size:=x.tup.lt
def oX.new(h:Į)(items:Array Qc):oX (h.push {cls:=.type "tuple",data:=.seq items}) h.objs.size items:=⟨_,qg _ rfl,rfl,⟨_,rfl⟩,.inl rfl⟩
def N0(K:qc)(H:Hp)(ks:Qa Key)(a:Qg):Prop:=bg K H a (ks.map kV)
def NI{J:Type}(P:Qa J->Qg->Prop)(x:Key ⊕ Qa J)(v:V):Prop:=match x with
 |.inl k=>v=kV k
 |.inr ks=>∃b,v=.ref b/\P ks b
def rh{J:Type}(K:qc)(H:Hp)(P:Qa J->Qg->Prop)(xs:Qa (Key ⊕ Qa J))(a:Qg):Prop:=∃vs,bg K H a vs/\ϫ (NI P) xs vs
def N3(K:qc)(H:Hp):Qa K3->Qg->Prop:=rh K H (rh K H<|rh K H<|N0 K H)
def Y2{α β:Type}{F G:α->β->Prop}{nS:Qa α}{l₂:Qa β}(h:ϫ F nS l₂)(f:∀a b,F a b->G a b):ϫ G nS l₂:=by
 induction h with
 |nil=>exact .nil
 |cons r _ ih=>exact .cons (f _ _ r) ih
def rh.keeps{J:Type}{K:qc}{H H':Hp}{P P':Qa J->Qg->Prop}{xs:Qa (Key ⊕ Qa J)}{a:Qg}(h:rh K H P xs a)(ht:∀b ys,H b=ž (.tup ys)->H' b=ž (.tup ys))(hp:∀ks b,P ks b->P' ks b):rh K H' P' xs a:=by
 have(vs,h1,h2):=h;refine⟨vs,h1.keeps ht,Y2 h2 λx v z=>?_⟩;cases x with
 |inl k=>exact z
 |inr ks=>have(b,e,z):=z;exact⟨b,e,hp _ _ z⟩
def N3.keeps{K:qc}{H H':Hp}{xs:Qa K3}{a:Qg}(h:N3 K H xs a)(ht:∀b ys,H b=ž (.tup ys)->H' b=ž (.tup ys)):N3 K H' xs a :=
 rh.keeps h ht λ_ _ h=>rh.keeps h ht λ_ _ h=>rh.keeps h ht λ_ _ h=>bg.keeps h ht
section
variable(P:Qe)(w:Qh)(K:qc)
def bV(H:Hp)(h:Į)(a:Qg):HO->Prop
 |.lst xs=>xs.length<=Ď/\∃(aq:Qa Qc) (n:Nat),zY xs aq/\h.get? a=ž {cls:=.type "list",data:=.seq aq.toArray n}
 |.tup xs=>xs.length<=Ď/\∃aq:Qa Qc,zY xs aq/\oX h a aq.toArray
 |.dK kvs=>kvs.length<=Ď/\(a==Ĳ)=Ż/\∃vs,KV kvs vs/\h.DictOf (dq P w) a vs
 |.dT kvs=>kvs.length<=Ď/\(a==Ĳ)=Ż/\∃xs:Qa (Qa Key×Qg×Qc),
   ϫ (λ(p:Qa Key×V) (q:Qa Key×Qg×Qc)=>p.1=q.1/\bg K H q.2.1 (p.1.map kV)/\aP p.2 q.2.2) kvs xs/\
   ∃o es ep,h.get? a=ž o/\o.ExactDict/\o.data=.dict es ep/\es.toList=xs.map (a1m<|Η<|dq P w)/\(xs.map (·.1)).Nodup
 |.dX kvs=>kvs.length<=Ď/\(a==Ĳ)=Ż/\∃xs:Qa (Qa K3×Qg×Qc),
   ϫ (λ(p:Qa K3×V) (q:Qa K3×Qg×Qc)=>p.1=q.1/\N3 K H p.1 q.2.1/\aP p.2 q.2.2) kvs xs/\
   ∃o es ep,h.get? a=ž o/\o.ExactDict/\o.data=.dict es ep/\es.toList=xs.map (a1m<|zAB P w)/\(xs.map (·.1)).Nodup
 |.set S n=>h.SetOf (intKind P w) a S n
 |.ins C dx fs=>H dx=ž (.own a)/\fs.length<=1000/\dx≠a/\h.get? a=ž (a2c C dx)/\
   ∃mA,h.Ns1 dx mA/\(∀f,jI (fs.lookup f)<|mA f)/\PySem.Within mA (fs.map (·.1))
 |.own _=>∃o,h.get? a=ž o
 |.xd fs=>∃mA,h.Ns1 a mA/\∀f,jI (fs.lookup f)<|mA f
 |.Jf lo hi=>∃t u v,h.get? a=ž {cls:=.type "range",data:=.fields #[.int lo t,.int hi u,.int 1 v]}
 |.bj o u=>h.get? a=ž o/\bV H h a u
 |.uC ps=>h.get? a=ž {cls:=.none,data:=.fields ps}
 |.met f x=>h.get? a=ž (a1y (.ref f)<|.ref x)
 |.ext φ=>φ h/\(∃o,h.get? a=ž o)/\∀h1 h2:Į,φ h1->(∀o,h1.get? a=ž o->h2.get? a=ž o)->φ h2
 |.sub b p u=>bV H h a u/\H b=ž (.own a)/\b≠a/\p.flat=ż/\bV H h b p
def cC(H:Hp)(h:Į):Prop:=∀a o,H a=ž o->bV P w K H h a o
end
section
variable{P:Qe}{w:Qh}{K:qc}{H H':Hp}{h h':Į}{a:Qg}{o:HO}
def bV.lt(x:bV P w K H h a o):a < h.objs.size:=by
 induction o with
 |sub b p u _ ih=>exact ih x.1
 |lst xs=>have(_,_,_,_,e):=x;exact qh e
 |tup xs=>have(_,_,_,p):=x;exact p.lt
 |dK kvs=>have(_,_,_,_,o,_,_,e,_):=x;exact qh e
 |dT kvs=>have(_,_,_,_,o,_,_,e,_):=x;exact qh e
 |dX kvs=>have(_,_,_,_,o,_,_,e,_):=x;exact qh e
 |set S n=>have(o,_,_,_,e,_):=x;exact qh e
 |ins C dx fs=>have(_,_,_,e,_):=x;exact qh e
 |own y=>have(_,e):=x;exact qh e
 |xd fs=>obtain⟨_,⟨_,_,_,e,_⟩,_⟩:=x;exact qh e
 |Jf lo hi=>have(_,_,_,e):=x;exact qh e
 |bj ob u _=>have(e,_):=x;exact qh e
 |uC ps=>exact qh (show h.get? a=ž _ from x)
 |met f y=>exact qh (show h.get? a=ž _ from x)
 |ext φ=>obtain⟨_,⟨_,e⟩,_⟩:=x;exact qh e
def Paired.jZ{α β:Type}{F G:α->β->Prop}:∀{nS:Qa α} {l₂:Qa β},ϫ F nS l₂->(∀a b,F a b->G a b)->ϫ G nS l₂
 |_,_,.nil,_=>.nil
 |_,_,.cons r t,f=>.cons (f _ _ r)<|Paired.jZ t f
def bV.Ap(x:bV P w K H h a o)(f:o.flat=ż)(k:∀u,h.get? a=ž u->h'.get? a=ž u)(ht:∀b xs,H b=ž (.tup xs)->H' b=ž (.tup xs)):bV P w K H' h' a o:=by
 cases o with
 |lst xs=>have(z,aq,n,r,e):=x;exact⟨z,aq,n,r,k _ e⟩
 |dK kvs=>have(z,y,vs,r,ob,es,ep,e,c):=x;exact⟨z,y,vs,r,ob,es,ep,k _ e,c⟩
 |dT kvs=>
  have(z,y,xs,r,ob,es,ep,e,c):=x;exact⟨z,y,xs,Paired.jZ r λp q z=>⟨z.1,z.2.1.keeps ht,z.2.2⟩,ob,es,ep,k _ e,c⟩
 |dX kvs=>
  have(z,y,xs,r,ob,es,ep,e,c):=x;exact⟨z,y,xs,Paired.jZ r λp q z=>⟨z.1,z.2.1.keeps ht,z.2.2⟩,ob,es,ep,k _ e,c⟩
 |_=>cases f
def bV.eA(x:bV P w K H h a o)(k:∀b u,(b=a\/H b=ž (.own a))->h.get? b=ž u->h'.get? b=ž u)
  (ho:∀b,H b=ž (.own a)->H' b=ž (.own a)) (ht:∀b xs,H b=ž (.tup xs)->H' b=ž (.tup xs)):bV P w K H' h' a o:=by
 induction o with
 |lst xs=>have(z,aq,n,r,e):=x;exact⟨z,aq,n,r,k _ _ (.inl rfl) e⟩
 |tup xs=>have(z,aq,r,ob,e,c):=x;exact⟨z,aq,r,ob,k _ _ (.inl rfl) e,c⟩
 |dK kvs=>have(z,y,vs,r,ob,es,ep,e,c):=x;exact⟨z,y,vs,r,ob,es,ep,k _ _ (.inl rfl) e,c⟩
 |dT kvs=>
  have(z,y,xs,r,ob,es,ep,e,c):=x;exact⟨z,y,xs,Paired.jZ r λp q z=>⟨z.1,z.2.1.keeps ht,z.2.2⟩,ob,es,ep,k _ _ (.inl rfl) e,c⟩
 |dX kvs=>
  have(z,y,xs,r,ob,es,ep,e,c):=x;exact⟨z,y,xs,Paired.jZ r λp q z=>⟨z.1,z.2.1.keeps ht,z.2.2⟩,ob,es,ep,k _ _ (.inl rfl) e,c⟩
 |set S n=>have(ob,es,ep,t,e,c):=x;exact⟨ob,es,ep,t,k _ _ (.inl rfl) e,c⟩
 |ins C dx fs=>
  obtain⟨d,z,ne,e,mA,⟨od,es,ep,e2,c⟩,r⟩:=x;exact⟨ho _ d,z,ne,k _ _ (.inl rfl) e,mA,⟨od,es,ep,k _ _ (.inr d) e2,c⟩,r⟩
 |own y=>have(ob,e):=x;exact⟨ob,k _ _ (.inl rfl) e⟩
 |xd fs=>obtain⟨mA,⟨od,es,ep,e,c⟩,r⟩:=x;exact⟨mA,⟨od,es,ep,k _ _ (.inl rfl) e,c⟩,r⟩
 |Jf lo hi=>have(t,u,v,e):=x;exact⟨t,u,v,k _ _ (.inl rfl) e⟩
 |bj ob u ih=>have(e,q):=x;exact⟨k _ _ (.inl rfl) e,ih q⟩
 |uC ps=>
  have e:h.get? a=ž {cls:=.none,data:=.fields ps}:=x;show h'.get? a=ž {cls:=.none,data:=.fields ps};exact k a _ (.inl rfl) e
 |met f y=>
  have e:h.get? a=ž (a1y (.ref f)<|.ref y):=x;show h'.get? a=ž (a1y (.ref f)<|.ref y);exact k a _ (.inl rfl) e
 |ext φ=>obtain⟨p,⟨o,e⟩,st⟩:=x;exact⟨st _ _ p λo q=>k _ _ (.inl rfl) q,⟨o,k _ _ (.inl rfl) e⟩,st⟩
 |sub b p u _ ih=>have(y,e,n,f,q):=x;exact⟨ih y,ho _ e,n,f,q.Ap f (λu z=>k _ _ (.inr e) z) ht⟩
def cC.lt(x:cC P w K H h)(e:H a=ž o):a < h.objs.size:=(x a o e).lt
def cC.fresh(x:cC P w K H h)(e:h.objs.size<=a):H a=Ž:=by
 cases q:H a with
 |none=>rfl
 |some u=>exact absurd (qi (x.lt q) e)<|Ð _
def cC.kept(x:cC P w K H h)(k:∀b u,h.get? b=ž u->h'.get? b=ž u):cC P w K H h':=λa o e=>
 (x a o e).eA (λb u _ q=>k b u q) (λ_ q=>q) λ_ _ q=>q
def cC.laid(x:cC P w K H h)(k:∀b u,h.get? b=ž u->h'.get? b=ž u)(hp:h.objs.size<=a)(new:bV P w K (upd H a o) h' a o):cC P w K (upd H a o) h':=λb u e=>by
 have hn:=x.fresh hp
 by_cases hb:b=a
 .subst hb;rw[zD]at e;cases e;exact new
 .rw[zA hb]at e
  exact(x b u e).eA (λc v _ q=>k c v q) (λc q=>by rw[zA<|kQ q hn];exact q) λc xs q=>by rw[zA<|kQ q hn];exact q
end
def Rd(H:Hp)(a:Qg)(u:HO):Prop:=H a=ž u\/∃o,H a=ž (.bj o u)
def Rd.ok{P:Qe}{w:Qh}{K:qc}{H:Hp}{h:Į}{a:Qg}{u:HO}(r:Rd H a u)(x:cC P w K H h):bV P w K H h a u:=by
 rcases r with r|⟨o,r⟩
 .exact x a u r
 .have(_,q):=x a _ r
  exact q
def Bw:Qb HO->Prop
 |some (.lst _)=>True
 |some (.dK _)=>True
 |some (.dT _)=>True
 |some (.set _ _)=>True
 |some (.ins _ _ _)=>True
 |some (.ext _)=>True
 |some (.sub _ _ _)=>True
 |some (.dX _)=>True
 |_=>False
section
variable{P:Qe}{w:Qh}{K:qc}{H:Hp}{h h':Į}{x e:Qg}{o':HO}
def cC.write(ok:cC P w K H h)(mu:Bw (H x))(he:e=x\/H e=ž (.own x))(k:∀b u,b≠e->h.get? b=ž u->h'.get? b=ž u)(xl:∃u,h'.get? e=ž u)
  (new:bV P w K (upd H x o') h' x o'):cC P w K (upd H x o') h':=λb u q=>by
 have Ax:∀c y,H c=ž (.own y)->c≠x:=λc y r z=>by subst z;rw[r]at mu;exact mu
 have Jp:∀c xs,H c=ž (.tup xs)->c≠x:=λc xs r z=>by subst z;rw[r]at mu;exact mu
 by_cases hb:b=x
 .subst hb;rw[zD]at q;cases q;exact new
 .rw[zA hb]at q
  by_cases ve:b=e
  .have q':H b=ž (.own x):=by
    rcases he with z|z
    .exact absurd (ve.trans z) hb
    .rw[ve];exact z
   rw[q]at q';cases q';have(v,hv):=xl;exact⟨v,by rw[ve];exact hv⟩
  .refine(ok b u q).eA (λc v hc r=>k c v ?_ r) (λc r=>by rw[zA<|Ax c b r];exact r) λc xs r=>by rw[zA<|Jp c xs r];exact r
   rcases hc with rfl|hc
   .exact ve
   .rintro rfl
    rcases he with z|z
    .exact Ax c b hc z
    .rw[hc]at z;cases z;exact hb rfl
end
structure Un (fs ex:Qa Qg) (H H':Hp) (h h':Į):Prop where
 keep:∀b o,h.get? b=ž o->H b=Ž->b∉fs->b∉ex->h'.get? b=ž o
 slot:∀b o,h.get? b=ž o->H b=Ž->b∈fs->b∉ex->∃sl,h'.get? b=ž {o with slots:=sl}
 free:∀b o,h.get? b=ž o->H b=Ž->b∉ex->H' b=Ž
 there:∀b o,h.get? b=ž o->b∉ex->∃o',h'.get? b=ž o'
 d9:∀b xs,H b=ž (.tup xs)->H' b=ž (.tup xs)
 dN:∀b o u,H b=ž (.bj o u)->H' b=ž (.bj o u)
 eP:∀b ps,H b=ž (.uC ps)->∃more,H' b=ž (.uC<|ps++more)
section
variable{fs fs' ex ex':Qa Qg}{H H1 H2:Hp}{h h1 h2 h':Į}{a x e:Qg}{o:HO}
def Un.any(u:Un fs ex H H1 h h1){b:Qg}{ob:Obj}(q:h.get? b=ž ob)(n:H b=Ž)(hx:b∉ex):∃sl,h1.get? b=ž {ob with slots:=sl}:=by
 by_cases hb:b∈fs
 .exact u.slot b ob q n hb hx
 .exact⟨ob.slots,u.keep b ob q n hb hx⟩
def Un.kept(k:∀b u,h.get? b=ž u->h'.get? b=ž u):Un fs ex H H h h' :=
 ⟨λb ob q _ _ _=>k b ob q,λb ob q _ _ _=>⟨ob.slots,k b ob q⟩,λ_ _ _ n _=>n,λb ob q _=>⟨ob,k b ob q⟩,λ_ _ q=>q,λ_ _ _ q=>q,λ_ ps q=>⟨#[],by rw[q];simp⟩⟩
def Un.refl:Un fs ex H H h h:=Un.kept λ_ _ q=>q
def Un.laid(k:∀b u,h.get? b=ž u->h'.get? b=ž u)(hp:h.objs.size<=a)(hn:H a=Ž):Un fs ex H (upd H a o) h h' where
 keep:=λb u q _ _ _=>k b u q
 slot:=λb u q _ _ _=>⟨u.slots,k b u q⟩
 free:=λb u q n _=>by rw[zA<|qj<|qi (qh q) hp];exact n
 there:=λb u q _=>⟨u,k b u q⟩
 d9:=λb xs q=>by rw[zA<|kQ q hn];exact q
 dN:=λb u xs q=>by rw[zA<|kQ q hn];exact q
 eP:=λb ps q=>⟨#[],by rw[zA<|kQ q hn,q];simp⟩
def Un.write(mu:Bw (H x))(he:e=x\/H e=ž (.own x))(k:∀b u,b≠e->h.get? b=ž u->h'.get? b=ž u)(xl:∃u,h'.get? e=ž u):Un fs ex H (upd H x o) h h':=by
 have hx:∀b,H b=Ž->b≠x:=λb n z=>by subst z;rw[n]at mu;exact mu
 have hb:∀b,H b=Ž->b≠e:=λb n z=>by
  subst z;rcases he with r|r
  .exact hx b n r
  .rw[n]at r;cases r
 have hm:∀b u,H b=ž u->¬Bw (ž u)->b≠x:=λb u q nm z=>by subst z;rw[q]at mu;exact nm mu
 refine⟨λb u q n _ _=>k b u (hb b n) q,λb u q n _ _=>⟨u.slots,k b u (hb b n) q⟩,λb u q n _=>by rw[zA<|hx b n];exact n,λb u q _=>?_,
  λb xs q=>by rw[zA<|hm b _ q λz=>z];exact q,λb u xs q=>by rw[zA<|hm b _ q λz=>z];exact q,λb ps q=>⟨#[],by rw[zA<|hm b _ q λz=>z,q];simp⟩⟩
 by_cases ve:b=e
 .subst ve;exact xl
 .exact⟨u,k b u ve q⟩
end
noncomputable def uA(h:Į)(H:Hp):Qa Qg:=(ĥ h.objs.size).filter λa=>(H a).isSome
def pR(h:Į)(H:Hp):Į:=PySem.W.hideAll h (uA h H)
def zpv(h:Į)(H:Hp):(pR h H).objs.size=h.objs.size:=PySem.W.hideAll_size _ _
def zqk{h:Į}{H:Hp}{b:Qg}{o:Obj}(e:h.get? b=ž o)(n:H b=Ž):(pR h H).get? b=ž o :=
 PySem.W.hideAll_get _ e λhm=>by
  have q:(H b).isSome=ż:=(á.mp hm).2;rw[n]at q;simp at q
def Y1{h:Į}{H:Hp}{b:Qg}{o:Obj}(e:(pR h H).get? b=ž o):h.get? b=ž o/\H b=Ž:=by
 have e':h.get? b=ž o:=PySem.W.of_hideAll (uA h H) e;refine⟨e',?_⟩;cases q:H b with
 |none=>rfl
 |some x=>
  have hm:b∈uA h H:=á.mpr ⟨Õ.mpr<|qh e',by simp[q]⟩;have z:(pR h H).get? b=Ž:=PySem.W.hideAll_none (uA h H) hm;rw[z]at e;cases e
noncomputable def Y0(g h:Į)(L:Qg):Qa (Qg×Obj):=(ĥ h.objs.size).filterMap λa=>if a=L\/(g.get? a).isSome=ż then Ž else(h.get? a).map λo=>(a,o)
def rest(g h:Į)(L d:Qg):Qa (Qg×Obj):=(Y0 g h L).filter λp=>decide<|p.1≠d
structure Mod (K:qc) (mg:Str->Qb Qc) (base:Į):Prop where
 j7:K.In base
 glob:base.Ns ĝ mg
 blt:∃mb,base.Ns builtinsNs mb/\∀x:Str,x ≠ "__name__"->mb x=Ű x
 nolimit:base.NoLimit
structure Cx where
 prog:Qe
 w:Qh
 K:qc
 mg:Str->Qb Qc
 base:Į
 A:Qf
 N:Qa Str
 bG:Qd
 aA:Hp
 env:Env
 outer:Qa Env
 stack:Qa Env
 ex:Qa Qg
 fn:Str->Bool
 calm:Bool
 pn:Qa (Qg×Obj)
 xe:Qc->Qd->Prop
noncomputable def gI(l:Qa Env):Qa Qg:=l.filterMap (·.frame)
abbrev Cx.fs(X:Cx):Qa Qg:=gI X.outer
def EW(sc:a2K)(x:Str):Prop:=sc.names.lookup x=ž .local\/sc.names.lookup x=ž .cell\/sc.names.lookup x=ž .free
def Loc(sc:a2K)(x:Str):Prop:=sc.names.lookup x=ž .local\/sc.names.lookup x=ž .cell
def zCN(env:Env)(h:Į)(m:Str->Qb Qc)(x:Str)(u:Qc):Prop :=
 (env.kindOf x=ž .local/\m x=ž u)\/((env.kindOf x=ž .cell\/env.kindOf x=ž .free)/\∃c,env.cells.lookup x=ž c/\h.IsCell c (ž u))
structure Cx.Ok (X:Cx):Prop where
 mod:Mod X.K X.mg X.base
 kind:X.env.scope.kind=.function
 glob:X.env.globals=ĝ
 blt:X.env.builtins=builtinsNs
 above:X.bG.heap.objs.size<=X.env.locals
 inj:∀x y c,X.env.cells.lookup x=ž c->X.env.cells.lookup y=ž c->x=y
 has:∀x,(X.env.kindOf x=ž .cell\/X.env.kindOf x=ž .free)->∃c,X.env.cells.lookup x=ž c
 tH:∀x c,X.fn x=ż->X.env.cells.lookup x=ž c->X.bG.heap.objs.size<=c
 hd:X.calm=ż->X.A.handled=Ž
 frames:X.A.frames=ž X.stack
 uD:X.stack=X.outer\/(X.stack=X.env::X.outer/\X.env.frame=ž X.env.locals)
 xt:∀b∈X.ex,b≠X.env.locals/\∀x c,X.env.cells.lookup x=ž c->c≠b
 bs:∀b o,X.base.get? b=ž o->X.bG.heap.get? b=ž o/\X.aA b=Ž
 nj:X.base.objs.size<=X.bG.heap.objs.size
 i0:∀b o,X.base.get? b=ž o->b∉X.ex
 ko:∀b∈X.ex,b∉X.fs
 dM:X.bG.heap.FunFrames X.base X.outer
 pI:∀b∈X.fs,X.aA b=Ž
structure Inv (X:Cx) (pins:Qa (Qg×Obj)) (σ:Qa (Qb V)) (H:Hp) (s:Qd):Prop where
 ok:X.Ok
 os:s.os=X.bG.os
 bare:a0U s.gens
 base:Un X.fs X.ex X.aA H X.bG.heap s.heap
 loc:∃m,s.heap.Ns X.env.locals m/\∀(i:Nat) (x:Str) (v:V),X.N[i]?=ž x->σ[i]?=ž (ž v)->EW X.env.scope x->∃u,aP v u/\zCN X.env s.heap m x u
 cell:∀x c,X.env.cells.lookup x=ž c->∃v,s.heap.IsCell c v
 free:H X.env.locals=Ž
 bo:∀x c,X.env.cells.lookup x=ž c->H c=Ž
 pin:∀p∈X.pn++pins,s.heap.get? p.1=ž p.2/\H p.1=Ž/\p.1≠X.env.locals/\p.1∉X.fs/\∀v,p.2.data≠.cell v
 aC:cC X.prog X.w X.K H s.heap
 len:σ.length=X.N.length
section
variable{X:Cx}{pins:Qa (Qg×Obj)}{σ:Qa (Qb V)}{H H':Hp}{s:Qd}{h':Į}
def Cx.Ok.Js(ok:X.Ok){b:Qg}{o:Obj}(e:X.base.get? b=ž o):b∉X.fs:=λhb=>by
 have:=(ok.dM.mem hb).1;rw[e]at this;cases this
def Inv.bs(I:Inv X pins σ H s):∀b o,X.base.get? b=ž o->s.heap.get? b=ž o/\H b=Ž:=λb o e=>
 ⟨I.base.keep b o (I.ok.bs b o e).1 (I.ok.bs b o e).2 (I.ok.Js e)<|I.ok.i0 b o e,I.base.free b o (I.ok.bs b o e).1 (I.ok.bs b o e).2<|I.ok.i0 b o e⟩
def Inv.bk(I:Inv X pins σ H s):∀b o,X.base.get? b=ž o->s.heap.get? b=ž o:=λb o e=>(I.bs b o e).1
def Inv.mod(I:Inv X pins σ H s):Mod X.K X.mg X.base:=I.ok.mod
def Inv.bP(I:Inv X pins σ H s):X.K.In s.heap:=I.ok.mod.j7.keeps I.bk
def Inv.fr(I:Inv X pins σ H s):∃m,Fr X.base X.env.locals s.heap m :=
 let ⟨m,hn,_⟩:=I.loc
 ⟨m,hn,I.bk,qx I.ok.nj I.ok.above⟩
def Inv.lt(I:Inv X pins σ H s):X.env.locals < s.heap.objs.size:=let ⟨_,hn,_⟩:=I.loc;hn.lt
def Inv.sz(I:Inv X pins σ H s):X.bG.heap.objs.size<=s.heap.objs.size:=qx I.ok.above (â I.lt)
def Inv.Jr(I:Inv X pins σ H s){a:Qg}(h:s.heap.objs.size<=a):a∉X.fs:=λhb=>by
 have(_,o,ho,_):=I.ok.dM.mem hb;exact absurd (qi (qh ho)<|qx I.sz h)<|Ð _
def Inv.ni(I:Inv X pins σ H s):∀x c,X.env.cells.lookup x=ž c->c≠X.env.locals:=λx c e z=>by
 have(v,o,ho,hd):=I.cell x c e;obtain⟨m,⟨o',es,ep,cZ,dZ,_⟩,_⟩:=I.loc;rw[z,cZ]at ho;cases ho;rw[dZ]at hd;cases hd
def Inv.dM(I:Inv X pins σ H s):s.heap.FunFrames X.base X.outer:=by
 have all:∀(l:Qa Env),(∀b∈gI l,b∈X.fs)->X.bG.heap.FunFrames X.base l->s.heap.FunFrames X.base l:=by
  intro l
  induction l with
  |nil=>intro _ _;trivial
  |cons env r ih=>
   intro hs hl;obtain⟨hk,⟨L,o,hf,hn,ho,hd⟩,hr⟩:=hl;have hL:L∈X.fs:=hs L (by unfold gI;rw[a1v,hf];exact qo);have(sl,e):=I.base.slot L o ho (I.ok.pI L hL) hL λz=>I.ok.ko L z hL;exact⟨hk,⟨L,_,hf,hn,e,hd⟩,ih (λb hb=>hs b (by unfold gI;rw[a1v,hf];exact qm _ hb)) hr⟩
 exact all X.outer (λ_ hb=>hb) I.ok.dM
def Inv.stack(I:Inv X pins σ H s):s.heap.FunFrames X.base X.stack:=by
 rcases I.ok.uD with e|⟨e,hf⟩
 .rw[e];exact I.dM
 .rw[e]
  have(m,hn,_):=I.loc;refine .cons (by rw[I.ok.kind];decide) hf hn ?_ I.dM;exact Heap.get?_none_of_le<|qx I.ok.nj I.ok.above
def Inv.gc(I:Inv X pins σ H s):∀b∈gI X.stack,b∈X.env.locals::X.fs:=λb hb=>by
 rcases I.ok.uD with e|⟨e,hf⟩
 .rw[e]at hb;exact qm _ hb
 .rw[e]at hb
  unfold gI at hb;rw[a1v,hf]at hb;exact hb
def Inv.fK(I:Inv X pins σ H s):∀b∈gI X.stack,H b=Ž:=λb hb=>by
 rcases qu.mp (I.gc b hb)with e|hb
 .rw[e];exact I.free
 .have(_,o,ho,_):=I.ok.dM.mem hb
  exact I.base.free b o ho (I.ok.pI b hb) λz=>I.ok.ko b z hb
def Inv.step{g':Array a0d}{t':Nat}{d':Drawn}{ch:Qa Qg}(I:Inv X pins σ H s)
  (pH:∀b∈ch,(b∈X.ex\/X.bG.heap.objs.size<=b)/\b≠X.env.locals/\(∀x c,X.env.cells.lookup x=ž c->c≠b)/\∀p∈X.pn++pins,p.1≠b)
  (keep:∀b o,b≠X.env.locals->b∉X.fs->b∉ch->s.heap.get? b=ž o->H b=Ž->h'.get? b=ž o)
  (slot:∀b o,b≠X.env.locals->b∈X.fs->b∉ch->s.heap.get? b=ž o->H b=Ž->∃sl,h'.get? b=ž {o with slots:=sl}) (free:∀b o,b∉ch->s.heap.get? b=ž o->H b=Ž->H' b=Ž)
  (there:∀b o,b∉ch->s.heap.get? b=ž o->∃o',h'.get? b=ž o')
  (d9:∀b xs,H b=ž (.tup xs)->H' b=ž (.tup xs)) (dN:∀b o u,H b=ž (.bj o u)->H' b=ž (.bj o u)) (eP:∀b ps,H b=ž (.uC ps)->∃more,H' b=ž (.uC<|ps++more))
  (ns:∀m,s.heap.Ns X.env.locals m->h'.Ns X.env.locals m) (aC:cC X.prog X.w X.K H' h') (hg:a0U g'):
  Inv X pins σ H' {s with heap:=h',gens:=g',drawn:=d',toks:=t'}:=by
 have S8:∀b o,X.bG.heap.get? b=ž o->b≠X.env.locals:=λb o e=>qj<|qi (qh e) I.ok.above;have Em:∀b o,X.bG.heap.get? b=ž o->b∉X.ex->b∉ch:=λb o e hx hb=>by
  rcases(pH b hb).1 with z|z
  .exact hx z
  .exact absurd (qi (qh e) z) (Ð _)
 have cellK:∀x c,X.env.cells.lookup x=ž c->∀v,s.heap.IsCell c v->h'.IsCell c v:=λx c e v ⟨o,ho,hd⟩=>by
  have AD:c∉ch:=λz=>(pH c z).2.2.1 x c e rfl
  by_cases hc:c∈X.fs
  .have(sl,q):=slot c o (I.ni x c e) hc AD ho (I.bo x c e)
   exact⟨_,q,hd⟩
  .exact⟨o,keep c o (I.ni x c e) hc AD ho<|I.bo x c e,hd⟩
 refine⟨I.ok,I.os,hg,⟨λb o e n hb hx=>?_,λb o e n hb hx=>?_,λb o e n hx=>?_,λb o e hx=>?_,λb xs e=>d9 b xs<|I.base.d9 b xs e,λb o xs e=>dN b o xs<|I.base.dN b o xs e,λb ps e=>?_⟩,?_,λx c e=>?_,?_,λx c e=>?_,λp hp=>?_,aC,I.len⟩
 .exact keep b o (S8 b o e) hb (Em b o e hx) (I.base.keep b o e n hb hx) (I.base.free b o e n hx)
 .have(sl,e1):=I.base.slot b o e n hb hx
  have(Ei,e2):=slot b _ (S8 b o e) hb (Em b o e hx) e1 (I.base.free b o e n hx);exact⟨Ei,e2⟩
 .have(o',e1):=I.base.there b o e hx
  exact free b o' (Em b o e hx) e1<|I.base.free b o e n hx
 .have(o',e1):=I.base.there b o e hx
  exact there b o' (Em b o e hx) e1
 .have(m1,e1):=I.base.eP b ps e
  have(m2,e2):=eP b _ e1;exact⟨m1++m2,by rw[e2,a4I]⟩
 .have(m,hn,hl):=I.loc
  refine⟨m,ns m hn,λi x v e1 e2 e3=>?_⟩;have(u,r,l):=hl i x v e1 e2 e3;refine⟨u,r,?_⟩;rcases l with l|⟨k,c,e,z⟩
  .exact .inl l
  .exact .inr ⟨k,c,e,cellK x c e _ z⟩
 .have(v,z):=I.cell x c e
  exact⟨v,cellK x c e v z⟩
 .obtain⟨m,⟨o,_,_,ho,_⟩,_⟩:=I.loc
  exact free _ o (λz=>(pH _ z).2.1 rfl) ho I.free
 .have(v,o,ho,hd):=I.cell x c e
  exact free c o (λz=>(pH c z).2.2.1 x c e rfl) ho<|I.bo x c e
 .have(e,n,ne,nf,d):=I.pin p hp
  have AD:p.1∉ch:=λz=>(pH p.1 z).2.2.2 p hp rfl;exact⟨keep p.1 p.2 ne nf AD e n,free p.1 p.2 AD e n,ne,nf,d⟩
def Inv.un{t':Nat}(I:Inv X pins σ H s)(u:Un X.fs [] H H' s.heap h')(aC:cC X.prog X.w X.K H' h'):Inv X pins σ H' {s with heap:=h',toks:=t'}:=by
 obtain⟨m,⟨o,es,ep,ho,r⟩,_⟩:=id I.loc;have(sl,hL):=u.any ho I.free (by simp);exact I.step (g':=s.gens) (d':=s.drawn) (ch:=[]) (λ_ z=>nomatch z) (λb o _ hb _ e n=>u.keep b o e n hb (by simp)) (λb o _ hb _ e n=>u.slot b o e n hb (by simp)) (λb o _ e n=>u.free b o e n (by simp)) (λb o _ e=>u.there b o e (by simp)) u.d9 u.dN u.eP (λm' hm=>by
  have(o',pK,gJ,cZ,r'):=hm;rw[ho]at cZ;cases cZ;exact⟨_,pK,gJ,hL,r'⟩) aC I.bare
def Inv.call{g':Array a0d}{t':Nat}{d':Drawn}{ch:Qa Qg}(I:Inv X pins σ H s)(u:Un (gI X.stack) ch H H' s.heap h')(aC:cC X.prog X.w X.K H' h')(hg:a0U g')
  (pH:∀b∈ch,(b∈X.ex\/X.bG.heap.objs.size<=b)/\b≠X.env.locals/\(∀x c,X.env.cells.lookup x=ž c->c≠b)/\∀p∈X.pn++pins,p.1≠b):
  Inv X pins σ H' {s with heap:=h',gens:=g',drawn:=d',toks:=t'}:=by
 obtain⟨m,⟨o,es,ep,ho,r⟩,_⟩:=id I.loc;have(sl,hL):=u.any ho I.free λz=>(pH _ z).2.1 rfl;exact I.step (ch:=ch) pH (λb o hL hb hc e n=>u.keep b o e n (λz=>(qu.mp<|I.gc b z).elim hL hb) hc) (λb o _ _ hc e n=>u.any e n hc) (λb o hc e n=>u.free b o e n hc) (λb o hc e=>u.there b o e hc) u.d9 u.dN u.eP (λm' hm=>by
  have(o',pK,gJ,cZ,r'):=hm;rw[ho]at cZ;cases cZ;exact⟨_,pK,gJ,hL,r'⟩) aC hg
def Inv.turned{t':Nat}{it:Qg}(I:Inv X pins σ H s)(k:∀b o,b≠it->s.heap.get? b=ž o->h'.get? b=ž o)(hn:H it=Ž)(hL:it≠X.env.locals)
  (h1:it∈X.ex\/X.bG.heap.objs.size<=it) (h2:∀x c,X.env.cells.lookup x=ž c->c≠it) (h3:∀p∈X.pn++pins,p.1≠it):Inv X pins σ H {s with heap:=h',toks:=t'}:=by
 have AA:∀b u,H b=ž u->b≠it:=λb u e z=>by rw[z,hn]at e;cases e
 refine I.step (g':=s.gens) (d':=s.drawn) (ch:=[it]) (λb hb=>?_) (λb o _ _ hc e _=>k b o (λz=>hc (by simp[z])) e) (λb o _ _ hc e _=>⟨o.slots,k b o (λz=>hc (by simp[z])) e⟩) (λ_ _ _ _ n=>n)
  (λb o hc e=>⟨o,k b o (λz=>hc (by simp[z])) e⟩) (λ_ _ e=>e) (λ_ _ _ e=>e) (λb ps e=>⟨#[],by rw[e];simp⟩) (λm hm=>?_) (λb u e=>?_) I.bare
 .have e:b=it:=by simpa using hb
  subst e;exact⟨h1,hL,h2,h3⟩
 .have(o,es,ep,ho,r):=hm
  exact⟨o,es,ep,k _ o (ĭ hL) ho,r⟩
 .refine(I.aC b u e).eA (λc v hc q=>k c v ?_ q) (λ_ q=>q) λ_ _ q=>q
  rcases hc with z|z
  .rw[z];exact AA b u e
  .exact AA c _ z
def Inv.tok(I:Inv X pins σ H s)(t:Nat):Inv X pins σ H {s with toks:=t}:=I.un (h':=s.heap) (t':=t) Un.refl I.aC
def Inv.kept{t':Nat}(I:Inv X pins σ H s)(k:∀b u,s.heap.get? b=ž u->h'.get? b=ž u):Inv X pins σ H {s with heap:=h',toks:=t'}:=I.un (Un.kept k) (I.aC.kept k)
def Inv.laid{a:Qg}{o:HO}{t':Nat}(I:Inv X pins σ H s)(k:∀b u,s.heap.get? b=ž u->h'.get? b=ž u)(hp:s.heap.objs.size<=a)(new:bV X.prog X.w X.K (upd H a o) h' a o):
  Inv X pins σ (upd H a o) {s with heap:=h',toks:=t'}:=I.un (Un.laid k hp<|I.aC.fresh hp) (I.aC.laid k hp new)
def Inv.write{x e:Qg}{o:HO}{t':Nat}(I:Inv X pins σ H s)(mu:Bw (H x))(he:e=x\/H e=ž (.own x))(k:∀b u,b≠e->s.heap.get? b=ž u->h'.get? b=ž u)(xl:∃u,h'.get? e=ž u)
  (new:bV X.prog X.w X.K (upd H x o) h' x o):Inv X pins σ (upd H x o) {s with heap:=h',toks:=t'}:=I.un (Un.write mu he k xl) (I.aC.write mu he k xl new)
def Inv.weak{aG:Qa (Qb V)}(I:Inv X pins σ H s)(hl:aG.length=σ.length)(w:∀(i:Nat) v,aG[i]?=ž (ž v)->σ[i]?=ž (ž v)):Inv X pins aG H s :=
 ⟨I.ok,I.os,I.bare,I.base,let ⟨m,hn,ED⟩:=I.loc;⟨m,hn,λi x v e1 e2 e3=>ED i x v e1 (w i v e2) e3⟩,I.cell,I.free,I.bo,I.pin,I.aC,hl.trans I.len⟩
def Inv.fM{iX:Qa (Qg×Obj)}(I:Inv X pins σ H s)(h:∀p∈iX,s.heap.get? p.1=ž p.2/\H p.1=Ž/\p.1≠X.env.locals/\p.1∉X.fs/\∀v,p.2.data≠.cell v):Inv X iX σ H s :=
 ⟨I.ok,I.os,I.bare,I.base,I.loc,I.cell,I.free,I.bo,λp hp=>(È.mp hp).elim (λz=>I.pin p<|Ò _ z)<|h p,I.aC,I.len⟩
def HN{N:Qa Str}(hN:N.Nodup){i j:Nat}{x:Str}(a:N[i]?=ž x)(b:N[j]?=ž x):i=j:=by
 have(h1,e1):=qk.mp a;have(h2,e2):=qk.mp b;exact(a5o hN).mp<|e1.trans e2.symm
def Qt{M:a2O}{A:Qf}{E:Qc->Qd->Prop}{i:Nat}{x:Str}{v:V}{u:Qc}{Q:Unit->Qd->Prop}(I:Inv X pins σ H s)(hN:X.N.Nodup)(hi:X.N[i]?=ž x)(hx:Loc X.env.scope x)(r:aP v u)
  (h:∀s',Inv X pins (σ.set i<|some v) H s'->(∃a,Ϧ a s.heap s'.heap/\(a=X.env.locals\/X.env.cells.lookup x=ž a))->Q () s') (hf:X.fn x=ż\/X.env.scope.names.lookup x=ž .local:=by first|exact .inl rfl|exact .inr rfl|assumption):Č M A (storeName X.env x u) Q E s:=by
 have(m,hn,hl):=id I.loc;have om:(X.env.scope.kind==.class || (X.env.scope.kind==.module && X.env.locals != X.env.globals))=Ż:=by rw[I.ok.kind];rfl
 have qW:i < σ.length:=by rw[I.len];exact(qk.mp hi).1
 have ni:=I.ni;have tracked:∀{a:Qg} {h':Į},(∃o,s.heap.get? a=ž o/\H a=Ž)->Ϧ a s.heap h'->cC X.prog X.w X.K H h':=λ{a h'} ha hs b ob e=>by
  have(_,_,tz):=ha;refine(I.aC b ob e).eA (λc w' hc q=>(hs.2 c ?_).trans q) (λ_ q=>q) λ_ _ q=>q;rintro rfl;rcases hc with rfl|hc
  .rw[tz]at e;cases e
  .rw[tz]at hc;cases hc
 rcases hx with hk|hk
 .refine wpAny_storeName_local hk hn (λh' xi hs=>?_) om
  have(oL,_,_,AU,_):=id hn;refine h _ ⟨I.ok,I.os,I.bare,⟨λb o e n hb hx=>?_,λb o e n hb hx=>?_,I.base.free,λb o e hx=>?_,I.base.d9,I.base.dN,I.base.eP⟩,⟨_,xi,λj y v' e1 e2 e3=>?_⟩,λy c e=>?_,I.free,I.bo,λp hp=>?_,tracked ⟨oL,AU,I.free⟩ hs,by simpa using I.len⟩ ⟨_,hs,.inl rfl⟩
  .exact(hs.2 b<|qj<|qi (qh e) I.ok.above).trans (I.base.keep b o e n hb hx)
  .have(sl,e1):=I.base.slot b o e n hb hx
   exact⟨sl,(hs.2 b<|qj<|qi (qh e) I.ok.above).trans e1⟩
  .have(o',e1):=I.base.there b o e hx
   exact⟨o',(hs.2 b<|qj<|qi (qh e) I.ok.above).trans e1⟩
  .by_cases hj:j=i
   .subst hj
    rw[hi]at e1;cases e1;rw[Ĭ qW]at e2;cases e2;exact⟨u,r,.inl ⟨hk,by simp⟩⟩
   .rw[qB<|ĭ hj]at e2
    have(u',r',q):=hl j y v' e1 e2 e3;refine⟨u',r',?_⟩;rcases q with⟨k,e⟩|⟨k,c,e,z⟩
    .refine .inl ⟨k,?_⟩
     have:y≠x:=λe=>hj<|HN hN e1<|e▸hi;simp[this,e]
    .exact .inr ⟨k,c,e,z.sameBut hs<|ni y c e⟩
  .have(w',z):=I.cell y c e
   exact⟨w',z.sameBut hs<|ni y c e⟩
  .have(e,n,ne,nf,d):=I.pin p hp
   exact⟨(hs.2 p.1 ne).trans e,n,ne,nf,d⟩
 .have Kc:X.fn x=ż:=by
   rcases hf with z|z
   .exact z
   .rw[z]at hk;cases hk
  have(c,hc):=I.ok.has x (.inl hk);have(w',z):=I.cell x c hc;refine wpAny_storeName_cell I.ok.kind hk hc z λh' gR hs=>?_;have(oc,w9,JX):=id z;refine h {s with heap:=h'} ⟨I.ok,I.os,I.bare,⟨λb o e n hb hx=>?_,λb o e n hb hx=>?_,I.base.free,λb o e hx=>?_,I.base.d9,I.base.dN,I.base.eP⟩,⟨m,hn.sameBut hs<|ĭ<|ni x c hc,λj y v' e1 e2 e3=>?_⟩,λy c' e=>?_,I.free,I.bo,λp hp=>?_,tracked ⟨oc,w9,I.bo x c hc⟩ hs,by simpa using I.len⟩ ⟨c,hs,.inr hc⟩
  .exact(hs.2 b<|qj<|qi (qh e)<|I.ok.tH x c Kc hc).trans (I.base.keep b o e n hb hx)
  .have(sl,e1):=I.base.slot b o e n hb hx
   exact⟨sl,(hs.2 b<|qj<|qi (qh e)<|I.ok.tH x c Kc hc).trans e1⟩
  .have(o',e1):=I.base.there b o e hx
   exact⟨o',(hs.2 b<|qj<|qi (qh e)<|I.ok.tH x c Kc hc).trans e1⟩
  .by_cases hj:j=i
   .subst hj
    rw[hi]at e1;cases e1;rw[Ĭ qW]at e2;cases e2;exact⟨u,r,.inr ⟨.inl hk,c,hc,gR⟩⟩
   .rw[qB<|ĭ hj]at e2
    have(u',r',q):=hl j y v' e1 e2 e3;refine⟨u',r',?_⟩;rcases q with q|⟨k,c',e,z'⟩
    .exact .inl q
    .refine .inr ⟨k,c',e,z'.sameBut hs ?_⟩
     rintro rfl;exact hj<|HN hN e1<|I.ok.inj _ _ _ e hc▸hi
  .by_cases TZ:c'=c
   .subst TZ;exact⟨_,gR⟩
   .have(w2,z2):=I.cell y c' e
    exact⟨w2,z2.sameBut hs TZ⟩
  .have(e,n,ne,nf,d):=I.pin p hp
   refine⟨(hs.2 p.1 ?_).trans e,n,ne,nf,d⟩;intro q;rw[q,w9]at e;have q':oc=p.2:=qw e;exact d w' (by rw[<-q'];exact JX)
def yY{M:a2O}{A:Qf}{E:Qc->Qd->Prop}{i:Nat}{x:Str}{v:V}{u:Qc}{Q:Unit->Qd->Prop}(I:Inv X pins σ H s)(hN:X.N.Nodup)(hi:X.N[i]?=ž x)(hx:Loc X.env.scope x)(r:aP v u)
  (h:∀s',Inv X pins (σ.set i<|some v) H s'->Q () s') (hf:X.fn x=ż\/X.env.scope.names.lookup x=ž .local:=by first|exact .inl rfl|exact .inr rfl|assumption):Č M A (storeName X.env x u) Q E s :=
 Qt I hN hi hx r (λs' I' _=>h s' I') hf
def Inv.Bp{s':Qd}{ch:Qa Qg}(I:Inv X pins σ H s)(ho:s'.os=s.os)(u:Un (gI X.stack) ch H H' s.heap s'.heap)(aC:cC X.prog X.w X.K H' s'.heap)(hg:a0U s'.gens)
  (pH:∀b∈ch,(b∈X.ex\/X.bG.heap.objs.size<=b)/\b≠X.env.locals/\(∀x c,X.env.cells.lookup x=ž c->c≠b)/\∀p∈X.pn++pins,p.1≠b):Inv X pins σ H' s':=by
 have(h',g',d',t',o'):=s';have e:o'=s.os:=ho;subst e;exact I.call (g':=g') (t':=t') (d':=d') u aC hg pH
end
abbrev XK:=Qc->Qb Qg->Hp->Prop
abbrev St:=Qa (Qb V)
abbrev VK:=V->Hp->Prop
abbrev TE:=St->Hp->VK->Prop
abbrev TT:=St->Hp->(Bool->Hp->Prop)->Prop
abbrev TA:=St->Hp->(Qa V->Hp->Prop)->Prop
structure Ends where
 nx:St->Hp->Prop
 rt:VK
 bk:St->Hp->Prop:=λ_ _=>False
 ct:St->Hp->Prop:=λ_ _=>False
abbrev TS:=Ends->St->Hp->Prop
def EP(X:Cx)(pins:Qa (Qg×Obj))(σ:St)(Q:VK)(u:Qc)(s':Qd):Prop:=∃v H',Inv X pins σ H' s'/\aP v u/\Q v H'
def TP(X:Cx)(pins:Qa (Qg×Obj))(σ:St)(Q:Bool->Hp->Prop)(b:Bool)(s':Qd):Prop:=∃H',Inv X pins σ H' s'/\Q b H'
def AP(X:Cx)(pins:Qa (Qg×Obj))(σ:St)(Q:Qa V->Hp->Prop)(us:Qa Qc)(s':Qd):Prop:=∃vs H',Inv X pins σ H' s'/\zY vs us/\Q vs H'
def SP(X:Cx)(pins:Qa (Qg×Obj))(D:Ends)(f:Flow)(s':Qd):Prop :=
 match f with
 |.next=>∃aG H',Inv X pins aG H' s'/\D.nx aG H'
 |.brk=>∃aG H',Inv X pins aG H' s'/\D.bk aG H'
 |.cont=>∃aG H',Inv X pins aG H' s'/\D.ct aG H'
 |.ret u=>∃v aG H',Inv X pins aG H' s'/\aP v u/\D.rt v H'
def PE(X:Cx)(e:į)(t:TE):Prop :=
 ∀(pins:Qa (Qg×Obj)) (s:Qd) (σ:St) (H:Hp) (Q:VK),Inv X pins σ H s->t σ H Q->Č (Đ X.prog X.w) X.A (Ŭ e X.env) (EP X pins σ Q) X.xe s
def PT(X:Cx)(e:į)(t:TT):Prop :=
 ∀(pins:Qa (Qg×Obj)) (s:Qd) (σ:St) (H:Hp) (Q:Bool->Hp->Prop),Inv X pins σ H s->t σ H Q->Č (Đ X.prog X.w) X.A (a3f e X.env<|Ŭ e X.env) (TP X pins σ Q) X.xe s
def PW(X:Cx)(e:į)(t:TT):Prop :=
 ∀(whole:Sem Qc) (pins:Qa (Qg×Obj)) (s:Qd) (σ:St) (H:Hp) (Q:Bool->Hp->Prop),Inv X pins σ H s->t σ H Q->Č (Đ X.prog X.w) X.A (a3f e X.env whole) (TP X pins σ Q) X.xe s
def PW.pt{X:Cx}{e:į}{t:TT}(h:PW X e t):PT X e t:=h _
def PA(X:Cx)(es:Qa į)(t:TA):Prop :=
 ∀(pos:Pos) (pins:Qa (Qg×Obj)) (s:Qd) (σ:St) (H:Hp) (Q:Qa V->Hp->Prop),Inv X pins σ H s->t σ H Q->Č (Đ X.prog X.w) X.A (spliced<|Γ pos<|ķ es X.env) (AP X pins σ Q) X.xe s
def PS(X:Cx)(st:Ş)(t:TS):Prop :=
 ∀(pins:Qa (Qg×Obj)) (s:Qd) (σ:St) (H:Hp) (D:Ends),Inv X pins σ H s->t D σ H->Č (Đ X.prog X.w) X.A (exec st X.env) (SP X pins D) X.xe s
def dR(X:Cx)(st:Qa Ş)(t:TS):Prop :=
 ∀(pins:Qa (Qg×Obj)) (s:Qd) (σ:St) (H:Hp) (D:Ends),Inv X pins σ H s->t D σ H->Č (Đ X.prog X.w) X.A (execs st X.env) (SP X pins D) X.xe s
def aJ{α:Type}{t:Sem α}{Q Q':α->Qd->Prop}{M:a2O}{A:Qf}{E:Qc->Qd->Prop}{s:Qd}(h:Č M A t Q E s)(hQ:∀a s,Q a s->Q' a s):Č M A t Q' E s:=ŋ h hQ λ_ _ x=>x
section
variable{X:Cx}
def bin{a b:į}{ta tb:TE}(ha:PE X a ta)(hb:PE X b tb){pins:Qa (Qg×Obj)}{s:Qd}{σ:St}{H:Hp}{R:V->V->Hp->Prop}(I:Inv X pins σ H s)(h:ta σ H λx H1=>tb σ H1 λy H2=>R x y H2)
  {α:Type} {Q:α->Qd->Prop} {f:Qc->Qc->Sem α}
  (hf:∀v u s2 x y H2,Inv X pins σ H2 s2->aP x v->aP y u->R x y H2->Č (Đ X.prog X.w) X.A (f v u) Q X.xe s2):
  Č (Đ X.prog X.w) X.A (Ŭ a X.env) (λv aH=>Č (Đ X.prog X.w) X.A (Ŭ b X.env) (λu gP=>Č (Đ X.prog X.w) X.A (f v u) Q X.xe gP) X.xe aH) X.xe s:=by
 refine aJ (ha pins s σ H _ I h) λv s1 hZ=>?_;have(x,H1,I1,r1,q1):=hZ;refine aJ (hb pins s1 σ H1 _ I1 q1) λu s2 hZ=>?_;have(y,H2,I2,r2,q2):=hZ;exact hf v u s2 x y H2 I2 r1 r2 q2
def nF(i:Nat):TE:=λσ H Q=>∃v,σ[i]?=ž (ž v)/\Q v H
def tC(v:V):TE:=λ_ H Q=>Q v H
def WT{i:Nat}{x:Str}{pos:Pos}(hN:X.N[i]?=ž x)(hv:EW X.env.scope x)(hd:(x==("__debug__":Str))=Ż:=by decide)(iJ:(x==("__classdict__":Str))=Ż:=by decide):PE X (.Name x pos) (nF i):=by
 intro pins s σ H Q I h;have(v,e,h):=h;have(m,hn,hl):=I.loc;have(u,r,l):=hl i x v hN e hv;have fin:EP X pins σ Q u s:=⟨v,H,I,r,h⟩;rcases l with⟨hk,hm⟩|⟨hk,c,hc,tD⟩
 .exact wpAny_Name (wpAny_loadName_local I.ok.kind hk hn hm fin) hd
 .rcases hk with hk|hk
  .exact wpAny_Name (wpAny_loadName_cell I.ok.kind hk hc tD fin) hd
  .exact wpAny_Name (wpAny_loadName_free I.ok.kind hk hc tD fin iJ) hd
def WS{i j pos}:PE X (.Constant (.int i) j pos) (tC<|.int i):=λ_ _ _ H _ I h=>wpAny_Constant_int ⟨.int i,H,I.tok _,⟨_,rfl⟩,h⟩
def zAC{b j pos}:PE X (.Constant (.bool b) j pos) (tC<|.bl b):=λ_ _ _ H _ I h=>Constant_bool ⟨.bl b,H,I,rfl,h⟩
def WR{j pos}:PE X (.Constant .none j pos) (tC .aK):=λ_ _ _ H _ I h=>Constant_none ⟨.aK,H,I,rfl,h⟩
def Xb{x j pos}:PE X (.Constant (.str x) j pos) (tC<|.str x):=λ_ _ _ H _ I h=>Calls.Constant_str ⟨.str x,H,I.tok _,⟨_,rfl⟩,h⟩
def Gl(X:Cx)(x:Str):Prop:=X.env.kindOf x=ž .globalImplicit
def wC{E:Qc->Qd->Prop}{pins:Qa (Qg×Obj)}{s:Qd}{σ:St}{H:Hp}{x:Str}{u:Qc}{pos:Pos}{Q:Qc->Qd->Prop}(I:Inv X pins σ H s)(hg:Gl X x)(hm:X.mg x=ž u)(h:Q u s)
  (hd:(x==("__debug__":Str))=Ż:=by decide):Č (Đ X.prog X.w) X.A (Ŭ (.Name x pos) X.env) Q E s :=
 a2U I.ok.kind hg (Calls.loadGlobal_global (by rw[I.ok.glob];exact I.mod.glob.keeps I.bk) hm h) hd
def wz{E:Qc->Qd->Prop}{pins:Qa (Qg×Obj)}{s:Qd}{σ:St}{H:Hp}{x:Str}{u:Qc}{pos:Pos}{Q:Qc->Qd->Prop}(I:Inv X pins σ H s)(hg:Gl X x)(hm:X.mg x=Ž)(hv:Ű x=ž u)(h:Q u s)
  (hn:x ≠ "__name__":=by decide) (hd:(x==("__debug__":Str))=Ż:=by decide):Č (Đ X.prog X.w) X.A (Ŭ (.Name x pos) X.env) Q E s:=by
 have(mb,h1,h2):=I.mod.blt;exact a2U I.ok.kind hg (Calls.loadGlobal_builtin (by rw[I.ok.glob];exact I.mod.glob.keeps I.bk) hm (by rw[I.ok.blt];exact h1.keeps I.bk) ((h2 x hn).trans hv) h) hd
def YZ{x:Str}{v:V}{u:Qc}{pos:Pos}(hg:Gl X x)(hm:X.mg x=ž u)(r:aP v u)(hd:(x==("__debug__":Str))=Ż:=by decide):PE X (.Name x pos) (tC v):=
 λ_ _ _ H _ I h=>wC I hg hm ⟨v,H,I,r,h⟩ hd
def YY{x:Str}{v:V}{u:Qc}{pos:Pos}(hg:Gl X x)(hm:X.mg x=Ž)(hv:Ű x=ž u)(r:aP v u)(hn:x ≠ "__name__":=by decide)(hd:(x==("__debug__":Str))=Ż:=by decide):PE X (.Name x pos) (tC v):=
 λ_ _ _ H _ I h=>wz I hg hm hv ⟨v,H,I,r,h⟩ hn hd
variable{a b:į}{ta tb:TE}{pos:Pos}
def tB(t:TE):TT:=λσ H Q=>t σ H λx H1=>∃c,x=.bl c/\Q c H1
def Xa{e:į}{t:TE}(h:PE X e t)(he:∀whole,a3f e X.env whole=(do let v <-whole;a3A e.pos;a0P [v] (truthy v)):=by intro _;rfl):PT X e (tB t):=by
 intro pins s σ H Q I hw;refine isTrue_plain (aJ (h pins s σ H _ I hw) λv s1 hZ=>?_)<|he _;have(x,H1,I1,r1,q1):=hZ;have(d,rfl,q):=q1;cases r1;exact Ń ⟨H1,I1,q⟩
variable{tA ph:TT}{rest:Qa į}
def F7(t u:TT):TT:=λσ H Q=>t σ H λc H1=>if c=ż then u σ H1 Q else Q Ż H1
def IX(t u:TT):TT:=λσ H Q=>t σ H λc H1=>if c=ż then Q ż H1 else u σ H1 Q
def F6(t:TT):TT:=λσ H Q=>t σ H λc H1=>Q (!c) H1
def YX(ha:PT X a tA):PW X (.BoolOp .And [a] pos) tA:=by
 intro wh pins s σ H Q I h;refine isTrue_and<|aJ (ha pins s σ H Q I h) λc s1 e=>?_;cases c with
 |true=>exact isTrue_and_nil e
 |false=>exact e
def W9(ha:PT X a tA):PW X (.BoolOp .Or [a] pos) tA:=by
 intro wh pins s σ H Q I h;refine isTrue_or<|aJ (ha pins s σ H Q I h) λc s1 e=>?_;cases c with
 |false=>exact isTrue_or_nil e
 |true=>exact e
def W8(ha:PT X a tA)(hb:PW X (.BoolOp .And (b::rest) pos) ph):PW X (.BoolOp .And (a::b::rest) pos) (F7 tA ph):=by
 intro wh pins s σ H Q I h;refine isTrue_and<|aJ (ha pins s σ H _ I h) λc s1 hZ=>?_;have(H1,I1,q1):=hZ;cases c with
 |true=>exact hb wh pins s1 σ H1 Q I1 q1
 |false=>exact⟨H1,I1,q1⟩
def zAD(ha:PT X a tA)(hb:PW X (.BoolOp .Or (b::rest) pos) ph):PW X (.BoolOp .Or (a::b::rest) pos) (IX tA ph):=by
 intro wh pins s σ H Q I h;refine isTrue_or<|aJ (ha pins s σ H _ I h) λc s1 hZ=>?_;have(H1,I1,q1):=hZ;cases c with
 |true=>exact⟨H1,I1,q1⟩
 |false=>exact hb wh pins s1 σ H1 Q I1 q1
def W7(ha:PT X a tA):PT X (.UnaryOp .Not a pos) (F6 tA):=by
 intro pins s σ H Q I h;exact isTrue_not<|ha pins s σ H (λc H1=>Q (!c) H1) I h
def GC(ta tb:TE):TE:=λσ H Q=>ta σ H λx H1=>∃c,x=.bl c/\if c=ż then tb σ H1 Q else Q (.bl Ż) H1
def GB(ta:TE):TE:=λσ H Q=>ta σ H λx H1=>∃c,x=.bl c/\Q (.bl (!c)) H1
def W6{op}{t:TE}(h:PE X a t):PE X (.BoolOp op [a] pos) t:=λpins s σ H Q I hw=>BoolOp_one<|h pins s σ H Q I hw
def W5(ha:PE X a ta)(hb:PE X (.BoolOp .And (b::rest) pos) tb):PE X (.BoolOp .And (a::b::rest) pos) (GC ta tb):=by
 intro pins s σ H Q I h;refine BoolOp_and<|aJ (ha pins s σ H _ I h) λv s1 hZ=>?_;have(x,H1,I1,r1,q1):=hZ;have(c,rfl,q1):=q1;cases r1;refine Ń ?_;cases c with
 |true=>exact hb pins s1 σ H1 Q I1 q1
 |false=>exact⟨.bl Ż,H1,I1,rfl,q1⟩
def W4(ha:PE X a ta):PE X (.UnaryOp .Not a pos) (GB ta):=by
 intro pins s σ H Q I h;refine UnaryOp_<|aJ (ha pins s σ H _ I h) λv s1 hZ=>?_;have(x,H1,I1,r1,q1):=hZ;have(c,rfl,q1):=q1;cases r1;exact not_of<|Ń ⟨.bl (!c),H1,I1,rfl,q1⟩
def IY(t:TT)(ta tb:TE):TE:=λσ H Q=>t σ H λc H1=>if c=ż then ta σ H1 Q else tb σ H1 Q
def zqn{c:į}(hc:PT X c tA)(ha:PE X a ta)(hb:PE X b tb):PE X (.IfExp c a b pos) (IY tA ta tb):=by
 intro pins s σ H Q I h;refine wpAny_IfExp<|aJ (hc pins s σ H _ I h) λd s1 hZ=>?_;have(H1,I1,q1):=hZ;cases d with
 |true=>exact ha pins s1 σ H1 Q I1 q1
 |false=>exact hb pins s1 σ H1 Q I1 q1
end
def bZ(K:qc)(H:Hp)(a:Qg)(xs:Qa V):Prop :=
 Rd H a (.lst xs)\/
  ∃(o:Obj) (aq:Array Qc) (n:Nat),K.lookup a=ž o/\o.cls=.type "list"/\o.dict=Ž/\o.data=.seq aq n/\aq.size<=Ď/\zY xs aq.toList
def bT(K:qc)(H:Hp)(a:Qg)(xs:Qa V):Prop :=
 Rd H a (.tup xs)\/
  ∃(o:Obj) (aq:Array Qc) (n:Nat),K.lookup a=ž o/\o.cls=.type "tuple"/\o.data=.seq aq n/\aq.size<=Ď/\zY xs aq.toList
noncomputable def zCO:Qc->Qb V
 |.none=>ž .aK
 |.bool b=>ž<|.bl b
 |.int i _=>ž<|.int i
 |.str x _=>ž<|.str x
 |.bytes b _=>ž<|.lh b
 |.float b _=>ž<|.vh b
 |.ref a=>ž<|.ref a
 |.type n=>ž<|.ty n
 |_=>Ž
def aP.abs{x:V}{u:Qc}(r:aP x u):zCO u=ž x:=by
 cases x with
 |aK=>cases r;rfl
 |bl _=>cases r;rfl
 |int _=>have(t,rfl):=r;rfl
 |str _=>have(t,rfl):=r;rfl
 |lh _=>have(t,rfl):=r;rfl
 |vh _=>have(t,rfl):=r;rfl
 |ref _=>cases r;rfl
 |ty _=>cases r;rfl
def aP.inj{x y:V}{u:Qc}(r:aP x u)(q:aP y u):x=y:=qw (r.abs.symm.trans q.abs)
def zY.inj{xs ys:Qa V}{us:Qa Qc}(h:zY xs us)(h':zY ys us):xs=ys:=by
 induction h generalizing ys with
 |nil=>cases h';rfl
 |cons r _ ih=>cases h' with
  |cons r' t'=>rw[r.inj r',ih t']
section
variable{X:Cx}{pins:Qa (Qg×Obj)}{σ:St}{H:Hp}{s:Qd}{a:Qg}{xs ys:Qa V}
def bZ.of{K:qc}(h:H a=ž (.lst xs)):bZ K H a xs:=.inl (.inl h)
def Inv.list(I:Inv X pins σ H s)(h:bZ X.K H a xs):∃aq:Qa Qc,zY xs aq/\PlainL s.heap a aq.toArray/\xs.length<=Ď:=by
 rcases h with h|⟨o,aq,n,hk,hc,hd,hs,hz,r⟩
 .have(z,aq,n,r,e):=h.ok I.aC
  exact⟨aq,r,⟨_,n,e,rfl,rfl,rfl⟩,z⟩
 .refine⟨aq.toList,r,⟨o,n,I.bP a o hk,hc,hd,by simpa using hs⟩,?_⟩
  have e:=r.length;simp only[Ġ]at e;omega
def Inv.tuple(I:Inv X pins σ H s)(h:bT X.K H a xs):∃aq:Qa Qc,zY xs aq/\a2P s.heap a aq.toArray/\xs.length<=Ď:=by
 rcases h with h|⟨o,aq,n,hk,hc,hs,hz,r⟩
 .have(z,aq,r,p):=h.ok I.aC
  exact⟨aq,r,p.tup,z⟩
 .refine⟨aq.toList,r,⟨o,I.bP a o hk,hc,n,by simpa using hs⟩,?_⟩
  have e:=r.length;simp only[Ġ]at e;omega
def Inv.nU(I:Inv X pins σ H s)(h:bZ X.K H a xs)(h':bZ X.K H a ys):xs=ys:=by
 obtain⟨aq,r,⟨o,n,e,_,_,d⟩,_⟩:=I.list h;obtain⟨its',r',⟨o',n',e',_,_,d'⟩,_⟩:=I.list h';rw[e]at e';cases e';rw[d]at d';injection d' with d1 _;have:aq=its':=by simpa using congrArg ο d1
 subst this;exact r.inj r'
def Inv.cS(I:Inv X pins σ H s)(h:bT X.K H a xs)(h':bT X.K H a ys):xs=ys:=by
 obtain⟨aq,r,⟨o,e,_,n,d⟩,_⟩:=I.tuple h;obtain⟨its',r',⟨o',e',_,n',d'⟩,_⟩:=I.tuple h';rw[e]at e';cases e';rw[d]at d';injection d' with d1 _;have:aq=its':=by simpa using congrArg ο d1
 subst this;exact r.inj r'
end
noncomputable abbrev Cx.gO(X:Cx)(E:Qc->Qd->Prop):Cx:={X with xe:=E}
abbrev Cx.uM(X:Cx):Cx:=X.gO λ_ _=>False
def Cx.Ok.gO{X:Cx}(ok:X.Ok)(E:Qc->Qd->Prop):(X.gO E).Ok :=
 ⟨ok.mod,ok.kind,ok.glob,ok.blt,ok.above,ok.inj,ok.has,ok.tH,ok.hd,ok.frames,ok.uD,ok.xt,ok.bs,ok.nj,ok.i0,ok.ko,ok.dM,ok.pI⟩
def Cx.Ok.cG{X:Cx}{E:Qc->Qd->Prop}(ok:(X.gO E).Ok):X.Ok :=
 ⟨ok.mod,ok.kind,ok.glob,ok.blt,ok.above,ok.inj,ok.has,ok.tH,ok.hd,ok.frames,ok.uD,ok.xt,ok.bs,ok.nj,ok.i0,ok.ko,ok.dM,ok.pI⟩
section
variable{X:Cx}{pins:Qa (Qg×Obj)}{σ:St}{H:Hp}{s:Qd}{E:Qc->Qd->Prop}
def Inv.gO(I:Inv X pins σ H s)(E:Qc->Qd->Prop):Inv (X.gO E) pins σ H s:=⟨I.ok.gO E,I.os,I.bare,I.base,I.loc,I.cell,I.free,I.bo,I.pin,I.aC,I.len⟩
def Inv.cG(I:Inv (X.gO E) pins σ H s):Inv X pins σ H s:=⟨I.ok.cG,I.os,I.bare,I.base,I.loc,I.cell,I.free,I.bo,I.pin,I.aC,I.len⟩
def SP.cG{D:Ends}{f:Flow}{s':Qd}(h:SP (X.gO E) pins D f s'):SP X pins D f s':=by
 cases f with
 |next=>have(aG,H',I,q):=h;exact⟨aG,H',I.cG,q⟩
 |brk=>have(aG,H',I,q):=h;exact⟨aG,H',I.cG,q⟩
 |cont=>have(aG,H',I,q):=h;exact⟨aG,H',I.cG,q⟩
 |ret u=>have(v,aG,H',I,r,q):=h;exact⟨v,aG,H',I.cG,r,q⟩
def dR.uM{st:Qa Ş}{t:TS}(h:dR X.uM st t):dR X st t:=λpins s σ H D I hw=>
 ŋ (h pins s σ H D (I.gO _) hw) (λ_ _ q=>q.cG) λ_ _ z=>ō z
end
section
variable{X:Cx}{st:Ş}{rest:Qa Ş}{t u:TS}{e:į}{te:TE}{pos:Pos}
def GA:TS:=λD σ H=>D.nx σ H
def FL(t u:TS):TS:=λD σ H=>t {D with nx:=u D} σ H
def YW:dR X [] GA:=λ_ _ σ H _ I h=>a0j ⟨σ,H,I,h⟩
def zqp(h1:PS X st t)(h2:dR X rest u):dR X (st::rest) (FL t u):=by
 intro pins s σ H D I h;refine wpAny_execs_cons<|aJ (h1 pins s σ H {D with nx:=u D} I h) λf s1 q=>?_;cases f with
 |next=>
  have(aG,H',I',q):=q;exact h2 pins s1 aG H' D I' q
 |ret v=>exact q
 |brk=>exact q
 |cont=>exact q
def Hv(h1:PS X st t):dR X [st] t:=by
 intro pins s σ H D I h;refine wpAny_execs_cons<|aJ (h1 pins s σ H D I h) λf s1 q=>?_;cases f with
 |next=>exact a0j q
 |ret v=>exact q
 |brk=>exact q
 |cont=>exact q
def Gz:TS:=λD σ H=>D.ct σ H
def zku:PS X (.Continue pos) Gz:=λ_ _ σ H _ I h=>wpAny_Continue ⟨σ,H,I,h⟩
def Inv.quiet{pins:Qa (Qg×Obj)}{σ:St}{H:Hp}{s:Qd}(I:Inv X pins σ H s):interactive X.env=Ż:=by simp[interactive,I.ok.kind]
def Gy(te:TE):TS:=λD σ H=>te σ H λ_ H1=>D.nx σ H1
def YV(he:PE X e te)(hs:a0v e Ž pos.line X.env=pure Ż:=by rfl):PS X (.Expr e pos) (Gy te):=by
 intro pins s σ H D I h;exact wpAny_Expr_any (aJ (he pins s σ H _ I h) λv s1 ⟨x,H1,I1,r1,q1⟩=>⟨σ,H1,I1,q1⟩) I.quiet hs
def BX(te:TE):TS:=λD σ H=>te σ H D.rt
def V7(he:PE X e te):PS X (.Return (ž e) pos) (BX te):=by
 intro pins s σ H D I h;exact wpAny_Return_some<|aJ (he pins s σ H _ I h) λv s1 ⟨x,H1,I1,r1,q1⟩=>⟨x,σ,H1,I1,r1,q1⟩
def FK(c:TT)(t u:TS):TS:=λD σ H=>c σ H λb H1=>if b=ż then t D σ H1 else u D σ H1
def zAE{c:į}{a b:Qa Ş}{tc:TT}(hc:PT X c tc)(ha:dR X a t)(hb:dR X b u):PS X (.If c a b pos) (FK tc t u):=by
 intro pins s σ H D I h;refine wpAny_If<|aJ (hc pins s σ H _ I h) λd s1 hZ=>?_;have(H1,I1,q1):=hZ;cases d with
 |true=>exact ha pins s1 σ H1 D I1 q1
 |false=>exact hb pins s1 σ H1 D I1 q1
end
abbrev TG:=V->St->Hp->(St->Hp->Prop)->Prop
abbrev jD:=Qa V->St->Hp->(St->Hp->Prop)->Prop
def PG(X:Cx)(target:į)(t:TG):Prop :=
 ∀(pins:Qa (Qg×Obj)) (s:Qd) (σ:St) (H:Hp) (v:V) (u:Qc) (Q:St->Hp->Prop),Inv X pins σ H s->aP v u->t v σ H Q->
  Č (Đ X.prog X.w) X.A (a0V target X.env u) (λ_ s'=>∃aG H',Inv X pins aG H' s'/\Q aG H') X.xe s
def tI(X:Cx)(ts:Qa į)(t:jD):Prop :=
 ∀(pins:Qa (Qg×Obj)) (s:Qd) (σ:St) (H:Hp) (vs:Qa V) (us:Qa Qc) (Q:St->Hp->Prop),Inv X pins σ H s->zY vs us->t vs σ H Q->
  Č (Đ X.prog X.w) X.A (a4w ((ϙ ts X.env).map (·.2)) us) (λ_ s'=>∃aG H',Inv X pins aG H' s'/\Q aG H') X.xe s
abbrev BW:=V->V->V->Hp->(Hp->Prop)->Prop
def FJ(X:Cx)(t:BW):Prop :=
 ∀(pins:Qa (Qg×Obj)) (s:Qd) (σ:St) (H:Hp) (o i v:V) (ov iv u:Qc) (Q:Hp->Prop),Inv X pins σ H s->aP o ov->aP i iv->aP v u->t o i v H Q->
  Č (Đ X.prog X.w) X.A (setItem ov iv u) (λ_ s'=>∃H',Inv X pins σ H' s'/\Q H') X.xe s
section
variable{X:Cx}{pos:Pos}
def kN(i:Nat):TG:=λv σ H Q=>Q (σ.set i<|some v) H
def YU{i:Nat}{x:Str}(hN:X.N.Nodup)(hi:X.N[i]?=ž x)(hx:Loc X.env.scope x)(hf:X.fn x=ż\/X.env.scope.names.lookup x=ž .local:=by first|exact .inl rfl|exact .inr rfl|assumption):PG X (.Name x pos) (kN i):=by
 intro pins s σ H v u Q I r h;exact wpAny_assign_Name<|yY I hN hi hx r (λs' I'=>⟨_,H,I',h⟩) hf
def BV:jD:=λvs σ H Q=>vs=[]/\Q σ H
def xZ(t:TG)(u:jD):jD:=λvs σ H Q=>∃v r,vs=v::r/\t v σ H λaG H'=>u r aG H' Q
def YT:tI X [] BV:=by
 intro pins s σ H vs us Q I r h;have(e,h):=h;subst e;cases r;exact assignInOrder_nil ⟨σ,H,I,h⟩
def zqs{e:į}{es:Qa į}{t:TG}{u:jD}(h1:PG X e t)(h2:tI X es u)
  (hs:(ϙ (e::es) X.env).map (·.2)=a0V e X.env::(ϙ es X.env).map (·.2):=by rfl):tI X (e::es) (xZ t u):=by
 intro pins s σ H vs us Q I r h;have(v,vr,e1,h):=h;subst e1;cases r with
 |cons r rr=>
  rw[hs];refine a2t<|aJ (h1 pins s σ H _ _ _ I r h) λ_ s1 hZ=>?_;have(ft,H1,I1,q1):=hZ;exact h2 pins s1 ft H1 _ _ Q I1 rr q1
def BU(K:qc)(n:Nat)(t:jD):TG:=λv σ H Q=>∃a xs,v=.ref a/\bT K H a xs/\xs.length=n/\t xs σ H Q
def V6{es:Qa į}{k:Nat}{t:jD}{n:Nat}(hc:X.calm=ż)(h:tI X es t)
  (hn:(ϙ es X.env).length=n:=by rfl) (iI:(ϙ es X.env).findIdx? (·.1)=Ž:=by rfl):PG X (.Tuple es k pos) (BU X.K n t):=by
 intro pins s σ H v u Q I r hw;have(a,xs,e1,hq,hl,hw):=hw;subst e1;cases r;have(aq,rv,ht,hz):=I.tuple hq;refine assign_Tuple_tuple (I.ok.hd hc) ht (by simp[hn,<-hl,rv.length]) iI λh' hx=>?_;have I1:Inv X pins σ H {s with heap:=h'}:=I.kept (t':=s.toks) λb o e=>hx b o (qj<|qh e) e;exact h pins _ σ H xs _ Q I1 (by simpa using rv) hw
def FI(to ti:TE)(t:BW):TG:=λv σ H Q=>to σ H λo H1=>ti σ H1 λi H2=>t o i v H2 λH3=>Q σ H3
def V5{o i:į}{to ti:TE}{t:BW}(ho:PE X o to)(hi:PE X i ti)(hs:FJ X t)
  (ha:∀v,a0V (.Subscript o i pos) X.env v=(do
   let ov <-a0P [v] (Ŭ o X.env)
   let iv <-a0P [v,ov] (Ŭ i X.env)
   a3A pos
   a0P [v,ov,iv] (setItem ov iv v)
   release [v,ov,iv] []):=by intro _;rfl):PG X (.Subscript o i pos) (FI to ti t):=by
 intro pins s σ H v u Q I r h;rw[ha];refine qa<|Ŋ<|aJ (ho pins s σ H _ I h) λov s1 hZ=>?_;have(x,H1,I1,r1,q1):=hZ;refine qa<|Ŋ<|aJ (hi pins s1 σ H1 _ I1 q1) λiv s2 hZ=>?_;have(y,H2,I2,r2,q2):=hZ;refine qa<|ς<|qa<|Ŋ<|aJ (hs pins s2 σ H2 x y v ov iv u _ I2 r1 r2 r q2) λ_ s3 hZ=>?_;have(H3,I3,q3):=hZ;exact wpAny_release ⟨σ,H3,I3,q3⟩
def oI(te:TE)(g:TG):TS:=λD σ H=>te σ H λx H1=>g x σ H1 D.nx
def V4{tg e:į}{te:TE}{g:TG}(he:PE X e te)(hg:PG X tg g)(hs:a2l [tg] e pos.line X.env=pure Ż:=by rfl)(hw:a2m [tg] e X.env=pure Ž:=by rfl)
  (h1:(ϙ [tg] X.env).map (·.2)=[a0V tg X.env]:=by rfl):PS X (.Assign [tg] e pos) (oI te g):=by
 intro pins s σ H D I h;refine wpAny_Assign_stores (aJ (he pins s σ H _ I h) λv s1 hZ=>?_) hs hw;have(x,H1,I1,r1,q1):=hZ;rw[h1];exact aJ (hg pins s1 σ H1 x v _ I1 r1 q1) λ_ s2 q=>q
def V3{i:Nat}{x:Str}{e:į}{te:TE}{pos':Pos}(hN:X.N.Nodup)(hi:X.N[i]?=ž x)(hx:Loc X.env.scope x)(he:PE X e te)(hs:a0v e (ž<|.Name x pos') pos.line X.env=pure Ż:=by rfl)(hf:X.fn x=ż\/X.env.scope.names.lookup x=ž .local:=by first|exact .inl rfl|exact .inr rfl|assumption):
  PS X (.Assign [.Name x pos'] e pos) (oI te<|kN i):=by
 intro pins s σ H D I h;refine wpAny_Assign_Name (aJ (he pins s σ H _ I h) λv s1 hZ=>?_) hs;have(y,H1,I1,r1,q1):=hZ;exact yY I1 hN hi hx r1 (λs2 I2=>⟨_,H1,I2,q1⟩) hf
def FG(i j:Nat)(ta:TA):TS:=λD σ H=>ta σ H λvs H1=>∃v w,vs=[v,w]/\D.nx ((σ.set i<|some v).set j<|some w) H1
def V2{i j:Nat}{x y:Str}{a b:į}{ta:TA}{px py pt:Pos}{kt k2 uH}(hc:X.calm=ż)(hN:X.N.Nodup)(hi:X.N[i]?=ž x)(hj:X.N[j]?=ž y)(de:i≠j)
  (hx:X.env.scope.names.lookup x=ž .local) (hy:X.env.scope.names.lookup y=ž .local) (ha:PA X [a,b] ta)
  (hw:a2m [.Tuple [.Name x px,.Name y py] kt pt] (.Tuple [a,b] k2 uH) X.env=pure (ž [x,y]))
  (hs:a2l [.Tuple [.Name x px,.Name y py] kt pt] (.Tuple [a,b] k2 uH) pos.line X.env=pure Ż:=by rfl):
  PS X (.Assign [.Tuple [.Name x px,.Name y py] kt pt] (.Tuple [a,b] k2 uH) pos) (FG i j ta):=by
 intro pins s σ H D I h;rw[exec_Assign_arm];refine qa<|ς ?_;rw[hs];refine qa<|qb ?_;rw[a5M (by decide)];refine qa<|Tuple_<|aJ (ha _ pins s σ H _ I h) λus s1 hZ=>?_;have(vs,H1,I1,r1,q1):=hZ;have(v,w,e1,q1):=q1;subst e1;obtain⟨u1,u2,rfl,rv,lU⟩:∃u1 u2,us=[u1,u2]/\aP v u1/\aP w u2:=by
  cases r1 with
  |cons p q=>
   cases q with
   |cons p' q'=>
    cases q';exact⟨_,_,rfl,p,p'⟩
 refine qy ?_ (by show 2<=Ď;decide);have I2:Inv X pins σ H1 {s1 with heap:=s1.heap.push {cls:=.type "tuple",data:=.seq [u1,u2].toArray}}:=I1.kept (t':=s1.toks) λb o e=>qd _ e;rw[hw];refine qa<|qb ?_;show Č (Đ X.prog X.w) X.A (do rule "assign.swapped-stores";let items <-unpackItems (.ref s1.heap.objs.size) 2 Ž;a4w [λv=>a3N X.env y v,λv=>a3N X.env x v] items.reverse;pure Flow.next) _ _ _;refine qa<|ũ<|qa<|unpackItems_tuple (items:=#[u1,u2]) (I.ok.hd hc) (IsTup.new s1.heap _) λh' kU=>?_;have I3:=I2.kept (h':=h') (t':=s1.toks) λb o e=>kU b o (qj<|qh e) e;show Č _ _ (a4w [λv=>a3N X.env y v,λv=>a3N X.env x v] [u2,u1] >>= λ_=>pure Flow.next) _ _ _;refine qa<|a2t<|wpAny_bindName<|yY I3 hN hj (.inl hy) lU (λs2 I4=>?_)<|.inr hy;refine a2t<|wpAny_bindName<|yY I4 hN hi (.inl hx) rv (λs3 I5=>assignInOrder_nil<|qb ?_)<|.inr hx;rw[List.set_comm _ _<|ĭ de]at I5;exact⟨_,H1,I5,q1⟩
end
section
variable{X:Cx}{pos:Pos}
def Hj(c:TT)(tb:TS):TS:=λD σ H=>∃W:Nat->St->Hp->Prop,(∃m,W m σ H)/\∀m σ H,W m σ H->
 c σ H λb H1=>if b=ż then ∃N:St->Hp->Prop,(∀aG H',N aG H'->∃m',m' < m/\W m' aG H')/\tb {D with nx:=N,ct:=N,bk:=D.nx} σ H1 else D.nx σ H1
def zqt{c:į}{body:Qa Ş}{tc:TT}{tb:TS}(hp:a4M (Đ X.prog X.w) X.A X.env X.xe)(hc:PT X c tc)(hb:dR X body tb):PS X (.While c body [] pos) (Hj tc tb):=by
 intro pins s σ H D I h;obtain⟨W,⟨m0,w0⟩,turn⟩:=h;refine wpAny_While<|codeAny_whileLoop (λn s'=>∃aG H',Inv X pins aG H' s'/\W n aG H') ?_ m0 ⟨σ,H,I,w0⟩;rintro n s1 ⟨ft,H1,I1,w1⟩;refine ϛ hp<|aJ (hc pins s1 ft H1 _ I1<|turn n ft H1 w1) λb s2 hZ=>?_;have(H2,I2,q2):=hZ;cases b with
 |true=>
  have(N,hN,q2):=q2;rw[a5L rfl];refine ϛ hp<|aJ (hb pins s2 ft H2 _ I2 q2) λf s3 q3=>?_;cases f with
  |next=>
   have(gU,H3,I3,n3):=q3;have(m',hm,w3):=hN gU H3 n3;exact⟨m',hm,gU,H3,I3,w3⟩
  |cont=>
   have(gU,H3,I3,n3):=q3;have(m',hm,w3):=hN gU H3 n3;exact⟨m',hm,gU,H3,I3,w3⟩
  |brk=>exact q3
  |ret v=>exact q3
 |false=>
  rw[a5M qf];exact a0j ⟨ft,H2,I2,q2⟩
end
structure It where
 go:Nat->Hp->Prop
 Af:Nat->Hp->V->Hp->Prop
 stop:Nat->Hp->Prop
def jH(X:Cx)(pins:Qa (Qg×Obj))(H:Hp)(b:Qg):Prop :=
 H b=Ž/\b≠X.env.locals/\b∉X.fs/\(b∈X.ex\/X.bG.heap.objs.size<=b)/\(∀x c,X.env.cells.lookup x=ž c->c≠b)/\∀p∈X.pn++pins,p.1≠b
def Inv.iA{X:Cx}{pins:Qa (Qg×Obj)}{σ:St}{H H':Hp}{s:Qd}{b:Qg}(I:Inv X pins σ H s)(hb:s.heap.objs.size<=b)(hn:H' b=Ž):jH X pins H' b:=by
 refine⟨hn,ñ<|qi I.lt hb,I.Jr hb,.inr<|qx I.sz hb,λx c e z=>?_,λp hp z=>?_⟩
 .have(v,q):=I.cell x c e
  exact absurd (qi q.lt (by rw[z];exact hb))<|Ð _
 .exact absurd (qi (qh (I.pin p hp).1) (by rw[z];exact hb)) (Ð _)
structure Turn (P:Qe) (w:Qh) (K:qc) (tg:į) (J:It) (fp:Qa Qg) (it:Qg) (tn:Nat->Į->Prop):Prop where
 mem:it∈fp
 obj:∀i h,tn i h->∀b∈fp,∃o,h.get? b=ž o/\∀v,o.data≠.cell v
 keep:∀i h h',tn i h->(∀b∈fp,∀o,h.get? b=ž o->h'.get? b=ž o)->tn i h'
 item:∀(X:Cx),X.prog=P->X.w=w->X.K=K->X.calm=ż->∀(i:Nat) (pins:Qa (Qg×Obj)) (s:Qd) (σ:St) (H:Hp) (E:Qc->Qd->Prop),Inv X pins σ H s->(∀b∈fp,jH X pins H b)->tn i s.heap->J.go i H->
  Č (Đ P w) X.A (a1l<|.ref it) (λr s1=>∃u,r=ž u/\
   Č (Đ P w) X.A (a1r tg (.ref it) u) (λ_ s2=>∃x H',Inv X pins σ H' s2/\aP x u/\J.Af i H x H'/\tn (i+1) s2.heap/\∀b∈fp,H' b=Ž) E s1) E s
 done:∀(X:Cx),X.prog=P->X.w=w->X.K=K->X.calm=ż->∀(i:Nat) (pins:Qa (Qg×Obj)) (s:Qd) (σ:St) (H:Hp) (E:Qc->Qd->Prop),Inv X pins σ H s->(∀b∈fp,jH X pins H b)->tn i s.heap->J.stop i H->
  Č (Đ P w) X.A (a1l<|.ref it) (λr s1=>r=Ž/\Inv X pins σ H s1) E s
 self:∀(A:Qf) (i:Nat) (s:Qd) (Q:Qc->Qd->Prop) (E:Qc->Qd->Prop),tn i s.heap->Q (.ref it) s->Č (Đ P w) A (pyIter<|.ref it) Q E s
abbrev TI:=St->Hp->(It->Hp->Prop)->Prop
def KZ(X:Cx)(pins:Qa (Qg×Obj))(σ:St)(tg:į)(R:It->Hp->Prop)(Ew:Qc)(s2:Qd):Prop :=
 ∃(it:Qg) (fp:Qa Qg) (tn:Nat->Į->Prop) (J:It) (H':Hp),Ew=.ref it/\Inv X pins σ H' s2/\Turn X.prog X.w X.K tg J fp it tn/\tn 0 s2.heap/\(∀b∈fp,jH X pins H' b)/\R J H'
def PI(X:Cx)(tg iter:į)(wi:TI):Prop :=
 ∀(pins:Qa (Qg×Obj)) (s:Qd) (σ:St) (H:Hp) (R:It->Hp->Prop),Inv X pins σ H s->wi σ H R->
  Č (Đ X.prog X.w) X.A (Ŭ iter X.env) (λv s1=>Č (Đ X.prog X.w) X.A (pyIter v) (KZ X pins σ tg R) X.xe s1) X.xe s
def Cp{M:a2O}{A:Qf}{E:Qc->Qd->Prop}{s:Qd}{tg:į}{it:Qg}{u:Qc}{o:Obj}{n:String}{vs:Array Qc}{Q:Unit->Qd->Prop}(ho:s.heap.get? it=ž o)(hc:o.cls=.type n)(hd:o.data=.fields vs)
  (hn:["enumerate", "zip", "dict_itemiterator", "dict_reverseitemiterator", "odict_iterator", "itertools.zip_longest", "itertools.pairwise"].contains n=Ż) (hQ:Q () s):Č M A (a1r tg (.ref it) u) Q E s:=by
 unfold a1r;cases tg<;>first
  |exact qb hQ
  | (cases u<;>first
    |exact qb hQ
    | (refine qa<|wpAny_load ho ?_
       rw[hc,hd];show Č M A (if(["enumerate", "zip", "dict_itemiterator", "dict_reverseitemiterator", "odict_iterator", "itertools.zip_longest", "itertools.pairwise"].contains n && vs[0]?==ž (Ÿ _))=ż then _ else _) Q E s;rw[a5M (by intro h;rw[hn,Bool.false_and]at h;cases h)];exact qb hQ))
def UN(K:qc)(a:Qg):It :=
 ⟨λi H=>∃xs x,bZ K H a xs/\xs[i]?=ž x,λi H x H'=>H'=H/\∀xs,bZ K H a xs->xs[i]?=ž x,λi H=>∃xs,bZ K H a xs/\xs.length<=i⟩
def UM(K:qc)(a:Qg):It :=
 ⟨λi H=>∃xs x,bT K H a xs/\xs[i]?=ž x,λi H x H'=>H'=H/\∀xs,bT K H a xs->xs[i]?=ž x,λi H=>∃xs,bT K H a xs/\xs.length<=i⟩
def E9(lo:Int)(n:Nat):It:=⟨λi _=>i < n,λi H x H'=>H'=H/\x=.int (lo+i),λi _=>n<=i⟩
def zpw{P:Qe}{w:Qh}{K:qc}{tg:į}(a it:Qg):Turn P w K tg (UN K a) [it] it (λi h=>h.IsListIter it a i) where
 mem:=by simp
 obj:=λi h st b hb=>by
  have e:b=it:=by simpa using hb
  subst e;have(o,e,c,d):=st;exact⟨o,e,λv z=>by rw[d]at z;cases z⟩
 keep:=λi h h' st k=>st.at λo e=>k it (by simp) o e
 item:=by
  intro X hP hw hK hc i pins s σ H E I hf st hg;subst hP hw hK;have(xs,x,hq,hx):=hg;have(aq,rv,p,hz):=I.list hq;have(u,hu,ru):=rv.get hx;have(f0,f1,f2,f3,f4,f5):=hf it (by simp);refine wpAny_pyNext_list_item st p.isList (x:=u) (by simpa using hu) λh' av sb=>?_;have I1:Inv X pins σ H {s with heap:=h'}:=I.turned (t':=s.toks) (λb o hb e=>(sb.2 b hb).trans e) f0 f1 f3 f4 f5;have(o,e,c,d):=id av;exact⟨u,rfl,Cp (s:={s with heap:=h'}) e c d (by decide) ⟨x,H,I1,ru,⟨rfl,λys hy=>by rw[I.nU hy hq];exact hx⟩,av,λb hb=>(hf b hb).1⟩⟩
 done:=by
  intro X hP hw hK hc i pins s σ H E I hf st hg;subst hP hw hK;have(xs,hq,hx):=hg;have(aq,rv,p,hz):=I.list hq;have(f0,f1,f2,f3,f4,f5):=hf it (by simp);have hl:=rv.length;exact wpAny_pyNext_list_end (I.ok.hd hc) st p.isList (by simp;omega) λh' eb=>⟨rfl,I.turned (t':=s.toks) (λb o hb e=>eb b o hb e) f0 f1 f3 f4 f5⟩
 self:=λ_ _ _ _ _ st h=>wpAny_pyIter_listiter st h
def zl5{P:Qe}{w:Qh}{K:qc}{tg:į}(a it:Qg):Turn P w K tg (UM K a) [it] it (λi h=>h.IsTupleIter it a i) where
 mem:=by simp
 obj:=λi h st b hb=>by
  have e:b=it:=by simpa using hb
  subst e;have(o,e,c,d):=st;exact⟨o,e,λv z=>by rw[d]at z;cases z⟩
 keep:=λi h h' st k=>st.at λo e=>k it (by simp) o e
 item:=by
  intro X hP hw hK hc i pins s σ H E I hf st hg;subst hP hw hK;have(xs,x,hq,hx):=hg;have(aq,rv,p,hz):=I.tuple hq;have(u,hu,ru):=rv.get hx;have(f0,f1,f2,f3,f4,f5):=hf it (by simp);refine wpAny_pyNext_tuple_item st (show s.heap.IsTuple a aq.toArray from p) (x:=u) (by simpa using hu) λh' av sb=>?_;have I1:Inv X pins σ H {s with heap:=h'}:=I.turned (t':=s.toks) (λb o hb e=>(sb.2 b hb).trans e) f0 f1 f3 f4 f5;have(o,e,c,d):=id av;exact⟨u,rfl,Cp (s:={s with heap:=h'}) e c d (by decide) ⟨x,H,I1,ru,⟨rfl,λys hy=>by rw[I.cS hy hq];exact hx⟩,av,λb hb=>(hf b hb).1⟩⟩
 done:=by
  intro X hP hw hK hc i pins s σ H E I hf st hg;subst hP hw hK;have(xs,hq,hx):=hg;have(aq,rv,p,hz):=I.tuple hq;have(f0,f1,f2,f3,f4,f5):=hf it (by simp);have hl:=rv.length;exact wpAny_pyNext_tuple_end (I.ok.hd hc) st (show s.heap.IsTuple a aq.toArray from p) (by simp;omega) λh' eb=>⟨rfl,I.turned (t':=s.toks) (λb o hb e=>eb b o hb e) f0 f1 f3 f4 f5⟩
 self:=λ_ _ _ _ _ st h=>wpAny_pyIter_tupleiter st h
def zl6{P:Qe}{w:Qh}{K:qc}{tg:į}(it:Qg)(lo:Int)(n:Nat):Turn P w K tg (E9 lo n) [it] it (λi h=>IsRangeIter h it (lo+(i:Nat) * 1) ((n:Int) - (i:Nat)) 1) where
 mem:=by simp
 obj:=λi h st b hb=>by
  have e:b=it:=by simpa using hb
  subst e;exact⟨_,st,λv z=>by
   have z':a4o _=a2q v:=z;cases z'⟩
 keep:=λi h h' st k=>k it (by simp) _ st
 item:=by
  intro X hP hw hK hc i pins s σ H E I hf st hg;subst hP hw hK;have(f0,f1,f2,f3,f4,f5):=hf it (by simp);have W:=Walks.range (prog:=X.prog) (w:=X.w) (I.ok.hd hc) it lo 1 n;refine W.item i s _ _ hg st λv h' tk hv av kk=>?_;have(t,rfl):=hv;have I1:Inv X pins σ H {s with heap:=h',toks:=tk}:=I.turned (λb o hb e=>kk b o (by simpa using hb) e) f0 f1 f3 f4 f5;refine⟨_,rfl,Cp (s:={s with heap:=h',toks:=tk}) (n := "range_iterator") av rfl rfl (by decide) ⟨.int<|lo+i,H,I1,⟨t,?_⟩,⟨rfl,rfl⟩,av,λb hb=>(hf b hb).1⟩⟩;rw[Int.mul_one]
 done:=by
  intro X hP hw hK hc i pins s σ H E I hf st hg;subst hP hw hK;have(f0,f1,f2,f3,f4,f5):=hf it (by simp);exact wpAny_pyNext_range_end (I.ok.hd hc) st (by have:n<=i:=hg;omega) λh' eb=>⟨rfl,I.turned (t':=s.toks) (λb o hb e=>eb b o hb e) f0 f1 f3 f4 f5⟩
 self:=λ_ _ _ _ _ st h=>wpAny_pyIter_rangeiter st h
section
variable{X:Cx}{tg:į}
def Gx(K:qc)(tl:TE):TI:=λσ H R=>tl σ H λx H1=>∃a,x=.ref a/\(∃xs,bZ K H1 a xs)/\R (UN K a) H1
def FF(K:qc)(tl:TE):TI:=λσ H R=>tl σ H λx H1=>∃a,x=.ref a/\(∃xs,bT K H1 a xs)/\R (UM K a) H1
def YS{l:į}{tl:TE}(hl:PE X l tl):PI X tg l (Gx X.K tl):=by
 intro pins s σ H R I h;refine aJ (hl pins s σ H _ I h) λv s1 hZ=>?_;have(x,H1,I1,r1,q1):=hZ;obtain⟨a,e,⟨xs,hq⟩,q⟩:=q1;subst e;cases r1;have(aq,rv,p,hz):=I1.list hq;refine wpAny_pyIter_list p.isList ?_;refine⟨s1.heap.objs.size,[s1.heap.objs.size],_,_,H1,rfl,I1.kept (t':=s1.toks) λb o e=>qd _ e,zpw a _,⟨_,qg _ rfl,rfl,rfl⟩,λb hb=>?_,q⟩;have e:b=s1.heap.objs.size:=by simpa using hb
 subst e;exact I1.iA (qe _)<|I1.aC.fresh<|qe _
def V1{l:į}{tl:TE}(hl:PE X l tl):PI X tg l (FF X.K tl):=by
 intro pins s σ H R I h;refine aJ (hl pins s σ H _ I h) λv s1 hZ=>?_;have(x,H1,I1,r1,q1):=hZ;obtain⟨a,e,⟨xs,hq⟩,q⟩:=q1;subst e;cases r1;have(aq,rv,p,hz):=I1.tuple hq;refine wpAny_pyIter_tuple (show s1.heap.IsTuple a aq.toArray from p) ?_;refine⟨s1.heap.objs.size,[s1.heap.objs.size],_,_,H1,rfl,I1.kept (t':=s1.toks) λb o e=>qd _ e,zl5 a _,⟨_,qg _ rfl,rfl,rfl⟩,λb hb=>?_,q⟩;have e:b=s1.heap.objs.size:=by simpa using hb
 subst e;exact I1.iA (qe _)<|I1.aC.fresh<|qe _
def zqv{pins:Qa (Qg×Obj)}{σ:St}{H:Hp}{s:Qd}{R:It->Hp->Prop}{E:Qc->Qd->Prop}{lo hi:Int}{t u v:Tok}{tk:Nat}(I:Inv X pins σ H s)(h1:-(2^62)<=lo)(h2:lo < 2^62)(h3:-(2^62)<=hi)(h4:hi < 2^62)
  (q:R (E9 lo (hi - lo).toNat) H):Č (Đ X.prog X.w) X.A (pyIter<|.ref s.heap.objs.size) (KZ X pins σ tg R) E {s with heap:=s.heap.push {cls:=.type "range",data:=.fields #[.int lo t,.int hi u,.int 1 v]},toks:=tk}:=by
 refine wpAny_pyIter_range (IsRange.new ..) (small_one h1 h2 h3 h4) ?_;have I1:Inv X pins σ H {s with heap:=s.heap.push {cls:=.type "range",data:=.fields #[.int lo t,.int hi u,.int 1 v]},toks:=tk}:=I.kept λb o e=>qd _ e;refine⟨(s.heap.push {cls:=.type "range",data:=.fields #[.int lo t,.int hi u,.int 1 v]}).objs.size,[(s.heap.push {cls:=.type "range",data:=.fields #[.int lo t,.int hi u,.int 1 v]}).objs.size],_,_,H,rfl,
  I1.kept (t':=tk) λb o e=>qd _ e,zl6 _ lo (hi - lo).toNat,?_,λb hb=>?_,q⟩
 .have e1:lo+((0:Nat):Int) * 1=lo:=by simp
  have e2:(((hi - lo).toNat:Nat):Int) - ((0:Nat):Int)=Builtin.Range.rangeSize lo hi 1:=by rw[rangeSize_one];split<;>omega
  show IsRangeIter _ _ (lo+((0:Nat):Int) * 1) ((((hi - lo).toNat:Nat):Int) - ((0:Nat):Int)) 1;rw[e1,e2];exact qg _ rfl
 .have e:b=(s.heap.push {cls:=.type "range",data:=.fields #[.int lo t,.int hi u,.int 1 v]}).objs.size:=by simpa using hb
  subst e;exact I1.iA (qe _)<|I1.aC.fresh<|qe _
def Gw(ta:TA):TI:=λσ H R=>ta σ H λvs H1=>∃j:Int,vs=[.int j]/\-(2^62)<=j/\j < 2^62/\R (E9 0 j.toNat) H1
def zpx{a:į}{ta:TA}{p pos:Pos}(hg:Gl X "range")(hm:X.mg "range"=Ž)(ha:PA X [a] ta)(hs:ķ [a] X.env=[(Ż,Ŭ a X.env)]:=by rfl):PI X tg (.Call (.Name "range" p) [a] [] pos) (Gw ta):=by
 intro pins s σ H R I h;refine Call_<|wz I hg hm boot_range<|ë (aJ (ha pos pins s σ H _ I h) λus s1 hZ=>?_) hs rfl;have(vs,H1,I1,r1,q1):=hZ;have(j,e,q1,q2,q):=q1;subst e;cases r1 with
 |cons r rr=>
  cases rr;have(t,rfl):=r;exact call_range_1<|zqv I1 (by omega) (by omega) q1 q2 (by simpa using q)
def FE(wi:TI)(g:TG)(tb:TS):TS:=λD σ H=>wi σ H λJ H1=>∃W:Nat->Nat->St->Hp->Prop,(∃m,W 0 m σ H1)/\∀i m σ H,W i m σ H->
 (J.stop i H/\D.nx σ H)\/(J.go i H/\∃N:St->Hp->Prop,(∀aG H',N aG H'->∃m',m' < m/\W (i+1) m' aG H')/\∀x H',J.Af i H x H'->g x σ H' λhJ H2=>tb {D with nx:=N,ct:=N,bk:=D.nx} hJ H2)
noncomputable def yq(fp:Qa Qg)(h:Į):Qa (Qg×Obj):=fp.filterMap λb=>(h.get? b).map λo=>(b,o)
def DK{fp:Qa Qg}{h:Į}{b:Qg}{o:Obj}(hb:b∈fp)(e:h.get? b=ž o):(b,o)∈yq fp h:=List.mem_filterMap.mpr ⟨b,hb,by rw[e];rfl⟩
def zpy{fp:Qa Qg}{h:Į}{p:Qg×Obj}(hp:p∈yq fp h):p.1∈fp/\h.get? p.1=ž p.2:=by
 have(b,hb,e):=List.mem_filterMap.mp hp;cases q:h.get? b with
 |none=>rw[q]at e;cases e
 |some o=>
  rw[q]at e;have e':(b,o)=p:=qw e;subst e';exact⟨hb,q⟩
def Inv.pinned{pins:Qa (Qg×Obj)}{σ:St}{H:Hp}{s:Qd}{fp:Qa Qg}(I:Inv X pins σ H s)(hf:∀b∈fp,jH X pins H b)(ho:∀b∈fp,∃o,s.heap.get? b=ž o/\∀v,o.data≠.cell v):Inv X (pins++yq fp s.heap) σ H s :=
 I.fM λp hp=>(È.mp hp).elim (λz=>I.pin p<|qv _ z) λz=>by
  have(hb,e):=zpy z;have(f0,f1,f2,_):=hf p.1 hb;have(o,e',d):=ho p.1 hb;rw[e]at e';cases e';exact⟨e,f0,f1,f2,d⟩
def Inv.f7{pins pl:Qa (Qg×Obj)}{σ:St}{H:Hp}{s:Qd}(I:Inv X (pins++pl) σ H s):Inv X pins σ H s:=I.fM λp hp=>I.pin p<|qv _<|Ò _ hp
def V0{iter:į}{body:Qa Ş}{wi:TI}{g:TG}{tb:TS}{pos:Pos}(hp:a4M (Đ X.prog X.w) X.A X.env X.xe)(hc:X.calm=ż)(hi:PI X tg iter wi)(hg:PG X tg g)(hb:dR X body tb)
  (hs:∀x,Τ iter X.env x=pure x:=by intro _;rfl):PS X (.For tg iter body [] pos) (FE wi g tb):=by
 intro pins s σ H D I h;refine wpAny_For (aJ (hi pins s σ H _ I h) λv s1 h1=>aJ h1 λEw s2 h2=>?_) hs;obtain⟨it,fp,tn,J,H2,e,I2,T,bU,f2,W,⟨m0,w0⟩,turn⟩:=h2;subst e;have uE:∀{H':Hp},(∀b∈fp,H' b=Ž)->∀b∈fp,jH X pins H' b:=λhn b hb=>⟨hn b hb,(f2 b hb).2⟩;refine codeAny_forLoop_any (λn s'=>∃i aG H',Inv X pins aG H' s'/\tn i s'.heap/\(∀b∈fp,H' b=Ž)/\W i n aG H') ?_ m0 ⟨0,σ,H2,I2,bU,λb hb=>(f2 b hb).1,w0⟩;rintro n s3 ⟨i,gU,H3,I3,nO,Bf,w3⟩;rcases turn i n gU H3 w3 with⟨stop,qn⟩|⟨go,N,hN,step⟩
 .refine ϛ hp (aJ (T.done X rfl rfl rfl hc i pins s3 gU H3 X.xe I3 (uE Bf) nO stop) λr s4 hZ=>?_)
  have(hr,I4):=hZ;subst hr;exact a0j ⟨gU,H3,I4,qn⟩
 .refine ϛ hp (aJ (T.item X rfl rfl rfl hc i pins s3 gU H3 X.xe I3 (uE Bf) nO go) λr s4 hZ=>?_)
  have(u,hr,h4):=hZ;subst hr;refine ϛ hp<|aJ h4 λ_ s5 hZ=>?_;have(x,H5,I5,r5,y5,pj,KA):=hZ;have K7:=I5.pinned (uE KA) (T.obj _ _ pj);refine ϛ hp<|aJ (hg _ s5 gU H5 x u _ K7 r5<|step x H5 y5) λ_ s6 hZ=>?_;have(xG,H6,I6,q6):=hZ;refine ϛ hp<|aJ (hb _ s6 xG H6 _ I6 q6) λf s7 q7=>?_;have again:∀{nv:St} {H7:Hp},Inv X (pins++yq fp s5.heap) nv H7 s7->N nv H7->∃m,m < n/\∃i aG H',Inv X pins aG H' s7/\tn i s7.heap/\(∀b∈fp,H' b=Ž)/\W i m aG H':=λ{nv H7} I7 n7=>by
   have(m',hm,w7):=hN nv H7 n7;refine⟨m',hm,i+1,nv,H7,I7.f7,T.keep _ _ _ pj λb hb o e=>(I7.pin (b,o)<|qv _<|qv _<|DK hb e).1,λb hb=>?_,w7⟩;have(o,e,d):=T.obj _ _ pj b hb;exact(I7.pin (b,o)<|qv _<|qv _<|DK hb e).2.1
  cases f with
  |next=>have(nv,H7,I7,n7):=q7;exact again I7 n7
  |cont=>have(nv,H7,I7,n7):=q7;exact again I7 n7
  |brk=>have(nv,H7,I7,q7):=q7;exact⟨nv,H7,I7.f7,q7⟩
  |ret v=>have(x7,nv,H7,I7,r7,q7):=q7;exact⟨x7,nv,H7,I7.f7,r7,q7⟩
end
abbrev R2:=V->V->Hp->VK->Prop
def bF(X:Cx)(f:Qc->Qc->Sem Qc)(r:R2):Prop :=
 ∀(pins:Qa (Qg×Obj)) (s:Qd) (σ:St) (H:Hp) (x y:V) (v u:Qc) (Q:VK),Inv X pins σ H s->aP x v->aP y u->r x y H Q->
  Č (Đ X.prog X.w) X.A (f v u) (EP X pins σ Q) X.xe s
def EZ(X:Cx)(f:Qc->Sem Qc)(r:V->Hp->VK->Prop):Prop :=
 ∀(pins:Qa (Qg×Obj)) (s:Qd) (σ:St) (H:Hp) (x:V) (v:Qc) (Q:VK),Inv X pins σ H s->aP x v->r x H Q->
  Č (Đ X.prog X.w) X.A (f v) (EP X pins σ Q) X.xe s
def ik(X:Cx)(f:Qc)(r:Qa V->Hp->VK->Prop):Prop :=
 ∀(pins:Qa (Qg×Obj)) (s:Qd) (σ:St) (H:Hp) (xs:Qa V) (us:Qa Qc) (Q:VK),Inv X pins σ H s->zY xs us->r xs H Q->
  Č (Đ X.prog X.w) X.A (call f us) (EP X pins σ Q) X.xe s
def zCP(X:Cx)(r:V->Hp->(Bool->Hp->Prop)->Prop):Prop :=
 ∀(pins:Qa (Qg×Obj)) (s:Qd) (σ:St) (H:Hp) (x:V) (v:Qc) (Q:Bool->Hp->Prop),Inv X pins σ H s->aP x v->r x H Q->
  Č (Đ X.prog X.w) X.A (truthy v) (TP X pins σ Q) X.xe s
def pf(r:R2)(ta tb:TE):TE:=λσ H Q=>ta σ H λx H1=>tb σ H1 λy H2=>r x y H2 Q
def Ef(r:V->Hp->VK->Prop)(ta:TE):TE:=λσ H Q=>ta σ H λx H1=>r x H1 Q
def rI(C:Int->Int->Prop)(g:Int->Int->V):R2:=λx y H Q=>∃i j,x=.int i/\y=.int j/\C i j/\Q (g i j) H
def jS(g:Int->Int->V):R2:=λx y H Q=>∃i j,x=.int i/\y=.int j/\Q (g i j) H
def rU(g:Int->V):V->Hp->VK->Prop:=λx H Q=>∃i,x=.int i/\Q (g i) H
section
variable{X:Cx}{a b c:į}{ta tb tc:TE}{pos:Pos}
def FC(ha:PE X a ta)(hb:PE X b tb){pins:Qa (Qg×Obj)}{s:Qd}{σ:St}{H:Hp}{R:V->V->Hp->Prop}(I:Inv X pins σ H s)
  (h:ta σ H λx H1=>tb σ H1 λy H2=>R x y H2) {Q:Qc->Qd->Prop} {f:Qc->Qc->Sem Qc}
  (hf:∀v u s2 x y H2,Inv X pins σ H2 s2->aP x v->aP y u->R x y H2->Č (Đ X.prog X.w) X.A (f v u) Q X.xe s2):
  Č (Đ X.prog X.w) X.A (Ŭ a X.env) (λv aH=>Č (Đ X.prog X.w) X.A (Ŭ b X.env) (λu gP=>Č (Đ X.prog X.w) X.A (f v u) Q X.xe gP) X.xe aH) X.xe s:=by
 refine aJ (ha pins s σ H _ I h) λv s1 hZ=>?_;have(x,H1,I1,r1,q1):=hZ;refine aJ (hb pins s1 σ H1 _ I1 q1) λu s2 hZ=>?_;have(y,H2,I2,r2,q2):=hZ;exact hf v u s2 x y H2 I2 r1 r2 q2
def zAF{op:Operator}{r:R2}(ho:bF X (Ů op) r)(ha:PE X a ta)(hb:PE X b tb):PE X (.BinOp a op b pos) (pf r ta tb):=by
 intro pins s σ H Q I h;exact wpAny_BinOp<|FC ha hb I h λv u s2 x y H2 I2 rx ry q=>ho pins s2 σ H2 x y v u Q I2 rx ry q
def zAG{op:UnaryOp}{r:V->Hp->VK->Prop}(ho:EZ X (unaryOp op) r)(ha:PE X a ta):PE X (.UnaryOp op a pos) (Ef r ta):=by
 intro pins s σ H Q I h;exact UnaryOp_<|aJ (ha pins s σ H _ I h) λv s1 ⟨x,H1,I1,r1,q1⟩=>ho pins s1 σ H1 x v Q I1 r1 q1
def wV{f:Qc->Qc->Sem Qc}{C:Int->Int->Prop}{g:Int->Int->Int}
  (rule:∀(i j:Int) (t u:Tok) (s:Qd) (Q:Qc->Qd->Prop) (E:Qc->Qd->Prop),C i j->Q (.int (g i j) s.toks) {s with toks:=s.toks+1}->Č (Đ X.prog X.w) X.A (f (.int i t)<|.int j u) Q E s):
  bF X f (rI C λi j=>.int<|g i j):=by
 intro pins s σ H x y v u Q I rx ry h;have(i,j,rfl,rfl,hc,q):=h;have(t,rfl):=rx;have(t',rfl):=ry;exact rule i j t t' s _ _ hc ⟨.int<|g i j,H,I.tok _,⟨_,rfl⟩,q⟩
def SH{f:Qc->Qc->Sem Qc}{g:Int->Int->Int}
  (rule:∀(i j:Int) (t u:Tok) (s:Qd) (Q:Qc->Qd->Prop) (E:Qc->Qd->Prop),Q (.int (g i j) s.toks) {s with toks:=s.toks+1}->Č (Đ X.prog X.w) X.A (f (.int i t)<|.int j u) Q E s):
  bF X f (jS λi j=>.int<|g i j):=by
 intro pins s σ H x y v u Q I rx ry h;have(i,j,rfl,rfl,q):=h;have(t,rfl):=rx;have(t',rfl):=ry;exact rule i j t t' s _ _ ⟨.int<|g i j,H,I.tok _,⟨_,rfl⟩,q⟩
def BS{f:Qc->Qc->Sem Qc}{g:Int->Int->Bool}
  (rule:∀(i j:Int) (t u:Tok) (s:Qd) (Q:Qc->Qd->Prop) (E:Qc->Qd->Prop),Q (.bool<|g i j) s->Č (Đ X.prog X.w) X.A (f (.int i t)<|.int j u) Q E s):
  bF X f (jS λi j=>.bl<|g i j):=by
 intro pins s σ H x y v u Q I rx ry h;have(i,j,rfl,rfl,q):=h;have(t,rfl):=rx;have(t',rfl):=ry;exact rule i j t t' s _ _ ⟨.bl<|g i j,H,I,rfl,q⟩
def B0(i j:Int):Prop:=0<=j/\j<=1000000/\i.natAbs < 2^64
def vA(i j:Int):Prop:=(-(2^64) < i/\i < 2^64)\/(-(2^64) < j/\j < 2^64)
def vA.ok{i j:Int}(h:vA i j):IntMulOk i j:=by
 rcases h with⟨h1,h2⟩|⟨h1,h2⟩
 .exact .of_left (intBits_le_64 h1 h2)
 .exact .of_right (intBits_le_64 h1 h2)
def cP:bF X (Ů .Add) (jS λi j=>.int<|i+j):=SH λ_ _ _ _ _ _ _ q=>add_int q
def oW:bF X (Ů .Sub) (jS λi j=>.int<|i - j):=SH λ_ _ _ _ _ _ _ q=>sub_int q
def oV:bF X (Ů .Mult) (rI vA λi j=>.int<|i * j):=wV λ_ _ _ _ _ _ _ hc q=>mul_int q hc.ok
def oU:bF X (Ů .Mod) (rI (λ_ j=>0 < j) λi j=>.int<|i % j):=wV λi j _ _ _ _ _ hc q=>by
 have h1:(0:Int) < j:=hc;exact mod_int' (by omega) (by rw[Int.fmod_eq_emod_of_nonneg i (by omega)];exact q)
def VZ:bF X (Ů .Pow) (rI B0 λi j=>.int<|i^j.toNat):=wV λ_ _ _ _ _ _ _ hc q=>pow_int_small hc.1 hc.2.1 hc.2.2 q
def unI{f:Qc->Sem Qc}{g:Int->Int}
  (rule:∀(i:Int) (t:Tok) (s:Qd) (Q:Qc->Qd->Prop) (E:Qc->Qd->Prop),Q (.int (g i) s.toks) {s with toks:=s.toks+1}->Č (Đ X.prog X.w) X.A (f<|.int i t) Q E s):
  EZ X f (rU λi=>.int<|g i):=by
 intro pins s σ H x v Q I rx h;have(i,rfl,q):=h;have(t,rfl):=rx;exact rule i t s _ _ ⟨.int<|g i,H,I.tok _,⟨_,rfl⟩,q⟩
def lO:EZ X (unaryOp .USub) (rU λi=>.int (-i)):=unI λ_ _ _ _ _ q=>neg_int q
end
noncomputable def FA:V->V->Bool
 |.aK,.aK=>ż |.aK,.int _=>ż |.int _,.aK=>ż |.aK,.bl _=>ż |.bl _,.aK=>ż |.aK,.str _=>ż |.str _,.aK=>ż
 |.int _,.int _=>ż |.bl _,.bl _=>ż |.str _,.str _=>ż |.lh _,.lh _=>ż
 |.int _,.str _=>ż |.str _,.int _=>ż |.bl _,.str _=>ż |.str _,.bl _=>ż
 |_,_=>Ż
def S2:R2:=λx y H Q=>FA x y=ż/\Q (.bl<|decide<|x=y) H
def S1:R2:=λx y H Q=>FA x y=ż/\Q (.bl (!decide (x=y))) H
def Oq{i j:Int}:decide (V.int i=V.int j)=(i==j):=by
 rw[ϰ];simp
def Nb{i j:Bool}:decide (V.bl i=V.bl j)=(i==j):=by
 rw[ϰ];simp
def Oo{i j:Str}:decide (V.str i=V.str j)=(i==j):=by
 rw[ϰ];simp
def Om{i j:Array UInt8}:decide (V.lh i=V.lh j)=(i.toList==j.toList):=by
 rw[ϰ];cases i;cases j;simp
section
variable{X:Cx}{a b c:į}{ta tb tc:TE}{pos:Pos}
def dh{pins:Qa (Qg×Obj)}{σ:St}{H:Hp}{s:Qd}{Q:VK}{k k':Bool}(I:Inv X pins σ H s)(q:Q (.bl k) H)(e:k=k'):EP X pins σ Q (.bool k') s:=by
 subst e;exact⟨.bl k,H,I,rfl,q⟩
def cE:bF X (Ĥ .Eq) S2:=by
 intro pins s σ H x y v u Q I rx ry h;have(hs,q):=h;cases x with
 |aK=>
  cases rx;cases y with
  |aK=>cases ry;exact PySem.EqNone.eq_none_none<|dh I q (by simp)
  |bl j=>cases ry;exact PySem.EqNone.eq_none_bool<|dh I q (by simp)
  |int j=>have(t',rfl):=ry;exact PySem.EqNone.eq_none_int<|dh I q (by simp)
  |str j=>have(t',rfl):=ry;exact PySem.EqNone.eq_none_str<|dh I q (by simp)
  |_=>exact absurd (show Ż=ż from hs) qf
 |bl i=>
  cases rx;cases y with
  |aK=>cases ry;exact PySem.EqNone.eq_bool_none<|dh I q (by simp)
  |bl j=>cases ry;exact eq_bool<|dh I q Nb
  |str j=>have(t',rfl):=ry;exact PySem.EqMixed.eq_bool_str<|dh I q (by simp)
  |_=>exact absurd (show Ż=ż from hs) qf
 |int i=>
  have(t,rfl):=rx;cases y with
  |aK=>cases ry;exact PySem.EqNone.eq_int_none<|dh I q (by simp)
  |int j=>have(t',rfl):=ry;exact eq_int<|dh I q Oq
  |str j=>have(t',rfl):=ry;exact PySem.EqMixed.eq_int_str<|dh I q (by simp)
  |_=>exact absurd (show Ż=ż from hs) qf
 |str i=>
  have(t,rfl):=rx;cases y with
  |aK=>cases ry;exact PySem.EqNone.eq_str_none<|dh I q (by simp)
  |bl j=>cases ry;exact PySem.EqMixed.eq_str_bool<|dh I q (by simp)
  |int j=>have(t',rfl):=ry;exact PySem.EqMixed.eq_str_int<|dh I q (by simp)
  |str j=>have(t',rfl):=ry;exact eq_str<|dh I q Oo
  |_=>exact absurd (show Ż=ż from hs) qf
 |lh i=>
  have(t,rfl):=rx;cases y with
  |lh j=>have(t',rfl):=ry;exact PySem.W.eq_bytes<|dh I q Om
  |_=>exact absurd (show Ż=ż from hs) qf
 |_=>cases y<;>exact absurd (show Ż=ż from hs) qf
def pY:bF X (Ĥ .NotEq) S1:=by
 intro pins s σ H x y v u Q I rx ry h;have(hs,q):=h;cases x with
 |aK=>
  cases rx;cases y with
  |aK=>cases ry;exact PySem.EqNone.ne_none_none<|dh I q (by simp)
  |bl j=>cases ry;exact PySem.EqNone.ne_none_bool<|dh I q (by simp)
  |int j=>have(t',rfl):=ry;exact PySem.EqNone.ne_none_int<|dh I q (by simp)
  |str j=>have(t',rfl):=ry;exact PySem.EqNone.ne_none_str<|dh I q (by simp)
  |_=>exact absurd (show Ż=ż from hs) qf
 |bl i=>
  cases rx;cases y with
  |aK=>cases ry;exact PySem.EqNone.ne_bool_none<|dh I q (by simp)
  |bl j=>cases ry;exact ne_bool<|dh I q<|congrArg not Nb
  |str j=>have(t',rfl):=ry;exact PySem.EqMixed.ne_bool_str<|dh I q (by simp)
  |_=>exact absurd (show Ż=ż from hs) qf
 |int i=>
  have(t,rfl):=rx;cases y with
  |aK=>cases ry;exact PySem.EqNone.ne_int_none<|dh I q (by simp)
  |int j=>have(t',rfl):=ry;exact ne_int<|dh I q<|congrArg not Oq
  |str j=>have(t',rfl):=ry;exact PySem.EqMixed.ne_int_str<|dh I q (by simp)
  |_=>exact absurd (show Ż=ż from hs) qf
 |str i=>
  have(t,rfl):=rx;cases y with
  |aK=>cases ry;exact PySem.EqNone.ne_str_none<|dh I q (by simp)
  |bl j=>cases ry;exact PySem.EqMixed.ne_str_bool<|dh I q (by simp)
  |int j=>have(t',rfl):=ry;exact PySem.EqMixed.ne_str_int<|dh I q (by simp)
  |str j=>have(t',rfl):=ry;exact ne_str<|dh I q<|congrArg not Oo
  |_=>exact absurd (show Ż=ż from hs) qf
 |lh i=>
  have(t,rfl):=rx;cases y with
  |lh j=>have(t',rfl):=ry;exact PySem.W.ne_bytes<|dh I q<|congrArg not Om
  |_=>exact absurd (show Ż=ż from hs) qf
 |_=>cases y<;>exact absurd (show Ż=ż from hs) qf
def pX:bF X (Ĥ .Lt) (jS λi j=>.bl<|decide<|i < j):=BS λ_ _ _ _ _ _ _ q=>lt_int q
def vU:bF X (Ĥ .LtE) (jS λi j=>.bl<|decide<|i<=j):=BS λ_ _ _ _ _ _ _ q=>le_int q
def rH:bF X (Ĥ .Gt) (jS λi j=>.bl<|decide<|j < i):=BS λ_ _ _ _ _ _ _ q=>gt_int q
def zAI:bF X (Ĥ .GtE) (jS λi j=>.bl<|decide<|j<=i):=BS λ_ _ _ _ _ _ _ q=>ge_int q
def VY:bF X (Ĥ .Is) (λx y H Q=>y=.aK/\Q (.bl<|decide<|x=.aK) H):=by
 intro pins s σ H x y v u Q I rx ry h;have(rfl,q):=h;cases ry;refine is_none_gen<|dh I q ?_;cases x<;>first
  | (cases rx;rfl)
  | (have(t,rfl):=rx;rfl)
def Ol:bF X (Ĥ .IsNot) (λx y H Q=>y=.aK/\Q (.bl (!decide (x=.aK))) H):=by
 intro pins s σ H x y v u Q I rx ry h;have(rfl,q):=h;cases ry;refine isnot_none_gen<|dh I q ?_;cases x<;>first
  | (cases rx;rfl)
  | (have(t,rfl):=rx;rfl)
def Na(b:į){op:CmpOp}(h:op≠.In:=by decide)(h2:op≠.NotIn:=by decide):υ op b=Ż:=by
 have e1:(op==CmpOp.In)=Ż:=by cases op<;>first|rfl|exact absurd rfl h
 have e2:(op==CmpOp.NotIn)=Ż:=by cases op<;>first|rfl|exact absurd rfl h2
 cases b<;>simp[υ,e1,e2]
def Zv{op:CmpOp}{r:R2}(ho:bF X (Ĥ op) r)(ha:PE X a ta)(hb:PE X b tb)(hm:υ op b=Ż):PE X (.Compare a [op] [b] pos) (pf r ta tb):=by
 intro pins s σ H Q I h;exact wpAny_Compare1 (FC ha hb I h λv u s2 x y H2 I2 rx ry q=>ho pins s2 σ H2 x y v u Q I2 rx ry q) hm
def t4(t:TE):TT:=λσ H Q=>t σ H λx H'=>∃k,x=.bl k/\Q k H'
def Zu{op:CmpOp}{r:R2}(ho:bF X (Ĥ op) r)(ha:PE X a ta)(hb:PE X b tb)(hm:υ op b=Ż):PT X (.Compare a [op] [b] pos) (t4<|pf r ta tb):=by
 intro pins s σ H Q I h;refine wpAny_isTrue_Compare1 (aJ (ha pins s σ H _ I h) λv s1 hZ=>?_) hm;have(x,H1,I1,r1,q1):=hZ;refine aJ (hb pins s1 σ H1 _ I1 q1) λu s2 hZ=>?_;have(y,H2,I2,r2,q2):=hZ;refine aJ (ho pins s2 σ H2 x y v u _ I2 r1 r2 q2) λc s3 hZ=>?_;have(z,H3,I3,r3,k,e,q3):=hZ;subst e;cases r3;exact Ń ⟨H3,I3,q3⟩
def yp(r r':R2)(ta tb tc:TE):TE:=λσ H Q=>ta σ H λx H1=>tb σ H1 λy H2=>r x y H2 λz H3=>∃k,z=.bl k/\
 (if k=ż then tc σ H3 λw' H4=>r' y w' H4 Q else Q (.bl Ż) H3)
def zqz{op g7:CmpOp}{r r':R2}(ho:bF X (Ĥ op) r)(cZ:bF X (Ĥ g7) r')(ha:PE X a ta)(hb:PE X b tb)(hc:PE X c tc)
  (hm:a1S [op,g7] [b,c]=Ż:=by with_unfolding_all rfl):PE X (.Compare a [op,g7] [b,c] pos) (yp r r' ta tb tc):=by
 intro pins s σ H Q I h;refine Compare_chain (aJ (ha pins s σ H _ I h) λv s1 hZ=>?_) hm;have(x,H1,I1,r1,q1):=hZ;refine chain_link<|aJ (hb pins s1 σ H1 _ I1 q1) λu s2 hZ=>?_;have(y,H2,I2,r2,q2):=hZ;refine aJ (ho pins s2 σ H2 x y v u _ I2 r1 r2 q2) λd s3 hZ=>?_;have(z,H3,I3,r3,k,e,q3):=hZ;subst e;cases r3;refine Ń ?_;cases k with
 |false=>exact ite_ff ⟨.bl Ż,H3,I3,rfl,q3⟩
 |true=>
  refine ite_tt<|chain_last<|aJ (hc pins s3 σ H3 _ I3 q3) λw' s4 hZ=>?_;have(z',H4,I4,r4,q4):=hZ;exact cZ pins s4 σ H4 y z' u w' Q I4 r2 r4 q4
def zqA{op g7:CmpOp}{r r':R2}(ho:bF X (Ĥ op) r)(cZ:bF X (Ĥ g7) r')(ha:PE X a ta)(hb:PE X b tb)(hc:PE X c tc)
  (hm:a1S [op,g7] [b,c]=Ż:=by with_unfolding_all rfl):PT X (.Compare a [op,g7] [b,c] pos) (t4<|yp r r' ta tb tc):=by
 intro pins s σ H Q I h;refine isTrue_chain (aJ (ha pins s σ H _ I h) λv s1 hZ=>?_) hm;have(x,H1,I1,r1,q1):=hZ;refine test_link<|aJ (hb pins s1 σ H1 _ I1 q1) λu s2 hZ=>?_;have(y,H2,I2,r2,q2):=hZ;refine aJ (ho pins s2 σ H2 x y v u _ I2 r1 r2 q2) λd s3 hZ=>?_;have(z,H3,I3,r3,k,e,q3):=hZ;subst e;cases r3;refine Ń ?_;cases k with
 |false=>
  have(k',e',q'):=q3;cases e';exact ite_ff ⟨H3,I3,q'⟩
 |true=>
  refine ite_tt<|test_last<|aJ (hc pins s3 σ H3 _ I3 q3) λw' s4 hZ=>?_;have(z',H4,I4,r4,q4):=hZ;refine aJ (cZ pins s4 σ H4 y z' u w' _ I4 r2 r4 q4) λd' s5 hZ=>?_;have(z2,H5,I5,r5,k2,e2,q5):=hZ;subst e2;cases r5;exact Ń ⟨H5,I5,q5⟩
def Fy(K:qc)(x:V)(H:Hp)(k:Bool):Prop :=
 match x with
 |.aK=>k=Ż
 |.bl b=>k=b
 |.int i=>k=(i != 0)
 |.str y=>y.length<=Ď/\k=((y.length:Int) != 0)
 |.lh y=>y.size<=Ď/\k=((y.size:Int) != 0)
 |.ref p=>(∃xs,bZ K H p xs/\k=!xs.isEmpty)\/(∃xs,bT K H p xs/\k=!xs.isEmpty)\/∃kvs,H p=ž (.dK kvs)/\k=!kvs.isEmpty
 |_=>False
def zl7{κ:Type}{kvs:Qa (κ×V)}{vs:Qa (κ×Qc)}(r:KV kvs vs):(!vs.isEmpty)=!kvs.isEmpty:=by
 cases r<;>rfl
def Qz{xs:Qa V}{aq:Qa Qc}(r:zY xs aq):(!aq.toArray.isEmpty)=!xs.isEmpty:=by
 cases r<;>simp
def wy:(Ď:Nat) < 2^63:=by rw[a1K];decide
def VW:zCP X (λx H Q=>∃k,Fy X.K x H k/\Q k H):=by
 intro pins s σ H x v Q I rx h;have(k,e,q):=h;have hl:=wy;have hs:Ď=16777216:=a1K;cases x with
 |aK=>
  cases rx;have e':k=Ż:=e;subst e';exact truthy_none ⟨H,I,q⟩
 |bl b=>
  cases rx;have e':k=b:=e;subst e';exact Ń ⟨H,I,q⟩
 |int i=>
  have(t,rfl):=rx;have e':k=(i != 0):=e;subst e';exact PySem.P.truthy_int ⟨H,I,q⟩
 |str y=>
  have(t,rfl):=rx;obtain⟨hy,e'⟩:y.length<=Ď/\k=((y.length:Int) != 0):=e;subst e';exact PySem.P.truthy_str (by omega) ⟨H,I.tok _,q⟩
 |lh y=>
  have(t,rfl):=rx;obtain⟨hy,e'⟩:y.size<=Ď/\k=((y.size:Int) != 0):=e;subst e';exact PySem.W.truthy_bytes (by omega) ⟨H,I.tok _,q⟩
 |ref p=>
  cases rx;have e':(∃xs,bZ X.K H p xs/\k=!xs.isEmpty)\/(∃xs,bT X.K H p xs/\k=!xs.isEmpty)\/∃kvs,H p=ž (.dK kvs)/\k=!kvs.isEmpty:=e;rcases e' with⟨xs,hx,e'⟩|⟨xs,hx,e'⟩|⟨kvs,hx,e'⟩
  .subst e'
   have(aq,r,pl,hz):=I.list hx;have hlen:=r.length;exact wpAny_truthy_list pl.isList (by simp only[ē];omega) ⟨H,I.tok _,by rw[Qz r];exact q⟩
  .subst e'
   have(aq,r,pl,hz):=I.tuple hx;have hlen:=r.length;exact truthy_tuple pl (by simp only[ē];omega) ⟨H,I.tok _,by rw[Qz r];exact q⟩
  .subst e'
   obtain⟨hz,hS,vs,r,m⟩:kvs.length<=Ď/\(p==Ĳ)=Ż/\∃vs,KV kvs vs/\s.heap.DictOf (dq X.prog X.w) p vs:=I.aC p _ hx;have hlen:kvs.length=vs.length:=a0p r;exact wpAny_truthy_dict hS m (by omega) ⟨H,I.tok _,by rw[zl7 r];exact q⟩
 |_=>exact(show False from e).elim
def zqB(ha:PE X a ta)(he:∀whole,a3f a X.env whole=(do let v <-whole;a3A a.pos;a0P [v] (truthy v))):
  PT X a (λσ H Q=>ta σ H λx H'=>∃k,Fy X.K x H' k/\Q k H'):=by
 intro pins s σ H Q I h;exact isTrue_plain (aJ (ha pins s σ H _ I h) λv s1 ⟨x,H1,I1,r1,q1⟩=>VW pins s1 σ H1 x v Q I1 r1 q1)<|he _
def DJ:bF X (Ů .Add) (λx y H Q=>∃i j,x=.str i/\y=.str j/\i.length+j.length<=Ď/\Q (.str<|i++j) H):=by
 intro pins s σ H x y v u Q I rx ry h;have(i,j,rfl,rfl,hz,q):=h;have(t,rfl):=rx;have(t',rfl):=ry;exact add_str (λt' tk=>⟨.str<|i++j,H,I.tok _,⟨_,rfl⟩,q⟩) hz
def pW{x:V}{us:Qa Qc}(r:zY [x] us):∃u,us=[u]/\aP x u:=by
 cases r with
 |cons r1 r2=>cases r2;exact⟨_,rfl,r1⟩
def Cn{x y:V}{us:Qa Qc}(r:zY [x,y] us):∃u w',us=[u,w']/\aP x u/\aP y w':=by
 cases r with
 |cons r1 r2=>
  cases r2 with
  |cons r3 r4=>cases r4;exact⟨_,_,rfl,r1,r3⟩
def Pn:ik X (.builtin "abs") (λxs H Q=>∃i,xs=[.int i]/\Q (.int (if i < 0 then -i else i)) H):=by
 intro pins s σ H xs us Q I r h;have(i,rfl,q):=h;have(u,rfl,t,rfl):=pW r;exact call_abs_int λu tk=>⟨.int (if i < 0 then -i else i),H,I.tok _,⟨_,rfl⟩,q⟩
def Qs(hc:X.calm=ż):ik X (.builtin "max") (λxs H Q=>∃i j,xs=[.int i,.int j]/\Q (.int (if j > i then j else i)) H):=by
 intro pins s σ H xs us Q I r h;have(i,j,rfl,q):=h;obtain⟨u,w',rfl,⟨t,rfl⟩,⟨t',rfl⟩⟩:=Cn r;refine max_two_ints (I.ok.hd hc) λh' tk k=>⟨_,H,I.kept k,?_,q⟩
 by_cases hj:j > i
 .rw[a5L hj,a5L hj];exact⟨_,rfl⟩
 .rw[a5M hj,a5M hj];exact⟨_,rfl⟩
def zpA(hc:X.calm=ż):ik X (.builtin "min") (λxs H Q=>∃i j,xs=[.int i,.int j]/\Q (.int (if j < i then j else i)) H):=by
 intro pins s σ H xs us Q I r h;have(i,j,rfl,q):=h;obtain⟨u,w',rfl,⟨t,rfl⟩,⟨t',rfl⟩⟩:=Cn r;refine min_two_ints (I.ok.hd hc) λh' tk k=>⟨_,H,I.kept k,?_,q⟩
 by_cases hj:j < i
 .rw[a5L hj,a5L hj];exact⟨_,rfl⟩
 .rw[a5M hj,a5M hj];exact⟨_,rfl⟩
def yW:ik X (.type "int") (λxs H Q=>(∃i,xs=[.int i]/\Q (.int i) H)\/∃k,xs=[.bl k]/\Q (.int (if k then 1 else 0)) H):=by
 intro pins s σ H xs us Q I r h;rcases h with⟨i,rfl,q⟩|⟨k,rfl,q⟩
 .have(u,rfl,t,rfl):=pW r
  exact call_int_int ⟨.int i,H,I,⟨_,rfl⟩,q⟩
 .have(u,rfl,r1):=pW r
  cases r1;exact call_int_bool ⟨.int (if k then 1 else 0),H,I.tok _,⟨_,rfl⟩,q⟩
end
structure vq (h:Į) (x dx C:Qg) (mA:Str->Qb Qc):Prop where
 obj:h.get? x=ž (a2c C dx)
 ns:h.Ns1 dx mA
 ne:dx≠x
def Iq{h:Į}{dx:Qg}{mA:Str->Qb Qc}(n:h.Ns1 dx mA):∃od,h.get? dx=ž od/\∀name,a0X name od=ž (mA name):=by
 have(o,es,ep,ho,hd,hk,_,hm):=n;refine⟨o,ho,λname=>?_⟩;have e:=hm name;unfold nsFind findBy at e;rw[<-Array.find?_toList]at e;unfold a0X;rw[hd];dsimp only;split
 .rename_i y q
  rw[q]at e;exact congrArg ž e
 .rename_i q
  rw[q]at e;have a:es.toList.any (·.refKey)=Ż:=by
   rw[List.any_eq_false];intro y hy;have(z,t,i8):=hk y (Array.mem_toList_iff.mp hy);simp[DictEntry.refKey,i8]
  have a':¬es.toList.any (·.refKey)=ż:=by rw[a];exact qf
  rw[a5M a'];exact congrArg ž e
def vq.look{h:Į}{x dx C:Qg}{mA:Str->Qb Qc}(I:vq h x dx C mA):∃od,PySem.W.InstAt h x (a2c C dx) C (ž od)/\∀name,a0X name od=ž (mA name):=
 let ⟨od,ho,hl⟩:=Iq I.ns
 ⟨od,⟨I.obj,rfl,rfl,ho⟩,hl⟩
def jI.some_of{v:V}{o:Qb Qc}(r:jI (ž v) o):∃u,o=ž u/\aP v u:=by
 cases o with
 |none=>exact(show False from r).elim
 |some u=>exact⟨u,rfl,r⟩
def zpB{v:V}{u:Qc}(r:aP v u):PySem.W.handedIn u=ż:=by
 cases v with
 |aK=>cases(show u=đ from r);rfl
 |bl b=>cases(show u=a2I b from r);rfl
 |int i=>have(t,e):=(show ∃t,u=a0E i t from r);cases e;rfl
 |str x=>have(t,e):=(show ∃t,u=a2a x t from r);cases e;rfl
 |lh b=>have(t,e):=(show ∃t,u=Value.bytes b t from r);cases e;rfl
 |vh b=>have(t,e):=(show ∃t,u=a3O b t from r);cases e;rfl
 |ref a=>cases(show u=Ė a from r);rfl
 |ty n=>cases(show u=a2H n from r);rfl
section
variable{P:Qe}{w:Qh}{K:qc}{H H':Hp}{h h':Į}{a C dx:Qg}{fs fs':Qa (Str×V)}
def Zt(aC:cC P w K H h)(e:H a=ž (.ins C dx fs)):∃mA,vq h a dx C mA/\(∀f,jI (fs.lookup f)<|mA f)/\PySem.Within mA (fs.map (·.1))/\fs.length<=1000/\H dx=ž (.own a):=by
 have(d,z,ne,ob,mA,n,r,q):=(show bV P w K H h a (.ins C dx fs) from aC a _ e);exact⟨mA,⟨ob,n,ne⟩,r,q,z,d⟩
end
structure Fe (K:qc) (C:Qg):Prop where
 pg:a4A K C Str.empty=ż
 hd:PySem.W.hasDictIn K C=ż
 po:PySem.W.plainOver K C=ż
 sa:ġ K (.ref C) "__setattr__"=ž (ž<|.builtin "object.__setattr__")
def Fe.get{K:qc}{C:Qg}(c:Fe K C)(f:Str):a4A K C f=ż:=c.pg
def nJ(K:qc)(C:Qg)(f:Str):Prop:=ġ K (.ref C) f=ž Ž
structure K0 (K:qc) (C:Qg) (m:Str) (f:Qg):Prop where
 at_:ġ K (.ref C) m=ž (ž<|.ref f)
 fn:ζ K (.ref f)=ż
 kp:ĵ K (.ref f)=ż
section
variable{X:Cx}{pins:Qa (Qg×Obj)}{σ:St}{H:Hp}{s:Qd}{a C dx:Qg}{fs:Qa (Str×V)}{f:Str}{v:V}{A:Qf}{E:Qc->Qd->Prop}
def Zr{prog:Qe}{w:Qh}{env:Env}{e:į}{f:Str}{pos:Pos}{s:Qd}{Q:Qc->Qd->Prop}(hb:ϐ e f env (Ŭ e env)=Ŭ e env)
  (h:Č (Đ prog w) A (Ŭ e env) (λo aH=>Č (Đ prog w) A (getAttr o f ż) Q E aH) E s):Č (Đ prog w) A (Ŭ (.Attribute e f pos) env) Q E s :=
 Attribute_any_ h (by rw[arm_eval_Attribute,hb])
end
section
variable{X:Cx}{pins:Qa (Qg×Obj)}{σ:St}{H:Hp}{s:Qd}{A:Qf}{E:Qc->Qd->Prop}{Q:Qc->Qd->Prop}{c:Qc}{b:Bool}
inductive eF (K:qc) (H:Hp):V->Qc->Prop where
 |aK:eF K H .aK (.type "NoneType")
 |bl (x:Bool):eF K H (.bl x) (.type "bool")
 |int (i:Int):eF K H (.int i) (.type "int")
 |str (x:Str):eF K H (.str x) (.type "str")
 |vh (x:UInt64):eF K H (.vh x) (.type "float")
 |lst {a:Qg} {xs:Qa V} (e:H a=ž (.lst xs)):eF K H (.ref a) (.type "list")
 |bj {a:Qg} {o:Obj} {xs:Qa V} (e:H a=ž (.bj o<|.lst xs)):eF K H (.ref a) (.type "list")
 |tup {a:Qg} {xs:Qa V} (e:bg K H a xs):eF K H (.ref a) (.type "tuple")
 |dK {a:Qg} {kvs:Qa (Key×V)} (e:H a=ž (.dK kvs)):eF K H (.ref a) (.type "dict")
 |dT {a:Qg} {kvs:Qa (Qa Key×V)} (e:H a=ž (.dT kvs)):eF K H (.ref a) (.type "dict")
 |ins {a C dx:Qg} {fs:Qa (Str×V)} (e:H a=ž (.ins C dx fs)) (cl:Fe K C) (ha:ġ K (.ref C) "__class__"=ž (ž<|.builtin "object.__class__"))
   (hn:a1x K (.builtin "object.__class__") "__get__"=ž (ž<|.builtin "getset_descriptor.__get__")) (Tr:a2b K (.builtin "object.__class__")=ž ż)
   (hm:Ź K C (.type "object")=ž ż):eF K H (.ref a) (.ref C)
def zpC{x:V}{u t:Qc}(I:Inv X pins σ H s)(rx:aP x u)(ty:eF X.K H x t)(e:Ŧ X.K t c=ž b)(h:∀tk,Q (.bool b) {s with toks:=tk}):
  Č (Đ X.prog X.w) A (call (.builtin "isinstance") [u,c]) Q E s:=by
 cases ty with
 |aK=>cases(show u=đ from rx);exact Ö PySem.W.kitx_none I.bP Ϟ e (λz=>nomatch z) h
 |bl y=>cases(show u=a2I y from rx);exact Ö PySem.W.kitx_bool I.bP Ϟ e (λz=>nomatch z) h
 |int i=>have(t,q):=(show ∃t,u=a0E i t from rx);cases q;exact Ö PySem.W.kitx_int I.bP Ϟ e (λz=>nomatch z) h
 |str y=>have(t,q):=(show ∃t,u=a2a y t from rx);cases q;exact Ö PySem.W.kitx_str I.bP Ϟ e (λz=>nomatch z) h
 |vh y=>have(t,q):=(show ∃t,u=a3O y t from rx);cases q;exact Ö PySem.W.kitx_float I.bP Ϟ e (λz=>nomatch z) h
 | @lst a xs ea=>
  cases(show u=Ė a from rx);have(_,_,n,_,h1):=(show bV X.prog X.w X.K H s.heap a (.lst xs) from I.aC a _ ea);exact Ö a4e I.bP ⟨_,h1,rfl⟩ e (λz=>nomatch z) h
 | @bj a ob xs ea=>
  cases(show u=Ė a from rx);have(_,_,_,n,_,h1):=(show bV X.prog X.w X.K H s.heap a (.bj ob<|.lst xs) from I.aC a _ ea);exact Ö a4e I.bP ⟨_,h1,rfl⟩ e (λz=>nomatch z) h
 | @tup a xs ea=>
  cases(show u=Ė a from rx);rcases ea with ea|⟨o,aq,n,hk,hc,_⟩
  case inr=>exact Ö a3R I.bP ⟨o,I.bP a o hk,hc⟩ e (λz=>nomatch z) h
  have(_,_,_,p):=(show bV X.prog X.w X.K H s.heap a (.tup xs) from I.aC a _ ea);have(o,h1,h2,_):=p;exact Ö a3R I.bP ⟨o,h1,h2⟩ e (λz=>nomatch z) h
 | @dK a kvs ea=>
  cases(show u=Ė a from rx);have(_,_,vs,_,p):=(show bV X.prog X.w X.K H s.heap a (.dK kvs) from I.aC a _ ea);have(o,es,ep,h1,h2,_):=p;exact Ö a4f I.bP ⟨o,h1,h2.1⟩ e (λz=>nomatch z) h
 | @dT a kvs ea=>
  cases(show u=Ė a from rx);have(_,_,xs,_,o,es,ep,h1,h2,_):=(show bV X.prog X.w X.K H s.heap a (.dT kvs) from I.aC a _ ea);exact Ö a4f I.bP ⟨o,h1,h2.1⟩ e (λz=>nomatch z) h
 | @ins a C dx fs ea cl ha hn Tr hm=>
  cases(show u=Ė a from rx);have(mA,O,_):=Zt I.aC ea;have(od,J,_):=O.look;exact Ö (PySem.W.kitx_own (cl.get _) cl.hd ha hn Tr hm) I.bP J e (λz=>nomatch z) h
end
structure aF (k:Nat) (A:Qf):Prop where
 hd:A.handled=Ž
 dp:A.depth+3 * k+5 < recursionLimit
 un:A.units+16 * k+200 < ϻ
 gd:A.guards=ž []
def aF.mono{j k:Nat}{A:Qf}(r:aF k A)(h:j<=k):aF j A:=⟨r.hd,by have:=r.dp;omega,by have:=r.un;omega,r.gd⟩
def aF.deeper{k:Nat}{A:Qf}(r:aF (k+1) A)(env:Env):aF k (A.deeper env):=
 ⟨r.hd,by have:=r.dp;show A.depth+1+3 * k+5 < _;omega,by have:=r.un;show A.units+3+16 * k+200 < _;omega,r.gd⟩
def zl8{A:Qf}{C:Qg}{us:Qa Qc}{kw:Qa (Str×Qc)}:(A.under<|.builtin "type.__call__" ⟨.ref C::us,kw⟩).depth=A.depth+1:=by
 first|rfl|simp[a1I,Code.weight,Code.isCreation,Code.isGuard,Code.isCaller,Code.frames,a3G,guardIds]
def zl9{A:Qf}{C:Qg}{us:Qa Qc}{kw:Qa (Str×Qc)}:(A.under<|.builtin "type.__call__" ⟨.ref C::us,kw⟩).units=A.units+1:=by
 first|rfl|simp[a1I,Code.cUnits,Code.frames,a3G]
def aF.make{k:Nat}{A:Qf}(r:aF (k+1) A)(C:Qg)(us:Qa Qc)(kw:Qa (Str×Qc)):aF k (A.under<|.builtin "type.__call__" ⟨.ref C::us,kw⟩):=
 ⟨r.hd,by have:=r.dp;rw[zl8];omega,by have:=r.un;rw[zl9];omega,by have:=r.gd;first|exact this|simpa [a1I,Code.isGuard,guardIds] using this⟩
def aF.depth{k:Nat}{A:Qf}(r:aF k A):A.depth < recursionLimit:=by have:=r.dp;omega
def aF.units{k:Nat}{A:Qf}(r:aF k A):A.units+64 < ϻ:=by have:=r.un;omega
def rB:TA:=λ_ H Q=>Q [] H
def oN(ta:TE)(tr:TA):TA:=λσ H Q=>ta σ H λx H1=>tr σ H1 λxs H2=>Q (x::xs) H2
section
variable{X:Cx}{e:į}{es:Qa į}{te:TE}{t:TA}{pos:Pos}
def Nh:PA X [] rB:=λ_ _ _ _ H Q I h=>a4S ⟨[],H,I,.nil,h⟩
def Oj(ha:PE X e te)(hr:PA X es t)(hs:ķ (e::es) X.env=(Ż,Ŭ e X.env)::ķ es X.env:=by rfl):PA X (e::es) (oN te t):=by
 intro pos pins s σ H Q I h;rw[hs];show Č _ _ (spliced<|(Ż,Ŭ e X.env)::Γ pos (ķ es X.env)) _ _ s;refine a1A<|aJ (ha pins s σ H _ I h) λu s1 hZ=>?_;have(x,H1,I1,r1,q1):=hZ;exact aJ (hr pos pins s1 σ H1 _ I1 q1) λus s2 ⟨xs,H2,I2,r2,q2⟩=>⟨x::xs,H2,I2,.cons r1 r2,q2⟩
def Fx(t:TA):TE:=λσ H Q=>t σ H λxs H1=>xs.length<=Ď/\∀p,H1 p=Ž->Q (.ref p) (upd H1 p<|.tup xs)
def BZ(t:TA):TE:=λσ H Q=>t σ H λxs H1=>xs.length<=Ď/\∀p,H1 p=Ž->Q (.ref p) (upd H1 p<|.lst xs)
def VV{x1}(h:PA X es t):PE X (.Tuple es x1 pos) (Fx t):=by
 intro pins s σ H Q I hq;refine wpAny_Tuple_spliced<|aJ (h pos pins s σ H _ I hq) λus s1 ⟨xs,H1,I1,r,z,q⟩=>⟨by rw[<-r.length];exact z,?_⟩;have hf:H1 s1.heap.objs.size=Ž:=I1.aC.fresh (qe _);refine⟨.ref s1.heap.objs.size,upd H1 s1.heap.objs.size<|.tup xs,I1.laid (t':=s1.toks) (λb u e=>qd _ e) (qe _) ?_,rfl,q _ hf⟩;exact⟨z,us,r,⟨_,qg _ rfl,rfl,⟨_,rfl⟩,.inl rfl⟩⟩
def VR(h:PA X es t):PE X (.List es pos) (BZ t):=by
 intro pins s σ H Q I hq;refine wpAny_List_spliced<|aJ (h pos pins s σ H _ I hq) λus s1 ⟨xs,H1,I1,r,z,q⟩=>⟨by rw[<-r.length];exact z,?_⟩;have hf:H1 s1.heap.objs.size=Ž:=I1.aC.fresh (qe _);refine⟨.ref s1.heap.objs.size,upd H1 s1.heap.objs.size<|.lst xs,I1.laid (t':=s1.toks) (λb u e=>qd _ e) (qe _) ?_,rfl,q _ hf⟩;exact⟨z,us,0,r,qg _ rfl⟩
end
abbrev Sp:=Qa V->Hp->VK->XK->Prop
abbrev lA:=Qa Env->Hp->Qd->XK->Qc->Qd->Prop
structure kG (P:Qe) (w:Qh) (K:qc) (mg:Str->Qb Qc) (base:Į) (A:Qf) (outer:Qa Env) (s:Qd) (H:Hp):Prop where
 frames:A.frames=ž outer
 mod:Mod K mg base
 bs:∀b o,base.get? b=ž o->s.heap.get? b=ž o/\H b=Ž
 nj:base.objs.size<=s.heap.objs.size
 dM:s.heap.FunFrames base outer
 pI:∀b∈gI outer,H b=Ž
 aC:cC P w K H s.heap
 bare:a0U s.gens
def CE(outer:Qa Env)(P:Qe)(w:Qh)(K:qc)(H:Hp)(s:Qd)(Q:VK)(u:Qc)(s':Qd):Prop :=
 ∃v H',s'.os=s.os/\a0U s'.gens/\Un (gI outer) [] H H' s.heap s'.heap/\cC P w K H' s'.heap/\aP v u/\Q v H'
def CR(CX:lA)(outer:Qa Env)(P:Qe)(w:Qh)(K:qc)(H:Hp)(s:Qd)(Q:VK)(E:XK)(r:Υ)(s':Qd):Prop :=
 match r with
 |.ok (.ret u)=>CE outer P w K H s Q u s'
 |.ok _=>False
 |.error e=>CX outer H s E e s'
structure bI (P:Qe) (w:Qh) (K:qc) (mg:Str->Qb Qc) (base:Į) (CX:lA) (k:Nat) (f:Qg) (fd:ū) (ps:Qa Str) (sp:Sp):Prop where
 len:∀vs H Q E,sp vs H Q E->vs.length=ps.length
 run:∀(A:Qf) (outer:Qa Env) (s:Qd) (H:Hp) (args:Args) (us:Qa Qc) (vs:Qa V) (Q:VK) (E:XK),aF k A->kG P w K mg base A outer s H->Ω s fd args (ps.zip us)->zY vs us->sp vs H Q E->
  a0q (Đ P w) A (.call (.ref f) args) (CR CX outer P w K H s Q E) s
def kG.make{P:Qe}{w:Qh}{K:qc}{mg:Str->Qb Qc}{base:Į}{A:Qf}{outer:Qa Env}{s:Qd}{H:Hp}(e:kG P w K mg base A outer s H)(C:Qg)(us:Qa Qc)(kw:Qa (Str×Qc)):
  kG P w K mg base (A.under<|.builtin "type.__call__" ⟨.ref C::us,kw⟩) outer s H:=⟨by first|exact e.frames | (simpa [a1I,Code.envs,a3G,pushEnvs] using e.frames),e.mod,e.bs,e.nj,e.dM,e.pI,e.aC,e.bare⟩
section
variable{X:Cx}{pins:Qa (Qg×Obj)}{σ:St}{H:Hp}{s s':Qd}
def Inv.q9(I:Inv X pins σ H s):kG X.prog X.w X.K X.mg X.base X.A X.stack s H :=
 ⟨I.ok.frames,I.ok.mod,I.bs,qx I.ok.nj I.sz,I.stack,I.fK,I.aC,I.bare⟩
def Inv.after{Q:VK}{u:Qc}(I:Inv X pins σ H s)(h:CE X.stack X.prog X.w X.K H s Q u s'):EP X pins σ Q u s':=by
 have(v,H',os,bare,un,aC,r,q):=h;have(hh,g,d,t,sR):=s';obtain rfl:sR=s.os:=os;exact⟨v,H',I.call (h':=hh) (g':=g) (d':=d) (t':=t) (ch:=[]) un aC bare (λb z=>absurd z (by simp)),r,q⟩
end
def zAJ(sp:Sp)(dvs:Qa V)(E:XK)(t:TA):TE:=λσ H Q=>t σ H λvs H1=>sp (vs++dvs) H1 Q E
def lK(K:qc)(fd:ū)(ps:Qa Str)(ds:Qa Qc):Prop :=
 ∀(s:Qd) (us:Qa Qc),K.In s.heap->(us++ds).length=ps.length->Ω s fd ⟨us,[]⟩ (ps.zip<|us++ds)
def lK.all{K:qc}{fd:ū}{ps:Qa Str}(h:∀us:Qa Qc,us.length=ps.length->bindArgs fd ⟨us,[]⟩=pure (ps.zip us)):lK K fd ps []:=λs us _ hl=>by
 rw[ŕ]at hl ⊢;exact .of_eq<|h us hl
def yo(CX:lA)(X:Cx)(E:XK):Prop:=∀(pins:Qa (Qg×Obj)) (σ:St) (H:Hp) (s:Qd) (e:Qc) (s':Qd),Inv X pins σ H s->CX X.stack H s E e s'->X.xe e s'
section
variable{X:Cx}{CX:lA}{k:Nat}{f C:Qg}{fd:ū}{ps:Qa Str}{sp:Sp}{dvs:Qa V}{ds:Qa Qc}{E:XK}{x m:Str}{p pos apos:Pos}{e o:į}{es:Qa į}{ta:TE}{t:TA}
def VQ{pins:Qa (Qg×Obj)}{σ:St}{H:Hp}{s:Qd}{Q:VK}{us:Qa Qc}{vs:Qa V}(F:bI X.prog X.w X.K X.mg X.base CX k f fd ps sp)(hr:aF k X.A)(hb:lK X.K fd ps ds)(hd:zY dvs ds)(hx:yo CX X E)
  (I:Inv X pins σ H s) (r:zY vs us) (h:sp (vs++dvs) H Q E):Č (Đ X.prog X.w) X.A (call (.ref f) us) (EP X pins σ Q) X.xe s:=by
 have r2:zY (vs++dvs) (us++ds):=r.append hd;have hl:(us++ds).length=ps.length:=by rw[<-r2.length];exact F.len _ _ _ _ h
 refine a0B<|Ϯ (F.run X.A X.stack s H ⟨us,[]⟩ (us++ds) (vs++dvs) Q E hr I.q9 (hb s us I.bP hl) r2 h) λr s' hq=>?_;cases r with
 |error e=>exact hx pins σ H s e s' I hq
 |ok fl=>
  cases fl with
  |ret u=>exact I.after hq
  |next=>exact ō hq
  |brk=>exact ō hq
  |cont=>exact ō hq
def Zq(F:bI X.prog X.w X.K X.mg X.base CX k f fd ps sp)(hr:aF k X.A)(hg:Gl X x)(hm:X.mg x=ž (.ref f))(hk:ĵ X.K (.ref f)=ż)(hb:lK X.K fd ps ds)(hd:zY dvs ds)(hx:yo CX X E)
  (ha:PA X (e::es) t) (bY:(x==("__debug__":Str))=Ż:=by decide) (he:ķ (e::es) X.env=(Ż,Ŭ e X.env)::ķ es X.env:=by rfl) (cq:(Γ pos<|ķ es X.env).any (·.1)=Ż:=by rfl):
  PE X (.Call (.Name x p) (e::es) [] pos) (zAJ sp dvs E t):=by
 intro pins s σ H Q I h;refine Ϙ<|wC I hg hm ?_ bY;refine Ċ (h₀:=X.base) I.ok.mod.j7 hk (aJ (ha pos pins s σ H _ I h) λus s1 ⟨vs,H1,I1,r,q⟩=>⟨I1.bP,?_⟩) he cq;exact VQ F hr hb hd hx I1 r q
end
structure aX (N P:Qa Str) (sc:a2K):Prop where
 kind:sc.kind=.function
 co:sc.isCoroutine=Ż
 gen:sc.isGenerator=Ż
 nd:N.Nodup
 pre:N.take P.length=P
 par:∀x∈P,sc.names.lookup x=ž .local\/sc.names.lookup x=ž .cell
 uN:∀y∈sc.names,y.2≠.free
def Qr{Ř:Str->Qb Φ}{x:Str}:∀{binds:Qa (Str×Qc)} {m:Str->Qb Qc},(∀v,(x,v)∉binds)->bindL Ř binds m x=m x
 |[],_,_=>rfl
 | (n,v)::r,m,h=>by
  unfold bindL;rw[Qr λw hw=>h w<|qm _ hw];split
  .have:x≠n:=by rintro rfl;exact h v qo
   simp[this]
  .rfl
def Qq{Ř:Str->Qb Φ}{x:Str}:∀{binds:Qa (Str×Qc)} {m:Str->Qb Qc},(∀v,(x,v)∉binds)->bindC Ř binds m x=m x
 |[],_,_=>rfl
 | (n,v)::r,m,h=>by
  unfold bindC;rw[Qq λw hw=>h w<|qm _ hw];split
  .rfl
  .have:x≠n:=by rintro rfl;exact h v qo
   simp[this]
def Qp{Ř:Str->Qb Φ}{x:Str}{v:Qc}:∀{P:Qa Str} {vs:Qa Qc} {i:Nat} {m:Str->Qb Qc},P.Nodup->P[i]?=ž x->vs[i]?=ž v->Ř x=ž .local->
  bindL Ř (P.zip vs) m x=ž v
 |[],_,_,_,_,h,_,_=>by simp at h
 |_::_,[],_,_,_,_,h,_=>by simp at h
 |p::P,w::vs,0,m,nd,h1,h2,hk=>by
  simp at h1 h2;subst h1;subst h2;show bindL Ř ((p,w)::P.zip vs) m p=_;unfold bindL;rw[Qr λv hv=>(List.nodup_cons.mp nd).1 (a2z hv).1,a5L hk];simp
 |p::P,w::vs,i+1,m,nd,h1,h2,hk=>by
  show bindL Ř ((p,w)::P.zip vs) m x=_;unfold bindL;exact Qp (i:=i) (ĉ.mp nd).2 (by simpa using h1) (by simpa using h2) hk
def Qo{Ř:Str->Qb Φ}{x:Str}{v:Qc}:∀{P:Qa Str} {vs:Qa Qc} {i:Nat} {m:Str->Qb Qc},P.Nodup->P[i]?=ž x->vs[i]?=ž v->Ř x≠ž .local->
  bindC Ř (P.zip vs) m x=ž v
 |[],_,_,_,_,h,_,_=>by simp at h
 |_::_,[],_,_,_,_,h,_=>by simp at h
 |p::P,w::vs,0,m,nd,h1,h2,hk=>by
  simp at h1 h2;subst h1;subst h2;show bindC Ř ((p,w)::P.zip vs) m p=_;unfold bindC;rw[Qq λv hv=>(List.nodup_cons.mp nd).1 (a2z hv).1,a5M hk];simp
 |p::P,w::vs,i+1,m,nd,h1,h2,hk=>by
  show bindC Ř ((p,w)::P.zip vs) m x=_;unfold bindC;exact Qo (i:=i) (ĉ.mp nd).2 (by simpa using h1) (by simpa using h2) hk
noncomputable def Ϲ(N:Qa Str)(vs:Qa V):St:=vs.map ž++č (N.length - vs.length) Ž
noncomputable def jr(CX:lA)(P:Qe)(w:Qh)(K:qc)(mg:Str->Qb Qc)(base:Į)(N:Qa Str)(qual:Str)(scope:a2K)(f:Qg)(cd:Qc)(A:Qf)(outer:Qa Env)(s:Qd)(H:Hp)(E:XK):Cx where
 prog:=P
 w:=w
 K:=K
 mg:=mg
 base:=base
 A:=A.deeper (θ qual scope s.heap.objs.size f cd)
 N:=N
 bG:=s
 aA:=H
 env:=θ qual scope s.heap.objs.size f cd
 outer:=outer
 stack:=θ qual scope s.heap.objs.size f cd::outer
 ex:=[]
 calm:=ż
 fn:=λ_=>ż
 pn:=[]
 xe:=λe s'=>Č (Đ P w) (A.deeper<|θ qual scope s.heap.objs.size f cd) (leaving (θ qual scope s.heap.objs.size f cd) e) (λ_ Ej=>CX outer H s E e Ej) (λe' Ej=>CX outer H s E e' Ej) s'
def Pl{sc:a2K}{n:Nat}{x:Str}(h:sc.names.lookup x=ž .cell):∃c,(ı n sc.names []).lookup x=ž c:=by
 have q:=a3g sc.names n [] (.inl h);exact ò.mp q
def zpD{CX:lA}{P:Qe}{w:Qh}{K:qc}{mg:Str->Qb Qc}{base:Į}{N ps:Qa Str}{qual:Str}{scope:a2K}{f:Qg}{cd:Qc}{A:Qf}{outer:Qa Env}{s s1:Qd}{H:Hp}{E:XK}{us:Qa Qc}{vs:Qa V}
  (S:aX N ps scope) (hd:A.handled=Ž) (e0:kG P w K mg base A outer s H) (hl:vs.length=ps.length) (r:zY vs us)
  (x:InCallC s s.heap.objs.size (bindL (θ qual scope s.heap.objs.size f cd).kindOf (ps.zip us) λ_=>Ž) (ı (s.heap.objs.size+1) scope.names []) (bindC (θ qual scope s.heap.objs.size f cd).kindOf (ps.zip us) λ_=>Ž) s1):
  Inv (jr CX P w K mg base N qual scope f cd A outer s H E) [] (Ϲ N vs) H s1:=by
 have cq:ps.length<=N.length:=by have:=congrArg a0s S.pre;rw[Ŀ]at this;omega
 have(h1,tk,rfl,hk):=x.done;have Az:∀b:Qg,b∉(jr CX P w K mg base N qual scope f cd A outer s H E).ex:=λb z=>absurd (show b∈([]:Qa Qg) from z) (by simp);refine⟨⟨e0.mod,S.kind,rfl,rfl,qe _,λy z c h1 h2=>?_,λy hy=>?_,λy c _ h=>?_,λ_=>hd,Around.frames_deeper e0.frames,.inr ⟨rfl,rfl⟩,λb z=>absurd z<|Az b,e0.bs,e0.nj,λb _ _=>Az b,λb z=>absurd z<|Az b,e0.dM,e0.pI⟩,
  rfl,e0.bare,Un.kept hk,⟨_,x.toInCall.ns,λi y v h1 h2 h3=>?_⟩,λy c h=>⟨_,x.cell y c h⟩,e0.aC.fresh<|qe _,λy c h=>?_,λp hp=>absurd (show p∈([]:Qa (Qg×Obj)) from hp) (by simp),e0.aC.kept hk,?_⟩
 .exact name_of_addr x.apart (ô h1) (ô h2)
 .have hy:scope.names.lookup y=ž .cell\/scope.names.lookup y=ž .free:=hy
  rcases hy with hy|hy
  .exact Pl hy
  .exact absurd rfl (S.uN _<|ô hy)
 .exact â (x.above y c<|ô h)
 .have hi:i < vs.length:=by
   unfold Ϲ at h2
   by_cases hi:i < vs.length
   .exact hi
   .rw[ę (by simpa using hi)]at h2
    rw[Ō]at h2;split at h2<;>cases h2
  have ha:vs[i]?=ž v:=by
   unfold Ϲ at h2;rw[Ĝ (by simpa using hi),ė]at h2;cases e:vs[i]? with
   |none=>rw[e]at h2;cases h2
   |some a=>rw[e]at h2;cases h2;rfl
  have(u,hu,rv):=r.get ha;have hp:ps[i]?=ž y:=by
   rw[<-S.pre,List.getElem?_take_of_lt (by omega)];exact h1
  have S9:ps.Nodup:=by rw[<-S.pre];exact S.nd.sublist<|List.take_sublist _ _
  refine⟨u,rv,?_⟩;rcases S.par y (Í hp)with k|k
  .exact .inl ⟨k,Qp S9 hp hu k⟩
  .have(c,e):=Pl (n:=s.heap.objs.size+1) k
   refine .inr ⟨.inl k,c,e,?_⟩;have q:=x.cell y c e;rw[Qo S9 hp hu (by show scope.names.lookup y≠_;rw[k];decide)]at q;exact q
 .exact e0.aC.fresh (â<|x.above y c<|ô h)
 .unfold Ϲ
  show _=N.length;rw[qr,ċ,Ħ];omega
def GL{CX:lA}{P:Qe}{w:Qh}{K:qc}{mg:Str->Qb Qc}{base:Į}{k:Nat}{f:Qg}{name qual:Str}{params:Arguments}{body:Qa Ş}{scope:a2K}{dV kV doc pm aQ ct oc:Qc}{an od:Qb Qg}
  {jU:Array (Qb Qc)} {N ps:Qa Str} {sp:Sp} (lk:K.lookup f=ž ⟨oc,od,.func<|ņ name qual params body scope dV kV doc pm an aQ ct,jU⟩) (iJ:ϊ K aQ qual=ż) (S:aX N ps scope)
  (len:∀vs H Q E,sp vs H Q E->vs.length=ps.length)
  (bh:∀(A:Qf) (outer:Qa Env) (s:Qd) (H:Hp) (vs:Qa V) (Q:VK) (E:XK),aF k (A.deeper<|θ qual scope s.heap.objs.size f aQ)->sp vs H Q E->
   ∃t,dR (jr CX P w K mg base N qual scope f aQ A outer s H E) body t/\t {nx:=λ_ H'=>Q .aK H',rt:=Q} (Ϲ N vs) H):
  bI P w K mg base CX (k+1) f (ņ name qual params body scope dV kV doc pm an aQ ct) ps sp:=by
 refine⟨len,λA outer s H args us vs Q E hr e0 hb r m8=>?_⟩;have hl:=len _ _ _ _ m8;have KX:K.In s.heap:=e0.mod.j7.keeps λb o e=>(e0.bs b o e).1;have lim:s.heap.NoLimit:=e0.mod.nolimit.keeps λb o e=>(e0.bs b o e).1;have AZ:∀y∈ps.zip us,scope.names.lookup y.1=ž .local\/(scope.names.lookup y.1=ž .cell/\((ı (s.heap.objs.size+1) scope.names []).lookup y.1).isSome=ż):=λ⟨n,v⟩ hy=>by
  rcases S.par n (a2z hy).1 with q|q
  .exact .inl q
  .exact .inr ⟨q,a3g _ _ _<|.inl q⟩
 refine codeAny_call_function hr.depth (KX _ _ lk) rfl S.co S.gen rfl (PySem.W.codeRec_of KX iJ)<|hb _ _ _ _ ?_;refine wpAny_newFunctionEnv_cells S.kind AZ λenv he s1 x=>?_;subst he;refine⟨lim.keeps x.toInCall.keep,codeAny_func ?_⟩;have(t,ht,hq):=bh A outer s H vs Q E (hr.deeper _) m8;have I:Inv (jr CX P w K mg base N qual scope f aQ A outer s H E) [] (Ϲ N vs) H s1:=zpD S hr.hd e0 hl r x;refine ŋ (ht [] s1 (Ϲ N vs) H _ I hq) (λfl s' hs=>?_) λe s' hs=>hs;have fin:∀{aG:St} {H':Hp} {v:V} {u:Qc},Inv (jr CX P w K mg base N qual scope f aQ A outer s H E) [] aG H' s'->aP v u->Q v H'->CE outer P w K H s Q u s' :=
  λ{aG H' v u} J rv q=>⟨v,H',J.os,J.bare,J.base,J.aC,rv,q⟩
 cases fl with
 |ret u=>
  have(v,aG,H',J,rv,q):=hs;exact fin J rv q
 |next=>
  have(aG,H',J,q):=hs;exact fin (v:=V.aK) (u:=đ) J rfl q
 |brk=>
  have(_,_,_,q):=hs;exact ō q
 |cont=>
  have(_,_,_,q):=hs;exact ō q
section
variable{X:Cx}{x:Str}{p pos:Pos}{e:į}{es:Qa į}{t:TA}{id T:String}{r:Qa V->Hp->VK->Prop}
def sP(r:Qa V->Hp->VK->Prop)(t:TA):TE:=λσ H Q=>t σ H λvs H1=>r vs H1 Q
def zqE(hc:ik X (.builtin id) r)(hg:Gl X x)(hm:X.mg x=Ž)(hv:Ű x=ž (.builtin id))(ha:PA X (e::es) t)(hn:x ≠ "__name__":=by decide)(bY:(x==("__debug__":Str))=Ż:=by decide)
  (he:ķ (e::es) X.env=(Ż,Ŭ e X.env)::ķ es X.env:=by rfl) (cq:(Γ pos<|ķ es X.env).any (·.1)=Ż:=by rfl):PE X (.Call (.Name x p) (e::es) [] pos) (sP r t):=by
 intro pins s σ H Q I h;refine Ϙ<|wz I hg hm hv ?_ hn bY;exact PyProof.Rows.callWith_builtin1 (aJ (ha pos pins s σ H _ I h) λus s1 ⟨vs,H1,I1,r1,q1⟩=>hc pins s1 σ H1 vs us Q I1 r1 q1) he cq
def zpE(hc:ik X (.type T) r)(hg:Gl X x)(hm:X.mg x=Ž)(hv:Ű x=ž (.type T))(ha:PA X (e::es) t)(hn:x ≠ "__name__":=by decide)(bY:(x==("__debug__":Str))=Ż:=by decide)
  (he:ķ (e::es) X.env=(Ż,Ŭ e X.env)::ķ es X.env:=by rfl) (cq:(Γ pos<|ķ es X.env).any (·.1)=Ż:=by rfl):PE X (.Call (.Name x p) (e::es) [] pos) (sP r t):=by
 intro pins s σ H Q I h;refine Ϙ<|wz I hg hm hv ?_ hn bY;exact ë (aJ (ha pos pins s σ H _ I h) λus s1 ⟨vs,H1,I1,r1,q1⟩=>hc pins s1 σ H1 vs us Q I1 r1 q1) he cq
end
end Internal
variable{E:Internal.Qc->Internal.Qd->Prop}{K:Internal.qc}{H:Internal.Hp}{i:Nat}{pins:Internal.Qa (Internal.Qg×Obj)}{α:Type}{n:Nat}{w:Internal.Qh}{A:Internal.Qf}{σ:Internal.St}{es:Array Ϡ}{a:Internal.Qg}{pos:Pos}{prog:Internal.Qe}{pn:Internal.Qa Nat}{Q:Internal.Qc->Internal.Qd->Prop}{js:Internal.Qa Nat}{x:Str}{nt:Nat}{kvs:Internal.Qa (Internal.Qa Internal.Key×Internal.V)}{e:į}{H':Internal.Hp}{r:ě->Int}{v:Internal.V}{j:Nat}{ps:Internal.Qa Str}{mg:Str->Internal.Qb Internal.Qc}{tab:Internal.Qa (Str×Internal.Qa Str)}{h:Į}{fd:ū}{vs:Internal.Qa Internal.V}{b:Int}{te:Internal.TE}{β:Type}{cl:Internal.Qa (Str×Internal.Qg)}{P:Internal.Qe}{f:Str}{st:Ş}{p:Pos}{elts:Internal.Qa į}{ns:Internal.Qa Int}{N:Internal.Qa Str}{o:į}{ep:Nat}{ws:Internal.Qa (Internal.Qa Internal.Key×Internal.V)}{c:Str}{ta:Internal.TE}{us:Internal.Qa Internal.Qc}{scope:a2K}{ah:Array ě}{m:Nat}{T:String}{u:Internal.Qc}{tg:į}{κ:a2J}{av:ģ}{sp:Internal.Sp}{it:Internal.Qg}{uB:Pos}{tv:Internal.TE}{op:CmpOp}{base:Į}{os:OsState}{arr:Array ě}{tb td:Internal.TE}{apos:Pos}{qual:Str}{hi:Nat}{y:Int}{ifs:Internal.Qa į}{dx:Internal.Qg}{h':Į}{name:Str}{pos':Pos}{jU:Array (Internal.Qb Internal.Qc)}{ty:Internal.TE}{tt:Internal.TT}{aA:Internal.Hp}{bp:Pos}{env:Env}{iter:į}{l:Internal.Qa α}{au:Internal.St}{aB:Internal.Hp}{ys:Internal.Qa (Internal.Qa Internal.Key×Internal.Qg×Internal.Qc)}{G:Array a0d->Array a0d->Prop}{outer:Internal.Qa Env}{nn B e':Nat}{value elt:į}{C':Internal.Qg}{as:Internal.Qa α}{ask:Nat->StateT ģ Sem (Internal.Qb Bool)}{rk:Nat->Int}{g7:CmpOp}
namespace HT
open PySem PyProof.Rows
section
variable{prog:a3C} {w:World} {A:Around} {E:Θ->ι->Prop} {s:ι}
def rg{t b:Addr}{vs ws:List Θ}{Q:Θ->ι->Prop}(ht:a2P s.heap t vs.toArray)(hb:a2P s.heap b ws.toArray)(hv:vs≠[])
  (h1:ws=[]->Q (.ref t) s) (h2:ws≠[]->Q (.ref s.heap.objs.size) {s with heap:=s.heap.push {cls:=.type "tuple",data:=.seq (vs++ws).toArray}})
  (hsz:vs.length+ws.length<=Ď):Č (Đ prog w) A (Ů .Add (.ref t)<|.ref b) Q E s:=by
 obtain⟨⟨cls,dd,data,sl⟩,ho,hc,n,hd⟩:=id ht;obtain⟨⟨Bm,vk,data2,pA⟩,u4,A6,n2,hd2⟩:=id hb;simp only at hc hd A6 hd2;subst hc hd A6 hd2;have e:vs.toArray++ws.toArray=(vs++ws).toArray:=by simp
 by_cases hw:ws=[]
 .exact a2F ⟨_,ho,rfl⟩ ⟨_,u4,rfl⟩ a3e a4u a0F a0r (a0l _ _)
   (tuple_addW1 t b vs.toArray ws.toArray n n2 dd vk sl pA (by simpa using hv) (by simp[hw])) ⟨ho,u4,h1 hw⟩
 .refine a2F ⟨_,ho,rfl⟩ ⟨_,u4,rfl⟩ a3e a4u a0F a0r (a0l _ _)
   (tuple_addW2 t b vs.toArray ws.toArray n n2 dd vk sl pA (by simpa using hv) (by simpa using hw) (by rw[ē,ē];exact hsz)) ⟨ho,u4,?_⟩
  rw[e];exact h2 hw
noncomputable def aY(n d:Nat):Option Int->Nat
 |none=>d
 |some v=>if v < 0 then(v+(n:Int)).toNat else min v.toNat n
def VP(n d:Nat)(hd:d<=n)(o:Option Int):aY n d o<=n:=by
 cases o with
 |none=>exact hd
 |some v=>
  show(if v < 0 then(v+(n:Int)).toNat else min v.toNat n)<=n
  by_cases hv:v < 0
  .rw[a5L hv];omega
  .rw[a5M hv];exact Nat.min_le_right _ _
def Oi(v:Int)(n d:Nat):(if v < 0 then max (v+(n:Int)) 0 else min v (n:Int))=((aY n d (ž v):Nat):Int):=by
 show(if v < 0 then max (v+(n:Int)) 0 else min v (n:Int))=(((if v < 0 then(v+(n:Int)).toNat else min v.toNat n):Nat):Int)
 by_cases hv:v < 0
 .simp only[a5L hv];omega
 .simp only[a5M hv];omega
def zma(lo hi:Option Int)(n:Nat):Ψ lo hi 1 (n:Int)=(((aY n 0 lo:Nat):Int),((aY n n hi:Nat):Int)):=by
 have h1:¬((1:Int) < 0):=by omega
 unfold Ψ;simp only[h1,if_false];refine Prod.ext ?_ ?_
 .cases lo with
  |none=>rfl
  |some v=>exact Oi v n 0
 .cases hi with
  |none=>rfl
  |some v=>exact Oi v n n
def zmb(i j:Nat):ϔ (i:Int) (j:Int) 1=j - i:=by
 unfold ϔ;have h1:(1:Int) > 0:=by omega
 simp only[h1,if_true,Int.ediv_one];split<;>omega
def Qy{v:Θ}{o:Option Int}{Q:Option Int->ι->Prop}(p:a1Q v o)(h:Q o s):Č (Đ prog w) A (Builtin.Slice.slicePartIndex v) Q E s:=by
 cases p with
 |none=>exact slicePart_none h
 |int i t=>exact slicePart_int h
def RM{sl:Addr}{vl vu:Θ}{lo hi:Option Int}{n:Nat}{Q:Int×Int×Nat->ι->Prop}(hs:s.heap.IsSliceOf sl vl vu .none)(pl:a1Q vl lo)(pu:a1Q vu hi)
  (h:Q (((aY n 0 lo:Nat):Int),1,aY n n hi - aY n 0 lo) s):Č (Đ prog w) A (a1B (.ref sl)<|pure (n:Int)) Q E s:=by
 have(os,uY,EH,A1):=id hs;unfold a1B Builtin.Slice.sliceFields;refine Ī<|Ī<|ļ uY A1 (x:=vl) rfl<|Ī<|ļ uY A1 (x:=vu) rfl<|Ī<|ļ uY A1 (x:=.none) rfl<|œ ?_;refine Ī<|slicePart_none ?_;show Č _ _ (if((1:Int)==0)=ż then _ else _) _ _ s;rw[a5M (by decide)];refine Ī<|Qy pl<|Ī<|Qy pu<|Ī<|œ ?_;show Č _ _ (match Ψ lo hi 1 (n:Int)with | (lo,hi)=>pure (lo,(1:Int),ϔ lo hi 1)) _ _ s;rw[zma lo hi n];show Č _ _ (pure (((aY n 0 lo:Nat):Int),(1:Int),ϔ ((aY n 0 lo:Nat):Int) ((aY n n hi:Nat):Int) 1)) _ _ s;rw[zmb];exact œ h
def zqF(xs:Array Θ)(i k:Nat):((ĥ k).filterMap λ(m:Nat)=>xs[((i:Int)+(m:Int) * 1).toNat]?).toArray=((xs.toList.drop i).take k).toArray:=by
 have e:(λ(m:Nat)=>xs[((i:Int)+(m:Int) * 1).toNat]?)=λm=>xs[i+m]?:=by
  funext m
  have:((i:Int)+(m:Int) * 1).toNat=i+m:=by omega
  rw[this]
 rw[e];have:=pick_run xs i k;rw[List.filterMap_map]at this;have e2:((λx=>xs[x]?) ∘ λx=>i+x)=λm=>xs[i+m]?:=rfl;rw[e2]at this;rw[this]
def eD{t sl:Addr}{items:Array Θ}{vl vu:Θ}{lo hi:Option Int}{Q:Θ->ι->Prop}(ht:a2P s.heap t items)(hs:s.heap.IsSliceOf sl vl vu .none)(pl:a1Q vl lo)(pu:a1Q vu hi)
  (hw:¬(aY items.size 0 lo=0/\aY items.size items.size hi=items.size))
  (h:Q (.ref s.heap.objs.size) {s with heap:=s.heap.push {cls:=.type "tuple",data:=.seq ((items.toList.drop<|aY items.size 0 lo).take<|aY items.size items.size hi - aY items.size 0 lo).toArray}})
  (hsz:items.size<=Ď):Č (Đ prog w) A (a0Q (.ref t)<|.ref sl) Q E s:=by
 have kW:sizeOk (.seq ((items.toList.drop<|aY items.size 0 lo).take<|aY items.size items.size hi - aY items.size 0 lo).toArray):=by
  show((items.toList.drop<|aY items.size 0 lo).take<|aY items.size items.size hi - aY items.size 0 lo).toArray.size<=Ď;rw[ē,Ŀ,ť,Ġ];omega
 have hj:aY items.size items.size hi<=items.size:=VP _ _ (Nat.le_refl _) hi;have(os,uY,EH,A1):=id hs;have Ko:s.TypeIs (.ref sl) "slice":=⟨os,uY,EH⟩;unfold a0Q
 try with_reducible refine Ŋ ?_
 first|refine Ī (œ ?_) |skip
 refine Ī<|wpAny_sequenceKey ht.typeIs (by decide) ?_;refine Ī (ő (name:=ŧ "__getitem__") ht.typeIs ű
  (ĸ ű ht.typeIs entry_tuple_getitem ?_<|args_tuple_getitem _ _))
 show Č _ _ (Λ (.ref t) >>= _) _ _ s;refine Ī<|tupleItemsOf_ ht ?_;refine Ī<|a2D Ko ?_;rw[a5L (by decide)];refine Ī<|RM hs pl pu ?_;have JY:¬((((aY items.size 0 lo:Nat):Int)==0 && (1:Int)==1 && (aY items.size items.size hi - aY items.size 0 lo)==items.size)=ż):=by
  intro q;rw[ĩ,ĩ]at q;have q1:((aY items.size 0 lo:Nat):Int)=0:=eq_of_beq q.1.1;have q2:aY items.size items.size hi - aY items.size 0 lo=items.size:=eq_of_beq q.2;exact hw ⟨by omega,by omega⟩
 show Č _ _ (if(((aY items.size 0 lo:Nat):Int)==0 && (1:Int)==1 && (aY items.size items.size hi - aY items.size 0 lo)==items.size)=ż then _ else _) _ _ s;rw[a5M JY,zqF]
 first
  |exact Ī (m:=Ϛ _)<|Ρ (œ ⟨_,rfl,œ h⟩) kW
  |exact Ī (m:=Ϛ _)<|Ρ (Ī<|œ<|œ ⟨_,rfl,œ h⟩) kW
  |exact Ī<|Ī (m:=Ϛ _)<|Ρ (œ<|œ ⟨_,rfl,œ h⟩) kW
  |exact Ī<|Ī (m:=Ϛ _)<|Ρ (œ ⟨_,rfl,œ h⟩) kW
end
end HT
namespace Internal
open PySem PySem.Spec PyProof.Rows
abbrev TO:=St->Hp->(Qb Int->Hp->Prop)->Prop
def PO(X:Cx)(e:Qb į)(t:TO):Prop :=
 ∀(pins:Qa (Qg×Obj)) (s:Qd) (σ:St) (H:Hp) (Q:Qb Int->Hp->Prop),Inv X pins σ H s->t σ H Q->
  Č (Đ X.prog X.w) X.A (evalPart e X.env) (λu s'=>∃o H',Inv X pins σ H' s'/\a1Q u o/\Q o H') X.xe s
def Hu:TO:=λ_ H Q=>Q Ž H
def GK(t:TE):TO:=λσ H Q=>t σ H λx H1=>∃i,x=.int i/\Q (ž i) H1
def Qx:∀{us:Qa Qc},zY (ns.map V.int) us->a0a us ns:=by
 induction ns with
 |nil=>intro us r;rw[Œ]at r;cases r;exact .nil
 |cons n ns ih=>
  intro us r;rw[Ē]at r;cases r with
  |cons r1 r2=>
   have(t,e):=r1;subst e;exact .cons n t<|ih r2
section
variable{X:Cx}{lo hi:Qb į}{tl th:TO}{p2:Pos}
def Zp:PO X Ž Hu:=by
 intro pins s σ H Q I h;rw[evalPart_none];exact qb ⟨Ž,H,I,.none,h⟩
def Zo(h:PE X e te):PO X (ž e) (GK te):=by
 intro pins s σ H Q I hw;rw[evalPart_some];refine aJ (h pins s σ H _ I hw) λu s1 hZ=>?_;have(x,H1,I1,r1,q1):=hZ;have(i,rfl,q):=q1;have(t,rfl):=r1;exact⟨ž i,H1,I1,.int i t,q⟩
def xB(X:Cx)(r:V->Qb Int->Qb Int->Hp->VK->Prop):Prop :=
 ∀(pins:Qa (Qg×Obj)) (s:Qd) (σ:St) (H:Hp) (x:V) (v vl vu:Qc) (lo hi:Qb Int) (sl:Qg) (Q:VK),Inv X pins σ H s->aP x v->s.heap.IsSliceOf sl vl vu .none->a1Q vl lo->a1Q vu hi->r x lo hi H Q->
  ∃T id,a3I (.type T) "__getitem__"=pure (ž<|.builtin id)/\s.TypeIs v T/\Č (Đ X.prog X.w) X.A (a0Q v<|.ref sl) (EP X pins σ Q) X.xe s
def IW(r:V->Qb Int->Qb Int->Hp->VK->Prop)(te:TE)(tl th:TO):TE:=λσ H Q=>te σ H λx H1=>tl σ H1 λl H2=>th σ H2 λu H3=>r x l u H3 Q
def zqH{r:V->Qb Int->Qb Int->Hp->VK->Prop}(hr:xB X r)(he:PE X e te)(hl:PO X lo tl)(hu:PO X hi th):PE X (.Subscript e (.Slice lo hi Ž p2) pos) (IW r te tl th):=by
 intro pins s σ H Q I h;refine Subscript_<|aJ (he pins s σ H _ I h) λv s1 hZ=>?_;have(x,H1,I1,r1,q1):=hZ;refine wpAny_Slice<|aJ (hl pins s1 σ H1 _ I1 q1) λvl s2 ⟨l,H2,I2,pl,q2⟩=>aJ (hu pins s2 σ H2 _ I2 q2) λvu s3 hZ=>?_;have(u,H3,I3,pu,q3):=hZ;rw[evalPart_none];refine qb ?_;have I4:Inv X pins σ H3 {s3 with heap:=s3.heap.push {cls:=.type "slice",data:=.fields #[vl,vu,.none]}}:=I3.kept (t':=s3.toks) λb ob q=>qd _ q;have(T,id,hT,ht,hg):=hr pins {s3 with heap:=s3.heap.push {cls:=.type "slice",data:=.fields #[vl,vu,.none]}} σ H3 x v vl vu l u s3.heap.objs.size Q I4 r1 (Heap.IsSliceOf.new ..) pl pu q3;show Č (Đ X.prog X.w) X.A (a4t e (.Slice lo hi Ž p2) v<|.ref s3.heap.objs.size) (EP X pins σ Q) X.xe {s3 with heap:=s3.heap.push {cls:=.type "slice",data:=.fields #[vl,vu,.none]}};exact tail_any (ops:=[.ref s3.heap.objs.size,v]) ht hT hg (by with_unfolding_all rfl)
def mR(xs:Qa V)(lo hi:Qb Int):Qa V:=(xs.drop<|HT.aY xs.length 0 lo).take (HT.aY xs.length xs.length hi - HT.aY xs.length 0 lo)
def QD(xs:Qa V)(lo hi:Qb Int):(mR xs lo hi).length<=xs.length:=by
 unfold mR;rw[Ŀ,ť];omega
def zCQ(K:qc):V->Qb Int->Qb Int->Hp->VK->Prop:=λx lo hi H Q=>∃a xs,x=.ref a/\bT K H a xs/\
 ¬(HT.aY xs.length 0 lo=0/\HT.aY xs.length xs.length hi=xs.length)/\∀p,H p=Ž->Q (.ref p) (upd H p<|.tup<|mR xs lo hi)
def Wm:xB X (zCQ X.K):=by
 intro pins s σ H x v vl vu lo hi sl Q I rx hs pl pu h;have(a,xs,rfl,hx,hw,q):=h;cases rx;have(aq,r,ht,hz):=I.tuple hx;have hlen:aq.toArray.size=xs.length:=by rw[ē];exact r.length.symm
 refine⟨"tuple",_,PyProof.Rows.slot_tuple_getitem.lookup,ht.typeIs,?_⟩;refine HT.eD ht hs pl pu (by rw[hlen];exact hw) ?_ (by rw[hlen];exact hz);rw[hlen];refine⟨.ref s.heap.objs.size,_,I.laid (t':=s.toks) (o:=.tup (mR xs lo hi)) (λb ob q=>qd _ q) (qe _) ?_,rfl,q _<|I.aC.fresh<|qe _⟩;exact⟨qx (QD xs lo hi) hz,_,(r.drop<|HT.aY xs.length 0 lo).take<|HT.aY xs.length xs.length hi - HT.aY xs.length 0 lo,oX.new _ _⟩
def GJ(K:qc):R2:=λx y H Q=>∃a b xs ys,x=.ref a/\y=.ref b/\bT K H a xs/\bT K H b ys/\xs≠[]/\xs.length+ys.length<=Ď/\
 (ys=[]->Q (.ref a) H)/\(ys≠[]->∀p,H p=Ž->Q (.ref p) (upd H p<|.tup<|xs++ys))
def zY.iu{xs:Qa V}(r:zY xs us):us=[]↔xs=[]:=by
 cases r with
 |nil=>simp
 |cons _ _=>simp
def Zn:bF X (Ů .Add) (GJ X.K):=by
 intro pins s σ H x y v u Q I rx ry h;have(a,b,xs,ys,rfl,rfl,ha,hb,hx,hz,q1,q2):=h;cases rx;cases ry;have(aq,r1,p1,_):=I.tuple ha;have(gQ,r2,p2,_):=I.tuple hb;refine HT.rg p1 p2 (λz=>hx<|r1.iu.mp z) (λz=>⟨.ref a,H,I,rfl,q1<|r2.iu.mp z⟩) (λz=>?_) (by rw[<-r1.length,<-r2.length];exact hz);refine⟨.ref s.heap.objs.size,_,I.laid (t':=s.toks) (o:=.tup (xs++ys)) (λb ob q=>qd _ q) (qe _) ?_,rfl,q2 (λw=>z<|r2.iu.mpr w) _<|I.aC.fresh<|qe _⟩;exact⟨by rw[qr];exact hz,_,r1.append r2,oX.new _ _⟩
end
noncomputable def eV(n:Nat)(i:Int):Qb Nat:=if 0<=i then(if i < n then ž i.toNat else Ž)else if -(n:Int)<=i then ž (i+n).toNat else Ž
def bA(xs:Qa α)(i:Int):Qb α:=(eV xs.length i).bind λj=>xs[j]?
def Oh{i:Int}(h:eV n i=ž j):seqIndex? i n=ž j/\j < n/\-(n:Int)<=i/\i < n:=by
 unfold eV at h
 by_cases h0:0<=i
 .rw[a5L h0]at h
  by_cases h1:i < n
  .rw[a5L h1]at h
   have e:i.toNat=j:=qw h;exact⟨by rw[seqIndex_of h0 h1,e],by omega,by omega,h1⟩
  .rw[a5M h1]at h;cases h
 .rw[a5M h0]at h
  by_cases h1:-(n:Int)<=i
  .rw[a5L h1]at h
   have e:(i+n).toNat=j:=qw h;exact⟨by rw[a4U (by omega) h1,e],by omega,h1,by omega⟩
  .rw[a5M h1]at h;cases h
def Ht{xs:Qa α}{i:Int}{v:α}(h:bA xs i=ž v):∃j,seqIndex? i xs.length=ž j/\xs[j]?=ž v/\j < xs.length/\-(xs.length:Int)<=i/\i < xs.length:=by
 unfold bA at h;cases e:eV xs.length i with
 |none=>rw[e]at h;cases h
 |some j=>
  rw[e]at h;have(h1,h2,h3,h4):=Oh e;exact⟨j,h1,h,h2,h3,h4⟩
def yF{xs:Qa α}{v:α}(h:xs[j]?=ž v):bA xs (j:Int)=ž v:=by
 have hj:j < xs.length:=(qk.mp h).1;have e:eV xs.length (j:Int)=ž j:=by
  unfold eV;rw[a5L (by omega),a5L (by omega)];simp
 unfold bA;rw[e];exact h
def Og(b:į):Prop:=∀o i,a3l b Ż o i=operate [o,i] (a0Q o i)
def vv(X:Cx)(r:R2):Prop :=
 ∀(value slice:į) (pins:Qa (Qg×Obj)) (s:Qd) (σ:St) (H:Hp) (x y:V) (v u:Qc) (Q:VK),Inv X pins σ H s->aP x v->aP y u->r x y H Q->
  a3l slice Ż v u=operate [v,u] (a0Q v u)->Č (Đ X.prog X.w) X.A (a4t value slice v u) (EP X pins σ Q) X.xe s
def UK(X:Cx)(id:String)(r:V->Qa V->Hp->VK->Prop):Prop :=
 ∀(pins:Qa (Qg×Obj)) (s:Qd) (σ:St) (H:Hp) (x:V) (xs:Qa V) (v:Qc) (us:Qa Qc) (Q:VK),Inv X pins σ H s->aP x v->zY xs us->r x xs H Q->
  Č (Đ X.prog X.w) X.A (call (.builtin id)<|v::us) (EP X pins σ Q) X.xe s
section
variable{X:Cx}{a b:į}
def zAK{r:R2}(hr:vv X r)(ha:PE X a ta)(hb:PE X b tb)(hs:Og b):PE X (.Subscript a b pos) (pf r ta tb):=by
 intro pins s σ H Q I h;exact Subscript_<|FC ha hb I h λv u s2 x y H2 I2 rx ry q=>hr a b pins s2 σ H2 x y v u Q I2 rx ry q<|hs _ _
def F4(K:qc):R2:=λx y H Q=>∃p xs i v,x=.ref p/\y=.int i/\bZ K H p xs/\bA xs i=ž v/\Q v H
def F3(K:qc):R2:=λx y H Q=>∃p xs i v,x=.ref p/\y=.int i/\bT K H p xs/\bA xs i=ž v/\Q v H
def SG:R2:=λx y H Q=>∃z i c,x=.str z/\y=.int i/\z.length<=Ď/\bA z.cps.toList i=ž c/\Q (.str ⟨#[c]⟩) H
def Zm:vv X (F4 X.K):=by
 intro value slice pins s σ H x y v u Q I rx ry h hs;have(p,xs,i,z,rfl,rfl,hq,he,q):=h;cases rx;have(t,rfl):=ry;have(aq,r,pl,hz):=I.list hq;have(j,h1,h2,h3,h4,h5):=Ht he;have(w,ew,lU):=r.get h2;have hl:=r.length;have hn:=wy;have fin:EP X pins σ Q w s:=⟨z,H,I,lU,q⟩
 by_cases h0:0<=i
 .have hj:i.toNat=j:=by
   rw[seqIndex_of h0 h5]at h1;exact qw h1
  exact item_listR pl.isList h0 (by omega) (by rw[hj];simpa using ew) fin hs
 .have hj:(i+(aq.toArray.size:Int)).toNat=j:=by
   rw[a4U (by omega) h4]at h1;rw[ē,<-hl];exact qw h1
  exact a4T (x:=w) pl.isList.typeIs slot_list_getitem.lookup
   (wpAny_getItem_list_neg (Q:=λr s'=>r=w/\EP X pins σ Q r s') pl.isList (by omega) (by rw[ē]<;>omega) (by omega) (by rw[hj];simpa using ew) ⟨rfl,fin⟩) hs
def Wl:vv X (F3 X.K):=by
 intro value slice pins s σ H x y v u Q I rx ry h hs;have(p,xs,i,z,rfl,rfl,hq,he,q):=h;cases rx;have(t,rfl):=ry;have(aq,r,pl,hz):=I.tuple hq;have(j,h1,h2,h3,h4,h5):=Ht he;have(w,ew,lU):=r.get h2;have hl:=r.length;have hn:=wy;have fin:EP X pins σ Q w s:=⟨z,H,I,lU,q⟩;exact a4T (x:=w) pl.typeIs slot_tuple_getitem.lookup
  (getItem_tuple (j:=j) (Q:=λr s'=>r=w/\EP X pins σ Q r s') pl (by omega) (by omega) (by rw[ē,<-hl];exact h1) (by simpa using ew) ⟨rfl,fin⟩) hs
def G5:vv X SG:=by
 intro value slice pins s σ H x y v u Q I rx ry h hs;have(z,i,c,rfl,rfl,hz,he,q):=h;have(t,rfl):=rx;have(t',rfl):=ry;have(j,h1,h2,h3,h4,h5):=Ht he;have hl:z.cps.toList.length=z.length:=by simp[Str.length]
 rw[hl]at h1 h4 h5;have hn:=wy;exact tail_any (typeIs_str s z t) slot_str_getitem.lookup (getItem_str (c:=c) (by
  have e1:decide (i < -(2^63:Int))=Ż:=a5O (by omega);have e2:decide (i>=2^63)=Ż:=a5O (by omega);rw[e1,e2,Bool.or_false]) (by rw[h1];simpa using h2) ⟨.str ⟨#[c]⟩,H,I.tok _,⟨_,rfl⟩,q⟩) hs
def zmd(aq:Qa Qc)(n j:Nat)(u:Qc):Ų (·.setIfInBounds j u) {cls:=.type "list",data:=.seq aq.toArray n}={cls:=.type "list",data:=.seq (aq.set j u).toArray n}:=by
 simp[Ų]
def Inv.lst{s:Qd}{p:Qg}{xs:Qa V}(I:Inv X pins σ H s)(h:H p=ž (.lst xs)):
  ∃(aq:Qa Qc) (n:Nat),zY xs aq/\s.heap.get? p=ž {cls:=.type "list",data:=.seq aq.toArray n}/\xs.length<=Ď:=by
 have(z,aq,n,r,e):=I.aC p _ h;exact⟨aq,n,r,e,z⟩
def Inv.uQ{s:Qd}{p:Qg}{xs ys:Qa V}{aq its':Qa Qc}{n':Nat}{f:Obj->Obj}(I:Inv X pins σ H s)(h:H p=ž (.lst xs))
  (ho:s.heap.get? p=ž {cls:=.type "list",data:=.seq aq.toArray n}) (hf:f {cls:=.type "list",data:=.seq aq.toArray n}={cls:=.type "list",data:=.seq its'.toArray n'}) (r:zY ys its') (hz:ys.length<=Ď) (t:Nat):
  Inv X pins σ (upd H p<|.lst ys) {s with heap:=s.heap.update p f,toks:=t}:=by
 have e:(s.heap.update p f).get? p=ž {cls:=.type "list",data:=.seq its'.toArray n'}:=by
  rw[Heap.get?_update_self f ho (by rw[hf]<;>rfl),hf]
 refine I.write (x:=p) (e:=p) (by rw[h];trivial) (.inl rfl) (λb u hb q=>(Ì _ _<|ĭ hb).trans q) ⟨_,e⟩ ?_;exact⟨hz,its',n',r,e⟩
def L0:V->V->V->Hp->(Hp->Prop)->Prop:=λo i v H Q=>∃p xs k j,o=.ref p/\i=.int k/\H p=ž (.lst xs)/\eV xs.length k=ž j/\Q (upd H p<|.lst<|xs.set j v)
def DB:FJ X L0:=by
 intro pins s σ H o i v ov iv u Q I ro ri rv h;have(p,xs,k,j,rfl,rfl,hp,hj,q):=h;cases ro;have(t,rfl):=ri;have(aq,n,r,ho,hz):=I.lst hp;have(h1,h2,h3,h4):=Oh hj;have hl:=r.length;have hn:=wy;have I':Inv X pins σ (upd H p<|.lst<|xs.set j v) {s with heap:=s.heap.update p (Ų (·.setIfInBounds j u))}:=
  I.uQ hp ho (zmd aq n j u) (r.set rv j) (by rw[ī];exact hz) s.toks
 by_cases h0:0<=k
 .have hk:k.toNat=j:=by
   rw[seqIndex_of h0 h4]at h1;exact qw h1
  exact PySem.W.ki_setAt ho h0 (by omega) (by rw[ē,<-hl];exact h4) (by rw[hk];exact⟨_,I',q⟩)
 .have hk:(k+(aq.toArray.size:Int)).toNat=j:=by
   rw[a4U (by omega) h3]at h1;rw[ē,<-hl];exact qw h1
  exact PySem.W.ki_setBack ho (by omega) (by rw[ē,<-hl];exact h3) (by omega) (by rw[hk];exact⟨_,I',q⟩)
def zjm(lo hi:Qb Int)(n:Nat):(a0b lo hi Ž n).1=((HT.aY n 0 lo:Nat):Int)/\(a0b lo hi Ž n).2.1=((HT.aY n n hi:Nat):Int)/\(a0b lo hi Ž n).2.2=1:=by
 refine⟨?_,?_,rfl⟩
 .cases lo with
  |none=>simp[a0b,HT.aY]
  |some i=>
   simp only[a0b,HT.aY,a1V,show(1:Int) > 0 by decide,if_true]
   by_cases h:i < 0
   .simp only[h,if_true]<;>omega
   .simp only[h,if_false]<;>omega
 .cases hi with
  |none=>simp[a0b,HT.aY]
  |some i=>
   simp only[a0b,HT.aY,a1V,show(1:Int) > 0 by decide,if_true]
   by_cases h:i < 0
   .simp only[h,if_true]<;>omega
   .simp only[h,if_false]<;>omega
def zin(aq:Qa Qc)(lo hi:Qb Int):slicePick aq.toArray lo hi Ž=((aq.drop<|HT.aY aq.length 0 lo).take<|HT.aY aq.length aq.length hi - HT.aY aq.length 0 lo).toArray:=by
 have(h1,h2,h3):=zjm lo hi aq.toArray.size;unfold slicePick;rw[h1,h2,h3];simp only[sliceRange_one,pick_run,ē]<;>rfl
def F2(K:qc):V->Qb Int->Qb Int->Hp->VK->Prop:=λx lo hi H Q=>∃a xs,x=.ref a/\bZ K H a xs/\∀p,H p=Ž->Q (.ref p) (upd H p<|.lst<|mR xs lo hi)
def Zl:xB X (F2 X.K):=by
 intro pins s σ H x v vl vu lo hi sl Q I rx hs pl pu h;have(a,xs,rfl,hx,q):=h;cases rx;have(aq,r,ht,hz):=I.list hx;have hlen:=r.length;refine⟨"list",_,slot_list_getitem.lookup,ht.isList.typeIs,?_⟩;refine wpAny_getItem_list_slice ht.isList hs pl pu .none (by simp) ?_ (by rw[ē]<;>omega);rw[zin,<-hlen];refine⟨.ref s.heap.objs.size,_,I.laid (t':=s.toks) (o:=.lst (mR xs lo hi)) (λb ob q=>qd _ q) (qe _) ?_,rfl,q _<|I.aC.fresh<|qe _⟩;exact⟨qx (QD xs lo hi) hz,_,0,(r.drop<|HT.aY xs.length 0 lo).take<|HT.aY xs.length xs.length hi - HT.aY xs.length 0 lo,qg _ rfl⟩
noncomputable def oM:V->Bool
 |.aK=>ż
 |.bl _=>ż
 |.int _=>ż
 |.str _=>ż
 |_=>Ż
def tF:V->V->Bool
 |.aK,.aK=>ż
 |.bl a,.bl b=>a==b
 |.bl a,.int b=>(if a then 1 else 0)==b
 |.int a,.bl b=>a==(if b then 1 else 0)
 |.int a,.int b=>a==b
 |.str a,.str b=>a==b
 |_,_=>Ż
def Wj{s:Qd}{y x:V}{v:Qc}(ry:aP y u)(rx:aP x v)(fy:oM y=ż)(fx:oM x=ż):SeqAt.EqAt A s u v (tF y x):=by
 cases y with
 |aK=>
  cases ry;cases x with
  |aK=>cases rx;exact a3P _
  |bl b=>cases rx;exact SeqAt.EqAt.none_bool b
  |int b=>have(t,rfl):=rx;exact SeqAt.EqAt.none_int b t
  |str b=>have(t,rfl):=rx;exact SeqAt.EqAt.none_str b t
  |_=>exact absurd (show Ż=ż from fx) qf
 |bl a=>
  cases ry;cases x with
  |aK=>cases rx;exact SeqAt.EqAt.bool_none a
  |bl b=>cases rx;exact SeqAt.EqAt.bool_bool a b
  |int b=>have(t,rfl):=rx;exact SeqAt.EqAt.bool_int a b t
  |str b=>have(t,rfl):=rx;exact SeqAt.EqAt.bool_str a b t
  |_=>exact absurd (show Ż=ż from fx) qf
 |int a=>
  have(t',rfl):=ry;cases x with
  |aK=>cases rx;exact SeqAt.EqAt.int_none a t'
  |bl b=>cases rx;exact SeqAt.EqAt.int_bool a t' b
  |int b=>have(t,rfl):=rx;exact SeqAt.EqAt.int_int a t' b t
  |str b=>have(t,rfl):=rx;exact a3o a t' b t
  |_=>exact absurd (show Ż=ż from fx) qf
 |str a=>
  have(t',rfl):=ry;cases x with
  |aK=>cases rx;exact SeqAt.EqAt.str_none a t'
  |bl b=>cases rx;exact SeqAt.EqAt.str_bool a t' b
  |int b=>have(t,rfl):=rx;exact a3n a t' b t
  |str b=>have(t,rfl):=rx;exact SeqAt.EqAt.str_str a t' b t
  |_=>exact absurd (show Ż=ż from fx) qf
 |_=>exact absurd (show Ż=ż from fy) qf
def ku(x:V)(u:Qc):Bool:=match u with
 |.none=>tF .aK x
 |.bool b=>tF (.bl b) x
 |.int i _=>tF (.int i) x
 |.str z _=>tF (.str z) x
 |_=>Ż
def Ng{x y:V}(r:aP y u)(f:oM y=ż):ku x u=tF y x:=by
 cases y with
 |aK=>cases r;rfl
 |bl b=>cases r;rfl
 |int i=>have(t,rfl):=r;rfl
 |str z=>have(t,rfl):=r;rfl
 |_=>exact absurd (show Ż=ż from f) qf
def Dp{x:V}{xs:Qa V}(h:zY xs us):xs.all oM=ż->us.any (ku x)=xs.any λy=>tF y x:=by
 induction h with
 |nil=>exact λ_=>rfl
 |cons r _ ih=>
  intro f;rw[Χ,ĩ]at f;rw[ŭ,ŭ,Ng r f.1,ih f.2]
def yX{s:Qd}{x:V}{v:Qc}(rx:aP x v)(fx:oM x=ż):∀{xs:Qa V} {us:Qa Qc},zY xs us->xs.all oM=ż->∀u∈us,SeqAt.EqAt A s u v<|ku x u
 |_,_,.nil,_=>λu hu=>by cases hu
 |y::xs,u::us,.cons r t,f=>λu' hu=>by
  rw[Χ,ĩ]at f;rcases qu.mp hu with rfl|hu
  .rw[Ng r f.1];exact Wj r rx f.1 fx
  .exact yX rx fx t f.2 u' hu
def JF(x:V)(xs:Qa V):Bool:=xs.any λy=>tF y x
def Av(K:qc)(neg:Bool):R2:=λx y H Q=>∃p xs,y=.ref p/\(bZ K H p xs\/bT K H p xs)/\oM x=ż/\xs.all oM=ż/\Q (.bl (if neg then !JF x xs else JF x xs)) H
def zpF:bF X (Ĥ .In) (Av X.K Ż):=by
 intro pins s σ H x y v u Q I rx ry h;have(p,xs,rfl,hq,fx,fs,q):=h;cases ry;rcases hq with hq|hq
 .have(aq,r,pl,hz):=I.list hq
  refine SeqAt.in_listAt (ku x) pl.isList (λw hw=>yX rx fx r fs w (by simpa using hw)) ⟨.bl _,H,I,rfl,?_⟩;rw[show aq.toArray.any (ku x)=aq.any (ku x) by simp,Dp r fs];exact q
 .have(aq,r,pl,hz):=I.tuple hq
  refine SeqAt.in_tupleAt (ku x) pl (λw hw=>yX rx fx r fs w (by simpa using hw)) ⟨.bl _,H,I,rfl,?_⟩;rw[show aq.toArray.any (ku x)=aq.any (ku x) by simp,Dp r fs];exact q
def zjn:bF X (Ĥ .NotIn) (Av X.K ż):=by
 intro pins s σ H x y v u Q I rx ry h;have(p,xs,rfl,hq,fx,fs,q):=h;cases ry;rcases hq with hq|hq
 .have(aq,r,pl,hz):=I.list hq
  refine SeqAt.notIn_listAt (ku x) pl.isList (λw hw=>yX rx fx r fs w (by simpa using hw)) ⟨.bl _,H,I,rfl,?_⟩;rw[show aq.toArray.any (ku x)=aq.any (ku x) by simp,Dp r fs];exact q
 .have(aq,r,pl,hz):=I.tuple hq
  refine SeqAt.notIn_tupleAt (ku x) pl (λw hw=>yX rx fx r fs w (by simpa using hw)) ⟨.bl _,H,I,rfl,?_⟩;rw[show aq.toArray.any (ku x)=aq.any (ku x) by simp,Dp r fs];exact q
def zjo:ik X (.builtin "len") (λxs H Q=>∃p ys,xs=[.ref p]/\(bZ X.K H p ys\/bT X.K H p ys)/\Q (.int ys.length) H):=by
 intro pins s σ H xs us Q I r h;have(p,ys,rfl,hq,q):=h;have(u,rfl,rx):=pW r;cases rx;have hn:=wy;rcases hq with hq|hq
 .have(aq,r',pl,hz):=I.list hq
  have hlen:=r'.length;exact Calls.call_len_list pl.isList (by simp only[ē]<;>omega) ⟨.int ys.length,H,I.tok _,⟨s.toks+1,by rw[ē,hlen]⟩,q⟩
 .have(aq,r',pl,hz):=I.tuple hq
  have hlen:=r'.length;exact len_tuple pl (by simp only[ē]<;>omega) ⟨.int ys.length,H,I.tok _,⟨s.toks+1,by rw[ē,hlen]⟩,q⟩
def zio:ik X (.type "tuple") (λxs H Q=>∃p ys,xs=[.ref p]/\((bZ X.K H p ys/\∀l,H l=Ž->Q (.ref l) (upd H l<|.tup ys))\/(bT X.K H p ys/\Q (.ref p) H))):=by
 intro pins s σ H xs us Q I r h;have(p,ys,rfl,h):=h;have(u,rfl,rx):=pW r;cases rx;rcases h with⟨hq,q⟩|⟨hq,q⟩
 .have(aq,r',pl,hz):=I.list hq
  have hlen:=r'.length;refine call_tuple_list pl.isList (λh' kp=>?_) (by simp only[ē]<;>omega);have I1:Inv X pins σ H {s with heap:=h'}:=I.kept (t':=s.toks) kp;have I2:Inv X pins σ (upd H h'.objs.size<|.tup ys) {s with heap:=h'.push {cls:=.type "tuple",data:=.seq aq.toArray}}:=
   I1.laid (t':=s.toks) (λb o e=>qd _ e) (qe _) (show bV X.prog X.w X.K _ _ _ (.tup ys) from⟨hz,aq,r',oX.new _ _⟩)
  exact⟨.ref h'.objs.size,_,I2,rfl,q _<|I1.aC.fresh<|qe _⟩
 .have(aq,r',pl,hz):=I.tuple hq
  exact call_tuple_same pl ⟨.ref p,H,I,rfl,q⟩
def Al(K:qc)(T:String)(x:V)(H:Hp):Prop:=match x with
 |.str _=>T = "str"
 |.int _=>T = "int"
 |.ref p=>(T = "list"/\∃xs,bZ K H p xs)\/(T = "tuple"/\∃o,K.lookup p=ž o/\o.cls=.type "tuple"/\o.dict=Ž)\/
   (T = "dict"/\((∃kvs,H p=ž (.dK kvs))\/∃kvs,H p=ž (.dT kvs)))\/(T = "set"/\∃S n,H p=ž (.set S n))
 |_=>False
def Nd{s:Qd}{x:V}{v:Qc}(I:Inv X pins σ H s)(r:aP x v)(ty:Al X.K T x H):
  s.TypeIs v T/\∀a,v=.ref a->∃ob,s.heap.get? a=ž ob/\ob.dict=Ž:=by
 cases x with
 |str z=>
  have(t,rfl):=r;cases(show T = "str" from ty);exact⟨typeIs_str s z t,λ_ e=>nomatch e⟩
 |int i=>
  have(t,rfl):=r;cases(show T = "int" from ty);exact⟨typeIs_int s i t,λ_ e=>nomatch e⟩
 |ref p=>
  cases r;rcases ty with⟨rfl,xs,hq⟩|⟨rfl,o,hk,hc,hd⟩|⟨rfl,hk⟩|⟨rfl,S,n,hk⟩
  .have(aq,_,pl,_):=I.list hq
   refine⟨pl.isList.typeIs,λa e=>?_⟩;cases e;have(o,n,e,c,hd,_):=pl;exact⟨o,e,hd⟩
  .refine⟨⟨o,I.bP p o hk,hc⟩,λa e=>?_⟩
   cases e;exact⟨o,I.bP _ o hk,hd⟩
  .have z:∃o,s.heap.get? p=ž o/\o.ExactDict:=by
    rcases hk with⟨kvs,hk⟩|⟨kvs,hk⟩
    .have(_,_,_,_,o,_,_,e,ex,_):=I.aC p _ hk
     exact⟨o,e,ex⟩
    .have(_,_,_,_,o,_,_,e,ex,_):=I.aC p _ hk
     exact⟨o,e,ex⟩
   have(o,e,ex):=z;refine⟨⟨o,e,ex.1⟩,λa e2=>?_⟩;cases e2;exact⟨o,e,ex.2.1⟩
  .have(o,_,_,_,e,ex,_):=I.aC p _ hk
   refine⟨⟨o,e,ex.1⟩,λa e2=>?_⟩;cases e2;exact⟨o,e,ex.2.1⟩
 |_=>exact ō ty
def F0(K:qc)(T:String)(r:V->Qa V->Hp->VK->Prop)(to:TE):TE:=λσ H Q=>to σ H λx H1=>Al K T x H1/\r x [] H1 Q
def Eg(K:qc)(T:String)(r:V->Qa V->Hp->VK->Prop)(to:TE)(t:TA):TE:=λσ H Q=>to σ H λx H1=>Al K T x H1/\t σ H1 λxs H2=>r x xs H2 Q
variable{es:Qa į}{to:TE}{t:TA}{id:String}{r:V->Qa V->Hp->VK->Prop}
def Wi(pa:a3U T)(slot:Slot T name id)(qQ:a3d (.builtin id)=pure (.type "method_descriptor"))(hm:UK X id r)(ho:PE X o to)
  (gq:ϐ o name X.env (Ŭ o X.env)=Ŭ o X.env:=by rfl) (gm:(apos.endLine==bp.line)=ż:=by rfl):PE X (.Call (.Attribute o name apos) [] [] bp) (F0 X.K T r to):=by
 intro pins s σ H Q I h;refine wpAny_Call_method0_late gq gm<|aJ (ho pins s σ H _ I h) λv s1 hZ=>?_;have(x,H1,I1,r1,ty,q1):=hZ;have(h1,h2):=Nd I1 r1 ty;exact⟨T,id,pa,slot,qQ,h1,h2,a0O rfl<|PySem.evalArgs_none<|hm pins s1 σ H1 x [] v [] Q I1 r1 .nil q1⟩
def zAM(pa:a3U T)(slot:Slot T name id)(qQ:a3d (.builtin id)=pure (.type "method_descriptor"))(hm:UK X id r)(ho:PE X o to)(ha:PA X (e::es) t)
  (gq:ϐ o name X.env (Ŭ o X.env)=Ŭ o X.env:=by rfl)
  (u9:((Γ bp<|ķ (e::es) X.env).all (λx=>!x.1) && (backToKw bp<|a3m [] X.env).all (λx=>x.1.isSome)
   && decide ((e::es).length+([]:Qa a1o).length+(if([]:Qa a1o).isEmpty then 0 else 1) < 30))=ż:=by rfl)
  (gm:(apos.endLine==bp.line)=ż:=by rfl) (hs:ķ (e::es) X.env=(Ż,Ŭ e X.env)::ķ es X.env:=by rfl) (uX:(Γ bp<|ķ es X.env).any (·.1)=Ż:=by rfl):
  PE X (.Call (.Attribute o name apos) (e::es) [] bp) (Eg X.K T r to t):=by
 intro pins s σ H Q I h;refine wpAny_Call_method_late gq u9 gm rfl<|aJ (ho pins s σ H _ I h) λv s1 hZ=>?_;have(x,H1,I1,r1,ty,q1):=hZ;have(h1,h2):=Nd I1 r1 ty;refine⟨T,id,pa,slot,qQ,h1,h2,?_⟩;have hA:=ha bp pins s1 σ H1 _ I1 q1;rw[hs]at hA ⊢;refine a0O (by show(Ż || (Γ bp<|ķ es X.env).any (·.1))=Ż;rw[uX]<;>rfl)<|a4b ?_;exact aJ hA λus s2 ⟨vs,H2,I2,r2,q2⟩=>hm pins s2 σ H2 x vs v us Q I2 r1 r2 q2
end
def Bx(X:Cx)(id:String)(r:V->Qa V->Hp->VK->Prop):Prop :=
 ∀(pins:Qa (Qg×Obj)) (s:Qd) (σ:St) (H:Hp) (x:V) (xs:Qa V) (v:Qc) (us:Qa Qc) (Q:VK),Inv X pins σ H s->aP x v->zY xs us->r x xs H Q->
  Č (Đ X.prog X.w) X.A (call (.builtin id)<|v::us) (EP X pins σ Q) X.xe s
def zY.one{x:V}(h:zY [x] us):∃u,us=[u]/\aP x u:=by
 cases h with
 |cons r t=>cases t;exact⟨_,rfl,r⟩
def zY.zero:∀{us:Qa Qc},zY [] us->us=[]
 |_,.nil=>rfl
def zY.dropLast{xs:Qa V}(h:zY xs us):zY xs.dropLast us.dropLast:=by
 induction h with
 |nil=>exact .nil
 |cons r t ih=>
  cases t with
  |nil=>exact .nil
  |cons q t'=>exact .cons r ih
def zY.rep{xs:Qa V}(h:zY xs us):∀k:Nat,zY (č k xs).flatten (č k us).flatten
 |0=>.nil
 |k+1=>by
  rw[Ŕ,Ŕ,ź,ź];exact zY.append h<|zY.rep h k
def zme(l:Qa α):l.eraseIdx (l.length - 1)=l.dropLast:=by
 induction l with
 |nil=>rfl
 |cons a r ih=>
  cases r with
  |nil=>rfl
  |cons b r=>
   have e:(a::b::r).length - 1=((b::r).length - 1)+1:=by
    have h1:(a::b::r).length=r.length+2:=rfl;have h2:(b::r).length=r.length+1:=rfl;omega
   rw[e,List.eraseIdx_cons_succ,ih]
   all_goals rfl
def Qn(aq:Qa Qc):∀(k:Nat) (acc:Qa Qc),
  a1G (λx1 x2=>x1++x2) acc.toArray (č k aq.toArray)=(acc++(č k aq).flatten).toArray
 |0,acc=>by simp
 |k+1,acc=>by
  have e:acc.toArray++aq.toArray=(acc++aq).toArray:=by simp
  have e2:(acc++aq)++(č k aq).flatten=acc++(č (k+1) aq).flatten:=by
   rw[Ŕ,ź,Ķ]
  rw[<-e2,<-Qn aq k (acc++aq),<-e,Ŕ,List.foldl_cons]
section
variable{X:Cx}{s:Qd}{l b:Qg}{xs ys zs:Qa V}
def Inv.AI{aq its':Qa Qc}{f:Array Qc->Array Qc}{t':Nat}(I:Inv X pins σ H s)(hH:H l=ž (.lst xs))
  (e:s.heap.get? l=ž {cls:=.type "list",data:=.seq aq.toArray n}) (hf:f aq.toArray=its'.toArray) (hv:zY ys its') (hz:ys.length<=Ď):
  Inv X pins σ (upd H l<|.lst ys) {s with heap:=s.heap.update l (Ų f),toks:=t'}:=by
 have q:=a3T e f;rw[hf]at q;refine I.write (x:=l) (e:=l) (by rw[hH];exact trivial) (.inl rfl) (λb' u hb hu=>(Ì s.heap (Ų f)<|ĭ hb).trans hu) ⟨_,q⟩ ?_;exact⟨hz,its',_,hv,q⟩
def Inv.Ju{aq:Qa Qc}{t':Nat}(I:Inv X pins σ H s)(hv:zY ys aq)(hz:ys.length<=Ď):
  Inv X pins σ (upd H s.heap.objs.size<|.lst ys) {s with heap:=s.heap.push {cls:=.type "list",data:=.seq aq.toArray},toks:=t'}:=
 I.laid (λ_ _ q=>qd _ q) (qe _) ⟨hz,aq,0,hv,qg _ rfl⟩
def Inv.fresh(I:Inv X pins σ H s):H s.heap.objs.size=Ž:=I.aC.fresh (qe _)
def Inv.AH(I:Inv X pins σ H s)(hH:H l=ž (.lst xs)):xs.length<=Ď/\∃(aq:Qa Qc) (n:Nat),zY xs aq/\xs.length=aq.length/\s.heap.get? l=ž {cls:=.type "list",data:=.seq aq.toArray n}:=by
 have(z,aq,n,r,e):=I.aC l _ hH;exact⟨z,aq,n,r,r.length,e⟩
end
section
variable{X:Cx}
def Of:V->Qa V->Hp->VK->Prop:=λx vs H Q=>∃l xs y,x=.ref l/\vs=[y]/\H l=ž (.lst xs)/\xs.length < Ď/\Q .aK (upd H l<|.lst<|xs++[y])
def gD:Bx X "list.append" Of:=by
 intro pins s σ H x vs v us Q I rx rv h;have(l,xs,y,rfl,rfl,hH,hz,q):=h;cases rx;have(u,rfl,ru):=rv.one;have(z,aq,n,r,hl,e):=I.AH hH;refine a0D a5K ⟨_,e,rfl⟩ a5v (a5a _ _) (a4K l aq.toArray n u (by rw[ē];omega)) ⟨e,?_⟩;refine⟨.aK,_,I.AI (its':=aq++[u]) hH e (by simp) (r.append<|.cons ru .nil) ?_,rfl,q⟩;rw[qr,ţ];omega
def SE:V->Qa V->Hp->VK->Prop:=λx vs H Q=>∃l xs y,x=.ref l/\vs=[]/\H l=ž (.lst xs)/\xs[xs.length - 1]?=ž y/\Q y (upd H l<|.lst xs.dropLast)
def Wh:Bx X "list.pop" SE:=by
 intro pins s σ H x vs v us Q I rx rv h;have(l,xs,y,rfl,rfl,hH,hy,q):=h;cases rx;have hus:=rv.zero;subst hus;have(z,aq,n,r,hl,e):=I.AH hH;have(u,hu,ru):=r.get hy;have wZ:aq.toArray[aq.toArray.size - 1]?=ž u:=by
  show aq.toArray[aq.length - 1]?=ž u;rw[<-ů,<-hl];exact hu
 refine a0D F.slot_list_pop ⟨_,e,rfl⟩ F.entry_list_pop (F.args_list_pop_1 _) (MeetsSeq.list_pop_last l aq.toArray n u wZ (by rw[ē];omega)) ⟨e,?_⟩;refine⟨y,_,I.AI (its':=aq.dropLast) hH e ?_ r.dropLast ?_,ru,q⟩
 .show aq.toArray.eraseIdxIfInBounds (aq.toArray.size - 1)=aq.dropLast.toArray
  rw[ē,List.eraseIdxIfInBounds_toArray,zme]
 .rw[List.length_dropLast]
  omega
def Oe(xs:Qa α)(k:Nat):(č k xs).flatten.length=k * xs.length:=by
 induction k with
 |zero=>simp
 |succ k ih=>rw[Ŕ,ź,qr,ih,Nat.succ_mul,a3X]
end
section
variable{κ:Type}[DecidableEq κ]
noncomputable def jq(kvs:Qa (κ×V))(k:κ):Qb V:=(kvs.find? λkv=>decide<|kv.1=k).map (·.2)
noncomputable def jo(kvs:Qa (κ×V))(k:κ)(v:V):Qa (κ×V):=
 if(kvs.any λkv=>decide<|kv.1=k)=ż then kvs.map (λkv=>if kv.1=k then(kv.1,v)else kv)else kvs++[(k,v)]
def HM{p:κ×V}{r:Qa (κ×V)}{k:κ}(e:p.1=k):jq (p::r) k=ž p.2:=by simp[jq,ħ,e]
def HL{p:κ×V}{r:Qa (κ×V)}{k:κ}(e:¬p.1=k):jq (p::r) k=jq r k:=by simp[jq,ħ,e]
def Pj(k:κ):∀kvs:Qa (κ×V),(kvs.any λkv=>decide<|kv.1=k)=(jq kvs k).isSome
 |[]=>rfl
 |p::r=>by
  rw[ŭ]
  by_cases e:p.1=k
  .simp only[HM e,a5N e,Bool.true_or,a4i]
  .rw[HL e,a5O e,a0A];exact Pj k r
def QC(kvs:Qa (κ×V))(k:κ)(v:V):(jo kvs k v).length<=kvs.length+1:=by
 unfold jo;split
 .rw[ċ];omega
 .rw[qr,qt,Ő];omega
def jI.l8{o:Qb V}{u:Qb Qc}(r:jI o u):o.isSome=u.isSome:=by
 cases o with
 |none=>cases u with
  |none=>rfl
  |some _=>exact(show False from r).elim
 |some _=>cases u with
  |none=>exact(show False from r).elim
  |some _=>rfl
def jI.getD{o:Qb V}{u:Qb Qc}{d:V}{d':Qc}(r:jI o u)(rd:aP d d'):aP (o.getD d) (u.getD d'):=by
 cases o with
 |none=>cases u with
  |none=>exact rd
  |some _=>exact(show False from r).elim
 |some _=>cases u with
  |none=>exact(show False from r).elim
  |some _=>exact r
def KV.val{kvs:Qa (κ×V)}{vs:Qa (κ×Qc)}(r:KV kvs vs)(k:κ):jI (jq kvs k) (a2E vs k):=by
 unfold KV at r
 induction r with
 |nil=>exact Ϟ
 | @cons p q ps qs h t ih=>
  have(h1,h2):=h
  by_cases e:p.1=k
  .have e':q.1=k:=h1.symm.trans e
   have b:a2E (q::qs) k=ž q.2:=by simp[a2E,ħ,e']
   rw[HM e,b];exact h2
  .have e':¬q.1=k:=λz=>e<|h1.trans z
   have b:a2E (q::qs) k=a2E qs k:=by simp[a2E,ħ,e']
   rw[HL e,b];exact ih
def KV.any{kvs:Qa (κ×V)}{vs:Qa (κ×Qc)}(r:KV kvs vs)(k:κ):(kvs.any λkv=>decide<|kv.1=k)=vs.any λkv=>decide (kv.1=k):=by
 unfold KV at r
 induction r with
 |nil=>rfl
 |cons h t ih=>rw[ŭ,ŭ,ih,h.1]
def KV.nP{kvs:Qa (κ×V)}{vs:Qa (κ×Qc)}(r:KV kvs vs)(k:κ){y:V}(ry:aP y u):
  KV (kvs.map λkv=>if kv.1=k then(kv.1,y)else kv) (vs.map λkv=>if kv.1=k then(kv.1,u)else kv):=by
 unfold KV at r ⊢
 induction r with
 |nil=>exact .nil
 | @cons p q ps qs h t ih=>
  rw[Ē,Ē];refine .cons ?_ ih;have(h1,h2):=h
  by_cases e:p.1=k
  .rw[a5L e,a5L<|h1.symm.trans e];exact⟨h1,ry⟩
  .rw[a5M e,a5M λz=>e<|h1.trans z];exact⟨h1,h2⟩
def KV.put{kvs:Qa (κ×V)}{vs:Qa (κ×Qc)}(r:KV kvs vs)(k:κ){y:V}(ry:aP y u):KV (jo kvs k y) (stored vs k u):=by
 unfold jo stored;rw[r.any k]
 by_cases e:(vs.any λkv=>decide<|kv.1=k)=ż
 .rw[a5L e,a5L e];exact r.nP k ry
 .rw[a5M e,a5M e];exact a3E r ⟨rfl,ry⟩
def KV.length{kvs:Qa (κ×V)}{vs:Qa (κ×Qc)}(r:KV kvs vs):kvs.length=vs.length:=a0p r
end
def Cm{k:Key}(r:aP (kV k) u):(dq P w).is k u=ż:=by
 cases k with
 |inl i=>have(t,e):=(show ∃t,u=a0E i t from r);subst e;exact zkq P w i t
 |inr x=>have(t,e):=(show ∃t,u=a2a x t from r);subst e;exact zkr P w x t
def Ip:∀{ks:Qa Key} {us:Qa Qc},zY (ks.map kV) us->ItemsAre (dq P w) ks us
 |[],_,r=>by rw[Œ]at r;cases r;exact .nil
 |k::ks,_,r=>by
  rw[Ē]at r;cases r with
  |cons h t=>exact .cons (Cm h)<|Ip t
abbrev KT(K:qc)(H:Hp):Qa (Qa Key×V)->Qa (Qa Key×Qg×Qc)->Prop:=ϫ λp q=>p.1=q.1/\bg K H q.2.1 (p.1.map kV)/\aP p.2 q.2.2
def KT.val{xs:Qa (Qa Key×Qg×Qc)}(r:KT K H kvs xs)(k:Qa Key):jI (jq kvs k) ((atKey xs k).map (·.2)):=by
 induction r with
 |nil=>exact Ϟ
 | @cons p q ps qs h t ih=>
  have(h1,_,h2):=h
  by_cases e:p.1=k
  .have e':q.1=k:=h1.symm.trans e
   have b:atKey (q::qs) k=ž q.2:=by simp[atKey,ħ,e']
   rw[HM e,b];exact h2
  .have e':¬q.1=k:=λz=>e<|h1.trans z
   have b:atKey (q::qs) k=atKey qs k:=by simp[atKey,ħ,e']
   rw[HL e,b];exact ih
def KT.nP{xs:Qa (Qa Key×Qg×Qc)}(r:KT K H kvs xs)(k:Qa Key){y:V}(ry:aP y u):
  KT K H (kvs.map λkv=>if kv.1=k then(kv.1,y)else kv) (xs.map<|putAt k u):=by
 induction r with
 |nil=>exact .nil
 | @cons p q ps qs h t ih=>
  rw[Ē,Ē];refine .cons ?_ ih;have(h1,h2,h3):=h;unfold putAt
  by_cases e:p.1=k
  .rw[a5L e,a5L<|h1.symm.trans e];exact⟨h1,h2,ry⟩
  .rw[a5M e,a5M λz=>e<|h1.trans z];exact⟨h1,h2,h3⟩
def KT.put{xs:Qa (Qa Key×Qg×Qc)}(r:KT K H kvs xs)(k:Qa Key){b:Qg}{y:V}(hb:bg K H b (k.map kV))(ry:aP y u):
  KT K H (jo kvs k y) (storedH xs k b u):=by
 have e:(kvs.any λkv=>decide<|kv.1=k)=(atKey xs k).isSome:=by
  rw[Pj,(r.val k).l8,Option.isSome_map]
 unfold jo storedH;rw[e]
 by_cases q:(atKey xs k).isSome=ż
 .rw[a5L q,a5L q];exact r.nP k ry
 .rw[a5M q,a5M q];exact a3E r ⟨rfl,hb,ry⟩
def KT.keeps{xs:Qa (Qa Key×Qg×Qc)}(r:KT K H kvs xs)(ht:∀b ys,H b=ž (.tup ys)->H' b=ž (.tup ys)):KT K H' kvs xs :=
 Paired.jZ r λ_ _ z=>⟨z.1,z.2.1.keeps ht,z.2.2⟩
section
def yj{u:HO}(ok:cC P w K H h)(e:Rd H a u):bV P w K H h a u:=e.ok ok
def yi{kvs:Qa (Key×V)}(ok:cC P w K H h)(e:Rd H a (.dK kvs)):kvs.length<=Ď/\(a==Ĳ)=Ż/\∃vs,KV kvs vs/\h.DictOf (dq P w) a vs :=
 show bV P w K H h a (.dK kvs) from yj ok e
def zAO{kvs:Qa (Key×V)}(ok:cC P w K H h)(e:H a=ž (.dK kvs)):kvs.length<=Ď/\(a==Ĳ)=Ż/\∃vs,KV kvs vs/\h.DictOf (dq P w) a vs:=yi ok (.inl e)
def uc{ks:Qa Key}(j7:K.In h)(ok:cC P w K H h)(e:bg K H a (ks.map kV)):(Η<|dq P w).is h ks a:=by
 rcases e with e|⟨o,aq,n,hk,hc,hs,_,r,_⟩
 case inr=>exact⟨o,aq,n,j7 a o hk,hc,hs,by simpa using Ip r⟩
 obtain⟨_,aq,r,o,h1,h2,⟨n,h3⟩,_⟩:=(show bV P w K H h a (.tup<|ks.map kV) from ok a _ e);exact⟨o,aq.toArray,n,h1,h2,h3,by simpa using Ip r⟩
def rG(j7:K.In h)(ok:cC P w K H h)(e:Rd H a (.dT kvs)):kvs.length<=Ď/\(a==Ĳ)=Ż/\
  ∃xs,KT K H kvs xs/\h.DictOfH (Η<|dq P w) a xs:=by
 have(z,y,xs,r,o,es,ep,h1,h2,h3,h4,h5):=(show bV P w K H h a (.dT kvs) from yj ok e);refine⟨z,y,xs,r,o,es,ep,h1,h2,h3,h4,λx hx=>?_,h5⟩;have all:∀{l:Qa (Qa Key×V)} {m:Qa (Qa Key×Qg×Qc)},KT K H l m->∀x∈m,(Η<|dq P w).is h x.1 x.2.1:=by
  intro l m q
  induction q with
  |nil=>intro x hx;exact nomatch hx
  | @cons p q ps qs hq t ih=>
   intro x hx;rcases qu.mp hx with e|hx
   .subst e
    exact uc j7 ok (by rw[<-hq.1];exact hq.2.1)
   .exact ih x hx
 exact all r x hx
def LZ(j7:K.In h)(ok:cC P w K H h)(e:H a=ž (.dT kvs)):kvs.length<=Ď/\(a==Ĳ)=Ż/\
  ∃xs,KT K H kvs xs/\h.DictOfH (Η<|dq P w) a xs:=rG j7 ok (.inl e)
end
def tO(K:qc)(H:Hp)(a:Qg)(y:V)(r:Qb V):Prop :=
 (∃kvs k,Rd H a (.dK kvs)/\y=kV k/\r=jq kvs k)\/∃kvs k b,Rd H a (.dT kvs)/\y=.ref b/\bg K H b (k.map kV)/\r=jq kvs k
def rE(K:qc)(H:Hp)(a:Qg)(y v:V)(H':Hp):Prop :=
 (∃kvs k,H a=ž (.dK kvs)/\y=kV k/\kvs.length < Ď/\H'=upd H a (.dK<|jo kvs k v))\/
 ∃kvs k b,H a=ž (.dT kvs)/\y=.ref b/\bg K H b (k.map kV)/\kvs.length < Ď/\H'=upd H a (.dT<|jo kvs k v)
def rE.k{kvs:Qa (Key×V)}{k:Key}(e:H a=ž (.dK kvs))(hl:kvs.length < Ď):rE K H a (kV k) v (upd H a<|.dK<|jo kvs k v):=.inl ⟨kvs,k,e,rfl,hl,rfl⟩
def rE.t{b:Qg}{k:Qa Key}(e:H a=ž (.dT kvs))(eb:bg K H b (k.map kV))(hl:kvs.length < Ď):
  rE K H a (.ref b) v (upd H a<|.dT<|jo kvs k v):=.inr ⟨kvs,k,b,e,rfl,eb,hl,rfl⟩
section
variable{X:Cx}{s:Qd}{y:V}{r:Qc}{o:Qb V}
def Inv.KO(I:Inv X pins σ H s):Ĳ < s.heap.objs.size:=by
 have h:ĝ < s.heap.objs.size:=(I.mod.glob.keeps I.bk).lt;exact ì (by decide) h
def zpG(hu:A.units+1 < ϻ)(I:Inv X pins σ H s)(g:tO X.K H a y (ž v))(ry:aP y u)(h:∀w' s',Inv X pins σ H s'->aP v w'->Q w' s'):
  Č (Đ X.prog X.w) A (a0Q (.ref a) u) Q E s:=by
 rcases g with⟨kvs,k,e,ey,l⟩|⟨kvs,k,b,e,ey,eb,l⟩
 .subst ey
  have(z,hd,vs,rel,dd):=yi I.aC e;have(w',hw,lU):=jI.some_of (v:=v) (o:=a2E vs k) (by rw[l];exact rel.val k);exact wpAny_getItem_of (Cm ry) dd.mapOf hw<|h w' _ (I.tok _) lU
 .subst ey
  cases(show u=Ė b from ry);have(z,hd,xs,rel,dd):=rG I.bP I.aC e;have(w',hw,lU):=jI.some_of (v:=v) (o:=(atKey xs k).map (·.2)) (by rw[l];exact rel.val k);have(p,hp,AR):=qq.mp hw;refine wpAny_getItem_heap (a2s hu) (uc I.bP I.aC eb) dd hp ?_;rw[AR];exact h w' _ (I.tok _) lU
def Hs{t':Nat}{ob:HO}(I:Inv X pins σ H s)(mu:Bw (H a))(hs:Ϧ a s.heap h')(he:∃q,h'.get? a=ž q)(new:bV X.prog X.w X.K (upd H a ob) h' a ob):
  Inv X pins σ (upd H a ob) {s with heap:=h',toks:=t'}:=
 I.write (x:=a) (e:=a) mu (.inl rfl) (λb q hb z=>(hs.2 b hb).trans z) he new
def Wg{kvs:Qa (Key×V)}{vs:Qa (Key×Qc)}(z:kvs.length<=Ď)(hd:(a==Ĳ)=Ż)(rel:KV kvs vs)(dd:h'.DictOf (dq P w) a vs):
  bV P w K H' h' a (.dK kvs):=⟨z,hd,vs,rel,dd⟩
def zpH{Q:Unit->Qd->Prop}(hu:A.units+1 < ϻ)(I:Inv X pins σ H s)(g:rE X.K H a y v H')(ry:aP y u)(rv:aP v r)(h:∀s',Inv X pins σ H' s'->Q () s'):
  Č (Đ X.prog X.w) A (setItem (.ref a) u r) Q E s:=by
 rcases g with⟨kvs,k,e,ey,l,eH⟩|⟨kvs,k,b,e,ey,eb,l,eH⟩
 .subst ey eH
  have(z,hd,vs,rel,dd):=zAO I.aC e;have hz:vs.length<=Ď:=by rw[<-rel.length];exact z
  have hl:(jo kvs k v).length<=Ď:=by have:=QC kvs k v;omega
  refine wpAny_setItem_pairs (hsz:=hz) (Cm ry) dd λh' vm hs=>h _ ?_;have he:∃q,h'.get? a=ž q:=let ⟨q,_,_,hq,_⟩:=vm;⟨q,hq⟩;exact Hs I (by rw[e];exact Ϟ) hs he<|Wg hl hd (rel.put k rv) vm
 .subst ey eH
  cases(show u=Ė b from ry);have(z,hd,xs,rel,dd):=LZ I.bP I.aC e;have hz:xs.length<=Ď:=by rw[<-a0p rel];exact z
  have hl:(jo kvs k v).length<=Ď:=by have:=QC kvs k v;omega
  refine wpAny_setItem_heap (hsz:=hz) (a2s hu) (uc I.bP I.aC eb) dd λh' vm hs=>h _ ?_;have(q,es,ep,hq,h2,h3,h4,_,h5):=vm;refine Hs I (by rw[e];exact Ϟ) hs ⟨q,hq⟩ ⟨hl,hd,_,(rel.put k eb rv).keeps λc ys ec=>?_,q,es,ep,hq,h2,h3,h4,h5⟩;rw[zA (x8 ec e (λz=>nomatch z))];exact ec
end
def FZ(i:į):Prop:=∀ov iv,a3l i Ż ov iv=operate [ov,iv] (a0Q ov iv)
def Zk{s:Qd}{slice:į}{id:String}
  (hl:a3I (.type T) "__getitem__"=pure (ž<|.builtin id)) (hs:FZ slice)
  (h:Č (Đ prog w) A (Ŭ value env) (λo aH=>Č (Đ prog w) A (Ŭ slice env) (λi gP=>gP.TypeIs o T/\Č (Đ prog w) A (a0Q o i) Q E gP) E aH) E s):
  Č (Đ prog w) A (Ŭ (.Subscript value slice pos) env) Q E s:=by
 refine Subscript_<|ŋ h (λo aH aM=>ŋ aM (λi gP uV=>?_) λ_ _ x=>x) λ_ _ x=>x;have(hT,uV):=uV;unfold a4t;refine qa ?_;rw[getitemInPython_of_ne hT.not_modules];refine qa<|Α hT hl ?_;have fin:Č (Đ prog w) A (a3l slice Ż o i) (λr qJ=>Č (Đ prog w) A (letTemporaryGo value o r >>= λ_=>pure r) Q E qJ) E gP:=by
  rw[hs o i];exact wpAny_operating (ŋ uV (λr qJ JJ=>qa<|wpAny_letTemporaryGo<|qb JJ) λ_ _ x=>x)
 first
  |exact qb<|qa fin
  |exact qa<|qb<|qa fin
  |exact qa fin
def zkD{X:Cx}{s:Qd}{y:V}{o:Qb V}(I:Inv X pins σ H s)(g:tO X.K H a y o):s.TypeIs (.ref a) "dict":=by
 rcases g with⟨kvs,k,e,_,_⟩|⟨kvs,k,b,e,_,_,_⟩
 .have(_,_,vs,_,dd):=yi I.aC e
  exact dd.typeIs
 .have(_,_,xs,_,dd):=rG I.bP I.aC e
  exact dd.typeIs
def GH(K:qc)(td ty:TE):TE:=λσ H Q=>td σ H λx H1=>ty σ H1 λy H2=>∃a v,x=.ref a/\tO K H2 a y (ž v)/\Q v H2
def GG(K:qc)(td ty tv:TE):TS:=λD σ H=>tv σ H λv H1=>td σ H1 λx H2=>ty σ H2 λy H3=>∃a H4,x=.ref a/\rE K H3 a y v H4/\D.nx σ H4
section
variable{X:Cx}{i:į}
def Zj(hu:X.A.units+1 < ϻ)(ho:PE X o td)(hi:PE X i ty)(hs:FZ i):PE X (.Subscript o i pos) (GH X.K td ty):=by
 intro pins s σ H Q I h;refine Zk PySem.F.slot_dict_getitem.lookup hs<|aJ (ho pins s σ H _ I h) λu s1 ⟨x,H1,I1,rx,q1⟩=>aJ (hi pins s1 σ H1 _ I1 q1) λiv s2 hZ=>?_;have(y,H2,I2,ry,a,v,ex,g,q2):=hZ;subst ex;obtain rfl:u=Ė a:=rx;exact⟨zkD I2 g,zpG hu I2 g ry λw' s3 I3 lU=>⟨v,H2,I3,lU,q2⟩⟩
def Zi(hu:X.A.units+1 < ϻ)(ho:PE X o td)(hi:PE X i ty)(hv:PE X value tv)(hs:a0v value (ž<|.Subscript o i pos') pos.line X.env=pure Ż):
  PS X (.Assign [.Subscript o i pos'] value pos) (GG X.K td ty tv):=by
 intro pins s σ H D I h;refine wpAny_Assign_Subscript (aJ (hv pins s σ H _ I h) λr s1 hZ=>?_) hs;have(v,H1,I1,rv,q1):=hZ;refine aJ (ho pins s1 σ H1 _ I1 q1) λu s2 hZ=>?_;have(x,H2,I2,rx,q2):=hZ;refine aJ (hi pins s2 σ H2 _ I2 q2) λiv s3 hZ=>?_;have(y,H3,I3,ry,a,H4,ex,g,q3):=hZ;subst ex;obtain rfl:u=Ė a:=rx;exact zpH hu I3 g ry rv λs4 I4=>⟨σ,H4,I4,q3⟩
end
def PF(h:Į)(hb:Ĳ < h.objs.size):bV P w K H (h.push {cls:=.type "dict",data:=.dict #[]}) h.objs.size (.dT []):=
 ⟨À _,beq_eq_false_iff_ne.mpr<|ĭ<|qj hb,[],.nil,_,#[],0,qg _ rfl,⟨rfl,rfl,rfl⟩,rfl,rfl,a2Y⟩
def CD:TE:=λ_ H Q=>∀p,H p=Ž->Q (.ref p) (upd H p<|.dT [])
section
variable{X:Cx}
def zqN:PE X (.Dict [] [] pos) CD:=λpins s σ H Q I h=>
 wpAny_Dict_empty ⟨.ref s.heap.objs.size,_,I.laid (a:=s.heap.objs.size) (o:=.dT []) (t':=s.toks) (λ_ _ q=>qd _ q) (qe _)<|PF s.heap I.KO,rfl,h _<|I.aC.fresh<|qe _⟩
end
structure M1 (X:Cx) (o:į) (m:Str) (apos:Pos) (e:į) (bp:Pos):Prop where
 base:ϐ o m X.env (Ŭ o X.env)=Ŭ o X.env
 Ud:((Γ bp<|ķ [e] X.env).all (λx=>!x.1) && (backToKw bp<|a3m [] X.env).all (λx=>x.1.isSome)
  && decide (([e]:Qa į).length+([]:Qa a1o).length+(if([]:Qa a1o).isEmpty then 0 else 1) < 30))=ż
 line:(apos.endLine==bp.line)=ż
 trees:Γ bp (ķ [e] X.env)=[(Ż,Ŭ e X.env)]
structure M2 (X:Cx) (o:į) (m:Str) (apos:Pos) (e f:į) (bp:Pos):Prop where
 base:ϐ o m X.env (Ŭ o X.env)=Ŭ o X.env
 Ud:((Γ bp<|ķ [e,f] X.env).all (λx=>!x.1) && (backToKw bp<|a3m [] X.env).all (λx=>x.1.isSome)
  && decide (([e,f]:Qa į).length+([]:Qa a1o).length+(if([]:Qa a1o).isEmpty then 0 else 1) < 30))=ż
 line:(apos.endLine==bp.line)=ż
 trees:Γ bp (ķ [e,f] X.env)=[(Ż,Ŭ e X.env),(Ż,Ŭ f X.env)]
def K6(H:Hp)(a:Qg):Prop:=(∃kvs,Rd H a<|.dK kvs)\/∃kvs,Rd H a<|.dT kvs
def Wf{X:Cx}{s:Qd}(I:Inv X pins σ H s)(d:K6 H a):
  s.TypeIs (.ref a) "dict"/\(∀b,Ė a=.ref b->∃ob,s.heap.get? b=ž ob/\ob.dict=Ž)/\(a==Ĳ)=Ż:=by
 rcases d with⟨kvs,e⟩|⟨kvs,e⟩
 .have(_,hd,vs,_,dd):=yi I.aC e
  refine⟨dd.typeIs,λb q=>?_,hd⟩;cases q;have(ob,_,_,h1,h2,_):=dd;exact⟨ob,h1,h2.2.1⟩
 .have(_,hd,xs,_,dd):=rG I.bP I.aC e
  refine⟨dd.typeIs,λb q=>?_,hd⟩;cases q;have(ob,_,_,h1,h2,_):=dd;exact⟨ob,h1,h2.2.1⟩
section
variable{X:Cx}{s:Qd}{y d:V}{r:Qc}{o:Qb V}
def We(hu:A.units+1 < ϻ)(I:Inv X pins σ H s)(g:tO X.K H a y o)(ry:aP y u)(rd:aP d r)(h:∀w' s',Inv X pins σ H s'->aP (o.getD d) w'->Q w' s'):
  Č (Đ X.prog X.w) A (call (.builtin "dict.get") [.ref a,u,r]) Q E s:=by
 rcases g with⟨kvs,k,e,ey,l⟩|⟨kvs,k,b,e,ey,eb,l⟩
 .subst ey
  have(z,hd,vs,rel,dd):=yi I.aC e;refine call_meetsIn a0L dd.typeIs a3i (a2X _ _ _) (meets_dict_get_default (dq X.prog X.w) a (Cm ry) hd r) ⟨_,dd.mapOf,h _ _ (I.tok _) ?_⟩;rw[l];exact(rel.val k).getD rd
 .subst ey
  cases(show u=Ė b from ry);have(z,hd,xs,rel,dd):=rG I.bP I.aC e;refine call_meetsIn a0L dd.typeIs a3i (a2X _ _ _) (meetsH_dict_get_default (Η<|dq X.prog X.w) a b hd r) ⟨a2s hu,k,xs,uc I.bP I.aC eb,dd,h _ _ (I.tok _) ?_⟩;rw[l];exact(rel.val k).getD rd
end
def G4(K:qc)(td ty tx:TE):TE:=λσ H Q=>td σ H λx H1=>∃a,x=.ref a/\K6 H1 a/\ty σ H1 λy H2=>tx σ H2 λz H3=>∃o,tO K H3 a y o/\Q (o.getD z) H3
section
variable{X:Cx}{f:į}{tx:TE}
def zqO(hu:X.A.units+1 < ϻ)(ho:PE X o td)(he:PE X e ty)(hf:PE X f tx)(m:M2 X o "get" apos e f bp):PE X (.Call (.Attribute o "get" apos) [e,f] [] bp) (G4 X.K td ty tx):=by
 intro pins s σ H Q I h;refine wpAny_Call_method m.base m.Ud m.line PySem.F.plainAttrs_dict a0L PySem.F.type_dict_get<|aJ (ho pins s σ H _ I h) λu s1 hZ=>?_;have(x,H1,I1,rx,a,ex,d,q1):=hZ;subst ex;obtain rfl:u=Ė a:=rx;have(t1,t2,_):=Wf I1 d;refine⟨t1,t2,?_⟩;rw[m.trees];refine a0O rfl<|a4b<|a1A<|aJ (he pins s1 σ H1 _ I1 q1) λiv s2 hZ=>?_;have(y,H2,I2,ry,q2):=hZ;refine a1A<|aJ (hf pins s2 σ H2 _ I2 q2) λfv s3 hZ=>?_;have(z,H3,I3,rz,ov,g,q3):=hZ;refine a4S ?_;exact We hu I3 g ry rz λw' s4 I4 lU=>⟨_,H3,I4,lU,q3⟩
end
end Internal
namespace UW
open PySem PySem.W PySem.Calls PyProof.Rows
def zgQ{P:Params}{h:Į}:∀(ns:List Int) (vs:List Θ),WellAll P h vs (ns.map WData.int)->a0a vs ns:=by
 intro ns
 induction ns with
 |nil=>
  intro vs w;rw[Œ]at w;cases w;exact .nil
 |cons n ns ih=>
  intro vs w;rw[Ē]at w;cases w with
  |cons a b=>
   cases a;exact .cons _ _<|ih _ b
def zpI{l:OpenLaw}{n:Nat}(hn:l.most=ž n){P:Params}{h:Į}{args:List WData}{vals:List Θ}
  (qT:l.row.toRowW.claim.pre args=ż) (JO:WellAll P h vals args):
  ∃a vs ns,vals=[Ė a]/\args=[WData.list<|ns.map WData.int]/\h.get? a=ž {cls:=.type "list",data:=.seq vs.toArray}/\a0a vs ns/\ns.length<=n:=by
 have hsh:WShape.hasAll [] args [.list .int]=ż:=(pre_splitW qT).1;have hc:l.pre.holds [] {args:=args}=ż:=(pre_splitW qT).2;have(d,r,rfl,h1,h2):=hasAllW_cons hsh;obtain rfl:=hasAllW_nil h2;have(xs,rfl,h3):=hasW_list h1;have(ns,rfl):=items_int h3;have hlen:ns.length<=n:=by
  unfold OpenLaw.pre at hc;have h4:(WTm.not<|.lt (.lit<|.int (n:Int))<|.len<|.arg 0).holds [] {args:=[.list<|ns.map .int]}=ż:=by
   have h4:=(holds_andW hc).1;rw[hn]at h4;exact h4
  have h5:=condW_of h4 (w_not<|w_lt w_lit<|w_len_list<|w_arg rfl);rw[ċ]at h5;refine a2w λq=>?_;have q':(n:Int) < ((ns.length:Nat):Int):=by omega
  first
   | (rw[a5N q']at h5;exact absurd h5 (by decide))
   | (simp at h5;omega)
 cases JO with
 |cons w1 w2=>
  cases w2;cases w1 with
  |list ho vg=>exact⟨_,_,ns,rfl,rfl,ho,zgQ ns _ vg,hlen⟩
def zpJ(l:OpenLaw)(args:List WData):l.row.toRowW.claim.post args (.bool ż) args=ż :=
 postW_of (r:=l.row.toRowW) (X:=(ż==ż))
  (show WShape.has [] (.bool ż) .bool=ż by first|rfl|decide|simp[WShape.has,WShape.arms,WShape.armsAll])
  (show(WTm.eq .res<|.lit<|.bool ż).value [] {args:=args,res:=ž (.bool ż),after:=args}=ž (.bool<|true==ż) from w_eq_bool (w_res rfl) w_lit) rfl
def jg{l:OpenLaw}{n:Nat}{q:a3C}{loose:List Str}{XP:(Str->Option Θ)->Į->Prop}{YP:World->Į->Prop}{d:DefRec}
  (hn:l.most=ž n) (A2:d.params.defaults=[])
  (call:∀(w:World) (bG aH:ι) (mg mb:Str->Option Θ) (fa:Addr) (o:Obj) (pm cd doc:Θ) (a:Addr) (vs:List Θ) (ns:List Int),
   Ground q loose [] XP w bG mg mb aH.heap->YP w aH.heap->
   aH.heap.get? fa=ž o->o.data=.func (docDef d.name d.params d.body d.scope pm cd doc)->aH.heap.CodeRec cd d.name->mg d.name=ž (.ref fa)->
   aH.heap.get? a=ž {cls:=.type "list",data:=.seq vs.toArray}->a0a vs ns->ns.length<=n->aH.gens=#[]->
   a0q (Đ l.prog w) a2G (.call (.ref fa) ⟨[.ref a],[]⟩) (λr s'=>r=.ok (.ret<|.bool ż)/\OldK aH.heap s'.heap/\s'.os=aH.os/\a0U s'.gens) aH):
  WalkO q loose XP YP l.row.toRowW d [] (λf vs=>a4z f vs):=by
 intro w bG aH mg mb G Y fa o pm cd doc dV kV ho hd iJ hD AW hg args vals as qT hlay hrd JO u6;obtain rfl:dV=.none:=Dflts.none hD A2;obtain rfl:kV=.none:=Dflts.noKw hD;have(a,vs,ns,rfl,rfl,uZ,hints,hlen):=zpI hn qT JO;refine enter_call<|Ϯ (call w bG aH mg mb fa o pm cd doc a vs ns G Y ho (fd_plain hd) iJ AW uZ hints hlen hg) λr s' hq=>?_;have(rfl,h2,h3,h4):=hq;exact⟨.inl ⟨.bool ż,.bool ż,[],rfl,λ_=>rfl,.bool ż,zpJ l _,λ_=>⟨a3b,λ_ hm=>(nomatch hm)⟩⟩,h2,h3,h4⟩
end UW
namespace Internal
open PySem PySem.Spec PyProof.Rows
def zpK{vs:Qa Qc}(h:a0a vs ns):zY (ns.map V.int) vs:=by
 induction h with
 |nil=>exact .nil
 |cons n t _ ih=>exact .cons ⟨t,rfl⟩ ih
def BY(H:Hp):Prop:=∀b,H b=Ž\/∃o xs,H b=ž (.bj o<|.lst xs)
def zqP{mb:Str->Qb Qc}{CX:lA}{k:Nat}{fa:Qg}{aH:Qd}{vs:Qa Qc}
  (KX:K.In aH.heap) (TC:aH.heap.Ns ĝ mg) (hb:aH.heap.Ns builtinsNs mb) (hbb:∀x:Str,x ≠ "__name__"->mb x=Ű x) (JZ:aH.heap.NoLimit) (hg:aH.gens=#[])
  (ha:aH.heap.get? a=ž {cls:=.type "list",data:=.seq vs.toArray}) (hi:a0a vs ns) (hl:ns.length<=Ď) (hr:aF k a2G)
  (F:∀base:Į,K.In base->base.Ns ĝ mg->bI P w K mg base CX k fa fd [x] sp) (A8:∀(s:Qd) (u:Qc),Ω s fd ⟨[u],[]⟩ [(x,u)])
  (m8:∀H:Hp,BY H->bZ K H a (ns.map V.int)->sp [.ref a] H (λv _=>v=.bl ż) λ_ _ _=>False)
  (Kw:∀H e s',CX [] H aH (λ_ _ _=>False) e s'->False):
  a0q (Đ P w) a2G (.call (.ref fa) ⟨[.ref a],[]⟩) (λr s'=>r=.ok (.ret<|.bool ż)/\OldK aH.heap s'.heap/\s'.os=aH.os/\a0U s'.gens) aH:=by
 have rv:=zpK hi;have Jv:=hi.length;have core:∀H:Hp,BY H->bZ K H a (ns.map V.int)->cC P w K H aH.heap->(∀b,H b≠Ž->b=a)->(H a≠Ž->K.lookup a=Ž)->
   a0q (Đ P w) a2G (.call (.ref fa) ⟨[.ref a],[]⟩) (λr s'=>r=.ok (.ret<|.bool ż)/\OldK aH.heap s'.heap/\s'.os=aH.os/\a0U s'.gens) aH:=by
  intro H hO hS aC hA hK;have lj:∀{b:Qg} {o:Obj},aH.heap.get? b=ž o->H b=Ž->(pR aH.heap H).get? b=ž o:=λe n=>zqk e n;have Az:∀{b:Qg} {o:Obj} {es:Array Ϡ} {ep:Nat},aH.heap.get? b=ž o->o.data=.dict es ep->H b=Ž:=λ{b o es ep} e d=>by
   cases q:H b with
   |none=>rfl
   |some u=>
    have e':b=a:=hA b (by rw[q];simp);subst e';rw[ha]at e;cases e;have d':a4n vs.toArray _=Data.dict es ep:=d;cases d'
  have El:∀{b:Qg} {m:Str->Qb Qc},aH.heap.Ns b m->(pR aH.heap H).Ns b m:=λ{b m} ⟨o,es,ep,e,d,r⟩=>⟨o,es,ep,lj e<|Az e d,d,r⟩;have T9:K.In (pR aH.heap H):=λb o e=>lj (KX b o e) (by
   cases q:H b with
   |none=>rfl
   |some u=>
    have e':b=a:=hA b (by rw[q];simp);subst e';rw[hK (by rw[q];simp)]at e;cases e)
  have hM:Mod K mg (pR aH.heap H):=⟨T9,El TC,⟨mb,El hb,hbb⟩,let ⟨mc,h1,h2⟩:=JZ;⟨mc,El h1,h2⟩⟩;have e0:kG P w K mg (pR aH.heap H) a2G [] aH H:=⟨rfl,hM,λb o e=>Y1 e,í<|zpv _ _,trivial,λb hb=>absurd (show b∈([]:Qa Qg) from hb) (by simp),aC,.of_eq hg⟩;refine Ϯ ((F _ T9<|El TC).run a2G [] aH H ⟨[.ref a],[]⟩ [.ref a] [.ref a] _ _ hr e0 (A8 aH<|.ref a) (.cons rfl .nil)<|m8 H hO hS) λr s' h=>?_;cases r with
  |error e=>exact(Kw H e s' h).elim
  |ok fl=>
   cases fl with
   |next=>exact ō h
   |brk=>exact ō h
   |cont=>exact ō h
   |ret u=>
    have(v,H',os,bare,un,JV,r',q):=h;have q':v=.bl ż:=q;subst q';obtain rfl:u=a2I ż:=r';refine⟨rfl,OldK.of_keep λb o e=>?_,os,bare⟩;cases q:H b with
    |none=>exact un.keep b o e q (by intro z;exact absurd (show b∈([]:Qa Qg) from z) (by simp)) (by simp)
    |some u=>
     rcases hO b with z|⟨ob,xs,z⟩
     .rw[q]at z;cases z
     .have z2:=un.dN b ob _ z
      have(e1,_):=aC b _ z;have(e2,_):=JV b _ z2;rw[e]at e1;cases e1;exact e2
 cases hk:K.lookup a with
 |some o=>
  have e:=KX a o hk;rw[ha]at e;cases e;refine core (λ_=>Ž) (λ_=>.inl rfl) (.inr ⟨_,vs.toArray,_,hk,rfl,rfl,rfl,by rw[ē,Jv];exact hl,by simpa using rv⟩) (λb u z=>by have z':(Ž:Qb HO)=ž u:=z;cases z') (λb z=>absurd rfl z) λz=>absurd rfl z
 |none=>
  refine core (λb=>if b=a then ž (.bj {cls:=.type "list",data:=.seq vs.toArray}<|.lst<|ns.map V.int)else Ž) (λb=>?_) (.inl<|.inr ⟨{cls:=.type "list",data:=.seq vs.toArray},a5L rfl⟩) (λb u z=>?_) (λb z=>?_) λ_=>hk
  .by_cases hb:b=a
   .exact .inr ⟨_,_,a5L hb⟩
   .exact .inl (a5M hb)
  .by_cases hb:b=a
   .have z':=(a5L hb).symm.trans z
    cases z';subst hb;exact⟨ha,by rw[ċ];exact hl,vs,_,rv,ha⟩
   .have z':=(a5M hb).symm.trans z
    cases z'
  .by_cases hb:b=a
   .exact hb
   .exact absurd (a5M hb) z
def qH{l:a2d}{k:Nat}{q:Qe}{loose:Qa Str}{XP:(Str->Qb Qc)->Į->Prop}{YP:Qh->Į->Prop}{d:DefRec}{K:Params->qc}{CX:Qh->lA}{sp:Qh->Sp}
  (hn:l.most=ž n) (hn2:n<=Ď) (A2:d.params.defaults=[]) (hr:aF k a2G)
  (hY:∀(w:Qh) (h:Į),YP w h->(K w.params).In h)
  (F:∀(w:Qh) (mg:Str->Qb Qc) (fa:Qg) (h:Į),(K w.params).In h->h.Ns ĝ mg->mg d.name=ž (.ref fa)->
   ∃fd:ū,(∀(s:Qd) (u:Qc),Ω s fd ⟨[u],[]⟩ [(x,u)])/\
    ∀base:Į,(K w.params).In base->base.Ns ĝ mg->bI l.prog w (K w.params) mg base (CX w) k fa fd [x] (sp w))
  (m8:∀(w:Qh) (H:Hp) (a:Qg) (ns:Qa Int),ns.length<=n->BY H->bZ (K w.params) H a (ns.map V.int)->sp w [.ref a] H (λv _=>v=.bl ż) λ_ _ _=>False)
  (Kw:∀(w:Qh) (H:Hp) (s:Qd) (e:Qc) (s':Qd),CX w [] H s (λ_ _ _=>False) e s'->False):
  a5f q loose XP YP l.row.toRowW d [] (λf vs=>a4z f vs):=by
 refine UW.jg hn A2 λw bG aH mg mb fa o pm cd doc a vs ns G Y ho hd iJ AW uZ hints hlen hg=>?_;have KX:=hY w _ Y;have(fd,hb,hF):=F w mg fa _ KX G.T.g AW;exact zqP KX G.T.g G.T.b G.T.builtins G.T.nolimit hg uZ hints (qx hlen hn2) hr hF hb (λH hO hS=>m8 w H a ns hlen hO hS) λH e s'=>Kw w H aH e s'
noncomputable def kP(s:Ş):Arguments:=match s with
 |.FunctionDef _ a _ _ _ _ _ _ _ _=>a
 |_=>{posonlyargs:=[],args:=[],vararg:=Ž,kwonlyargs:=[],kw_defaults:=[],kwarg:=Ž,defaults:=[]}
def gN(s:Ş):Qa Ş:=match s with
 |.FunctionDef _ _ b _ _ _ _ _ _ _=>b
 |_=>[]
def zI(s:Ş):a2K:=match s with
 |.FunctionDef _ _ _ _ _ _ sc _ _ _=>sc
 |_=>{kind:=.function,names:=[],isGenerator:=Ż,isCoroutine:=Ż}
abbrev iM:lA:=λ_ _ _ _ _ _=>False
abbrev E0:XK:=λ_ _ _=>False
def LY{X:Cx}:yo iM X E0:=λ_ _ _ _ _ _ _ h=>h.elim
structure kF (K:qc) (x qual:Str) (st:Ş) (f:Qg) (fd:ū):Prop where
 ex:∃(oc:Qc) (od:Qb Qg) (kV doc pm:Qc) (an:Qb Qg) (aQ ct:Qc) (jU:Array (Qb Qc)),
  fd=ņ x qual (kP st) (gN st) (zI st) .none kV doc pm an aQ ct/\K.lookup f=ž ⟨oc,od,.func fd,jU⟩/\ϊ K aQ qual=ż
 kp:ĵ K (.ref f)=ż
section
def kF.ok{f:Qg}{k:Nat}(F:kF K x qual st f fd)(S:aX N ps (zI st))(len:∀vs H Q E,sp vs H Q E->vs.length=ps.length)
  (bh:∀(aQ:Qc) (A:Qf) (outer:Qa Env) (s:Qd) (H:Hp) (vs:Qa V) (Q:VK) (E:XK),aF k (A.deeper<|θ qual (zI st) s.heap.objs.size f aQ)->sp vs H Q E->
   ∃t,dR (jr iM P w K mg base N qual (zI st) f aQ A outer s H E).uM (gN st) t/\t {nx:=λ_ H'=>Q .aK H',rt:=Q} (Ϲ N vs) H):bI P w K mg base iM (k+1) f fd ps sp:=by
 have(oc,od,kV,doc,pm,an,aQ,ct,jU,rfl,lk,iJ):=F.ex;refine GL lk iJ S len λA outer s H vs Q E hr m8=>?_;have(t,h,q):=bh aQ A outer s H vs Q E hr m8;exact⟨t,h.uM,q⟩
def kF.binds{f:Qg}(F:kF K x qual st f fd)
  (h:∀(kV doc pm:Qc) (an:Qb Qg) (aQ ct:Qc) (us:Qa Qc),us.length=ps.length->bindArgs (ņ x qual (kP st) (gN st) (zI st) .none kV doc pm an aQ ct) ⟨us,[]⟩=pure (ps.zip us)):lK K fd ps []:=by
 have(oc,od,kV,doc,pm,an,aQ,ct,jU,rfl,lk,iJ):=F.ex;exact .all<|h kV doc pm an aQ ct
def G3{f:Qg}{oc:Qc}{od an:Qb Qg}{kV doc pm aQ ct:Qc}(l:K.lookup f=ž ⟨oc,od,.func<|ņ x qual (kP st) (gN st) (zI st) .none kV doc pm an aQ ct,jU⟩)
  (c:ϊ K aQ qual=ż) (k:ĵ K (.ref f)=ż):kF K x qual st f (ņ x qual (kP st) (gN st) (zI st) .none kV doc pm an aQ ct):=⟨⟨oc,od,kV,doc,pm,an,aQ,ct,jU,rfl,l,c⟩,k⟩
end
def yh{k:Nat}(hr:aF k A):A.units+1 < ϻ:=É (a1z (by decide:1<=64) _) hr.units
section
variable{X:Cx}
def pv(i:Nat)(hN:X.N[i]?=ž x:=by rfl)(hv:EW X.env.scope x:=by first|exact a1T rfl|exact a1e (a1T rfl) |exact a1e<|a1e rfl)(hd:(x==("__debug__":Str))=Ż:=by decide)
  (iJ:(x==("__classdict__":Str))=Ż:=by decide):PE X (.Name x pos) (nF i):=WT hN hv hd iJ
end
def eI(H H':Hp):Prop:=∀b o,H b=ž o->H' b=ž o
def eI.refl(H:Hp):eI H H:=λ_ _ h=>h
end Internal
set_option maxHeartbeats 4000000
namespace Internal
open PySem PySem.Spec PyProof.Rows
inductive bH (X:Cx):Qa (Str×Qg)->Qa Str->Qa Nat->Prop where
 |nil:bH X [] [] []
 |cons {x:Str} {c:Qg} {j:Nat} {cl:Qa (Str×Qg)} {xs:Qa Str} {js:Qa Nat} (hN:X.N[j]?=ž x) (hk:X.env.scope.names.lookup x=ž .cell\/X.env.scope.names.lookup x=ž .free)
   (hc:X.env.cells.lookup x=ž c) (t:bH X cl xs js):bH X ((x,c)::cl) (x::xs) (j::js)
noncomputable def fA(X:Cx)(scope:a2K)(cl:Qa (Str×Qg))(Nc:Qa Str)(C:Qg)(s:Qd)(H:Hp)(ex:Qa Qg):Cx :=
 {X with bG:=s,aA:=H,env:=compEnvC scope (ı (C+1) scope.names cl) C X.env,N:=Nc,outer:=X.stack,stack:=X.stack,ex:=ex,fn:=λx=>scope.names.lookup x==ž .cell,pn:=[],xe:=λ_ _=>False}
noncomputable def c0(nt:Nat)(js:Qa Nat)(σ:St):St:=č nt Ž++js.map λj=>σ.getD j Ž
def Wk(a b:St):Prop:=a.length=b.length/\∀(i:Nat) (v:V),a[i]?=ž (ž v)->b[i]?=ž (ž v)
def Wc{a:St}{x:Qb V}(h:a[i]?=ž Ž):Wk a (a.set i x):=by
 refine⟨by simp,λj v e=>?_⟩;have ne:i≠j:=by intro z;rw[z,e]at h;cases h
 rw[qB ne];exact e
def Hr(h:i < nt):(c0 nt js σ)[i]?=ž Ž:=by
 unfold c0;rw[Ĝ (by simpa using h),Ō,a5L h]
def sD{X:Cx}{xs:Qa Str}(f:bH X cl xs js):∀x c,cl.lookup x=ž c->X.env.cells.lookup x=ž c:=by
 induction f with
 |nil=>intro x c e;cases e
 | @cons y d j cl xs js hN hk hc t ih=>
  intro x c e;rw[Ņ]at e
  by_cases q:x=y
  .subst q
   rw[a5Q]at e;injection e with e1;rw[<-e1];exact hc
  .rw[beq_eq_false_iff_ne.mpr q]at e
   exact ih x c e
def Qm{X:Cx}{xs:Qa Str}(f:bH X cl xs js):∀x,x∈xs->∃c,cl.lookup x=ž c:=by
 induction f with
 |nil=>intro x m;cases m
 | @cons y d j cl xs js hN hk hc t ih=>
  intro x m;rw[Ņ]
  by_cases q:x=y
  .subst q
   rw[a5Q];exact⟨d,rfl⟩
  .rw[beq_eq_false_iff_ne.mpr q]
   rcases qu.mp m with z|z
   .exact absurd z q
   .exact ih x z
def zqQ{X:Cx}{xs:Qa Str}(f:bH X cl xs js):∀(i:Nat) (x:Str) (σ:St) (v:V),xs[i]?=ž x->(js.map λj=>σ.getD j Ž)[i]?=ž (ž v)->
  ∃j:Nat,X.N[j]?=ž x/\σ[j]?=ž (ž v)/\(X.env.scope.names.lookup x=ž .cell\/X.env.scope.names.lookup x=ž .free)/\(∃c,X.env.cells.lookup x=ž c):=by
 induction f with
 |nil=>intro i x σ v e;simp at e
 | @cons y d j cl xs js hN hk hc t ih=>
  intro i x σ v e1 e2;cases i with
  |zero=>
   simp only[ϵ,a3t]at e1;subst e1;refine⟨j,hN,?_,hk,d,hc⟩;simp only[Ē,ϵ,a3t]at e2;rw[qA]at e2;cases q:σ[j]? with
   |none=>rw[q]at e2;cases e2
   |some o=>rw[q]at e2;simp at e2;rw[e2]
  |succ i=>
   exact ih i x σ v (by simpa using e1) (by simpa using e2)
def Iw:∀{names:Qa (Str×Φ)} {x:Str} {k:Φ},
  (names.map λ(n,k)=>if(k==ϥ && env.scope.kind==.function && env.kindOf n==ž .cell)then(n,Ū)else(n,k)).lookup x=ž k->
  ∃k0,names.lookup x=ž k0/\(x,k0)∈names/\(k=k0\/(k0=.free/\k=.cell)):=by
 intro names
 induction names with
 |nil=>intro x k e;cases e
 |cons p r ih=>
  intro x k e;have(n,kn):=p
  by_cases q:x=n
  .subst q
   refine⟨kn,by rw[Ņ,a5Q],qo,?_⟩;rw[Ē]at e;change List.lookup x ((if(kn==ϥ && env.scope.kind==.function && env.kindOf x==ž .cell)=ż then(x,Ū)else(x,kn))::_)=_ at e
   by_cases hh:(kn==ϥ && env.scope.kind==.function && env.kindOf x==ž .cell)=ż
   .rw[a5L hh,Ņ,a5Q]at e
    injection e with e1;refine .inr ⟨?_,e1.symm⟩;simp only[ĩ]at hh;exact by simpa using hh.1.1
   .rw[a5M hh,Ņ,a5Q]at e
    injection e with e1;exact .inl e1.symm
  .rw[Ē]at e
   change List.lookup x ((if(kn==ϥ && env.scope.kind==.function && env.kindOf n==ž .cell)=ż then(n,Ū)else(n,kn))::_)=_ at e;have e':(r.map λ(n,k)=>if(k==ϥ && env.scope.kind==.function && env.kindOf n==ž .cell)then(n,Ū)else(n,k)).lookup x=ž k:=by
    by_cases hh:(kn==ϥ && env.scope.kind==.function && env.kindOf n==ž .cell)=ż
    .rw[a5L hh,Ņ,beq_eq_false_iff_ne.mpr q]at e
     exact e
    .rw[a5M hh,Ņ,beq_eq_false_iff_ne.mpr q]at e
     exact e
   have(k0,h1,h2,h3):=ih e';refine⟨k0,by rw[Ņ,beq_eq_false_iff_ne.mpr q];exact h1,qm _ h2,h3⟩
def zpL{X:Cx}{xs:Qa Str}(f:bH X cl xs js):js.length=xs.length:=by
 induction f with
 |nil=>rfl
 |cons _ _ _ _ ih=>simp[ih]
structure xC (scope:a2K) (xs:Qa Str):Prop where
 kind:scope.kind=.function
 cell:∀y∈scope.names,y.2=.cell->scope.names.lookup y.1=ž .cell
 names:∀y∈scope.names,y.2=.local->scope.names.lookup y.1=ž .local
 free:∀y∈scope.names,y.2=.free->y.1∈xs
 fk:∀x∈xs,scope.names.lookup x=ž .free
def oS:∀(ns:Qa (Str×Φ)) (n:Nat) (acc:Qa (Str×Qg)),ı n ns acc=ı n ns []++acc
 |[],_,_=>rfl
 | (x,k)::r,n,acc=>by
  unfold ı;split
  .rw[oS r (n+1)<|(x,n)::acc,oS r (n+1) [(x,n)],Ķ]
   rfl
  .exact oS r n acc
def G2:∀(ns:Qa (Str×Φ)) (n:Nat) {x:Str} {c:Qg},(x,c)∈ı n ns []->(x,Ū)∈ns
 |[],_,_,_,h=>by cases h
 | (y,k)::r,n,x,c,h=>by
  unfold ı at h;split at h
  .rename_i hk
   rw[oS,ğ]at h;rcases h with h|h
   .exact qm _ (G2 r _ h)
   .cases qp.mp h
    cases eq_of_beq hk;exact qo
  .exact qm _ (G2 r _ h)
def CC:∀(ns:Qa (Str×Φ)) (n:Nat) {x:Str},(x,Ū)∈ns->∃c,(ı n ns []).lookup x=ž c
 |[],_,_,h=>by cases h
 | (y,k)::r,n,x,h=>by
  unfold ı;rcases qu.mp h with e|h'
  .cases e
   rw[a5L (by rfl:(Ū==Ū)=ż),oS,ϒ];cases(ı (n+1) r []).lookup y with
   |none=>exact⟨n,by rw[Ņ,a5Q];rfl⟩
   |some c=>exact⟨c,rfl⟩
  .split
   .have(c,e):=CC r (n+1) h'
    rw[oS,ϒ,e];exact⟨c,rfl⟩
   .exact CC r n h'
def wB{ns:Qa (Str×Φ)}{acc:Qa (Str×Qg)}{c:Qg}(h:(ı n ns acc).lookup x=ž c):(ı n ns []).lookup x=ž c\/(acc.lookup x=ž c/\(ı n ns []).lookup x=Ž):=by
 rw[oS,ϒ]at h;cases e:(ı n ns []).lookup x with
 |none=>rw[e]at h;exact .inr ⟨h,rfl⟩
 |some d=>rw[e]at h;exact .inl h
def LX{ns:Qa (Str×Φ)}{acc:Qa (Str×Qg)}{c:Qg}(h:(ı n ns []).lookup x=ž c):(ı n ns acc).lookup x=ž c:=by
 rw[oS,ϒ,h];rfl
def zqR{M:a2O}{s:Qd}{globals:Qg}{bs:Qg}{Q:Env->Qd->Prop}
  (hQ:∀h1,h1.Ns s.heap.objs.size (λ_=>Ž)->(∀b o,s.heap.get? b=ž o->h1.get? b=ž o)->CellsOk h1 (s.heap.objs.size+1) (ı (s.heap.objs.size+1) scope.names [])->
   Q (newEnv scope s.heap.objs.size globals (ı (s.heap.objs.size+1) scope.names cl) qual Ž .none (ž env) bs) {s with heap:=h1}):
  Č M A (a3L scope globals cl [] qual Ž .none (ž env) bs) Q E s:=by
 simp only[a3L,a4i,if_true];refine qa<|wpAny_alloc ?_;refine qa<|wpAny_layCells _ (λname kind cells=>by cases hkc:kind==Ū<;>simp[hkc]) _ _ _ _ ?_;have ok:=cellsFrom_ok scope.names (s.heap.push {cls:=.type "dict",data:=.dict #[]}) (s.heap.objs.size+1) [] ⟨λ_ _ hm=>(nomatch hm),a3b⟩ (by rw[Ŏ];exact qe _);rw[Ŏ]at ok;rw[show({s with heap:=s.heap.push {cls:=.type "dict",data:=.dict #[]}}:Qd).heap.objs.size=s.heap.objs.size+1 from Ŏ ..];rw[a0h];exact qa<|qb<|qb<|hQ _ ((Heap.Ns.new s.heap<|.type "dict").keeps<|pushCells_keeps _ _) (λb o e=>pushCells_keeps _ _ b o<|qd _ e) ok
section
variable{X:Cx}{s:Qd}{xs:Qa Str}{ts:Qa Str}{fp:Qa Qg}{C:Qg}
def Od{hx:Į}(I:Inv X pins σ H s)(S:xC scope xs)(f:bH X cl xs js)(ck:CellsOk hx (C+1) (ı (C+1) scope.names []))(hC:s.heap.objs.size<=C)(hf:∀b∈fp,jH X pins H b)(hl:∀b∈fp,b < s.heap.objs.size):
  (fA X scope cl (ts++xs) C s H fp).Ok where
 mod:=I.ok.mod
 kind:=S.kind
 glob:=I.ok.glob
 blt:=I.ok.blt
 above:=hC
 inj:=λx y c e1 e2=>by
  have no:∀{x y:Str},(ı (C+1) scope.names []).lookup x=ž c->cl.lookup y=ž c->False:=λz1 z2=>by
   have(v,o,q,_):=I.cell _ c (sD f _ c z2);have q1:=qh q;have q2:=(ck.empty _ _<|mem_of_lookup z1).2;exact Ð _<|qi q1<|qx hC<|qx (Ĉ C) q2
  rcases wB e1 with z1|⟨z1,_⟩<;>rcases wB e2 with z2|⟨z2,_⟩
  .exact name_of_addr ck.apart (mem_of_lookup z1) (mem_of_lookup z2)
  .exact(no z1 z2).elim
  .exact(no z2 z1).elim
  .exact I.ok.inj x y c (sD f x c z1) (sD f y c z2)
 has:=λx h=>by
  have z:∃k0,scope.names.lookup x=ž k0/\(x,k0)∈scope.names/\(k0=ϥ\/k0=Ū):=by
   rcases h with h|h
   .have(k0,h1,h2,h3):=Iw (env:=X.env) (names:=scope.names) h
    rcases h3 with h3|h3
    .exact⟨k0,h1,h2,.inr h3.symm⟩
    .exact⟨k0,h1,h2,.inl h3.1⟩
   .have(k0,h1,h2,h3):=Iw (env:=X.env) (names:=scope.names) h
    rcases h3 with h3|h3
    .exact⟨k0,h1,h2,.inl h3.symm⟩
    .cases h3.2
  have(k0,_,h2,h3):=z;show ∃c,(ı (C+1) scope.names cl).lookup x=ž c;rcases h3 with h3|h3
  .have(c,e):=Qm f x (S.free _ h2 h3)
   rw[oS,ϒ,e];cases(ı (C+1) scope.names []).lookup x with
   |none=>exact⟨c,rfl⟩
   |some d=>exact⟨d,rfl⟩
  .subst h3
   have(c,e):=CC scope.names (C+1) h2;exact⟨c,LX e⟩
 tH:=λx c h e=>by
  have(d,q):=CC scope.names (C+1) (mem_of_lookup<|eq_of_beq h);have e':(ı (C+1) scope.names cl).lookup x=ž c:=e;rw[LX q]at e';cases e';have:=(ck.empty _ _<|mem_of_lookup q).2;show s.heap.objs.size<=c;omega
 hd:=I.ok.hd
 frames:=I.ok.frames
 uD:=.inl rfl
 xt:=λb hb=>⟨qj<|qi (hl b hb) hC,λx c e=>by
  rcases wB e with z|⟨z,_⟩
  .have q1:=(ck.empty _ _<|mem_of_lookup z).2
   exact ñ<|qi (hl b hb)<|qx hC<|qx (Ĉ C) q1
  .exact(hf b hb).2.2.2.2.1 x c (sD f x c z)⟩
 bs:=I.bs
 nj:=qx I.ok.nj I.sz
 i0:=λb o e hb=>by
  rcases(hf b hb).2.2.2.1 with z|z
  .exact I.ok.i0 b o e z
  .exact absurd (qi (qh (I.ok.bs b o e).1) z) (Ð _)
 ko:=λb hb z=>by
  rcases qu.mp (I.gc b z)with q|q
  .exact(hf b hb).2.1 q
  .exact(hf b hb).2.2.1 q
 dM:=I.stack
 pI:=I.fK
def zqS{m:Str->Qb Qc}{h1:Į}{tk:Nat}(I:Inv X pins σ H s)(S:xC scope xs)(f:bH X cl xs js)(j9:ts.length=nt)(hC:s.heap.objs.size<=C)(hf:∀b∈fp,jH X pins H b)(hl:∀b∈fp,b < s.heap.objs.size)
  (hk:∀b o,s.heap.get? b=ž o->h1.get? b=ž o) (hn:h1.Ns C m) (ck:CellsOk h1 (C+1) (ı (C+1) scope.names [])):Inv (fA X scope cl (ts++xs) C s H fp) [] (c0 nt js σ) H {s with heap:=h1,toks:=tk} where
 ok:=Od I S f ck hC hf hl
 os:=rfl
 bare:=I.bare
 base:=Un.kept hk
 loc:=by
  refine⟨m,hn,λi x v e1 e2 e3=>?_⟩;have hi:nt<=i:=by
   rcases Ó i nt with z|z
   .rw[Hr z]at e2;cases e2
   .exact z
  have ET:xs[i - nt]?=ž x:=by
   have z:(ts++xs)[i]?=ž x:=e1;rw[ę (by omega),j9]at z;exact z
  have e2':(js.map λj=>σ.getD j Ž)[i - nt]?=ž (ž v):=by
   unfold c0 at e2;rw[ę (by simpa using hi),Ħ]at e2;exact e2
  have(j,hN,hσ,TJ,c,hc):=zqQ f (i - nt) x σ v ET e2';have(m0,_,J5):=I.loc;have(u,r,lk):=J5 j x v hN hσ (.inr TJ);refine⟨u,r,.inr ⟨?_,?_⟩⟩
  .rcases e3 with z|z|z
   .have hx:x∈xs:=Í ET
    have(k0,h1,h2,h3):=Iw (env:=X.env) (names:=scope.names) z;have q:=S.fk x hx;rw[h1]at q;cases q;rcases h3 with h3|h3
    .cases h3
    .cases h3.2
   .exact .inl z
   .exact .inr z
  .have(c',gR):=Qm f x (Í ET)
   have no:(ı (C+1) scope.names []).lookup x=Ž:=by
    cases e:(ı (C+1) scope.names []).lookup x with
    |none=>rfl
    |some d=>
     have z:=S.cell _ (G2 _ _<|mem_of_lookup e) rfl;rw[S.fk x<|List.mem_of_getElem? ET]at z;cases z
   refine⟨c',?_,?_⟩
   .show(ı (C+1) scope.names cl).lookup x=ž c'
    rw[oS,ϒ,no,gR];rfl
   have q:=sD f x c' gR;rcases lk with⟨l1,_⟩|⟨_,c'',l2,l3⟩
   .exfalso
    have Ti:X.env.scope.names.lookup x=ž .local:=l1;rcases TJ with z|z<;>rw[z]at Ti<;>cases Ti
   .rw[q]at l2
    cases l2;exact l3.keeps hk
 cell:=λx c e=>by
  rcases wB e with z|⟨z,_⟩
  .exact⟨_,(ck.empty _ _<|mem_of_lookup z).1⟩
  .have(v,z):=I.cell x c (sD f x c z)
   exact⟨v,z.keeps hk⟩
 free:=I.aC.fresh hC
 bo:=λx c e=>by
  rcases wB e with z|⟨z,_⟩
  .exact I.aC.fresh (by have:=(ck.empty _ _<|mem_of_lookup z).2;omega)
  .exact I.bo x c (sD f x c z)
 pin:=λp hp=>by cases hp
 aC:=I.aC.kept hk
 len:=by
  show(c0 nt js σ).length=(ts++xs).length;unfold c0;rw[qr,qr,Ħ,ċ,j9];rw[zpL f]
def Ql{o:HO}(x:cC P w K H h)(hn:H a=Ž)(new:bV P w K (upd H a o) h a o):cC P w K (upd H a o) h:=λb u e=>by
 by_cases hb:b=a
 .subst hb;rw[zD]at e;cases e;exact new
 .rw[zA hb]at e
  exact(x b u e).eA (λ_ _ _ q=>q) (λc q=>(zA<|kQ q hn).trans q) λc ys q=>(zA<|kQ q hn).trans q
def PD{fs ex:Qa Qg}{H1:Hp}{h1:Į}{o:HO}(u:Un fs ex H H1 h h1)(hn:H1 a=Ž)(ha:h.objs.size<=a):Un fs ex H (upd H1 a o) h h1 where
 keep:=u.keep
 slot:=u.slot
 free:=λb ob q n hx=>(zA<|qj<|qi (qh q) ha).trans (u.free b ob q n hx)
 there:=u.there
 d9:=λb ys q=>(zA<|kQ (u.d9 b ys q) hn).trans (u.d9 b ys q)
 dN:=λb ob ys q=>(zA<|kQ (u.dN b ob ys q) hn).trans (u.dN b ob ys q)
 eP:=λb ps q=>by
  have(more,e):=u.eP b ps q;exact⟨more,(zA<|kQ e hn).trans e⟩
def rD(X:Cx)(ifs:Qa į)(t:TT):Prop :=
 ∀(pins:Qa (Qg×Obj)) (s:Qd) (σ:St) (H:Hp) (Q:Bool->Hp->Prop),Inv X pins σ H s->t σ H Q->
  Č (Đ X.prog X.w) X.A (forIn ifs ż λc r=>if r=ż then do let ok <-a3f c X.env (Ŭ c X.env);pure (Ũ ok)else pure (Ũ r)) (TP X pins σ Q) X.xe s
def FY:TT:=λ_ H Q=>Q ż H
def zqT{X:Cx}:rD X [] FY:=λ_ _ _ H _ I h=>wpAny_tests_nil ⟨H,I,h⟩
def zqU{X:Cx}{c:į}{t:TT}(h:PT X c t):rD X [c] t:=λpins s σ H Q I q=>wpAny_tests_one<|h pins s σ H Q I q
def FW{t:Sem α}{Q Q':α->Qd->Prop}{M:a2O}{s:Qd}(h:Č M A t Q (λ_ _=>False) s)(hQ:∀a s,Q a s->Q' a s):Č M A t Q' E s:=ŋ h hQ λ_ _ x=>x.elim
def zmj{R:Υ->Qd->Prop}{s:Qd}{target:į}{it acc:Qc}(I:Nat->Qd->Prop)
  (turn:∀n s,I n s->∀E,Č (Đ prog w) A (a1l it) (λr s1=>match r with
   |none=>R (.ok .next) s1
   |some v=>Č (Đ prog w) A (a1r target it v) (λ_ s2=>Č (Đ prog w) A (a0V target env v) (λ_ s3=>
     Č (Đ prog w) A (forIn ifs ż λc r=>if r=ż then do let ok <-a3f c env (Ŭ c env);pure (Ũ ok)else pure (Ũ r)) (λok s4=>
      (ok=ż->Č (Đ prog w) A (Ŭ elt env) (λx s5=>Č (Đ prog w) A (call (.builtin "list.append") [acc,x]) (λ_ s6=>∃m,m < n/\I m s6) E s5) E s4)/\
      (ok=Ż->∃m,m < n/\I m s4)) E s3) E s2) E s1) E s)
  (n:Nat) (h:I n s):a0q (Đ prog w) A (.compLoop (.ListComp elt [⟨target,iter,ifs,0⟩] scope pos) 0 it acc env) R s:=by
 refine codeAny_loop rfl I (λn s hI=>?_) n h;show Č _ A ((compTurn _ 0 it acc env).onRaise (λx=>do a4J x env;theTreesLotGoes x)) _ _ s;refine wpAny_noted ?_;rw[compTurn_list];refine qa<|ς<|qa<|ŋ (turn n s hI _) (λr s1 h1=>?_) λ_ _ z=>z;cases r with
 |none=>exact qb h1
 |some v=>
  refine qa<|ŋ h1 (λ_ s2 h2=>?_) λ_ _ z=>z;refine qa<|ŋ h2 (λ_ s3 h3=>?_) λ_ _ z=>z;refine qa<|ŋ h3 (λok s4 h4=>?_) λ_ _ z=>z;cases ok with
  |false=>exact qb ⟨rfl,h4.2 rfl⟩
  |true=>
   refine qa<|qa<|ŋ (h4.1 rfl) (λx s5 h5=>?_) λ_ _ z=>z;exact qa<|ŋ h5 (λ_ s6 h6=>qb<|qb ⟨rfl,h6⟩) λ_ _ z=>z
def SD(J:It)(mH:St)(g:TG)(tt:TT)(te:TE)(Z:Qa V->Hp->Prop)(H1:Hp):Prop :=
 ∃W:Nat->Nat->Qa V->Hp->Prop,(∃m,W 0 m [] H1)/\∀i m ys H,W i m ys H->
  (J.stop i H/\Z ys H)\/(J.go i H/\ys.length < Ď/\∃N:Qa V->Hp->Prop,(∀jP H',N jP H'->∃m',m' < m/\W (i+1) m' jP H')/\
   ∀x H',J.Af i H x H'->g x mH H' λhJ H2=>tt hJ H2 λb H3=>if b=ż then te hJ H3 λy H4=>N (ys++[y]) H4 else N ys H3)
def GW(mH:St)(g:TG):Prop:=∀x H (Q:St->Hp->Prop),g x mH H Q->g x mH H λhJ H2=>Wk mH hJ/\Q hJ H2
def Qw{J:It}{tn:Nat->Į->Prop}{g:TG}{Z:Qa V->Hp->Prop}{RR:Qc->Qg->Υ->Qd->Prop}
  (hc:X.calm=ż) (I:Inv X pins σ H s) (S:xC scope xs) (f:bH X cl xs js) (j9:ts.length=nt) (T:Turn X.prog X.w X.K tg J fp it tn) (st:tn 0 s.heap) (hf:∀b∈fp,jH X pins H b)
  (hg:∀C s H ex,PG (fA X scope cl (ts++xs) C s H ex) tg g) (ht:∀C s H ex,rD (fA X scope cl (ts++xs) C s H ex) ifs tt) (he:∀C s H ex,PE (fA X scope cl (ts++xs) C s H ex) elt te)
  (gw:GW (c0 nt js σ) g) (h:SD J (c0 nt js σ) g tt te Z H)
  (hRR:∀(D C:Qg) (m:Str->Qb Qc) (s':Qd) (ys:Qa V) (H':Hp),Z ys H'->H' D=Ž->Inv X pins σ (upd H' D<|.lst ys) s'->s'.heap.Ns C m->upd H' D (.lst ys) C=Ž->C≠X.env.locals->
   (∀x c,X.env.cells.lookup x=ž c->c≠C)->X.bG.heap.objs.size<=C->(∀p∈X.pn++pins,p.1≠C)->RR (.ref D) C (.ok .next) s'):
  Č (Đ X.prog X.w) X.A (newList []) (λacc s3=>Č (Đ X.prog X.w) X.A (a3L scope X.env.globals cl [] X.env.qual Ž .none<|some X.env) (λBo s4=>
   a0q (Đ X.prog X.w) X.A (.compStart (.ListComp elt [⟨tg,iter,ifs,0⟩] scope pos) 0 (.ref it) acc {Bo with scope:=relabel scope X.env}) (RR acc Bo.locals) s4) E s3) E s:=by
 refine qy<|zqR λh1 AV qR ck=>?_;dsimp only at AV qR ck ⊢;generalize Kt:s.heap.push {cls:=.type "list",dict:=Ž,data:=.seq ([]:Qa Qc).toArray}=G at AV qR ck ⊢;have xq:G.objs.size=s.heap.objs.size+1:=by rw[<-Kt,Ŏ]
 have hC:s.heap.objs.size<=G.objs.size:=by rw[xq];exact Ĉ _
 have Ua:s.heap.objs.size≠G.objs.size:=by rw[xq];exact qj<|ê _
 have hl:∀b∈fp,b < s.heap.objs.size:=λb hb=>by
  have(o,e,_):=T.obj _ _ st b hb;exact qh e
 have old:∀b o,s.heap.get? b=ž o->h1.get? b=ž o:=λb o e=>
  qR b o (Kt▸qd _ e)
 have hD1:h1.get? s.heap.objs.size=ž {cls:=.type "list",data:=.seq ([]:Qa Qc).toArray}:=qR _ _ (Kt▸qg _ rfl);have J0:Inv (fA X scope cl (ts++xs) G.objs.size s H fp) [] (c0 nt js σ) H {s with heap:=h1}:=zqS (tk:=s.toks) I S f j9 hC hf hl old AV ck;obtain⟨W,⟨m0,w0⟩,turn⟩:=h;have I9:tn 0 h1:=T.keep _ _ _ st λb hb o e=>old b o e;have hDn:H s.heap.objs.size=Ž:=I.aC.fresh (qe _);have BC:∀b∈fp,s.heap.objs.size≠b:=λb hb z=>absurd (hl b hb) (by rw[<-z];exact Ð _);have KC:∀{H':Hp} {pl:Qa (Qg×Obj)},(∀b∈fp,H' b=Ž)->(∀p∈pl,p.1=s.heap.objs.size)->∀b∈fp,jH (fA X scope cl (ts++xs) G.objs.size s H fp) pl H' b:=λ{H' pl} hn hp b hb=>by
  refine⟨hn b hb,qj<|qi (hl b hb) hC,λz=>?_,.inl hb,λx c e=>((Od I S f ck hC hf hl (ts:=ts)).xt b hb).2 x c e,λp hpp z=>?_⟩
  .rcases qu.mp (I.gc b z)with q|q
   .exact(hf b hb).2.1 q
   .exact(hf b hb).2.2.1 q
  .rcases È.mp hpp with q|q
   .cases q
   .exact BC b hb ((hp p q).symm.trans z)
 have loop:a0q (Đ X.prog X.w) X.A (.compLoop (.ListComp elt [⟨tg,iter,ifs,0⟩] scope pos) 0 (.ref it) (.ref s.heap.objs.size)<|compEnvC scope (ı (G.objs.size+1) scope.names cl) G.objs.size X.env) (RR (.ref s.heap.objs.size) G.objs.size)
   {s with heap:=h1}:=by
  refine zmj (λn s'=>∃i ys aq nn H',Inv (fA X scope cl (ts++xs) G.objs.size s H fp) [] (c0 nt js σ) H' s'/\tn i s'.heap/\(∀b∈fp,H' b=Ž)/\H' s.heap.objs.size=Ž/\
   s'.heap.get? s.heap.objs.size=ž {cls:=.type "list",data:=.seq (a1W aq) nn}/\zY ys aq/\ys.length<=Ď/\W i n ys H') ?_ m0
   ⟨0,[],[],0,H,J0,I9,λb hb=>(hf b hb).1,hDn,hD1,.nil,À _,w0⟩
  rintro n s3 ⟨i,ys,aq,nn,H3,I3,nO,Bf,d3,o3,r3,z3,w3⟩ E';have ni:s.heap.objs.size≠(fA X scope cl (ts++xs) G.objs.size s H fp).env.locals:=Ua;have UP:Inv (fA X scope cl (ts++xs) G.objs.size s H fp) [(s.heap.objs.size,{cls:=.type "list",data:=.seq aq.toArray nn})] (c0 nt js σ) H3 s3:=I3.fM λp hp=>by
   have e:p=(s.heap.objs.size,{cls:=.type "list",data:=.seq aq.toArray nn}):=by simpa using hp
   subst e;refine⟨o3,d3,ni,λz=>?_,λv z=>by cases z⟩;have(_,ob,e,_):=I.stack.mem z;exact absurd (qh e)<|Ð _
  have Ji:∀p∈[(s.heap.objs.size,({cls:=.type "list",data:=.seq aq.toArray nn}:Obj))],p.1=s.heap.objs.size:=λp hp=>by
   have e:p=(s.heap.objs.size,{cls:=.type "list",data:=.seq aq.toArray nn}):=by simpa using hp
   rw[e]
  rcases turn i n ys H3 w3 with⟨stop,qz⟩|⟨go,hsz,N,hN,step⟩
  .refine aJ (T.done (fA X scope cl (ts++xs) G.objs.size s H fp) rfl rfl rfl hc i _ s3 _ H3 E' UP (KC Bf Ji) nO stop) λr s4 hZ=>?_
   have(hr,I4):=hZ;subst hr;have o4:s4.heap.get? s.heap.objs.size=ž {cls:=.type "list",data:=.seq aq.toArray nn}:=(I4.pin _<|qv _ qo).1;have(m4,n4,_):=I4.loc;have hk4:cC X.prog X.w X.K (upd H3 s.heap.objs.size<|.lst ys) s4.heap:=Ql I4.aC d3 ⟨z3,aq,nn,r3,o4⟩;have un4:Un (gI X.stack) fp H (upd H3 s.heap.objs.size<|.lst ys) s.heap s4.heap:=PD I4.base d3 (qe _);refine hRR _ _ m4 s4 ys H3 qz d3 (I.Bp I4.os un4 hk4 I4.bare λb hb=>⟨(hf b hb).2.2.2.1,(hf b hb).2.1,(hf b hb).2.2.2.2.1,λp hp=>(hf b hb).2.2.2.2.2 p hp⟩) n4 ?_ ?_ ?_ ?_ ?_
   .rw[zA<|ĭ Ua]
    exact I4.free
   .exact λz=>absurd I.lt (by rw[<-z];exact Nat.not_lt.mpr hC)
   .intro x c e z
    have(v,ob,q,_):=I.cell x c e;exact absurd (qh q) (by rw[z];exact Nat.not_lt.mpr hC)
   .exact qx I.sz hC
   .intro p hp z
    have q:=(I.pin p hp).1;exact absurd (qh q) (by rw[z];exact Nat.not_lt.mpr hC)
  .refine aJ (T.item (fA X scope cl (ts++xs) G.objs.size s H fp) rfl rfl rfl hc i _ s3 _ H3 E' UP (KC Bf Ji) nO go) λr s4 hZ=>?_
   have(u,hr,h4):=hZ;subst hr;refine aJ h4 λ_ s5 hZ=>?_;have(x,H5,I5,r5,y5,pj,KA):=hZ;have K7:=I5.pinned (KC KA Ji) (T.obj _ _ pj);refine FW (hg _ _ _ _ _ s5 _ H5 x u _ K7 r5<|gw _ _ _<|step x H5 y5) λ_ s6 hZ=>?_;have(xG,H6,I6,SR,q6):=hZ;refine FW (ht _ _ _ _ _ s6 xG H6 _ I6 q6) λok s7 hZ=>?_;have(H7,I7,q7):=hZ;have after:∀{H8:Hp} {s8:Qd},Inv (fA X scope cl (ts++xs) G.objs.size s H fp) ([(s.heap.objs.size,({cls:=.type "list",data:=.seq aq.toArray nn}:Obj))]++yq fp s5.heap) xG H8 s8->
     tn (i+1) s8.heap/\(∀b∈fp,H8 b=Ž)/\H8 s.heap.objs.size=Ž/\s8.heap.get? s.heap.objs.size=ž {cls:=.type "list",data:=.seq aq.toArray nn}/\
      Inv (fA X scope cl (ts++xs) G.objs.size s H fp) [] (c0 nt js σ) H8 s8:=λ{H8 s8} I8=>by
    have dd:=I8.pin (s.heap.objs.size,({cls:=.type "list",data:=.seq aq.toArray nn}:Obj)) (qv _<|Ò _ qo);refine⟨T.keep _ _ _ pj λb hb o e=>(I8.pin (b,o)<|qv _<|qv _<|DK hb e).1,λb hb=>?_,dd.2.1,dd.1,?_⟩
    .have(o,e,d):=T.obj _ _ pj b hb
     exact(I8.pin (b,o)<|qv _<|qv _<|DK hb e).2.1
    .exact(I8.weak SR.1 SR.2).fM λp hp=>by cases hp
   refine⟨λaC=>?_,λaC=>?_⟩
   .subst aC
    rw[a5L rfl]at q7;refine FW (he _ _ _ _ _ s7 xG H7 _ I7 q7) λv s8 hZ=>?_;have(y,H8,I8,ry,q8):=hZ;have(st8,fr8,d8,o8,I8'):=after I8;have(m',hm,w8):=hN _ _ q8;refine a0D a5K ⟨_,o8,rfl⟩ a5v (a5a _ _) (a4K s.heap.objs.size aq.toArray nn v (by rw[ē,<-r3.length];omega)) ⟨o8,?_⟩;have(_,f1,_,f3,f4,_):=(⟨d8,ni,trivial,.inr<|qe _,λx c e=>by
     rcases wB e with z|⟨z,_⟩
     .exact ñ (qi (É hC<|ê _) (ck.empty _ _<|mem_of_lookup z).2)
     .have(v0,ob,q,_):=I.cell x c (sD f x c z)
      exact ñ (qh q) |>.symm,trivial⟩:H8 s.heap.objs.size=Ž/\s.heap.objs.size≠(fA X scope cl (ts++xs) G.objs.size s H fp).env.locals/\True/\(s.heap.objs.size∈fp\/s.heap.objs.size<=s.heap.objs.size)/\
      (∀x c,(ı (G.objs.size+1) scope.names cl).lookup x=ž c->c≠s.heap.objs.size)/\True)
    have q:=a3T o8 (λx=>x.push v);have hp:aq.toArray.push v=(aq++[v]).toArray:=by simp
    rw[hp]at q;refine⟨m',hm,i+1,ys++[y],aq++[v],_,H8,I8'.turned (t':=s8.toks) (it:=s.heap.objs.size) (λb o hb e=>(Ì s8.heap _<|ĭ hb).trans e) d8 f1 f3 f4 (λp hp=>by cases hp),?_,fr8,d8,q,r3.append<|.cons ry .nil,?_,w8⟩
    .exact T.keep _ _ _ st8 λb hb o e=>(Ì s8.heap _<|BC b hb).trans e
    .rw[qr,ţ]
     omega
   .subst aC
    rw[a5M qf]at q7;have(st7,fr7,d7,o7,I7'):=after I7;have(m',hm,w7):=hN _ _ q7;exact⟨m',hm,i+1,ys,aq,nn,H7,I7',st7,fr7,d7,o7,r3,z3,w7⟩
 exact codeAny_compStart_list loop<|T.self _ _ _ _ _ I9 loop
def Ao(wi:TI)(nt:Nat)(js:Qa Nat)(g:TG)(tt:TT)(te:TE):TE:=λσ H Q=>wi σ H λJ H1=>
 SD J (c0 nt js σ) g tt te (λys H2=>∀D,H2 D=Ž->Q (.ref D) (upd H2 D<|.lst ys)) H1
def zAQ{wi:TI}{g:TG}(nt:Nat)(ts:Qa Str)(j9:ts.length=nt)(hc:X.calm=ż)(S:xC scope xs)(f:bH X cl xs js)(i9:closureFor scope X.env=pure cl)
  (hi:PI X tg iter wi) (hg:∀C s H ex,PG (fA X scope cl (ts++xs) C s H ex) tg g) (gw:∀σ:St,GW (c0 nt js σ) g) (ht:∀C s H ex,rD (fA X scope cl (ts++xs) C s H ex) ifs tt)
  (he:∀C s H ex,PE (fA X scope cl (ts++xs) C s H ex) elt te) (hs:∀x,Τ iter X.env x=pure x:=by intro _;rfl):
  PE X (.ListComp elt [⟨tg,iter,ifs,0⟩] scope pos) (Ao wi nt js g tt te):=by
 intro pins s σ H Q I h;rw[eval_ListComp];refine a4s (use:=Ž) rfl hs i9 S.kind S.names<|aJ (hi pins s σ H _ I h) λv s1 h1=>aJ h1 λEw s2 h2=>?_;have(it,fp,tn,J,H2,e,I2,T,bU,f2,q):=h2;subst e;refine Qw (RR:=λacc C=>compPost (Đ X.prog X.w) X.A X.xe Ž (EP X pins σ Q) acc C) hc I2 S f j9 T bU f2 hg ht he (gw σ) q ?_;intro D C m s' ys H' z hD I' hn Kv EJ EI xq Ku;refine⟨m,hn,λh' dI=>⟨.ref D,_,I'.turned (it:=C) (λb o hb e=>dI.extBut b o hb e) Kv EJ (.inr xq) EI Ku,rfl,z D hD⟩⟩
end
section
variable{X:Cx}
def yg(_ j:Int):Prop:=0 < j/\j.natAbs.log2 < 9000
def PC:bF X (Ů .FloorDiv) (rI yg λi j=>.int<|i / j):=wV λi j _ _ _ _ _ hc q=>by
 have h1:(0:Int) < j:=hc.1;exact floordiv_int (by omega) (by rw[a0m i (by omega)];exact q)<|.inl<|a2N hc.2
def vT(_ j:Int):Prop:=j≠0/\j.natAbs.log2 < 9000
def Pz:bF X (Ů .FloorDiv) (rI vT λi j=>.int<|i.fdiv j):=wV λi j _ _ _ _ _ hc q=>
 floordiv_int hc.1 q (.inl<|a2N hc.2)
def DO{k:Nat}(hk:0 < k)(h:n < 2^k):n.log2 < k:=by
 by_cases hn:n=0
 .subst hn;exact hk
 .exact(a4C hn).mpr h
def Zh{i j:Int}(h:0 < j)(h2:j<=2^128):yg i j:=⟨h,ì (DO (k:=129) (by decide) (by omega)) (by decide)⟩
def FV(K:qc):Qa V->Hp->VK->Prop:=λxs H Q=>∃x t T b,xs=[x,.ty T]/\eF K H x t/\Ŧ K t (.type T)=ž b/\Q (.bl b) H
def zqV:ik X (.builtin "isinstance") (FV X.K):=by
 intro pins s σ H xs us Q I r h;have(x,t,T,b,rfl,ty,e,q):=h;have(u,u',rfl,rx,rt):=Cn r;cases rt;exact zpC I rx ty e λtk=>⟨.bl b,H,I.tok tk,rfl,q⟩
end
def Oc(h:i < nt):∀σ:St,GW (c0 nt js σ) (kN i):=λσ x H Q q=>⟨Wc<|Hr h,q⟩
def SameBut(p:Qg)(H H':Hp):Prop:=∀b o,b≠p->H b=ž o->H' b=ž o
def iH{p:Qg}(h:H p=Ž)(o:HO):eI H (upd H p o):=λb u q=>by rw[zA<|kQ q h];exact q
def Bl(mg:Str->Qb Qc)(xs:Qa Str):Prop:=∀x,x∈xs->mg x=Ž
def Bl.nil:Bl mg []:=λ_ h=>by cases h
def Bl.cons{xs:Qa Str}(h:mg x=Ž)(t:Bl mg xs):Bl mg (x::xs):=λy m=>by
 rcases qu.mp m with e|e
 .rw[e];exact h
 .exact t y e
noncomputable def eM:į->Bool
 |.Starred _ _=>Ż
 |_=>ż
def lN{es:Qa į}(h:eM e=ż):ķ (e::es) env=(Ż,Ŭ e env)::ķ es env:=by
 cases e<;>first|rfl|cases h
def qG:∀{es:Qa į},es.all eM=ż->(Γ pos<|ķ es env).any (·.1)=Ż
 |[],_=>rfl
 |e::es,h=>by
  rw[Χ,ĩ]at h;rw[lN h.1];show(Ż || (Γ pos<|ķ es env).any (·.1))=Ż;rw[a0A];exact qG h.2
section
variable{X:Cx}{es:Qa į}{t:TA}{r:Qa V->Hp->VK->Prop}{id:String}
def zCR(ha:PE X e te)(hr:PA X es t)(hs:eM e=ż:=by rfl):PA X (e::es) (oN te t):=Oj ha hr (lN hs)
def zAR(hc:ik X (.builtin id) r)(hg:Gl X x)(hm:X.mg x=Ž)(hv:Ű x=ž (.builtin id))(ha:PA X (e::es) t)(hn:x ≠ "__name__":=by decide)(bY:(x==("__debug__":Str))=Ż:=by decide)
  (he:eM e=ż:=by rfl) (cq:es.all eM=ż:=by rfl):PE X (.Call (.Name x p) (e::es) [] pos) (sP r t):=zqE hc hg hm hv ha hn bY (lN he) (qG cq)
def zAS(hc:ik X (.type T) r)(hg:Gl X x)(hm:X.mg x=Ž)(hv:Ű x=ž (.type T))(ha:PA X (e::es) t)(hn:x ≠ "__name__":=by decide)(bY:(x==("__debug__":Str))=Ż:=by decide)
  (he:eM e=ż:=by rfl) (cq:es.all eM=ż:=by rfl):PE X (.Call (.Name x p) (e::es) [] pos) (sP r t):=zpE hc hg hm hv ha hn bY (lN he) (qG cq)
end
structure K8 (P:Qe) (w:Qh) (K:qc) (mg:Str->Qb Qc) (base:Į) (x:Str) (k:Nat) (ps:Qa Str) (sp:Sp):Prop where
 ex:∃(f:Qg) (fd:ū),bI P w K mg base iM k f fd ps sp/\lK K fd ps []/\ĵ K (.ref f)=ż/\mg x=ž (.ref f)
def FU(sp:Sp)(t:TA):TE:=λσ H Q=>t σ H λvs H1=>sp vs H1 Q E0
section
variable{X:Cx}{k:Nat}{es:Qa į}{t:TA}
def Wb(C:K8 X.prog X.w X.K X.mg X.base x k ps sp)(hr:aF k X.A)(hg:Gl X x)(ha:PA X (e::es) t)(bY:(x==("__debug__":Str))=Ż:=by decide)
  (he:eM e=ż:=by rfl) (cq:es.all eM=ż:=by rfl):PE X (.Call (.Name x p) (e::es) [] pos) (FU sp t):=by
 have(f,fd,F,hb,hk,hm):=C.ex;intro pins s σ H Q I h;refine Zq (dvs:=[]) (E:=E0) F hr hg hm hk hb .nil LY ha bY (lN he) (qG cq) pins s σ H Q I ?_;show t σ H λvs H1=>sp (vs++[]) H1 Q E0;have z:(λ(vs:Qa V) (H1:Hp)=>sp (vs++[]) H1 Q E0)=λvs H1=>sp vs H1 Q E0:=by
  funext vs H1
  rw[ŕ]
 rw[z];exact h
end
def GF(t:TS):TS:=λD σ H=>∃J:St->Hp->Prop,t {D with nx:=J} σ H/\∀aG H',J aG H'->D.nx aG H'
def Zg{X:Cx}{t:TS}(h:PS X st t):PS X st (GF t):=by
 intro pins s σ H D I ⟨J,q,z⟩;refine aJ (h pins s σ H _ I q) λf s' r=>?_;cases f with
 |next=>have(aG,H',I',j):=r;exact⟨aG,H',I',z _ _ j⟩
 |brk=>exact r
 |cont=>exact r
 |ret u=>exact r
def zqX(x y:Int)(hx:0<=x)(hy:0 < y):Ŝ y (x % y)=Ŝ x y:=by
 have(a,rfl):=a0N hx;have(b,rfl):=a0N (Ζ hy);rw[<-Int.natCast_emod];show Nat.gcd b (a % b)=Nat.gcd a b;rw[Nat.gcd_comm a b,Nat.gcd_comm b<|a % b];exact(Nat.gcd_rec b a).symm
def Zf(x y:Int):Ŝ (if x < 0 then -x else x) y=Ŝ x y:=by
 split
 .exact Int.neg_gcd
 .rfl
structure Wr (p:Prop):Prop where
 run:p
def vS{xs:Qa Str}(h:Bl mg xs)(m:x∈xs):mg x=Ž:=h x m
def Dn{X:Cx}{C:Qg}{s:Qd}{ex:Qa Qg}(h:decide N.Nodup=ż):(fA X scope cl N C s H ex).N.Nodup:=a5P h
noncomputable def nE(X:Cx)(js:Qa Nat):Qa Str:=js.map λj=>X.N.getD j ""
def oH(X:Cx)(js:Qa Nat):Qa (Str×Qg):=(nE X js).map λx=>(x,(X.env.cells.lookup x).getD 0)
noncomputable def qI:į->Qa Str
 |.Name x _=>[x]
 |.Tuple es _ _=>es.flatMap λe=>match e with
  |.Name x _=>[x]
  |.Tuple fs _ _=>fs.filterMap λe=>match e with
   |.Name x _=>ž x
   |_=>Ž
  |_=>[]
 |_=>[]
def Fc(nt:Nat)(g:TG):Prop:=∀(js:Qa Nat) (σ ft:St),Wk (c0 nt js σ) ft->∀x H (Q:St->Hp->Prop),g x ft H Q->g x ft H λhJ H2=>Wk (c0 nt js σ) hJ/\Q hJ H2
def vH(nt:Nat)(g:jD):Prop:=∀(js:Qa Nat) (σ ft:St),Wk (c0 nt js σ) ft->∀x H (Q:St->Hp->Prop),g x ft H Q->g x ft H λhJ H2=>Wk (c0 nt js σ) hJ/\Q hJ H2
def zqY(h:i < nt):Fc nt (kN i):=by
 intro js σ ft w x H Q q;refine⟨⟨by rw[ī];exact w.1,λj v e=>?_⟩,q⟩;have ne:i≠j:=by
  rintro rfl;rw[Hr h]at e;cases e
 rw[qB ne];exact w.2 j v e
def Py:vH nt BV:=λjs σ ft w x H Q q=>⟨q.1,w,q.2⟩
def zpN{g:TG}{gs:jD}(h1:Fc nt g)(h2:vH nt gs)(mono:∀v σ H (Q Q':St->Hp->Prop),(∀aG H',Q aG H'->Q' aG H')->g v σ H Q->g v σ H Q'):vH nt (xZ g gs):=by
 intro js σ ft w x H Q q;have(v,r,e,k):=q;refine⟨v,r,e,mono _ _ _ _ _ (λaG H' hZ=>?_)<|h1 js σ ft w v H _ k⟩;have(w',q'):=hZ;exact h2 js σ aG w' r H' Q q'
def Ob{gs:jD}(h:vH nt gs):Fc nt (BU K n gs):=by
 intro js σ ft w x H Q q;have(a,xs,e,s,l,k):=q;exact⟨a,xs,e,s,l,h js σ ft w xs H Q k⟩
def LW{g:TG}(h:Fc nt g):∀σ:St,GW (c0 nt js σ) g:=λσ x H Q q=>h js σ _ ⟨rfl,λ_ _ e=>e⟩ x H Q q
def zpO:∀v σ H (Q Q':St->Hp->Prop),(∀aG H',Q aG H'->Q' aG H')->kN i v σ H Q->kN i v σ H Q':=λv σ H Q Q' h q=>h _ _ q
def Qk{gs:jD}(h:i < nt)(h2:vH nt gs):vH nt (xZ (kN i) gs):=zpN (zqY h) h2 zpO
section
variable{X:Cx}{a b c:į}{es rest:Qa į}{t:TA}{r:Qa V->Hp->VK->Prop}{rd:R2}{id:String}{tA ph:TT}{I0 body:Qa Ş}{ts us:TS}{g:TG}{gs:jD}{wi:TI}
def aa(hN:X.N[i]?=ž x:=by rfl)(hv:EW X.env.scope x:=by first|exact a1T rfl|exact a1e (a1T rfl) |exact a1e<|a1e rfl)(hd:(x==("__debug__":Str))=Ż:=by decide)
  (iJ:(x==("__classdict__":Str))=Ż:=by decide):Wr (PE X (.Name x pos)<|nF i):=⟨pv i hN hv hd iJ⟩
def zk{n:Int}:Wr (PE X (.Constant (.int n) j pos)<|tC<|.int n):=⟨WS⟩
def iP{n:Bool}:Wr (PE X (.Constant (.bool n) j pos)<|tC<|.bl n):=⟨zAC⟩
def rF:Wr (PE X (.Constant .none j pos)<|tC .aK):=⟨WR⟩
def zU{n:Str}:Wr (PE X (.Constant (.str n) j pos)<|tC<|.str n):=⟨Xb⟩
def m3(hv:Ű x=ž u)(r:aP v u)(hg:Gl X x:=by exact rfl)(hm:X.mg x=Ž:=by exact vS ‹Bl _ _› (by decide))(hn:x ≠ "__name__":=by decide)(hd:(x==("__debug__":Str))=Ż:=by decide):Wr (PE X (.Name x pos)<|tC v):=⟨YY hg hm hv r hn hd⟩
def zZ{op:Operator}(ho:bF X (Ů op) rd)(ha:Wr (PE X a ta))(hb:Wr (PE X b tb)):Wr (PE X (.BinOp a op b pos)<|pf rd ta tb):=⟨zAF ho ha.run hb.run⟩
def lH{op:UnaryOp}{r:V->Hp->VK->Prop}(ho:EZ X (unaryOp op) r)(ha:Wr (PE X a ta)):Wr (PE X (.UnaryOp op a pos)<|Ef r ta):=⟨zAG ho ha.run⟩
def w_not(ha:Wr (PE X a ta)):Wr (PE X (.UnaryOp .Not a pos)<|GB ta):=⟨W4 ha.run⟩
def tZ(ho:bF X (Ĥ op) rd)(ha:Wr (PE X a ta))(hb:Wr (PE X b tb))(hm:υ op b=Ż:=by first|exact Na _|rfl):Wr (PE X (.Compare a [op] [b] pos)<|pf rd ta tb):=⟨Zv ho ha.run hb.run hm⟩
def zC(ho:bF X (Ĥ op) rd)(ha:Wr (PE X a ta))(hb:Wr (PE X b tb))(hm:υ op b=Ż:=by first|exact Na _|rfl):Wr (PT X (.Compare a [op] [b] pos)<|t4<|pf rd ta tb):=⟨Zu ho ha.run hb.run hm⟩
def Ze{S0:R2}{tc:TE}(ho:bF X (Ĥ op) rd)(cZ:bF X (Ĥ g7) S0)(ha:Wr (PE X a ta))(hb:Wr (PE X b tb))(hc:Wr (PE X c tc))(hm:a1S [op,g7] [b,c]=Ż:=by rfl):
  Wr (PE X (.Compare a [op,g7] [b,c] pos)<|yp rd S0 ta tb tc):=⟨zqz ho cZ ha.run hb.run hc.run hm⟩
def GD{op}(h:Wr (PE X a te)):Wr (PE X (.BoolOp op [a] pos) te):=⟨W6 h.run⟩
def Ck(ha:Wr (PE X a ta))(hb:Wr (PE X (.BoolOp .And (b::rest) pos) tb)):Wr (PE X (.BoolOp .And (a::b::rest) pos)<|GC ta tb):=⟨W5 ha.run hb.run⟩
def ur(ha:Wr (PT X a tA)):Wr (PW X (.BoolOp .And [a] pos) tA):=⟨YX ha.run⟩
def jx(ha:Wr (PT X a tA)):Wr (PW X (.BoolOp .Or [a] pos) tA):=⟨W9 ha.run⟩
def rZ(ha:Wr (PT X a tA))(hb:Wr (PW X (.BoolOp .And (b::rest) pos) ph)):Wr (PW X (.BoolOp .And (a::b::rest) pos)<|F7 tA ph):=⟨W8 ha.run hb.run⟩
def fU(ha:Wr (PT X a tA))(hb:Wr (PW X (.BoolOp .Or (b::rest) pos) ph)):Wr (PW X (.BoolOp .Or (a::b::rest) pos)<|IX tA ph):=⟨zAD ha.run hb.run⟩
def fP(h:Wr (PW X e tA)):Wr (PT X e tA):=⟨h.run.pt⟩
def jw(ha:Wr (PT X a tA)):Wr (PT X (.UnaryOp .Not a pos)<|F6 tA):=⟨W7 ha.run⟩
def jv(h:Wr (PE X e te))(he:∀whole,a3f e X.env whole=(do let v <-whole;a3A e.pos;a0P [v] (truthy v)):=by intro _;rfl):Wr (PT X e<|tB te):=⟨Xa h.run he⟩
def SA(K:qc)(ta:TE):TT:=λσ H Q=>ta σ H λx H'=>∃k,Fy K x H' k/\Q k H'
def LV(hc:Wr (PT X c tA))(ha:Wr (PE X a ta))(hb:Wr (PE X b tb)):Wr (PE X (.IfExp c a b pos)<|IY tA ta tb):=⟨zqn hc.run ha.run hb.run⟩
def zi:Wr (PA X [] rB):=⟨Nh⟩
def ae(ha:Wr (PE X e te))(hr:Wr (PA X es t))(hs:eM e=ż:=by rfl):Wr (PA X (e::es)<|oN te t):=⟨zCR ha.run hr.run hs⟩
def bu{x1}(h:Wr (PA X es t)):Wr (PE X (.Tuple es x1 pos)<|Fx t):=⟨VV h.run⟩
def ij(h:Wr (PA X es t)):Wr (PE X (.List es pos)<|BZ t):=⟨VR h.run⟩
def cc(hc:ik X (.builtin id) r)(hv:Ű x=ž (.builtin id))(ha:Wr (PA X (e::es) t))(hg:Gl X x:=by exact rfl)(hm:X.mg x=Ž:=by exact vS ‹Bl _ _› (by decide))(hn:x ≠ "__name__":=by decide)(bY:(x==("__debug__":Str))=Ż:=by decide)
  (he:eM e=ż:=by rfl) (cq:es.all eM=ż:=by rfl):Wr (PE X (.Call (.Name x p) (e::es) [] pos)<|sP r t):=⟨zAR hc hg hm hv ha.run hn bY he cq⟩
def nD(hc:ik X (.type T) r)(hv:Ű x=ž (.type T))(ha:Wr (PA X (e::es) t))(hg:Gl X x:=by exact rfl)(hm:X.mg x=Ž:=by exact vS ‹Bl _ _› (by decide))(hn:x ≠ "__name__":=by decide)(bY:(x==("__debug__":Str))=Ż:=by decide)
  (he:eM e=ż:=by rfl) (cq:es.all eM=ż:=by rfl):Wr (PE X (.Call (.Name x p) (e::es) [] pos)<|sP r t):=⟨zAS hc hg hm hv ha.run hn bY he cq⟩
def zL{k:Nat}(ha:Wr (PA X (e::es) t))(C:K8 X.prog X.w X.K X.mg X.base x k ps sp:=by assumption)(hr:aF k X.A:=by exact aF.mono ‹aF _ _› (by decide))(hg:Gl X x:=by exact rfl)(bY:(x==("__debug__":Str))=Ż:=by decide)
  (he:eM e=ż:=by rfl) (cq:es.all eM=ż:=by rfl):Wr (PE X (.Call (.Name x p) (e::es) [] pos)<|FU sp t):=⟨Wb C hr hg ha.run bY he cq⟩
def zE(hr:vv X rd)(ha:Wr (PE X a ta))(hb:Wr (PE X b tb))(hs:Og b:=by exact λ_ _=>rfl):Wr (PE X (.Subscript a b pos)<|pf rd ta tb):=⟨zAK hr ha.run hb.run hs⟩
def yE:Wr (PO X Ž Hu):=⟨Zp⟩
def yD(h:Wr (PE X e te)):Wr (PO X (ž e)<|GK te):=⟨Zo h.run⟩
def yC{r:V->Qb Int->Qb Int->Hp->VK->Prop}{lo hi:Qb į}{tl th:TO}{p2:Pos}(hr:xB X r)(he:Wr (PE X e te))(hl:Wr (PO X lo tl))(hu:Wr (PO X hi th)):Wr (PE X (.Subscript e (.Slice lo hi Ž p2) pos)<|IW r te tl th):=⟨zqH hr he.run hl.run hu.run⟩
def uu{ta:TA}(ha:Wr (PA X [a] ta))(hg:Gl X "range":=by exact rfl)(hm:X.mg "range"=Ž:=by exact vS ‹Bl _ _› (by decide))(hs:eM a=ż:=by rfl):Wr (PI X tg (.Call (.Name "range" p) [a] [] pos)<|Gw ta):=⟨zpx hg hm ha.run<|lN hs⟩
def zG(hN:X.N.Nodup:=by first|assumption|exact Dn rfl)(hi:X.N[i]?=ž x:=by rfl)(hx:Loc X.env.scope x:=by first|exact a1T rfl|exact a1e rfl)(hf:X.fn x=ż\/X.env.scope.names.lookup x=ž .local:=by first|exact .inl rfl|exact .inr rfl|assumption):Wr (PG X (.Name x pos)<|kN i):=⟨YU hN hi hx hf⟩
def jO:Wr (tI X [] BV):=⟨YT⟩
def cR(h1:Wr (PG X e g))(h2:Wr (tI X es gs))(hs:(ϙ (e::es) X.env).map (·.2)=a0V e X.env::(ϙ es X.env).map (·.2):=by rfl):Wr (tI X (e::es)<|xZ g gs):=⟨zqs h1.run h2.run hs⟩
def CB{ti:TE}{An:BW}(ho:Wr (PE X o ta))(hi:Wr (PE X e ti))(hs:FJ X An)
  (hh:∀v,a0V (.Subscript o e pos) X.env v=(do
   let ov <-a0P [v] (Ŭ o X.env)
   let iv <-a0P [v,ov] (Ŭ e X.env)
   a3A pos
   a0P [v,ov,iv] (setItem ov iv v)
   release [v,ov,iv] []):=by intro _;rfl):Wr (PG X (.Subscript o e pos)<|FI ta ti An):=⟨V5 ho.run hi.run hs hh⟩
def CA:Wr (rD X [] FY):=⟨zqT⟩
def Nj(h:Wr (PT X c tA)):Wr (rD X [c] tA):=⟨zqU h.run⟩
def FT(hi:Wr (PI X tg iter wi))(hg:∀{C s H ex},Wr<|PG (fA X scope (oH X js) (qI tg++nE X js) C s H ex) tg g)(ht:∀{C s H ex},Wr<|rD (fA X scope (oH X js) (qI tg++nE X js) C s H ex) ifs tt)
  (he:∀{C s H ex},Wr<|PE (fA X scope (oH X js) (qI tg++nE X js) C s H ex) elt te)
  (f:bH X (oH X js) (nE X js) js:=by repeat (first|exact bH.nil|refine bH.cons rfl (by first|exact a1T rfl|exact a1e rfl) rfl ?_)) (i9:closureFor scope X.env=pure (oH X js):=by rfl) (S:xC scope (nE X js):=by exact⟨rfl,a5P rfl,a5P rfl,a5P rfl,a5P rfl⟩) (j9:(qI tg).length=nt:=by rfl) (hc:X.calm=ż:=by rfl) (gw:∀σ:St,GW (c0 nt js σ) g:=by first|exact Oc (by decide) |exact LW<|Ob (by repeat (first|exact Py|refine Qk (by decide) ?_))) (hs:∀x,Τ iter X.env x=pure x:=by intro _;rfl):
  Wr (PE X (.ListComp elt [⟨tg,iter,ifs,0⟩] scope pos)<|Ao wi nt js g tt te):=⟨zAQ nt (qI tg) j9 hc S f i9 hi.run (λC s H ex=>hg.run) gw (λC s H ex=>ht.run) (λC s H ex=>he.run) hs⟩
def Sy(K:qc):Qa V->Hp->VK->Prop:=λxs H Q=>∃p ys,xs=[.ref p]/\(bZ K H p ys\/bT K H p ys)/\Q (.int ys.length) H
def Px(K:qc):Qa V->Hp->VK->Prop:=λxs H Q=>∃p ys,xs=[.ref p]/\((bZ K H p ys/\∀l,H l=Ž->Q (.ref l) (upd H l<|.tup ys))\/(bT K H p ys/\Q (.ref p) H))
def mV(hK:X.K=K:=by rfl):ik X (.builtin "isinstance") (FV K):=hK▸zqV
def fS(hK:X.K=K:=by rfl):ik X (.builtin "len") (Sy K):=hK▸zjo
def yV(hK:X.K=K:=by rfl):ik X (.type "tuple") (Px K):=hK▸zio
def cz(hK:X.K=K:=by rfl):vv X (F4 K):=hK▸Zm
def zB(hK:X.K=K:=by rfl):vv X (F3 K):=hK▸Wl
def FR(hK:X.K=K:=by rfl):bF X (Ĥ .In) (Av K Ż):=hK▸zpF
def Zd(hK:X.K=K:=by rfl):bF X (Ĥ .NotIn) (Av K ż):=hK▸zjn
def GO(hK:X.K=K:=by rfl):xB X (F2 K):=hK▸Zl
def Oa{l:į}{tl:TE}(hl:Wr (PE X l tl))(hK:X.K=K:=by rfl):Wr (PI X tg l<|Gx K tl):=hK▸⟨YS hl.run⟩
def yn{l:į}{tl:TE}(hl:Wr (PE X l tl))(hK:X.K=K:=by rfl):Wr (PI X tg l<|FF K tl):=hK▸⟨V1 hl.run⟩
def jN{k:Nat}(h:Wr (tI X es gs))(hK:X.K=K:=by rfl)(hc:X.calm=ż:=by rfl)(hn:(ϙ es X.env).length=n:=by rfl)(iI:(ϙ es X.env).findIdx? (·.1)=Ž:=by rfl):Wr (PG X (.Tuple es k pos)<|BU K n gs):=hK▸⟨V6 hc h.run hn iI⟩
def zAV(ha:Wr (PE X a ta))(hK:X.K=K:=by rfl)(he:∀whole,a3f a X.env whole=(do let v <-whole;a3A a.pos;a0P [v] (truthy v)):=by intro _;rfl):Wr (PT X a<|SA K ta):=hK▸⟨zqB ha.run he⟩
def b9:Wr (dR X [] GA):=⟨YW⟩
def aE(h1:Wr (PS X st ts))(h2:Wr (dR X I0 us)):Wr (dR X (st::I0)<|FL ts us):=⟨zqp h1.run h2.run⟩
def zO(h1:Wr (PS X st ts)):Wr (dR X [st] ts):=⟨Hv h1.run⟩
def zmk:Wr (PS X (.Continue pos) Gz):=⟨zku⟩
def gG(he:Wr (PE X e te))(hs:a0v e Ž pos.line X.env=pure Ż:=by rfl):Wr (PS X (.Expr e pos)<|Gy te):=⟨YV he.run hs⟩
def zX(he:Wr (PE X e te)):Wr (PS X (.Return (ž e) pos)<|BX te):=⟨V7 he.run⟩
def bL{sa sb:Qa Ş}(hc:Wr (PT X c tA))(ha:Wr (dR X sa ts))(hb:Wr (dR X sb us)):Wr (PS X (.If c sa sb pos)<|FK tA ts us):=⟨zAE hc.run ha.run hb.run⟩
def rY(h:Wr (PS X st ts)):Wr (PS X st<|GF ts):=⟨Zg h.run⟩
def N9(hc:Wr (PT X c tA))(hb:Wr (dR X body ts))(hp:a4M (Đ X.prog X.w) X.A X.env X.xe:=by first|exact a4h|exact a3D):Wr (PS X (.While c body [] pos)<|Hj tA ts):=⟨zqt hp hc.run hb.run⟩
def jJ(hi:Wr (PI X tg iter wi))(hg:Wr (PG X tg g))(hb:Wr (dR X body ts))(hp:a4M (Đ X.prog X.w) X.A X.env X.xe:=by first|exact a4h|exact a3D)(hc:X.calm=ż:=by rfl)(hs:∀x,Τ iter X.env x=pure x:=by intro _;rfl):
  Wr (PS X (.For tg iter body [] pos)<|FE wi g ts):=⟨V0 hp hc hi.run hg.run hb.run hs⟩
def zQ(he:Wr (PE X e te))(hN:X.N.Nodup:=by first|assumption|exact Dn rfl)(hi:X.N[i]?=ž x:=by rfl)(hx:Loc X.env.scope x:=by first|exact a1T rfl|exact a1e rfl)(hs:a0v e (ž<|.Name x pos') pos.line X.env=pure Ż:=by rfl)(hf:X.fn x=ż\/X.env.scope.names.lookup x=ž .local:=by first|exact .inl rfl|exact .inr rfl|assumption):
  Wr (PS X (.Assign [.Name x pos'] e pos)<|oI te<|kN i):=⟨V3 hN hi hx he.run hs hf⟩
def jt(he:Wr (PE X e te))(hg:Wr (PG X tg g))(hs:a2l [tg] e pos.line X.env=pure Ż:=by rfl)(hw:a2m [tg] e X.env=pure Ž:=by rfl)(h1:(ϙ [tg] X.env).map (·.2)=[a0V tg X.env]:=by rfl):
  Wr (PS X (.Assign [tg] e pos)<|oI te g):=⟨V4 he.run hg.run hs hw h1⟩
def zAW{y:Str}{ta:TA}{px py pt:Pos}{kt k2 uH}(ha:Wr (PA X [a,b] ta))(hc:X.calm=ż:=by rfl)(hN:X.N.Nodup:=by first|assumption|exact Dn rfl)(hi:X.N[i]?=ž x:=by rfl)(hj:X.N[j]?=ž y:=by rfl)(de:i≠j:=by decide)
  (hx:X.env.scope.names.lookup x=ž .local:=by rfl) (hy:X.env.scope.names.lookup y=ž .local:=by rfl)
  (hw:a2m [.Tuple [.Name x px,.Name y py] kt pt] (.Tuple [a,b] k2 uH) X.env=pure (ž [x,y]):=by rfl)
  (hs:a2l [.Tuple [.Name x px,.Name y py] kt pt] (.Tuple [a,b] k2 uH) pos.line X.env=pure Ż:=by rfl):
  Wr (PS X (.Assign [.Tuple [.Name x px,.Name y py] kt pt] (.Tuple [a,b] k2 uH) pos)<|FG i j ta):=⟨V2 hc hN hi hj de hx hy ha.run hw hs⟩
end
def kF.okW{f:Qg}{k:Nat}(F:kF K x qual st f fd)(S:aX N ps (zI st))(len:∀vs H Q E,sp vs H Q E->vs.length=ps.length)
  (bh:∀(aQ:Qc) (A:Qf) (outer:Qa Env) (s:Qd) (H:Hp) (vs:Qa V) (Q:VK) (E:XK),aF k (A.deeper<|θ qual (zI st) s.heap.objs.size f aQ)->sp vs H Q E->
   ∃t,Wr (dR (jr iM P w K mg base N qual (zI st) f aQ A outer s H E).uM (gN st) t)/\t {nx:=λ_ H'=>Q .aK H',rt:=Q} (Ϲ N vs) H):bI P w K mg base iM (k+1) f fd ps sp :=
 F.ok S len λaQ A outer s H vs Q E hr h=>let ⟨t,w,q⟩:=bh aQ A outer s H vs Q E hr h;⟨t,w.run,q⟩
mutual
inductive DV (K:qc) (H:Hp):V->ϴ->Prop
 |aK:DV K H .aK .none
 |bl (b:Bool):DV K H (.bl b) (.bool b)
 |int (i:Int):DV K H (.int i) (.int i)
 |str (x:Str):DV K H (.str x) (.str x)
 |lst {a:Qg} {xs:Qa V} {ds:Qa ϴ} (h:bZ K H a xs) (t:mF K H xs ds):DV K H (.ref a) (.list ds)
 |tup {a:Qg} {xs:Qa V} {ds:Qa ϴ} (h:bT K H a xs) (t:mF K H xs ds):DV K H (.ref a) (.tuple ds)
inductive mF (K:qc) (H:Hp):Qa V->Qa ϴ->Prop
 |nil:mF K H [] []
 |cons {v:V} {d:ϴ} {vs:Qa V} {ds:Qa ϴ} (h:DV K H v d) (t:mF K H vs ds):mF K H (v::vs) (d::ds)
end
section
variable{X:Cx}{s:Qd}
def mF.reads(I:Inv X pins σ H s){v:Qa V}{d:Qa ϴ}{u:Qa Qc}(h:mF X.K H v d)(r:zY v u):∃as,ReadsAll s.heap u d as:=by
 refine mF.rec (motive_1:=λv d _=>∀{u:Qc},aP v u->∃as,Reads s.heap u d as) (motive_2:=λv d _=>∀{u:Qa Qc},zY v u->∃as,ReadsAll s.heap u d as) (λ{u} r=>?_) (λb {u} r=>?_) (λi {u} r=>?_) (λx {u} r=>?_) (λ{a xs ds} h _ t {u} r=>?_) (λ{a xs ds} h _ t {u} r=>?_) (λ{u} r=>?_) (λ{v d vs ds} _ _ a b {u} r=>?_) h r
 .cases r;exact⟨_,.none⟩
 .cases r;exact⟨_,.bool b⟩
 .have(t,rfl):=r;exact⟨_,.int i t⟩
 .have(t,rfl):=r;exact⟨_,.str x t⟩
 .cases r
  obtain⟨aq,rv,⟨o,n,e1,e2,e3,e4⟩,hz⟩:=I.list h;have(as,q):=t rv;exact⟨_,.list e1 e2 e4 q⟩
 .cases r
  obtain⟨aq,rv,⟨o,e1,e2,n,e4⟩,hz⟩:=I.tuple h;have(as,q):=t rv;exact⟨_,.tuple e1 e2 e4 q⟩
 .cases r;exact⟨_,.nil⟩
 .cases r with
  |cons r1 r2=>
   have(a1,q1):=a r1;have(a2,q2):=b r2;exact⟨_,.cons q1 q2⟩
def DV.reads(I:Inv X pins σ H s){d:ϴ}(h:DV X.K H v d)(r:aP v u):∃as,Reads s.heap u d as:=by
 have(_,q):=mF.reads I (.cons h .nil) (.cons r .nil);cases q;exact⟨_,‹_›⟩
end
section
variable{X:Cx}{a b c:į}{es rest:Qa į}{t:TA}{r:Qa V->Hp->VK->Prop}{rd:R2}{id:String}{tA ph:TT}{I0 body:Qa Ş}{ts us:TS}{g:TG}{gs:jD}{wi:TI}
def GN{y:Str}{py Aq:Pos}(hi:Wr (PI X tg iter wi))(hg:∀{C s H ex},Wr<|PG (fA X scope (oH X js) (qI tg++nE X js) C s H ex) tg g)(ht:∀{C s H ex},Wr<|rD (fA X scope (oH X js) (qI tg++nE X js) C s H ex) ifs tt)
  (he:∀{C s H ex},Wr<|PE (fA X scope (oH X js) (qI tg++nE X js) C s H ex) elt te)
  (hN:X.N.Nodup:=by first|assumption|exact Dn rfl) (kl:X.N[i]?=ž y:=by rfl) (hy:Loc X.env.scope y:=by first|exact a1T rfl|exact a1e rfl)
  (f:bH X (oH X js) (nE X js) js:=by repeat (first|exact bH.nil|refine bH.cons rfl (by first|exact a1T rfl|exact a1e rfl) rfl ?_)) (i9:closureFor scope X.env=pure (oH X js):=by rfl) (S:xC scope (nE X js):=by exact⟨rfl,a5P rfl,a5P rfl,a5P rfl,a5P rfl⟩) (j9:(qI tg).length=nt:=by rfl) (hc:X.calm=ż:=by rfl) (gw:∀σ:St,GW (c0 nt js σ) g:=by first|exact Oc (by decide) |exact LW<|Ob (by repeat (first|exact Py|refine Qk (by decide) ?_))) (hs:∀x,Τ iter X.env x=pure x:=by intro _;rfl)
  (hsw:a0v (.ListComp elt [⟨tg,iter,ifs,0⟩] scope pos) (ž<|.Name y py) Aq.line X.env=pure ż:=by rfl)
  (hf:X.fn y=ż\/X.env.scope.names.lookup y=ž .local:=by first|exact .inl rfl|exact .inr rfl|assumption):
  Wr (PS X (.Assign [.Name y py] (.ListComp elt [⟨tg,iter,ifs,0⟩] scope pos) Aq)<|oI (Ao wi nt js g tt te)<|kN i):=by
 refine⟨?_⟩;intro pins s σ H D I h;rw[exec_Assign_Name_used _ _ _ _ hsw];refine qa<|ς<|qa ?_;show Č _ X.A (do let _ <-comprehension (.ListComp elt [⟨tg,iter,ifs,0⟩] scope pos) scope X.env _ (newList []) Ż (Ŭ iter X.env) (ž<|a0V (.Name y py) X.env)) _ _ s;refine qa<|ŋ (a4s (use:=ž (a0V (.Name y py) X.env)) (Q:=λ_ s'=>SP X pins D .next s') rfl hs i9 S.kind S.names
  (aJ (hi.run pins s σ H _ I h) λv s1 h1=>aJ h1 λEw s2 h2=>?_)) (λ_ s' hq=>qb<|qb hq) λ_ _ e=>e
 have(it,fp,tn,J,H2,e,I2,T,bU,f2,q):=h2;subst e;refine Qw (RR:=λacc C=>compPost (Đ X.prog X.w) X.A X.xe (ž<|a0V (.Name y py) X.env) (λ_ s'=>SP X pins D .next s') acc C) hc I2 S f j9 T bU f2 (λC s H ex=>hg.run) (λC s H ex=>ht.run) (λC s H ex=>he.run) (gw σ) q ?_;intro D' C m s' ys H' z hD I' hn Kv EJ EI xq Ku;show Č _ _ (a0V (.Name y py) X.env<|.ref D') _ _ _;refine wpAny_assign_Name<|Qt (v:=.ref D') I' hN kl hy rfl (λEj I'' hZ=>?_) hf;have(a,sb,ha):=hZ;have ne:C≠a:=by
  rcases ha with rfl|ha
  .exact EJ
  .exact(EI _ _ ha).symm
 exact⟨m,hn.sameBut sb ne,λh' dI=>⟨_,_,I''.turned (it:=C) (λb o hb e=>dI.extBut b o hb e) Kv EJ (.inr xq) EI Ku,z D' hD⟩⟩
def fF{r:V->Qa V->Hp->VK->Prop}(K:qc)(hK:X.K=K)(pa:a3U T)(slot:Slot T name id)(qQ:a3d (.builtin id)=pure (.type "method_descriptor"))(hm:Bx X id r)(ho:Wr (PE X o te))(ha:Wr (PA X (e::es) t))
  (gq:ϐ o name X.env (Ŭ o X.env)=Ŭ o X.env:=by rfl)
  (u9:((Γ bp<|ķ (e::es) X.env).all (λx=>!x.1) && (backToKw bp<|a3m [] X.env).all (λx=>x.1.isSome)
   && decide ((e::es).length+([]:Qa a1o).length+(if([]:Qa a1o).isEmpty then 0 else 1) < 30))=ż:=by rfl)
  (gm:(apos.endLine==bp.line)=ż:=by rfl) (hs:eM e=ż:=by rfl) (cq:es.all eM=ż:=by rfl):
  Wr (PE X (.Call (.Attribute o name apos) (e::es) [] bp)<|Eg K T r te t):=hK▸⟨zAM pa slot qQ hm ho.run ha.run gq u9 gm (lN hs)<|qG cq⟩
def zAX{r:V->Qa V->Hp->VK->Prop}(K:qc)(hK:X.K=K)(pa:a3U T)(slot:Slot T name id)(qQ:a3d (.builtin id)=pure (.type "method_descriptor"))(hm:Bx X id r)(ho:Wr (PE X o te))
  (gq:ϐ o name X.env (Ŭ o X.env)=Ŭ o X.env:=by rfl) (gm:(apos.endLine==bp.line)=ż:=by rfl):
  Wr (PE X (.Call (.Attribute o name apos) [] [] bp)<|F0 K T r te):=hK▸⟨Wi pa slot qQ hm ho.run gq gm⟩
def G1(hg:Gl X x)(hm:X.mg x=ž u)(r:aP v u)(hd:(x==("__debug__":Str))=Ż:=by decide):Wr (PE X (.Name x pos)<|tC v):=⟨YZ hg hm r hd⟩
def N8:∀{ys:Qa Str} {us:Qa Qc},zY (ys.map V.str) us->StrsAre us ys
 |[],_,r=>by cases r;exact .nil
 |y::ys,_,r=>by
  cases r with
  |cons r1 r2=>
   have(t,rfl):=r1;exact .cons y t<|N8 r2
def LU(K:qc):V->Qa V->Hp->VK->Prop:=λx vs H Q=>∃sep a ys,x=.str sep/\vs=[.ref a]/\bZ K H a (ys.map V.str)/\(ys.map (·.length)).sum+ys.length * sep.length<=16777216/\Q (.str<|a0I sep ys) H
def N7(K:qc)(hK:X.K=K:=by rfl):Bx X "str.join" (LU K):=by
 intro pins s σ H x vs v us Q I rx rv h;have(sep,a,ys,rfl,rfl,hS,hz,q):=h;have(t,rfl):=rx;have(u,rfl,ru):=rv.one;cases ru;subst hK;have(aq,r,pl,_):=I.list hS;exact join_list pl.isList (by simpa using N8 r) hz λt' k=>⟨.str _,H,I.tok _,⟨_,rfl⟩,q⟩
noncomputable def vG(x:Str)(n:Int):Str:=if n < 1 then Str.empty else if(n==1 || x.length==0)=ż then x else⟨(č n.toNat x.cps).foldl (·++·) #[]⟩
def zmm:bF X (Ů .Mult) (λx y H Q=>∃z n,x=.str z/\y=.int n/\0<=n/\n<=1/\Q (.str<|vG z n) H):=by
 intro pins s σ H x y v u Q I rx ry h;have(z,n,rfl,rfl,h0,h1,q):=h;have(t,rfl):=rx;have(t',rfl):=ry;rcases(by omega:n=0\/n=1)with rfl|rfl
 .exact PySem.P.mul_str_none (by decide) (by decide) ⟨.str _,H,I.tok _,⟨_,rfl⟩,q⟩
 .refine PySem.P.mul_str (by decide) (λ_ z=>by simp at z) (λ_ z=>by simp at z) ?_
  rw[a5M (by decide),a5L (by rfl)];exact⟨.str _,H,I,⟨_,rfl⟩,q⟩
end
structure Kp (H H':Hp):Prop where
 tup:∀b xs,H b=ž (.tup xs)->H' b=ž (.tup xs)
 bj:∀b o u,H b=ž (.bj o u)->H' b=ž (.bj o u)
 own:∀b x,H b=ž (.own x)->H' b=ž (.own x)
def Kp.refl(H:Hp):Kp H H:=⟨λ_ _ h=>h,λ_ _ _ h=>h,λ_ _ h=>h⟩
def Kp.trans{H1 H2:Hp}(a:Kp H H1)(b:Kp H1 H2):Kp H H2:=⟨λx y h=>b.tup x y<|a.tup x y h,λx y z h=>b.bj x y z<|a.bj x y z h,λx y h=>b.own x y<|a.own x y h⟩
def eI.kp(s:eI H H'):Kp H H':=⟨λ_ _ h=>s _ _ h,λ_ _ _ h=>s _ _ h,λ_ _ h=>s _ _ h⟩
def Kp.Jc{xs:Qa V}(e:Kp H H')(h:bT K H a xs):bT K H' a xs:=by
 rcases h with (h|⟨o,h⟩) |h
 .exact .inl (.inl<|e.tup _ _ h)
 .exact .inl (.inr ⟨o,e.bj _ _ _ h⟩)
 .exact .inr h
mutual
inductive DT (K:qc) (H:Hp):V->ϴ->Prop
 |aK:DT K H .aK .none
 |bl (b:Bool):DT K H (.bl b) (.bool b)
 |int (i:Int):DT K H (.int i) (.int i)
 |str (x:Str):DT K H (.str x) (.str x)
 |tup {a:Qg} {xs:Qa V} {ds:Qa ϴ} (h:bT K H a xs) (t:mG K H xs ds):DT K H (.ref a) (.tuple ds)
inductive mG (K:qc) (H:Hp):Qa V->Qa ϴ->Prop
 |nil:mG K H [] []
 |cons {v:V} {d:ϴ} {vs:Qa V} {ds:Qa ϴ} (h:DT K H v d) (t:mG K H vs ds):mG K H (v::vs) (d::ds)
end
mutual
def DT.kp(e:Kp H H'):∀{v:V} {d:ϴ},DT K H v d->DT K H' v d
 |_,_,.aK=>.aK
 |_,_,.bl b=>.bl b
 |_,_,.int i=>.int i
 |_,_,.str x=>.str x
 |_,_,.tup h t=>.tup (e.Jc h)<|mG.kp e t
def mG.kp(e:Kp H H'):∀{v:Qa V} {d:Qa ϴ},mG K H v d->mG K H' v d
 |_,_,.nil=>.nil
 |_,_,.cons h t=>.cons (DT.kp e h)<|mG.kp e t
end
mutual
def DT.dv:∀{v:V} {d:ϴ},DT K H v d->DV K H v d
 |_,_,.aK=>.aK
 |_,_,.bl b=>.bl b
 |_,_,.int i=>.int i
 |_,_,.str x=>.str x
 |_,_,.tup h t=>.tup h<|mG.dv t
def mG.dv:∀{v:Qa V} {d:Qa ϴ},mG K H v d->mF K H v d
 |_,_,.nil=>.nil
 |_,_,.cons h t=>.cons (DT.dv h)<|mG.dv t
end
end Internal
namespace HT
open PySem PyProof.Rows
open PySem.SeqAt
open PySem.MeetsSeq PySem.MeetsSeq2 PySem.MeetsSeq3
section
variable{prog:a3C} {w:World} {A:Around} {E:Θ->ι->Prop} {s:ι}
def eE{t sl:Addr}{items:Array Θ}{vl vu:Θ}{lo hi:Option Int}{Q:Θ->ι->Prop}(ht:a2P s.heap t items)(hs:s.heap.IsSliceOf sl vl vu .none)(pl:a1Q vl lo)(pu:a1Q vu hi)
  (hw:aY items.size 0 lo=0/\aY items.size items.size hi=items.size) (h:Q (.ref t) s):Č (Đ prog w) A (a0Q (.ref t)<|.ref sl) Q E s:=by
 have(os,uY,EH,A1):=id hs;have Ko:s.TypeIs (.ref sl) "slice":=⟨os,uY,EH⟩;unfold a0Q
 try with_reducible refine Ŋ ?_
 first|refine Ī (œ ?_) |skip
 refine Ī<|wpAny_sequenceKey ht.typeIs (by decide) ?_;refine Ī (ő (name:=ŧ "__getitem__") ht.typeIs ű
  (ĸ ű ht.typeIs entry_tuple_getitem ?_<|args_tuple_getitem _ _))
 show Č _ _ (Λ (.ref t) >>= _) _ _ s;refine Ī<|tupleItemsOf_ ht ?_;refine Ī<|a2D Ko ?_;rw[a5L (by decide)];refine Ī<|RM hs pl pu ?_;have JL:(((aY items.size 0 lo:Nat):Int)==0 && (1:Int)==1 && (aY items.size items.size hi - aY items.size 0 lo)==items.size)=ż:=by
  rw[hw.1,hw.2];simp
 show Č _ _ (if(((aY items.size 0 lo:Nat):Int)==0 && (1:Int)==1 && (aY items.size items.size hi - aY items.size 0 lo)==items.size)=ż then _ else _) _ _ s;rw[a5L JL];refine Ī (m:=Builtin.Tuple.tupleIsExact _)<|Ī<|a2D ht.typeIs<|œ ?_;rw[a5L (by decide)];exact Ī<|ũ<|œ ⟨_,rfl,œ h⟩
end
end HT
namespace Internal
open PySem PySem.Spec PyProof.Rows
section
variable{X:Cx}
def zY.at{xs:Qa V}(h:zY xs us)(e:us[i]?=ž u):∃x,xs[i]?=ž x/\aP x u:=by
 induction h generalizing i with
 |nil=>simp at e
 |cons r _ ih=>cases i with
  |zero=>cases(show ž _=ž _ from e);exact⟨_,rfl,r⟩
  |succ i=>exact ih e
def zq3{s:Qd}{p:Qg}{xs:Qa V}(I:Inv X pins σ H s)(hh:A.handled=Ž)(hq:bZ X.K H p xs\/bT X.K H p xs)
  (h:∀(it:Qg) (fp wr:Qa Qg) (n:Nat) (P:Nat->Qc->Prop) (St:Nat->Į->Prop) (s2:Qd),Walks X.prog X.w A it fp wr n P St->St 0 s2.heap->(∀b∈fp,b < s2.heap.objs.size)->n=xs.length->(∀i v,P i v->∃x,xs[i]?=ž x/\aP x v)->
   (∀h' tk,(∀b o,b∉wr->s2.heap.get? b=ž o->h'.get? b=ž o)->Inv X pins σ H {s2 with heap:=h',toks:=tk})->Q (.ref it) s2):
  Č (Đ X.prog X.w) A (pyIter<|.ref p) Q E s:=by
 rcases hq with hq|hq
 .have(aq,r,pl,hz):=I.list hq
  have hp:p < s.heap.objs.size:=by
   have(o,n,e,_):=pl;exact qh e
  have ne:p≠s.heap.objs.size:=qj hp;refine wpAny_pyIter_list pl.isList<|h s.heap.objs.size [s.heap.objs.size,p] [s.heap.objs.size] aq.toArray.size _ _ _ (Walks.list hh _ p ne aq.toArray) ⟨⟨_,qg _ rfl,rfl,rfl⟩,?_⟩ (λb hb=>?_) (by rw[ē];exact r.length.symm) (λi v e=>zY.at r (by simpa using e)) λh' tk hk=>?_
  .have(o,n,e,c,d,f):=pl
   exact⟨o,qd _ e,c,n,f⟩
  .rw[Ŏ]
   rcases qu.mp hb with z|z
   .rw[z];exact ê _
   .rw[qp.mp z];exact è hp
  .exact I.kept λb u e=>hk b u (λz=>absurd (qh e) (by rw[qp.mp z];exact Ð _))<|qd _ e
 .have(aq,r,pl,hz):=I.tuple hq
  have hp:p < s.heap.objs.size:=by
   have(o,e,_):=pl;exact qh e
  have ne:p≠s.heap.objs.size:=qj hp;refine wpAny_pyIter_tuple (show s.heap.IsTuple p aq.toArray from pl)<|h s.heap.objs.size [s.heap.objs.size,p] [s.heap.objs.size] aq.toArray.size _ _ _ (Walks.tuple hh _ p ne aq.toArray) ⟨⟨_,qg _ rfl,rfl,rfl⟩,?_⟩ (λb hb=>?_) (by rw[ē];exact r.length.symm) (λi v e=>zY.at r (by simpa using e)) λh' tk hk=>?_
  .have(o,e,c,n,f):=pl
   exact⟨o,qd _ e,c,n,f⟩
  .rw[Ŏ]
   rcases qu.mp hb with z|z
   .rw[z];exact ê _
   .rw[qp.mp z];exact è hp
  .exact I.kept λb u e=>hk b u (λz=>absurd (qh e) (by rw[qp.mp z];exact Ð _))<|qd _ e
end
section
variable{X:Cx}
def Qj(val:Nat->Int):∀k,a3B (λi j=>decide<|val i > val j) k<=k/\∀i,i<=k->val i<=val (a3B (λi j=>decide<|val i > val j) k)
 |0=>⟨qe _,λi hi=>by cases Nat.le_zero.mp hi;exact a2B _⟩
 |k+1=>by
  have(h1,h2):=Qj val k;unfold a3B
  by_cases c:val (k+1) > val (a3B (λi j=>decide<|val i > val j) k)
  .rw[a5L<|a5N c]
   refine⟨qe _,λi hi=>?_⟩;rcases Ó i (k+1)with z|z
   .have:=h2 i (by omega)
    omega
   .have:i=k+1:=by omega
    subst this;exact a2B _
  .rw[a5M (by rw[a5O c];exact qf)]
   refine⟨by omega,λi hi=>?_⟩;rcases Ó i (k+1)with z|z
   .exact h2 i (by omega)
   .have:i=k+1:=by omega
    subst this;omega
end
section
variable{s:Qd}
def Io{t:Qg}{items:Array Qc}{x:Qc}(hi:s.heap.IsTupleIter it t i)(ht:s.heap.IsTuple t items)(hx:items[i]?=ž x)
  (q:∀h',h'.IsTupleIter it t (i+1)->Ϧ it s.heap h'->Q x {s with heap:=h'}):Č (Đ prog w) A (Ň<|.ref it) Q E s:=by
 have(oi,e1,e2,e3):=id hi;have(ot,f1,f2,nt,f3):=ht;unfold Ň;refine qa (ő (name:=ŧ "__next__") hi.typeIs a0o
  (ĸ a0o hi.typeIs a5B ?_<|args_tupleiter_next _))
 show Č _ _ (field (.ref it) 0 >>= _) _ _ s;refine qa<|ļ e1 e3 (x:=.ref t) rfl ?_;show Č _ _ (if(Ė t==đ)=ż then _ else _) _ _ s;rw[a5M (show ¬((Ė t==đ)=ż) from qf)];show Č _ _ (field (.ref it) 1 >>= _) _ _ s;refine qa<|ļ e1 e3 (x:=.int i 0) rfl ?_;show Č _ _ (seqItems? (.ref t) >>= _) _ _ s;refine qa<|ϓ f1 f3 ?_;simp only[İ,hx];refine qa<|ŷ e1 e3 (by simp)<|qb ⟨x,rfl,qb<|q _ ?_<|é ..⟩;refine⟨_,Ô _ e1<|Ú<|æ e3 _,(a2f ..).trans e2,?_⟩;rw[a4W e3];simp[Ÿ]
def Qi{t:Qg}{items:Array Qc}(hh:A.handled=Ž)(hi:s.heap.IsTupleIter it t i)(ht:s.heap.IsTuple t items)(hx:items[i]?=Ž)
  (q:∀h' e,Heap.ExtBut it s.heap h'->(∃o,h'.get? e=ž o/\o.cls=.type "StopIteration")->E (.ref e) {s with heap:=h'}):Č (Đ prog w) A (Ň<|.ref it) Q E s:=by
 have(oi,e1,e2,e3):=id hi;have(ot,f1,f2,nt,f3):=ht;unfold Ň;refine qa (ő (name:=ŧ "__next__") hi.typeIs a0o
  (ĸ a0o hi.typeIs a5B ?_<|args_tupleiter_next _))
 show Č _ _ (field (.ref it) 0 >>= _) _ _ s;refine qa<|ļ e1 e3 (x:=.ref t) rfl ?_;show Č _ _ (if(Ė t==đ)=ż then _ else _) _ _ s;rw[a5M (show ¬((Ė t==đ)=ż) from qf)];show Č _ _ (field (.ref it) 1 >>= _) _ _ s;refine qa<|ļ e1 e3 (x:=.int i 0) rfl ?_;show Č _ _ (seqItems? (.ref t) >>= _) _ _ s;refine qa<|ϓ f1 f3 ?_;simp only[İ,hx];refine qa<|ũ<|qa<|ŷ e1 e3 (by simp) ?_;show Č _ _ (newExc (.type "StopIteration") [] >>= _) _ _ _;refine qa ?_;simp only[newExc,newTuple];refine qa<|qy ?_ (by show(0:Nat)<=Ď;exact À _);refine qa (m:=a1L _ _)<|wpAny_of_eq (a:=đ) (by first|rfl | (simp only[a1L];rfl)) ?_;refine qy ?_ (by first|trivial|size_fits);simp only[raiseNew];refine qa (wpAny_handled ?_)
 first|rw[show A.in1.handled=Ž from hh] |rw[hh]
 refine qa<|qb<|wpAny_throw ?_;exact q _ _ (((é ..).extBut.push _).push _) ⟨_,qg _ rfl,rfl⟩
end
def QV(hh:A.handled=Ž)(it t:Qg)(ne:t≠it)(items:Array Qc):
  Draws prog w A it [it,t] items.size (λi v=>items[i]?=ž v) (λi h=>h.IsTupleIter it t i/\h.IsTuple t items) where
 live:=λ_ _ st=>let ⟨o,ho,_⟩:=st.1;⟨o,ho⟩
 frame:=λ_ _ _ st hk=>by
  obtain⟨⟨o,a1,a2,a3⟩,⟨o2,b1,b2⟩⟩:=st;exact⟨⟨o,hk it (by simp) o a1,a2,a3⟩,⟨o2,hk t (by simp) o2 b1,b2⟩⟩
 item:=λi s Q E hi st q=>by
  refine Io st.1 st.2 (x:=items[i]) (by simp[hi]) λh' Kb dI=>?_;exact q _ h' s.toks (by simp[hi]) ⟨Kb,st.2.extBut dI.extBut ne⟩ dI
 done:=λs Q E st q=>Qi hh st.1 st.2 (by simp) q
def zpQ(t:Qg)(items:Array Qc)(n:Nat)(jC:Qb Qg)(sl:Array (Qb Qc)):
  Meets (Builtin.«enumerate.__new__» ⟨[.type "enumerate",.ref t],[]⟩) (λ_ R s=>s.heap.get? t=ž {cls:=.type "tuple",dict:=jC,data:=.seq items n,slots:=sl}/\
   R (.ok<|.ret<|.ref (s.heap.push {cls:=.type "tuple_iterator",data:=.fields #[.ref t,.int 0 0]}).objs.size)
    {s with heap:=(s.heap.push {cls:=.type "tuple_iterator",data:=.fields #[.ref t,.int 0 0]}).push {cls:=.type "enumerate",data:=.fields #[.none,.bool Ż,.ref s.heap.objs.size,Ÿ 0,.none,.none]}}):=
 .of_wp λprog w A R s h=>by
  have(hp,g,d,tk,os):=s;have(hl,h):=h;have JP:=sub_enumerate;have hT:Heap.IsTuple (Shared.heap ⟨hp,g,d,tk,os⟩) t items:=⟨_,hl,rfl,n,rfl⟩
  wp_walk using ŉ hl
  refine wpAny_stack_any λst=>qb ?_;split
  .rename_i c _ _ _ _ _
   cases(c==a2H "enumerate")
   .wp_walk using ŉ hl,wpAny_pyIter_tuple hT
    exact⟨_,rfl,h⟩
   .wp_walk using ŉ hl,wpAny_pyIter_tuple hT
    exact⟨_,rfl,h⟩
  .wp_walk using ŉ hl,wpAny_pyIter_tuple hT
   exact⟨_,rfl,h⟩
section
variable{s:Qd}
def zmn{t:Qg}{items:Array Qc}(hT:s.heap.IsTuple t items)
  (h:∀h',IsEnum h' (s.heap.objs.size+1) s.heap.objs.size 0 .none->h'.IsTupleIter s.heap.objs.size t 0->(∀b o,s.heap.get? b=ž o->h'.get? b=ž o)->Q (.ref<|s.heap.objs.size+1) {s with heap:=h'}):
  Č (Đ prog w) A (call (.type "enumerate") [.ref t]) Q E s:=by
 obtain⟨⟨c,jC,dt,sl⟩,hl,hc,n,hd⟩:=hT;replace hc:c=.type "tuple":=hc;replace hd:dt=.seq items n:=hd;subst hc hd;refine callType_new F.called_enumerate (by decide) (F.typeCall_enumerate_1 _) (F.newCall_enumerate_1 _) (λobj=>F.args_object_init_2 obj _) F.entry_enumerate_new
  (zpQ t items n jC sl) ⟨hl,?_⟩
 have hz:(s.heap.push {cls:=.type "tuple_iterator",data:=.fields #[.ref t,.int 0 0]}).objs.size=s.heap.objs.size+1:=Ŏ ..;show _/\_;rw[hz];have he:IsEnum ((s.heap.push {cls:=.type "tuple_iterator",data:=.fields #[.ref t,.int 0 0]}).push
   {cls:=.type "enumerate",data:=.fields #[.none,.bool Ż,.ref s.heap.objs.size,Ÿ 0,.none,.none]}) (s.heap.objs.size+1) s.heap.objs.size 0 .none:=by
  have z:=qg (s.heap.push {cls:=.type "tuple_iterator",data:=.fields #[.ref t,.int 0 0]})
   (o:={cls:=.type "enumerate",data:=.fields #[.none,.bool Ż,.ref s.heap.objs.size,Ÿ 0,.none,.none]}) rfl
  rw[hz]at z;exact z
 exact⟨⟨_,he,rfl⟩,h _ he ⟨_,qd _<|qg _ rfl,rfl,rfl⟩ λb o x=>qd _<|qd _ x⟩
end
section
variable{X:Cx}{s:Qd}
def Inv.fJ{t':Nat}{wr:Qa Qg}(I:Inv X pins σ H s)(k:∀b o,b∉wr->s.heap.get? b=ž o->h'.get? b=ž o)(hf:∀b∈wr,jH X pins H b):Inv X pins σ H {s with heap:=h',toks:=t'}:=by
 have AA:∀b u,H b=ž u->b∉wr:=λb u e z=>by rw[(hf b z).1]at e;cases e
 refine I.step (g':=s.gens) (d':=s.drawn) (ch:=wr) (λb hb=>?_) (λb o _ _ hc e _=>k b o hc e) (λb o _ _ hc e _=>⟨o.slots,k b o hc e⟩) (λ_ _ _ _ n=>n)
  (λb o hc e=>⟨o,k b o hc e⟩) (λ_ _ e=>e) (λ_ _ _ e=>e) (λb ps e=>⟨#[],by rw[e];simp⟩) (λm hm=>?_) (λb u e=>?_) I.bare
 .have(_,z1,_,z3,z4,z5):=hf b hb
  exact⟨z3,z1,z4,z5⟩
 .have(o,es,ep,ho,r):=hm
  exact⟨o,es,ep,k _ o (λz=>(hf _ z).2.1 rfl) ho,r⟩
 .refine(I.aC b u e).eA (λc v hc q=>k c v ?_ q) (λ_ q=>q) λ_ _ q=>q
  rcases hc with z|z
  .rw[z];exact AA b u e
  .exact AA c _ z
def Inv.sO{o:HO}(I:Inv X pins σ H s)(f:jH X pins H a)(ha:X.bG.heap.objs.size<=a)(new:bV X.prog X.w X.K (upd H a o) s.heap a o):Inv X pins σ (upd H a o) s:=by
 have(f0,f1,f2,f3,f4,f5):=f;refine⟨I.ok,I.os,I.bare,PD I.base f0 ha,I.loc,I.cell,?_,λx c e=>?_,λp hp=>?_,Ql I.aC f0 new,I.len⟩
 .rw[zA<|ĭ f1]
  exact I.free
 .rw[zA<|f4 x c e]
  exact I.bo x c e
 .have(p1,p2,p3):=I.pin p hp
  refine⟨p1,?_,p3⟩;rw[zA<|f5 p hp];exact p2
end
def UO(K:qc)(a:Qg):It :=
 ⟨λi H=>∃xs x,bT K H a xs/\xs[i]?=ž x,λi H x H'=>∃T,H T=Ž/\x=.ref T/\∀xs v,bT K H a xs->xs[i]?=ž v->H'=upd H T (.tup [.int i,v]),λi H=>∃xs,bT K H a xs/\xs.length=i⟩
def zpR{k:Nat}(e it t:Qg)(EF:e≠it)(Tv:t≠e)(Tu:t≠it):
  Turn P w K (.Tuple elts k pos) (UO K t) [e,it] e (λi h=>(∃old,IsEnum h e it i old)/\h.IsTupleIter it t i) where
 mem:=by simp
 obj:=λi h st b hb=>by
  obtain⟨⟨old,he⟩,⟨o,ho,_,hd⟩⟩:=st;rcases qu.mp hb with z|z
  .subst z
   exact⟨_,he,λv q=>by
    have q':a4o _=a2q v:=q;cases q'⟩
  .rw[qp.mp z]
   exact⟨o,ho,λv q=>by rw[hd]at q;cases q⟩
 keep:=λi h h' st kk=>by
  obtain⟨⟨old,he⟩,⟨o,ho,hc,hd⟩⟩:=st;exact⟨⟨old,kk e (by simp) _ he⟩,⟨o,kk it (by simp) _ ho,hc,hd⟩⟩
 item:=by
  intro X hP hw hK hc i pins s σ H E I hf st hg;subst hP hw hK;have(xs,x,hq,hx):=hg;have(aq,rv,ht,hz):=I.tuple hq;have hi:i < aq.toArray.size:=by
   rw[ē,<-rv.length];exact(qk.mp hx).1
  have W:=a4x (QV (prog:=X.prog) (w:=X.w) (A:=X.A.in1) (I.ok.hd hc) it t Tu aq.toArray) e EF (by simp[EF,ĭ Tv]) (by simp);refine W.item i s _ _ hi ⟨st.1,st.2,ht⟩ λT vals h1 tk hP hT qP mid kk=>?_;refine⟨_,rfl,W.go elts k pos i T {s with heap:=h1,toks:=tk} _ _ mid λh2 bU Tn=>?_⟩;have(tt,u,hu,rfl):=hP;have apart:=W.apart _ _ _ mid;have I2:Inv X pins σ H {s with heap:=h2,toks:=tk}:=I.fJ (wr:=[e,it]) (λb o hb q=>Tn b o hb<|kk b o hb q) hf;have fT:jH X pins H T:=I.iA hT (I.aC.fresh hT);have ru:aP x u:=by
   have(u',eu,r):=rv.get hx;have:u'=u:=by
    have z:aq[i]?=ž u:=by simpa using hu
    rw[eu]at z;exact qw z
   rw[<-this];exact r
  have(oT,g1,g2,nT,g3):=qP;have I3:Inv X pins σ (upd H T<|.tup [.int i,x]) {s with heap:=h2,toks:=tk}:=I2.sO fT (qx I.sz hT) ⟨by show 2<=Ď;decide,[.int i tt,u],.cons ⟨tt,rfl⟩<|.cons ru .nil,oT,Tn T oT apart g1,g2,⟨nT,g3⟩,.inr ⟨_,_,_,rfl⟩⟩;refine⟨.ref T,_,I3,rfl,⟨T,I.aC.fresh hT,rfl,λlS v uW hv=>?_⟩,⟨?_,bU.2.1⟩,λb hb=>?_⟩
  .have:=I.cS hq uW
   subst this;rw[hx]at hv;cases hv;rfl
  .exact bU.1
  .have ne:b≠T:=λz=>apart (by rw[<-z];exact hb)
   rw[zA ne];exact(hf b hb).1
 done:=by
  intro X hP hw hK hc i pins s σ H E I hf st hg;subst hP hw hK;have(xs,hq,hl):=hg;have(aq,rv,ht,hz):=I.tuple hq;have hi:i=aq.toArray.size:=by
   rw[ē,<-rv.length];exact hl.symm
  have W:=a4x (QV (prog:=X.prog) (w:=X.w) (A:=X.A.in1) (I.ok.hd hc) it t Tu aq.toArray) e EF (by simp[EF,ĭ Tv]) (by simp);refine W.done s _ _ ?_ λh1 tk kk=>⟨rfl,I.fJ (wr:=[e,it]) kk hf⟩;rw[<-hi];exact⟨st.1,st.2,ht⟩
 self:=λ_ _ _ _ _ st h=>by
  obtain⟨⟨old,he⟩,_⟩:=st;exact wpAny_pyIter_enum he h
section
variable{X:Cx}{k:Nat}
def LR(K:qc)(ta:TA):TI:=λσ H R=>ta σ H λvs H1=>∃a,vs=[.ref a]/\(∃xs,bT K H1 a xs)/\R (UO K a) H1
def Zc{a:į}{ta:TA}(ha:Wr (PA X [a] ta))(hK:X.K=K:=by rfl)(hg:Gl X "enumerate":=by exact rfl)(hm:X.mg "enumerate"=Ž:=by exact vS ‹Bl _ _› (by decide))(hs:eM a=ż:=by rfl):
  Wr (PI X (.Tuple elts k uB) (.Call (.Name "enumerate" p) [a] [] pos)<|LR K ta):=by
 subst hK;refine⟨?_⟩;intro pins s σ H R I h;refine Call_<|wz I hg hm boot_enumerate<|ë (aJ (ha.run pos pins s σ H _ I h) λus s1 hZ=>?_) (lN hs) rfl;have(vs,H1,I1,r1,q1):=hZ;obtain⟨t,e,⟨xs,hq⟩,q⟩:=q1;subst e;have(u,rfl,ru):=pW r1;cases ru;have(aq,rv,ht,hz):=I1.tuple hq;have tl:t < s1.heap.objs.size:=by
  have(o,e,_):=ht;exact qh e
 refine zmn (show s1.heap.IsTuple t aq.toArray from ht) λh' he hit kk=>?_;have I2:Inv X pins σ H1 {s1 with heap:=h'}:=I1.kept (t':=s1.toks) kk;refine wpAny_pyIter_enum he ?_;refine⟨s1.heap.objs.size+1,[s1.heap.objs.size+1,s1.heap.objs.size],_,_,H1,rfl,I2,zpR (s1.heap.objs.size+1) s1.heap.objs.size t (Nat.succ_ne_self _) (qj<|è tl)<|qj tl,⟨⟨_,he⟩,hit⟩,λb hb=>?_,q⟩;rcases qu.mp hb with z|z
 .subst z
  exact I1.iA (Ĉ _)<|I1.aC.fresh<|Ĉ _
 .rw[qp.mp z]
  exact I1.iA (qe _)<|I1.aC.fresh<|qe _
end
section
variable{X:Cx}{i v:į}{k:Nat}
def uq:Wr (PE X (.Dict [] [] pos) CD):=⟨zqN⟩
def rX(hr:aF k X.A)(ho:Wr (PE X o td))(hi:Wr (PE X i ty))(hs:FZ i:=by intro _ _;rfl):Wr (PE X (.Subscript o i pos)<|GH X.K td ty):=⟨Zj (yh hr) ho.run hi.run hs⟩
def Cz(hr:aF k X.A)(ho:Wr (PE X o td))(hi:Wr (PE X i ty))(hv:Wr (PE X v tv))(hs:a0v v (ž<|.Subscript o i pos') pos.line X.env=pure Ż:=by rfl):
  Wr (PS X (.Assign [.Subscript o i pos'] v pos)<|GG X.K td ty tv):=⟨Zi (yh hr) ho.run hi.run hv.run hs⟩
end
end Internal
namespace Internal
open PySem PySem.W PyProof.Rows
section
noncomputable def KR(rk:Nat->Int)(p:Array Nat)(i:Nat):Int:=rk (p.getD i 0)
noncomputable def Td(rk:Nat->Int)(i j:Nat):Bool:=decide (rk i < rk j)
def Pm(n:Nat)(p:Array Nat):Prop:=p.Perm (ĥ n).toArray
def Pm.size{p:Array Nat}(h:Pm n p):p.size=n:=by
 have:=h.size_eq;simpa using this
def Up(rk:Nat->Int)(p:Array Nat)(m:Nat):Prop:=∀i j,i<=j->j < m->KR rk p i<=KR rk p j
end
end Internal
namespace Internal
open PySem PySem.Spec PyProof.Rows
open PySem.AutoSeq1 (wpAny_loadPart')
open MeetsSeq MeetsSeq2 MeetsSeq3 SeqRoads2
noncomputable def cN:Qa Int->Qa Int->Bool
 |[],[]=>Ż
 |[],_::_=>ż
 |_::_,[]=>Ż
 |a::as,b::bs=>if a=b then cN as bs else decide (a < b)
def zpS{s:Qd}{a:Int}{t u:Tok}(h:Q (.bool<|decide<|a < b) s):Č (Đ prog w) A (richCompare .Lt (.int a t)<|.int b u) Q E s:=wpAny_lt_int h
end Internal
namespace Internal
open PySem PySem.Spec PySem.W PyProof.Rows
section
variable{s:Qd}
def Sx(prog:Qe)(w:Qh)(A:Qf)(rk:Nat->Int)(vs:Qa Qc)(κ:a2J)(s:Qd):Prop :=
 ∀i j (C:Bool->Qd->Prop),i < vs.length->j < vs.length->C (Td rk i j) s->Č (Đ prog w) A (keyLt' κ (vs.getD i đ)<|vs.getD j đ) C (λ_ _=>False) s
end
def um:∀a:Qa Int,cN a a=Ż
 |[]=>rfl
 |a::as=>by unfold cN;rw[a5L rfl];exact um as
def wI:∀{a b c:Qa Int},cN a b=ż->cN b c=ż->cN a c=ż
 |[],[],_,h,_=>by cases h
 |[],_::_,[],_,h=>by cases h
 |[],_::_,_::_,_,_=>rfl
 |_::_,[],_,h,_=>by cases h
 |_::_,_::_,[],_,h=>by cases h
 |a::as,b::bs,c::cs,h1,h2=>by
  unfold cN at h1 h2 ⊢
  by_cases e1:a=b
  .subst e1
   rw[a5L rfl]at h1
   by_cases e2:a=c
   .rw[a5L e2]at h2 ⊢
    exact wI h1 h2
   .rw[a5M e2]at h2 ⊢
    exact h2
  .rw[a5M e1]at h1
   have l1:=a5P h1
   by_cases e2:b=c
   .subst e2
    rw[a5M e1];exact h1
   .rw[a5M e2]at h2
    have l2:=a5P h2;rw[a5M (by omega)];exact a5N (by omega)
def wH:∀{a b:Qa Int},a≠b->cN a b=ż\/cN b a=ż
 |[],[],h=>absurd rfl h
 |[],_::_,_=>.inl rfl
 |_::_,[],_=>.inr rfl
 |a::as,b::bs,h=>by
  unfold cN
  by_cases e:a=b
  .subst e
   rw[a5L rfl,a5L rfl];exact wH λz=>h (by rw[z])
  .rw[a5M e,a5M λz=>e z.symm]
   rcases(by omega:a < b\/b < a)with z|z
   .exact .inl (a5N z)
   .exact .inr (a5N z)
def Pw{p q:α->Bool}:∀{l:Qa α} {x:α},(∀y∈l,p y=ż->q y=ż)->x∈l->q x=ż->p x=Ż->l.countP p < l.countP q
 |y::l,x,h,m,hq,hp=>by
  rw[a5q,a5q];have le:l.countP p<=l.countP q:=List.countP_mono_left λz hz=>h z<|qm _ hz;rcases qu.mp m with e|m
  .subst e
   rw[hp,hq];simp;omega
  .have:=Pw (λz hz=>h z<|qm _ hz) m hq hp
   by_cases c:p y=ż
   .rw[c,h y qo c]
    simp;omega
   .rw[a5M c]
    split<;>omega
def oG(ps:Qa (Qa Int))(i:Nat):Int:=((ĥ ps.length).countP λk=>cN (ps.getD k []) (ps.getD i []):Nat)
def yT{ps:Qa (Qa Int)}(hi:i < ps.length)(h:cN (ps.getD i []) (ps.getD j [])=ż):oG ps i < oG ps j:=by
 unfold oG;have:=Pw (p:=λk=>cN (ps.getD k [])<|ps.getD i []) (q:=λk=>cN (ps.getD k [])<|ps.getD j []) (l:=ĥ ps.length) (x:=i) (λy _ hy=>wI hy h) (Õ.mpr hi) h (um _);omega
def yZ{ps:Qa (Qa Int)}(h:ps.Nodup)(hi:i < ps.length)(hj:j < ps.length)(ne:i≠j):ps.getD i []≠ps.getD j []:=by
 have e:∀k (hk:k < ps.length),ps.getD k []=ps[k]:=λk hk=>by simp[hk]
 rw[e i hi,e j hj];intro z;rcases a4X ne with l|l
 .exact Ý.mp h i j hi hj l z
 .exact Ý.mp h j i hj hi l z.symm
def Zb{ps:Qa (Qa Int)}(h:ps.Nodup)(hi:i < ps.length)(hj:j < ps.length):Td (oG ps) i j=cN (ps.getD i []) (ps.getD j []):=by
 cases c:cN (ps.getD i []) (ps.getD j [])with
 |true=>exact a5N<|yT hi c
 |false=>
  refine a5O λz=>?_
  by_cases e:i=j
  .subst e;omega
  .rcases wH (yZ h hi hj e)with y|y
   .rw[c]at y;cases y
   .have:=yT hj y
    omega
def Pm.list{p:Array Nat}(h:Pm n p):p.toList.Perm (ĥ n):=by
 have:=h.toList;simpa using this
def Wa{ps:Qa (Qa Int)}(h:ps.Nodup){p:Array Nat}(hp:Pm ps.length p)(hu:Up (oG ps) p ps.length):(p.toList.map λi=>ps.getD i []).Pairwise λa b=>cN a b=ż:=by
 have hs:=hp.size;have hl:=hp.list;have nd:p.toList.Nodup:=hl.nodup_iff.mpr a5m;refine ý.mpr<|Ý.mpr λi j hi hj de=>?_;have e:∀k (hk:k < p.toList.length),KR (oG ps) p k=oG ps p.toList[k]:=λk hk=>by
  unfold KR;have kf:k < p.size:=by simpa using hk
  congr 1;simp[a4G,kf]
 have m:∀k (hk:k < p.toList.length),p.toList[k] < ps.length:=λk hk=>Õ.mp<|hl.mem_iff.mp<|a2p hk;have le:=hu i j (by omega) (by rw[Ġ]at hj;omega);rw[e i hi,e j hj]at le;have ne:p.toList[i]≠p.toList[j]:=Ý.mp nd i j hi hj de;rcases wH (yZ h (m i hi) (m j hj) ne)with z|z
 .exact z
 .have:=yT (m j hj) z
  omega
def zq4{aq:Array Qc}(t:a2P h a aq)(k:∀o,h.get? a=ž o->h'.get? a=ž o):a2P h' a aq:=by
 have(o,e,r):=t;exact⟨o,k o e,r⟩
def Za{ms:Qa Int}:(ns.map λn=>(Δ n:Key))=(ms.map λn=>(Δ n:Key))↔ns=ms:=by
 constructor
 .intro h
  have:=congrArg (a2Z λk:Key=>match k with |.inl n=>n |.inr _=>0) h;rw[ĳ,ĳ]at this;simpa [Function.comp_def] using this
 .rintro rfl;rfl
def P9(r:zY vs us):∀is:Qa Nat,(∀i∈is,i < vs.length)->zY (is.map λi=>vs.getD i .aK) (is.map λi=>us.getD i đ)
 |[],_=>.nil
 |i::is,h=>by
  have hi:=h i qo;have(u,e,ru):=r.get (ql hi);refine .cons ?_<|P9 r is λj hj=>h j<|qm _ hj;show aP (vs.getD i .aK) (us.getD i đ);rw[qA,qA,ql hi,e];exact ru
end Internal
namespace Internal
open PySem PySem.Spec PyProof.Rows
def xU(h:Į)(d:Qg)(es:Array Ϡ)(ep:Nat):Prop:=∃o,h.get? d=ž o/\o.ExactDict/\o.data=.dict es ep
def xU.typeIs{s:Qd}{d:Qg}(r:xU s.heap d es ep):s.TypeIs (.ref d) "dict":=by
 have(o,e,x,_):=r;exact⟨o,e,x.1⟩
section
variable{s:Qd}{d:Qg}
def zq6(hd:(d==Ĳ)=Ż)(r:xU s.heap d es ep)
  (q:∀h':Į,h'.IsKeyIter s.heap.objs.size d 0 es.size ep->(∀b o,s.heap.get? b=ž o->h'.get? b=ž o)->Q (.ref s.heap.objs.size) {s with heap:=h'}):Č (Đ prog w) A (pyIter<|.ref d) Q E s:=by
 have hT:=r.typeIs;have(o,e,_,dat):=r;refine wpAny_pyIter_slot hT F.slot_dict_iter<|ĸ F.slot_dict_iter hT F.entry_dict_iter ?_<|F.args_dict_iter_1 _;unfold Builtin.«dict.__iter__»;refine qa ?_;unfold Builtin.Dict.dictSlotNone;refine qa<|Ϣ hT<|qb ?_;show Č _ _ (Ϗ d >>= _) _ _ s;unfold Ϗ;rw[hd,a5M qf];refine qa<|qb<|qa<|Ľ e dat<|qa<|Ϝ e dat<|qa<|qy<|qb ⟨_,rfl, "dict_keyiterator",_,⟨_,qg _ rfl,rfl⟩,ß.lookup,?_⟩;exact q _ ⟨_,qg _ rfl,rfl,by simp[Ÿ]⟩ λb o z=>qd _ z
def zq7{Q:Qb Qc->Qd->Prop}(k:s.heap.IsKeyIter it d i es.size ep)(r:xU s.heap d es ep){x:Ϡ}(hx:es[i]?=ž x)
  (q:∀h':Į,h'.IsKeyIter it d (i+1) es.size ep->Ϧ it s.heap h'->Q (ž x.key) {s with heap:=h'}):Č (Đ prog w) A (a1l<|.ref it) Q E s:=by
 have kT:=k.typeIs;have(oi,ei,ci,fi):=id k;have(o,e,_,dat):=r;unfold a1l;refine qa<|τ (ő (name:=ŧ "__next__") kT ß
  (ĸ ß kT a3c ?_<|a2T _))
 refine qa<|qb<|qa<|qa ?_;refine qa<|ϖ kT<|qb<|qa<|wpAny_fieldsOf ei fi ?_;simp only[show a0T "dict_keyiterator"=Ż by decide,Ě,if_false];show Č _ _ (if(Ė d==đ)=ż then _ else _) _ _ s;rw[a5M (show ¬((Ė d==đ)=ż) from qf)];refine qa<|qb<|qa<|Ľ e dat ?_;rw[a5M (by simp)];refine qa<|qb<|qa<|Ϝ e dat ?_;rw[a5M (by simp)];refine qb ?_;simp only[show ¬((i:Int) < 0) from by omega,if_false,İ,hx];refine qa<|qa<|ϖ kT<|qb<|qa<|a5c kT ?_;show Č _ _ (setField (.ref it) 1 (Ÿ<|(i:Int)+1) >>= _) _ _ s;refine qa<|ŷ ei fi (by simp) ?_;have k':(s.heap.update it<|Ĵ (·.setIfInBounds 1 (Ÿ<|(i:Int)+1))).IsKeyIter it d (i+1) es.size ep :=
  ⟨_,Ô _ ei<|Ú<|æ fi _,(a2f ..).trans ci,by rw[a4W fi];simp[Ÿ]⟩
 refine qa<|Ŋ<|qa<|a5c (s:={s with heap:=s.heap.update it (Ĵ (·.setIfInBounds 1 (Ÿ<|(i:Int)+1)))}) k'.typeIs ?_;show Č _ _ (pure x.key) _ _ _;exact qb<|qb ⟨_,rfl,qb<|q _ k'<|é ..⟩
def Y9{Q:Qb Qc->Qd->Prop}(hh:A.handled=Ž)(k:s.heap.IsKeyIter it d i es.size ep)(r:xU s.heap d es ep)(hx:es.size<=i)
  (q:∀h':Į,Heap.ExtBut it s.heap h'->Q Ž {s with heap:=h'}):Č (Đ prog w) A (a1l<|.ref it) Q E s:=by
 have kT:=k.typeIs;have(oi,ei,ci,fi):=id k;have(o,e,_,dat):=r;unfold a1l;refine qa<|τ (ő (name:=ŧ "__next__") kT ß
  (ĸ ß kT a3c ?_<|a2T _))
 refine qa<|qb<|qa<|qa ?_;refine qa<|ϖ kT<|qb<|qa<|wpAny_fieldsOf ei fi ?_;simp only[show a0T "dict_keyiterator"=Ż by decide,Ě,if_false];show Č _ _ (if(Ė d==đ)=ż then _ else _) _ _ s;rw[a5M (show ¬((Ė d==đ)=ż) from qf)];refine qa<|qb<|qa<|Ľ e dat ?_;rw[a5M (by simp)];refine qa<|qb<|qa<|Ϝ e dat ?_;rw[a5M (by simp)];refine qb ?_;simp only[show ¬((i:Int) < 0) from by omega,if_false,İ,Array.getElem?_eq_none hx];refine qa<|qa<|ϖ kT<|qb ?_;show Č _ _ (setField (.ref it) 0 .none >>= _) _ _ s;refine qa<|ŷ ei fi (by simp) ?_;show Č _ _ (newExc (.type "StopIteration") [] >>= _) _ _ _;refine qa ?_;simp only[newExc,newTuple];refine qa<|qy ?_ (by show(0:Nat)<=Ď;exact À _);refine qa (m:=a1L _ _)<|wpAny_of_eq (a:=đ) (by first|rfl | (simp only[a1L];rfl)) ?_;refine qy ?_ (by first|trivial|size_fits);simp only[raiseNew];refine qa<|wpAny_handled ?_;rw[show A.in1.handled=Ž from hh];refine qa<|qb<|wpAny_throw ?_;refine qa<|Ŵ (T := "StopIteration") (b:=ż) ⟨_,qg _ rfl,rfl⟩ isSubtype_stop ?_;exact qb<|q _<|((é ..).extBut.push _).push _
end
def zmo{R:α->β->Prop}{xs:Qa α}{ys:Qa β}(h:ϫ R xs ys):∀(i:Nat) (x:α),xs[i]?=ž x->∃y,ys[i]?=ž y/\R x y:=by
 induction h with
 |nil=>intro i x h;simp at h
 |cons r _ ih=>intro i x h;cases i with
  |zero=>cases(show ž _=ž x from h);exact⟨_,rfl,r⟩
  |succ i=>exact ih i x h
def DN{R:α->β->Prop}{xs:Qa α}{ys:Qa β}(h:ϫ R xs ys):xs.length=ys.length:=by
 induction h with
 |nil=>rfl
 |cons _ _ ih=>rw[qt,qt,ih]
def Hq{X:Cx}{s:Qd}{o:Obj}(I:Inv X pins σ H s)(e:H a=ž (.bj o<|.dT kvs)):
  (a==Ĳ)=Ż/\∃(es:Array Ϡ) (ep:Nat),s.heap.get? a=ž o/\o.ExactDict/\o.data=.dict es ep/\es.size=kvs.length/\∀(i:Nat) (k:Qa Key) (v:V),kvs[i]?=ž (k,v)->∃(b:Qg) (x:Ϡ),es[i]?=ž x/\x.key=.ref b/\bg X.K H b (k.map kV):=by
 have(ea,z,y,xs,r,o',es,ep,h1,h2,h3,h4,h5):=(show bV X.prog X.w X.K H s.heap a (.bj o<|.dT kvs) from I.aC a _ e);rw[ea]at h1;cases h1;refine⟨y,es,ep,ea,h2,h3,?_,λi k v hi=>?_⟩
 .have:=congrArg a0s h4
  rw[Ġ,ċ,<-DN r]at this;exact this
 .have(q,hq,r1,r2,_):=zmo r i (k,v) hi
  refine⟨q.2.1,a1m (Η<|dq X.prog X.w) q,?_,rfl,r2⟩;have:es.toList[i]?=ž (a1m (Η<|dq X.prog X.w) q):=by rw[h4,ė,hq];rfl
  simpa using this
def Fb(K:qc)(a:Qg)(o:Obj)(kvs:Qa (Qa Key×V)):It :=
 ⟨λi H=>H a=ž (.bj o<|.dT kvs)/\i < kvs.length,λi H x H'=>H'=H/\∀k v,kvs[i]?=ž (k,v)->∃b,x=.ref b/\bg K H b (k.map kV),λi H=>H a=ž (.bj o<|.dT kvs)/\kvs.length<=i⟩
def zmp(a it:Qg)(o:Obj)(kvs:Qa (Qa Key×V))(ep:Nat)(TN:∃es,o.data=.dict es ep):Turn P w K tg (Fb K a o kvs) [it] it (λi h=>h.IsKeyIter it a i kvs.length ep) where
 mem:=by simp
 obj:=λi h st b hb=>by
  have e:b=it:=by simpa using hb
  subst e;have(oi,e,c,d):=st;exact⟨oi,e,λv z=>by rw[d]at z;cases z⟩
 keep:=λi h h' st k=>st.at λoi e=>k it (by simp) oi e
 item:=by
  intro X hP hw hK hc i pins s σ H E I hf st hg;subst hP hw hK;have(e,hi):=hg;have(JR,es,gJ,ea,xd,dat,hsz,ent):=Hq I e;have KI:gJ=ep:=by
   have(pK,z):=TN;rw[dat]at z;injection z
  subst KI;have(f0,f1,f2,f3,f4,f5):=hf it (by simp);have(b,x,ex,kx,hb):=ent i kvs[i].1 kvs[i].2 (ql hi);refine zq7 (es:=es) (by rw[hsz];exact st) ⟨o,ea,xd,dat⟩ ex λh' av sb=>?_;have I1:Inv X pins σ H {s with heap:=h'}:=I.turned (t':=s.toks) (λb o hb e=>(sb.2 b hb).trans e) f0 f1 f3 f4 f5;have(oi,e',c',d'):=id av;rw[kx];refine⟨.ref b,rfl,Cp (s:={s with heap:=h'}) e' c' d' (by decide) ⟨.ref b,H,I1,rfl,⟨rfl,λk v xj=>⟨b,rfl,?_⟩⟩,by rw[hsz]at av;exact av,λb hb=>(hf b hb).1⟩⟩;rw[ql hi]at xj;rw[qw xj]at hb;exact hb
 done:=by
  intro X hP hw hK hc i pins s σ H E I hf st hg;subst hP hw hK;have(e,hi):=hg;have(JR,es,gJ,ea,xd,dat,hsz,ent):=Hq I e;have KI:gJ=ep:=by
   have(pK,z):=TN;rw[dat]at z;injection z
  subst KI;have(f0,f1,f2,f3,f4,f5):=hf it (by simp);exact Y9 (es:=es) (I.ok.hd hc) (by rw[hsz];exact st) ⟨o,ea,xd,dat⟩ (by omega) λh' eb=>⟨rfl,I.turned (t':=s.toks) (λb o hb e=>eb b o hb e) f0 f1 f3 f4 f5⟩
 self:=λ_ _ _ _ _ st h=>wpAny_pyIter_keyiter st h
section
variable{X:Cx}
def Inv.freeze{s:Qd}(I:Inv X pins σ H s)(e:H a=ž (.dT kvs)):∃o,s.heap.get? a=ž o/\Inv X pins σ (upd H a<|.bj o<|.dT kvs) s:=by
 have ok:=(show bV X.prog X.w X.K H s.heap a (.dT kvs) from I.aC a _ e);have(z,y,xs,r,o,es,ep,h1,h2):=id ok;refine⟨o,h1,?_⟩;have Jn:bV X.prog X.w X.K (upd H a<|.bj o<|.dT kvs) s.heap a (.dT kvs):=ok.eA (λ_ _ _ q=>q) (λb q=>by rw[zA<|x8 q e (by intro z;cases z)];exact q) λb ys q=>by rw[zA<|x8 q e (by intro z;cases z)];exact q
 exact I.write (t':=s.toks) (h':=s.heap) (by rw[e];trivial) (.inl rfl) (λ_ _ _ q=>q) ⟨o,h1⟩ ⟨h1,Jn⟩
def Ni(K:qc)(td:TE):TI:=λσ H R=>td σ H λx H1=>∃a kvs,x=.ref a/\((H1 a=ž (.dT kvs)/\∀o,R (Fb K a o kvs)<|upd H1 a<|.bj o<|.dT kvs)\/∃o,H1 a=ž (.bj o<|.dT kvs)/\R (Fb K a o kvs) H1)
def yS{d:į}(hd:Wr (PE X d td)):Wr (PI X tg d<|Ni X.K td):=by
 refine⟨?_⟩;intro pins s σ H R I h;refine aJ (hd.run pins s σ H _ I h) λv s1 hZ=>?_;have(x,H1,I1,r1,q1):=hZ;have(a,kvs,e,q):=q1;subst e;cases r1;have key:∀(H2:Hp) (o:Obj),Inv X pins σ H2 s1->H2 a=ž (.bj o<|.dT kvs)->R (Fb X.K a o kvs) H2->Č (Đ X.prog X.w) X.A (pyIter<|.ref a) (KZ X pins σ tg R) X.xe s1:=λH2 o I2 e2 q2=>by
  have(JR,es,ep,ea,xd,dat,hsz,_):=Hq I2 e2;refine zq6 (es:=es) JR ⟨o,ea,xd,dat⟩ λh' hit kk=>?_;refine⟨s1.heap.objs.size,[s1.heap.objs.size],_,_,H2,rfl,I2.kept (t':=s1.toks) kk,zmp a s1.heap.objs.size o kvs ep ⟨es,dat⟩,by rw[<-hsz];exact hit,λb hb=>?_,q2⟩;have e:b=s1.heap.objs.size:=by simpa using hb
  subst e;exact I2.iA (qe _)<|I2.aC.fresh<|qe _
 rcases q with⟨e1,q⟩|⟨o,e1,q⟩
 .have(o,_,I2):=I1.freeze e1
  exact key _ o I2 zD<|q o
 .exact key H1 o I1 e1 q
end
open PySem.W (Looks)
noncomputable def LQ(r:Qa Qc):Obj:={cls:=.type "tuple",data:=.seq r.toArray}
noncomputable def mQ(C p:Qg):Obj:={cls:=.ref C,data:=.fields #[.ref p,.none,.none,.none,.bool Ż,.none]}
def pV(h:Į)(C:Qg)(r:Qa Qc):Į:=(h.push<|LQ r).push (mQ C h.objs.size)
def P8{C:Qg}{r:Qa Qc}{b:Qg}{o:Obj}(e:h.get? b=ž o):(pV h C r).get? b=ž o:=qd _ (qd _ e)
def Ik{C:Qg}{r:Qa Qc}:(pV h C r).get? (h.objs.size+1)=ž (mQ C h.objs.size):=by
 have:=qg (h.push<|LQ r) (o:=mQ C h.objs.size) rfl
 rwa[Ŏ]at this
section
variable{g:Array a0d}{d:Drawn}{t:Nat}
variable{nm q:Str}{C N:Qg}{bs bm Uj:Qa Qc}{vd:Bool}{sn:Qa Str}{sub:Qa Qc}{ab:Bool}{col:Qb Bool}{dd:Qb Qg}{k0 k1 k2 k3 k5:Qb Qc}{B newId uU:String}
def zkO{rest:Qa Qc}{f:Qc}{Q:Fin->Qd->Prop}(F:ExcBaseFacts B newId uU Uj)(T:OwnTail h Uj bm)
  (hC:h.get? C=ž (a1M nm q C N bs bm vd sn sub ab col dd k0 k1 k2 k3 k5 newId))
  (li:Looks (Đ prog w) h (a3I (.ref C) "__init__") (ž f)) (lb:∀v,Looks (Đ prog w) h (bindSpecial f v) (f,[v])) (hl:rest.length<=Ď)
  (k:Č (Đ prog w) A (call f<|.ref (h.objs.size+1)::rest) (λr s'=>r=.none/\Q (.done<|.ret<|.ref<|h.objs.size+1) s') E ⟨pV h C rest,g,d,t,os⟩):
  Č (Đ prog w) A (Builtin.«type.__call__» ⟨.ref C::rest,[]⟩) Q E ⟨h,g,d,t,os⟩:=by
 have up:∀b o,h.get? b=ž o->(pV h C rest).get? b=ž o:=λb o e=>P8 e;have hC1:=up _ _ hC;have hx:(pV h C rest).get? (h.objs.size+1)=ž (mQ C h.objs.size):=Ik;have li1:=li.keeps up;have lb1:=(lb<|.ref<|h.objs.size+1).keeps up;have is:(Ė C::bm).contains (.ref C)=ż:=by simp
 repeat (first|with_reducible refine ό hC ?_|with_reducible refine wpAny_madeBy_exc hC ?_|wp_step)
 refine codeAny_call_builtin_code (a4R _ F.quiet)<|wpAny_check_new_subT F T hC<|codeAny_exc_new_subT F T hC ?_ hl;change Č (Đ prog w) _ _ _ _ ⟨pV h C rest,g,d,t,os⟩;unfold a0C
 repeat (first | (with_reducible refine ό hx ?_;rw[show(mQ C h.objs.size).cls=.ref C from rfl]) | (with_reducible refine a0n hC1 ?_;rw[is]) |wp_step)
 show Č _ _ (a3I (.ref C) _) _ _ _;refine li1.at ?_;refine Ŋ<|qa<|lb1.at ?_;refine qa<|ŋ k (λr s' z=>?_) λ_ _ z=>z;have(rfl,z):=z
 wp_walk
 exact z
end
noncomputable abbrev pe:Qa Qc:=[.type "ValueError",.type "Exception",.type "BaseException",.type "object"]
structure XC (K:qc) (C:Qg):Prop where
 at_:∃nm q N bs bm sn sub ab col dd k0 k1 k2 k3 k5,K.lookup C=ž (a1M nm q C N bs bm ż sn sub ab col dd k0 k1 k2 k3 k5 "ValueError.__new__")/\ſ K pe bm=ż
 ga:ġ K (.ref C) "__getattribute__"=ž (ž<|.builtin "BaseException.__getattribute__")
 gh:ġ K (.ref C) "__getattr__"=ž Ž
 sa:ġ K (.ref C) "__setattr__"=ž (ž<|.builtin "object.__setattr__")
section
variable{C x:Qg}{s:Qd}{R:Υ->Qd->Prop}
def V9{f:Qg}{rest:Qa Qc}(X:XC K C)(I:K.In s.heap)(hi:ġ K (.ref C) "__init__"=ž (ž<|.ref f))(hf:PySem.W.typeIn K (.ref f)=ž (.type "function"))(hl:rest.length<=Ď)
  (k:a0q (Đ prog w) (A.under<|.builtin "type.__call__" ⟨.ref C::rest,[]⟩) (.call (.ref f) ⟨.ref (s.heap.objs.size+1)::rest,[]⟩) (PySem.W.InitBack (s.heap.objs.size+1) R) {s with heap:=pV s.heap C rest}):
  a0q (Đ prog w) A (.call (.ref C) ⟨rest,[]⟩) R s:=by
 have(hh,g,d,t,os):=s;have(nm,q,N,bs,bm,sn,sub,ab,col,dd,k0,k1,k2,k3,k5,e,tl):=X.at_;have hC:=I _ _ e;have c1:=tc_lookup;have c2:=tc_bind (.ref C);have hT:(⟨hh,g,d,t,os⟩:Qd).TypeIs (.ref C) "type":=⟨_,hC,rfl⟩;refine codeAny_of_tree ?_;change Č _ _ (callAny (.ref C) _) _ _ _
 repeat (any_goals (first|assumption|with_reducible refine ό hC ?_|wp_step))
 refine And.intro rfl<|codeAny_call_builtin_at (a4R _ (by decide +kernel)) entry_typeCall<|wpAny_check_type_call_sub hC ?_;refine zkO PySem.F.excBase_ValueError (μ I tl) hC (ð I hi) (λv=>PySem.W.bind_fn I v hf) hl ?_;refine a0B<|Ϯ k λr s' z=>?_;rcases r with e | (v|_|_|_)<;>first|exact z|exact z.elim
end
end Internal
namespace Internal
open PySem PySem.Spec PyProof.Rows
open PySem.W (Looks InstAt)
section
variable{C x:Qg}{s:Qd}{R:Υ->Qd->Prop}
def Pu(self:Qc):∀{l:Qa Qc},ſ K pe l=ż->refuseLoop self "__setattr__" l=pure ()
 |[],e=>by cases e
 |v::r,e=>by
  unfold ſ at e;rcases Bool.or_eq_true_iff.mp e with q|q
  .rw[beq_iff_eq.mp q];exact PySem.F.store_ValueError.passes self
  .split at q
   .split at q
    .simp only[ĩ]at q
     rw[refuseLoop_ref];exact Pu self q.2
    .cases q
   .cases q
def XC.cls(X:XC K C):∃cd bm,a2M K C=ž cd/\cd.mro=.ref C::bm/\ſ K pe bm=ż/\cd.hasDict=ż:=by
 have(nm,q,N,bs,bm,sn,sub,ab,col,dd,k0,k1,k2,k3,k5,e,tl):=X.at_;refine⟨{name:=nm,bases:=bs,mro:=.ref C::bm,ns:=N,qualname:=q,hasDict:=ż,slotNames:=sn,subclasses:=sub,abstract:=ab,collection:=col,hasDel:=Ż},bm,?_,rfl,tl,rfl⟩;unfold a2M;rw[e]
def XC.up(X:XC K C){M:a2O}(I:K.In h){n:String}(hn:pe.contains (.type n)=ż):Looks M h (isSubtype (.ref C)<|.type n) ż:=by
 have(cd,bm,hc,hm,tl,_):=X.cls;refine PySem.W.looks_mroIn I ?_;unfold Ź;rw[hc,Ι,hm,a5M (by simp),a1H,(μ I tl).hasType hn,a3H]
def zCS{v:Qc}{tk:Tok}{g:Array a0d}{d:Drawn}{t:Nat}(L1:Looks (Đ prog w) h (a3d<|.ref x) (.ref C))(L5:Looks (Đ prog w) h (a0C (.ref x)<|.type "BaseException") ż)
  (L4:Looks (Đ prog w) h (a5y (.ref x) (.ref C) name) (.value v)) (k:R (.ok<|.ret v) ⟨h,g,d,t,os⟩):
  a0q (Đ prog w) A (.call (.builtin "BaseException.__getattribute__") ⟨[.ref x,.str name tk],[]⟩) R ⟨h,g,d,t,os⟩:=by
 have hk:builtinKind "BaseException.__getattribute__"=ž .slot:=by decide +kernel
 have hs:splitId "BaseException.__getattribute__"=ž ("BaseException", "__getattribute__"):=by decide +kernel
 refine a5C PySem.F.attr_ValueError.ga.plain PySem.F.entry_bexc_ga<|@a3S (Đ prog w) _ _ _ "BaseException.__getattribute__" "BaseException" "__getattribute__" (.ref x) [.str name tk] [] _ hk hs L5 (PySem.F.args_bexc_ga _ _) ?_;unfold Builtin.«object.__getattribute__»
 repeat (first|with_reducible refine L1.at ?_|with_reducible refine L4.at ?_|wp_step)
 exact k
def zAZ{ox od:Obj}{v:Qc}{b:Bool}(X:XC K C)(I:K.In s.heap)(Z:InstAt s.heap x ox C (ž od))(n:nJ K C name)(l:a0X name od=ž (ž v))(hh:handedOut v=pure v)
  (k:∀t,Q v {s with toks:=t}):Č (Đ prog w) A (getAttr (.ref x) name b) Q E s:=by
 have(TL,g,d,t,os):=s;have(cd,bm,hc,hm,tl,hd):=X.cls;have L1:Looks (Đ prog w) TL (a3d<|.ref x) (.ref C):=Z.type;have Internal:=ð (M:=Đ prog w) I X.ga;have L3:=ð (M:=Đ prog w) I X.gh;have F1:a4L K C (ž od) name=ž (.value v):=by
  unfold a4L PySem.W.ownOf;rw[hc,Ι,show ġ K (.ref C) name=ž Ž from n,Ι,hd];simp[l]
 have L4:=PySem.W.looks_find (M:=Đ prog w) I Z F1;have L5:Looks (Đ prog w) TL (a0C (.ref x)<|.type "BaseException") ż:=L1.andThen (X.up I (by decide));have G:=PySem.F.attr_ValueError.ga;have e0:(onTheHeap (Ė C) && Ν "BaseException.__getattribute__"==Ν "object.__getattribute__")=Ż:=by
  rw[show(Ν "BaseException.__getattribute__"==Ν "object.__getattribute__")=Ż from by decide +kernel];rfl
 have e1:(b && onTheHeap (Ν "BaseException.__getattribute__"))=Ż:=by cases b<;>rfl
 unfold getAttr;refine qa<|wpAny_mkText ?_;unfold getAttrBy;refine Ŋ<|qa<|L1.at<|qa<|Internal.at ?_;dsimp only;rw[e0,a5M (by decide)];unfold getAttrByItsOwn hookBefore callGetattribute boundAndCalled;rw[a5L (show onTheHeap (Ė C)=ż from rfl),e1,a5M (by decide),G.bind<|.ref x];refine qa<|L3.at<|qa<|τ<|Ŋ<|qa<|qb<|a0B ?_;refine zCS L1 L5 L4 ?_;change Č _ _ (handedOut v) _ _ _;rw[hh];exact qb<|k _
def zCT{ox:Obj}{v:Qc}{tk:Tok}{g:Array a0d}{d:Drawn}{t:Nat}(X:XC K C)(I:K.In h)(hx:h.get? x=ž ox)(hc:ox.cls=.ref C)(hd:ox.dict=Ž)(hn:∀c,ox.data≠.cls c)
  (n:nJ K C name) (k:∀h' t,h'.get? x=ž {ox with dict:=ž h.objs.size}->h'.Ns1 h.objs.size (λy=>if y=name then ž v else Ž)->
   (∀b o,b≠x->h.get? b=ž o->h'.get? b=ž o)->R (.ok<|.ret .none) ⟨h',g,d,t,os⟩):
  a0q (Đ prog w) A (.call (.builtin "object.__setattr__") ⟨[.ref x,.str name tk,v],[]⟩) R ⟨h,g,d,t,os⟩:=by
 have(cd,bm,gR,hm,tl,dZ):=X.cls;have Z:InstAt h x ox C Ž:=⟨hx,hc,by have(_,_,dt,_):=ox;cases dt<;>first|rfl|exact absurd rfl<|hn _,by rw[hd];trivial⟩;have L1:Looks (Đ prog w) h (a3d<|.ref x) (.ref C):=Z.type;have LC:=PySem.W.looks_clsIn (M:=Đ prog w) I gR;have LM:Looks (Đ prog w) h (mroOf<|.ref C) cd.mro:=LC.andThen .now;have LN:=ð (M:=Đ prog w) I n;have LO:Looks (Đ prog w) h (a0C (.ref x)<|.type "object") ż:=L1.andThen (X.up I (by decide));have SF:=PySem.F.store_ValueError;have rf:refuseLoop (.ref x) "__setattr__" cd.mro=pure ():=by rw[hm,refuseLoop_ref];exact Pu _ tl
 refine a5C SF.slot.plain SF.entry<|@a3S (Đ prog w) _ _ _ "object.__setattr__" "object" "__setattr__" (.ref x) [.str name tk,v] [] _ SF.kind SF.split LO (SF.args (.ref x) (.str name tk) v) ?_;rw[PySem.W.osa_eq,refuse_eq];refine qa<|qa<|L1.at<|qa<|LM.at ?_;rw[rf];refine qb<|qa<|L1.at<|qa<|LN.at<|qa<|qb ?_;change Č _ _ (a5w (.ref x) (.ref C) (.str name tk) name v Ż) _ _ _;refine qa<|qb<|qa ?_;change Č _ _ (instanceDict x ż) _ _ _;have(oc,od,dt,sl):=ox;dsimp only at hc hd hn;subst hc hd;unfold instanceDict;refine qa<|wpAny_loadPart hx ?_;dsimp only;refine qa<|LC.at ?_;rw[dZ];rw[a5M (by decide),a5M (by simp[typeHasDict])];split
 .exact absurd rfl (hn _)
 have nx:x≠h.objs.size:=qj (qh hx);have x1:(h.push ϳ).get? x=ž ⟨.ref C,Ž,dt,sl⟩:=qd _ hx;refine qa<|wpAny_alloc'<|qa<|wpAny_update' x1<|qb ?_;change Č _ _ (a0H h.objs.size (.str name tk) name v) _ _ _;have d2:((h.push ϳ).update x λo=>{o with dict:=ž h.objs.size}).get? h.objs.size=ž ϳ:=(ξ _ _ _ _ nx.symm).trans (Heap.get?_push_at rfl rfl);have n2:((h.push ϳ).update x λo=>{o with dict:=ž h.objs.size}).Ns h.objs.size (λ_=>Ž):=⟨_,#[],_,d2,rfl,λe he=>absurd he (by simp),λ_=>rfl⟩;have x2:((h.push ϳ).update x λo=>{o with dict:=ž h.objs.size}).get? x=ž ⟨.ref C,ž h.objs.size,dt,sl⟩:=by
  refine Ô _ x1 ?_;have fr:=(Heap.get?_some_iff.mp hx).2;cases dt<;>first|rfl|exact fr
 unfold a0H a5x;refine qa<|qb<|qa<|wpAny_nsSet1 (Heap.Ns1.of_empty n2) λh' n' sm=>?_;have(oD,esD,epD,hoD,hdD,hcD):=n'.count (Within.cons name v Within.nil);refine qa<|wpAny_lookBehind hoD (by rw[hdD];exact pastItsLine_dict<|qx hcD (by rw[qt,Ő,a1K];omega)) ?_;refine qb<|k h' _ ((sm.2 x nx).trans x2) n' λb o nb e=>?_;exact(sm.2 b<|qj<|qh e).trans<|(ξ _ _ _ _ nb).trans<|qd _ e
def zA0{ox:Obj}{v:Qc}{Q:Unit->Qd->Prop}(X:XC K C)(I:K.In s.heap)(hx:s.heap.get? x=ž ox)(hc:ox.cls=.ref C)(hd:ox.dict=Ž)(hn:∀c,ox.data≠.cls c)(n:nJ K C name)
  (k:∀h' t,h'.get? x=ž {ox with dict:=ž s.heap.objs.size}->h'.Ns1 s.heap.objs.size (λy=>if y=name then ž v else Ž)->
   (∀b o,b≠x->s.heap.get? b=ž o->h'.get? b=ž o)->Q () {s with heap:=h',toks:=t}):
  Č (Đ prog w) A (setAttr (.ref x) name v) Q E s:=by
 have(h,g,d,t,os):=s;have L1:Looks (Đ prog w) h (a3d<|.ref x) (.ref C):=(Looks.ld (part:=ž headPart) hx).andThen (Looks.of_pure (by rw[hc]));have LS:=ð (M:=Đ prog w) I X.sa;unfold setAttr callSpecial? specialOf;refine qa<|wpAny_mkText<|qa<|qa<|qa<|L1.at<|LS.at ?_;dsimp only;refine Ŋ ?_;rw[PySem.F.store_ValueError.slot.bind];refine qa<|qb<|qa<|a0B ?_;refine zCT X I hx hc hd hn n λh' t' a b c=>?_;exact qb<|qb<|k h' t' a b c
end
end Internal
namespace Internal
open PySem PySem.Spec PyProof.Rows
open PySem.W (Looks InstAt)
structure XI (K:qc) (C:Qg):Prop where
 cl:XC K C
 ca:ġ K (.ref C) "__class__"=ž (ž<|.builtin "object.__class__")
 cg:a1x K (.builtin "object.__class__") "__get__"=ž (ž<|.builtin "getset_descriptor.__get__")
 ct:a2b K (.builtin "object.__class__")=ž ż
 cm:Ź K C (.type "object")=ž ż
end Internal
namespace Internal
open PySem PySem.Spec PyProof.Rows
open PySem.W (Looks InstAt)
def tN(a C p:Qg):HO:=.ext λh=>h.get? a=ž (mQ C p)
def XV(H:Hp)(a C:Qg)(fs:Qa (Str×V)):Prop:=∃ox,H a=ž (.bj ox<|.own 0)/\ox.cls=.ref C/\a2u ox=ż/\
 ((fs=[]/\ox.dict=Ž)\/∃od dx,ox.dict=ž dx/\H dx=ž (.bj od<|.xd fs))
section
variable{X:Cx}{s:Qd}{C:Qg}{fs:Qa (Str×V)}
def zA1(K:qc)(ta:TE)(f:Str):TE:=λσ H Q=>ta σ H λx H1=>∃a C fs v,x=.ref a/\XV H1 a C fs/\XC K C/\nJ K C f/\fs.lookup f=ž v/\Q v H1
def Y8(he:PE X e ta)(hb:ϐ e f X.env (Ŭ e X.env)=Ŭ e X.env):PE X (.Attribute e f pos) (zA1 X.K ta f):=by
 intro pins s σ H Q I h;refine Zr hb<|aJ (he pins s σ H _ I h) λu s1 hZ=>?_;have(x,H1,I1,rx,a,C,fs,v,ex,xv,c,n,l,q):=hZ;subst ex;obtain rfl:u=Ė a:=rx;have(ox,ea,ec,en,z):=xv;rcases z with⟨rfl,_⟩|⟨od,dx,ed,edx⟩
 .cases l
 have(ha,_):=I1.aC a _ ea;have(A0,mA,ns,rel):=I1.aC dx _ edx;have(od',cZ,hl):=Iq ns;obtain rfl:od=od':=qw (A0.symm.trans cZ);have(u,hu,ru):=jI.some_of (v:=v) (o:=mA f) (by rw[<-l];exact rel f);have Z:InstAt s1.heap a ox C (ž od):=⟨ha,ec,en,by rw[ed];exact A0⟩;exact zAZ c I1.bP Z n (by rw[hl,hu]) (PySem.W.handedOut_of<|zpB ru) λt=>⟨v,H1,I1.tok _,ru,q⟩
def LP(K:qc)(ta tv:TE)(f:Str):TS:=λD σ H=>tv σ H λy H1=>ta σ H1 λx H2=>∃a C p,x=.ref a/\H2 a=ž (tN a C p)/\XC K C/\nJ K C f/\
 ∀dx ox od,H2 dx=Ž->dx≠a->ox.cls=.ref C->ox.dict=ž dx->a2u ox=ż->ox={mQ C p with dict:=ž dx}->D.nx σ (upd (upd H2 dx<|.bj od<|.xd [(f,y)]) a<|.bj ox<|.own 0)
def N6(ha:PE X o ta)(hv:PE X value tv)(hs:a0v value (ž<|.Attribute o f pos') pos.line X.env=pure Ż):PS X (.Assign [.Attribute o f pos'] value pos) (LP X.K ta tv f):=by
 intro pins s σ H D I h;refine plainObj_wpAny_Assign_Attribute (aJ (hv pins s σ H _ I h) λu s1 ⟨y,H1,I1,ry,q⟩=>aJ (ha pins s1 σ H1 _ I1 q) λov s2 hZ=>?_) hs;have(x,H2,I2,rx,a,C,p,ex,ea,c,n,q2):=hZ;subst ex;obtain rfl:ov=Ė a:=rx;have(hx,_,_):=I2.aC a _ ea;have lt:a < s2.heap.objs.size:=qh hx;refine zA0 (ox:=mQ C p) c I2.bP hx rfl rfl (λ_ z=>nomatch z) n λh' t kU xi keep=>?_;have(od,JW,_):=Iq xi;have fr:od.isFreed=Ż:=(Heap.get?_some_iff.mp JW).2;have hm:(s2.heap.push od).get? s2.heap.objs.size=ž od:=qg s2.heap fr;have nd:s2.heap.objs.size≠a:=ñ lt;have I3:=I2.laid (a:=s2.heap.objs.size) (o:=.bj od (.xd [(f,y)])) (h':=s2.heap.push od) (t':=s2.toks) (λb w e=>qd _ e) (qe _)
  ⟨hm,λz=>if z=f then ž u else Ž,?_,λg=>?_⟩
 .have I4:=I3.write (x:=a) (e:=a) (o:=.bj {mQ C p with dict:=ž s2.heap.objs.size} (.own 0)) (h':=h') (t':=t) (by rw[zA nd.symm,ea];trivial) (.inl rfl) (λb w nb e=>?_) ⟨_,kU⟩ ⟨kU,_,kU⟩
  .exact⟨σ,_,I4,q2 _ _ od (I2.aC.fresh<|qe _) nd rfl rfl rfl rfl⟩
  .by_cases eb:b=s2.heap.objs.size
   .subst eb
    rw[hm]at e;cases e;exact JW
   .refine keep b w nb ?_
    rcases Heap.get?_push_cases e with⟨z,_⟩|z
    .exact absurd z eb
    .exact z
 .have(o1,es,ep,e1,r):=xi
  obtain rfl:od=o1:=qw (JW.symm.trans e1);exact⟨od,es,ep,hm,r⟩
 .show jI ([(f,y)].lookup g) (if g=f then ž u else Ž)
  rw[Ņ]
  by_cases q:g=f
  .subst q;simp only[a5Q,if_true];exact ry
  .rw[a5M q,show(g==f)=Ż from beq_eq_false_iff_ne.mpr q];trivial
end
section
variable{X:Cx}{CX:lA}{k:Nat}{f C:Qg}{E:XK}{es:Qa į}{t:TA}
def G0(C:Qg)(sp:Sp)(E:XK)(t:TA):TE:=λσ H Q=>t σ H λvs H1=>vs.length<=1000/\∀a p,H1 a=Ž->sp (.ref a::vs) (upd H1 a<|tN a C p) (λv H2=>v=.aK/\Q (.ref a) H2) E
def Inv.Ag{s:Qd}{r:Qa Qc}(I:Inv X pins σ H s):Inv X pins σ (upd H (s.heap.objs.size+1)<|tN (s.heap.objs.size+1) C s.heap.objs.size) {s with heap:=pV s.heap C r}:=
 I.laid (a:=s.heap.objs.size+1) (t':=s.toks) (λb u q=>P8 q) (Ĉ _) ⟨Ik,⟨_,Ik⟩,λh1 h2 z k=>k _ z⟩
def zpT{s:Qd}{Q:VK}(Y:XC X.K C)(hi:ġ X.K (.ref C) "__init__"=ž (ž<|.ref f))(fn:ζ X.K (.ref f)=ż)
  (F:bI X.prog X.w X.K X.mg X.base CX k f fd ps sp) (hr:aF (k+1) X.A) (hb:lK X.K fd ps []) (hx:yo CX X E) (I:Inv X pins σ H s) (r:zY vs us) (hl:vs.length<=1000)
  (h:∀a p,H a=Ž->sp (.ref a::vs) (upd H a<|tN a C p) (λv H2=>v=.aK/\Q (.ref a) H2) E):Č (Đ X.prog X.w) X.A (call (.ref C) us) (EP X pins σ Q) X.xe s:=by
 have hq:=h (s.heap.objs.size+1) s.heap.objs.size (I.aC.fresh<|Ĉ _);have I2:=Inv.Ag (C:=C) (r:=us) I;have r2:zY (V.ref (s.heap.objs.size+1)::vs) (Ė (s.heap.objs.size+1)::us):=.cons rfl r;have ln:(Ė (s.heap.objs.size+1)::us++[]).length=ps.length:=by
  have z:=r2.length;rw[F.len _ _ _ _ hq]at z;rw[ŕ];exact z.symm
 have A9:=hb {s with heap:=pV s.heap C us} (Ė (s.heap.objs.size+1)::us) I2.bP ln;rw[ŕ]at A9;refine a0B<|V9 Y I.bP hi (beq_iff_eq.mp fn) (by rw[<-r.length,a1K];omega)<|Ϯ (F.run _ X.stack _ _ ⟨Ė (s.heap.objs.size+1)::us,[]⟩ (Ė (s.heap.objs.size+1)::us) _ _ E (hr.make C us [])
  (I2.q9.make C us []) A9 r2 hq) λr s' uW=>?_
 cases r with
 |error e=>exact hx pins σ _ _ e s' I2 uW
 |ok fl=>
  cases fl with
  |ret u=>
   have(v,H',I3,rv,ev,q3):=I2.after uW;subst ev;exact⟨rv,⟨V.ref<|s.heap.objs.size+1,H',I3,rfl,q3⟩⟩
  |next=>exact ō uW
  |brk=>exact ō uW
  |cont=>exact ō uW
def zq9(Y:XC X.K C)(hi:ġ X.K (.ref C) "__init__"=ž (ž<|.ref f))(fn:ζ X.K (.ref f)=ż)(kp:ĵ X.K (.ref C)=ż)(F:bI X.prog X.w X.K X.mg X.base CX k f fd ps sp)(hr:aF (k+1) X.A)
  (hg:Gl X x) (hm:X.mg x=ž (.ref C)) (hb:lK X.K fd ps []) (hx:yo CX X E) (ha:PA X (e::es) t) (bY:(x==("__debug__":Str))=Ż:=by decide)
  (he:ķ (e::es) X.env=(Ż,Ŭ e X.env)::ķ es X.env:=by rfl) (cq:(Γ pos<|ķ es X.env).any (·.1)=Ż:=by rfl):PE X (.Call (.Name x p) (e::es) [] pos) (G0 C sp E t):=by
 intro pins s σ H Q I h;refine Ϙ<|wC I hg hm ?_ bY;refine Ċ (h₀:=X.base) I.ok.mod.j7 kp (aJ (ha pos pins s σ H _ I h) λus s1 ⟨vs,H1,I1,r,hl,q⟩=>⟨I1.bP,?_⟩) he cq;exact zpT Y hi fn F hr hb hx I1 r hl q
end
end Internal
namespace Internal
open PySem PySem.Spec PyProof.Rows
open PySem.W (Looks InstAt)
end Internal
namespace Internal
open PySem PySem.Spec PyProof.Rows
open PySem.W (Looks InstAt)
def SK(a C:Qg)(d tb:Qb Qg)(h:Į):Prop:=∃oe vs,h.get? a=ž oe/\oe.cls=.ref C/\oe.dict=d/\oe.data=.fields vs/\vs[1]?=ž (tb.elim .none .ref)/\(tb=Ž->∃p,oe={mQ C p with dict:=d})
def S5(T:Qg)(h:Į):Prop:=∃oT ts,h.get? T=ž oT/\oT.data=.fields ts/\ts[3]?=ž .none
def pQ(a C:Qg)(d tb:Qb Qg):HO:=.ext (SK a C d tb)
def sM(T:Qg):HO:=.ext (S5 T)
def pP(H:Hp)(a C:Qg)(fs:Qa (Str×V)):Prop:=∃d tb,H a=ž (pQ a C d tb)/\(∀T,tb=ž T->H T=ž (sM T)/\T≠a)/\
 ((fs=[]/\d=Ž)\/∃od dx,d=ž dx/\H dx=ž (.bj od<|.xd fs))
def OG{C:Qg}{d tb:Qb Qg}(x:SK a C d tb h):bV P w K H h a (pQ a C d tb):=by
 have(oe,vs,h1,h2):=x;exact⟨⟨oe,vs,h1,h2⟩,⟨oe,h1⟩,λh1 h2 ⟨oe,vs,z1,z2⟩ k=>⟨oe,vs,k _ z1,z2⟩⟩
def GZ(x:S5 a h):bV P w K H h a (sM a):=by
 have(oe,vs,h1,h2):=x;exact⟨⟨oe,vs,h1,h2⟩,⟨oe,h1⟩,λh1 h2 ⟨oe,vs,z1,z2⟩ k=>⟨oe,vs,k _ z1,z2⟩⟩
section
variable{X:Cx}{s:Qd}
def Inv.slots(I:Inv X pins σ H s)(z:Heap.SlotsOnly (gI X.stack) s.heap h'):Inv X pins σ H {s with heap:=h'}:=by
 have(z1,z2,z3):=z;have sub:=I.gc;have Au:=I.fK;have uA:∀b u,H b=ž u->h'.get? b=s.heap.get? b:=λb u e=>z2 b λhb=>by rw[Au b hb]at e;cases e
 have old:∀b o,X.bG.heap.get? b=ž o->b∉X.fs->b∉gI X.stack:=λb o e hn hb=>by
  rcases qu.mp (sub b hb)with q|q
  .have h1:=qh e
   have h2:=I.ok.above;rw[q]at h1;exact absurd (qi h1 h2)<|Ð _
  .exact hn q
 refine⟨I.ok,I.os,I.bare,⟨λb o e n hc hx=>?_,λb o e n hc hx=>?_,I.base.free,λb o e hx=>?_,I.base.d9,I.base.dN,I.base.eP⟩,?_,λx c e=>?_,I.free,I.bo,λp hp=>?_,λb u e=>?_,I.len⟩
 .exact(z2 b<|old b o e hc).trans (I.base.keep b o e n hc hx)
 .have(sl,q):=I.base.slot b o e n hc hx
  have(Ei,q'):=z3 b _ q;exact⟨Ei,q'⟩
 .have(o',q):=I.base.there b o e hx
  have(Ei,q'):=z3 b _ q;exact⟨_,q'⟩
 .obtain⟨m,⟨o,es,ep,ho,hd,r⟩,hl⟩:=I.loc
  have(sl,hs):=z3 _ _ ho;refine⟨m,⟨_,es,ep,hs,hd,r⟩,λi x v e1 e2 e3=>?_⟩;have(u,ru,lk):=hl i x v e1 e2 e3;refine⟨u,ru,?_⟩;rcases lk with lk|⟨k,c,ec,oc,w9,Kh⟩
  .exact .inl lk
  .have(sl,hs):=z3 _ _ w9
   exact .inr ⟨k,c,ec,_,hs,Kh⟩
 .have(v,oc,w9,Kh):=I.cell x c e
  have(sl,hs):=z3 _ _ w9;exact⟨v,_,hs,Kh⟩
 .have(h1,h2,h3,h4,h5):=I.pin p hp
  refine⟨(z2 _ λhb=>?_).trans h1,h2,h3,h4,h5⟩;rcases qu.mp (sub _ hb)with q|q
  .exact h3 q
  .exact h4 q
 .refine(I.aC b u e).eA (λc v hc r=>?_) (λ_ r=>r) λ_ _ r=>r
  rcases hc with rfl|hc
  .exact(uA _ _ e).trans r
  .exact(uA _ _ hc).trans r
def P7{M:a2O}{E':Qc->Qd->Prop}{Q:Unit->Qd->Prop}{C:Qg}{fs:Qa (Str×V)}(I:Inv X pins σ H s)(hA:A.frames=ž X.stack)(iI:X.stack=X.env::outer)(hf:X.env.frame=ž X.env.locals)(fl:pP H a C fs)
  (k:∀h' H',Inv X pins σ H' {s with heap:=h'}->pP H' a C fs->(∀b o,b≠a->H b=ž o->H' b=ž o)->(∀b,H' b=Ž->H b=Ž)->Q () {s with heap:=h'}):
  Č M A (a4J (.ref a) X.env) (λ_ s1=>Č M A (a1R (.ref a) Ž) Q E' s1) E s:=by
 have(d,tb,ea,et,ed):=fl;obtain⟨⟨oe,vs,he,hc,dZ,hv,h1,_⟩,_⟩:=I.aC a _ ea;have hsz:1 < vs.size:=(Ê.mp h1).1;have nf:∀{b u} {H2:Hp} {s2:Qd},Inv X pins σ H2 s2->H2 b=ž u->b∉gI X.stack:=λI2 e hb=>by rw[I2.fK _ hb]at e;cases e
 have main:∀(s2:Qd) (head:Qc) (hn:Bool),s2={s with heap:=s2.heap}->Inv X pins σ H s2->s2.heap.get? a=ž oe->
   Č M A (do let b <-frameOf X.env;let pl <-entryPlaceOf X.env.locals hn;let c <-a3k head b .none (Ÿ X.env.locals) .none pl;setField (.ref a) 1 c) (λ_ s1=>Č M A (a1R (.ref a) Ž) Q E' s1) E s2:=by
  intro s2 head hn es2 I2 he2;refine qa<|wpAny_frameOf_fun (base:=X.base) (by rw[hA,iI]) (by rw[<-iI];exact I2.stack) hf λaM n9=>?_;rw[show((X.env::outer).filterMap (·.frame))=gI X.stack by rw[iI];rfl]at n9;have I3:=I2.slots n9;have TU:aM.get? a=ž oe:=(n9.2.1 a<|nf I2 ea).trans he2;refine qa<|wpAny_entryPlaceOf λpl cq=>?_;unfold a3k newFields;refine qa<|qy ?_<|cq.sizeOk5 _ _ _ _ _;generalize hoT:(({cls:=.type "traceback",dict:=Ž,data:=.fields ([head,.ref X.env.locals,.none,Ÿ X.env.locals,.none]++(if pl.isEmpty then č 6 đ else pl)).toArray}):Obj)=oT;have Kq:oT.data=.fields ([head,.ref X.env.locals,.none,Ÿ X.env.locals,.none]++(if pl.isEmpty then č 6 đ else pl)).toArray:=by rw[<-hoT]
  have hTf:oT.isFreed=Ż:=Ú Kq;have xm:=qd (h:=aM) oT TU;refine ŷ xm hv hsz ?_;have xp:aM.objs.size≠a:=ñ (qh TU);have Ki:=æ hv (·.setIfInBounds 1 (Ė aM.objs.size));have EG:=Ô (Ĵ (·.setIfInBounds 1 (Ė aM.objs.size))) xm (Ú Ki);have Kr:(aM.push oT).get? aM.objs.size=ž oT:=qg aM hTf;have T5:=(Ì (aM.push oT) (Ĵ (·.setIfInBounds 1 (Ė aM.objs.size)))<|ĭ xp).trans Kr;unfold a1R;refine qa<|ļ EG Ki (x:=.ref aM.objs.size) (by simp[hsz]) ?_;rw[a5L (show(Ė aM.objs.size != đ)=ż from by simp)];refine ŷ T5 Kq (by simp only[ē,qr,qt,Ő]<;>omega) ?_;have TX:=æ Kq (·.setIfInBounds 3 ((Ž:Qb Qg).elim đ λf=>Ÿ f));have T4:=Ô (Ĵ (·.setIfInBounds 3 ((Ž:Qb Qg).elim đ λf=>Ÿ f))) T5 (Ú TX);have he6:=(Ì ((aM.push oT).update a<|Ĵ (·.setIfInBounds 1 (Ė aM.objs.size))) (Ĵ (·.setIfInBounds 3 ((Ž:Qb Qg).elim đ λf=>Ÿ f))) xp).trans EG;have hTn:H aM.objs.size=Ž:=I3.aC.fresh (qe _);have I4:=I3.laid (a:=aM.objs.size) (o:=.ext λh=>∃o,h.get? aM.objs.size=ž o) (h':=aM.push oT) (t':=s2.toks) (λb u e=>qd _ e) (qe _) ⟨⟨_,Kr⟩,⟨_,Kr⟩,λx y ⟨o,z⟩ k=>⟨o,k _ z⟩⟩;have I5:=I4.write (x:=a) (e:=a) (o:=pQ a C d (ž aM.objs.size)) (h':=(aM.push oT).update a (Ĵ (·.setIfInBounds 1 (Ė aM.objs.size)))) (t':=s2.toks) (by rw[zA<|ĭ xp,ea];trivial) (.inl rfl)
   (λb u nb e=>(Ì _ _<|ĭ nb).trans e) ⟨_,EG⟩ (OG ⟨_,_,EG,(a2f _ _).trans hc,by have(c1,c2,c3,c4):=oe;cases c3<;>exact dZ,Ki,by simp[hsz],λz=>nomatch z⟩)
  have I6:=I5.write (x:=aM.objs.size) (e:=aM.objs.size) (o:=sM aM.objs.size) (h':=((aM.push oT).update a<|Ĵ (·.setIfInBounds 1 (Ė aM.objs.size))).update aM.objs.size (Ĵ (·.setIfInBounds 3 ((Ž:Qb Qg).elim đ λf=>Ÿ f)))) (t':=s2.toks)
   (by rw[zA xp,zD];trivial) (.inl rfl) (λb u nb e=>(Ì _ _<|ĭ nb).trans e) ⟨_,T4⟩ (GZ ⟨_,_,T4,TX,by simp⟩)
  have ee:({s2 with heap:=((aM.push oT).update a<|Ĵ (·.setIfInBounds 1 (Ė aM.objs.size))).update aM.objs.size (Ĵ (·.setIfInBounds 3 ((Ž:Qb Qg).elim đ λf=>Ÿ f)))}:Qd) =
    {s with heap:=((aM.push oT).update a<|Ĵ (·.setIfInBounds 1 (Ė aM.objs.size))).update aM.objs.size (Ĵ (·.setIfInBounds 3 ((Ž:Qb Qg).elim đ λf=>Ÿ f)))}:=by rw[es2]
  have kk:∀b o,b≠a->H b=ž o->upd (upd (upd H aM.objs.size (.ext λh=>∃o,h.get? aM.objs.size=ž o)) a<|pQ a C d<|some aM.objs.size) aM.objs.size (sM aM.objs.size) b=ž o:=λb o nb e=>by
   have nT:b≠aM.objs.size:=λz=>by rw[z,hTn]at e;cases e
   rw[zA nT,zA nb,zA nT];exact e
  have fin:=k _ _ (by rw[<-ee];exact I6) ⟨d,ž aM.objs.size,by rw[zA<|ĭ xp,zD],λT eT=>by cases eT;exact⟨zD,xp⟩,?_⟩ kk (λb e=>?_)
  .rw[<-ee]at fin;exact fin
  .rcases ed with ed|⟨od,dx,e1,e2⟩
   .exact .inl ed
   .exact .inr ⟨od,dx,e1,kk dx _ (λz=>by rw[z,ea]at e2;cases e2) e2⟩
  .by_cases b1:b=aM.objs.size
   .rw[b1,zD]at e;cases e
   .rw[zA b1]at e
    by_cases b2:b=a
    .rw[b2,zD]at e;cases e
    .rw[zA b2,zA b1]at e;exact e
 unfold a4J;simp only[hf];cases tb with
 |none=>
  refine qa<|ļ (x:=.none) he hv h1 ?_;rw[a5M (by decide)];exact main s .none _ rfl I he
 |some T=>
  have(eT,nT):=et T rfl;obtain⟨⟨oT,ts,hT,xo,h3⟩,_⟩:=I.aC T _ eT;refine qa<|ļ (x:=.ref T) he hv h1 ?_;rw[a5L (show(Ė T != đ)=ż from by simp)];refine qa<|ļ hT xo h3 ?_;rw[a5M (show ¬((đ==Ÿ X.env.locals)=ż) from by simp[Ÿ])];refine qa<|ŷ hT xo (Ê.mp h3).1 ?_;have A3:=æ xo (·.setIfInBounds 3 đ);have Ba:=Ô (Ĵ (·.setIfInBounds 3 đ)) hT (Ú A3);have I7:=I.write (x:=T) (e:=T) (o:=sM T) (h':=s.heap.update T (Ĵ (·.setIfInBounds 3 đ))) (t':=s.toks) (by rw[eT];trivial) (.inl rfl) (λb u nb e=>(Ì _ _<|ĭ nb).trans e) ⟨_,Ba⟩
   (GZ ⟨_,_,Ba,A3,by have:=(Ê.mp h3).1;simp[this]⟩)
  have eu:upd H T (sM T)=H:=by
   funext b
   unfold upd;split
   .rename_i z;rw[z,eT]
   .rfl
  rw[eu]at I7;exact main {s with heap:=s.heap.update T (Ĵ (·.setIfInBounds 3 đ))} (.ref T) _ rfl I7<|(Ì _ _ nT).trans he
end
end Internal
namespace Internal
open PySem PySem.Spec PyProof.Rows
open PySem.W (Looks InstAt)
abbrev cW:=St->Qg->Hp->Prop
def kM(X:Cx)(EX:cW):Prop:=∀(pins:Qa (Qg×Obj)) (σ:St) (H:Hp) (s:Qd) (a:Qg),Inv X pins σ H s->EX σ a H->X.xe (.ref a) s
section
variable{X:Cx}{EX:cW}
def GY(K:qc)(EX:cW)(te:TE):TS:=λ_ σ H=>te σ H λv H1=>∃a C d,v=.ref a/\H1 a=ž (pQ a C d Ž)/\XC K C/\EX σ a H1
def zra(hx:kM X EX)(hh:X.A.handled=Ž)(he:PE X e te):PS X (.Raise (ž e) Ž pos) (GY X.K EX te):=by
 intro pins s σ H D I h;rw[arm_exec_Raise];simp only[evalOpt,Option.map];refine qa<|ς ?_;unfold raiseStmt;refine qa<|qa<|aJ (he pins s σ H _ I h) λu s1 hZ=>?_;have(v,H1,I1,rv,a,C,d,ev,ea,xc,q):=hZ;refine qa<|ς<|qb ?_;subst ev;obtain rfl:u=Ė a:=rv;obtain⟨⟨oe,vs,Ke,_,_,_,_,hp⟩,_⟩:=I1.aC a _ ea;have(p,rfl):=hp rfl;replace Ke:s1.heap.get? a=ž {cls:=.ref C,dict:=d,data:=.fields #[.ref p,.none,.none,.none,.bool Ż,.none]}:=Ke;have(nm,qn,N,bs,bm,sn,sub,ab,col,dd,k0,k1,k2,k3,k5,eC,tl):=xc.at_;have hC:=I1.bP _ _ eC;have A4:pe.contains (.type "BaseException")=ż:=by decide
 have hcB:(Ė C::bm).contains (.type "BaseException")=ż:=by rw[a1H,(μ I1.bP tl).hasType A4,a3H]
 have fin:=hx pins σ H1 s1 a I1 q;have(hp1,g,dr,tk,os):=s1
 repeat (first|with_reducible refine ό Ke ?_|with_reducible refine ό hC ?_ | (with_reducible refine a0n hC ?_;rw[hcB]) |wp_step)
 exact wpAny_raiseNew_none hh fin
end
def FQ(K:qc)(f:Str):Sp:=λvs H Q _=>∃a C p v,vs=[.ref a,v]/\H a=ž (tN a C p)/\XC K C/\nJ K C f/\
 ∀dx od,H dx=Ž->dx≠a->Q .aK (upd (upd H dx<|.bj od<|.xd [(f,v)]) a<|pQ a C (ž dx) Ž)
def Zz{fs:Qa Qg}{φ:Į->Prop}{o u:HO}(un:Un fs [] H H' h h')(aC:cC P w K H' h')(ea:H a=ž (.ext φ))(gS:H' a=ž o)(no:∀xs,o≠.tup xs)(nw:∀x,o≠.own x)(new:bV P w K (upd H' a u) h' a u):
  Un fs [] H (upd H' a u) h h'/\cC P w K (upd H' a u) h':=by
 have ne:∀b,(∀ψ,H b≠ž (.ext ψ))->b≠a:=λb q z=>by subst z;exact q _ ea
 refine⟨⟨un.keep,un.slot,λb ob q n hx=>?_,un.there,λb xs q=>?_,λb ob v q=>?_,λb ps q=>?_⟩,λb v q=>?_⟩
 .rw[zA (ne b λψ z=>by rw[n]at z;cases z)];exact un.free b ob q n hx
 .rw[zA (ne b λψ z=>by rw[q]at z;cases z)];exact un.d9 b xs q
 .rw[zA (ne b λψ z=>by rw[q]at z;cases z)];exact un.dN b ob v q
 .have(m,e):=un.eP b ps q
  exact⟨m,by rw[zA (ne b λψ z=>by rw[q]at z;cases z)];exact e⟩
 .by_cases hb:b=a
  .subst hb
   rw[zD]at q;cases q;exact new
  .rw[zA hb]at q
   refine(aC b v q).eA (λ_ _ _ r=>r) (λc r=>?_) λc xs r=>?_
   .rw[zA λz=>by subst z;rw[gS]at r;cases r;exact nw _ rfl];exact r
   .rw[zA λz=>by subst z;rw[gS]at r;cases r;exact no _ rfl];exact r
def lz(P:Qe)(w:Qh)(K:qc):lA:=λouter H s E e s'=>∃a H',e=.ref a/\s'.os=s.os/\a0U s'.gens/\Un (gI outer) [] H H' s.heap s'.heap/\cC P w K H' s'.heap/\E e Ž H'
section
variable{X:Cx}{EX:cW}{k:Nat}{f:Qg}{es:Qa į}{t:TA}
def vF(EX:cW)(σ:St):XK:=λu _ H'=>∃a,u=.ref a/\EX σ a H'
def Cy(sp:Sp)(EX:cW)(t:TA):TE:=λσ H Q=>t σ H λvs H1=>sp vs H1 Q<|vF EX σ
def Zy{s:Qd}{Q:VK}(F:bI X.prog X.w X.K X.mg X.base (lz X.prog X.w X.K) k f fd ps sp)(hr:aF k X.A)(hb:lK X.K fd ps [])(hx:kM X EX)
  (I:Inv X pins σ H s) (r:zY vs us) (h:sp vs H Q (vF EX σ)):Č (Đ X.prog X.w) X.A (call (.ref f) us) (EP X pins σ Q) X.xe s:=by
 have hl:(us++[]).length=ps.length:=by rw[ŕ,<-r.length];exact F.len _ _ _ _ h
 have A9:=hb s us I.bP hl;rw[ŕ]at A9;refine a0B<|Ϯ (F.run X.A X.stack s H ⟨us,[]⟩ us vs Q (vF EX σ) hr I.q9 A9 r h) λr s' hq=>?_;cases r with
 |error e=>
  have(a,H',rfl,os,bare,un,aC,a',ea,q):=hq;cases ea;have(hh,g,d,t,sR):=s';obtain rfl:sR=s.os:=os;exact hx pins σ H' _ a (I.call (h':=hh) (g':=g) (d':=d) (t':=t) (ch:=[]) un aC bare (λb z=>absurd z (by simp))) q
 |ok fl=>
  cases fl with
  |ret u=>exact I.after hq
  |next=>exact ō hq
  |brk=>exact ō hq
  |cont=>exact ō hq
def zrb(F:bI X.prog X.w X.K X.mg X.base (lz X.prog X.w X.K) k f fd ps sp)(hr:aF k X.A)(hg:Gl X x)(hm:X.mg x=ž (.ref f))(hk:ĵ X.K (.ref f)=ż)(hb:lK X.K fd ps [])(hx:kM X EX)
  (ha:PA X (e::es) t) (bY:(x==("__debug__":Str))=Ż:=by decide) (he:ķ (e::es) X.env=(Ż,Ŭ e X.env)::ķ es X.env:=by rfl) (cq:(Γ pos<|ķ es X.env).any (·.1)=Ż:=by rfl):
  PE X (.Call (.Name x p) (e::es) [] pos) (Cy sp EX t):=by
 intro pins s σ H Q I h;refine Ϙ<|wC I hg hm ?_ bY;refine Ċ (h₀:=X.base) I.ok.mod.j7 hk (aJ (ha pos pins s σ H _ I h) λus s1 ⟨vs,H1,I1,r,q⟩=>⟨I1.bP,?_⟩) he cq;exact Zy F hr hb hx I1 r q
def vw(E:XK):cW:=λ_ a H=>∃C fs,pP H a C fs/\∀H',pP H' a C fs->(∀b o,b≠a->H b=ž o->H' b=ž o)->(∀b,H' b=Ž->H b=Ž)->E (.ref a) Ž H'
def LL{f:Qg}{cd:Qc}{s:Qd}{E:XK}:
  kM (jr (lz P w K) P w K mg base N qual scope f cd A outer s H E) (vw E):=by
 intro pins σ H1 s1 a I ⟨C,fs,fl,q⟩;show Č _ _ (leaving _ _) _ _ _;unfold leaving;refine qa<|P7 (outer:=outer) I I.ok.frames rfl rfl fl λh' H' I' fl' k1 k2=>?_;exact⟨a,H',rfl,I'.os,I'.bare,I'.base,I'.aC,q H' fl' k1 k2⟩
end
end Internal
namespace Internal
open PySem PySem.Spec PyProof.Rows
open PySem.W (Looks InstAt)
noncomputable abbrev Cx.body(X:Cx)(pn:Qa (Qg×Obj))(E:Qc->Qd->Prop):Cx:={X with pn:=pn,xe:=E}
noncomputable abbrev Cx.held(X:Cx)(a:Qg):Cx:={X with A:=X.A.mark (ž<|.ref a),calm:=Ż,xe:=λ_ _=>False}
section
variable{X:Cx}{s:Qd}{pn:Qa (Qg×Obj)}
def Cx.Ok.body(ok:X.Ok):(X.body pn E).Ok:=⟨ok.mod,ok.kind,ok.glob,ok.blt,ok.above,ok.inj,ok.has,ok.tH,ok.hd,ok.frames,ok.uD,ok.xt,ok.bs,ok.nj,ok.i0,ok.ko,ok.dM,ok.pI⟩
def Cx.Ok.held(ok:X.Ok):(X.held a).Ok:=⟨ok.mod,ok.kind,ok.glob,ok.blt,ok.above,ok.inj,ok.has,ok.tH,(λz=>by cases z),ok.frames,ok.uD,ok.xt,ok.bs,ok.nj,ok.i0,ok.ko,ok.dM,ok.pI⟩
def Inv.body(I:Inv X pins σ H s):Inv (X.body (X.pn++pins) E) [] σ H s:=⟨I.ok.body,I.os,I.bare,I.base,I.loc,I.cell,I.free,I.bo,λp hp=>I.pin p (by simpa using hp),I.aC,I.len⟩
def Inv.f9{iX:Qa (Qg×Obj)}(ok:X.Ok)(I:Inv (X.body (X.pn++pins) E) iX σ H s):Inv X pins σ H s:=⟨ok,I.os,I.bare,I.base,I.loc,I.cell,I.free,I.bo,λp hp=>I.pin p<|Ò _ hp,I.aC,I.len⟩
def Inv.held(I:Inv X pins σ H s):Inv (X.held a) pins σ H s:=⟨I.ok.held,I.os,I.bare,I.base,I.loc,I.cell,I.free,I.bo,I.pin,I.aC,I.len⟩
def Inv.il(ok:X.Ok)(I:Inv (X.held a) pins σ H s):Inv X pins σ H s:=⟨ok,I.os,I.bare,I.base,I.loc,I.cell,I.free,I.bo,I.pin,I.aC,I.len⟩
def zmu{M:a2O}{Q:Unit->Qd->Prop}{C:Qg}{fs:Qa (Str×V)}(I:Inv X pins σ H s)(fl:pP H a C fs)(k:∀h',Inv X pins σ H {s with heap:=h'}->Q () {s with heap:=h'}):
  Č M A (a1R (.ref a) Ž) Q E s:=by
 have(d,tb,ea,et,ed):=fl;obtain⟨⟨oe,vs,he,hc,dZ,hv,h1,_⟩,_⟩:=I.aC a _ ea;unfold a1R;cases tb with
 |none=>
  refine qa<|ļ (x:=.none) he hv h1 ?_;rw[a5M (by decide)];exact qb<|k s.heap I
 |some T=>
  have(eT,nT):=et T rfl;obtain⟨⟨oT,ts,hT,xo,h3⟩,_⟩:=I.aC T _ eT;refine qa<|ļ (x:=.ref T) he hv h1 ?_;rw[a5L (show(Ė T != đ)=ż from by simp)];refine ŷ hT xo (Ê.mp h3).1 ?_;have A3:=æ xo (·.setIfInBounds 3 ((Ž:Qb Qg).elim đ λf=>Ÿ f));have Ba:=Ô (Ĵ (·.setIfInBounds 3 ((Ž:Qb Qg).elim đ λf=>Ÿ f))) hT (Ú A3);have I7:=I.write (x:=T) (e:=T) (o:=sM T) (h':=s.heap.update T (Ĵ (·.setIfInBounds 3 ((Ž:Qb Qg).elim đ λf=>Ÿ f)))) (t':=s.toks) (by rw[eT];trivial) (.inl rfl) (λb u nb e=>(Ì _ _<|ĭ nb).trans e) ⟨_,Ba⟩
   (GZ ⟨_,_,Ba,A3,by have:=(Ê.mp h3).1;simp[this]⟩)
  have eu:upd H T (sM T)=H:=by
   funext b
   unfold upd;split
   .rename_i z;rw[z,eT]
   .rfl
  rw[eu]at I7;exact k _ I7
def DI{M:a2O}{Q:Unit->Qd->Prop}{n:Str}(I:Inv X pins σ H s)(hN:X.N.Nodup)(hi:X.N[i]?=ž n)(hx:X.env.scope.names.lookup n=ž .local)
  (h:∀s',Inv X pins (σ.set i Ž) H s'->Q () s'):Č M A (do a3N X.env n .none;unbindBehindTheSuite X.env n pos) Q E s:=by
 have(m,hn,hl):=id I.loc;have om:(X.env.scope.kind==.class || (X.env.scope.kind==.module && X.env.locals != X.env.globals))=Ż:=by rw[I.ok.kind];rfl
 have qW:i < σ.length:=by rw[I.len];exact(qk.mp hi).1
 refine wpAny_nameGoes_keeps hx hn om λh' v xi hs=>h _ ?_;refine Inv.tok (s:={s with heap:=h'}) ?_ _;refine⟨I.ok,I.os,I.bare,⟨λb o e n hb hx=>?_,λb o e n hb hx=>?_,I.base.free,λb o e hx=>?_,I.base.d9,I.base.dN,I.base.eP⟩,⟨_,xi,λj y v' e1 e2 e3=>?_⟩,λy c e=>?_,I.free,I.bo,λp hp=>?_,λb u e=>?_,by simpa using I.len⟩
 .exact(hs.2 b<|qj<|qi (qh e) I.ok.above).trans (I.base.keep b o e n hb hx)
 .have(sl,e1):=I.base.slot b o e n hb hx
  exact⟨sl,(hs.2 b<|qj<|qi (qh e) I.ok.above).trans e1⟩
 .have(o',e1):=I.base.there b o e hx
  exact⟨o',(hs.2 b<|qj<|qi (qh e) I.ok.above).trans e1⟩
 .by_cases hj:j=i
  .subst hj
   rw[Ĭ qW]at e2;cases e2
  .rw[qB<|ĭ hj]at e2
   have(u',r',q):=hl j y v' e1 e2 e3;refine⟨u',r',?_⟩;rcases q with⟨k,e⟩|⟨k,c,e,z⟩
   .refine .inl ⟨k,?_⟩
    have:y≠n:=λe=>hj<|HN hN e1<|e▸hi;simp[this,e]
   .exact .inr ⟨k,c,e,z.sameBut hs<|I.ni y c e⟩
 .have(w',z):=I.cell y c e
  exact⟨w',z.sameBut hs<|I.ni y c e⟩
 .have(e,n,ne,nf,d):=I.pin p hp
  exact⟨(hs.2 p.1 ne).trans e,n,ne,nf,d⟩
 .refine(I.aC b u e).eA (λc w' hc q=>(hs.2 c ?_).trans q) (λ_ q=>q) λ_ _ q=>q
  rintro rfl;rcases hc with rfl|hc
  .rw[I.free]at e;cases e
  .rw[I.free]at hc;cases hc
end
def zA3(D:Ends)(i:Nat):Ends:={nx:=λσ H=>D.nx (σ.set i Ž) H,rt:=D.rt,bk:=λσ H=>D.bk (σ.set i Ž) H,ct:=λσ H=>D.ct (σ.set i Ž) H}
def UQ(K:qc)(C':Qg)(i:Nat)(th:TS)(D:Ends):cW:=λσ a H=>∃C fs,pP H a C fs/\XC K C/\Ź K C (.ref C')=ž ż/\
 ∀H',XV H' a C fs->(∀b o,b≠a->H b=ž o->H' b=ž o)->(∀b,H' b=Ž->H b=Ž)->th (zA3 D i) (σ.set i<|some<|.ref a) H'
def FN(K:qc)(C':Qg)(i:Nat)(tb:cW->TS)(th:TS):TS:=λD σ H=>tb (UQ K C' i th D) D σ H
section
variable{C:Qg}
def zpV{g:Array a0d}{d:Drawn}{t:Nat}{e:Qg}{oe:Obj}{Q:Bool->Qd->Prop}(I:K.In h)(X:XC K C)(X':XC K C')(he:h.get? e=ž oe)(om:oe.cls=.ref C)(hm:Ź K C (.ref C')=ž ż)
  (hq:Q ż ⟨h,g,d,t,os⟩):Č (Đ prog w) A (excMatches (.ref e)<|.ref C') Q E ⟨h,g,d,t,os⟩:=by
 have(nm,qn,N,bs,bm,sn,sub,ab,col,dd,k0,k1,k2,k3,k5,eC,tl):=X.at_;have(nm',qn',N',bs',bm',sn',sub',ab',col',vm,k0',k1',k2',k3',k5',eC',tl'):=X'.at_;have hC:=I _ _ eC;have xr:=I _ _ eC';have A4:pe.contains (.type "BaseException")=ż:=by decide
 have Kj:(Ė C'::bm').contains (.type "BaseException")=ż:=by rw[a1H,(μ I tl').hasType A4,a3H]
 have hcC:(Ė C::bm).contains (.ref C')=ż:=by
  unfold Ź a2M at hm;rw[eC]at hm;simpa [a1M] using hm
 have f:=tc_notTuple;unfold excMatches
 repeat (first | (with_reducible refine ό he ?_;rw[om]) |with_reducible refine ό xr ?_ | (with_reducible refine a0n xr ?_;rw[Kj]) | (with_reducible refine a0n hC ?_;rw[hcC]) |wp_step)
 exact hq
end
section
variable{X:Cx}{n cls:Str}{body gZ:Qa Ş}{mn:Ş}{tb:cW->TS}{th:TS}{np qU:Pos}
def V8(iI:X.stack=X.env::outer)(hf:X.env.frame=ž X.env.locals)(hN:X.N.Nodup)(hi:X.N[i]?=ž n)(hl:X.env.scope.names.lookup n=ž .local)(hg:Gl X cls)(hm:X.mg cls=ž (.ref C'))(xr:XC X.K C')
  (hb:∀(pn:Qa (Qg×Obj)) (E:Qc->Qd->Prop) (EX:cW),kM (X.body pn E) EX->dR (X.body pn E) body (tb EX))
  (hs:∀a,dR (X.held a) (mn::gZ) th) (bY:(cls==("__debug__":Str))=Ż:=by decide):
  PS X (.Try body [.ExceptHandler (ž<|.Name cls np) (ž n) (mn::gZ) qU] [] [] pos) (FN X.K C' i tb th):=by
 intro pins s σ H D I h;refine wpAny_Try_except ?_;have run:=hb (X.pn++pins) (λe aH=>Č (Đ X.prog X.w) X.A (a4J e X.env) (λ_ gP=>Č (Đ X.prog X.w) X.A (a1R e Ž) (λ_ qJ=>
  Č (Đ X.prog X.w) X.A (handleBy e X.env [.ExceptHandler (ž<|.Name cls np) (ž n) (mn::gZ) qU]) (SP X pins D) X.xe qJ) X.xe gP) X.xe aH) (UQ X.K C' i th D) ?_ [] s σ H D I.body h
 .refine ŋ run (λf s1 q=>?_) λ_ _ z=>z
  cases f with
  |next=>have(aG,H',I',q):=q;exact a0j ⟨aG,H',I'.f9 I.ok,q⟩
  |brk=>have(aG,H',I',q):=q;exact⟨aG,H',I'.f9 I.ok,q⟩
  |cont=>have(aG,H',I',q):=q;exact⟨aG,H',I'.f9 I.ok,q⟩
  |ret u=>have(v,aG,H',I',r,q):=q;exact⟨v,aG,H',I'.f9 I.ok,r,q⟩
 .intro iX aG H1 s1 a I1 ⟨C,fs,fl,xc,hmr,q⟩
  have J1:=I1.f9 I.ok;refine P7 (outer:=outer) J1 I.ok.frames iI hf fl λh2 H2 J2 Uc k1 k2=>?_;have(d2,tb2,ES,et2,ed2):=id Uc;obtain⟨⟨oe,vs,he,hc,dZ,hv,h1,_⟩,_⟩:=J2.aC a _ ES;refine wpAny_handleBy_cons (codeAny_handlers_test<|wC (J2.held (a:=a)) hg hm ?_ bY) (by intro q;cases q);refine zpV J2.bP xc xr he hc hmr<|codeAny_handlers_suite_as ?_;refine zmu J2 Uc λh3 J3=>?_;refine yY (v:=.ref a) J3 hN hi (.inl hl) rfl (λs4 J4'=>?_)<|.inr hl;have J4:=J4'.held (a:=a);obtain⟨⟨wW,vs4,xm,hc4,TY,hv4,_⟩,_⟩:=J4.aC a _ ES;have(hp4,g4,dr4,tk4,os4):=s4;have J6:=J4.write (x:=a) (e:=a) (o:=.bj wW (.own 0)) (h':=hp4) (t':=tk4) (by rw[ES];trivial) (.inl rfl) (λb u nb e=>e) ⟨wW,xm⟩ ⟨xm,_,xm⟩;have kk:∀b o,b≠a->H1 b=ž o->upd H2 a (.bj wW<|.own 0) b=ž o:=λb o nb e=>by rw[zA nb];exact k1 b o nb e
  have sem:=q (upd H2 a<|.bj wW<|.own 0) ⟨wW,zD,hc4,by have(c1,c2,c3,c4):=wW;cases hv4;rfl,?_⟩ kk (λb e=>?_)
  .refine ŋ (hs a pins _ _ _ _ J6 sem) (λf s5 q5=>?_) λ_ _ z=>z.elim
   cases f with
   |next=>have(Fg,H5,J7,q7):=q5;exact DI (J7.il I.ok) hN hi hl λs6 J8=>⟨_,H5,J8,q7⟩
   |brk=>have(Fg,H5,J7,q7):=q5;exact DI (J7.il I.ok) hN hi hl λs6 J8=>⟨_,H5,J8,q7⟩
   |cont=>have(Fg,H5,J7,q7):=q5;exact DI (J7.il I.ok) hN hi hl λs6 J8=>⟨_,H5,J8,q7⟩
   |ret u=>have(v,Fg,H5,J7,r7,q7):=q5;exact DI (J7.il I.ok) hN hi hl λs6 J8=>⟨v,_,H5,J8,r7,q7⟩
  .rcases ed2 with⟨e1,e2⟩|⟨od,dx,e1,e2⟩
   .exact .inl ⟨e1,TY.trans e2⟩
   .exact .inr ⟨od,dx,TY.trans e1,by rw[zA λz=>by rw[z,ES]at e2;cases e2];exact e2⟩
  .by_cases b2:b=a
   .rw[b2,zD]at e;cases e
   .rw[zA b2]at e;exact k2 b e
end
end Internal
namespace Internal
open PySem PySem.Spec PyProof.Rows
abbrev D:=ϴ
noncomputable def AK:Key->D
 |.inl i=>.int i
 |.inr x=>.str x
def i7(ks:Qa Key):D:=.tuple (ks.map AK)
def PL(K:qc)(H:Hp)(a:Qg)(xs:Qa V):Prop :=
 (∃o,H a=ž (.bj o<|.lst xs))\/∃(o:Obj) (aq:Array Qc) (n:Nat),K.lookup a=ž o/\o.cls=.type "list"/\o.dict=Ž/\o.data=.seq aq n/\aq.size<=Ď/\zY xs aq.toList
def XN(K:qc)(n:Str)(C:Qg):Prop:=Ĩ K ĝ n=ž (ž<|.ref C)
noncomputable def l7:Qa (D×D)->Bool
 | (.none,_)::_=>Ż
 | (.bool _,_)::_=>Ż
 |_=>ż
def bg.sq{xs:Qa V}(h:bg K H a xs):bT K H a xs:=by
 rcases h with h|⟨o,i,n,a,b,c,d,e,_⟩
 .exact .inl (.inl h)
 .exact .inr ⟨o,i,n,a,b,c,d,e⟩
def bg.kp{xs:Qa V}(e:Kp H H')(h:bg K H a xs):bg K H' a xs:=h.keeps e.tup
mutual
inductive DF (K:qc) (H:Hp):V->D->Prop
 |aK:DF K H .aK .none
 |bl (b:Bool):DF K H (.bl b) (.bool b)
 |int (i:Int):DF K H (.int i) (.int i)
 |str (x:Str):DF K H (.str x) (.str x)
 |tup {a:Qg} {xs:Qa V} {ds:Qa D} (h:bg K H a xs) (t:aO K H xs ds):DF K H (.ref a) (.tuple ds)
 |lst {a:Qg} {xs:Qa V} {ds:Qa D} (h:PL K H a xs) (t:aO K H xs ds):DF K H (.ref a) (.list ds)
 |jC {a:Qg} {o:Obj} {ws:Qa (Qa Key×V)} {kvs:Qa (D×D)} (h:H a=ž (.bj o<|.dT ws)) (t:jE K H ws kvs):DF K H (.ref a) (.dict kvs)
 |exc {a C:Qg} {n:Str} {fs:Qa (Str×V)} {ds:Qa (D×D)} (h:XV H a C fs) (e:XN K n C) (t:jF K H fs ds):DF K H (.ref a) (.dict<|(.none,.str n)::ds)
 |obj {a C dx:Qg} {o:Obj} {n:Str} {fs:Qa (Str×V)} {ds:Qa (D×D)} (h:H a=ž (.bj o<|.ins C dx fs)) (e:XN K n C) (t:jF K H fs ds):DF K H (.ref a) (.dict<|(.bool ż,.str n)::ds)
inductive aO (K:qc) (H:Hp):Qa V->Qa D->Prop
 |nil:aO K H [] []
 |cons {v:V} {d:D} {vs:Qa V} {ds:Qa D} (h:DF K H v d) (t:aO K H vs ds):aO K H (v::vs) (d::ds)
inductive jE (K:qc) (H:Hp):Qa (Qa Key×V)->Qa (D×D)->Prop
 |nil:jE K H [] []
 |cons {k:Qa Key} {v:V} {d:D} {vs:Qa (Qa Key×V)} {ds:Qa (D×D)} (h:DF K H v d) (t:jE K H vs ds):jE K H ((k,v)::vs) ((i7 k,d)::ds)
inductive jF (K:qc) (H:Hp):Qa (Str×V)->Qa (D×D)->Prop
 |nil:jF K H [] []
 |cons {k:Str} {v:V} {d:D} {vs:Qa (Str×V)} {ds:Qa (D×D)} (h:DF K H v d) (t:jF K H vs ds):jF K H ((k,v)::vs) ((.str k,d)::ds)
end
def XV.kp{C:Qg}{fs:Qa (Str×V)}(e:Kp H H')(h:XV H a C fs):XV H' a C fs:=by
 have(ox,h1,h2,h3,h4):=h;refine⟨ox,e.bj _ _ _ h1,h2,h3,?_⟩;rcases h4 with h4|⟨od,dx,h5,h6⟩
 .exact .inl h4
 .exact .inr ⟨od,dx,h5,e.bj _ _ _ h6⟩
def PL.kp{xs:Qa V}(e:Kp H H')(h:PL K H a xs):PL K H' a xs:=by
 rcases h with⟨o,h⟩|h
 .exact .inl ⟨o,e.bj _ _ _ h⟩
 .exact .inr h
def PL.sq{xs:Qa V}(h:PL K H a xs):bZ K H a xs:=by
 rcases h with⟨o,h⟩|h
 .exact .inl (.inr ⟨o,h⟩)
 .exact .inr h
def aO.kp(e:Kp H H'){v:Qa V}{d:Qa D}(h:aO K H v d):aO K H' v d :=
 aO.rec (motive_1:=λv d _=>DF K H' v d) (motive_2:=λv d _=>aO K H' v d) (motive_3:=λv d _=>jE K H' v d) (motive_4:=λv d _=>jF K H' v d)
  .aK .bl .int .str (λh _ t=>.tup (h.keeps e.tup) t) (λh _ t=>.lst (h.kp e) t) (λh _ t=>.jC (e.bj _ _ _ h) t) (λh n _ t=>.exc (h.kp e) n t) (λh n _ t=>.obj (e.bj _ _ _ h) n t)
  .nil (λ_ _ a b=>.cons a b) .nil (λ_ _ a b=>.cons a b) .nil (λ_ _ a b=>.cons a b) h
def DF.kp(e:Kp H H'){d:D}(h:DF K H v d):DF K H' v d:=by
 cases aO.kp e (.cons h .nil);assumption
def jF.kp(e:Kp H H'){v:Qa (Str×V)}{d:Qa (D×D)}(h:jF K H v d):jF K H' v d :=
 jF.rec (motive_1:=λ_ _ _=>True) (motive_2:=λ_ _ _=>True) (motive_3:=λ_ _ _=>True) (motive_4:=λv d _=>jF K H' v d) trivial (λ_=>trivial) (λ_=>trivial) (λ_=>trivial) (λ_ _ _=>trivial) (λ_ _ _=>trivial) (λ_ _ _=>trivial) (λ_ _ _ _=>trivial) (λ_ _ _ _=>trivial) trivial (λ_ _ _ _=>trivial) trivial (λ_ _ _ _=>trivial) .nil (λh _ _ b=>.cons (h.kp e) b) h
section
def aO.ind{P:Qa V->Qa D->Prop}(n:P [] [])(c:∀{v d vs ds},DF K H v d->aO K H vs ds->P vs ds->P (v::vs) (d::ds)){ds:Qa D}(h:aO K H vs ds):P vs ds :=
 aO.rec (motive_1:=λ_ _ _=>True) (motive_2:=λv d _=>P v d) (motive_3:=λ_ _ _=>True) (motive_4:=λ_ _ _=>True) trivial (λ_=>trivial) (λ_=>trivial) (λ_=>trivial) (λ_ _ _=>trivial) (λ_ _ _=>trivial) (λ_ _ _=>trivial) (λ_ _ _ _=>trivial) (λ_ _ _ _=>trivial) n (λh t _ q=>c h t q) trivial (λ_ _ _ _=>trivial) trivial (λ_ _ _ _=>trivial) h
def jE.ind{P:Qa (Qa Key×V)->Qa (D×D)->Prop}(n:P [] [])(c:∀{k v d vs ds},DF K H v d->jE K H vs ds->P vs ds->P ((k,v)::vs) ((i7 k,d)::ds)){vs:Qa (Qa Key×V)}{ds:Qa (D×D)}(h:jE K H vs ds):P vs ds :=
 jE.rec (motive_1:=λ_ _ _=>True) (motive_2:=λ_ _ _=>True) (motive_3:=λv d _=>P v d) (motive_4:=λ_ _ _=>True) trivial (λ_=>trivial) (λ_=>trivial) (λ_=>trivial) (λ_ _ _=>trivial) (λ_ _ _=>trivial) (λ_ _ _=>trivial) (λ_ _ _ _=>trivial) (λ_ _ _ _=>trivial) trivial (λ_ _ _ _=>trivial) n (λh t _ q=>c h t q) trivial (λ_ _ _ _=>trivial) h
def aO.app{ws:Qa V}{ds es:Qa D}(h:aO K H vs ds)(q:aO K H ws es):aO K H (vs++ws) (ds++es):=
 h.ind (P:=λvs ds=>aO K H (vs++ws)<|ds++es) q λa _ t=>.cons a t
def aO.snoc{d:D}(h:DF K H v d){ds:Qa D}(t:aO K H vs ds):aO K H (vs++[v]) (ds++[d]):=t.app (.cons h .nil)
def aO.len:∀{vs:Qa V} {ds:Qa D},aO K H vs ds->vs.length=ds.length
 |_,_,.nil=>rfl
 |_,_,.cons _ t=>congrArg (·+1)<|aO.len t
def aO.get{ds:Qa D}{d:D}(h:aO K H vs ds)(e:ds[i]?=ž d):∃v,vs[i]?=ž v/\DF K H v d:=by
 refine h.ind (P:=λvs ds=>∀i:Nat,ds[i]?=ž d->∃v,vs[i]?=ž v/\DF K H v d) (λi e=>?_) (λh _ t i e=>?_) i e
 .simp at e
 .cases i with
  |zero=>cases(show ž _=ž _ from e);exact⟨_,rfl,h⟩
  |succ i=>exact t i e
def aO.get'{ds:Qa D}(h:aO K H vs ds)(e:vs[i]?=ž v):∃d,ds[i]?=ž d/\DF K H v d:=by
 refine h.ind (P:=λvs ds=>∀i:Nat,vs[i]?=ž v->∃d,ds[i]?=ž d/\DF K H v d) (λi e=>?_) (λh _ t i e=>?_) i e
 .simp at e
 .cases i with
  |zero=>cases(show ž _=ž _ from e);exact⟨_,rfl,h⟩
  |succ i=>exact t i e
def aO.take:∀{vs:Qa V} {ds:Qa D} (n:Nat),aO K H vs ds->aO K H (vs.take n) (ds.take n)
 |_,_,0,_=>by simpa using aO.nil
 |_,_,n+1,.nil=>by simpa using aO.nil
 |_,_,n+1,.cons h t=>.cons h<|aO.take n t
def aO.drop:∀{vs:Qa V} {ds:Qa D} (n:Nat),aO K H vs ds->aO K H (vs.drop n) (ds.drop n)
 |_,_,0,q=>q
 |_,_,n+1,.nil=>by simpa using aO.nil
 |_,_,n+1,.cons h t=>aO.drop n t
def aO.set{d:D}(h:DF K H v d):∀{vs:Qa V} {ds:Qa D} (n:Nat),aO K H vs ds->aO K H (vs.set n v) (ds.set n d)
 |_,_,_,.nil=>.nil
 |_,_,0,.cons _ t=>.cons h t
 |_,_,n+1,.cons a t=>.cons a<|aO.set h n t
end
inductive PU where
 |d (x:D) |l (xs:Qa D) |t (kvs:Qa (Qa Key×D)) |x (kvs:Qa (Qa K3×D))
inductive U where
 |d (x:D)
 |l (xs:Qa D) |t (kvs:Qa (Qa Key×D)) |k (kvs:Qa (Key×D))
 |o (c:Str) (fs:Qa (Str×PU))
noncomputable def U.own:U->Bool
 |.d _=>Ż
 |_=>ż
def fq{κ:Type}(K:qc)(H:Hp):Qa (κ×V)->Qa (κ×D)->Prop:=ϫ λp q=>p.1=q.1/\DF K H p.2 q.2
noncomputable def Bn(C dx:Qg)(vs:Qa (Str×V)):Qa (Qg×HO)->HO
 |[]=>.ins C dx vs
 | (b,p)::r=>.sub b p<|Bn C dx vs r
inductive FO (K:qc) (H:Hp):Qa (Str×V)->Qa (Qg×HO)->Qa (Str×PU)->Prop
 |nil:FO K H [] [] []
 |d {n:Str} {v:V} {x:D} {vs:Qa (Str×V)} {ps:Qa (Qg×HO)} {fs:Qa (Str×PU)} (h:DF K H v x) (t:FO K H vs ps fs):FO K H ((n,v)::vs) ps ((n,.d x)::fs)
 |l {n:Str} {b:Qg} {us:Qa V} {xs:Qa D} {vs:Qa (Str×V)} {ps:Qa (Qg×HO)} {fs:Qa (Str×PU)} (h:aO K H us xs) (t:FO K H vs ps fs):FO K H ((n,.ref b)::vs) ((b,.lst us)::ps) ((n,.l xs)::fs)
 |t {n:Str} {b:Qg} {us:Qa (Qa Key×V)} {xs:Qa (Qa Key×D)} {vs:Qa (Str×V)} {ps:Qa (Qg×HO)} {fs:Qa (Str×PU)} (h:fq K H us xs) (t:FO K H vs ps fs):FO K H ((n,.ref b)::vs) ((b,.dT us)::ps) ((n,.t xs)::fs)
 |x {n:Str} {b:Qg} {us:Qa (Qa K3×V)} {xs:Qa (Qa K3×D)} {vs:Qa (Str×V)} {ps:Qa (Qg×HO)} {fs:Qa (Str×PU)} (h:fq K H us xs) (t:FO K H vs ps fs):FO K H ((n,.ref b)::vs) ((b,.dX us)::ps) ((n,.x xs)::fs)
def Rp(K:qc)(H:Hp)(v:V):U->Prop
 |.d x=>DF K H v x
 |.l xs=>∃a us,v=.ref a/\H a=ž (.lst us)/\aO K H us xs
 |.t kvs=>∃a ws,v=.ref a/\H a=ž (.dT ws)/\fq K H ws kvs
 |.k kvs=>∃a ws,v=.ref a/\H a=ž (.dK ws)/\fq K H ws kvs
 |.o c fs=>∃a C dx vs ps,v=.ref a/\H a=ž (Bn C dx vs ps)/\ps≠[]/\XN K c C/\(ps.map (·.1)).Nodup/\FO K H vs ps fs/\dx∉ps.map (·.1)/\∀q∈ps,H q.1=ž (.own a)
def Mo:HO->Prop
 |.lst _=>True
 |.dT _=>True
 |.dK _=>True
 |.sub _ _ _=>True
 |_=>False
def Mo.Bn{C:Qg}{vs:Qa (Str×V)}{ps:Qa (Qg×HO)}(h:ps≠[]):Mo (Bn C dx vs ps):=by
 cases ps with
 |nil=>exact absurd rfl h
 |cons p r=>trivial
def Rp.own{u:U}(h:Rp K H v u)(o:u.own=ż):∃a c,v=.ref a/\H a=ž c/\Mo c:=by
 cases u with
 |d x=>cases o
 |l xs=>have(a,us,e,q,_):=h;exact⟨a,_,e,q,trivial⟩
 |t xs=>have(a,us,e,q,_):=h;exact⟨a,_,e,q,trivial⟩
 |k xs=>have(a,us,e,q,_):=h;exact⟨a,_,e,q,trivial⟩
 |o c fs=>have(a,C,dx,vs,ps,e,q,n,_):=h;exact⟨a,_,e,q,Mo.Bn n⟩
def fq.kp{κ:Type}(e:Kp H H'){ws:Qa (κ×V)}{kvs:Qa (κ×D)}(h:fq K H ws kvs):fq K H' ws kvs:=Paired.jZ h λ_ _ z=>⟨z.1,z.2.kp e⟩
def FO.kp(e:Kp H H'){vs:Qa (Str×V)}{ps:Qa (Qg×HO)}{fs:Qa (Str×PU)}(h:FO K H vs ps fs):FO K H' vs ps fs:=by
 induction h with
 |nil=>exact .nil
 |d h _ ih=>exact .d (h.kp e) ih
 |l h _ ih=>exact .l (h.kp e) ih
 |t h _ ih=>exact .t (h.kp e) ih
 |x h _ ih=>exact .x (h.kp e) ih
def Rp.kp{u:U}(h:Rp K H v u)(e:Kp H H')(o:u.own=ż->∀a c,v=.ref a->H a=ž c->H' a=ž c):Rp K H' v u:=by
 cases u with
 |d x=>exact DF.kp e h
 |l xs=>have(a,us,ev,q,t):=h;exact⟨a,us,ev,o rfl a _ ev q,t.kp e⟩
 |t xs=>have(a,us,ev,q,t):=h;exact⟨a,us,ev,o rfl a _ ev q,t.kp e⟩
 |k xs=>have(a,us,ev,q,t):=h;exact⟨a,us,ev,o rfl a _ ev q,t.kp e⟩
 |o c fs=>have(a,C,dx,vs,ps,ev,q,n,x,nd,t,d,w):=h;exact⟨a,C,dx,vs,ps,ev,o rfl a _ ev q,n,x,nd,t.kp e,d,λz hz=>e.own _ _<|w z hz⟩
abbrev En:=Qa (Qb U)
def Ow(ρ:En)(σ:St)(a:Qg):Prop:=∃(i:Nat) (u:U),ρ[i]?=ž (ž u)/\u.own=ż/\σ[i]?=ž (ž<|.ref a)
structure Rs (K:qc) (ρ:En) (σ:St) (H:Hp):Prop where
 len:ρ.length=σ.length
 rep:∀(i:Nat) (u:U),ρ[i]?=ž (ž u)->∃v,σ[i]?=ž (ž v)/\Rp K H v u
 apart:∀(i j:Nat) (u w:U),ρ[i]?=ž (ž u)->ρ[j]?=ž (ž w)->u.own=ż->w.own=ż->σ[i]?=σ[j]?->i=j
def Bz(A:Qg->Prop)(H H':Hp):Prop:=∀a o,H a=ž o->¬A a->H' a=ž o
structure iB (ρ ao:En):Prop where
 len:ao.length=ρ.length
 own:∀(i:Nat) (u:U),ao[i]?=ž (ž u)->u.own=ż->∃w,ρ[i]?=ž (ž w)/\w.own=ż
 live:∀(i:Nat) (u:U),ρ[i]?=ž (ž u)->∃w,ao[i]?=ž (ž w)
def Nw(H:Hp)(v:V)(u:U):Prop:=u.own=ż->∃a,v=.ref a/\H a=Ž
structure Go (K:qc) (ρ:En) (σ:St) (H:Hp) (ao:En) (H':Hp):Prop where
 rs:Rs K ao σ H'
 fr:Bz (Ow ρ σ) H H'
 shr:iB ρ ao
 dm:∀a,H' a=Ž->H a=Ž
section
variable{ρ ao d0:En}{By:Hp}
def Rs.ow(r:Rs K ρ σ H)(o:Ow ρ σ a):∃c,H a=ž c/\Mo c:=by
 have(i,u,e,ou,es):=o;have(v,ev,p):=r.rep i u e;rw[es]at ev;cases ev;have(b,c,eb,q,m):=p.own ou;cases eb;exact⟨c,q,m⟩
def Bz.kp(r:Rs K ρ σ H)(f:Bz (Ow ρ σ) H H'):Kp H H':=by
 refine⟨λb xs h=>f b _ h λo=>?_,λb ob u h=>f b _ h λo=>?_,λb x h=>f b _ h λo=>?_⟩
 all_goals
  have(c,q,m):=r.ow o;rw[h]at q;cases q;exact m
def iB.refl(ρ:En):iB ρ ρ:=⟨rfl,λi u e o=>⟨u,e,o⟩,λi u e=>⟨u,e⟩⟩
def iB.trans(a:iB ρ ao)(b:iB ao d0):iB ρ d0:=⟨b.1.trans a.1,λi u e o=>let ⟨w,e',o'⟩:=b.2 i u e o;a.2 i w e' o',λi u e=>let ⟨w,e'⟩:=a.3 i u e;b.3 i w e'⟩
def iB.ow(s:iB ρ ao)(o:Ow ao σ a):Ow ρ σ a:=by
 have(i,u,e,ou,es):=o;have(w,e',o'):=s.2 i u e ou;exact⟨i,w,e',o',es⟩
def Go.refl(r:Rs K ρ σ H):Go K ρ σ H ρ H:=⟨r,λ_ _ h _=>h,iB.refl _,λ_ h=>h⟩
def Go.trans(a:Go K ρ σ H ao H')(b:Go K ao σ H' d0 By):Go K ρ σ H d0 By :=
 ⟨b.rs,λc o h n=>b.fr c o (a.fr c o h n) λz=>n<|a.shr.ow z,a.shr.trans b.shr,λc h=>a.dm c<|b.dm c h⟩
def Go.kp(r:Rs K ρ σ H)(g:Go K ρ σ H ao H'):Kp H H':=g.fr.kp r
def Go.eA{u:U}(r:Rs K ρ σ H)(g:Go K ρ σ H ao H')(h:Rp K H v u)(n:u.own=ż->∃a,v=.ref a/\¬Ow ρ σ a):Rp K H' v u:=by
 refine h.kp (g.kp r) λo a c ev q=>?_;have(b,eb,nb):=n o;cases ev;cases eb;exact g.fr _ _ q nb
def Nw.out{u:U}(r:Rs K ρ σ H)(n:Nw H v u):u.own=ż->∃a,v=.ref a/\¬Ow ρ σ a:=λo=>by
 have(a,e,h):=n o;refine⟨a,e,λz=>?_⟩;have(c,q,_):=r.ow z;rw[h]at q;cases q
def eI.dm(s:eI H H'):∀a,H' a=Ž->H a=Ž:=λa h=>by
 cases e:H a with
 |none=>rfl
 |some o=>rw[s a o e]at h;cases h
def Go.grow(r:Rs K ρ σ H)(s:eI H H'):Go K ρ σ H ρ H' :=
 ⟨⟨r.len,λi u e=>let ⟨v,ev,p⟩:=r.rep i u e;⟨v,ev,p.kp s.kp λ_ a c _ q=>s a c q⟩,r.apart⟩,λa o h _=>s a o h,iB.refl _,s.dm⟩
end
inductive Ar where
 |s (i:Nat) |u (x:U)
noncomputable def Ar.get(ρ:En):Ar->Qb U
 |.s i=>(ρ[i]?).join
 |.u x=>ž x
def oF(K:qc)(ρ:En)(σ:St)(H H':Hp)(v:V):Ar->Prop
 |.s i=>σ[i]?=ž (ž v)/\∃u,ρ[i]?=ž (ž u)
 |.u x=>Rp K H' v x/\Nw H v x
abbrev ME:=En->Qb (Ar×En)
abbrev MA:=En->Qb (Qa Ar×En)
abbrev MT:=En->Qb (Bool×En)
def VE(K:qc)(t:TE)(m:ME):Prop :=
 ∀(ρ:En) (σ:St) (H:Hp) (a:Ar) (ao:En) (Q:VK),Rs K ρ σ H->m ρ=ž (a,ao)->(∀v H',Go K ρ σ H ao H'->oF K ao σ H H' v a->Q v H')->t σ H Q
def VT(K:qc)(t:TT)(m:MT):Prop :=
 ∀(ρ:En) (σ:St) (H:Hp) (b:Bool) (ao:En) (Q:Bool->Hp->Prop),Rs K ρ σ H->m ρ=ž (b,ao)->(∀H',Go K ρ σ H ao H'->Q b H')->t σ H Q
structure Ff (K:qc) (ρ:En) (σ:St) (H H':Hp) (vs:Qa V) (as:Qa Ar):Prop where
 len:vs.length=as.length
 ar:∀(i:Nat) (a:Ar),as[i]?=ž a->∃v,vs[i]?=ž v/\oF K ρ σ H H' v a
 ap:∀(i j:Nat) (x y:U),as[i]?=ž (.u x)->as[j]?=ž (.u y)->x.own=ż->y.own=ż->vs[i]?=vs[j]?->i=j
def mw(K:qc)(t:TA)(m:MA):Prop :=
 ∀(ρ:En) (σ:St) (H:Hp) (as:Qa Ar) (ao:En) (Q:Qa V->Hp->Prop),Rs K ρ σ H->m ρ=ž (as,ao)->(∀vs H',Go K ρ σ H ao H'->Ff K ao σ H H' vs as->Q vs H')->t σ H Q
section
variable{ρ ao d0:En}{By:Hp}{a:Ar}{u:U}
def Nw.mono(n:Nw H' v u)(h:∀a,H' a=Ž->H a=Ž):Nw H v u:=λo=>let ⟨a,e,q⟩:=n o;⟨a,e,h a q⟩
def Nw.qM(r:Rs K ρ σ H)(g:Go K ρ σ H ao H')(n:Nw H v u):u.own=ż->∃a,v=.ref a/\¬Ow ao σ a:=λo=>by
 have(b,e,q):=n.out r o;exact⟨b,e,λz=>q<|g.shr.ow z⟩
def oF.later(r:Rs K ρ σ H)(g1:Go K ρ σ H ao H')(g2:Go K ao σ H' d0 By)(h:oF K ao σ H H' v a)(e:a.get d0=ž u):Rp K By v u:=by
 cases a with
 |s i=>
  have(es,_):=h;have e':d0[i]?=ž (ž u):=by
   cases q:d0[i]? with
   |none=>rw[show Ar.get d0 (.s i)=(d0[i]?).join from rfl,q]at e;cases e
   |some o=>
    rw[show Ar.get d0 (.s i)=(d0[i]?).join from rfl,q]at e;cases o with
    |none=>cases e
    |some x=>cases e;rfl
  have(w,ew,p):=g2.rs.rep i u e';rw[es]at ew;cases ew;exact p
 |u x=>
  cases(show ž x=ž u from e);exact g2.eA g1.rs h.1<|h.2.qM r g1
def oF.now(r:Rs K ρ σ H)(g1:Go K ρ σ H ao H')(h:oF K ao σ H H' v a)(e:a.get ao=ž u):Rp K H' v u:=h.later r g1 (Go.refl g1.rs) e
def Nw.data{x:D}:Nw H v (.d x):=λo=>by cases o
noncomputable def zf(i:Nat):ME:=λρ=>match ρ[i]? with
 |some (ž _)=>ž (.s i,ρ)
 |_=>Ž
def ze:VE K (nF i) (zf i):=by
 intro ρ σ H a ao Q r e q;unfold zf at e;split at e
 .rename_i u eu
  cases e;have(v,ev,p):=r.rep i u eu;exact⟨v,ev,q v H (Go.refl r) ⟨ev,u,eu⟩⟩
 .cases e
noncomputable def mC(x:D):ME:=λρ=>ž (.u<|.d x,ρ)
def Ee{c:V}{x:D}(h:∀H,DF K H c x):VE K (tC c) (mC x):=by
 intro ρ σ H a ao Q r e q;cases e;exact q _ _ (Go.refl r) ⟨h H,Nw.data⟩
def zj{n:Int}:VE K (tC<|.int n) (mC<|.int n):=Ee λ_=>.int n
def zV{n:Str}:VE K (tC<|.str n) (mC<|.str n):=Ee λ_=>.str n
def iO{n:Bool}:VE K (tC<|.bl n) (mC<|.bool n):=Ee λ_=>.bl n
def rP:VE K (tC .aK) (mC .none):=Ee λ_=>.aK
def VO(K:qc)(r:R2)(f:U->U->Qb U):Prop :=
 ∀(x y:V) (a b u:U) (H:Hp) (Q:VK),Rp K H x a->Rp K H y b->f a b=ž u->(∀v H',eI H H'->Rp K H' v u->Nw H v u->Q v H')->r x y H Q
def af(f:U->U->Qb U)(ma mb:ME):ME:=λρ=>(ma ρ).bind λp=>(mb p.2).bind λq=>(p.1.get q.2).bind λx=>(q.1.get q.2).bind λy=>(f x y).bind λu=>ž (.u u,q.2)
def bQ{o:Qb α}{f:α->Qb β}{b:β}(h:o.bind f=ž b):∃a,o=ž a/\f a=ž b:=Option.bind_eq_some_iff.mp h
def zp{r:R2}{f:U->U->Qb U}{ma mb:ME}(h:VO K r f)(ha:VE K ta ma)(hb:VE K tb mb):VE K (pf r ta tb) (af f ma mb):=by
 intro ρ σ H a ao Q rs e q;obtain⟨⟨a1,aw⟩,e1,e⟩:=bQ e;obtain⟨⟨b1,aD⟩,e2,e⟩:=bQ e;have(x,ex,e):=bQ e;have(y,ey,e):=bQ e;have(u,eu,e):=bQ e;cases e;refine ha ρ σ H a1 aw _ rs e1 λv1 H1 g1 k1=>hb aw σ H1 b1 aD _ g1.rs e2 λv2 H2 g2 k2=>?_;refine h _ _ x y u H2 _ (k1.later rs g1 g2 ex) (k2.now g1.rs g2 ey) eu λv H3 s p n=>?_;exact q v H3 ((g1.trans g2).trans<|Go.grow g2.rs s) ⟨p,n.mono (g1.trans g2).dm⟩
def VU(K:qc)(r:V->Hp->VK->Prop)(f:U->Qb U):Prop :=
 ∀(x:V) (a u:U) (H:Hp) (Q:VK),Rp K H x a->f a=ž u->(∀v H',eI H H'->Rp K H' v u->Nw H v u->Q v H')->r x H Q
def cI(f:U->Qb U)(ma:ME):ME:=λρ=>(ma ρ).bind λp=>(p.1.get p.2).bind λx=>(f x).bind λu=>ž (.u u,p.2)
def kJ{r:V->Hp->VK->Prop}{f:U->Qb U}{ma:ME}(h:VU K r f)(ha:VE K ta ma):VE K (Ef r ta) (cI f ma):=by
 intro ρ σ H a ao Q rs e q;obtain⟨⟨a1,aw⟩,e1,e⟩:=bQ e;have(x,ex,e):=bQ e;have(u,eu,e):=bQ e;cases e;refine ha ρ σ H a1 aw _ rs e1 λv1 H1 g1 k1=>?_;refine h _ x u H1 _ (k1.now rs g1 ex) eu λv H3 s p n=>?_;exact q v H3 (g1.trans<|Go.grow g1.rs s) ⟨p,n.mono g1.dm⟩
noncomputable def zn:MA:=λρ=>ž ([],ρ)
noncomputable def zb(me:ME)(ma:MA):MA:=λρ=>(me ρ).bind λp=>(ma p.2).bind λq=>ž (p.1::q.1,q.2)
def zm:mw K rB zn:=by
 intro ρ σ H as ao Q r e q;cases e;exact q [] H (Go.refl r) ⟨rfl,λi a e=>by simp at e,λi j x y e=>by simp at e⟩
def zd{t:TA}{me:ME}{ma:MA}(he:VE K te me)(ha:mw K t ma):mw K (oN te t) (zb me ma):=by
 intro ρ σ H as ao Q r e q;obtain⟨⟨a1,aw⟩,e1,e⟩:=bQ e;obtain⟨⟨EV,aD⟩,e2,e⟩:=bQ e;cases e;refine he ρ σ H a1 aw _ r e1 λv1 H1 g1 k1=>ha aw σ H1 EV _ _ g1.rs e2 λvs H2 g2 s2=>?_;have Jj:∀x,a1=.u x->x.own=ż->∃b c,v1=.ref b/\H1 b=ž c:=λx ea o=>by
  subst ea;have(b,c,eb,hb,_):=k1.1.own o;exact⟨b,c,eb,hb⟩
 have oth:∀(j:Nat) (y:U),EV[j]?=ž (.u y)->y.own=ż->∃b,vs[j]?=ž (.ref b)/\H1 b=Ž:=λj y ej o=>by
  have(v,ev,k):=s2.ar j _ ej;have(b,eb,hb):=k.2 o;subst eb;exact⟨b,ev,hb⟩
 have ne:∀(x:U) (j:Nat) (y:U),a1=.u x->x.own=ż->EV[j]?=ž (.u y)->y.own=ż->ž v1≠vs[j]?:=λx j y ea ox ej oy z=>by
  have(b,c,e1,h1):=Jj x ea ox;have(b',e2,h2):=oth j y ej oy;rw[e2,e1]at z;cases z;rw[h1]at h2;cases h2
 refine q (v1::vs) H2 (g1.trans g2) ⟨by simp[s2.len],λi a ei=>?_,λi j x y ei ej ox oy ev=>?_⟩
 .cases i with
  |zero=>
   cases(show ž a1=ž a from ei);refine⟨v1,rfl,?_⟩;cases a1 with
   |s k=>
    have(es,w,ew):=k1;exact⟨es,g2.shr.live k w ew⟩
   |u x=>exact⟨g2.eA g1.rs k1.1<|k1.2.qM r g1,k1.2⟩
  |succ i=>
   have(v,ev,k):=s2.ar i a ei;refine⟨v,ev,?_⟩;cases a with
   |s k'=>exact k
   |u x=>exact⟨k.1,k.2.mono g1.dm⟩
 .cases i with
  |zero=>
   cases j with
   |zero=>rfl
   |succ j=>exact absurd ev<|ne x j y (qw ei) ox ej oy
  |succ i=>
   cases j with
   |zero=>exact absurd ev.symm<|ne y i x (qw ej) oy ei ox
   |succ j=>exact congrArg (·+1)<|s2.ap i j x y ei ej ox oy ev
end
open Classical in
def pJ(c:Int->Int->Prop)(g:Int->Int->D):U->U->Qb U
 |.d (.int i),.d (.int j)=>if c i j then ž (.d<|g i j)else Ž
 |_,_=>Ž
noncomputable def fI(g:Int->Int->D):U->U->Qb U
 |.d (.int i),.d (.int j)=>ž<|.d<|g i j
 |_,_=>Ž
section
def DF.int_inv{i:Int}(h:DF K H v (.int i)):v=.int i:=by cases h;rfl
def DF.str_inv(h:DF K H v (.str x)):v=.str x:=by cases h;rfl
def DF.bS{b:Bool}(h:DF K H v (.bool b)):v=.bl b:=by cases h;rfl
def DF.aI{ds:Qa D}(h:DF K H v (.tuple ds)):∃a xs,v=.ref a/\bg K H a xs/\aO K H xs ds:=by cases h with|tup h t=>exact⟨_,_,rfl,h,t⟩
def DF.lst_inv{ds:Qa D}(h:DF K H v (.list ds)):∃a xs,v=.ref a/\PL K H a xs/\aO K H xs ds:=by cases h with|lst h t=>exact⟨_,_,rfl,h,t⟩
def DF.cV{ds:Qa (D×D)}(h:DF K H v (.dict ds))(nx:l7 ds=ż):∃a o ws,v=.ref a/\H a=ž (.bj o<|.dT ws)/\jE K H ws ds:=by
 cases h with
 |jC h t=>exact⟨_,_,_,rfl,h,t⟩
 |exc h n t=>cases nx
 |obj h n t=>cases nx
def vR{c:Int->Int->Prop}{g:Int->Int->V}{gd:Int->Int->D}(h:∀i j H,DF K H (g i j)<|gd i j):VO K (rI c g) (pJ c gd):=by
 intro x y a b u H Q ha hb e q;unfold pJ at e;split at e
 .rename_i i j
  split at e
  .rename_i hc
   cases e;exact⟨i,j,DF.int_inv ha,DF.int_inv hb,hc,q _ _ (λ_ _ z=>z) (h i j H) Nw.data⟩
  .cases e
 .cases e
def vE{g:Int->Int->V}{gd:Int->Int->D}(h:∀i j H,DF K H (g i j)<|gd i j):VO K (jS g) (fI gd):=by
 intro x y a b u H Q ha hb e q;unfold fI at e;split at e
 .rename_i i j
  cases e;exact⟨i,j,DF.int_inv ha,DF.int_inv hb,q _ _ (λ_ _ z=>z) (h i j H) Nw.data⟩
 .cases e
def cB:=fI λi j=>.int<|i+j
def lG:=fI λi j=>.int<|i - j
def kI:=pJ vA λi j=>.int<|i * j
def lF:=pJ (λ_ j=>0 < j) λi j=>.int<|i % j
def yf:=pJ yg λi j=>.int<|i / j
def Cs:=pJ vT λi j=>.int<|i.fdiv j
def B6:=pJ B0 λi j=>.int<|i^j.toNat
def mf:=fI λi j=>.bool<|decide<|i < j
def tE:=fI λi j=>.bool<|decide<|i<=j
def k9:=fI λi j=>.bool<|decide<|j < i
def KG:=fI λi j=>.bool<|decide<|j<=i
def cO:VO K (jS λi j=>.int<|i+j) cB:=vE λi j H=>.int _
def oR:VO K (jS λi j=>.int<|i - j) lG:=vE λi j H=>.int _
def oQ:VO K (rI vA λi j=>.int<|i * j) kI:=vR λi j H=>.int _
def oP:VO K (rI (λ_ j=>0 < j) λi j=>.int<|i % j) lF:=vR λi j H=>.int _
def OF:VO K (rI yg λi j=>.int<|i / j) yf:=vR λi j H=>.int _
def OE:VO K (rI vT λi j=>.int<|i.fdiv j) Cs:=vR λi j H=>.int _
def Wz:VO K (rI B0 λi j=>.int<|i^j.toNat) B6:=vR λi j H=>.int _
def p8:VO K (jS λi j=>.bl<|decide<|i < j) mf:=vE λi j H=>.bl _
def vQ:VO K (jS λi j=>.bl<|decide<|i<=j) tE:=vE λi j H=>.bl _
def rO:VO K (jS λi j=>.bl<|decide<|j < i) k9:=vE λi j H=>.bl _
def zA4:VO K (jS λi j=>.bl<|decide<|j<=i) KG:=vE λi j H=>.bl _
noncomputable def iF:U->Qb U
 |.d (.int i)=>ž<|.d<|.int (-i)
 |_=>Ž
def lQ:VU K (rU λi=>.int (-i)) iF:=by
 intro x a u H Q ha e q;unfold iF at e;split at e
 .rename_i i
  cases e;exact⟨i,DF.int_inv ha,q _ _ (λ_ _ z=>z) (.int _) Nw.data⟩
 .cases e
noncomputable def U.py:U->Qb D
 |.d x=>ž x
 |.l xs=>ž<|.list xs
 |_=>Ž
def aO.dv{v:Qa V}{d:Qa D}(h:aO K H v d):ϕ d=Ż->mF K H v d :=
 aO.rec (motive_1:=λv d _=>d.hasDict=Ż->DV K H v d) (motive_2:=λv d _=>ϕ d=Ż->mF K H v d) (motive_3:=λ_ _ _=>True) (motive_4:=λ_ _ _=>True)
  (λ_=>.aK) (λb _=>.bl b) (λi _=>.int i) (λx _=>.str x) (λh _ t q=>.tup (bg.sq h)<|t (by simpa [ϋ] using q)) (λh _ t q=>.lst h.sq<|t (by simpa [ϋ] using q))
  (λ_ _ _ q=>by simp[ϋ]at q) (λ_ _ _ _ q=>by simp[ϋ]at q) (λ_ _ _ _ q=>by simp[ϋ]at q)
  (λ_=>.nil) (λ_ _ a b q=>by
   simp only[ϕ,a4p]at q;exact .cons (a q.1)<|b q.2) trivial (λ_ _ _ _=>trivial) trivial (λ_ _ _ _=>trivial) h
def DF.dv{d:D}(h:DF K H v d)(q:d.hasDict=Ż):DV K H v d:=by
 cases aO.dv (.cons h .nil) (by simp[ϕ,q]);assumption
def Rp.dv{u:U}{x:D}(h:Rp K H v u)(e:u.py=ž x)(q:x.hasDict=Ż):DV K H v x:=by
 cases u with
 |d y=>cases e;exact DF.dv h q
 |l xs=>
  cases e;have(a,us,rfl,h1,h2):=h;exact .lst (bZ.of h1)<|aO.dv h2 (by simpa [ϋ] using q)
 |t=>cases e
 |k=>cases e
 |o=>cases e
mutual
def DM:∀(x:D),x.canLay0=ż->x.hasDict=Ż
 |.none,_=>rfl
 |.bool _,_=>rfl
 |.int _,_=>rfl
 |.str _,_=>rfl
 |.list xs,h=>by simp only[ϋ];exact cf xs (by simpa [a1d] using h)
 |.tuple xs,h=>by simp only[ϋ];exact cf xs (by simpa [a1d] using h)
 |.dict _,h=>by simp[a1d]at h
def cf:∀(xs:Qa D),ϸ xs=ż->ϕ xs=Ż
 |[],_=>rfl
 |x::xs,h=>by
  simp only[ϸ,ĩ]at h;simp only[ϕ,DM x h.1,cf xs h.2];rfl
end
def B5(K:qc)(neg:Bool):R2:=λx y H Q=>∃a b,DV K H x a/\DV K H y b/\ϣ a=ż/\ϣ b=ż/\Q (.bl (if neg=ż then !PyData.eqv a b else a1s a b)) H
def Wx{X:Cx}(K:qc)(hK:X.K=K){k:Nat}(hr:aF k X.A):bF X (Ĥ .Eq) (B5 K Ż):=by
 subst hK;intro pins s σ H x y v u Q I rx ry h;have(a,b,da,db,sa,sb,q):=h;have(as,ra):=DV.reads I da rx;have(bs,rb):=DV.reads I db ry;exact SeqAt.compareEq_shaped ra rb sa sb hr.units ⟨.bl _,H,I,rfl,q⟩
def GX{X:Cx}(K:qc)(hK:X.K=K){k:Nat}(hr:aF k X.A):bF X (Ĥ .NotEq) (B5 K ż):=by
 subst hK;intro pins s σ H x y v u Q I rx ry h;have(a,b,da,db,sa,sb,q):=h;have(as,ra):=DV.reads I da rx;have(bs,rb):=DV.reads I db ry;exact SeqAt.compareNe_shaped ra rb sa sb hr.units ⟨.bl _,H,I,rfl,q⟩
def pU(neg:Bool)(a b:U):Qb U:=a.py.bind λx=>b.py.bind λy=>if ϣ x=ż/\ϣ y=ż then ž (.d<|.bool (if neg=ż then !PyData.eqv x y else a1s x y))else Ž
def GU(neg:Bool):VO K (B5 K neg) (pU neg):=by
 intro x y a b u H Q ha hb e q;have(dx,ex,e):=bQ e;have(dy,ey,e):=bQ e;split at e
 .rename_i hs
  cases e;exact⟨dx,dy,ha.dv ex<|DM _<|a0J hs.1,hb.dv ey<|DM _<|a0J hs.2,hs.1,hs.2,q _ _ (λ_ _ z=>z) (.bl _) Nw.data⟩
 .cases e
def aO.bA{xs:Qa V}{ds:Qa D}{i:Int}{d:D}(h:aO K H xs ds)(e:Internal.bA ds i=ž d):∃v,Internal.bA xs i=ž v/\DF K H v d:=by
 unfold Internal.bA at e ⊢;have(j,ej,e):=bQ e;have(v,ev,k):=h.get e;refine⟨v,?_,k⟩;rw[h.len,ej];exact ev
def bz:U->U->Qb U
 |.l ds,.d (.int i)=>(bA ds i).map .d
 |.d (.list ds),.d (.int i)=>(bA ds i).map .d
 |_,_=>Ž
def zJ:U->U->Qb U
 |.d (.tuple ds),.d (.int i)=>(bA ds i).map .d
 |_,_=>Ž
def cy:VO K (F4 K) bz:=by
 intro x y a b u H Q ha hb e q;unfold bz at e;split at e
 .rename_i ds i
  have(d,ed,rfl):=qq.mp e;have(p,us,rfl,h1,h2):=ha;have(v,ev,k):=h2.bA ed;exact⟨p,us,i,v,rfl,DF.int_inv hb,bZ.of h1,ev,q _ _ (λ_ _ z=>z) k Nw.data⟩
 .rename_i ds i
  have(d,ed,rfl):=qq.mp e;have(p,us,rfl,h1,h2):=DF.lst_inv ha;have(v,ev,k):=h2.bA ed;exact⟨p,us,i,v,rfl,DF.int_inv hb,h1.sq,ev,q _ _ (λ_ _ z=>z) k Nw.data⟩
 .cases e
def zu:VO K (F3 K) zJ:=by
 intro x y a b u H Q ha hb e q;unfold zJ at e;split at e
 .rename_i ds i
  have(d,ed,rfl):=qq.mp e;have(p,us,rfl,h1,h2):=DF.aI ha;have(v,ev,k):=h2.bA ed;exact⟨p,us,i,v,rfl,DF.int_inv hb,(bg.sq h1),ev,q _ _ (λ_ _ z=>z) k Nw.data⟩
 .cases e
end
section
variable{ρ ao:En}
def nI{c:HO}(h:H a=ž c)(m:Mo c)(o:HO):Kp H (upd H a o):=by
 refine⟨λb xs e=>?_,λb ob u e=>?_,λb x e=>?_⟩
 all_goals
  rw[zA<|x8 e h (by rintro rfl;exact m)];exact e
def Go.own{u u':U}{o:HO}(r:Rs K ρ σ H)(e:ρ[i]?=ž (ž u))(ou:u.own=ż)(es:σ[i]?=ž (ž<|.ref a))(p:Rp K (upd H a o) (.ref a) u'):Go K ρ σ H (ρ.set i<|some u') (upd H a o):=by
 have hi:i < ρ.length:=(qk.mp e).1;have(c,hc,mc):=r.ow ⟨i,u,e,ou,es⟩;have kp:=nI hc mc o;refine⟨⟨by rw[ī];exact r.len,λj w ej=>?_,λj k w w' ej ek oj ok pK=>?_⟩,λb ob hb n=>?_,⟨ī,λj w ej oj=>?_,λj w ej=>?_⟩,λb hb=>?_⟩
 .by_cases hj:i=j
  .subst hj
   rw[Ĭ hi]at ej;cases ej;exact⟨_,es,p⟩
  .rw[qB hj]at ej
   have(v,ev,q):=r.rep j w ej;refine⟨v,ev,q.kp kp λow b c' eb hb=>?_⟩;have ne:b≠a:=by
    rintro rfl;exact hj<|r.apart i j u w e ej ou ow (by rw[es,ev,eb])
   rw[zA ne];exact hb
 .have own:∀(j:Nat) (w:U),(ρ.set i<|some u')[j]?=ž (ž w)->w.own=ż->∃w',ρ[j]?=ž (ž w')/\w'.own=ż:=λj w ej oj=>by
   by_cases hj:i=j
   .subst hj;exact⟨u,e,ou⟩
   .rw[qB hj]at ej;exact⟨w,ej,oj⟩
  have(x,ex,ox):=own j w ej oj;have(y,ey,oy):=own k w' ek ok;exact r.apart j k x y ex ey ox oy pK
 .have ne:b≠a:=by
   rintro rfl;exact n ⟨i,u,e,ou,es⟩
  rw[zA ne];exact hb
 .by_cases hj:i=j
  .subst hj;exact⟨u,e,ou⟩
  .rw[qB hj]at ej;exact⟨w,ej,oj⟩
 .by_cases hj:i=j
  .subst hj;exact⟨u',ù hi⟩
  .exact⟨w,by rw[qB hj];exact ej⟩
 .by_cases k8:b=a
  .subst k8;rw[zD]at hb;cases hb
  .rw[zA k8]at hb;exact hb
def Rp.kS{u:U}(h:Rp K H v u)(o:u.own=ż):∃a,v=.ref a:=let ⟨a,_,e,_⟩:=h.own o;⟨a,e⟩
def Fz(K:qc)(H:Hp)(v:V)(H':Hp):Prop :=
 (∃a xs o,v=.ref a/\K.lookup a=Ž/\H a=ž (.lst xs)/\H'=upd H a (.bj o<|.lst xs))\/(∃a xs o,v=.ref a/\K.lookup a=Ž/\H a=ž (.dT xs)/\H'=upd H a (.bj o<|.dT xs))\/
  ((∀a,v=.ref a->(∀xs,H a≠ž (.lst xs))/\∀xs,H a≠ž (.dT xs))/\H'=H)
def IZ(K:qc)(t:TE):TE:=λσ H Q=>t σ H λv H1=>∀H2,Fz K H1 v H2->Q v H2
def Inv.qY{X:Cx}{s:Qd}{xs:Qa V}(I:Inv X pins σ H s)(e:H a=ž (.lst xs)):∃o,s.heap.get? a=ž o/\Inv X pins σ (upd H a<|.bj o<|.lst xs) s:=by
 have ok:=(show bV X.prog X.w X.K H s.heap a (.lst xs) from I.aC a _ e);have(z,aq,n,r,h1):=id ok;refine⟨_,h1,?_⟩;have Jn:bV X.prog X.w X.K (upd H a<|.bj {cls:=.type "list",data:=.seq aq.toArray n}<|.lst xs) s.heap a (.lst xs):=⟨z,aq,n,r,h1⟩;exact I.write (t':=s.toks) (h':=s.heap) (by rw[e];trivial) (.inl rfl) (λ_ _ _ q=>q) ⟨_,h1⟩ ⟨h1,Jn⟩
def zA5{X:Cx}{t:TE}(h:PE X e t):PE X e (IZ X.K t):=by
 intro pins s σ H Q I q;refine aJ (h pins s σ H _ I q) λu s1 hZ=>?_;have(v,H1,I1,r,k):=hZ;have nk:∀a c,H1 a=ž c->X.K.lookup a=Ž:=λa c ea=>by
  cases q:X.K.lookup a with
  |none=>rfl
  |some o=>rw[(I1.bs a o<|I1.ok.mod.j7 a o q).2]at ea;cases ea
 by_cases c1:∃a xs,v=.ref a/\H1 a=ž (.lst xs)
 .have(a,xs,ev,ea):=c1
  have(o,_,I2):=I1.qY ea;exact⟨v,_,I2,r,k _<|.inl ⟨a,xs,o,ev,nk a _ ea,ea,rfl⟩⟩
 .by_cases c2:∃a xs,v=.ref a/\H1 a=ž (.dT xs)
  .have(a,xs,ev,ea):=c2
   have(o,_,I2):=I1.freeze ea;exact⟨v,_,I2,r,k _<|.inr<|.inl ⟨a,xs,o,ev,nk a _ ea,ea,rfl⟩⟩
  .exact⟨v,H1,I1,r,k _<|.inr<|.inr ⟨λa ev=>⟨λxs z=>c1 ⟨a,xs,ev,z⟩,λxs z=>c2 ⟨a,xs,ev,z⟩⟩,rfl⟩⟩
def fE{X:Cx}{t:TE}(h:Wr (PE X e t))(hK:X.K=K:=by rfl):Wr (PE X e<|IZ K t):=hK▸⟨zA5 h.run⟩
def U.fz:U->Qb D
 |.d x=>ž x
 |.l xs=>ž<|.list xs
 |.t kvs=>ž<|.dict<|kvs.map λp=>(i7 p.1,p.2)
 |.k _=>Ž
 |.o _ _=>Ž
def bX(me:ME):ME:=λρ=>(me ρ).bind λp=>(p.1.get p.2).bind λu=>u.fz.bind λx=>ž (.u<|.d x,match p.1 with |.s i=>p.2.set i (ž<|.d x) |.u _=>p.2)
def Ww{kvs:Qa (Qa Key×D)}(h:fq K H ws kvs):jE K H ws (kvs.map λp=>(i7 p.1,p.2)):=by
 induction h with
 |nil=>exact .nil
 | @cons p q ps qs hq t ih=>
  have(k,v):=p;have(k',d):=q;have(e,hd):=hq;cases(show k=k' from e);exact .cons hd ih
def Fz.rp{u:U}{x:D}(h:Fz K H v H')(p:Rp K H v u)(e:u.fz=ž x):DF K H' v x/\(u.own=Ż->H'=H)/\(u.own=ż->∃a o,v=.ref a/\H'=upd H a o):=by
 cases u with
 |d y=>
  cases e;have k:H'=H:=by
   rcases h with⟨a,xs,o,rfl,nk,ea,_⟩|⟨a,xs,o,rfl,nk,ea,_⟩|⟨_,rfl⟩
   .exfalso
    cases(show DF K H _ _ from p)with
    |tup h _=>
     rcases h with h|⟨ob,aq,n,hk,_⟩
     .rw[ea]at h;cases h
     .rw[nk]at hk;cases hk
    |lst h _=>
     rcases h with⟨o,h⟩|⟨ob,aq,n,hk,_⟩
     .rw[ea]at h;cases h
     .rw[nk]at hk;cases hk
    |jC h _=>rw[ea]at h;cases h
    |exc h _ _=>have(_,h,_):=h;rw[ea]at h;cases h
    |obj h _ _=>rw[ea]at h;cases h
   .exfalso
    cases(show DF K H _ _ from p)with
    |tup h _=>
     rcases h with h|⟨ob,aq,n,hk,_⟩
     .rw[ea]at h;cases h
     .rw[nk]at hk;cases hk
    |lst h _=>
     rcases h with⟨o,h⟩|⟨ob,aq,n,hk,_⟩
     .rw[ea]at h;cases h
     .rw[nk]at hk;cases hk
    |jC h _=>rw[ea]at h;cases h
    |exc h _ _=>have(_,h,_):=h;rw[ea]at h;cases h
    |obj h _ _=>rw[ea]at h;cases h
   .rfl
  subst k;exact⟨p,λ_=>rfl,λz=>by cases z⟩
 |l xs=>
  cases e;have(a,us,rfl,ea,ds):=p;rcases h with⟨a',lS,o,ev,_,gS,rfl⟩|⟨a',lS,o,ev,_,gS,_⟩|⟨z,_⟩
  .cases ev
   rw[ea]at gS;cases gS;exact⟨.lst (.inl ⟨o,zD⟩)<|ds.kp<|nI ea trivial _,(λz=>by cases z),λ_=>⟨a,_,rfl,rfl⟩⟩
  .cases ev
   rw[ea]at gS;cases gS
  .exact absurd ea ((z a rfl).1 us)
 |t xs=>
  cases e;have(a,us,rfl,ea,ds):=p;rcases h with⟨a',lS,o,ev,_,gS,_⟩|⟨a',lS,o,ev,_,gS,rfl⟩|⟨z,_⟩
  .cases ev
   rw[ea]at gS;cases gS
  .cases ev
   rw[ea]at gS;cases gS;exact⟨.jC zD<|Ww<|ds.kp<|nI ea trivial _,(λz=>by cases z),λ_=>⟨a,_,rfl,rfl⟩⟩
  .exact absurd ea ((z a rfl).2 us)
 |k xs=>cases e
 |o=>cases e
def fD{t:TE}{m:ME}(h:VE K t m):VE K (IZ K t) (bX m):=by
 intro ρ σ H a ao Q r e q;obtain⟨⟨b,aw⟩,e1,e⟩:=bQ e;have(u,eu,e):=bQ e;have(x,ex,e):=bQ e;cases e;refine h ρ σ H b aw _ r e1 λv H1 g1 k1=>λH2 fz=>?_;have p:=k1.now r g1 eu;have(d,f1,f2):=fz.rp p ex;cases b with
 |s i=>
  have ei:aw[i]?=ž (ž u):=by
   have z:(aw[i]?).join=ž u:=eu;cases q:aw[i]? with
   |none=>rw[q]at z;cases z
   |some o=>rw[q]at z;cases o with
    |none=>cases z
    |some w=>cases z;rfl
  have hi:i < aw.length:=(qk.mp ei).1
  by_cases ou:u.own=ż
  .have(a,o,rfl,rfl):=f2 ou
   exact q _ _ (g1.trans<|Go.own (u':=.d x) g1.rs ei ou k1.1 d) ⟨d,Nw.data⟩
  .have qN:u.own=Ż:=by simpa using ou
   cases f1 qN;cases u with
   |d y=>
    cases ex;have es:aw.set i (ž<|.d x)=aw:=by
     apply a0t;intro j
     by_cases hj:i=j
     .subst hj;rw[Ĭ hi,ei]
     .rw[qB hj]
    show Q v H1;refine q v H1 ?_ ⟨d,Nw.data⟩;show Go K ρ σ H (aw.set i<|some<|.d x) H1;rw[es];exact g1
   |l=>cases qN
   |t=>cases qN
   |k=>cases qN
   |o=>cases qN
 |u w=>
  cases(show ž w=ž u from eu)
  by_cases ou:u.own=ż
  .have(a,o,rfl,rfl):=f2 ou
   have(a',gS,Jt):=k1.2 ou;cases gS;obtain⟨c,hc,mc⟩:∃c,H1 a=ž c/\Mo c:=by
    have(b,c,eb,hb,m):=p.own ou;cases eb;exact⟨c,hb,m⟩
   have nw:¬Ow aw σ a:=by
    have(b,eb,nb):=k1.2.qM r g1 ou;cases eb;exact nb
   have kp:=nI hc mc o;refine q _ _ ⟨⟨g1.rs.len,λj y ej=>?_,g1.rs.apart⟩,λb ob hb n=>?_,g1.shr,λb hb=>?_⟩ ⟨d,Nw.data⟩
   .have(v,ev,p'):=g1.rs.rep j y ej
    refine⟨v,ev,p'.kp kp λoy b c' eb hb=>?_⟩;have ne:b≠a:=by
     rintro rfl;subst eb;exact nw ⟨j,y,ej,oy,ev⟩
    rw[zA ne];exact hb
   .have ne:b≠a:=by
     rintro rfl;rw[Jt]at hb;cases hb
    rw[zA ne];exact g1.fr b ob hb n
   .by_cases k8:b=a
    .subst k8;exact Jt
    .rw[zA k8]at hb;exact g1.dm b hb
  .have qN:u.own=Ż:=by simpa using ou
   cases f1 qN;exact q v H1 g1 ⟨d,Nw.data⟩
end
section
variable{ρ ao:En}
def bW(ρ:En):Qa Ar->Qb (Qa U)
 |[]=>ž []
 |a::as=>(a.get ρ).bind λu=>(bW ρ as).bind λus=>ž<|u::us
noncomputable def iS:Qa U->Qb (Qa D)
 |[]=>ž []
 |.d x::us=>(iS us).bind λxs=>ž<|x::xs
 |_::_=>Ž
def E4(K:qc)(H:Hp):Qa V->Qa U->Prop:=ϫ λv u=>Rp K H v u
def Wu{as:Qa Ar}{us:Qa U}(len:vs.length=as.length)(h:∀(i:Nat) (a:Ar),as[i]?=ž a->∃v,vs[i]?=ž v/\∀u,a.get ρ=ž u->Rp K H v u)(e:bW ρ as=ž us):E4 K H vs us:=by
 induction as generalizing vs us with
 |nil=>
  cases e;cases vs with
  |nil=>exact .nil
  |cons=>simp at len
 |cons a as ih=>
  have(u,eu,e):=bQ e;have(nN,Bh,e):=bQ e;cases e;cases vs with
  |nil=>simp at len
  |cons v vs=>
   have(v',ev,k):=h 0 a rfl;cases(show ž v=ž v' from ev);exact .cons (k u eu)<|ih (by simpa using len) (λi b eb=>h (i+1) b eb) Bh
def Ff.qL{as:Qa Ar}{us:Qa U}(r:Rs K ρ σ H)(g:Go K ρ σ H ao H')(s:Ff K ao σ H H' vs as)(e:bW ao as=ž us):E4 K H' vs us :=
 Wu s.len (λi a ea=>let ⟨v,ev,k⟩:=s.ar i a ea;⟨v,ev,λu eu=>k.now r g eu⟩) e
def GS{us:Qa U}{ds:Qa D}(h:E4 K H vs us)(e:iS us=ž ds):aO K H vs ds:=by
 induction h generalizing ds with
 |nil=>cases e;exact .nil
 | @cons v u vs us hv t ih=>
  cases u with
  |d x=>
   have(xs,ex,e):=bQ (show(iS us).bind (λxs=>ž<|x::xs)=ž ds from e);cases e;exact .cons hv<|ih ex
  |l=>cases e
  |t=>cases e
  |k=>cases e
  |o=>cases e
def aR(ma:MA):ME:=λρ=>(ma ρ).bind λp=>(bW p.2 p.1).bind λus=>(iS us).bind λds=>if ds.length<=Ď then ž (.u<|.d<|.tuple ds,p.2)else Ž
def dW(ma:MA):ME:=λρ=>(ma ρ).bind λp=>(bW p.2 p.1).bind λus=>(iS us).bind λds=>if ds.length<=Ď then ž (.u<|.l ds,p.2)else Ž
def br{t:TA}{m:MA}(h:mw K t m):VE K (Fx t) (aR m):=by
 intro ρ σ H a ao Q r e q;obtain⟨⟨as,aw⟩,e1,e⟩:=bQ e;have(us,eu,e):=bQ e;have(ds,ed,e):=bQ e;split at e
 .rename_i hz
  cases e;refine h ρ σ H as _ _ r e1 λvs H1 g1 s1=>?_;have dd:=GS (s1.qL r g1 eu) ed;refine⟨by rw[dd.len];exact hz,λp hp=>?_⟩;have sm:=iH hp (.tup vs);exact q _ _ (g1.trans<|Go.grow g1.rs sm) ⟨.tup (.inl zD)<|dd.kp sm.kp,Nw.data⟩
 .cases e
def ig{t:TA}{m:MA}(h:mw K t m):VE K (BZ t) (dW m):=by
 intro ρ σ H a ao Q r e q;obtain⟨⟨as,aw⟩,e1,e⟩:=bQ e;have(us,eu,e):=bQ e;have(ds,ed,e):=bQ e;split at e
 .rename_i hz
  cases e;refine h ρ σ H as _ _ r e1 λvs H1 g1 s1=>?_;have dd:=GS (s1.qL r g1 eu) ed;refine⟨by rw[dd.len];exact hz,λp hp=>?_⟩;have sm:=iH hp (.lst vs);exact q _ _ (g1.trans<|Go.grow g1.rs sm) ⟨⟨p,_,rfl,zD,dd.kp sm.kp⟩,λ_=>⟨p,rfl,g1.dm p hp⟩⟩
 .cases e
def VC(K:qc)(r:Qa V->Hp->VK->Prop)(f:Qa U->Qb U):Prop :=
 ∀(vs:Qa V) (us:Qa U) (u:U) (H:Hp) (Q:VK),E4 K H vs us->f us=ž u->(∀v H',eI H H'->Rp K H' v u->Nw H v u->Q v H')->r vs H Q
def bf(f:Qa U->Qb U)(ma:MA):ME:=λρ=>(ma ρ).bind λp=>(bW p.2 p.1).bind λus=>(f us).bind λu=>ž (.u u,p.2)
def cn{r:Qa V->Hp->VK->Prop}{f:Qa U->Qb U}{t:TA}{m:MA}(hc:VC K r f)(h:mw K t m):VE K (sP r t) (bf f m):=by
 intro ρ σ H a ao Q rs e q;obtain⟨⟨as,aw⟩,e1,e⟩:=bQ e;have(us,eu,e):=bQ e;have(u,ef,e):=bQ e;cases e;refine h ρ σ H as _ _ rs e1 λvs H1 g1 s1=>hc vs us u H1 _ (s1.qL rs g1 eu) ef λv H2 s p n=>?_;exact q v H2 (g1.trans<|Go.grow g1.rs s) ⟨p,n.mono g1.dm⟩
noncomputable def f1(f:U->Qb U):Qa U->Qb U
 |[u]=>f u
 |_=>Ž
def tM{r:Qa V->Hp->VK->Prop}{f:U->Qb U}(h:∀(v:V) (a u:U) (H:Hp) (Q:VK),Rp K H v a->f a=ž u->(∀v H',eI H H'->Rp K H' v u->Nw H v u->Q v H')->r [v] H Q):VC K r (f1 f):=by
 intro vs us u H Q hr e q;cases hr with
 |nil=>cases e
 |cons h1 t=>
  cases t with
  |nil=>exact h _ _ _ _ _ h1 e q
  |cons=>cases e
noncomputable def U.items:U->Qb (Qa D)
 |.d (.tuple xs)=>ž xs
 |.d (.list xs)=>ž xs
 |.l xs=>ž xs
 |_=>Ž
def Rp.items{u:U}{xs:Qa D}(h:Rp K H v u)(e:u.items=ž xs):∃p ys,v=.ref p/\(bZ K H p ys\/bT K H p ys)/\aO K H ys xs:=by
 cases u with
 |d x=>
  cases x with
  |tuple ds=>cases e;have(a,ys,rfl,h1,h2):=DF.aI h;exact⟨a,ys,rfl,.inr<|(bg.sq h1),h2⟩
  |list ds=>cases e;have(a,ys,rfl,h1,h2):=DF.lst_inv h;exact⟨a,ys,rfl,.inl h1.sq,h2⟩
  |_=>cases e
 |l ds=>cases e;have(a,ys,rfl,h1,h2):=h;exact⟨a,ys,rfl,.inl<|bZ.of h1,h2⟩
 |t=>cases e
 |k=>cases e
 |o=>cases e
def cF(u:U):Qb U:=u.items.map λxs=>.d<|.int xs.length
def fW:VC K (Sy K) (f1 cF):=tM λv a u H Q h e q=>by
 have(xs,ex,rfl):=qq.mp e;have(p,ys,rfl,s,d):=h.items ex;exact⟨p,ys,rfl,s,q _ _ (λ_ _ z=>z) (by rw[d.len];exact .int _) Nw.data⟩
def rW(u:U):Qb U:=u.items.map λxs=>.d<|.tuple xs
def yR:VC K (Px K) (f1 rW):=tM λv a u H Q h e q=>by
 have(xs,ex,rfl):=qq.mp e;cases a with
 |d x=>
  cases x with
  |tuple ds=>
   cases ex;have(a,ys,rfl,h1,h2):=DF.aI h;exact⟨a,ys,rfl,.inr ⟨(bg.sq h1),q _ _ (λ_ _ z=>z) (.tup h1 h2) Nw.data⟩⟩
  |list ds=>
   cases ex;have(a,ys,rfl,h1,h2):=DF.lst_inv h;refine⟨a,ys,rfl,.inl ⟨h1.sq,λl hl=>?_⟩⟩;have sm:=iH hl (.tup ys);exact q _ _ sm (.tup (.inl zD)<|h2.kp sm.kp) Nw.data
  |_=>cases ex
 |l ds=>
  cases ex;have(a,ys,rfl,h1,h2):=h;refine⟨a,ys,rfl,.inl ⟨bZ.of h1,λl hl=>?_⟩⟩;have sm:=iH hl (.tup ys);exact q _ _ sm (.tup (.inl zD)<|h2.kp sm.kp) Nw.data
 |t=>cases ex
 |k=>cases ex
 |o=>cases ex
def xR:U->Qb U
 |.d (.int i)=>ž<|.d<|.int (if i < 0 then -i else i)
 |_=>Ž
def M6:VC K (λxs H Q=>∃i,xs=[.int i]/\Q (.int (if i < 0 then -i else i)) H) (f1 xR):=tM λv a u H Q h e q=>by
 unfold xR at e;split at e
 .rename_i i
  cases e;cases DF.int_inv h;exact⟨i,rfl,q _ _ (λ_ _ z=>z) (.int _) Nw.data⟩
 .cases e
def mU:U->Qb U
 |.d (.int i)=>ž<|.d<|.int i
 |.d (.bool k)=>ž<|.d<|.int (if k then 1 else 0)
 |_=>Ž
def yO:VC K (λxs H Q=>(∃i,xs=[.int i]/\Q (.int i) H)\/∃k,xs=[.bl k]/\Q (.int (if k then 1 else 0)) H) (f1 mU):=tM λv a u H Q h e q=>by
 unfold mU at e;split at e
 .rename_i i
  cases e;cases DF.int_inv h;exact .inl ⟨i,rfl,q _ _ (λ_ _ z=>z) (.int _) Nw.data⟩
 .rename_i i
  cases e;cases DF.bS h;exact .inr ⟨i,rfl,q _ _ (λ_ _ z=>z) (.int _) Nw.data⟩
 .cases e
def ye:Qa U->Qb U
 |[.d<|.int i,.d<|.int j]=>ž<|.d<|.int (if j > i then j else i)
 |_=>Ž
def OD:VC K (λxs H Q=>∃i j,xs=[.int i,.int j]/\Q (.int (if j > i then j else i)) H) ye:=by
 intro vs us u H Q hr e q;unfold ye at e;split at e
 .rename_i i j
  cases e;cases hr with
  |cons h1 t=>
   cases t with
   |cons h2 t=>
    cases t;cases DF.int_inv h1;cases DF.int_inv h2;exact⟨i,j,rfl,q _ _ (λ_ _ z=>z) (.int _) Nw.data⟩
 .cases e
def Gr:Qa D->Qb (Qa Int)
 |[]=>ž []
 |.int i::xs=>(Gr xs).bind λis=>ž<|i::is
 |_::_=>Ž
def mB(me:ME):MT:=λρ=>(me ρ).bind λp=>(p.1.get p.2).bind λu=>match u with |.d (.bool b)=>ž (b,p.2) |_=>Ž
def h9{t:TE}{m:ME}(h:VE K t m):VT K (tB t) (mB m):=by
 intro ρ σ H b ao Q r e q;obtain⟨⟨a,aw⟩,e1,e⟩:=bQ e;have(u,eu,e):=bQ e;split at e
 .cases e
  refine h ρ σ H a _ _ r e1 λv H1 g1 k1=>?_;exact⟨_,DF.bS<|k1.now r g1 eu,q _ g1⟩
 .cases e
def zv{t:TE}{m:ME}(h:VE K t m):VT K (t4 t) (mB m):=h9 h
noncomputable def jn(ma mb:MT):MT:=λρ=>(ma ρ).bind λp=>if p.1=ż then mb p.2 else ž (Ż,p.2)
noncomputable def eQ(ma mb:MT):MT:=λρ=>(ma ρ).bind λp=>if p.1=ż then ž (ż,p.2)else mb p.2
noncomputable def hV(ma:MT):MT:=λρ=>(ma ρ).bind λp=>ž (!p.1,p.2)
def rV{ta tb:TT}{ma mb:MT}(ha:VT K ta ma)(hb:VT K tb mb):VT K (F7 ta tb) (jn ma mb):=by
 intro ρ σ H b ao Q r e q;obtain⟨⟨c,aw⟩,e1,e⟩:=bQ e;refine ha ρ σ H c aw _ r e1 λH1 g1=>?_;dsimp only at e;split at e
 .rename_i hc
  rw[a5L hc];exact hb aw σ H1 b ao _ g1.rs e λH2 g2=>q H2<|g1.trans g2
 .rename_i hc
  rw[a5M hc];cases e;exact q H1 g1
def fQ{ta tb:TT}{ma mb:MT}(ha:VT K ta ma)(hb:VT K tb mb):VT K (IX ta tb) (eQ ma mb):=by
 intro ρ σ H b ao Q r e q;obtain⟨⟨c,aw⟩,e1,e⟩:=bQ e;refine ha ρ σ H c aw _ r e1 λH1 g1=>?_;dsimp only at e;split at e
 .rename_i hc
  rw[a5L hc];cases e;exact q H1 g1
 .rename_i hc
  rw[a5M hc];exact hb aw σ H1 b ao _ g1.rs e λH2 g2=>q H2<|g1.trans g2
def ju{ta:TT}{ma:MT}(ha:VT K ta ma):VT K (F6 ta) (hV ma):=by
 intro ρ σ H b ao Q r e q;obtain⟨⟨c,aw⟩,e1,e⟩:=bQ e;cases e;exact ha ρ σ H c _ _ r e1 λH1 g1=>q H1 g1
def t7(ma mb:ME):ME:=λρ=>(mB ma ρ).bind λp=>if p.1=ż then mb p.2 else ž (.u<|.d<|.bool Ż,p.2)
def F5{a:Ar}{H1 H2:Hp}{aw aD:En}(g1:Go K ρ σ H aw H1)(h:oF K aD σ H1 H2 v a):oF K aD σ H H2 v a:=by
 cases a with
 |s i=>exact h
 |u x=>exact⟨h.1,h.2.mono g1.dm⟩
def CS{ma mb:ME}(ha:VE K ta ma)(hb:VE K tb mb):VE K (GC ta tb) (t7 ma mb):=by
 intro ρ σ H a ao Q r e q;obtain⟨⟨c,aw⟩,e1,e⟩:=bQ e;refine h9 ha ρ σ H c aw (λc H1=>if c=ż then tb σ H1 Q else Q (.bl Ż) H1) r e1 λH1 g1=>?_;dsimp only at e;split at e
 .rename_i hc
  rw[a5L hc];exact hb aw σ H1 a ao _ g1.rs e λv H2 g2 k=>q v H2 (g1.trans g2)<|F5 g1 k
 .rename_i hc
  rw[a5M hc];cases e;exact q _ H1 g1 ⟨.bl _,Nw.data⟩
def yc(ma:ME):ME:=λρ=>(mB ma ρ).bind λp=>ž (.u<|.d<|.bool (!p.1),p.2)
def M5{ma:ME}(ha:VE K ta ma):VE K (GB ta) (yc ma):=by
 intro ρ σ H a ao Q r e q;obtain⟨⟨c,aw⟩,e1,e⟩:=bQ e;cases e;exact h9 ha ρ σ H c _ (λc H1=>Q (.bl (!c)) H1) r e1 λH1 g1=>q _ H1 g1 ⟨.bl _,Nw.data⟩
noncomputable def AG(mt:MT)(ma mb:ME):ME:=λρ=>(mt ρ).bind λp=>if p.1=ż then ma p.2 else mb p.2
def SJ{mt:MT}{ma mb:ME}(ht:VT K tt mt)(ha:VE K ta ma)(hb:VE K tb mb):VE K (IY tt ta tb) (AG mt ma mb):=by
 intro ρ σ H a ao Q r e q;obtain⟨⟨c,aw⟩,e1,e⟩:=bQ e;refine ht ρ σ H c aw _ r e1 λH1 g1=>?_;dsimp only at e;split at e
 .rename_i hc
  rw[a5L hc];exact ha aw σ H1 a ao _ g1.rs e λv H2 g2 k=>q v H2 (g1.trans g2)<|F5 g1 k
 .rename_i hc
  rw[a5M hc];exact hb aw σ H1 a ao _ g1.rs e λv H2 g2 k=>q v H2 (g1.trans g2)<|F5 g1 k
def U.wQ:U->Qb Bool
 |.d .none=>ž Ż
 |.d (.bool b)=>ž b
 |.d (.int i)=>ž<|i != 0
 |.d (.str x)=>if x.length<=Ď then ž ((x.length:Int) != 0)else Ž
 |.d (.tuple xs)=>ž (!xs.isEmpty)
 |.d (.list xs)=>ž (!xs.isEmpty)
 |.l xs=>ž (!xs.isEmpty)
 |_=>Ž
def Iu{ys:Qa V}{xs:Qa D}(h:aO K H ys xs):(!xs.isEmpty)=!ys.isEmpty:=by cases h<;>rfl
def B4(ma:ME):MT:=λρ=>(ma ρ).bind λp=>(p.1.get p.2).bind λu=>u.wQ.bind λb=>ž (b,p.2)
def Wt{ma:ME}(ha:VE K ta ma):VT K (SA K ta) (B4 ma):=by
 intro ρ σ H b ao Q r e q;obtain⟨⟨a,aw⟩,e1,e⟩:=bQ e;have(u,eu,e):=bQ e;have(c,ec,e):=bQ e;cases e;refine ha ρ σ H a _ _ r e1 λv H1 g1 k1=>⟨_,?_,q _ g1⟩;have p:=k1.now r g1 eu;cases u with
 |d x=>
  cases(show DF K H1 v x from p)with
  |aK=>cases ec;rfl
  |bl=>cases ec;rfl
  |int=>cases ec;rfl
  |str x=>
   unfold U.wQ at ec;dsimp only at ec;split at ec
   .cases ec;exact⟨by assumption,rfl⟩
   .cases ec
  |tup h t=>cases ec;exact .inr<|.inl ⟨_,(bg.sq h),Iu t⟩
  |lst h t=>cases ec;exact .inl ⟨_,h.sq,Iu t⟩
  |jC=>cases ec
  |exc=>cases ec
  |obj=>cases ec
 |l xs=>cases ec;have(a,us,rfl,h1,h2):=p;exact .inl ⟨_,bZ.of h1,Iu h2⟩
 |t=>cases ec
 |k=>cases ec
 |o=>cases ec
end
section
variable{ρ ao:En}
abbrev FD:=Qa U->Qb (U×Qa U)
noncomputable def sm(xs:Qa U):En:=xs.map ž
def eB(vs:Qa V):St:=vs.map ž
def qK(K:qc)(n:Nat)(f:FD):Sp:=λvs H Q _=>∃us r outs,us.length=n/\Rs K (sm us) (eB vs) H/\f us=ž (r,outs)/\
 ∀v H',Go K (sm us) (eB vs) H (sm outs) H'->Rp K H' v r->Nw H v r->Q v H'
noncomputable def wb:En->Qa Ar->Qa U->En
 |ρ,.s j::as,o::os=>wb (ρ.set j<|some o) as os
 |ρ,.u _::as,_::os=>wb ρ as os
 |ρ,_,_=>ρ
def gL(ρ:En):Qa Ar->Bool
 |[]=>ż
 |.s j::as=>(match ρ[j]? with|some (ž u)=>!u.own || !(as.any λa=>match a with |.s k=>decide (k=j) |_=>Ż) |_=>ż) && gL ρ as
 |.u _::as=>gL ρ as
def zK(f:FD)(ma:MA):ME:=λρ=>(ma ρ).bind λp=>if gL p.2 p.1=ż then(bW p.2 p.1).bind λus=>(f us).bind λo=>ž (.u o.1,wb p.2 p.1 o.2)else Ž
def wG:∀{as:Qa Ar} {us:Qa U},bW ρ as=ž us->us.length=as.length
 |[],us,e=>by cases e;rfl
 |a::as,us,e=>by
  have(u,eu,e):=bQ e;have(nN,Bh,e):=bQ e;cases e;simp[wG Bh]
def OC:∀{as:Qa Ar} {us:Qa U} {i:Nat} {a:Ar},bW ρ as=ž us->as[i]?=ž a->∃u,us[i]?=ž u/\a.get ρ=ž u
 |[],us,i,a,e,ea=>by simp at ea
 |b::as,us,i,a,e,ea=>by
  have(u,eu,e):=bQ e;have(nN,Bh,e):=bQ e;cases e;cases i with
  |zero=>cases(show ž b=ž a from ea);exact⟨u,rfl,eu⟩
  |succ i=>exact OC (i:=i) Bh ea
def Ia:∀{as:Qa Ar} {us:Qa U} {i:Nat} {u:U},bW ρ as=ž us->us[i]?=ž u->∃a,as[i]?=ž a/\a.get ρ=ž u:=λ{as us i u} e eu=>by
 have hi:i < as.length:=by rw[<-wG e];exact(qk.mp eu).1
 have(u',e1,e2):=OC e (ql hi);rw[eu]at e1;cases e1;exact⟨_,ql hi,e2⟩
def LK{u:U}(e:Ar.get ρ (.s j)=ž u):ρ[j]?=ž (ž u):=by
 have z:(ρ[j]?).join=ž u:=e;cases q:ρ[j]? with
 |none=>rw[q]at z;cases z
 |some o=>
  rw[q]at z;cases o with
  |none=>cases z
  |some w=>cases z;rfl
def OB:∀{as:Qa Ar} {p q j:Nat} {u:U},gL ρ as=ż->as[p]?=ž (.s j)->as[q]?=ž (.s j)->ρ[j]?=ž (ž u)->u.own=ż->p=q
 |[],p,q,j,u,_,e,_,_,_=>by simp at e
 |a::as,p,q,j,u,d,ep,eq,ej,ou=>by
  have dd:gL ρ as=ż:=by
   cases a with
   |s k=>unfold gL at d;rw[ĩ]at d;exact d.2
   |u=>exact d
  have Ay:∀{q':Nat},a=.s j->as[q']?=ž (.s j)->False:=λ{q'} ea ER=>by
   subst ea;unfold gL at d;rw[ĩ,ej]at d;have d1:=d.1;dsimp only at d1;rw[ou]at d1;have m:(as.any λa=>match a with |.s k=>decide (k=j) |_=>Ż)=ż:=List.any_eq_true.mpr ⟨.s j,Í ER,by simp⟩;rw[m]at d1;cases d1
  cases p with
  |zero=>
   cases q with
   |zero=>rfl
   |succ q=>exact(Ay (qw ep) eq).elim
  |succ p=>
   cases q with
   |zero=>exact(Ay (qw eq) ep).elim
   |succ q=>exact congrArg (·+1)<|OB dd ep eq ej ou
def ic{us:Qa U}{u:U}:(sm us)[i]?=ž (ž u)↔us[i]?=ž u:=by
 unfold sm;rw[ė];cases us[i]?<;>simp
def wx:(eB vs)[i]?=ž (ž v)↔vs[i]?=ž v:=by
 unfold eB;rw[ė];cases vs[i]?<;>simp
def Cr:∀{as:Qa Ar} {os:Qa U} {ρ:En} {j:Nat} {w:U},(wb ρ as os)[j]?=ž (ž w)->as.length=os.length->(∃p:Nat,as[p]?=ž (Ar.s j)/\os[p]?=ž w)\/(ρ[j]?=ž (ž w)/\∀p:Nat,as[p]?≠ž (Ar.s j))
 |[],os,ρ,j,w,e,_=>.inr ⟨by cases os<;>exact e,λp z=>by simp at z⟩
 |a::as,[],ρ,j,w,e,l=>by simp at l
 |.u x::as,o::os,ρ,j,w,e,l=>by
  rcases Cr (as:=as) (os:=os) (ρ:=ρ) (show(wb ρ as os)[j]?=ž (ž w) from e) (by simpa using l)with⟨p,h1,h2⟩|⟨h1,h2⟩
  .exact .inl ⟨p+1,h1,h2⟩
  .refine .inr ⟨h1,λp z=>?_⟩
   cases p with
   |zero=>cases(show ž (Ar.u x)=ž (.s j) from z)
   |succ p=>exact h2 p z
 |.s k::as,o::os,ρ,j,w,e,l=>by
  rcases Cr (as:=as) (os:=os) (ρ:=ρ.set k (ž o)) (show(wb (ρ.set k<|some o) as os)[j]?=ž (ž w) from e) (by simpa using l)with⟨p,h1,h2⟩|⟨h1,h2⟩
  .exact .inl ⟨p+1,h1,h2⟩
  .by_cases hk:k=j
   .subst hk
    have hl:k < (ρ.set k<|some o).length:=(qk.mp h1).1;rw[ī]at hl;rw[Ĭ hl]at h1;exact .inl ⟨0,rfl,by cases h1;rfl⟩
   .rw[qB hk]at h1
    refine .inr ⟨h1,λp z=>?_⟩;cases p with
    |zero=>cases(show ž (Ar.s k)=ž (.s j) from z);exact hk rfl
    |succ p=>exact h2 p z
def CQ:∀(ρ:En) (as:Qa Ar) (os:Qa U),(wb ρ as os).length=ρ.length
 |ρ,[],os=>by cases os<;>rfl
 |ρ,.s k::as,[]=>rfl
 |ρ,.u k::as,[]=>rfl
 |ρ,.s k::as,o::os=>by show(wb (ρ.set k<|some o) as os).length=_;rw[CQ];exact ī
 |ρ,.u k::as,o::os=>CQ ρ as os
def Dm:∀{as:Qa Ar} {os:Qa U} {ρ:En} {j:Nat} {w:U},ρ[j]?=ž (ž w)->∃w',(wb ρ as os)[j]?=ž (ž w')
 |[],os,ρ,j,w,e=>⟨w,by cases os<;>exact e⟩
 |.s k::as,[],ρ,j,w,e=>⟨w,e⟩
 |.u k::as,[],ρ,j,w,e=>⟨w,e⟩
 |.u k::as,o::os,ρ,j,w,e=>Dm (as:=as) (os:=os) e
 |.s k::as,o::os,ρ,j,w,e=>by
  by_cases hk:k=j
  .subst hk
   exact Dm (as:=as) (os:=os) (w:=o)<|ù (qk.mp e).1
  .exact Dm (as:=as) (os:=os) (w:=w) (by rw[qB hk];exact e)
def GR{as:Qa Ar}{us:Qa U}{aw:En}{H1:Hp}(rs:Rs K ρ σ H)(g1:Go K ρ σ H aw H1)(s1:Ff K aw σ H H1 vs as)(dj:gL aw as=ż)(eu:bW aw as=ž us):
  Rs K (sm us) (eB vs) H1/\∀(outs:Qa U) (H2:Hp),Go K (sm us) (eB vs) H1 (sm outs) H2->Go K ρ σ H (wb aw as outs) H2:=by
 have rp:=s1.qL rs g1 eu;have lus:=wG eu;have Er:=s1.len;have adr:∀(i:Nat) (u:U),us[i]?=ž u->u.own=ż->∃b,vs[i]?=ž (.ref b)/\((∃j,as[i]?=ž (.s j)/\σ[j]?=ž (ž<|.ref b)/\aw[j]?=ž (ž u))\/(as[i]?=ž (.u u)/\H b=Ž)):=λi u ei ou=>by
  have(a,ea,eg):=Ia eu ei;have(v,ev,k):=s1.ar i a ea;have p:=k.now rs g1 eg;have(b,rfl):=p.kS ou;refine⟨b,ev,?_⟩;cases a with
  |s j=>exact .inl ⟨j,ea,k.1,LK eg⟩
  |u x=>
   cases(show ž x=ž u from eg);have(b',eb,hb):=k.2 ou;cases eb;exact .inr ⟨ea,hb⟩
 have apart:∀(i j:Nat) (u w:U),us[i]?=ž u->us[j]?=ž w->u.own=ż->w.own=ż->vs[i]?=vs[j]?->i=j:=λi j u w ei ej ou ow ev=>by
  have(b,vb,hb):=adr i u ei ou;have(c,vc,hc):=adr j w ej ow;have bc:b=c:=by rw[vb,vc]at ev;cases ev;rfl
  subst bc;rcases hb with⟨x,ax,sx,rx⟩|⟨ax,nx⟩
  .rcases hc with⟨y,ay,sy,ry⟩|⟨ay,ny⟩
   .have xy:x=y:=g1.rs.apart x y u w rx ry ou ow (by rw[sx,sy])
    subst xy;exact OB dj ax ay rx ou
   .exfalso
    have(w',iK,uI):=g1.shr.own x u rx ou;have(c',gR,_):=rs.ow ⟨x,w',iK,uI,sx⟩;rw[ny]at gR;cases gR
  .rcases hc with⟨y,ay,sy,ry⟩|⟨ay,ny⟩
   .exfalso
    have(w',iK,uI):=g1.shr.own y w ry ow;have(c',gR,_):=rs.ow ⟨y,w',iK,uI,sy⟩;rw[nx]at gR;cases gR
   .exact s1.ap i j u w ax ay ou ow ev
 have sQ:Rs K (sm us) (eB vs) H1:=by
  refine⟨by unfold sm eB;rw[ċ,ċ];omega,λi u ei=>?_,λi j u w ei ej ou ow ev=>?_⟩
  .have tG:=ic.mp ei
   have(a,ea,eg):=Ia eu tG;have(v,ev,k):=s1.ar i a ea;exact⟨v,wx.mpr ev,k.now rs g1 eg⟩
  .have tG:=ic.mp ei
   have oz:=ic.mp ej;refine apart i j u w tG oz ou ow ?_;have(b,vb,_):=adr i u tG ou;have(c,vc,_):=adr j w oz ow;rw[wx.mpr vb,wx.mpr vc]at ev;rw[vb,vc];exact qw ev
 refine⟨sQ,λouts H2 g2=>?_⟩;have lo:outs.length=us.length:=by have:=g2.shr.len;unfold sm at this;simpa using this
 have kp2:=g2.kp sQ;have owA:∀b,Ow (sm us) (eB vs) b->Ow aw σ b\/H b=Ž:=λb ⟨i,u,ei,ou,es⟩=>by
  have(c,vc,hc):=adr i u (ic.mp ei) ou;rw[wx.mp es]at vc;cases vc;rcases hc with⟨j,_,sj,rj⟩|⟨_,nb⟩
  .exact .inl ⟨j,u,rj,ou,sj⟩
  .exact .inr nb
 have uJ:∀(i:Nat) (w:U),outs[i]?=ž w->∃x,vs[i]?=ž x/\Rp K H2 x w:=λi w ei=>by
  have(x,ex,px):=g2.rs.rep i w (ic.mpr ei);exact⟨x,wx.mp ex,px⟩
 have Th:as.length=outs.length:=by omega
 have iq:∀(j:Nat) (w:U),(wb aw as outs)[j]?=ž (ž w)->w.own=ż->∃w',aw[j]?=ž (ž w')/\w'.own=ż:=λj w ej ow=>by
  rcases Cr ej Th with⟨p,ap,op⟩|⟨h1,_⟩
  .have(w',iK,uI):=g2.shr.own p w (ic.mpr op) ow
   have(a,ea,eg):=Ia eu (ic.mp iK);rw[ap]at ea;cases ea;exact⟨w',LK eg,uI⟩
  .exact⟨w,h1,ow⟩
 refine⟨⟨by rw[CQ];exact g1.rs.len,λj w ej=>?_,λi j u w ei ej ou ow es=>?_⟩,λb ob hb nb=>?_,?_,λb hb=>g1.dm b<|g2.dm b hb⟩
 .rcases Cr ej Th with⟨p,ap,op⟩|⟨h1,h2⟩
  .have(x,vx,px):=uJ p w op
   have(v',vi,k'):=s1.ar p _ ap;rw[vx]at vi;cases vi;exact⟨x,k'.1,px⟩
  .have(x,ex,px):=g1.rs.rep j w h1
   refine⟨x,ex,px.kp kp2 λow b c eb hb=>?_⟩;refine g2.fr b c hb λ⟨i,u,ei,ou,es⟩=>?_;have(c',SV,gR):=adr i u (ic.mp ei) ou;rw[wx.mp es]at SV;cases SV;subst eb;rcases gR with⟨k,ak,sk,rk⟩|⟨_,nb⟩
   .have:k=j:=g1.rs.apart k j u w rk h1 ou ow (by rw[sk,ex])
    subst this;exact h2 i ak
   .have(w',iK,uI):=g1.shr.own j w h1 ow
    have(c'',A7,_):=rs.ow ⟨j,w',iK,uI,ex⟩;rw[nb]at A7;cases A7
 .have(x,ex,ox):=iq i u ei ou
  have(y,ey,oy):=iq j w ej ow;exact g1.rs.apart i j x y ex ey ox oy es
 .refine g2.fr b ob (g1.fr b ob hb nb) λz=>?_
  rcases owA b z with z|z
  .exact nb (g1.shr.ow z)
  .rw[z]at hb;cases hb
 .refine⟨by rw[CQ];exact g1.shr.len,λj w ej ow=>?_,λj w ej=>?_⟩
  .have(x,ex,ox):=iq j w ej ow
   exact g1.shr.own j x ex ox
  .have(x,ex):=g1.shr.live j w ej
   exact Dm ex
def LJ:∀ρ as ao,zn ρ=ž (as,ao)->as.length=0:=λρ as ao e=>by cases e;rfl
def M4{me:ME}{ma:MA}(h:∀ρ as ao,ma ρ=ž (as,ao)->as.length=n):∀ρ as ao,zb me ma ρ=ž (as,ao)->as.length=n+1:=λρ as ao e=>by
 obtain⟨⟨a1,aw⟩,e1,e⟩:=bQ e;obtain⟨⟨EV,aD⟩,e2,e⟩:=bQ e;cases e;simp[h _ _ _ e2]
def zM{f:FD}{t:TA}{m:MA}(n:Nat)(h:mw K t m)(hn:∀ρ as ao,m ρ=ž (as,ao)->as.length=n:=by repeat (first|exact LJ|refine M4 ?_)):VE K (FU (qK K n f) t) (zK f m):=by
 intro ρ σ H a ao Q rs e q;obtain⟨⟨as,aw⟩,e1,e⟩:=bQ e;dsimp only at e;split at e
 .rename_i dj
  have(us,eu,e):=bQ e;obtain⟨⟨r,outs⟩,ef,e⟩:=bQ e;cases e;refine h ρ σ H as aw _ rs e1 λvs H1 g1 s1=>?_;have(sQ,back):=GR rs g1 s1 dj eu;exact⟨us,r,outs,by rw[wG eu];exact hn _ _ _ e1,sQ,ef,λv H2 g2 p n2=>q v H2 (back outs H2 g2) ⟨p,n2.mono g1.dm⟩⟩
 .cases e
end
inductive Fl where
 |nx (ρ:En) |bk (ρ:En) |ct (ρ:En) |rt (u:U) (ρ:En) |ex (x:D) (ρ:En)
def B3(K:qc)(H:Hp)(a:Qg)(x:D):Prop:=∃n C fs ds,x=.dict ((.none,.str n)::ds)/\pP H a C fs/\XN K n C/\jF K H fs ds
structure Sn (K:qc) (pn:Qa Nat) (au:St) (A:Qg->Prop) (aA aB:Hp) (ρ:En) (σ:St) (H:Hp):Prop where
 rs:Rs K ρ σ H
 fr:Bz A aA H
 ow:∀(i:Nat) (u:U) (a:Qg),ρ[i]?=ž (ž u)->u.own=ż->σ[i]?=ž (ž<|.ref a)->(i∈pn/\A a)\/aA a=Ž
 pin:∀i∈pn,σ[i]?=au[i]?
 dm:∀a,H a=Ž->aA a=Ž
 kp:Kp aB H
def Fd:cW:=λ_ _ _=>False
def zCU(K:qc)(pn:Qa Nat)(EX:cW)(au:St)(A:Qg->Prop)(aA aB:Hp)(D:Ends):Fl->Prop
 |.nx ρ=>∀σ H,Sn K pn au A aA aB ρ σ H->D.nx σ H
 |.bk ρ=>∀σ H,Sn K pn au A aA aB ρ σ H->D.bk σ H
 |.ct ρ=>∀σ H,Sn K pn au A aA aB ρ σ H->D.ct σ H
 |.rt u ρ=>∀v σ H,Sn K pn au A aA aB ρ σ H->Rp K H v u->Nw aA v u->D.rt v H
 |.ex x ρ=>∀a σ H,Sn K pn au A aA aB ρ σ H->aA a=Ž->B3 K H a x->EX σ a H
abbrev MS:=En->Qb Fl
def VS(K:qc)(pn:Qa Nat)(EX:cW)(t:TS)(m:MS):Prop :=
 ∀(au:St) (A:Qg->Prop) (aA aB:Hp) (ρ:En) (σ:St) (H:Hp) (f:Fl) (D:Ends),Sn K pn au A aA aB ρ σ H->m ρ=ž f->zCU K pn EX au A aA aB D f->t D σ H
section
variable{EX:cW}{A:Qg->Prop}{mE:Hp}{ρ ao:En}
def Sn.go(s:Sn K pn au A aA aB ρ σ H)(g:Go K ρ σ H ao H'):Sn K pn au A aA aB ao σ H':=by
 refine⟨g.rs,λa o h n=>g.fr a o (s.fr a o h n) λ⟨i,u,e,ou,es⟩=>?_,λi u a e o es=>?_,s.pin,λa h=>s.dm a<|g.dm a h,s.kp.trans<|g.kp s.rs⟩
 .rcases s.ow i u a e ou es with z|z
  .exact n z.2
  .rw[z]at h;cases h
 .have(w,e',o'):=g.shr.own i u e o
  exact s.ow i w a e' o' es
def Sn.re(s:Sn K pn au A aA mE ρ σ H)(k:Kp aB mE):Sn K pn au A aA aB ρ σ H:=⟨s.rs,s.fr,s.ow,s.pin,s.dm,k.trans s.kp⟩
def Sn.at(s:Sn K pn au A aA aB ρ σ H):Sn K pn au A aA H ρ σ H:=⟨s.rs,s.fr,s.ow,s.pin,s.dm,Kp.refl H⟩
def Sn.set{u:U}(s:Sn K pn au A aA aB ρ σ H)(hi:i∉pn)(p:Rp K H v u)(n:u.own=ż->∃a,v=.ref a/\aA a=Ž/\¬Ow ρ σ a):Sn K pn au A aA aB (ρ.set i<|some u) (σ.set i<|some v) H:=by
 have ll:=s.rs.len;have inv:∀(j:Nat) (w:U),(ρ.set i<|some u)[j]?=ž (ž w)->(j=i/\w=u/\i < ρ.length)\/(j≠i/\ρ[j]?=ž (ž w)):=λj w e=>by
  by_cases hj:i=j
  .subst hj
   have hl:=(qk.mp e).1;rw[ī]at hl;rw[Ĭ hl]at e;cases e;exact .inl ⟨rfl,rfl,hl⟩
  .rw[qB hj]at e
   exact .inr ⟨ĭ hj,e⟩
 have sat:∀j,j≠i->(σ.set i<|some v)[j]?=σ[j]?:=λj h=>qB<|ĭ h;have kR:i < ρ.length->(σ.set i<|some v)[i]?=ž (ž v):=λh=>ù (by omega);refine⟨⟨by rw[ī,ī];exact ll,λj w e=>?_,λj k x y ej ek ox oy es=>?_⟩,s.fr,λj w a e o es=>?_,λj hj=>?_,s.dm,s.kp⟩
 .rcases inv j w e with⟨rfl,rfl,hl⟩|⟨hj,e'⟩
  .exact⟨v,kR hl,p⟩
  .rw[sat j hj]
   exact s.rs.rep j w e'
 .rcases inv j x ej with⟨rfl,rfl,hl⟩|⟨hj,oz⟩
  .rcases inv k y ek with⟨rfl,rfl,_⟩|⟨hk,xu⟩
   .rfl
   .exfalso
    have(a,rfl,_,na):=n ox;rw[kR hl,sat k hk]at es;exact na ⟨k,y,xu,oy,es.symm⟩
  .rcases inv k y ek with⟨rfl,rfl,hl⟩|⟨hk,xu⟩
   .exfalso
    have(a,rfl,_,na):=n oy;rw[kR hl,sat j hj]at es;exact na ⟨j,x,oz,ox,es⟩
   .rw[sat j hj,sat k hk]at es
    exact s.rs.apart j k x y oz xu ox oy es
 .rcases inv j w e with⟨rfl,rfl,hl⟩|⟨hj,e'⟩
  .rw[kR hl]at es
   cases es;have(b,eb,hb,_):=n o;cases eb;exact .inr hb
  .rw[sat j hj]at es
   exact s.ow j w a e' o es
 .rw[sat j λz=>hi<|z▸hj]
  exact s.pin j hj
def oF.own{a:Ar}{u:U}(r:Rs K ρ σ H)(g:Go K ρ σ H ao H')(k:oF K ao σ H H' v a)(e:a.get ao=ž u)(nc:∀j,a=.s j->u.own=Ż):Nw H v u/\(u.own=ż->∃b,v=.ref b/\¬Ow ao σ b):=by
 cases a with
 |s j=>exact⟨(λo=>by rw[nc j rfl]at o;cases o),λo=>by rw[nc j rfl]at o;cases o⟩
 |u x=>
  cases(show ž x=ž u from e);exact⟨k.2,k.2.qM r g⟩
noncomputable def put(p:Ar×En):Qb (U×En):=match p.1 with
 |.s i=>match p.2[i]? with
  |some (ž<|.d x)=>ž (.d x,p.2)
  |_=>Ž
 |.u u=>ž (u,p.2)
def M3{a:Ar}{u:U}{aw aD:En}(e:put (a,aw)=ž (u,aD)):aD=aw/\a.get aw=ž u/\∀j,a=.s j->u.own=Ż:=by
 cases a with
 |s i=>
  unfold put at e;dsimp only at e;split at e
  .rename_i x ex
   cases e;refine⟨rfl,?_,λ_ _=>rfl⟩;show(aw[i]?).join=_;rw[ex];rfl
  .cases e
 |u x=>
  cases e;exact⟨rfl,rfl,λj z=>by cases z⟩
def zR(i:Nat)(me:ME):MS:=λρ=>(me ρ).bind λp=>(put p).bind λq=>ž<|.nx<|q.2.set i<|some q.1
def zP{me:ME}(h:VE K te me)(hi:i∉pn:=by decide):VS K pn EX (oI te<|kN i) (zR i me):=by
 intro au A aA aB ρ σ H f D s e k;obtain⟨⟨a,aw⟩,e1,e⟩:=bQ e;obtain⟨⟨u,aD⟩,e2,e3⟩:=bQ e;clear e;have(rfl,eg,nc):=M3 e2;cases e3;refine h ρ σ H a aD _ s.rs e1 λv H1 g1 k1=>?_;have(n1,n2):=k1.own s.rs g1 eg nc;have s1:=s.go g1;refine k _ _<|s1.set hi (k1.now s.rs g1 eg) λo=>?_;have(b,rfl,hb):=n2 o;have(b',eb,k8):=n1 o;cases eb;exact⟨b,rfl,s.dm b k8,hb⟩
noncomputable def zz(m1 m2:MS):MS:=λρ=>(m1 ρ).bind λf=>match f with
 |.nx ao=>m2 ao
 |f=>ž f
def zt{t1 t2:TS}{m1 m2:MS}(h1:VS K pn EX t1 m1)(h2:VS K pn EX t2 m2):VS K pn EX (FL t1 t2) (zz m1 m2):=by
 intro au A aA aB ρ σ H f D s e k;have(f1,e1,e):=bQ e;refine h1 au A aA aB ρ σ H f1 _ s e1 ?_;cases f1 with
 |nx aw=>exact λft H1 s1=>h2 au A aA aB aw ft H1 f D s1 e k
 |bk aw=>cases e;exact k
 |ct aw=>cases e;exact k
 |rt u aw=>cases e;exact k
 |ex x aw=>cases e;exact k
noncomputable def zS:MS:=λρ=>ž<|.nx ρ
def b8:VS K pn EX GA zS:=λau A aA aB ρ σ H f D s e k=>by cases e;exact k σ H s
def Ws:VS K pn EX Gz (λρ=>ž<|.ct ρ):=λau A aA aB ρ σ H f D s e k=>by cases e;exact k σ H s
noncomputable def aT(mt:MT)(m1 m2:MS):MS:=λρ=>(mt ρ).bind λp=>if p.1=ż then m1 p.2 else m2 p.2
def bK{t1 t2:TS}{mt:MT}{m1 m2:MS}(ht:VT K tt mt)(h1:VS K pn EX t1 m1)(h2:VS K pn EX t2 m2):VS K pn EX (FK tt t1 t2) (aT mt m1 m2):=by
 intro au A aA aB ρ σ H f D s e k;obtain⟨⟨c,aw⟩,e1,e⟩:=bQ e;refine ht ρ σ H c aw _ s.rs e1 λH1 g1=>?_;dsimp only at e;split at e
 .rename_i hc
  rw[a5L hc];exact h1 au A aA aB aw σ H1 f D (s.go g1) e k
 .rename_i hc
  rw[a5M hc];exact h2 au A aA aB aw σ H1 f D (s.go g1) e k
def rT{t:TS}{m:MS}(h:VS K pn EX t m):VS K pn EX (GF t) m:=by
 intro au A aA aB ρ σ H f D s e k;cases f with
 |nx aw=>exact⟨λaG H'=>Sn K pn au A aA aB aw aG H',h au A aA aB ρ σ H _ _ s e λaG H' s'=>s',λaG H' s'=>k aG H' s'⟩
 |bk aw=>exact⟨D.nx,h au A aA aB ρ σ H _ _ s e k,λ_ _ z=>z⟩
 |ct aw=>exact⟨D.nx,h au A aA aB ρ σ H _ _ s e k,λ_ _ z=>z⟩
 |rt u aw=>exact⟨D.nx,h au A aA aB ρ σ H _ _ s e k,λ_ _ z=>z⟩
 |ex x aw=>exact⟨D.nx,h au A aA aB ρ σ H _ _ s e k,λ_ _ z=>z⟩
noncomputable def du(me:ME):MS:=λρ=>(me ρ).bind λp=>ž<|.nx p.2
def gF{me:ME}(h:VE K te me):VS K pn EX (Gy te) (du me):=by
 intro au A aA aB ρ σ H f D s e k;obtain⟨⟨a,aw⟩,e1,e⟩:=bQ e;cases e;exact h ρ σ H a _ _ s.rs e1 λv H1 g1 k1=>k σ H1<|s.go g1
def aW(me:ME):MS:=λρ=>(me ρ).bind λp=>(put p).bind λq=>ž<|.rt q.1 q.2
def bE{me:ME}(h:VE K te me):VS K pn EX (BX te) (aW me):=by
 intro au A aA aB ρ σ H f D s e k;obtain⟨⟨a,aw⟩,e1,e⟩:=bQ e;obtain⟨⟨u,aD⟩,e2,e3⟩:=bQ e;clear e;have(rfl,eg,nc):=M3 e2;cases e3;refine h ρ σ H a _ _ s.rs e1 λv H1 g1 k1=>?_;have(n1,n2):=k1.own s.rs g1 eg nc;exact k v σ H1 (s.go g1) (k1.now s.rs g1 eg)<|n1.mono s.dm
def oK(pn:Qa Nat)(i:Nat):MS:=λρ=>if i∈pn then Ž else(match ρ[i]? with
 |some (ž u)=>ž<|.rt u<|ρ.set i Ž
 |_=>Ž)
def yA:VS K pn EX (BX<|nF i) (oK pn i):=by
 intro au A aA aB ρ σ H f D s e k;unfold oK at e;split at e
 .cases e
 rename_i hi;split at e
 .rename_i u eu
  cases e;have(v,ev,p):=s.rs.rep i u eu;have back:∀(j:Nat) (w:U),(ρ.set i Ž)[j]?=ž (ž w)->ρ[j]?=ž (ž w):=λj w e=>by
   by_cases hj:i=j
   .subst hj
    have hl:=(qk.mp e).1;rw[ī]at hl;rw[Ĭ hl]at e;cases e
   .rw[qB hj]at e
    exact e
  refine⟨v,ev,k v σ H ⟨⟨by rw[ī];exact s.rs.len,λj w e=>s.rs.rep j w<|back j w e,λa b x y ea eb=>s.rs.apart a b x y (back a x ea)<|back b y eb⟩,s.fr,λj w a e=>s.ow j w a<|back j w e,s.pin,s.dm,s.kp⟩ p λo=>?_⟩;have(a,rfl):=p.kS o;rcases s.ow i u a eu o ev with z|z
  .exact absurd z.1 hi
  .exact⟨a,rfl,z⟩
 .cases e
end
section
variable{EX:cW}{A:Qg->Prop}{mE:Hp}{ρ ao:En}
def MZ(K:qc)(J:It)(aB:Hp)(ds:Qa D):Prop:=∀H,Kp aB H->∀i:Nat,(∀d,ds[i]?=ž d->J.go i H/\∀x H',J.Af i H x H'->eI H H'/\DF K H' x d)/\(i=ds.length->J.stop i H)
abbrev MI:=En->Qb (Qa D×En)
def VI(K:qc)(wi:TI)(mi:MI):Prop :=
 ∀(ρ:En) (σ:St) (H:Hp) (ds:Qa D) (ao:En) (R:It->Hp->Prop),Rs K ρ σ H->mi ρ=ž (ds,ao)->(∀J H',Go K ρ σ H ao H'->MZ K J H' ds->R J H')->wi σ H R
noncomputable def xQ:U->Qb (Qa D)
 |.d (.list xs)=>ž xs
 |_=>Ž
def rC:U->Qb (Qa D)
 |.d (.tuple xs)=>ž xs
 |_=>Ž
def i5(f:U->Qb (Qa D))(me:ME):MI:=λρ=>(me ρ).bind λp=>(p.1.get p.2).bind λu=>(f u).bind λds=>ž (ds,p.2)
def OA{me:ME}(h:VE K te me):VI K (Gx K te) (i5 xQ me):=by
 intro ρ σ H ds ao R r e q;obtain⟨⟨a,aw⟩,e1,e⟩:=bQ e;have(u,eu,e):=bQ e;have(xs,ex,e):=bQ e;cases e;refine h ρ σ H a _ _ r e1 λv H1 g1 k1=>?_;have p:=k1.now r g1 eu;unfold xQ at ex;split at ex
 .cases ex
  have(b,ys,rfl,h1,h2):=DF.lst_inv p;refine⟨b,rfl,⟨ys,h1.sq⟩,q _ _ g1 λH2 k i=>⟨λd ed=>?_,λei=>?_⟩⟩
  .have(v,ev,dv):=(h2.kp k).get ed
   refine⟨⟨ys,v,(h1.kp k).sq,ev⟩,λx H' y=>?_⟩;have(rfl,y):=y;have:=y ys (h1.kp k).sq;rw[ev]at this;cases this;exact⟨λ_ _ z=>z,dv⟩
  .exact⟨ys,(h1.kp k).sq,by rw[h2.len];omega⟩
 .cases ex
def yz{me:ME}(h:VE K te me):VI K (FF K te) (i5 rC me):=by
 intro ρ σ H ds ao R r e q;obtain⟨⟨a,aw⟩,e1,e⟩:=bQ e;have(u,eu,e):=bQ e;have(xs,ex,e):=bQ e;cases e;refine h ρ σ H a _ _ r e1 λv H1 g1 k1=>?_;have p:=k1.now r g1 eu;unfold rC at ex;split at ex
 .cases ex
  have(b,ys,rfl,h1,h2):=DF.aI p;refine⟨b,rfl,⟨ys,(bg.sq h1)⟩,q _ _ g1 λH2 k i=>⟨λd ed=>?_,λei=>?_⟩⟩
  .have(v,ev,dv):=(h2.kp k).get ed
   refine⟨⟨ys,v,(bg.kp k h1).sq,ev⟩,λx H' y=>?_⟩;have(rfl,y):=y;have:=y ys ((bg.kp k h1).sq);rw[ev]at this;cases this;exact⟨λ_ _ z=>z,dv⟩
  .exact⟨ys,(bg.kp k h1).sq,by rw[h2.len];omega⟩
 .cases ex
noncomputable def jy(lo:Int)(n:Nat):Qa D:=(ĥ n).map λi=>.int<|lo+(i:Nat)
def Im(lo:Int)(n:Nat):(jy lo n).length=n:=by simp[jy]
def Ij{lo:Int}{d:D}(h:(jy lo n)[i]?=ž d):i < n/\d=.int (lo+(i:Nat)):=by
 have hl:=(qk.mp h).1;rw[Im]at hl;refine⟨hl,?_⟩;unfold jy at h;rw[ė,a1u hl]at h;cases h;rfl
def zmA{lo:Int}:MZ K (E9 lo n) aB (jy lo n):=λH k i=>⟨λd ed=>by
  have(hi,rfl):=Ij ed;refine⟨hi,λx H' y=>?_⟩;have(rfl,rfl):=y;exact⟨λ_ _ z=>z,.int _⟩,λei=>by rw[Im]at ei;exact í ei.symm⟩
def mT(ma:MA):MI:=λρ=>(ma ρ).bind λp=>(bW p.2 p.1).bind λus=>match us with
 |[.d<|.int j]=>if -(2^62)<=j/\j < 2^62 then ž (jy 0 j.toNat,p.2)else Ž
 |_=>Ž
def uj{ta:TA}{ma:MA}(h:mw K ta ma):VI K (Gw ta) (mT ma):=by
 intro ρ σ H ds ao R r e q;obtain⟨⟨as,aw⟩,e1,e⟩:=bQ e;have(us,eu,e):=bQ e;refine h ρ σ H as aw _ r e1 λvs H1 g1 s1=>?_;have rp:=s1.qL r g1 eu;dsimp only at e;split at e
 .split at e
  .rename_i j hc
   cases e;cases rp with
   |cons h1 t=>
    cases t;cases DF.int_inv h1;exact⟨j,rfl,hc.1,hc.2,q _ _ g1 zmA⟩
  .cases e
 .cases e
noncomputable def sF:Nat->Qa D->Qa D
 |_,[]=>[]
 |i,d::ds=>.tuple [.int (i:Nat),d]::sF (i+1) ds
def Ir:∀{ds:Qa D} {n i:Nat} {d:D},(sF n ds)[i]?=ž d->∃x,ds[i]?=ž x/\d=.tuple [.int ((n+i:Nat):Int),x]
 |[],n,i,d,h=>by simp[sF]at h
 |x::ds,n,0,d,h=>by cases h;exact⟨x,rfl,rfl⟩
 |x::ds,n,i+1,d,h=>by
  have(y,ey,ed):=Ir (ds:=ds) (n:=n+1) (i:=i) h;exact⟨y,ey,by rw[ed];congr 3;omega⟩
def IA:∀(ds:Qa D) (n:Nat),(sF n ds).length=ds.length
 |[],_=>rfl
 |_::ds,n=>congrArg (·+1)<|IA ds<|n+1
def Cq(ma:MA):MI:=λρ=>(ma ρ).bind λp=>(bW p.2 p.1).bind λus=>match us with
 |[.d<|.tuple ds]=>ž (sF 0 ds,p.2)
 |_=>Ž
def Zx{ta:TA}{ma:MA}(h:mw K ta ma):VI K (LR K ta) (Cq ma):=by
 intro ρ σ H ds ao R r e q;obtain⟨⟨as,aw⟩,e1,e⟩:=bQ e;have(us,eu,e):=bQ e;refine h ρ σ H as aw _ r e1 λvs H1 g1 s1=>?_;have rp:=s1.qL r g1 eu;dsimp only at e;split at e
 .rename_i xs
  cases e;cases rp with
  |cons h1 t=>
   cases t;have(b,ys,rfl,h1,h2):=DF.aI h1;refine⟨b,rfl,⟨ys,(bg.sq h1)⟩,q _ _ g1 λH2 k i=>⟨λd ed=>?_,λei=>?_⟩⟩
   .have(x,ex,rfl):=Ir ed
    have(v,ev,dv):=(h2.kp k).get ex;refine⟨⟨ys,v,(bg.kp k h1).sq,ev⟩,λx H' y=>?_⟩;have(T,nT,rfl,y):=y;cases y ys v ((bg.kp k h1).sq) ev;have sm:=iH nT (.tup [.int i,v]);refine⟨sm,.tup (.inl zD)<|.cons ?_<|.cons (dv.kp sm.kp) .nil⟩;rw[Š];exact .int _
   .exact⟨ys,(bg.kp k h1).sq,by rw[IA]at ei;rw[h2.len];exact ei.symm⟩
 .cases e
abbrev MG:=D->En->Qb En
def zCV(pn:Qa Nat)(mg:MG):Prop:=∀d ρ ao,mg d ρ=ž ao->ao.length=ρ.length/\∀i∈pn,ao[i]?=ρ[i]?
def zA7(pn:Qa Nat)(mg:Qa D->En->Qb En):Prop:=∀ds ρ ao,mg ds ρ=ž ao->ao.length=ρ.length/\∀i∈pn,ao[i]?=ρ[i]?
structure vp (K:qc) (pn:Qa Nat) (g:TG) (mg:MG):Prop where
 run:∀(au:St) (A:Qg->Prop) (aA aB:Hp) (ρ:En) (σ:St) (H:Hp) (v:V) (d:D) (ao:En) (Q:St->Hp->Prop),Sn K pn au A aA aB ρ σ H->DF K H v d->mg d ρ=ž ao->(∀aG,Sn K pn au A aA aB ao aG H->Q aG H)->g v σ H Q
 ok:zCV pn mg
structure EY (K:qc) (pn:Qa Nat) (g:jD) (mg:Qa D->En->Qb En):Prop where
 run:∀(au:St) (A:Qg->Prop) (aA aB:Hp) (ρ:En) (σ:St) (H:Hp) (vs:Qa V) (ds:Qa D) (ao:En) (Q:St->Hp->Prop),Sn K pn au A aA aB ρ σ H->aO K H vs ds->mg ds ρ=ž ao->(∀aG,Sn K pn au A aA aB ao aG H->Q aG H)->g vs σ H Q
 ok:zA7 pn mg
noncomputable def zF(i:Nat):MG:=λd ρ=>ž<|ρ.set i<|some<|.d d
def zH(hi:i∉pn:=by decide):vp K pn (kN i) (zF i) where
 run:=by
  intro au A aA aB ρ σ H v d ao Q s h e q;cases e;exact q _ (s.set hi (u:=.d d) h λo=>by cases o)
 ok:=λd ρ ao e=>by
  cases e;exact⟨ī,λj hj=>qB (by rintro rfl;exact hi hj)⟩
def gC:Qa D->En->Qb En:=λds ρ=>match ds with |[]=>ž ρ|_=>Ž
noncomputable def zW(g:MG)(gs:Qa D->En->Qb En):Qa D->En->Qb En:=λds ρ=>match ds with
 |d::ds=>(g d ρ).bind λaw=>gs ds aw
 |[]=>Ž
def jM:EY K pn BV gC where
 run:=by
  intro au A aA aB ρ σ H vs ds ao Q s h e q;cases h with
  |nil=>cases e;exact⟨rfl,q σ s⟩
  |cons=>cases e
 ok:=λds ρ ao e=>by
  cases ds with
  |nil=>cases e;exact⟨rfl,λ_ _=>rfl⟩
  |cons=>cases e
def cQ{g:TG}{gs:jD}{mg:MG}{uP:Qa D->En->Qb En}(h1:vp K pn g mg)(h2:EY K pn gs uP):EY K pn (xZ g gs) (zW mg uP) where
 run:=by
  intro au A aA aB ρ σ H vs ds ao Q s h e q;cases h with
  |nil=>cases e
  | @cons v d vs ds hv t=>
   have(aw,e1,e):=bQ (show(mg d ρ).bind (λaw=>uP ds aw)=ž ao from e);exact⟨v,vs,rfl,h1.run au A aA aB ρ σ H v d aw _ s hv e1 λft s1=>h2.run au A aA aB aw ft H vs ds ao Q s1 t e q⟩
 ok:=λds ρ ao e=>by
  cases ds with
  |nil=>cases e
  |cons d ds=>
   have(aw,e1,e):=bQ (show(mg d ρ).bind (λaw=>uP ds aw)=ž ao from e);have(a1,a2):=h1.ok d ρ aw e1;have(b1,b2):=h2.ok ds aw ao e;exact⟨b1.trans a1,λi hi=>(b2 i hi).trans<|a2 i hi⟩
def fG(n:Nat)(gs:Qa D->En->Qb En):MG:=λd ρ=>match d with
 |.tuple ds=>if ds.length=n then gs ds ρ else Ž
 |_=>Ž
def jL{gs:jD}{uP:Qa D->En->Qb En}(h:EY K pn gs uP):vp K pn (BU K n gs) (fG n uP) where
 run:=by
  intro au A aA aB ρ σ H v d ao Q s hd e q;unfold fG at e;split at e
  .split at e
   .rename_i ds hl
    have(a,xs,rfl,h1,h2):=DF.aI hd;exact⟨a,xs,rfl,(bg.sq h1),by rw[h2.len];exact hl,h.run au A aA aB ρ σ H xs ds ao Q s h2 e q⟩
   .cases e
  .cases e
 ok:=λd ρ ao e=>by
  unfold fG at e;split at e
  .split at e
   .exact h.ok _ _ _ e
   .cases e
  .cases e
def gX(me:ME)(mg:MG):MS:=λρ=>(me ρ).bind λp=>(p.1.get p.2).bind λu=>match u with
 |.d d=>(mg d p.2).bind λao=>ž<|.nx ao
 |_=>Ž
def mY{g:TG}{me:ME}{mg:MG}(h:VE K te me)(hg:vp K pn g mg):VS K pn EX (oI te g) (gX me mg):=by
 intro au A aA aB ρ σ H f D s e k;obtain⟨⟨a,aw⟩,e1,e⟩:=bQ e;have(u,eu,e):=bQ e;refine h ρ σ H a aw _ s.rs e1 λv H1 g1 k1=>?_;have p:=k1.now s.rs g1 eu;dsimp only at e;split at e
 .have(aD,e2,e3):=bQ e
  cases e3;exact hg.run au A aA aB aw σ H1 v _ aD _ (s.go g1) p e2 λaG s'=>k aG H1 s'
 .cases e
def B2(i j:Nat)(ma:MA):MS:=λρ=>(ma ρ).bind λp=>(bW p.2 p.1).bind λus=>match us with
 |[.d x,.d y]=>ž<|.nx<|(p.2.set i<|some<|.d x).set j<|some<|.d y
 |_=>Ž
def zA8{ta:TA}{ma:MA}(h:mw K ta ma)(hi:i∉pn:=by decide)(hj:j∉pn:=by decide):VS K pn EX (FG i j ta) (B2 i j ma):=by
 intro au A aA aB ρ σ H f D s e k;obtain⟨⟨as,aw⟩,e1,e⟩:=bQ e;have(us,eu,e):=bQ e;refine h ρ σ H as aw _ s.rs e1 λvs H1 g1 s1=>?_;have rp:=s1.qL s.rs g1 eu;dsimp only at e;split at e
 .rename_i x y
  cases e;cases rp with
  | @cons v _ vs _ h1 t=>
   cases t with
   | @cons w _ _ _ h2 t=>
    cases t;have sn:=(s.go g1).set hi (u:=.d x) h1 λo=>by cases o
    exact⟨v,w,rfl,k _ _ (sn.set hj (u:=.d y) h2 λo=>by cases o)⟩
 .cases e
noncomputable def iR(mg:MG)(mb:MS):Qa D->En->Qb Fl
 |[],ρ=>ž<|.nx ρ
 |d::ds,ρ=>(mg d ρ).bind λaw=>(mb aw).bind λf=>match f with
  |.nx aD=>iR mg mb ds aD
  |.ct aD=>iR mg mb ds aD
  |.bk aD=>ž<|.nx aD
  |.rt u aD=>ž<|.rt u aD
  |.ex x aD=>ž<|.ex x aD
def hU(mi:MI)(mg:MG)(mb:MS):MS:=λρ=>(mi ρ).bind λp=>iR mg mb p.1 p.2
def jK{wi:TI}{g:TG}{tb:TS}{mi:MI}{mg:MG}{mb:MS}(hi:VI K wi mi)(hg:vp K pn g mg)(hb:VS K pn EX tb mb):VS K pn EX (FE wi g tb) (hU mi mg mb):=by
 intro au A aA aB ρ σ H f D s e k;obtain⟨⟨ds,aw⟩,e1,e⟩:=bQ e;refine hi ρ σ H ds aw _ s.rs e1 λJ H1 g1 run=>?_;have s1:=(s.go g1).at;have qO:Kp aB H1:=(s.go g1).kp;refine⟨λi m aG H'=>m=ds.length - i/\i<=ds.length/\∃ao,Sn K pn au A aA H1 ao aG H'/\iR mg mb (ds.drop i) ao=ž f,⟨ds.length,by simp,À _,aw,s1,e⟩,?_⟩;rintro i m aG H' ⟨rfl,kl,ao,s',el⟩
 by_cases fj:i < ds.length
 .rw[Ţ fj]at el
  have(aD,e2,el):=bQ (show(mg ds[i] ao).bind _=ž f from el);have(fb,eb,el):=bQ el;have(go,yl):=(run H' s'.kp i).1 ds[i] (ql fj);refine .inr ⟨go,λgU H3=>∃mM,Sn K pn au A aA H1 mM gU H3/\iR mg mb (ds.drop<|i+1) mM=ž f,λgU H3 ⟨mM,s3,e3⟩=>⟨ds.length - (i+1),by omega,rfl,fj,mM,s3,e3⟩,λx H2 y=>?_⟩;have(sm,dx):=yl x H2 y;have s2:=s'.go (Go.grow s'.rs sm);refine hg.run au A aA H1 ao aG H2 x ds[i] aD _ s2 dx e2 λgU s3=>?_;refine hb au A aA H1 aD gU H2 fb _ s3 eb ?_;cases fb with
  |nx gA=>exact λiC H4 s4=>⟨gA,s4,el⟩
  |ct gA=>exact λiC H4 s4=>⟨gA,s4,el⟩
  |bk gA=>cases el;exact λiC H4 s4=>k iC H4<|s4.re qO
  |rt u gA=>cases el;exact λv iC H4 s4 p n=>k v iC H4 (s4.re qO) p n
  |ex x gA=>cases el;exact λa iC H4 s4 p n=>k a iC H4 (s4.re qO) p n
 .have ei:i=ds.length:=by omega
  subst ei;rw[a5p]at el;cases el;exact .inl ⟨(run H' s'.kp _).2 rfl,k aG H'<|s'.re qO⟩
def iQ(mt:MT)(mb:MS):Nat->En->Qb Fl
 |0,_=>Ž
 |n+1,ρ=>(mt ρ).bind λp=>if p.1=ż then(mb p.2).bind λf=>match f with
  |.nx aD=>iQ mt mb n aD
  |.ct aD=>iQ mt mb n aD
  |.bk aD=>ž<|.nx aD
  |.rt u aD=>ž<|.rt u aD
  |.ex x aD=>ž (.ex x aD)else ž (.nx p.2)
open Classical in
def ub(mt:MT)(mb:MS):MS:=λρ=>if h:∃n,(iQ mt mb n ρ).isSome=ż then iQ mt mb h.choose ρ else Ž
def Oz{tb:TS}{mt:MT}{mb:MS}(ht:VT K tt mt)(hb:VS K pn EX tb mb):VS K pn EX (Hj tt tb) (ub mt mb):=by
 intro au A aA aB ρ σ H f D s e k;unfold ub at e;split at e
 .rename_i hn
  generalize hn.choose=n at e;refine⟨λm aG H'=>∃ao,Sn K pn au A aA aB ao aG H'/\iQ mt mb m ao=ž f,⟨n,ρ,s,e⟩,?_⟩;rintro m aG H' ⟨ao,s',el⟩;cases m with
  |zero=>cases el
  |succ m=>
   obtain⟨⟨b,aw⟩,e1,el⟩:=bQ (show(mt ao).bind _=ž f from el);refine ht ao aG H' b aw _ s'.rs e1 λH1 g1=>?_;dsimp only at el;split at el
   .rename_i hc
    rw[a5L hc];have(fb,eb,el):=bQ el;refine⟨λhJ H2=>∃aD,Sn K pn au A aA aB aD hJ H2/\iQ mt mb m aD=ž f,λhJ H2 ⟨aD,s2,e2⟩=>⟨m,ê m,aD,s2,e2⟩,?_⟩;refine hb au A aA aB aw aG H1 fb _ (s'.go g1) eb ?_;cases fb with
    |nx gA=>exact λiC H4 s4=>⟨gA,s4,el⟩
    |ct gA=>exact λiC H4 s4=>⟨gA,s4,el⟩
    |bk gA=>cases el;exact λiC H4 s4=>k iC H4 s4
    |rt u gA=>cases el;exact λv iC H4 s4 p n=>k v iC H4 s4 p n
    |ex x gA=>cases el;exact λa iC H4 s4 p n=>k a iC H4 s4 p n
   .rename_i hc
    rw[a5M hc];cases el;exact k aG H1<|s'.go g1
 .cases e
def DQ{mt:MT}{mb:MS}:∀{n:Nat} {ρ:En} {f:Fl},iQ mt mb n ρ=ž f->∀k,iQ mt mb (n+k) ρ=ž f
 |0,_,_,e,_=>by cases e
 |n+1,ρ,f,e,k=>by
  rw[show n+1+k=(n+k)+1 by omega];obtain⟨⟨b,aw⟩,e1,e⟩:=bQ (show(mt ρ).bind _=ž f from e);show(mt ρ).bind _=ž f;rw[e1];show(if b=ż then _ else _)=_;dsimp only at e;split at e
  .rename_i hc
   rw[a5L hc];have(fb,eb,e):=bQ e;rw[eb];cases fb with
   |nx aD=>exact DQ (n:=n) e k
   |ct aD=>exact DQ (n:=n) e k
   |bk aD=>exact e
   |rt u aD=>exact e
   |ex x aD=>exact e
  .rename_i hc
   rw[a5M hc];exact e
def zrk{mt:MT}{mb:MS}{ρ:En}{f:Fl}(e:iQ mt mb n ρ=ž f):ub mt mb ρ=ž f:=by
 have h:∃n,(iQ mt mb n ρ).isSome=ż:=⟨n,by rw[e];rfl⟩;unfold ub;rw[dif_pos h];have(f',Ui):=ò.mp h.choose_spec;rw[Ui];have a:=DQ e h.choose;have b:=DQ Ui n;rw[a3X,b]at a;exact a
end
section
variable{A:Qg->Prop}{mE:Hp}{ρ ao:En}
noncomputable def jf(nt:Nat)(js:Qa Nat)(ρ:En):En:=č nt Ž++js.map λj=>ρ.getD j Ž
noncomputable def reset(nt:Nat)(ρ:En):En:=č nt Ž++ρ.drop nt
noncomputable def back:Qa Nat->Qa (Qb U)->En->En
 |j::js,ž u::us,ρ=>back js us<|ρ.set j<|some u
 |_::js,Ž::us,ρ=>back js us ρ
 |_,_,ρ=>ρ
def j0(nt:Nat)(mg:MG)(mt:MT)(me:ME):Qa D->En->Qa D->Qb (Qa D×En)
 |[],ρ,ys=>ž (ys,ρ)
 |d::ds,ρ,ys=>if ys.length < Ď then(mg d ρ).bind λaw=>(mt aw).bind λb=>if b.1=ż then(me b.2).bind λp=>(p.1.get p.2).bind λu=>(match u with
   |.d y=>j0 nt mg mt me ds (reset nt p.2)<|ys++[y]
   |_=>Ž)else j0 nt mg mt me ds (reset nt b.2) ys else Ž
def nR(mi:MI)(nt:Nat)(js:Qa Nat)(mg:MG)(mt:MT)(me:ME):ME:=λρ=>(mi ρ).bind λp=>(j0 nt mg mt me p.1 (jf nt js p.2) []).bind λq=>ž (.u<|.l q.1,back js (q.2.drop nt) p.2)
noncomputable def nG(nt n:Nat):Qa Nat:=(ĥ n).map (nt+·)
def Dl:i∈nG nt n↔nt<=i/\i < nt+n:=by
 unfold nG;rw[List.mem_map];constructor
 .rintro⟨a,ha,rfl⟩
  have:=Õ.mp ha;omega
 .intro h
  exact⟨i - nt,Õ.mpr (by omega),by omega⟩
def yy{u:U}(h:(jf nt js ρ)[i]?=ž (ž u)):∃p j,i=nt+p/\js[p]?=ž j/\ρ[j]?=ž (ž u):=by
 unfold jf at h
 by_cases hi:i < nt
 .rw[Ĝ (by simpa using hi),Ō,a5L hi]at h
  cases h
 .rw[ę (by simp;omega),Ħ,ė]at h
  have(j,ej,e):=qq.mp h;refine⟨i - nt,j,by omega,ej,?_⟩;rw[qA]at e;cases q:ρ[j]? with
  |none=>rw[q]at e;cases e
  |some o=>rw[q]at e;exact congrArg ž e
def LI{p:Nat}(h:js[p]?=ž j):(c0 nt js σ)[nt+p]?=ž (σ.getD j Ž):=by
 unfold c0;rw[ę (by simp),Ħ,ŀ,ė,h];rfl
def MY:(c0 nt js σ).length=nt+js.length:=by unfold c0;simp
def Oy:(jf nt js ρ).length=nt+js.length:=by unfold jf;simp
def vD(ρ:En)(σ:St)(js:Qa Nat)(a:Qg):Prop:=∃(p j:Nat) (u:U),js[p]?=ž j/\ρ[j]?=ž (ž u)/\u.own=ż/\σ[j]?=ž (ž<|.ref a)
def Zw(r:Rs K ρ σ H)(nd:js.Nodup):Sn K (nG nt js.length) (c0 nt js σ) (vD ρ σ js) H H (jf nt js ρ) (c0 nt js σ) H:=by
 have sat:∀{p j:Nat} {v:V},js[p]?=ž j->σ[j]?=ž (ž v)->(c0 nt js σ)[nt+p]?=ž (ž v):=λ{p j v} hp hv=>by
  rw[LI hp,qA,hv];rfl
 refine⟨⟨by rw[Oy,MY],λi u e=>?_,λi k u w ei ek ou ow es=>?_⟩,λ_ _ h _=>h,λi u a e o es=>?_,λ_ _=>rfl,λ_ h=>h,Kp.refl H⟩
 .have(p,j,rfl,hj,hr):=yy e
  have(v,ev,q):=r.rep j u hr;exact⟨v,sat hj ev,q⟩
 .have(p,j,rfl,hj,hr):=yy ei
  have(p',j',rfl,kj,EA):=yy ek;have(v,ev,_):=r.rep j u hr;have(v',vi,_):=r.rep j' w EA;rw[sat hj ev,sat kj vi]at es;have:j=j':=r.apart j j' u w hr EA ou ow (by rw[ev,vi];exact es);subst this;have l1:=(qk.mp hj);have l2:=(qk.mp kj);have(h1,e1):=l1;have(h2,e2):=l2;have:=(a5o nd).mp (e1.trans e2.symm);omega
 .have(p,j,rfl,hj,hr):=yy e
  have(v,ev,_):=r.rep j u hr;rw[sat hj ev]at es;cases es;exact .inl ⟨Dl.mpr ⟨by omega,by have:=(qk.mp hj).1;omega⟩,p,j,u,hj,hr,o,ev⟩
def Sn.reset{mH:St}{aD:En}{hJ:St}(s:Sn K (nG nt n) mH A aA aB aD hJ H)(l1:aD.length=nt+n)(l2:mH.length=nt+n):Sn K (nG nt n) mH A aA aB (Internal.reset nt aD) mH H:=by
 have bk:∀(i:Nat) (u:U),(Internal.reset nt aD)[i]?=ž (ž u)->nt<=i/\i < nt+n/\aD[i]?=ž (ž u):=λi u e=>by
  unfold Internal.reset at e
  by_cases hi:i < nt
  .rw[Ĝ (by simpa using hi),Ō,a5L hi]at e
   cases e
  .rw[ę (by simp;omega),Ħ,a0g,show nt+(i - nt)=i by omega]at e
   have:=(qk.mp e).1;exact⟨by omega,by omega,e⟩
 have pin:∀i,nt<=i->i < nt+n->mH[i]?=hJ[i]?:=λi h1 h2=>(s.pin i<|Dl.mpr ⟨h1,h2⟩).symm;have ll:(Internal.reset nt aD).length=nt+n:=by unfold Internal.reset;simp;omega
 refine⟨⟨by omega,λi u e=>?_,λi j u w ei ej ou ow es=>?_⟩,s.fr,λi u a e o es=>?_,λ_ _=>rfl,s.dm,s.kp⟩
 .have(h1,h2,e'):=bk i u e
  rw[pin i h1 h2];exact s.rs.rep i u e'
 .have(h1,h2,tG):=bk i u ei
  have(h3,h4,oz):=bk j w ej;rw[pin i h1 h2,pin j h3 h4]at es;exact s.rs.apart i j u w tG oz ou ow es
 .have(h1,h2,e'):=bk i u e
  rw[pin i h1 h2]at es;exact s.ow i u a e' o es
def DA:∀{js:Qa Nat} {us:Qa (Qb U)} {ρ:En} {j:Nat} {w:U},(back js us ρ)[j]?=ž (ž w)->(∃p:Nat,js[p]?=ž j/\us[p]?=ž (ž w))\/(ρ[j]?=ž (ž w)/\∀p:Nat,js[p]?=ž j->∀x,us[p]?≠ž (ž x))
 |[],us,ρ,j,w,e=>.inr ⟨by cases us<;>exact e,λp z=>by simp at z⟩
 |k::js,[],ρ,j,w,e=>.inr ⟨e,λp z x=>by simp⟩
 |k::js,Ž::us,ρ,j,w,e=>by
  rcases DA (js:=js) (us:=us) (ρ:=ρ) (show(back js us ρ)[j]?=ž (ž w) from e)with⟨p,h1,h2⟩|⟨h1,h2⟩
  .exact .inl ⟨p+1,h1,h2⟩
  .refine .inr ⟨h1,λp z x=>?_⟩
   cases p with
   |zero=>intro q;cases q
   |succ p=>exact h2 p z x
 |k::js,ž u::us,ρ,j,w,e=>by
  rcases DA (js:=js) (us:=us) (ρ:=ρ.set k (ž u)) (show(back js us<|ρ.set k<|some u)[j]?=ž (ž w) from e)with⟨p,h1,h2⟩|⟨h1,h2⟩
  .exact .inl ⟨p+1,h1,h2⟩
  .by_cases hk:k=j
   .subst hk
    have hl:k < (ρ.set k<|some u).length:=(qk.mp h1).1;rw[ī]at hl;rw[Ĭ hl]at h1;exact .inl ⟨0,rfl,by cases h1;rfl⟩
   .rw[qB hk]at h1
    refine .inr ⟨h1,λp z x=>?_⟩;cases p with
    |zero=>cases(show ž k=ž j from z);exact absurd rfl hk
    |succ p=>exact h2 p z x
def DD:∀(js:Qa Nat) (us:Qa (Qb U)) (ρ:En),(back js us ρ).length=ρ.length
 |[],us,ρ=>by cases us<;>rfl
 |_::js,[],ρ=>rfl
 |_::js,Ž::us,ρ=>DD js us ρ
 |j::js,ž u::us,ρ=>by show(back js us<|ρ.set j<|some u).length=_;rw[DD];exact ī
def DH:∀{js:Qa Nat} {us:Qa (Qb U)} {ρ:En} {j:Nat} {w:U},ρ[j]?=ž (ž w)->∃w',(back js us ρ)[j]?=ž (ž w')
 |[],us,ρ,j,w,e=>⟨w,by cases us<;>exact e⟩
 |_::js,[],ρ,j,w,e=>⟨w,e⟩
 |_::js,Ž::us,ρ,j,w,e=>DH (js:=js) (us:=us) e
 |k::js,ž u::us,ρ,j,w,e=>by
  by_cases hk:k=j
  .subst hk
   exact DH (js:=js) (us:=us) (w:=u)<|ù (qk.mp e).1
  .exact DH (js:=js) (us:=us) (w:=w) (by rw[qB hk];exact e)
def Sn.comp_back{aD:En}(r:Rs K ρ σ H)(s:Sn K (nG nt js.length) (c0 nt js σ) (vD ρ σ js) H aB aD (c0 nt js σ) H')(l:aD.length=nt+js.length)(sh:iB (jf nt js ρ) aD):
  Go K ρ σ H (back js (aD.drop nt) ρ) H':=by
 have Ak:∀(p:Nat) (w:U),(aD.drop nt)[p]?=ž (ž w)->aD[nt+p]?=ž (ž w):=λp w e=>by rw[a0g]at e;exact e
 have kp:Kp H H':=by
  refine⟨λb xs h=>s.fr b _ h λ⟨p,j,u,hj,hr,ou,es⟩=>?_,λb ob u h=>s.fr b _ h λ⟨p,j,u,hj,hr,ou,es⟩=>?_,λb x h=>s.fr b _ h λ⟨p,j,u,hj,hr,ou,es⟩=>?_⟩
  all_goals
   have(c,q,m):=r.ow ⟨j,u,hr,ou,es⟩;rw[h]at q;cases q;exact m
 have Jk:∀(p j:Nat) (w:U),js[p]?=ž j->(aD.drop nt)[p]?=ž (ž w)->w.own=ż->∃x,ρ[j]?=ž (ž x)/\x.own=ż:=λp j w hj e o=>by
  have(x,ex,ox):=sh.own (nt+p) w (Ak p w e) o;have(p',j',ep,kj,hr):=yy ex;have:p'=p:=by omega
  subst this;rw[hj]at kj;cases kj;exact⟨x,hr,ox⟩
 have own:∀(j:Nat) (w:U),(back js (aD.drop nt) ρ)[j]?=ž (ž w)->w.own=ż->∃x,ρ[j]?=ž (ž x)/\x.own=ż:=λj w e o=>by
  rcases DA e with⟨p,hj,hu⟩|⟨h1,_⟩
  .exact Jk p j w hj hu o
  .exact⟨w,h1,o⟩
 refine⟨⟨by rw[DD];exact r.len,λj w e=>?_,λi j u w ei ej ou ow es=>?_⟩,λa o h n=>s.fr a o h λ⟨p,j,u,hj,hr,ou,es⟩=>n ⟨j,u,hr,ou,es⟩,⟨DD _ _ _,own,λj w e=>DH e⟩,s.dm⟩
 .rcases DA e with⟨p,hj,hu⟩|⟨h1,h2⟩
  .have(v,ev,q):=s.rs.rep (nt+p) w (Ak p w hu)
   rw[LI hj]at ev;refine⟨v,?_,q⟩;rw[qA]at ev;cases z:σ[j]? with
   |none=>rw[z]at ev;cases ev
   |some o=>rw[z]at ev;exact congrArg ž<|qw ev
  .have(v,ev,q):=r.rep j w h1
   refine⟨v,ev,q.kp kp λow a c ea hc=>s.fr a c hc λ⟨p,j',u,hj,hr,ou,es⟩=>?_⟩;subst ea;have:j'=j:=r.apart j' j u w hr h1 ou ow (by rw[es,ev]);subst this;have e1:(jf nt js ρ)[nt+p]?=ž (ž u):=by
    unfold jf;rw[ę (by simp),Ħ,ŀ,ė,hj];show ž (ρ.getD j' Ž)=_;rw[qA,hr];rfl
   have(w',iK):=sh.live _ _ e1;exact h2 p hj w' (by rw[a0g];exact iK)
 .have(x,ex,ox):=own i u ei ou
  have(y,ey,oy):=own j w ej ow;exact r.apart i j x y ex ey ox oy es
def iB.uG{lC aw:En}(l:lC.length=nt+n)(h0:∀i,i < nt->lC[i]?=ž Ž)(l1:aw.length=nt+n)(own:∀(i:Nat) (u:U),nt<=i->aw[i]?=ž (ž u)->u.own=ż->∃w,lC[i]?=ž (ž w)/\w.own=ż)(live:∀(i:Nat) (u:U),nt<=i->lC[i]?=ž (ž u)->∃w,aw[i]?=ž (ž w)):iB lC (Internal.reset nt aw):=by
 have at':∀i,nt<=i->(Internal.reset nt aw)[i]?=aw[i]?:=λi hi=>by
  unfold Internal.reset;rw[ę (by simp;omega),Ħ,a0g,show nt+(i - nt)=i by omega]
 have lo:∀i,i < nt->(Internal.reset nt aw)[i]?=ž Ž:=λi hi=>by
  unfold Internal.reset;rw[Ĝ (by simpa using hi),Ō,a5L hi]
 refine⟨by unfold Internal.reset;simp;omega,λi u e o=>?_,λi u e=>?_⟩
 .by_cases hi:i < nt
  .rw[lo i hi]at e;cases e
  .rw[at' i (by omega)]at e
   exact own i u (by omega) e o
 .by_cases hi:i < nt
  .rw[h0 i hi]at e;cases e
  .rw[at' i (by omega)]
   exact live i u (by omega) e
def Pt{aw:En}(h:i < nt):(Internal.reset nt aw)[i]?=ž Ž:=by
 unfold Internal.reset;rw[Ĝ (by simpa using h),Ō,a5L h]
def Wq(h:i < nt):(jf nt js ρ)[i]?=ž Ž:=by
 unfold jf;rw[Ĝ (by simpa using h),Ō,a5L h]
def VIA(K:qc)(js:Qa Nat)(wi:TI)(mi:MI):Prop :=
 ∀(ρ:En) (σ:St) (H:Hp) (ds:Qa D) (ao:En) (R:It->Hp->Prop),Rs K ρ σ H->mi ρ=ž (ds,ao)->(∀J H',Go K ρ σ H ao H'->(∀H2,Kp H' H2->Bz (vD ao σ js) H' H2->∀i:Nat,(∀d,ds[i]?=ž d->J.go i H2/\∀x H3,J.Af i H2 x H3->eI H2 H3/\DF K H3 x d)/\(i=ds.length->J.stop i H2))->R J H')->wi σ H R
def zA9{wi:TI}{g:TG}{mi:MI}{mg:MG}{mt:MT}{me:ME}(hi:VIA K js wi mi)(hg:vp K (nG nt js.length) g mg)(ht:VT K tt mt)(he:VE K te me)(nd:js.Nodup:=by decide):
  VE K (Ao wi nt js g tt te) (nR mi nt js mg mt me):=by
 intro ρ σ H a ao Q r e q;obtain⟨⟨ds,aw⟩,e1,e⟩:=bQ e;obtain⟨⟨zs,Lc⟩,e2,e⟩:=bQ e;cases e;refine hi ρ σ H ds aw _ r e1 λJ H1 g1 run=>?_;have s1:=Zw (nt:=nt) (js:=js) g1.rs nd;refine⟨λi m ys H'=>m=ds.length - i/\i<=ds.length/\∃lC yd,Sn K (nG nt js.length) (c0 nt js σ) (vD aw σ js) H1 H1 lC (c0 nt js σ) H'/\iB (jf nt js aw) lC/\(∀k,k < nt->lC[k]?=ž Ž)/\aO K H' ys yd/\j0 nt mg mt me (ds.drop i) lC yd=ž (zs,Lc),
  ⟨ds.length,by simp,À _,_,[],s1,iB.refl _,λk hk=>Wq hk,.nil,e2⟩,?_⟩
 rintro i m ys H' ⟨rfl,kl,lC,yd,s',sh,lo,dy,el⟩;have lc:lC.length=nt+js.length:=by rw[sh.len,Oy]
 by_cases fj:i < ds.length
 .rw[Ţ fj]at el
  unfold j0 at el;split at el
  .rename_i hz
   have(aD,e3,el):=bQ el;obtain⟨⟨b,mM⟩,e4,el⟩:=bQ el;have(l2,p2):=hg.ok _ _ _ e3;have(go,yl):=(run H' s'.kp s'.fr i).1 ds[i] (ql fj);refine .inr ⟨go,by rw[dy.len];exact hz,λjP H2=>∃lB Eb,Sn K (nG nt js.length) (c0 nt js σ) (vD aw σ js) H1 H1 lB (c0 nt js σ) H2/\iB (jf nt js aw) lB/\(∀k,k < nt->lB[k]?=ž Ž)/\aO K H2 jP Eb/\j0 nt mg mt me (ds.drop<|i+1) lB Eb=ž (zs,Lc),
    λjP H2 ⟨lB,Eb,z⟩=>⟨ds.length - (i+1),by omega,rfl,fj,lB,Eb,z⟩,λx H2 y=>?_⟩
   have(sm,dx):=yl x H2 y;have s2:=s'.go (Go.grow s'.rs sm);refine hg.run _ _ _ _ lC _ H2 x ds[i] aD _ s2 dx e3 λgU s3=>?_;have toEnd:∀{gA:En} {H4:Hp},Go K aD gU H2 gA H4->Sn K (nG nt js.length) (c0 nt js σ) (vD aw σ js) H1 H1 (Internal.reset nt gA) (c0 nt js σ) H4/\iB (jf nt js aw) (Internal.reset nt gA):=λ{gA H4} g4=>by
    have l4:gA.length=nt+js.length:=by rw[g4.shr.len,l2,lc]
    refine⟨(s3.go g4).reset l4 MY,sh.trans<|iB.uG lc lo l4 (λk u hk ek ou=>?_) λk u hk ek=>?_⟩
    .have(w,ew,ow):=g4.shr.own k u ek ou
     have lk:k < nt+js.length:=by rw[<-l2.trans lc];exact(qk.mp ew).1
     rw[p2 k<|Dl.mpr ⟨hk,lk⟩]at ew;exact⟨w,ew,ow⟩
    .have lk:k < nt+js.length:=by rw[<-lc];exact(qk.mp ek).1
     rw[<-p2 k (Dl.mpr ⟨hk,lk⟩)]at ek;exact g4.shr.live k u ek
   refine ht aD gU H2 b mM _ s3.rs e4 λH3 g3=>?_;dsimp only at el;split at el
   .rename_i hb
    rw[a5L hb];obtain⟨⟨a4,gA⟩,e5,el⟩:=bQ el;have(u,e6,el):=bQ el;refine he mM gU H3 a4 gA _ g3.rs e5 λv H4 g4 k4=>?_;have pv:=k4.now g3.rs g4 e6;dsimp only at el;split at el
    .rename_i yv
     have(sn,sr):=toEnd (g3.trans g4);exact⟨_,_,sn,sr,λk hk=>Pt hk,((dy.kp sm.kp).kp<|(g3.trans g4).kp s3.rs).snoc pv,el⟩
    .cases el
   .rename_i hb
    rw[a5M hb];have(sn,sr):=toEnd g3;exact⟨_,_,sn,sr,λk hk=>Pt hk,(dy.kp sm.kp).kp<|g3.kp s3.rs,el⟩
  .cases el
 .have ei:i=ds.length:=by omega
  subst ei;rw[a5p]at el;cases el;refine .inl ⟨(run H' s'.kp s'.fr _).2 rfl,λDa hD=>?_⟩;have gb:=Sn.comp_back g1.rs s' lc sh;have sm:=iH hD (.lst ys);exact q _ _ ((g1.trans gb).trans<|Go.grow gb.rs sm) ⟨⟨Da,ys,rfl,zD,dy.kp sm.kp⟩,λ_=>⟨Da,rfl,(g1.trans gb).dm _ hD⟩⟩
def vC{wi:TI}{g:TG}{mi:MI}{mg:MG}{mt:MT}{me:ME}(hi:VI K wi mi)(hg:vp K (nG nt js.length) g mg)(ht:VT K tt mt)(he:VE K te me)(nd:js.Nodup:=by decide):
  VE K (Ao wi nt js g tt te) (nR mi nt js mg mt me):=zA9 (λρ σ H ds ao R r e q=>hi ρ σ H ds ao R r e λJ H' g run=>q J H' g λH2 k _=>run H2 k) hg ht he nd
end
section
variable{EX:cW}{A:Qg->Prop}{mE:Hp}{ρ ao:En}
def dY(pn:Qa Nat)(ρ:En):Nat->Qa U->Qb (Qa U)
 |_,[]=>ž []
 |i,u::us=>(if i∈pn then(ρ[i]?).join.bind λo=>if o.own=ż/\u.own=Ż then Ž else ž o else if u.own=ż then Ž else ž u).bind λo=>(dY pn ρ (i+1) us).bind λos=>ž<|o::os
def cY(n:Nat)(pn:Qa Nat)(m:MS):FD:=λus=>(m<|sm us++č (n - us.length) Ž).bind λf=>match f with
 |.rt u ρ=>(dY pn ρ 0 us).bind λos=>ž (u,os)
 |.nx ρ=>(dY pn ρ 0 us).bind λos=>ž (.d .none,os)
 |_=>Ž
def Pr:∀{us os:Qa U} {i:Nat},dY pn ρ i us=ž os->os.length=us.length
 |[],os,i,e=>by cases e;rfl
 |u::us,os,i,e=>by
  have(o,e1,e):=bQ e;have(sR,e2,e):=bQ e;cases e;simp[Pr e2]
def yN:∀{us os:Qa U} {i p:Nat} {o:U},dY pn ρ i us=ž os->os[p]?=ž o->∃u,us[p]?=ž u/\((i+p∈pn/\ρ[i+p]?=ž (ž o)/\(o.own=ż->u.own=ż))\/(i+p∉pn/\o=u/\u.own=Ż))
 |[],os,i,p,o,e,ep=>by cases e;simp at ep
 |u::us,os,i,p,o,e,ep=>by
  have(o1,e1,e):=bQ e;have(sR,e2,e):=bQ e;cases e;cases p with
  |zero=>
   cases(show ž o1=ž o from ep);refine⟨u,rfl,?_⟩;rw[Ϩ];split at e1
   .rename_i hi
    have(o2,e3,e1):=bQ e1;split at e1
    .cases e1
    .rename_i hc
     cases e1;refine .inl ⟨hi,?_,λoo=>?_⟩
     .cases q:ρ[i]? with
      |none=>rw[q]at e3;cases e3
      |some x=>rw[q]at e3;cases x with
       |none=>cases e3
       |some y=>cases e3;rfl
     .cases hu:u.own with
      |true=>rfl
      |false=>exact absurd ⟨oo,hu⟩ hc
   .rename_i hi
    split at e1
    .cases e1
    .rename_i hc
     cases e1;exact .inr ⟨hi,rfl,by simpa using hc⟩
  |succ p=>
   have(u',eu,h):=yN (i:=i+1) (p:=p) e2 ep;refine⟨u',eu,?_⟩;rw[show i+(p+1)=i+1+p by omega];exact h
def Pp:∀{us os:Qa U} {i p:Nat} {u:U},dY pn ρ i us=ž os->us[p]?=ž u->u.own=ż->i+p∈pn
 |[],os,i,p,u,e,ep,_=>by simp at ep
 |u::us,os,i,p,u',e,ep,o=>by
  have(o1,e1,e):=bQ e;have(sR,e2,e):=bQ e;cases p with
  |zero=>
   cases(show ž u=ž u' from ep);rw[Ϩ];split at e1
   .assumption
   .first|cases e1 | (rw[a5L o]at e1;cases e1)
  |succ p=>
   rw[show i+(p+1)=i+1+p by omega];exact Pp (i:=i+1) (p:=p) e2 ep o
def yQ(h:i < vs.length):(Ϲ N vs)[i]?=(eB vs)[i]?:=by
 unfold Ϲ eB;rw[Ĝ (by simpa using h)]
def H9{us os:Qa U}{UX:En}(r:Rs K (sm us) (eB vs) H)(hl:us.length<=N.length)(ho:dY pn UX 0 us=ž os):
  Sn K pn (Ϲ N vs) (Ow (sm us)<|eB vs) H H (sm us++č (N.length - us.length) Ž) (Ϲ N vs) H:=by
 have lv:us.length=vs.length:=by have:=r.len;unfold sm eB at this;simpa using this
 have inv:∀(i:Nat) (u:U),(sm us++č (N.length - us.length) Ž)[i]?=ž (ž u)->i < us.length/\(sm us)[i]?=ž (ž u):=λi u e=>by
  by_cases hi:i < us.length
  .rw[Ĝ (by unfold sm;simpa using hi)]at e
   exact⟨hi,e⟩
  .rw[ę (by unfold sm;simp;omega),Ō]at e
   split at e<;>cases e
 refine⟨⟨?_,λi u e=>?_,λi j u w ei ej ou ow es=>?_⟩,λ_ _ h _=>h,λi u a e o es=>?_,λ_ _=>rfl,λ_ h=>h,Kp.refl H⟩
 .unfold Ϲ sm;simp;omega
 .have(hi,e'):=inv i u e
  rw[yQ (by omega)];exact r.rep i u e'
 .have(hi,tG):=inv i u ei
  have(hj,oz):=inv j w ej;rw[yQ (by omega),yQ (by omega)]at es;exact r.apart i j u w tG oz ou ow es
 .have(hi,e'):=inv i u e
  rw[yQ (by omega)]at es;have:=Pp ho (ic.mp e') o;rw[Š]at this;exact .inl ⟨this,i,u,e',o,es⟩
def rS{us os:Qa U}{aG:St}(r:Rs K (sm us) (eB vs) H)(s:Sn K pn (Ϲ N vs) (Ow (sm us)<|eB vs) H H ao aG H')(ho:dY pn ao 0 us=ž os):Go K (sm us) (eB vs) H (sm os) H':=by
 have lv:us.length=vs.length:=by have:=r.len;unfold sm eB at this;simpa using this
 have lo:=Pr ho;have xw:∀{p:Nat} {o:U},os[p]?=ž o->p < vs.length:=λ{p o} e=>by have:=(qk.mp e).1;omega
 have pin:∀{p:Nat} {o:U},os[p]?=ž o->p∈pn->aG[p]?=(eB vs)[p]?:=λ{p o} e hp=>by rw[s.pin p hp,yQ<|xw e]
 refine⟨⟨by unfold sm eB;simp;omega,λp o e=>?_,λp q o o' ep eq oo Jl es=>?_⟩,s.fr,⟨by unfold sm;simp;omega,λp o e oo=>?_,λp u e=>?_⟩,s.dm⟩
 .have e':=ic.mp e
  have(u,eu,h):=yN ho e';rw[Š]at h;rcases h with⟨hp,hr,_⟩|⟨_,rfl,ou⟩
  .have(v,ev,q):=s.rs.rep p o hr
   rw[pin e' hp]at ev;exact⟨v,ev,q⟩
  .have(v,ev,q):=r.rep p o (ic.mpr eu)
   exact⟨v,ev,q.kp s.kp λoo=>by rw[ou]at oo;cases oo⟩
 .have gJ:=ic.mp ep
  have ER:=ic.mp eq;have(u,eu,h):=yN ho gJ;have(u',Ue,h'):=yN ho ER;rw[Š]at h h';rcases h with⟨hp,hr,_⟩|⟨_,rfl,ou⟩
  .rcases h' with⟨hq,EA,_⟩|⟨_,rfl,qN⟩
   .rw[<-pin gJ hp,<-pin ER hq]at es
    exact s.rs.apart p q o o' hr EA oo Jl es
   .rw[qN]at Jl;cases Jl
  .rw[ou]at oo;cases oo
 .have e':=ic.mp e
  have(u,eu,h):=yN ho e';rcases h with⟨_,_,h⟩|⟨_,rfl,ou⟩
  .exact⟨u,ic.mpr eu,h oo⟩
  .rw[ou]at oo;cases oo
 .have e':=ic.mp e
  have hp:p < os.length:=by have:=(qk.mp e').1;omega
  exact⟨os[p],ic.mpr<|ql hp⟩
def kF.okV{f:Qg}{k:Nat}{m:MS}(F:kF K x qual st f fd)(S:aX N ps (zI st))(tm:ps.length=n)(hN:N.length=nn)(kZ:n<=nn)
  (bh:∀(aQ:Qc) (A:Qf) (outer:Qa Env) (s:Qd) (H:Hp) (E:XK),aF k (A.deeper<|θ qual (zI st) s.heap.objs.size f aQ)->
   ∃t,Wr (dR (jr iM P w K mg base N qual (zI st) f aQ A outer s H E).uM (gN st) t)/\VS K pn Fd t m):bI P w K mg base iM (k+1) f fd ps (qK K n<|cY nn pn m):=by
 refine F.okW S (λvs H Q E h=>?_) λaQ A outer s H vs Q E hr h=>?_
 .have(us,r,outs,hl,rs,_):=h
  have:=rs.len;unfold sm eB at this;simp at this;omega
 have(us,r,outs,hl,rs,ef,q):=h;have(t,wt,vt):=bh aQ A outer s H E hr;refine⟨t,wt,?_⟩;have(fl,em,ef):=bQ ef;have go:∀(ao:En),dY pn ao 0 us=ž outs->Sn K pn (Ϲ N vs) (Ow (sm us)<|eB vs) H H (sm us++č (N.length - us.length) Ž) (Ϲ N vs) H:=λao ho=>H9 rs (by omega) ho;subst hN;cases fl with
 |nx ao=>
  have(os,eo,ef):=bQ (show(dY pn ao 0 us).bind _=_ from ef);cases ef;refine vt _ _ _ _ _ _ _ (.nx ao) _ (go ao eo) em λaG H' s'=>?_;exact q _ _ (rS rs s' eo) .aK Nw.data
 |rt u ao=>
  have(os,eo,ef):=bQ (show(dY pn ao 0 us).bind _=_ from ef);cases ef;refine vt _ _ _ _ _ _ _ (.rt r ao) _ (go ao eo) em λv aG H' s' p n'=>?_;exact q _ _ (rS rs s' eo) p n'
 |bk=>cases ef
 |ct=>cases ef
 |ex=>cases ef
end
section
variable{EX:cW}{ρ ao:En}
def cX(i:Nat)(me:ME):ME:=λρ=>match ρ[i]? with
 |some (ž<|.l _)=>(me ρ).bind λp=>(p.1.get p.2).bind λu=>match u,p.2[i]? with
  |.d x,ž (ž<|.l xs)=>if xs.length < Ď then ž (.u<|.d .none,p.2.set i<|some<|.l<|xs++[x])else Ž
  |_,_=>Ž
 |_=>Ž
def gB{me:ME}(h:VE K te me):VE K (Eg K "list" Of (nF i)<|oN te rB) (cX i me):=by
 intro ρ σ H a ao Q r e q;unfold cX at e;split at e
 .rename_i xs0 e0
  obtain⟨⟨b,aw⟩,e1,e⟩:=bQ e;have(u,eu,e):=bQ e;have(v0,jB,p0):=r.rep i _ e0;have(l,us0,rfl,J5,_):=p0;refine⟨_,jB,.inl ⟨rfl,us0,bZ.of J5⟩,?_⟩;refine h ρ σ H b aw _ r e1 λv H1 g1 k1=>?_;have pv:=k1.now r g1 eu;dsimp only at e;split at e
  .rename_i x xs ex
   split at e
   .rename_i hz
    cases e;have(w,ew,p1):=g1.rs.rep i _ ex;have(l',us,rfl,hl,ds):=p1;rw[jB]at ew;cases ew;refine⟨l,us,v,rfl,rfl,hl,by rw[ds.len];exact hz,q _ _ (g1.trans<|Go.own (u':=.l (xs++[x])) g1.rs ex rfl jB ?_) ⟨.aK,Nw.data⟩⟩;have kp:=nI hl trivial (.lst<|us++[v]);exact⟨l,_,rfl,zD,(ds.kp kp).snoc<|DF.kp kp pv⟩
   .cases e
  .cases e
 .cases e
def DG{o:Qb (Qb U)}{u:U}(e:o.join=ž u):o=ž (ž u):=by
 cases o with
 |none=>cases e
 |some x=>cases x with
  |none=>cases e
  |some y=>cases e;rfl
def rR(i:Nat)(me mi:ME):MS:=λρ=>(ρ[i]?).join.bind λ_=>(me ρ).bind λp=>(mi p.2).bind λq=>(p.1.get q.2).bind λu=>(q.1.get q.2).bind λw=>match u,w,q.2[i]? with
 |.d x,.d<|.int k,ž (ž<|.l xs)=>(eV xs.length k).bind λj=>ž<|.nx<|q.2.set i<|some<|.l<|xs.set j x
 |_,_,_=>Ž
def Dz{ti:TE}{me mi:ME}(h:VE K te me)(hi:VE K ti mi):VS K pn EX (oI te<|FI (nF i) ti L0) (rR i me mi):=by
 intro au A aA aB ρ σ H f D s e k;replace e:=bQ e;have(w0,e0,e):=e;replace e:=bQ e;obtain⟨⟨a,aw⟩,e1,e⟩:=e;replace e:=bQ e;obtain⟨⟨b,aD⟩,e2,e⟩:=e;replace e:=bQ e;have(u,eu,e):=e;replace e:=bQ e;have(w,ew,e):=e;have(v0,jB,_):=s.rs.rep i w0 (DG e0);refine h ρ σ H a aw _ s.rs e1 λv H1 g1 k1=>⟨v0,jB,?_⟩;refine hi aw σ H1 b aD _ g1.rs e2 λy H2 g2 k2=>?_;have pv:=k1.later s.rs g1 g2 eu;have py:=k2.now g1.rs g2 ew;dsimp only at e;split at e
 .rename_i x n xs ex
  replace e:=bQ e;have(j,ej,e):=e;cases e;have(w',iK,p1):=g2.rs.rep i _ ex;have(l,us,rfl,hl,ds):=p1;rw[jB]at iK;cases iK;refine⟨l,us,n,j,rfl,DF.int_inv py,hl,by rw[ds.len];exact ej,k _ _<|(s.go<|g1.trans g2).go<|Go.own (u':=.l (xs.set j x)) g2.rs ex rfl jB ?_⟩;have kp:=nI hl trivial (.lst<|us.set j v);exact⟨l,_,rfl,zD,(ds.kp kp).set (DF.kp kp pv) j⟩
 .cases e
noncomputable def pT:Qa D->Qb (Qa Key)
 |[]=>ž []
 |.int i::ds=>(pT ds).bind λks=>ž<|.inl i::ks
 |.str x::ds=>(pT ds).bind λks=>ž<|.inr x::ks
 |_::_=>Ž
def d6:D->Qb (Qa Key)
 |.tuple ds=>pT ds
 |_=>Ž
def tX:D->Qb Key
 |.int i=>ž<|.inl i
 |.str x=>ž<|.inr x
 |_=>Ž
def HD:∀ks:Qa Key,pT (ks.map AK)=ž ks
 |[]=>rfl
 |.inl i::ks=>by show(pT<|ks.map AK).bind _=_;rw[HD ks];rfl
 |.inr x::ks=>by show(pT<|ks.map AK).bind _=_;rw[HD ks];rfl
def DC(ks:Qa Key):d6 (i7 ks)=ž ks:=HD ks
def He:∀{ds:Qa D} {ks:Qa Key} {xs:Qa V},aO K H xs ds->pT ds=ž ks->xs=ks.map kV
 |[],ks,xs,h,e=>by cases e;cases h;rfl
 |d::ds,ks,xs,h,e=>by
  cases h with
  |cons h1 t=>
   cases d with
   |int i=>
    have(nW,e1,e):=bQ (show(pT ds).bind (λks=>ž<|Δ i::ks)=ž ks from e);cases e;rw[He t e1,DF.int_inv h1];rfl
   |str x=>
    have(nW,e1,e):=bQ (show(pT ds).bind (λks=>ž<|a0W x::ks)=ž ks from e);cases e;rw[He t e1,DF.str_inv h1];rfl
   |_=>cases e
def yM{d:D}{ks:Qa Key}(h:DF K H v d)(e:d6 d=ž ks):∃b,v=.ref b/\bg K H b (ks.map kV):=by
 cases d with
 |tuple ds=>
  have(b,xs,rfl,h1,h2):=DF.aI h;exact⟨b,rfl,by rw[<-He h2 e];exact h1⟩
 |_=>cases e
def MW{d:D}{k:Key}(h:DF K H v d)(e:tX d=ž k):v=kV k:=by
 cases d with
 |int i=>cases e;exact DF.int_inv h
 |str x=>cases e;exact DF.str_inv h
 |_=>cases e
def HC:∀{ks:Qa Key},aO K H (ks.map kV)<|ks.map AK
 |[]=>.nil
 |.inl i::ks=>.cons (.int i) HC
 |.inr x::ks=>.cons (.str x) HC
section
variable{κ:Type}[DecidableEq κ]
noncomputable def tW(kvs:Qa (κ×D))(k:κ):Qb D:=(kvs.find? λkv=>decide<|kv.1=k).map (·.2)
noncomputable def mP(kvs:Qa (κ×D))(k:κ)(d:D):Qa (κ×D):=if(kvs.any λkv=>decide<|kv.1=k)=ż then kvs.map (λkv=>if kv.1=k then(kv.1,d)else kv)else kvs++[(k,d)]
def fq.val{ws:Qa (κ×V)}{kvs:Qa (κ×D)}(h:fq K H ws kvs)(k:κ):(∃v d,jq ws k=ž v/\tW kvs k=ž d/\DF K H v d)\/(jq ws k=Ž/\tW kvs k=Ž):=by
 induction h with
 |nil=>exact .inr ⟨rfl,rfl⟩
 | @cons p q ps qs hq t ih=>
  unfold jq tW at ih ⊢;rw[ħ,ħ]
  by_cases hk:p.1=k
  .have kf:q.1=k:=hq.1▸hk
   rw[a5N hk,a5N kf];exact .inl ⟨_,_,rfl,rfl,hq.2⟩
  .have kf:¬q.1=k:=λz=>hk<|hq.1.trans z
   rw[a5O hk,a5O kf];exact ih
def fq.any{ws:Qa (κ×V)}{kvs:Qa (κ×D)}(h:fq K H ws kvs)(k:κ):(ws.any λkv=>decide<|kv.1=k)=(kvs.any λkv=>decide<|kv.1=k):=by
 induction h with
 |nil=>rfl
 | @cons p q ps qs hq t ih=>rw[ŭ,ŭ,ih,hq.1]
def fq.nP{ws:Qa (κ×V)}{kvs:Qa (κ×D)}(h:fq K H ws kvs)(k:κ){d:D}(hd:DF K H v d):fq K H (ws.map λkv=>if kv.1=k then(kv.1,v)else kv) (kvs.map λkv=>if kv.1=k then(kv.1,d)else kv):=by
 induction h with
 |nil=>exact .nil
 | @cons p q ps qs hq t ih=>
  refine .cons ?_ ih;dsimp only
  by_cases hk:p.1=k
  .have kf:q.1=k:=hq.1▸hk
   rw[a5L hk,a5L kf];exact⟨hq.1,hd⟩
  .have kf:¬q.1=k:=λz=>hk<|hq.1.trans z
   rw[a5M hk,a5M kf];exact hq
def fq.put{ws:Qa (κ×V)}{kvs:Qa (κ×D)}(h:fq K H ws kvs)(k:κ){d:D}(hd:DF K H v d):fq K H (jo ws k v) (mP kvs k d):=by
 unfold jo mP;rw[h.any k];split
 .exact h.nP k hd
 .exact a3E h ⟨rfl,hd⟩
def fq.len{ws:Qa (κ×V)}{kvs:Qa (κ×D)}(h:fq K H ws kvs):ws.length=kvs.length:=a0p h
end
def vO(kvs:Qa (D×D))(k:Qa Key):Qb D:=(kvs.find? λkv=>decide<|d6 kv.1=ž k).map (·.2)
def jE.val{kvs:Qa (D×D)}(h:jE K H ws kvs)(k:Qa Key):(∃v d,jq ws k=ž v/\vO kvs k=ž d/\DF K H v d)\/(jq ws k=Ž/\vO kvs k=Ž):=by
 induction ws generalizing kvs with
 |nil=>cases h;exact .inr ⟨rfl,rfl⟩
 |cons p ws ih=>
  cases h with
  | @cons k' v d _ ds hv t=>
   unfold jq vO at ih ⊢;rw[ħ,ħ]
   by_cases hk:k'=k
   .have kf:d6 (i7 k')=ž k:=by rw[DC,hk]
    rw[a5N hk,a5N kf];exact .inl ⟨_,_,rfl,rfl,hv⟩
   .have kf:¬d6 (i7 k')=ž k:=by rw[DC];exact λz=>hk<|qw z
    rw[a5O hk,a5O kf];exact ih t
def oE(u y:U):Qb (Qb D):=match u,y with
 |.t kvs,.d y=>(d6 y).map λk=>tW kvs k
 |.k kvs,.d y=>(tX y).map λk=>tW kvs k
 |.d (.dict kvs),.d y=>if l7 kvs=ż then(d6 y).map λk=>vO kvs k else Ž
 |_,_=>Ž
def Ox{u y:U}{o:Qb D}{x:V}(hu:Rp K H x u)(hy:Rp K H v y)(e:oE u y=ž o):∃a,x=.ref a/\((∃w d,o=ž d/\tO K H a v (ž w)/\DF K H w d)\/(o=Ž/\tO K H a v Ž)):=by
 unfold oE at e;split at e
 .rename_i kvs y
  have(k,ek,rfl):=qq.mp e;have(a,ws,rfl,h1,h2):=hu;have(b,rfl,hb):=yM hy ek;refine⟨a,rfl,?_⟩;rcases h2.val k with⟨w,d,e1,e2,p⟩|⟨e1,e2⟩
  .exact .inl ⟨w,d,e2,.inr ⟨ws,k,b,.inl h1,rfl,hb,e1.symm⟩,p⟩
  .exact .inr ⟨e2,.inr ⟨ws,k,b,.inl h1,rfl,hb,e1.symm⟩⟩
 .rename_i kvs y
  have(k,ek,rfl):=qq.mp e;have(a,ws,rfl,h1,h2):=hu;cases MW hy ek;refine⟨a,rfl,?_⟩;rcases h2.val k with⟨w,d,e1,e2,p⟩|⟨e1,e2⟩
  .exact .inl ⟨w,d,e2,.inl ⟨ws,k,.inl h1,rfl,e1.symm⟩,p⟩
  .exact .inr ⟨e2,.inl ⟨ws,k,.inl h1,rfl,e1.symm⟩⟩
 .rename_i kvs y
  split at e
  rotate_left
  .cases e
  rename_i nx;have(k,ek,rfl):=qq.mp e;have(a,ob,ws,rfl,h1,h2):=DF.cV hu nx;have(b,rfl,hb):=yM hy ek;refine⟨a,rfl,?_⟩;rcases h2.val k with⟨w,d,e1,e2,p⟩|⟨e1,e2⟩
  .exact .inl ⟨w,d,e2,.inr ⟨ws,k,b,.inr ⟨ob,h1⟩,rfl,hb,e1.symm⟩,p⟩
  .exact .inr ⟨e2,.inr ⟨ws,k,b,.inr ⟨ob,h1⟩,rfl,hb,e1.symm⟩⟩
 .cases e
def lJ(md my:ME):ME:=λρ=>(md ρ).bind λp=>(my p.2).bind λq=>(p.1.get q.2).bind λu=>(q.1.get q.2).bind λy=>(oE u y).bind λo=>o.bind λd=>ž (.u<|.d d,q.2)
def rQ{md my:ME}(hd:VE K td md)(hy:VE K ty my):VE K (GH K td ty) (lJ md my):=by
 intro ρ σ H a ao Q r e q;obtain⟨⟨a1,aw⟩,e1,e⟩:=bQ e;obtain⟨⟨b1,aD⟩,e2,e⟩:=bQ e;have(u,eu,e):=bQ e;have(y,ey,e):=bQ e;have(o,eo,e):=bQ e;have(d,ed,e):=bQ e;cases e;refine hd ρ σ H a1 aw _ r e1 λv1 H1 g1 k1=>hy aw σ H1 b1 _ _ g1.rs e2 λv2 H2 g2 k2=>?_;have(b,rfl,h):=Ox (k1.later r g1 g2 eu) (k2.now g1.rs g2 ey) eo;rcases h with⟨w,d',rfl,g,p⟩|⟨rfl,_⟩
 .cases ed
  exact⟨b,w,rfl,g,q w H2 (g1.trans g2) ⟨p,Nw.data⟩⟩
 .cases ed
noncomputable def mZ:ME:=λρ=>ž (.u<|.t [],ρ)
def ui:VE K CD mZ:=by
 intro ρ σ H a ao Q r e q;cases e;intro p hp;have sm:=iH hp (.dT []);exact q _ _ (Go.grow r sm) ⟨⟨p,[],rfl,zD,.nil⟩,λ_=>⟨p,rfl,hp⟩⟩
def p6(i:Nat)(my mv:ME):MS:=λρ=>(ρ[i]?).join.bind λ_=>(mv ρ).bind λp=>(my p.2).bind λq=>(p.1.get q.2).bind λx=>(q.1.get q.2).bind λy=>match x,y,q.2[i]? with
 |.d x,.d y,ž (ž<|.t kvs)=>(d6 y).bind λk=>if kvs.length < Ď then ž (.nx<|q.2.set i<|some<|.t<|mP kvs k x)else Ž
 |.d x,.d y,ž (ž<|.k kvs)=>(tX y).bind λk=>if kvs.length < Ď then ž (.nx<|q.2.set i<|some<|.k<|mP kvs k x)else Ž
 |_,_,_=>Ž
def CP{my mv:ME}(hy:VE K ty my)(hv:VE K tv mv):VS K pn EX (GG K (nF i) ty tv) (p6 i my mv):=by
 intro au A aA aB ρ σ H f D s e k;replace e:=bQ e;have(w0,e0,e):=e;replace e:=bQ e;obtain⟨⟨a,aw⟩,e1,e⟩:=e;replace e:=bQ e;obtain⟨⟨b,aD⟩,e2,e⟩:=e;replace e:=bQ e;have(u,eu,e):=e;replace e:=bQ e;have(w,ew,e):=e;have(v0,jB,_):=s.rs.rep i w0 (DG e0);refine hv ρ σ H a aw _ s.rs e1 λv H1 g1 k1=>⟨v0,jB,?_⟩;refine hy aw σ H1 b aD _ g1.rs e2 λy H2 g2 k2=>?_;have pv:=k1.later s.rs g1 g2 eu;have py:=k2.now g1.rs g2 ew;dsimp only at e;split at e
 .rename_i x yd kvs ex
  replace e:=bQ e;have(ks,ek,e):=e;split at e
  .rename_i hz
   cases e;have(w',iK,p1):=g2.rs.rep i _ ex;have(l,us,rfl,hl,ds):=p1;rw[jB]at iK;cases iK;have(kb,rfl,J9):=yM py ek;refine⟨l,_,rfl,rE.t hl J9 (by rw[ds.len];exact hz),k _ _<|(s.go<|g1.trans g2).go<|Go.own (u':=.t (mP kvs ks x)) g2.rs ex rfl jB ?_⟩;have kp:=nI hl trivial (.dT<|jo us ks v);exact⟨l,_,rfl,zD,(ds.kp kp).put ks<|DF.kp kp pv⟩
  .cases e
 .rename_i x yd kvs ex
  replace e:=bQ e;have(ks,ek,e):=e;split at e
  .rename_i hz
   cases e;have(w',iK,p1):=g2.rs.rep i _ ex;have(l,us,rfl,hl,ds):=p1;rw[jB]at iK;cases iK;cases MW py ek;refine⟨l,_,rfl,rE.k hl (by rw[ds.len];exact hz),k _ _<|(s.go<|g1.trans g2).go<|Go.own (u':=.k (mP kvs ks x)) g2.rs ex rfl jB ?_⟩;have kp:=nI hl trivial (.dK<|jo us ks v);exact⟨l,_,rfl,zD,(ds.kp kp).put ks<|DF.kp kp pv⟩
  .cases e
 .cases e
def rN:U->Qb (Qa D)
 |.d (.dict kvs)=>if l7 kvs=ż then ž (kvs.map (·.1))else Ž
 |_=>Ž
def zrn{kvs:Qa (D×D)}(h:jE K H ws kvs):kvs.map (·.1)=ws.map λp=>i7 p.1 :=
 h.ind (P:=λws kvs=>kvs.map (·.1)=ws.map λp=>i7 p.1) rfl λ_ _ t=>by rw[Ē,Ē,t]
def yL{me:ME}(h:VE K te me):VI K (Ni K te) (i5 rN me):=by
 intro ρ σ H ds ao R r e q;obtain⟨⟨a,aw⟩,e1,e⟩:=bQ e;have(u,eu,e):=bQ e;have(xs,ex,e):=bQ e;cases e;refine h ρ σ H a _ _ r e1 λv H1 g1 k1=>?_;have p:=k1.now r g1 eu;unfold rN at ex;split at ex
 .split at ex
  rotate_left
  .cases ex
  rename_i nx;cases ex;have(b,o,ws,rfl,h1,h2):=DF.cV p nx;refine⟨b,ws,rfl,.inr ⟨o,h1,q _ _ g1 λH2 k i=>?_⟩⟩;rw[zrn h2];have m9:=k.bj _ _ _ h1;refine⟨λd ed=>?_,λei=>?_⟩
  .rw[ė]at ed
   obtain⟨⟨ks,w⟩,ew,rfl⟩:=qq.mp ed;refine⟨⟨m9,(qk.mp ew).1⟩,λx H' y=>?_⟩;have(rfl,y):=y;have(kb,rfl,J9):=y ks w ew;exact⟨λ_ _ z=>z,.tup J9 HC⟩
  .rw[ċ]at ei
   exact⟨m9,í ei.symm⟩
 .cases ex
end
section
variable{ρ ao:En}
abbrev MO:=En->Qb (Qb Int×En)
def B1(K:qc)(t:TO)(m:MO):Prop :=
 ∀(ρ:En) (σ:St) (H:Hp) (o:Qb Int) (ao:En) (Q:Qb Int->Hp->Prop),Rs K ρ σ H->m ρ=ž (o,ao)->(∀H',Go K ρ σ H ao H'->Q o H')->t σ H Q
noncomputable def sA:MO:=λρ=>ž (Ž,ρ)
def rM(me:ME):MO:=λρ=>(me ρ).bind λp=>(p.1.get p.2).bind λu=>match u with |.d (.int i)=>ž (ž i,p.2) |_=>Ž
def yK:B1 K Hu sA:=λρ σ H o ao Q r e q=>by cases e;exact q H<|Go.refl r
def yJ{me:ME}(h:VE K te me):B1 K (GK te) (rM me):=by
 intro ρ σ H o ao Q r e q;replace e:=bQ e;obtain⟨⟨a,aw⟩,e1,e⟩:=e;replace e:=bQ e;have(u,eu,e):=e;refine h ρ σ H a aw _ r e1 λv H1 g1 k1=>?_;have p:=k1.now r g1 eu;dsimp only at e;split at e
 .rename_i i
  cases e;exact⟨i,DF.int_inv p,q _ g1⟩
 .cases e
def jG(xs:Qa D)(lo hi:Qb Int):Qa D:=(xs.drop<|HT.aY xs.length 0 lo).take (HT.aY xs.length xs.length hi - HT.aY xs.length 0 lo)
def aO.cut{xs:Qa V}{ds:Qa D}(h:aO K H xs ds)(lo hi:Qb Int):aO K H (mR xs lo hi) (jG ds lo hi):=by
 unfold mR jG;rw[h.len];exact(h.drop _).take _
def KW(K:qc)(r:V->Qb Int->Qb Int->Hp->VK->Prop)(f:U->Qb Int->Qb Int->Qb U):Prop :=
 ∀(x:V) (a u:U) (lo hi:Qb Int) (H:Hp) (Q:VK),Rp K H x a->f a lo hi=ž u->(∀v H',eI H H'->Rp K H' v u->Nw H v u->Q v H')->r x lo hi H Q
def sW(f:U->Qb Int->Qb Int->Qb U)(me:ME)(ml mh:MO):ME:=λρ=>(me ρ).bind λp=>(ml p.2).bind λl=>(mh l.2).bind λh=>(p.1.get h.2).bind λx=>(f x l.1 h.1).bind λu=>ž (.u u,h.2)
def xP{r:V->Qb Int->Qb Int->Hp->VK->Prop}{f:U->Qb Int->Qb Int->Qb U}{tl th:TO}{me:ME}{ml mh:MO}(hs:KW K r f)(he:VE K te me)(hl:B1 K tl ml)(hh:B1 K th mh):VE K (IW r te tl th) (sW f me ml mh):=by
 intro ρ σ H a ao Q rs e q;obtain⟨⟨a1,aw⟩,e1,e⟩:=bQ e;obtain⟨⟨lo,aD⟩,e2,e⟩:=bQ e;obtain⟨⟨hi,mM⟩,e3,e⟩:=bQ e;have(x,ex,e):=bQ e;have(u,eu,e):=bQ e;cases e;refine he ρ σ H a1 aw _ rs e1 λv1 H1 g1 k1=>hl aw σ H1 lo aD _ g1.rs e2 λH2 g2=>hh aD σ H2 hi _ _ g2.rs e3 λH3 g3=>?_;refine hs _ x u lo hi H3 _ (k1.later rs g1 (g2.trans g3) ex) eu λv H4 s p n=>?_;have g:=g1.trans (g2.trans g3);exact q v H4 (g.trans<|Go.grow g.rs s) ⟨p,n.mono g.dm⟩
def vB(u:U)(lo hi:Qb Int):Qb U:=match u with
 |.l xs=>ž<|.l<|jG xs lo hi
 |.d (.list xs)=>ž<|.l<|jG xs lo hi
 |_=>Ž
def HB:KW K (F2 K) vB:=by
 intro x a u lo hi H Q p e q;unfold vB at e;split at e
 .cases e
  have(b,us,rfl,h1,h2):=p;refine⟨b,us,rfl,bZ.of h1,λl hl=>?_⟩;have sm:=iH hl (.lst<|mR us lo hi);exact q _ _ sm ⟨l,_,rfl,zD,(h2.cut lo hi).kp sm.kp⟩ λ_=>⟨l,rfl,hl⟩
 .cases e
  have(b,us,rfl,h1,h2):=DF.lst_inv p;refine⟨b,us,rfl,h1.sq,λl hl=>?_⟩;have sm:=iH hl (.lst<|mR us lo hi);exact q _ _ sm ⟨l,_,rfl,zD,(h2.cut lo hi).kp sm.kp⟩ λ_=>⟨l,rfl,hl⟩
 .cases e
def So(K:qc):V->Qb Int->Qb Int->Hp->VK->Prop:=λx lo hi H Q=>∃a xs,x=.ref a/\bg K H a xs/\∀p H',eI H H'->bg K H' p (mR xs lo hi)->Q (.ref p) H'
def Sm{X:Cx}:xB X (So X.K):=by
 intro pins s σ H x v vl vu lo hi sl Q I rx hs pl pu h;have(a,xs,rfl,kU,q):=h;have hx:bT X.K H a xs:=kU.sq
 by_cases hw:HT.aY xs.length 0 lo=0/\HT.aY xs.length xs.length hi=xs.length
 .cases rx
  have(aq,r,ht,hz):=I.tuple hx;have hlen:aq.toArray.size=xs.length:=by rw[ē];exact r.length.symm
  refine⟨"tuple",_,PyProof.Rows.slot_tuple_getitem.lookup,ht.typeIs,?_⟩;refine HT.eE ht hs pl pu (by rw[hlen];exact hw) ⟨.ref a,H,I,rfl,q a H (eI.refl _) ?_⟩;unfold mR;rw[hw.1,hw.2];simpa using kU
 .exact Wm pins s σ H _ v vl vu lo hi sl Q I rx hs pl pu ⟨a,xs,rfl,hx,hw,λp hp=>q p _ (iH hp _)<|.inl zD⟩
def xO(u:U)(lo hi:Qb Int):Qb U:=match u with
 |.d (.tuple xs)=>ž<|.d<|.tuple<|jG xs lo hi
 |_=>Ž
def MV:KW K (So K) xO:=by
 intro x a u lo hi H Q p e q;unfold xO at e;split at e
 .cases e
  have(b,us,rfl,h1,h2):=DF.aI p;exact⟨b,us,rfl,h1,λl H' sm hl=>q _ _ sm (.tup hl<|(h2.cut lo hi).kp sm.kp) Nw.data⟩
 .cases e
def x9:U->U->Qb U
 |.d (.tuple xs),.d (.tuple ys)=>if xs≠[]/\xs.length+ys.length<=Ď then ž (.d<|.tuple<|xs++ys)else Ž
 |_,_=>Ž
def Yl:VO K (GJ K) x9:=by
 intro x y a b u H Q ha hb e q;unfold x9 at e;split at e
 .split at e
  .rename_i xs ys hc
   cases e;have(p,us,rfl,h1,h2):=DF.aI ha;have(p',nN,rfl,m9,iz):=DF.aI hb;refine⟨p,p',us,nN,rfl,rfl,(bg.sq h1),(bg.sq m9),?_,by rw[h2.len,iz.len];exact hc.2,λz=>?_,λ_ r hr=>?_⟩
   .rintro rfl
    cases h2;exact hc.1 rfl
   .subst z
    cases iz;exact q _ _ (λ_ _ z=>z) (by rw[ŕ];exact .tup h1 h2) Nw.data
   .have s:=iH hr (.tup<|us++nN)
    exact q _ _ s (.tup (.inl zD)<|(h2.app iz).kp s.kp) Nw.data
  .cases e
 .cases e
noncomputable def zBc:Qa Int->Int->Int
 |[],d=>d
 |n::ns,_=>ns.foldl (λa b=>if a < b then b else a) n
def zDb:Qa U->Qa U->Qb U
 |[u],[.d<|.int d]=>u.items.bind λxs=>(Gr xs).map λns=>.d<|.int<|zBc ns d
 |_,_=>Ž
def QU{r:α->α->Prop}(as:∀a b,r a b->¬r b a):∀{L M:Qa α},L.Perm M->L.Pairwise r->M.Pairwise r->L=M
 |[],M,p,_,_=>(List.nil_perm.mp p).symm▸rfl
 |a::L,[],p,_,_=>by have:=p.length_eq;simp at this
 |a::L,b::M,p,h1,h2=>by
  have(a1,a2):=Ü.mp h1;have(b1,b2):=Ü.mp h2;have e:a=b:=by
   rcases qu.mp (p.mem_iff.mp<|qo (a:=a) (l:=L))with z|z
   .exact z
   .rcases qu.mp (p.mem_iff.mpr<|qo (a:=b) (l:=M))with y|y
    .exact y.symm
    .exact absurd (b1 a z) (as a b<|a1 b y)
  subst e;rw[QU as p.cons_inv a2 b2]
def pk:D->Qb (Qa Int)
 |.tuple [.tuple ks,_]=>Gr ks
 |_=>Ž
def U.lst:U->Qb (Qa D)
 |.l xs=>ž xs
 |.d (.list xs)=>ž xs
 |_=>Ž
def Rp.lst{u:U}{xs:Qa D}(h:Rp K H v u)(e:u.lst=ž xs):∃p ys,v=.ref p/\bZ K H p ys/\aO K H ys xs:=by
 cases u with
 |d x=>
  cases x with
  |list ds=>cases e;have(a,ys,rfl,h1,h2):=DF.lst_inv h;exact⟨a,ys,rfl,h1.sq,h2⟩
  |_=>cases e
 |l ds=>cases e;have(a,ys,rfl,h1,h2):=h;exact⟨a,ys,rfl,bZ.of h1,h2⟩
 |t=>cases e
 |k=>cases e
 |o=>cases e
end
section
variable{ρ ao:En}
def zBd(ma:MA):ME:=λρ=>(ma ρ).bind λp=>(bW p.2 p.1).bind λus=>match us with
 |[.d<|.int j]=>if(-(2^62)<=j/\j < 2^62)/\j.toNat<=Ď then ž (.u<|.l<|jy 0 j.toNat,p.2)else Ž
 |_=>Ž
noncomputable def tV:MT:=λρ=>ž (ż,ρ)
def CO:VT K FY tV:=λρ σ H b ao Q r e q=>by cases e;exact q H<|Go.refl r
noncomputable def sV:D->Qb V
 |.none=>ž .aK
 |.bool b=>ž<|.bl b
 |.int i=>ž<|.int i
 |.str x=>ž<|.str x
 |_=>Ž
def BM{x:D}{w:V}(h:DF K H v x)(e:sV x=ž w):v=w:=by
 cases h<;>cases e<;>rfl
def aV(neg:Bool):U->U->Qb U
 |.d x,.d y=>(sV x).bind λv=>(sV y).bind λw=>if FA v w=ż then ž (.d<|.bool (if neg=ż then !decide (v=w)else decide (v=w)))else Ž
 |_,_=>Ž
def cD:VO K S2 (aV Ż):=by
 intro x y a b u H Q ha hb e q;unfold aV at e;split at e
 .have(v,ev,e):=bQ e
  have(w,ew,e):=bQ e;split at e
  .rename_i hs
   cases e;cases BM ha ev;cases BM hb ew;exact⟨hs,q _ _ (λ_ _ z=>z) (.bl _) Nw.data⟩
  .cases e
 .cases e
def qD:VO K S1 (aV ż):=by
 intro x y a b u H Q ha hb e q;unfold aV at e;split at e
 .have(v,ev,e):=bQ e
  have(w,ew,e):=bQ e;split at e
  .rename_i hs
   cases e;cases BM ha ev;cases BM hb ew;exact⟨hs,q _ _ (λ_ _ z=>z) (.bl _) Nw.data⟩
  .cases e
 .cases e
def rL:U->Bool
 |.d .none=>ż
 |_=>Ż
def mO(neg:Bool):U->U->Qb U
 |a,.d .none=>ž<|.d<|.bool (if neg=ż then !rL a else rL a)
 |_,_=>Ž
def Ov{a:U}(h:Rp K H v a):decide (v=.aK)=rL a:=by
 cases a with
 |d x=>cases(show DF K H v x from h)<;>simp[rL]
 |l=>have(_,_,rfl,_):=h;simp[rL]
 |t=>have(_,_,rfl,_):=h;simp[rL]
 |k=>have(_,_,rfl,_):=h;simp[rL]
 |o=>have(_,_,_,_,_,rfl,_):=h;simp[rL]
def Wp:VO K (λx y H Q=>y=.aK/\Q (.bl<|decide<|x=.aK) H) (mO Ż):=by
 intro x y a b u H Q ha hb e q;unfold mO at e;split at e
 .cases e
  refine⟨by cases hb;rfl,?_⟩;rw[Ov ha];exact q _ _ (λ_ _ z=>z) (.bl _) Nw.data
 .cases e
def Ou:VO K (λx y H Q=>y=.aK/\Q (.bl (!decide (x=.aK))) H) (mO ż):=by
 intro x y a b u H Q ha hb e q;unfold mO at e;split at e
 .cases e
  refine⟨by cases hb;rfl,?_⟩;rw[Ov ha];exact q _ _ (λ_ _ z=>z) (.bl _) Nw.data
 .cases e
def Wn{F:FD}{E:XK}(hO:BY H)(hS:bZ K H a (ns.map V.int))(h:∃outs,F [.d<|.list<|ns.map .int]=ž (.d<|.bool ż,outs)):qK K 1 F [.ref a] H (λv _=>v=.bl ż) E:=by
 have(outs,ho):=h;have pl:PL K H a (ns.map V.int):=by
  rcases hS with (h|⟨o,h⟩) |h
  .rcases hO a with z|⟨o,xs,z⟩
   .rw[z]at h;cases h
   .rw[z]at h;cases h
  .exact .inl ⟨o,h⟩
  .exact .inr h
 have dd:aO K H (ns.map V.int) (ns.map Ģ):=by
  clear ho hS pl
  induction ns with
  |nil=>exact .nil
  |cons n ns ih=>exact .cons (.int n) ih
 refine⟨[.d<|.list<|ns.map .int],.d<|.bool ż,outs,rfl,⟨rfl,λi u e=>?_,λi j u w ei ej ou ow es=>?_⟩,ho,λv H' g p n=>DF.bS p⟩
 .have e':=ic.mp e
  cases i with
  |zero=>cases e';exact⟨.ref a,rfl,DF.lst pl dd⟩
  |succ i=>simp at e'
 .have e':=ic.mp ei
  cases i with
  |zero=>cases e';cases ou
  |succ i=>simp at e'
end
section
variable{ρ:En}{me ma mb mk mi md my mv:ME}{mA mK:MA}{mt mu:MT}{m1 m2:MS}{u:U}{x:D}{f:U->U->Qb U}
def bd{a:α}{f:α->Qb β}:(ž a).bind f=f a:=rfl
def Xc{u:U}:Ar.get ρ (.u u)=ž u:=rfl
def zrr:Ar.get ρ (.s i)=(ρ[i]?).join:=rfl
def znP{u:U}:(ž<|some u).join=ž u:=rfl
def Vj:zf i ρ=(ρ[i]?).join.bind λ_=>ž (.s i,ρ):=by
 unfold zf;cases ρ[i]? with
 |none=>rfl
 |some o=>cases o<;>rfl
def zCW:mC x ρ=ž (.u<|.d x,ρ):=rfl
def zBe:af f ma mb ρ=(ma ρ).bind λp=>(mb p.2).bind λq=>(p.1.get q.2).bind λx=>(q.1.get q.2).bind λy=>(f x y).bind λu=>ž (.u u,q.2):=rfl
def zBf{f:U->Qb U}:cI f ma ρ=(ma ρ).bind λp=>(p.1.get p.2).bind λx=>(f x).bind λu=>ž (.u u,p.2):=rfl
def Vi:zn ρ=ž ([],ρ):=rfl
def Yk:zb me mA ρ=(me ρ).bind λp=>(mA p.2).bind λq=>ž (p.1::q.1,q.2):=rfl
def zkY:bW ρ []=ž []:=rfl
def QH{a:Ar}{as:Qa Ar}:bW ρ (a::as)=(a.get ρ).bind λu=>(bW ρ as).bind λus=>ž (u::us):=rfl
def ziY:iS []=ž []:=rfl
def zhH{us:Qa U}:iS (.d x::us)=(iS us).bind λxs=>ž (x::xs):=rfl
def Vh:aR mA ρ=(mA ρ).bind λp=>(bW p.2 p.1).bind λus=>(iS us).bind λds=>if ds.length<=Ď then ž (.u<|.d<|.tuple ds,p.2)else Ž:=rfl
def Vg:dW mA ρ=(mA ρ).bind λp=>(bW p.2 p.1).bind λus=>(iS us).bind λds=>if ds.length<=Ď then ž (.u<|.l ds,p.2)else Ž:=rfl
def zBg{f:Qa U->Qb U}:bf f mA ρ=(mA ρ).bind λp=>(bW p.2 p.1).bind λus=>(f us).bind λu=>ž (.u u,p.2):=rfl
def Vf{f:FD}:zK f mA ρ=(mA ρ).bind λp=>if gL p.2 p.1=ż then(bW p.2 p.1).bind λus=>(f us).bind λo=>ž (.u o.1,wb p.2 p.1 o.2)else Ž:=rfl
def zkZ:gL ρ []=ż:=rfl
def zrs{as:Qa Ar}:gL ρ (.u u::as)=gL ρ as:=rfl
def Ve{as:Qa Ar}:gL ρ (.s j::as)=((match ρ[j]? with|some (ž u)=>!u.own || !(as.any λa=>match a with |.s k=>decide (k=j) |_=>Ż) |_=>ż) && gL ρ as):=rfl
def zBh{as:Qa Ar}{o:U}{os:Qa U}:wb ρ (.s j::as) (o::os)=wb (ρ.set j<|some o) as os:=rfl
def zBi{as:Qa Ar}{o:U}{os:Qa U}:wb ρ (.u u::as) (o::os)=wb ρ as os:=rfl
def zrt:wb ρ [] []=ρ:=rfl
noncomputable def mN(m2:MS):Fl->Qb Fl
 |.nx ao=>m2 ao
 |f=>ž f
def bind_fn{o:Qb α}{f g:α->Qb β}(h:∀a,f a=g a):o.bind f=o.bind g:=by cases o with|none=>rfl|some a=>exact h a
def Vd:zz m1 m2 ρ=(m1 ρ).bind (mN m2):=bind_fn λf=>by cases f<;>rfl
def znQ:mN m2 (.nx ρ)=m2 ρ:=rfl
def znR:mN m2 (.ex x ρ)=ž (.ex x ρ):=rfl
def znS:mN m2 (.rt u ρ)=ž (.rt u ρ):=rfl
def znT:mN m2 (.ct ρ)=ž (.ct ρ):=rfl
noncomputable def U.dat:U->Qb U
 |.d x=>ž<|.d x
 |_=>Ž
def XU:U.dat (.d x)=ž (.d x):=rfl
def XS:put (.s i,ρ)=(ρ[i]?).join.bind λu=>u.dat.bind λd=>ž (d,ρ):=by
 unfold put;dsimp only;cases ρ[i]? with
 |none=>rfl
 |some o=>
  cases o with
  |none=>rfl
  |some u=>cases u<;>rfl
def XR:put (.u u,ρ)=ž (u,ρ):=rfl
def MU:zR i me ρ=(me ρ).bind λp=>(put p).bind λq=>ž (.nx<|q.2.set i<|some q.1):=rfl
def Vc:aW me ρ=(me ρ).bind λp=>(put p).bind λq=>ž (.rt q.1 q.2):=rfl
def Yj:oK pn i ρ=if i∈pn then Ž else(ρ[i]?).join.bind λu=>ž (.rt u<|ρ.set i Ž):=by
 unfold oK;split
 .rfl
 .cases ρ[i]? with
  |none=>rfl
  |some o=>cases o<;>rfl
def Yi:zS ρ=ž (.nx ρ):=rfl
def Yh:du me ρ=(me ρ).bind λp=>ž (.nx p.2):=rfl
def Vb:aT mt m1 m2 ρ=(mt ρ).bind λp=>if p.1=ż then m1 p.2 else m2 p.2:=rfl
def zBj:AG mt ma mb ρ=(mt ρ).bind λp=>if p.1=ż then ma p.2 else mb p.2:=rfl
def U.nu:U->Qb Bool
 |.d (.bool b)=>ž b
 |_=>Ž
def XQ{b:Bool}:U.nu (.d<|.bool b)=ž b:=rfl
def zCX:mB me ρ=(me ρ).bind λp=>(p.1.get p.2).bind λu=>u.nu.bind λb=>ž (b,p.2):=by
 unfold mB;congr 1
 funext p
 congr 1
 funext u
 cases u with
 |d x=>cases x<;>rfl
 |l=>rfl
 |t=>rfl
 |k=>rfl
 |o=>rfl
def Va:jn mt mu ρ=(mt ρ).bind λp=>if p.1=ż then mu p.2 else ž (Ż,p.2):=rfl
def zBk:eQ mt mu ρ=(mt ρ).bind λp=>if p.1=ż then ž (ż,p.2)else mu p.2:=rfl
def U9:hV mt ρ=(mt ρ).bind λp=>ž (!p.1,p.2):=rfl
def Yg:t7 ma mb ρ=(mB ma ρ).bind λp=>if p.1=ż then mb p.2 else ž (.u<|.d<|.bool Ż,p.2):=rfl
def Yf:yc ma ρ=(mB ma ρ).bind λp=>ž (.u<|.d<|.bool (!p.1),p.2):=rfl
def U8:B4 ma ρ=(ma ρ).bind λp=>(p.1.get p.2).bind λu=>u.wQ.bind λb=>ž (b,p.2):=rfl
def U7:tV ρ=ž (ż,ρ):=rfl
noncomputable def U.lo:U->Qb (Qa D)
 |.l xs=>ž xs
 |_=>Ž
def zBl{xs:Qa D}:U.lo (.l xs)=ž xs:=rfl
def U.da:U->Qb D
 |.d x=>ž x
 |_=>Ž
def zBm:U.da (.d x)=ž x:=rfl
def U.num:U->Qb Int
 |.d (.int i)=>ž i
 |_=>Ž
def XJ{n:Int}:U.num (.d<|.int n)=ž n:=rfl
def U6:cX i me ρ=(ρ[i]?).join.bind λw=>w.lo.bind λ_=>(me ρ).bind λp=>(p.1.get p.2).bind λu=>u.da.bind λx=>(p.2[i]?).join.bind λw=>w.lo.bind λxs=>if xs.length < Ď then ž (.u<|.d .none,p.2.set i<|some<|.l<|xs++[x])else Ž:=by
 unfold cX;cases ρ[i]? with
 |none=>rfl
 |some o=>
  cases o with
  |none=>rfl
  |some w=>
   cases w with
   |l xs0=>
    show((me ρ).bind _)=((me ρ).bind _);congr 1
    funext p
    congr 1
    funext u
    cases u with
    |d x=>
     show(match U.d x,p.2[i]? with |.d x,ž (ž<|.l xs)=>_|_,_=>Ž)=((p.2[i]?).join.bind _);cases p.2[i]? with
     |none=>rfl
     |some o=>
      cases o with
      |none=>rfl
      |some w=>cases w<;>rfl
    |l=>rfl
    |t=>rfl
    |k=>rfl
    |o=>rfl
   |d=>rfl
   |t=>rfl
   |k=>rfl
   |o=>rfl
def zrv:rR i me mi ρ=(ρ[i]?).join.bind λ_=>(me ρ).bind λp=>(mi p.2).bind λq=>(p.1.get q.2).bind λu=>(q.1.get q.2).bind λw=>u.da.bind λx=>w.num.bind λk=>(q.2[i]?).join.bind λz=>z.lo.bind λxs=>(eV xs.length k).bind λj=>ž (.nx<|q.2.set i<|some<|.l<|xs.set j x):=by
 unfold rR;congr 1;funext _;congr 1;funext p;congr 1;funext q;congr 1;funext u;congr 1;funext w;cases u with
 |d x=>
  cases w with
  |d y=>
   cases y with
   |int k=>
    show(match U.d x,U.d<|.int k,q.2[i]? with |.d x,.d<|.int k,ž (ž<|.l xs)=>_|_,_,_=>Ž)=((q.2[i]?).join.bind _);cases q.2[i]? with
    |none=>rfl
    |some o=>
     cases o with
     |none=>rfl
     |some w=>cases w<;>rfl
   |_=>rfl
  |l=>rfl
  |t=>rfl
  |k=>rfl
  |o=>rfl
 |l=>rfl
 |t=>rfl
 |k=>rfl
 |o=>rfl
def Ye:lJ md my ρ=(md ρ).bind λp=>(my p.2).bind λq=>(p.1.get q.2).bind λu=>(q.1.get q.2).bind λy=>(oE u y).bind λo=>o.bind λd=>ž (.u<|.d d,q.2):=rfl
def zrw:mZ ρ=ž (.u<|.t [],ρ):=rfl
noncomputable def Eu(x:D):Ar×En->En
 | (.s i,ρ)=>ρ.set i<|some<|.d x
 | (.u _,ρ)=>ρ
def zBn:bX me ρ=(me ρ).bind λp=>(p.1.get p.2).bind λu=>u.fz.bind λx=>ž (.u<|.d x,Eu x p):=by
 unfold bX;congr 1;funext p;congr 1;funext u;congr 1;funext x;have(a,aw):=p;cases a<;>rfl
def XH:Eu x (.s i,ρ)=ρ.set i (ž<|.d x):=rfl
def XG:Eu x (.u u,ρ)=ρ:=rfl
def zBo{xs:Qa D}:U.fz (.l xs)=ž (.list xs):=rfl
def zBp{kvs:Qa (Qa Key×D)}:U.fz (.t kvs)=ž (.dict<|kvs.map λp=>(i7 p.1,p.2)):=rfl
def zBq{g:U->Qb (Qa D)}:i5 g me ρ=(me ρ).bind λp=>(p.1.get p.2).bind λu=>(g u).bind λds=>ž (ds,p.2):=rfl
def zrx{xs:Qa D}:xQ (.d<|.list xs)=ž xs:=rfl
def zry{xs:Qa D}:rC (.d<|.tuple xs)=ž xs:=rfl
def znU{kvs:Qa (D×D)}:rN (.d<|.dict kvs)=if l7 kvs=ż then ž (kvs.map (·.1))else Ž:=rfl
def BL:Qa U->Qb (Qa D)
 |[.d<|.int j]=>if -(2^62)<=j/\j < 2^62 then ž (jy 0 j.toNat)else Ž
 |_=>Ž
def U5{n:Int}:BL [.d<|.int n]=if -(2^62)<=n/\n < 2^62 then ž (jy 0 n.toNat)else Ž:=rfl
def Yd:mT mA ρ=(mA ρ).bind λp=>(bW p.2 p.1).bind λus=>(BL us).bind λds=>ž (ds,p.2):=bind_fn λp=>bind_fn λus=>match us with
 |[]=>rfl
 |[.d<|.int j]=>by
  show(if _ then _ else _)=(if _ then _ else _:Qb (Qa D)).bind _;split<;>rfl
 |[.d .none]=>rfl
 |[.d<|.bool _]=>rfl
 |[.d<|.str _]=>rfl
 |[.d<|.list _]=>rfl
 |[.d<|.tuple _]=>rfl
 |[.d<|.dict _]=>rfl
 |[.l _]=>rfl
 |[.t _]=>rfl
 |[.k _]=>rfl
 |[.o _ _]=>rfl
 |.d x::b::us=>by cases x<;>rfl
 |.l x::b::us=>rfl
 |.t x::b::us=>rfl
 |.k x::b::us=>rfl
 |.o x y::b::us=>rfl
def U4{mI:MI}{mg:MG}:hU mI mg m1 ρ=(mI ρ).bind λp=>iR mg m1 p.1 p.2:=rfl
def zBr{mI:MI}{mg:MG}:nR mI nt js mg mt me ρ=(mI ρ).bind λp=>(j0 nt mg mt me p.1 (jf nt js p.2) []).bind λq=>ž (.u<|.l q.1,back js (q.2.drop nt) p.2):=rfl
def zBs{f:U->Qb Int->Qb Int->Qb U}{ml mh:MO}:sW f me ml mh ρ=(me ρ).bind λp=>(ml p.2).bind λl=>(mh l.2).bind λh=>(p.1.get h.2).bind λx=>(f x l.1 h.1).bind λu=>ž (.u u,h.2):=rfl
def zp0:sA ρ=ž (Ž,ρ):=rfl
def Yc:rM me ρ=(me ρ).bind λp=>(p.1.get p.2).bind λu=>u.num.bind λi=>ž (ž i,p.2):=bind_fn λp=>bind_fn λu=>by
 cases u with
 |d x=>cases x<;>rfl
 |l=>rfl
 |t=>rfl
 |k=>rfl
 |o=>rfl
def Fk:Qa U->Qb (D×D)
 |[.d x,.d y]=>ž (x,y)
 |_=>Ž
def zrz{y:D}:Fk [.d x,.d y]=ž (x,y):=rfl
def U3:B2 i j mA ρ=(mA ρ).bind λp=>(bW p.2 p.1).bind λus=>(Fk us).bind λz=>ž (.nx<|(p.2.set i<|some<|.d z.1).set j<|some<|.d z.2):=by
 refine bind_fn λp=>bind_fn λus=>?_
 match us with
 |[]=>rfl
 |[a]=>cases a<;>rfl
 |[.d x,.d y]=>rfl
 |[.d x,.l y]=>rfl
 |[.d x,.t y]=>rfl
 |[.d x,.k y]=>rfl
 |[.d x,.o _ _]=>rfl
 |[.l x,b]=>rfl
 |[.t x,b]=>rfl
 |[.k x,b]=>rfl
 |[.o _ _,b]=>rfl
 |a::b::c::us=>cases a<;>(try rfl)<;>(cases b<;>rfl)
def U2{mg:MG}:gX me mg ρ=(me ρ).bind λp=>(p.1.get p.2).bind λu=>u.da.bind λd=>(mg d p.2).bind λao=>ž (.nx ao):=by
 unfold gX;congr 1;funext p;congr 1;funext u;cases u<;>rfl
def zrA:zF i x ρ=ž (ρ.set i<|some<|.d x):=rfl
def Yb{gs:Qa D->En->Qb En}{ds:Qa D}:fG n gs (.tuple ds) ρ=if ds.length=n then gs ds ρ else Ž:=rfl
def zrB{g:MG}{gs:Qa D->En->Qb En}{ds:Qa D}:zW g gs (x::ds) ρ=(g x ρ).bind λaw=>gs ds aw:=rfl
def Ya:gC [] ρ=ž ρ:=rfl
def vN{c:Int->Int->Prop}{g:Int->Int->D}{a:Int}(h:c a b):pJ c g (.d<|.int a) (.d<|.int b)=ž (.d<|g a b):=by
 unfold pJ;dsimp only;rw[a5L h]
def XF{a:Int}:cB (.d<|.int a) (.d<|.int b)=ž (.d<|.int<|a+b):=rfl
def XE{a:Int}:lG (.d<|.int a) (.d<|.int b)=ž (.d<|.int<|a - b):=rfl
def L7{a:Int}(h:vA a b):kI (.d<|.int a) (.d<|.int b)=ž (.d<|.int<|a * b):=vN h
def zBt{a:Int}(h:0 < b):lF (.d<|.int a) (.d<|.int b)=ž (.d<|.int<|a % b):=vN (c:=λ_ j=>0 < j) h
def U1{a:Int}(h:yg a b):yf (.d<|.int a) (.d<|.int b)=ž (.d<|.int<|a / b):=vN h
def CN{a:Int}(h:vT a b):Cs (.d<|.int a) (.d<|.int b)=ž (.d<|.int<|a.fdiv b):=vN h
def zBu{a:Int}(h:B0 a b):B6 (.d<|.int a) (.d<|.int b)=ž (.d<|.int<|a^b.toNat):=vN h
def zBv{a:Int}:mf (.d<|.int a) (.d<|.int b)=ž (.d<|.bool<|decide<|a < b):=rfl
def zBw{a:Int}:tE (.d<|.int a) (.d<|.int b)=ž (.d<|.bool<|decide<|a<=b):=rfl
def zBx{a:Int}:k9 (.d<|.int a) (.d<|.int b)=ž (.d<|.bool<|decide<|b < a):=rfl
def zBy{a:Int}:KG (.d<|.int a) (.d<|.int b)=ž (.d<|.bool<|decide<|b<=a):=rfl
def XB{a:Int}:iF (.d<|.int a)=ž (.d<|.int (-a)):=rfl
def XA{a:Int}:xR (.d<|.int a)=ž (.d<|.int (if a < 0 then -a else a)):=rfl
def zrC{b:Bool}:mU (.d<|.bool b)=ž (.d<|.int (if b then 1 else 0)):=rfl
def zrD{a:Int}:ye [.d<|.int a,.d<|.int b]=ž (.d<|.int (if b > a then b else a)):=rfl
def zBz{f:U->Qb U}:f1 f [u]=f u:=rfl
def Xz{xs:Qa D}:cF (.l xs)=ž (.d<|.int xs.length):=rfl
def Xy{xs:Qa D}:cF (.d<|.tuple xs)=ž (.d<|.int xs.length):=rfl
def Xx{xs:Qa D}:cF (.d<|.list xs)=ž (.d<|.int xs.length):=rfl
def znV{xs:Qa D}:rW (.l xs)=ž (.d<|.tuple xs):=rfl
def Xw{xs:Qa D}{k:Int}:bz (.l xs) (.d<|.int k)=(bA xs k).map .d:=rfl
def Xv{xs:Qa D}{k:Int}:bz (.d<|.list xs) (.d<|.int k)=(bA xs k).map .d:=rfl
def Xu{xs:Qa D}{k:Int}:zJ (.d<|.tuple xs) (.d<|.int k)=(bA xs k).map .d:=rfl
def Xt{xs:Qa D}{lo hi:Qb Int}:vB (.l xs) lo hi=ž (.l<|jG xs lo hi):=rfl
def Xs{a:Int}:aV Ż (.d<|.int a) (.d<|.int b)=ž (.d<|.bool<|decide<|a=b):=by
 show ž (U.d<|.bool<|decide<|V.int a=V.int b)=_;congr 3;exact decide_eq_decide.mpr ⟨λh=>by cases h;rfl,λh=>by rw[h]⟩
def Xr{a:Int}:aV ż (.d<|.int a) (.d<|.int b)=ž (.d<|.bool (!decide (a=b))):=by
 show ž (U.d<|.bool (!decide (V.int a=V.int b)))=_;congr 4;exact decide_eq_decide.mpr ⟨λh=>by cases h;rfl,λh=>by rw[h]⟩
def Xq{a b:Str}:aV Ż (.d<|.str a) (.d<|.str b)=ž (.d<|.bool<|decide<|a=b):=by
 show ž (U.d<|.bool<|decide<|V.str a=V.str b)=_;congr 3;exact decide_eq_decide.mpr ⟨λh=>by cases h;rfl,λh=>by rw[h]⟩
def BK(pn:Qa Nat)(us:Qa U):Fl->Qb (U×Qa U)
 |.rt u ρ=>(dY pn ρ 0 us).bind λos=>ž (u,os)
 |.nx ρ=>(dY pn ρ 0 us).bind λos=>ž (.d .none,os)
 |_=>Ž
def U0{us:Qa U}:cY n pn m1 us=(m1<|sm us++č (n - us.length) Ž).bind (BK pn us):=by
 exact bind_fn λf=>by cases f<;>rfl
def znW{us:Qa U}:BK pn us (.rt u ρ)=(dY pn ρ 0 us).bind λos=>ž (u,os):=rfl
def zk0:dY pn ρ n []=ž []:=rfl
def zi0{us:Qa U}:dY pn ρ n (u::us)=(if n∈pn then(ρ[n]?).join.bind λo=>if o.own=ż/\u.own=Ż then Ž else ž o else if u.own=ż then Ž else ž u).bind λo=>(dY pn ρ (n+1) us).bind λos=>ž (o::os):=rfl
def Xp:U.own (.d x)=Ż:=rfl
def Xo{xs:Qa D}:U.own (.l xs)=ż:=rfl
def zrE:sm []=[]:=rfl
def znX{us:Qa U}:sm (u::us)=ž u::sm us:=rfl
def zBA{a:α}{xs:Qa α}:bA (a::xs) 0=ž a:=by
 unfold bA eV;rw[a5L (by decide),a5L (by simp only[qt];omega)];rfl
def zBB{a b:α}{xs:Qa α}:bA (a::b::xs) 1=ž b:=by
 unfold bA eV;rw[a5L (by decide),a5L (by simp only[qt];omega)];rfl
def zBC{a b c:α}{xs:Qa α}:bA (a::b::c::xs) 2=ž c:=by
 unfold bA eV;rw[a5L (by decide),a5L (by simp only[qt];omega)];rfl
def zBD:eV (n+1) 0=ž 0:=by
 unfold eV;rw[a5L (by decide),a5L (by omega)];rfl
def zBE:eV (n+1+1) 1=ž 1:=by
 unfold eV;rw[a5L (by decide),a5L (by omega)];rfl
def zBF{a:Int}(h:b.natAbs < 18446744073709551616):kI (.d<|.int a) (.d<|.int b)=ž (.d<|.int<|a * b):=L7 (.inr ⟨by omega,by omega⟩)
def zBG{a:Int}(h:a.natAbs < 18446744073709551616):kI (.d<|.int a) (.d<|.int b)=ž (.d<|.int<|a * b):=L7 (.inl ⟨by omega,by omega⟩)
def zBH{a:Int}(h:0 < b):lF (.d<|.int a) (.d<|.int b)=ž (.d<|.int<|a % b):=zBt h
def zBI{a:Int}(h:0 < b)(h2:b<=340282366920938463463374607431768211456):yf (.d<|.int a) (.d<|.int b)=ž (.d<|.int<|a / b):=U1 (Zh h (by omega))
def zBJ{a:Int}(h:0<=b)(h2:b<=1000000)(h3:a.natAbs < 18446744073709551616):B6 (.d<|.int a) (.d<|.int b)=ž (.d<|.int<|a^b.toNat):=zBu ⟨h,h2,by omega⟩
def zl:Ď=16777216:=rfl
def znY:reset nt ρ=č nt Ž++ρ.drop nt:=rfl
def Xn:jf nt js ρ=č nt Ž++js.map λj=>ρ.getD j Ž:=rfl
noncomputable def sS(j:Nat):Qa Ar->Bool
 |[]=>ż
 |.u _::as=>sS j as
 |.s k::as=>!decide (k=j) && sS j as
def Hc:∀{as:Qa Ar},sS j as=!(as.any λa=>match a with |.s k=>decide (k=j) |_=>Ż)
 |[]=>rfl
 |.u _::as=>by rw[ŭ];exact Hc (as:=as)
 |.s k::as=>by
  unfold sS;rw[ŭ,Hc (as:=as),Bool.not_or]
def Bk:Qb U->Bool
 |some u=>!u.own
 |none=>ż
def Xm:Bk (ž<|.d x)=ż:=rfl
def znZ:sS j []=ż:=rfl
def X3{as:Qa Ar}:sS j (.u u::as)=sS j as:=rfl
def zn0{as:Qa Ar}:gL ρ (.s j::as)=((sS j as || Bk (ρ[j]?).join) && gL ρ as):=by
 rw[Ve,Hc];congr 1;cases ρ[j]? with
 |none=>simp[Bk]
 |some o=>
  cases o with
  |none=>simp[Bk]
  |some u=>simp[Bk,Bool.or_comm]
def zrF{us:Qa (Qb U)}:back (j::js) (ž u::us) ρ=back js us (ρ.set j<|some u):=rfl
def zrG{us:Qa (Qb U)}:back [] us ρ=ρ:=by cases us<;>rfl
def zrH(ks:Qa Int):i7 (ks.map Δ)=.tuple (ks.map Ģ):=by
 unfold i7;rw[ĳ];rfl
end
structure XT (K:qc) (tab:Qa (Str×Qa Str)) (fl:Qa Str):Prop where
 cl:∀n ups C,tab.lookup n=ž ups->XN K n C->XI K C/\∀f∈fl,nJ K C f
 is:∀n ups C,tab.lookup n=ž ups->XN K n C->∀c C',(tab.lookup c).isSome=ż->XN K c C'->Ŧ K (.ref C) (.ref C')=ž (decide (c=n) || ups.contains c)
 qP:∀n ups C,tab.lookup n=ž ups->XN K n C->Ŧ K (.ref C) (.type "ValueError")=ž (ups.contains ("ValueError":Str))
noncomputable def BJ(f:Str):Qa (D×D)->Qb D
 | (.str g,d)::ds=>if f=g then ž d else BJ f ds
 |_=>Ž
section
variable{fl:Qa Str}{n:Str}
def jF.get:∀{fs:Qa (Str×V)} {ds:Qa (D×D)} {d:D},jF K H fs ds->BJ f ds=ž d->∃v,fs.lookup f=ž v/\DF K H v d
 |_,_,_,.nil,e=>by cases e
 |_,_,d,.cons (k:=k) (v:=v) (vs:=vs) h t,e=>by
  unfold BJ at e;rw[Ņ];split at e
  .rename_i q
   cases e;exact⟨v,by rw[show(f==k)=ż from beq_iff_eq.mpr q],h⟩
  .rename_i q
   have(w,e1,e2):=jF.get t e;exact⟨w,by rw[show(f==k)=Ż from beq_eq_false_iff_ne.mpr q];exact e1,e2⟩
def DF.q0{ds:Qa (D×D)}(h:DF K H v (.dict<|(.none,.str n)::ds)):∃a C fs,v=.ref a/\XV H a C fs/\XN K n C/\jF K H fs ds:=by
 generalize eq:(a2e<|(.none,.str n)::ds)=z at h;cases h with
 |jC h t=>
  cases eq;generalize eq2:((PyData.none,ł n)::ds)=y at t;cases t with
  |nil=>cases eq2
  |cons=>cases eq2
 |exc h e t=>cases eq;exact⟨_,_,_,rfl,h,e,t⟩
 |obj h e t=>cases eq
 |_=>cases eq
def L9(K:qc)(f:Str):V->Hp->VK->Prop:=λx H Q=>∃a C fs v,x=.ref a/\XV H a C fs/\XC K C/\nJ K C f/\fs.lookup f=ž v/\Q v H
def Ct(tab:Qa (Str×Qa Str))(f:Str):U->Qb U
 |.d (.dict<|(.none,.str n)::ds)=>if(tab.lookup n).isSome=ż then(BJ f ds).map .d else Ž
 |_=>Ž
def X9(T:XT K tab fl)(hf:f∈fl):VU K (L9 K f) (Ct tab f):=by
 intro x a u H Q h e q;unfold Ct at e;split at e
 .rename_i n ds
  split at e
  .rename_i hn
   have(ups,hu):=ò.mp hn;have(d,ed,rfl):=qq.mp e;have(a,C,fs,rfl,xv,xn,t):=DF.q0 h;have(v,ev,hv):=t.get ed;have(c1,c2):=T.cl n ups C hu xn;exact⟨a,C,fs,v,rfl,xv,c1.cl,c2 f hf,ev,q v H (eI.refl H) hv Nw.data⟩
  .cases e
 .cases e
end
section
variable{fl:Qa Str}{n:Str}
def Eh(K:qc)(f:Str):Sp:=λvs H Q _=>∃a C p v,vs=[.ref a,v]/\H a=ž (tN a C p)/\XC K C/\nJ K C f/\
 ∀dx ox od,H dx=Ž->dx≠a->ox.cls=.ref C->ox.dict=ž dx->a2u ox=ż->ox={mQ C p with dict:=ž dx}->Q .aK (upd (upd H dx<|.bj od<|.xd [(f,v)]) a<|.bj ox<|.own 0)
def OO{Q:VK}{E:XK}(h:Eh K f vs H Q E):vs.length=2:=by
 have(a,C,p,v,rfl,_):=h;rfl
def ON{Q:VK}{E:XK}(h:Eh K f vs H Q E):LP K (nF 0) (nF 1) f {nx:=λ_ H'=>Q .aK H',rt:=Q} (Ϲ N vs) H:=by
 have(a,C,p,v,rfl,h1,h2,h3,h4):=h;refine⟨v,rfl,.ref a,rfl,a,C,p,rfl,h1,h2,h3,h4⟩
def UZ(n f:Str)(ma:MA):ME:=λρ=>(ma ρ).bind λp=>(bW p.2 p.1).bind λus=>(iS us).bind λds=>match ds with
 |[x]=>ž (.u<|.d<|.dict [(.none,.str n),(.str f,x)],p.2)
 |_=>Ž
end
section
noncomputable def p4:U->U->Qb U
 |.d (.str i),.d (.str j)=>if i.length+j.length<=Ď then ž (.d<|.str<|i++j)else Ž
 |_,_=>Ž
def Dy:VO K (λx y H Q=>∃i j,x=.str i/\y=.str j/\i.length+j.length<=Ď/\Q (.str<|i++j) H) p4:=by
 intro x y a b u H Q ha hb e q;unfold p4 at e;split at e
 .split at e
  .rename_i i j hc
   cases e;exact⟨i,j,DF.str_inv ha,DF.str_inv hb,hc,q _ _ (eI.refl H) (DF.str _) Nw.data⟩
  .cases e
 .cases e
def tU:U->U->Qb U
 |.d (.str z),.d (.int i)=>if z.length<=Ď then(bA z.cps.toList i).map λc=>.d (.str ⟨#[c]⟩)else Ž
 |_,_=>Ž
def Hb:VO K SG tU:=by
 intro x y a b u H Q ha hb e q;unfold tU at e;split at e
 .split at e
  .rename_i z i hc
   have(c,ec,rfl):=qq.mp e;exact⟨z,i,c,DF.str_inv ha,DF.int_inv hb,hc,ec,q _ _ (eI.refl H) (DF.str _) Nw.data⟩
  .cases e
 .cases e
def Ep(ty:U->Bool)(f:U->U->Qb U)(mo ma:ME):ME:=λρ=>(mo ρ).bind λp=>(p.1.get p.2).bind λx0=>if ty x0=ż then(ma p.2).bind λq=>(p.1.get q.2).bind λx=>(q.1.get q.2).bind λy=>(f x y).bind λu=>ž (.u u,q.2)else Ž
def Sq{r:V->Qa V->Hp->VK->Prop}{ty:U->Bool}{f:U->U->Qb U}{to:TE}{mo ma:ME}(ht:∀(x:V) (a:U) (H:Hp),Rp K H x a->ty a=ż->Al K T x H)(h:VO K (λx y H Q=>r x [y] H Q) f)
  (ho:VE K to mo) (ha:VE K ta ma):VE K (Eg K T r to<|oN ta rB) (Ep ty f mo ma):=by
 intro ρ σ H a ao Q rs e q;obtain⟨⟨a1,aw⟩,e1,e⟩:=bQ e;have(x0,ex0,e):=bQ e;split at e
 rotate_left
 .cases e
 rename_i qQ;obtain⟨⟨b1,aD⟩,e2,e⟩:=bQ e;have(x,ex,e):=bQ e;have(y,ey,e):=bQ e;have(u,eu,e):=bQ e;cases e;refine ho ρ σ H a1 aw _ rs e1 λv1 H1 g1 k1=>⟨ht _ _ _ (k1.now rs g1 ex0) qQ,ha aw σ H1 b1 aD _ g1.rs e2 λv2 H2 g2 k2=>?_⟩;refine h _ _ x y u H2 _ (k1.later rs g1 g2 ex) (k2.now g1.rs g2 ey) eu λv H3 s p n=>?_;exact q v H3 ((g1.trans g2).trans<|Go.grow g2.rs s) ⟨p,n.mono (g1.trans g2).dm⟩
noncomputable def tyL:U->Bool
 |.l _=>ż
 |.d (.list _)=>ż
 |_=>Ż
def Am:U->Bool
 |.d (.str _)=>ż
 |_=>Ż
def M9(x:V)(a:U)(H:Hp)(h:Rp K H x a)(e:Am a=ż):Al K "str" x H:=by
 unfold Am at e;split at e
 .cases DF.str_inv h;rfl
 .cases e
def xT:D->Qb Str
 |.str x=>ž x
 |_=>Ž
def PN{us:Qa V}{ds:Qa D}{ys:Qa Str}(h:aO K H us ds):ds.mapM xT=ž ys->us=ys.map V.str:=by
 refine h.ind (P:=λus ds=>∀ys,ds.mapM xT=ž ys->us=ys.map V.str) (λys e=>?_) (λ{v d vs ds} h t ih ys e=>?_) ys
 .cases e;rfl
 .rw[a0f]at e
  have(y,e1,e):=bQ e;have(jP,e2,e):=bQ e;cases e;cases d with
  |str x=>cases e1;cases DF.str_inv h;rw[ih _ e2];rfl
  |_=>cases e1
def vZ:U->U->Qb U
 |.d (.str sep),.l ds=>(ds.mapM xT).bind λys=>if(ys.map (·.length)).sum+ys.length * sep.length<=16777216 then ž (.d<|.str<|a0I sep ys)else Ž
 |.d (.str sep),.d (.list ds)=>(ds.mapM xT).bind λys=>if(ys.map (·.length)).sum+ys.length * sep.length<=16777216 then ž (.d<|.str<|a0I sep ys)else Ž
 |_,_=>Ž
def OM:VO K (λx y H Q=>LU K x [y] H Q) vZ:=by
 intro x y a b u H Q ha hb e q;unfold vZ at e;split at e
 .have(ys,ey,e):=bQ e
  split at e
  .rename_i hc
   cases e;have(l,us,rfl,h1,h2):=hb;cases PN h2 ey;exact⟨_,l,ys,DF.str_inv ha,rfl,bZ.of h1,hc,q _ _ (eI.refl H) (DF.str _) Nw.data⟩
  .cases e
 .have(ys,ey,e):=bQ e
  split at e
  .rename_i hc
   cases e;have(l,us,rfl,h1,h2):=DF.lst_inv hb;cases PN h2 ey;exact⟨_,l,ys,DF.str_inv ha,rfl,h1.sq,hc,q _ _ (eI.refl H) (DF.str _) Nw.data⟩
  .cases e
 .cases e
noncomputable def Bg:D->Qb V
 |.none=>ž .aK
 |.bool b=>ž<|.bl b
 |.int i=>ž<|.int i
 |.str x=>ž<|.str x
 |_=>Ž
def OL{w:V}{d:D}(h:DF K H v d)(e:Bg d=ž w):v=w/\oM w=ż:=by
 cases d with
 |none=>cases e;cases h;exact⟨rfl,rfl⟩
 |bool b=>cases e;cases DF.bS h;exact⟨rfl,rfl⟩
 |int i=>cases e;cases DF.int_inv h;exact⟨rfl,rfl⟩
 |str x=>cases e;cases DF.str_inv h;exact⟨rfl,rfl⟩
 |_=>cases e
def OK:∀{us:Qa V} {ds:Qa D} {ws:Qa V},aO K H us ds->ds.mapM Bg=ž ws->us=ws/\ws.all oM=ż
 |_,_,ws,.nil,e=>by cases e;exact⟨rfl,rfl⟩
 |_,_,ws,.cons h t,e=>by
  rw[a0f]at e;have(y,e1,e):=bQ e;have(jP,e2,e):=bQ e;cases e;have(rfl,f1):=OL h e1;have(rfl,f2):=OK t e2;exact⟨rfl,by rw[Χ,f1,f2];rfl⟩
end
def SO(K:qc)(C:Qg):Data->Bool
 |.cls cd=>cd.mro.head?==ž (.ref C) && !cd.hasDel && cd.hasDict && ſ K pe cd.mro.tail
 |_=>Ż
def Ec(K:qc)(C:Qg)(o:Obj):Bool:=o.cls==.type "type" && SO K C o.data && o.slots.toList.length==6 && o.slots.toList[4]?==ž (ž<|.builtin "ValueError.__new__")
def BI(K:qc)(C:Qg):Bool:=(K.lookup C).any (Ec K C)
def BH(K:qc)(C:Qg):Bool:=BI K C && ġ K (.ref C) "__getattribute__"==ž (ž<|.builtin "BaseException.__getattribute__") && ġ K (.ref C) "__getattr__"==ž Ž &&
 ġ K (.ref C) "__setattr__"==ž (ž<|.builtin "object.__setattr__") && ġ K (.ref C) "__class__"==ž (ž<|.builtin "object.__class__") &&
 a1x K (.builtin "object.__class__") "__get__"==ž (ž<|.builtin "getset_descriptor.__get__") && a2b K (.builtin "object.__class__")==ž ż && Ź K C (.type "object")==ž ż
def XO(K:qc)(C:Qg)(o:Obj):Prop:=∃nm qn N bs bm sn sub ab col dd k0 k1 k2 k3 k5,o=(a1M nm qn C N bs bm ż sn sub ab col dd k0 k1 k2 k3 k5 "ValueError.__new__")/\ſ K pe bm=ż
def vY(h:l.length=n+1):∃a t,l=a::t/\t.length=n:=by
 cases l with
 |nil=>cases h
 |cons a t=>exact⟨a,t,rfl,ώ h⟩
def zBL{x:α}(h:l.length=6)(e:l[4]?=ž x):∃k0 k1 k2 k3 k5,l=[k0,k1,k2,k3,x,k5]:=by
 have(k0,l1,rfl,h1):=vY h;have(k1,l2,rfl,h2):=vY h1;have(k2,l3,rfl,h3):=vY h2;have(k3,l4,rfl,h4):=vY h3;have(k4,l5,rfl,h5):=vY h4;have(k5,l6,rfl,h6):=vY h5;cases List.length_eq_zero_iff.mp h6;cases e;exact⟨k0,k1,k2,k3,k5,rfl⟩
def zBM{C:Qg}{c:Qc}{dd:Qb Qg}{cd:ClassData}{l:Array (Qb Qc)}(q1:c=.type "type")(q2:SO K C (.cls cd)=ż)(q3:l.toList.length=6)(q4:l.toList[4]?=ž (ž<|.builtin "ValueError.__new__")):XO K C ⟨c,dd,.cls cd,l⟩:=by
 have q2:(cd.mro.head?==ž (.ref C) && !cd.hasDel && cd.hasDict && ſ K pe cd.mro.tail)=ż:=q2;simp only[ĩ,beq_iff_eq,a1Z]at q2;obtain⟨⟨⟨hm,Kg⟩,vd⟩,ht⟩:=q2;have(nm,bs,mro,ns,qn,hd,sn,sub,ab,col,del):=cd;cases mro with
 |nil=>cases hm
 |cons v bm=>
  cases hm;cases q1;cases Kg;cases vd;have(k0,k1,k2,k3,k5,e):=zBL q3 q4;obtain⟨l⟩:=l;cases e;exact⟨nm,qn,ns,bs,bm,sn,sub,ab,col,dd,k0,k1,k2,k3,k5,rfl,ht⟩
def zBN{C:Qg}{o:Obj}(q:Ec K C o=ż):XO K C o:=by
 unfold Ec at q;simp only[ĩ,beq_iff_eq]at q;obtain⟨⟨⟨q1,q2⟩,q3⟩,q4⟩:=q;have(c,dd,dt,l):=o;cases dt with
 |cls cd=>exact zBM q1 q2 q3 q4
 |_=>cases q2
def L8{C:Qg}(q:BI K C=ż):∃nm qn N bs bm sn sub ab col dd k0 k1 k2 k3 k5,K.lookup C=ž (a1M nm qn C N bs bm ż sn sub ab col dd k0 k1 k2 k3 k5 "ValueError.__new__")/\ſ K pe bm=ż:=by
 unfold BI at q;cases ho:K.lookup C with
 |none=>rw[ho]at q;cases q
 |some o=>
  rw[ho]at q;have(nm,qn,N,bs,bm,sn,sub,ab,col,dd,k0,k1,k2,k3,k5,e,t):=zBN (show Ec K C o=ż from q);exact⟨nm,qn,N,bs,bm,sn,sub,ab,col,dd,k0,k1,k2,k3,k5,by rw[e],t⟩
def zBO{C:Qg}(q:BH K C=ż):XI K C:=by
 unfold BH at q;simp only[ĩ,beq_iff_eq]at q;obtain⟨⟨⟨⟨⟨⟨⟨h1,h2⟩,h3⟩,h4⟩,h5⟩,h6⟩,h7⟩,h8⟩:=q;exact⟨⟨L8 h1,h2,h3,h4⟩,h5,h6,h7,h8⟩
def tT(K:qc)(n:Str):Qb Qg:=match Ĩ K ĝ n with
 |some (ž<|.ref C)=>ž C
 |_=>Ž
def Dx{n:Str}{C:Qg}(h:XN K n C):tT K n=ž C:=by
 unfold tT;rw[show Ĩ K ĝ n=ž (ž<|.ref C) from h]
def Fj(K:qc)(tab:Qa (Str×Qa Str))(fl:Qa Str):Bool:=tab.all λp=>match tT K p.1 with
 |some C=>BH K C && fl.all (λf=>ġ K (.ref C) f==ž Ž) && Ŧ K (.ref C) (.type "ValueError")==ž (p.2.contains ("ValueError":Str)) &&
   tab.all λp'=>match tT K p'.1 with
    |some C'=>Ŧ K (.ref C) (.ref C')==ž (decide (p'.1=p.1) || p.2.contains p'.1)
    |none=>Ż
 |none=>Ż
def DL:∀{l:Qa (Str×β)} {n:Str} {b:β},l.lookup n=ž b->(n,b)∈l
 |[],_,_,e=>by cases e
 | (m,c)::l,n,b,e=>by
  rw[Ņ]at e;cases q:(n==m)with
  |true=>
   rw[q]at e;cases e;rw[beq_iff_eq.mp q];exact qo
  |false=>
   rw[q]at e;exact qm _<|DL e
def zBP{fl:Qa Str}(h:Fj K tab fl=ż):XT K tab fl:=by
 unfold Fj at h;have one:∀n ups C,tab.lookup n=ž ups->XN K n C->(BH K C && fl.all (λf=>ġ K (.ref C) f==ž Ž) && Ŧ K (.ref C) (.type "ValueError")==ž (ups.contains ("ValueError":Str)) &&
   tab.all λp'=>match tT K p'.1 with
    |some C'=>Ŧ K (.ref C) (.ref C')==ž (decide (p'.1=n) || ups.contains p'.1)
    |none=>Ż)=ż:=λn ups C hn xn=>by
  have z:=ä.mp h (n,ups) (DL hn);dsimp only at z;rw[Dx xn]at z;exact z
 refine⟨λn ups C hn xn=>?_,λn ups C hn xn c C' hc xc=>?_,λn ups C hn xn=>?_⟩
 .have z:=one n ups C hn xn
  simp only[ĩ]at z;refine⟨zBO z.1.1.1,λf hf=>?_⟩;exact beq_iff_eq.mp<|ä.mp z.1.1.2 f hf
 .have z:=one n ups C hn xn
  simp only[ĩ]at z;have(IU,hu'):=ò.mp hc;have y:=ä.mp z.2 (c,IU) (DL hu');dsimp only at y;rw[Dx xc]at y;exact beq_iff_eq.mp y
 .have z:=one n ups C hn xn
  simp only[ĩ]at z;exact beq_iff_eq.mp z.1.2
structure oB (P:Qe) (w:Qh) (K:qc) (mg:Str->Qb Qc) (base:Į) (x:Str) (C:Qg) (f:Str):Prop where
 xn:XN K x C
 cl:XC K C
 na:nJ K C f
 mg_:mg x=ž (.ref C)
 kp:ĵ K (.ref C)=ż
 ini:∃i fd,ġ K (.ref C) "__init__"=ž (ž<|.ref i)/\ζ K (.ref i)=ż/\lK K fd ["self",f] []/\bI P w K mg base iM 1 i fd ["self",f] (Eh K f)
section
variable{X:Cx}{C:Qg}{es:Qa į}{t:TA}
def UY(K:qc)(hK:X.K=K)(he:Wr (PE X e ta))(hb:ϐ e f X.env (Ŭ e X.env)=Ŭ e X.env):Wr (PE X (.Attribute e f pos)<|Ef (L9 K f) ta):=hK▸⟨Y8 he.run hb⟩
end
abbrev RX(α:Type):=(α×En) ⊕ (D×En)
abbrev MX:=En->Qb (RX Ar)
abbrev K4:=En->Qb (RX<|Qa Ar)
noncomputable def pE{α:Type}(m:En->Qb (RX α)):En->Qb (α×En):=λρ=>(m ρ).bind λr=>match r with |.inl p=>ž p |.inr _=>Ž
def XOk(K:qc)(EX:cW)(ρ:En)(σ:St)(H:Hp)(x:D)(ao:En):Prop:=∀a H',Go K ρ σ H ao H'->H a=Ž->B3 K H' a x->EX σ a H'
def VX(K:qc)(EX:cW)(t:TE)(m:MX):Prop:=VE K t (pE m)/\∀(ρ:En) (σ:St) (H:Hp) (x:D) (ao:En) (Q:VK),Rs K ρ σ H->m ρ=ž (.inr (x,ao))->XOk K EX ρ σ H x ao->t σ H Q
section
variable{EX:cW}{ρ ao:En}{A:Qg->Prop}
noncomputable def zCY(me:MX)(ma:K4):K4:=λρ=>(me ρ).bind λr=>match r with
 |.inl p=>(ma p.2).bind λr'=>match r' with
  |.inl q=>ž<|.inl (p.1::q.1,q.2)
  |.inr z=>ž<|.inr z
 |.inr z=>ž<|.inr z
def tR(mS:ME->MS)(m:MX):MS:=λρ=>(m ρ).bind λr=>match r with
 |.inl _=>mS (pE m) ρ
 |.inr z=>ž<|.ex z.1 z.2
def zrK{t:TE}{m:MX}{tS:TE->TS}{mS:ME->MS}(h:VX K EX t m)(hF:VE K t (pE m)->VS K pn EX (tS t) (mS<|pE m))(hX:∀D σ H,(∀Q',t σ H Q')->tS t D σ H):VS K pn EX (tS t) (tR mS m):=by
 intro au A aA aB ρ σ H f D s e k;have(r2,e2,e1):=bQ e;cases r2 with
 |inl p=>exact hF h.1 au A aA aB ρ σ H f D s e1 k
 |inr z=>
  cases e1;exact hX D σ H λQ'=>h.2 ρ σ H z.1 z.2 Q' s.rs e2 λa H' g hn fl=>k a σ H' (s.go g) (s.dm a hn) fl
def OJ{t:TE}{m:MX}(h:VX K EX t m)(hi:i∉pn:=by decide):VS K pn EX (oI t<|kN i) (tR (zR i) m):=zrK (tS:=λt=>oI t<|kN i) (mS:=zR i) h (λh=>zP h hi) λD σ H z=>z _
def UI(K:qc)(te:TE)(m:En->Qb (D×En)):Prop:=∀(ρ:En) (σ:St) (H:Hp) (x:D) (ao:En) (Q:VK),Rs K ρ σ H->m ρ=ž (x,ao)->
 (∀a H',Go K ρ σ H ao H'->H a=Ž->(∃C d,H' a=ž (pQ a C d Ž)/\XC K C)->B3 K H' a x->Q (.ref a) H')->te σ H Q
noncomputable def CM(m:En->Qb (D×En)):MS:=λρ=>(m ρ).bind λp=>ž<|.ex p.1 p.2
def OI{m:En->Qb (D×En)}(h:UI K te m):VS K pn EX (GY K EX te) (CM m):=by
 intro au A aA aB ρ σ H f D s e k;obtain⟨⟨x,aw⟩,e1,e⟩:=bQ e;cases e;exact h ρ σ H x aw _ s.rs e1 λa H' g hn ⟨C,d,ha,xc⟩ fl=>⟨a,C,d,rfl,ha,xc,k a σ H' (s.go g) (s.dm a hn) fl⟩
def AF(n f:Str)(ma:MA):En->Qb (D×En):=λρ=>(ma ρ).bind λp=>(bW p.2 p.1).bind λus=>(iS us).bind λds=>match ds with
 |[x]=>ž (.dict [(.none,.str n),(.str f,x)],p.2)
 |_=>Ž
def OH{C:Qg}{E:XK}{n:Str}{t:TA}{m:MA}(xn:XN K n C)(c:XC K C)(na:nJ K C f)(h:mw K t m):UI K (G0 C (FQ K f) E t) (AF n f m):=by
 intro ρ σ H x ao Q rs e q;obtain⟨⟨as,aw⟩,e1,e⟩:=bQ e;have(us,eu,e):=bQ e;have(ds,ed,e):=bQ e;split at e
 rotate_left
 .cases e
 rename_i x;cases e;refine h ρ σ H as aw _ rs e1 λvs H1 g1 s1=>?_;have df:=GS (s1.qL rs g1 eu) ed;generalize eq:[x]=ys at df;cases df with
 |nil=>cases eq
 | @cons v d vs' ds' hd t'=>
  cases eq;cases t';refine⟨by show 1<=1000;decide,λa p ha=>⟨a,C,p,v,rfl,zD,c,na,λdx od A0 ne=>⟨rfl,?_⟩⟩⟩;have Kf:H1 dx=Ž:=by rw[zA ne]at A0;exact A0
  have sm:eI H1 (upd (upd (upd H1 a<|tN a C p) dx<|.bj od<|.xd [(f,v)]) a<|pQ a C (ž dx) Ž):=λb o hb=>by
   rw[zA<|kQ hb ha,zA<|kQ hb Kf,zA<|kQ hb ha];exact hb
  refine q a _ (g1.trans<|Go.grow g1.rs sm) (g1.dm a ha) ⟨C,ž dx,zD,c⟩ ?_;exact⟨n,C,[(f,v)],_,rfl,⟨ž dx,Ž,zD,(λT z=>nomatch z),.inr ⟨od,dx,rfl,by rw[zA ne,zD]⟩⟩,xn,.cons (hd.kp sm.kp) .nil⟩
def Rs.mv(r:Rs K ρ σ H)(ea:∃φ,H a=ž (.ext φ))(k:∀b o,b≠a->H b=ž o->H' b=ž o):Rs K ρ σ H'/\Kp H H':=by
 have(φ,ea):=ea;have kp:Kp H H':=⟨λb xs h=>k b _ (λz=>by rw[z,ea]at h;cases h) h,λb ob u h=>k b _ (λz=>by rw[z,ea]at h;cases h) h,λb x h=>k b _ (λz=>by rw[z,ea]at h;cases h) h⟩;refine⟨⟨r.len,λi u e=>?_,r.apart⟩,kp⟩;have(v,ev,p):=r.rep i u e;refine⟨v,ev,p.kp kp λo b c eb hb=>?_⟩;have(b',c',KJ,k8,m):=p.own o;rw[eb]at KJ;cases KJ;rw[hb]at k8;cases k8;exact k b c (λz=>by rw[z,ea]at hb;cases hb;exact m) hb
def Sn.mv(s:Sn K pn au A aA aB ρ σ H)(hn:aA a=Ž)(ea:∃φ,H a=ž (.ext φ))(k:∀b o,b≠a->H b=ž o->H' b=ž o)(dm:∀b,H' b=Ž->H b=Ž):Sn K pn au A aA aB ρ σ H':=by
 have(r,kp):=s.rs.mv ea k;exact⟨r,λb o h n=>k b o (λz=>by rw[z,hn]at h;cases h)<|s.fr b o h n,s.ow,s.pin,λb h=>s.dm b<|dm b h,s.kp.trans kp⟩
def pP.ext{C:Qg}{fs:Qa (Str×V)}(f:pP H a C fs):∃φ,H a=ž (.ext φ):=by
 have(d,tb,ea,_):=f;exact⟨_,ea⟩
def Sn.clear(s:Sn K pn au A aA aB ρ σ H)(hi:i∉pn):Sn K pn au A aA aB (ρ.set i Ž) (σ.set i Ž) H:=by
 have inv:∀(j:Nat) (w:U),(ρ.set i Ž)[j]?=ž (ž w)->j≠i/\ρ[j]?=ž (ž w):=λj w e=>by
  by_cases hj:i=j
  .subst hj
   have hl:=(qk.mp e).1;rw[ī]at hl;rw[Ĭ hl]at e;cases e
  .rw[qB hj]at e
   exact⟨ĭ hj,e⟩
 have sat:∀j,j≠i->(σ.set i Ž)[j]?=σ[j]?:=λj h=>qB<|ĭ h;refine⟨⟨by rw[ī,ī];exact s.rs.len,λj w e=>?_,λj k x y ej ek ox oy es=>?_⟩,s.fr,λj w a e o es=>?_,λj hj=>?_,s.dm,s.kp⟩
 .have(hj,e'):=inv j w e
  rw[sat j hj];exact s.rs.rep j w e'
 .have(hj,oz):=inv j x ej
  have(hk,xu):=inv k y ek;rw[sat j hj,sat k hk]at es;exact s.rs.apart j k x y oz xu ox oy es
 .have(hj,e'):=inv j w e
  rw[sat j hj]at es;exact s.ow j w a e' o es
 .rw[sat j λz=>hi<|z▸hj]
  exact s.pin j hj
def XM(K:qc)(tab:Qa (Str×Qa Str))(c:Str)(C':Qg):Prop:=∀n ups C,tab.lookup n=ž ups->XN K n C->ups.contains c=ż->XC K C/\Ź K C (.ref C')=ž ż
noncomputable def EU(i:Nat):Fl->Qb Fl
 |.nx ρ=>ž<|.nx<|ρ.set i Ž
 |.bk ρ=>ž<|.bk<|ρ.set i Ž
 |.ct ρ=>ž<|.ct<|ρ.set i Ž
 |.rt u ρ=>ž<|.rt u ρ
 |.ex _ _=>Ž
def under(tab:Qa (Str×Qa Str))(c:Str):D->Bool
 |.dict ((.none,.str n)::_)=>match tab.lookup n with|some ups=>ups.contains c|none=>Ż
 |_=>Ż
def Fi(tab:Qa (Str×Qa Str))(c:Str)(i:Nat)(mb mh:MS):MS:=λρ=>(mb ρ).bind λf=>match f with
 |.ex x ao=>if under tab c x=ż then(mh<|ao.set i<|some<|.d x).bind (EU i)else Ž
 |f=>ž f
def zBQ{tb:cW->TS}{th:TS}{mb mh:MS}(T:XM K tab c C')(hi:i∉pn)(hb:∀EX,VS K pn EX (tb EX) mb)(hh:VS K pn Fd th mh):VS K pn EX (FN K C' i tb th) (Fi tab c i mb mh):=by
 intro au A aA aB ρ σ H f D s e k;have(f1,e1,e):=bQ e;refine hb _ au A aA aB ρ σ H f1 D s e1 ?_;cases f1 with
 |nx aw=>cases e;exact k
 |bk aw=>cases e;exact k
 |ct aw=>cases e;exact k
 |rt u aw=>cases e;exact k
 |ex x aw=>
  dsimp only at e;split at e
  rotate_left
  .cases e
  rename_i hu;have(f2,e2,e):=bQ e;intro a ft H1 s1 hn fl;have(n,C,fs,ds,rfl,fv,xn,t):=fl;unfold under at hu;dsimp only at hu;cases hl:tab.lookup n with
  |none=>rw[hl]at hu;cases hu
  |some ups=>
   rw[hl]at hu;have(xc,mr):=T n ups C hl xn hu;refine⟨C,fs,fv,xc,mr,λH2 xv kk dm=>?_⟩;have s2:=s1.mv hn fv.ext kk dm;have kp:=(s1.rs.mv fv.ext kk).2;have s3:=s2.set (i:=i) (v:=.ref a) (u:=.d (.dict<|(.none,.str n)::ds)) hi (DF.exc xv xn<|t.kp kp) (λo=>by cases o);refine hh au A aA aB _ _ H2 f2 _ s3 e2 ?_;cases f2 with
   |nx aD=>cases e;exact λiC H4 s4=>k _ _<|s4.clear hi
   |bk aD=>cases e;exact λiC H4 s4=>k _ _<|s4.clear hi
   |ct aD=>cases e;exact λiC H4 s4=>k _ _<|s4.clear hi
   |rt u aD=>cases e;exact k
   |ex y aD=>cases e
end
abbrev FX:=Qa U->Qb ((U×Qa U) ⊕ (D×Qa U))
def As(K:qc)(n:Nat)(f:FX):Sp:=λvs H Q E=>∃us r,us.length=n/\Rs K (sm us) (eB vs) H/\f us=ž r/\match r with
 |.inl o=>∀v H',Go K (sm us) (eB vs) H (sm o.2) H'->Rp K H' v o.1->Nw H v o.1->Q v H'
 |.inr o=>∀a H',Go K (sm us) (eB vs) H (sm o.2) H'->H a=Ž->B3 K H' a o.1->E (.ref a) Ž H'
structure BD (P:Qe) (w:Qh) (K:qc) (mg:Str->Qb Qc) (base:Į) (x:Str) (k:Nat) (ps:Qa Str) (sp:Sp):Prop where
 ex:∃(f:Qg) (fd:ū),bI P w K mg base (lz P w K) k f fd ps sp/\lK K fd ps []/\ĵ K (.ref f)=ż/\mg x=ž (.ref f)
def X8{X:Cx}:kM X Fd:=λ_ _ _ _ _ _ z=>z.elim
section
variable{X:Cx}{EX:cW}{k:Nat}{es:Qa į}{t:TA}
def M8(C:BD X.prog X.w X.K X.mg X.base x k ps sp)(hx:kM X EX)(ha:Wr (PA X (e::es) t))(hr:aF k X.A:=by exact aF.mono ‹aF _ _› (by decide))(hg:Gl X x:=by exact rfl)(bY:(x==("__debug__":Str))=Ż:=by decide)
  (he:eM e=ż:=by rfl) (cq:es.all eM=ż:=by rfl):Wr (PE X (.Call (.Name x p) (e::es) [] pos)<|Cy sp EX t):=by
 have(f,fd,F,hb,hk,hm):=C.ex;exact⟨zrb F hr hg hm hk hb hx ha.run bY (lN he)<|qG cq⟩
end
section
variable{EX:cW}{ρ ao:En}{A:Qg->Prop}
def BG(ρ:En)(as:Qa Ar):(U×Qa U) ⊕ (D×Qa U)->RX Ar
 |.inl o=>.inl (.u o.1,wb ρ as o.2)
 |.inr o=>.inr (o.1,wb ρ as o.2)
def ym(f:FX)(ma:MA):MX:=λρ=>(ma ρ).bind λp=>if gL p.2 p.1=ż then(bW p.2 p.1).bind λus=>(f us).bind λo=>ž (BG p.2 p.1 o)else Ž
def Ha{f:FX}{t:TA}{m:MA}(n:Nat)(h:mw K t m)(hn:∀ρ as ao,m ρ=ž (as,ao)->as.length=n:=by repeat (first|exact LJ|refine M4 ?_)):VX K EX (Cy (As K n f) EX t) (ym f m):=by
 refine⟨λρ σ H a ao Q rs e q=>?_,λρ σ H x ao Q rs e q=>?_⟩
 .unfold pE at e
  have(r,e1,e):=bQ e;obtain⟨⟨as,aw⟩,e2,e1⟩:=bQ e1;dsimp only at e1;split at e1
  .rename_i dj
   have(us,eu,e1):=bQ e1;have(o,ef,e1):=bQ e1;cases e1;cases o with
   |inr o=>cases e
   |inl o=>
    cases e;refine h ρ σ H as aw _ rs e2 λvs H1 g1 s1=>?_;have(sQ,back):=GR rs g1 s1 dj eu;exact⟨us,.inl o,by rw[wG eu];exact hn _ _ _ e2,sQ,ef,λv H2 g2 p n2=>q v H2 (back o.2 H2 g2) ⟨p,n2.mono g1.dm⟩⟩
  .cases e1
 .obtain⟨⟨as,aw⟩,e2,e1⟩:=bQ e
  dsimp only at e1;split at e1
  .rename_i dj
   have(us,eu,e1):=bQ e1;have(o,ef,e1):=bQ e1;cases o with
   |inl o=>cases e1
   |inr o=>
    cases e1;refine h ρ σ H as aw _ rs e2 λvs H1 g1 s1=>?_;have(sQ,back):=GR rs g1 s1 dj eu;exact⟨us,.inr o,by rw[wG eu];exact hn _ _ _ e2,sQ,ef,λa H2 g2 hn fl=>⟨a,rfl,q a H2 (back o.2 H2 g2) (g1.dm a hn) fl⟩⟩
  .cases e1
def Ca(pn:Qa Nat)(us:Qa U):Fl->Qb ((U×Qa U) ⊕ (D×Qa U))
 |.rt u ρ=>(dY pn ρ 0 us).bind λos=>ž<|.inl (u,os)
 |.nx ρ=>(dY pn ρ 0 us).bind λos=>ž<|.inl (.d .none,os)
 |.ex x ρ=>(dY pn ρ 0 us).bind λos=>ž<|.inr (x,os)
 |_=>Ž
def tQ(n:Nat)(pn:Qa Nat)(m:MS):FX:=λus=>(m<|sm us++č (n - us.length) Ž).bind<|Ca pn us
def kF.Jm{f:Qg}{k:Nat}{m:MS}(F:kF K x qual st f fd)(S:aX N ps (zI st))(tm:ps.length=n)(hN:N.length=nn)(kZ:n<=nn)
  (bh:∀(aQ:Qc) (A:Qf) (outer:Qa Env) (s:Qd) (H:Hp) (E:XK),aF k (A.deeper<|θ qual (zI st) s.heap.objs.size f aQ)->kM (jr (lz P w K) P w K mg base N qual (zI st) f aQ A outer s H E) (vw E)->
   ∃t,Wr (dR (jr (lz P w K) P w K mg base N qual (zI st) f aQ A outer s H E) (gN st) t)/\VS K pn (vw E) t m):bI P w K mg base (lz P w K) (k+1) f fd ps (As K n<|tQ nn pn m):=by
 have(oc,od,kV,doc,pm,an,aQ,ct,jU,rfl,lk,iJ):=F.ex;refine GL lk iJ S (λvs H Q E h=>?_) λA outer s H vs Q E hr h=>?_
 .have(us,r,hl,rs,_):=h
  have:=rs.len;unfold sm eB at this;simp at this;omega
 have(us,r,hl,rs,ef,q):=h;have(t,wt,vt):=bh aQ A outer s H E hr LL;refine⟨t,wt.run,?_⟩;have(fl,em,ef):=bQ ef;have go:∀(ao:En) (outs:Qa U),dY pn ao 0 us=ž outs->Sn K pn (Ϲ N vs) (Ow (sm us)<|eB vs) H H (sm us++č (N.length - us.length) Ž) (Ϲ N vs) H:=λao outs ho=>H9 rs (by omega) ho;subst hN;cases fl with
 |nx ao=>
  have(os,eo,ef):=bQ (show(dY pn ao 0 us).bind _=_ from ef);cases ef;refine vt _ _ _ _ _ _ _ (.nx ao) _ (go ao _ eo) em λaG H' s'=>?_;exact q _ _ (rS rs s' eo) .aK Nw.data
 |rt u ao=>
  have(os,eo,ef):=bQ (show(dY pn ao 0 us).bind _=_ from ef);cases ef;refine vt _ _ _ _ _ _ _ (.rt u ao) _ (go ao _ eo) em λv aG H' s' p n'=>?_;exact q _ _ (rS rs s' eo) p n'
 |ex x ao=>
  have(os,eo,ef):=bQ (show(dY pn ao 0 us).bind _=_ from ef);cases ef;refine vt _ _ _ _ _ _ _ (.ex x ao) _ (go ao _ eo) em λa aG H' s' hn fl=>?_;have(n,C,fs,ds,rfl,fv,xn,t):=fl;refine⟨C,fs,fv,λH2 Kz kk dm=>?_⟩;exact q a H2 (rS rs (s'.mv hn fv.ext kk dm) eo) hn ⟨n,C,fs,ds,rfl,Kz,xn,t.kp (s'.rs.mv fv.ext kk).2⟩
 |bk=>cases ef
 |ct=>cases ef
end
def zBR{k:Nat}{i:Qg}(F:bI P w K mg base iM k i fd ["self",f] (Eh K f)):bI P w K mg base iM k i fd ["self",f] (FQ K f):=by
 refine⟨λvs H Q E h=>by have(a,C,p,v,rfl,_):=h;rfl,λA outer s H args us vs Q E hr e0 hb r h=>?_⟩;have(a,C,p,v,rfl,ea,xc,na,q):=h;refine Ϯ (F.run A outer s H args us [.ref a,v] (λv' H'=>v'=.aK/\∃dx ox od,H dx=Ž/\dx≠a/\ox={mQ C p with dict:=ž dx}/\H'=upd (upd H dx<|.bj od<|.xd [(f,v)]) a (.bj ox<|.own 0)) E hr e0 hb r
  ⟨a,C,p,v,rfl,ea,xc,na,λdx ox od h1 h2 h3 h4 h5 h6=>⟨rfl,dx,ox,od,h1,h2,h6,rfl⟩⟩) λr s' z=>?_
 cases r with
 |error e=>exact z.elim
 |ok fl=>
  cases fl with
  |ret u=>
   have(v',H',os,bare,un,aC,rv,rfl,dx,ox,od,h1,h2,h3,rfl):=z;have(ha,_):=aC a _ zD;subst h3;have(SW,AS):=Zz (u:=pQ a C (ž dx) Ž) un aC ea zD (λ_ z=>nomatch z) (λ_ z=>nomatch z) (OG ⟨_,_,ha,rfl,rfl,rfl,rfl,λ_=>⟨p,rfl⟩⟩);rw[Y3]at SW AS;exact⟨.aK,_,os,bare,SW,AS,rv,q dx od h1 h2⟩
  |next=>exact z.elim
  |brk=>exact z.elim
  |cont=>exact z.elim
section
variable{X:Cx}{C:Qg}{es:Qa į}{t:TA}{EX:cW}
def PM(c:oB X.prog X.w X.K X.mg X.base x C f)(ha:Wr (PA X (e::es) t))(hr:aF 2 X.A:=by exact aF.mono ‹aF _ _› (by decide))(hg:Gl X x:=by exact rfl)(bY:(x==("__debug__":Str))=Ż:=by decide)
  (he:eM e=ż:=by rfl) (cq:es.all eM=ż:=by rfl):Wr (PE X (.Call (.Name x p) (e::es) [] pos)<|G0 C (FQ X.K f) E0 t):=by
 have(i,fd,h1,h2,h3,h4):=c.ini;exact⟨zq9 c.cl h1 h2 c.kp (zBR h4) hr hg c.mg_ h3 LY ha.run bY (lN he)<|qG cq⟩
def NN(K:qc)(hK:X.K=K){k:Nat}(hr:aF k X.A)(hx:kM X EX)(he:Wr (PE X e te)):Wr (PS X (.Raise (ž e) Ž pos)<|GY K EX te):=hK▸⟨zra hx hr.hd he.run⟩
def zBS{n cls:Str}{body gZ:Qa Ş}{mn:Ş}{tb:cW->TS}{th:TS}{np qU:Pos}(K:qc)(hK:X.K=K)(iI:X.stack=X.env::outer)(hf:X.env.frame=ž X.env.locals)(hN:X.N.Nodup)(hi:X.N[i]?=ž n)(hl:X.env.scope.names.lookup n=ž .local)(hg:Gl X cls)(hm:X.mg cls=ž (.ref C'))(xr:XC K C')
  (hb:∀(pn:Qa (Qg×Obj)) (E:Qc->Qd->Prop) (EX:cW),kM (X.body pn E) EX->Wr (dR (X.body pn E) body<|tb EX))
  (hs:∀a,Wr<|dR (X.held a) (mn::gZ) th) (bY:(cls==("__debug__":Str))=Ż:=by decide):
  Wr (PS X (.Try body [.ExceptHandler (ž<|.Name cls np) (ž n) (mn::gZ) qU] [] [] pos)<|FN K C' i tb th):=by
 subst hK;exact⟨V8 iI hf hN hi hl hg hm xr (λpn E EX h=>(hb pn E EX h).run) (λa=>(hs a).run) bY⟩
end
def Fh(K:qc)(tab:Qa (Str×Qa Str))(c:Str):Bool:=match tT K c with
 |some C'=>tab.all λp=>!p.2.contains c || (match tT K p.1 with
  |some C=>BI K C && ġ K (.ref C) "__getattribute__"==ž (ž<|.builtin "BaseException.__getattribute__") && ġ K (.ref C) "__getattr__"==ž Ž && ġ K (.ref C) "__setattr__"==ž (ž<|.builtin "object.__setattr__") && Ź K C (.ref C')==ž ż
  |none=>Ż)
 |none=>Ż
def zBT(h:Fh K tab c=ż)(xn:XN K c C'):XM K tab c C':=by
 intro n ups C hl xc hu;unfold Fh at h;rw[Dx xn]at h;have z:=ä.mp h (n,ups) (DL hl);dsimp only at z;rw[hu,Dx xc]at z;simp only[Ł,a0A,ĩ,beq_iff_eq]at z;obtain⟨⟨⟨⟨h1,h2⟩,h3⟩,h4⟩,h5⟩:=z;exact⟨⟨L8 h1,h2,h3,h4⟩,h5⟩
noncomputable def tyD:D->Qb String
 |.none=>ž "NoneType"
 |.bool _=>ž "bool"
 |.int _=>ž "int"
 |.str _=>ž "str"
 |.tuple _=>ž "tuple"
 |_=>Ž
def SX:U->Qb String
 |.d x=>tyD x
 |.l _=>ž "list"
 |_=>Ž
noncomputable def qP(t T:String):Bool:=t==T || (t == "bool" && T == "int")
noncomputable def Gs:Qa String:=["NoneType", "bool", "int", "str", "tuple", "list"]
def X7(K:qc):∀t∈Gs,∀T∈["int", "bool", "str", "tuple", "list"],Ŧ K (.type t) (.type T)=ž (qP t T):=by
 have hm:∀T∈["int", "bool", "str", "tuple", "list"],PySem.W.kitMeta T=ż:=by decide +kernel
 have hs:∀t∈Gs,∀T∈["int", "bool", "str", "tuple", "list"],(PySem.fastBuiltinMro t).map (·.contains (a2H T))=ž (qP t T):=by decide +kernel
 intro t ht T hT;unfold Ŧ;split
 .rename_i q
  have e:t=T:=a4c (beq_iff_eq.mp q);subst e;unfold qP;simp
 .unfold PySem.W.kitCls PySem.W.subIn
  simp only[hm T hT,if_true];exact hs t ht T hT
def iN(T:String)(u:U):Qb U:=(SX u).bind λt=>if t∈Gs/\T∈["int", "bool", "str", "tuple", "list"]then ž (.d<|.bool<|qP t T)else Ž
section
def VH{u:U}{t:String}(h:Rp K H v u)(e:SX u=ž t):eF K H v (.type t):=by
 cases u with
 |d x=>
  cases x with
  |none=>cases e;cases h;exact .aK
  |bool b=>cases e;cases DF.bS h;exact .bl _
  |int i=>cases e;cases DF.int_inv h;exact .int _
  |str x=>cases e;cases DF.str_inv h;exact .str _
  |tuple ds=>cases e;have(a,ys,rfl,h1,_):=DF.aI h;exact .tup h1
  |list ds=>cases e
  |dict ds=>cases e
 |l xs=>cases e;have(a,us,rfl,h1,_):=h;exact .lst h1
 |t kvs=>cases e
 |k kvs=>cases e
 |o=>cases e
def mX{me:ME}(h:VE K te me):VE K (sP (FV K)<|oN te<|oN (tC<|.ty T) rB) (cI (iN T) me):=by
 intro ρ σ H a ao Q rs e q;obtain⟨⟨a1,aw⟩,e1,e⟩:=bQ e;have(x,ex,e):=bQ e;have(u,eu,e):=bQ e;cases e;refine h ρ σ H a1 _ _ rs e1 λv1 H1 g1 k1=>?_;have p:=k1.now rs g1 ex;unfold iN at eu;have(t,et,eu):=bQ eu;split at eu
 .rename_i hc
  cases eu;exact⟨v1,.type t,T,_,rfl,VH p et,X7 K t hc.1 T hc.2,q _ _ g1 ⟨DF.bl _,Nw.data⟩⟩
 .cases eu
def xS(x:D)(ds:Qa D):Qb Bool:=(Bg x).bind λw=>(ds.mapM Bg).bind λws=>ž<|JF w ws
def nh(neg:Bool)(a b:U):Qb U:=match a with
 |.d x=>b.items.bind λds=>(xS x ds).bind λr=>ž<|.d<|.bool (if neg=ż then !r else r)
 |_=>Ž
def B9(neg:Bool):VO K (Av K neg) (nh neg):=by
 intro x y a b u H Q ha hb e q;cases a with
 |d d=>
  have(ds,e1,e):=bQ (show b.items.bind _=ž u from e);have(r,e2,e):=bQ e;have(w,e3,e2):=bQ e2;have(ws,e4,e2):=bQ e2;cases e2;cases e;have(p,ys,rfl,sq,df):=hb.items e1;have(rfl,f1):=OL ha e3;have(rfl,f2):=OK df e4;exact⟨p,_,rfl,sq,f1,f2,q _ _ (eI.refl H) (by cases neg<;>exact DF.bl _) Nw.data⟩
 |_=>cases e
noncomputable def blD:D->Qb Bool
 |.bool b=>ž b
 |_=>Ž
def yx(f f':U->U->Qb U)(ma mb mc:ME):ME:=λρ=>(ma ρ).bind λp=>(mb p.2).bind λq=>(p.1.get q.2).bind λx=>(q.1.get q.2).bind λy=>(f x y).bind λr=>match r with
 |.d (.bool ż)=>(mc q.2).bind λs=>(q.1.get s.2).bind λy'=>(s.1.get s.2).bind λz=>(f' y' z).bind λu=>ž (.u u,s.2)
 |.d (.bool Ż)=>ž (.u<|.d<|.bool Ż,q.2)
 |_=>Ž
def NM{r r':R2}{f f':U->U->Qb U}{tc:TE}{ma mb mc:ME}(h:VO K r f)(h':VO K r' f')(ha:VE K ta ma)(hb:VE K tb mb)(hc:VE K tc mc):VE K (yp r r' ta tb tc) (yx f f' ma mb mc):=by
 intro ρ σ H a ao Q rs e q;obtain⟨⟨a1,aw⟩,e1,e⟩:=bQ e;obtain⟨⟨b1,aD⟩,e2,e⟩:=bQ e;have(x,ex,e):=bQ e;have(y,ey,e):=bQ e;have(rr,er,e):=bQ e;refine ha ρ σ H a1 aw _ rs e1 λv1 H1 g1 k1=>hb aw σ H1 b1 aD _ g1.rs e2 λv2 H2 g2 k2=>?_;refine h _ _ x y rr H2 _ (k1.later rs g1 g2 ex) (k2.now g1.rs g2 ey) er λv H3 s p n=>?_;have g3:=Go.grow g2.rs s;split at e
 .cases DF.bS p
  refine⟨ż,rfl,?_⟩;rw[a5L rfl];obtain⟨⟨c1,mM⟩,e3,e⟩:=bQ e;have(y',KH,e):=bQ e;have(z,ez,e):=bQ e;have(u,eu,e):=bQ e;cases e;refine hc aD σ H3 c1 _ _ g3.rs e3 λv3 H4 g4 k4=>?_;refine h' _ _ y' z u H4 _ (k2.later g1.rs g2 (g3.trans g4) KH) (k4.now g3.rs g4 ez) eu λw H5 s5 p5 n5=>?_;exact q w H5 ((((g1.trans g2).trans g3).trans g4).trans<|Go.grow g4.rs s5) ⟨p5,n5.mono λb hb=>(g1.trans g2).dm b<|g3.dm b<|g4.dm b hb⟩
 .cases DF.bS p
  cases e;refine⟨Ż,rfl,?_⟩;rw[a5M (by decide)];exact q _ H3 ((g1.trans g2).trans g3) ⟨DF.bl _,Nw.data⟩
 .cases e
def yk:U->U->Qb U
 |.d (.str z),.d (.int n)=>if 0<=n/\n<=1 then ž (.d<|.str<|vG z n)else Ž
 |_,_=>Ž
def X6:VO K (λx y H Q=>∃z n,x=.str z/\y=.int n/\0<=n/\n<=1/\Q (.str<|vG z n) H) yk:=by
 intro x y a b u H Q ha hb e q;unfold yk at e;split at e
 .split at e
  .rename_i z n hc
   cases e;exact⟨z,n,DF.str_inv ha,DF.int_inv hb,hc.1,hc.2,q _ _ (eI.refl H) (DF.str _) Nw.data⟩
  .cases e
 .cases e
end
section
variable{X:Cx}
def zrO{a b c:į}{tc:TE}{r r':R2}(ho:bF X (Ĥ op) r)(cZ:bF X (Ĥ g7) r')(ha:Wr (PE X a ta))(hb:Wr (PE X b tb))(hc:Wr (PE X c tc))(hm:a1S [op,g7] [b,c]=Ż:=by rfl):
  Wr (PT X (.Compare a [op,g7] [b,c] pos)<|t4<|yp r r' ta tb tc):=⟨zqA ho cZ ha.run hb.run hc.run hm⟩
def M7(K:qc):R2:=λx y H Q=>GJ K x y H Q\/∃a b,x=.ref a/\y=.ref b/\bT K H a []/\(∃ys,bT K H b ys)/\Q y H
end
section
variable{X:Cx}
def X5{s:Qd}{t b:Qg}{ws:Qa Qc}(ht:a2P s.heap t #[])(hb:a2P s.heap b ws.toArray)(h:Q (.ref b) s):Č (Đ prog w) A (Ů .Add (.ref t)<|.ref b) Q E s:=by
 obtain⟨⟨c1,d1,o1,s1⟩,h1,z1,n1,y1⟩:=id ht;obtain⟨⟨c2,d2,o2,s2⟩,h2,z2,n2,y2⟩:=id hb;cases(show c1=_ from z1);cases(show c2=_ from z2);cases(show o1=_ from y1);cases(show o2=_ from y2);have mt:=tuple_addW0 t b #[] ws.toArray n1 n2 d1 d2 s1 s2 rfl;exact a2F ⟨_,h1,rfl⟩ ⟨_,h2,rfl⟩ a3e a4u a0F a0r (a0l _ _) mt ⟨h1,h2,h⟩
def PK(hK:X.K=K:=by rfl):bF X (Ů .Add) (M7 K):=by
 subst hK;intro pins s σ H x y v u Q I rx ry h;rcases h with h|⟨a,b,rfl,rfl,ha,⟨ys,hb⟩,q⟩
 .exact Zn pins s σ H x y v u Q I rx ry h
 .cases rx
  cases ry;have(aq,r1,p1,_):=I.tuple ha;have(gQ,r2,p2,_):=I.tuple hb;cases r1;exact X5 p1 p2 ⟨.ref b,H,I,rfl,q⟩
def wu:U->U->Qb U
 |.d (.tuple []),.d (.tuple ys)=>ž<|.d<|.tuple ys
 |a,b=>x9 a b
def PJ:VO K (M7 K) wu:=by
 intro x y a b u H Q ha hb e q;unfold wu at e;split at e
 .cases e
  have(p,us,rfl,h1,h2):=DF.aI ha;have(p',nN,rfl,m9,iz):=DF.aI hb;cases h2;exact .inr ⟨p,p',rfl,rfl,(bg.sq h1),⟨nN,(bg.sq m9)⟩,q _ _ (eI.refl H) hb Nw.data⟩
 .exact .inl (Yl x y _ _ u H Q ha hb e q)
end
def pM(K:qc)(g:Qg)(ns:Qa Int):Prop:=∃(o:Obj) (aq:Array Qc) (n:Nat),K.lookup g=ž o/\o.cls=.type "tuple"/\o.data=.seq aq n/\aq.size<=Ď/\zY (ns.map V.int) aq.toList
section
variable{X:Cx}
def pM.sq{g:Qg}(h:pM K g ns):bT K H g (ns.map V.int):=.inr h
def PH:∀(ns:Qa Int),mF K H (ns.map V.int)<|ns.map Ģ
 |[]=>.nil
 |n::ns=>.cons (.int n)<|PH ns
def pM.dv{g:Qg}(h:pM K g ns):DV K H (.ref g) (.tuple<|ns.map Ģ):=.tup h.sq (PH ns)
def Fp(neg:Bool)(ns:Qa Int)(a:U):Qb U:=pU neg a (.d<|.tuple<|ns.map Ģ)
def zBU{neg:Bool}{g:Qg}{me:ME}(gt:pM K g ns)(h:VE K te me):VE K (pf (B5 K neg) te<|tC<|.ref g) (cI (Fp neg ns) me):=by
 intro ρ σ H a ao Q rs e q;obtain⟨⟨a1,aw⟩,e1,e⟩:=bQ e;have(x,ex,e):=bQ e;have(u,eu,e):=bQ e;cases e;refine h ρ σ H a1 _ _ rs e1 λv1 H1 g1 k1=>?_;have p:=k1.now rs g1 ex;have(dx,e2,eu):=bQ eu;have(dy,e3,eu):=bQ eu;cases e3;split at eu
 .rename_i hs
  cases eu;exact⟨dx,_,p.dv e2<|DM _<|a0J hs.1,gt.dv,hs.1,hs.2,q _ _ g1 ⟨DF.bl _,Nw.data⟩⟩
 .cases eu
end
def nr{α:Sort _}{a b:α}(h:a=b):a=b:=h
structure Ph {α:Type} (a:α):Type where
 n:Nat
def Wo(o:Qb α)(Q:α->Prop):Prop:=∃a,o=ž a/\Q a
def Co(f:α->Qb β)(t:Ph f)(Q:β->Prop)(a:α):Prop:=Wo (f a) Q
section
variable{a:α}{o:Qb α}{f:α->Qb β}{Q:α->Prop}{R:β->Prop}
def fX:Wo (ž a) Q=Q a:=propext ⟨λ⟨_,e,h⟩=>(by cases e;exact h),λh=>⟨a,rfl,h⟩⟩
def zw:Wo (o.bind f) R=Wo o (Co f ⟨0⟩ R):=propext (by
 cases o with
 |none=>exact⟨λ⟨_,e,_⟩=>(by cases e),λ⟨_,e,_⟩=>(by cases e)⟩
 |some a=>rw[fX];exact Iff.rfl)
def lL{t:Ph f}:Co f t R a=Wo (f a) R:=rfl
def mW{c:Prop}[Decidable c]{x y:Qb α}(h:c->Wo x Q)(h':¬c->Wo y Q):Wo (if c then x else y) Q:=by
 split
 .exact h ‹_›
 .exact h' ‹_›
end
section
variable{ρ:En}{me ma mb mc mk mi md my mv mo:ME}{mA mK:MA}{mt mu:MT}{mI:MI}{mg:MG}{m1 m2:MS}{u:U}{x:D}{mx:MX}{mXA:K4}
variable{QE:Ar×En->Prop}{QA:Qa Ar×En->Prop}{QT:Bool×En->Prop}{QS:Fl->Prop}{QI:Qa D×En->Prop}{QO:Qb Int×En->Prop}{QG:En->Prop}{QX:RX Ar->Prop}{QXA:RX (Qa Ar)->Prop}{QR:D×En->Prop}{QF:U×Qa U->Prop}{KY:(U×Qa U) ⊕ (D×Qa U)->Prop}
def OR:Wo (zf i ρ) QE=Wo (ρ[i]?).join (Co (λ_=>ž (.s i,ρ)) ⟨0⟩ QE):=by rw[Vj,zw]
def Ld:Wo (mC x ρ) QE=QE (.u<|.d x,ρ):=by rw[zCW,fX]
def BF(f:U->U->Qb U)(a:Ar)(q:Ar×En):Qb (Ar×En):=(a.get q.2).bind λx=>(q.1.get q.2).bind λy=>(f x y).bind λu=>ž (.u u,q.2)
def Jy(f:U->U->Qb U)(mb:ME)(p:Ar×En):Qb (Ar×En):=(mb p.2).bind (BF f p.1)
def X2{f:U->U->Qb U}:Wo (af f ma mb ρ) QE=Wo (ma ρ) (Co (Jy f mb) ⟨0⟩ QE):=by rw[zBe,zw];rfl
def zrQ{f:U->U->Qb U}{p:Ar×En}:Wo (Jy f mb p) QE=Wo (mb p.2) (Co (BF f p.1) ⟨0⟩ QE):=by unfold Jy;rw[zw]
def zBV{f:U->Qb U}:Wo (cI f ma ρ) QE=Wo (ma ρ) (Co (λp=>(p.1.get p.2).bind λx=>(f x).bind λu=>ž (.u u,p.2)) ⟨0⟩ QE):=by rw[zBf,zw]
def OQ:Wo (zn ρ) QA=QA ([],ρ):=by rw[Vi,fX]
def X4:Wo (zb me mA ρ) QA=Wo (me ρ) (Co (λp=>(mA p.2).bind λq=>ž (p.1::q.1,q.2)) ⟨0⟩ QA):=by rw[Yk,zw]
def zrR:Wo (aR mA ρ) QE=Wo (mA ρ) (Co (λp=>(bW p.2 p.1).bind λus=>(iS us).bind λds=>if ds.length<=Ď then ž (.u<|.d<|.tuple ds,p.2)else Ž) ⟨0⟩ QE):=by rw[Vh,zw]
def zrS:Wo (dW mA ρ) QE=Wo (mA ρ) (Co (λp=>(bW p.2 p.1).bind λus=>(iS us).bind λds=>if ds.length<=Ď then ž (.u<|.l ds,p.2)else Ž) ⟨0⟩ QE):=by rw[Vg,zw]
def zBW{f:Qa U->Qb U}:Wo (bf f mA ρ) QE=Wo (mA ρ) (Co (λp=>(bW p.2 p.1).bind λus=>(f us).bind λu=>ž (.u u,p.2)) ⟨0⟩ QE):=by rw[zBg,zw]
def VG{f:FD}:Wo (zK f mA ρ) QE=Wo (mA ρ) (Co (λp=>if gL p.2 p.1=ż then(bW p.2 p.1).bind λus=>(f us).bind λo=>ž (.u o.1,wb p.2 p.1 o.2)else Ž) ⟨0⟩ QE):=by rw[Vf,zw]
def zrT:Wo (zz m1 m2 ρ) QS=Wo (m1 ρ) (Co (mN m2) ⟨0⟩ QS):=by rw[Vd,zw]
def VF:Wo (zR i me ρ) QS=Wo (me ρ) (Co (λp=>(put p).bind λq=>ž<|.nx<|q.2.set i<|some q.1) ⟨0⟩ QS):=by rw[MU,zw]
def zrU:Wo (aW me ρ) QS=Wo (me ρ) (Co (λp=>(put p).bind λq=>ž<|.rt q.1 q.2) ⟨0⟩ QS):=by rw[Vc,zw]
def zoe:Wo (oK pn i ρ) QS=Wo (if i∈pn then Ž else(ρ[i]?).join.bind λu=>ž<|.rt u<|ρ.set i Ž) QS:=by rw[Yj]
def P1:Wo (zS ρ) QS=QS (.nx ρ):=by rw[Yi,fX]
def YH:Wo (du me ρ) QS=Wo (me ρ) (Co (λp=>ž<|.nx p.2) ⟨0⟩ QS):=by rw[Yh,zw]
def VD:Wo (aT mt m1 m2 ρ) QS=Wo (mt ρ) (Co (λp=>if p.1=ż then m1 p.2 else m2 p.2) ⟨0⟩ QS):=by rw[Vb,zw]
def zrV:Wo (AG mt ma mb ρ) QE=Wo (mt ρ) (Co (λp=>if p.1=ż then ma p.2 else mb p.2) ⟨0⟩ QE):=by rw[zBj,zw]
def zCZ:Wo (mB me ρ) QT=Wo (me ρ) (Co (λp=>(p.1.get p.2).bind λu=>u.nu.bind λb=>ž (b,p.2)) ⟨0⟩ QT):=by rw[zCX,zw]
def zrW:Wo (jn mt mu ρ) QT=Wo (mt ρ) (Co (λp=>if p.1=ż then mu p.2 else ž (Ż,p.2)) ⟨0⟩ QT):=by rw[Va,zw]
def X1:Wo (eQ mt mu ρ) QT=Wo (mt ρ) (Co (λp=>if p.1=ż then ž (ż,p.2)else mu p.2) ⟨0⟩ QT):=by rw[zBk,zw]
def zrX:Wo (hV mt ρ) QT=Wo (mt ρ) (Co (λp=>ž (!p.1,p.2)) ⟨0⟩ QT):=by rw[U9,zw]
def zof:Wo (t7 ma mb ρ) QE=Wo (mB ma ρ) (Co (λp=>if p.1=ż then mb p.2 else ž (.u<|.d<|.bool Ż,p.2)) ⟨0⟩ QE):=by rw[Yg,zw]
def zog:Wo (yc ma ρ) QE=Wo (mB ma ρ) (Co (λp=>ž (.u<|.d<|.bool (!p.1),p.2)) ⟨0⟩ QE):=by rw[Yf,zw]
def zrY:Wo (B4 ma ρ) QT=Wo (ma ρ) (Co (λp=>(p.1.get p.2).bind λu=>u.wQ.bind λb=>ž (b,p.2)) ⟨0⟩ QT):=by rw[U8,zw]
def zrZ:Wo (tV ρ) QT=QT (ż,ρ):=by rw[U7,fX]
def zr0:Wo (cX i me ρ) QE=Wo (ρ[i]?).join (Co (λw=>w.lo.bind λ_=>(me ρ).bind λp=>(p.1.get p.2).bind λu=>u.da.bind λx=>(p.2[i]?).join.bind λw=>w.lo.bind λxs=>if xs.length < Ď then ž (.u<|.d .none,p.2.set i<|some<|.l<|xs++[x])else Ž) ⟨0⟩ QE):=by rw[U6,zw]
def zk8:Wo (rR i me mi ρ) QS=Wo (ρ[i]?).join (Co (λ_=>(me ρ).bind λp=>(mi p.2).bind λq=>(p.1.get q.2).bind λu=>(q.1.get q.2).bind λw=>u.da.bind λx=>w.num.bind λk=>(q.2[i]?).join.bind λz=>z.lo.bind λxs=>(eV xs.length k).bind λj=>ž<|.nx<|q.2.set i<|some<|.l<|xs.set j x) ⟨0⟩ QS):=by rw[zrv,zw]
def Gv(w:U)(y x:D):Qb U:=match w with
 |.t kvs=>(d6 y).bind λk=>if kvs.length < Ď then ž (.t<|mP kvs k x)else Ž
 |.k kvs=>(tX y).bind λk=>if kvs.length < Ď then ž (.k<|mP kvs k x)else Ž
 |_=>Ž
def YG:p6 i my mv ρ=(ρ[i]?).join.bind λ_=>(mv ρ).bind λp=>(my p.2).bind λq=>(p.1.get q.2).bind λx=>(q.1.get q.2).bind λy=>x.da.bind λx=>y.da.bind λy=>(q.2[i]?).join.bind λw=>(Gv w y x).bind λz=>ž (.nx<|q.2.set i<|some z):=by
 unfold p6;refine bind_fn λ_=>bind_fn λp=>bind_fn λq=>bind_fn λx=>bind_fn λy=>?_;cases x with
 |l=>rfl
 |t=>rfl
 |k=>rfl
 |o=>rfl
 |d x=>
  cases y with
  |l=>rfl
  |t=>rfl
  |k=>rfl
  |o=>rfl
  |d y=>
   show _=((q.2[i]?).join.bind _);cases q.2[i]? with
   |none=>rfl
   |some o=>
    cases o with
    |none=>rfl
    |some w=>
     cases w with
     |l=>rfl
     |d=>rfl
     |o=>rfl
     |t kvs=>
      show(d6 y).bind _=((d6 y).bind _).bind _;cases d6 y with
      |none=>rfl
      |some k=>
       show(if _ then _ else _)=(if _ then _ else _:Qb U).bind _;split<;>rfl
     |k kvs=>
      show(tX y).bind _=((tX y).bind _).bind _;cases tX y with
      |none=>rfl
      |some k=>
       show(if _ then _ else _)=(if _ then _ else _:Qb U).bind _;split<;>rfl
def zoh:Wo (p6 i my mv ρ) QS=Wo (ρ[i]?).join (Co (λ_=>(mv ρ).bind λp=>(my p.2).bind λq=>(p.1.get q.2).bind λx=>(q.1.get q.2).bind λy=>x.da.bind λx=>y.da.bind λy=>(q.2[i]?).join.bind λw=>(Gv w y x).bind λz=>ž<|.nx<|q.2.set i<|some z) ⟨0⟩ QS):=by rw[YG,zw]
def zoi:Wo (lJ md my ρ) QE=Wo (md ρ) (Co (λp=>(my p.2).bind λq=>(p.1.get q.2).bind λu=>(q.1.get q.2).bind λy=>(oE u y).bind λo=>o.bind λd=>ž (.u<|.d d,q.2)) ⟨0⟩ QE):=by rw[Ye,zw]
def zk9:Wo (mZ ρ) QE=QE (.u<|.t [],ρ):=by rw[zrw,fX]
def X0:Wo (bX me ρ) QE=Wo (me ρ) (Co (λp=>(p.1.get p.2).bind λu=>u.fz.bind λx=>ž (.u<|.d x,Eu x p)) ⟨0⟩ QE):=by rw[zBn,zw]
def XZ{g:U->Qb (Qa D)}:Wo (i5 g me ρ) QI=Wo (me ρ) (Co (λp=>(p.1.get p.2).bind λu=>(g u).bind λds=>ž (ds,p.2)) ⟨0⟩ QI):=by rw[zBq,zw]
def XY{n:Int}(h:-4611686018427387904<=n)(h2:n < 4611686018427387904):BL [.d<|.int n]=ž (jy 0 n.toNat):=by rw[U5,a5L ⟨by omega,by omega⟩]
def zoj:Wo (mT mA ρ) QI=Wo (mA ρ) (Co (λp=>(bW p.2 p.1).bind λus=>(BL us).bind λds=>ž (ds,p.2)) ⟨0⟩ QI):=by rw[Yd,zw]
def zDc:Qa U->Qb (Qa D)
 |[.d<|.int i,.d<|.int j]=>if -(2^62)<=i/\i < 2^62/\-(2^62)<=j/\j < 2^62 then ž (jy i (j - i).toNat)else Ž
 |_=>Ž
def Gu:Qa U->Qb (Qa D)
 |[.d<|.tuple ds]=>ž<|sF 0 ds
 |_=>Ž
def zok{ds:Qa D}:Gu [.d<|.tuple ds]=ž (sF 0 ds):=rfl
def YF:Cq mA ρ=(mA ρ).bind λp=>(bW p.2 p.1).bind λus=>(Gu us).bind λds=>ž (ds,p.2):=bind_fn λp=>bind_fn λus=>by
 match us with
 |[]=>rfl
 |[.d x]=>cases x<;>rfl
 |[.l _]=>rfl
 |[.t _]=>rfl
 |[.k _]=>rfl
 |[.o _ _]=>rfl
 |.d x::b::us=>cases x<;>rfl
 |.l x::b::us=>rfl
 |.t x::b::us=>rfl
 |.k x::b::us=>rfl
 |.o x y::b::us=>rfl
def zol:Wo (Cq mA ρ) QI=Wo (mA ρ) (Co (λp=>(bW p.2 p.1).bind λus=>(Gu us).bind λds=>ž (ds,p.2)) ⟨0⟩ QI):=by rw[YF,zw]
def zr3:Wo (hU mI mg m1 ρ) QS=Wo (mI ρ) (Co (λp=>iR mg m1 p.1 p.2) ⟨0⟩ QS):=by rw[U4,zw]
def zr4:Wo (nR mI nt js mg mt me ρ) QE=Wo (mI ρ) (Co (λp=>(j0 nt mg mt me p.1 (jf nt js p.2) []).bind λq=>ž (.u<|.l q.1,back js (q.2.drop nt) p.2)) ⟨0⟩ QE):=by rw[zBr,zw]
def XX{f:U->Qb Int->Qb Int->Qb U}{ml mh:MO}:Wo (sW f me ml mh ρ) QE=Wo (me ρ) (Co (λp=>(ml p.2).bind λl=>(mh l.2).bind λh=>(p.1.get h.2).bind λx=>(f x l.1 h.1).bind λu=>ž (.u u,h.2)) ⟨0⟩ QE):=by rw[zBs,zw]
def zi3:Wo (sA ρ) QO=QO (Ž,ρ):=by rw[zp0,fX]
def zom:Wo (rM me ρ) QO=Wo (me ρ) (Co (λp=>(p.1.get p.2).bind λu=>u.num.bind λi=>ž (ž i,p.2)) ⟨0⟩ QO):=by rw[Yc,zw]
def zr5:Wo (B2 i j mA ρ) QS=Wo (mA ρ) (Co (λp=>(bW p.2 p.1).bind λus=>(Fk us).bind λz=>ž<|.nx<|(p.2.set i<|some<|.d z.1).set j<|some<|.d z.2) ⟨0⟩ QS):=by rw[U3,zw]
def zr6:Wo (gX me mg ρ) QS=Wo (me ρ) (Co (λp=>(p.1.get p.2).bind λu=>u.da.bind λd=>(mg d p.2).bind λao=>ž<|.nx ao) ⟨0⟩ QS):=by rw[U2,zw]
def zla:Wo (zF i x ρ) QG=QG (ρ.set i<|some<|.d x):=by rw[zrA,fX]
def zon{gs:Qa D->En->Qb En}{ds:Qa D}:Wo (fG n gs (.tuple ds) ρ) QG=Wo (if ds.length=n then gs ds ρ else Ž) QG:=by rw[Yb]
def zlb{g:MG}{gs:Qa D->En->Qb En}{ds:Qa D}:Wo (zW g gs (x::ds) ρ) QG=Wo (g x ρ) (Co (λaw=>gs ds aw) ⟨0⟩ QG):=by rw[zrB,zw]
def zoo:Wo (gC [] ρ) QG=QG ρ:=by rw[Ya,fX]
def XW{ty:U->Bool}{f:U->U->Qb U}:Wo (Ep ty f mo ma ρ) QE=Wo (mo ρ) (Co (λp=>(p.1.get p.2).bind λx0=>if ty x0=ż then(ma p.2).bind λq=>(p.1.get q.2).bind λx=>(q.1.get q.2).bind λy=>(f x y).bind λu=>ž (.u u,q.2)else Ž) ⟨0⟩ QE):=by
 show Wo (Ξ _ _) QE=_;rw[zw]
def WO{z:Str}:Am (.d<|.str z)=ż:=rfl
def zr7{f f':U->U->Qb U}:yx f f' ma mb mc ρ=(ma ρ).bind λp=>(mb p.2).bind λq=>(p.1.get q.2).bind λx=>(q.1.get q.2).bind λy=>(f x y).bind λr=>r.nu.bind λb=>if b=ż then(mc q.2).bind λs=>(q.1.get s.2).bind λy'=>(s.1.get s.2).bind λz=>(f' y' z).bind λu=>ž (.u u,s.2)else ž (.u<|.d<|.bool Ż,q.2):=by
 refine bind_fn λp=>bind_fn λq=>bind_fn λx=>bind_fn λy=>bind_fn λr=>?_;cases r with
 |d x=>cases x with
  |bool b=>cases b<;>rfl
  |_=>rfl
 |l=>rfl
 |t=>rfl
 |k=>rfl
 |o=>rfl
def zlc{f f':U->U->Qb U}:Wo (yx f f' ma mb mc ρ) QE=Wo (ma ρ) (Co (λp=>(mb p.2).bind λq=>(p.1.get q.2).bind λx=>(q.1.get q.2).bind λy=>(f x y).bind λr=>r.nu.bind λb=>if b=ż then(mc q.2).bind λs=>(q.1.get s.2).bind λy'=>(s.1.get s.2).bind λz=>(f' y' z).bind λu=>ž (.u u,s.2)else ž (.u<|.d<|.bool Ż,q.2)) ⟨0⟩ QE):=by rw[zr7,zw]
def x1:Qa D->Qb D
 |[x]=>ž x
 |_=>Ž
def zBX:x1 [x]=ž x:=rfl
def zBY{n:Str}:UZ n f mA ρ=(mA ρ).bind λp=>(bW p.2 p.1).bind λus=>(iS us).bind λds=>(x1 ds).bind λx=>ž (.u<|.d<|.dict [(.none,.str n),(.str f,x)],p.2):=bind_fn λp=>bind_fn λus=>bind_fn λds=>match ds with
 |[]=>rfl
 |[_]=>rfl
 |_::_::_=>rfl
def zBZ{n:Str}:AF n f mA ρ=(mA ρ).bind λp=>(bW p.2 p.1).bind λus=>(iS us).bind λds=>(x1 ds).bind λx=>ž (.dict [(.none,.str n),(.str f,x)],p.2):=bind_fn λp=>bind_fn λus=>bind_fn λds=>match ds with
 |[]=>rfl
 |[_]=>rfl
 |_::_::_=>rfl
def WN{n:Str}:Wo (AF n f mA ρ) QR=Wo (mA ρ) (Co (λp=>(bW p.2 p.1).bind λus=>(iS us).bind λds=>(x1 ds).bind λx=>ž (.dict [(.none,.str n),(.str f,x)],p.2)) ⟨0⟩ QR):=by rw[zBZ,zw]
def zld{m:En->Qb (D×En)}:Wo (CM m ρ) QS=Wo (m ρ) (Co (λp=>ž<|.ex p.1 p.2) ⟨0⟩ QS):=by show Wo (Ξ _ _) QS=_;rw[zw]
def zop{f:FX}:Wo (ym f mA ρ) QX=Wo (mA ρ) (Co (λp=>if gL p.2 p.1=ż then(bW p.2 p.1).bind λus=>(f us).bind λo=>ž (BG p.2 p.1 o)else Ž) ⟨0⟩ QX):=by show Wo (Ξ _ _) QX=_;rw[zw]
def zr8{as:Qa Ar}{o:U×Qa U}:BG ρ as (.inl o)=.inl (.u o.1,wb ρ as o.2):=rfl
def zr9{as:Qa Ar}{o:D×Qa U}:BG ρ as (.inr o)=.inr (o.1,wb ρ as o.2):=rfl
noncomputable def kX{α β:Type}(f:α×En->Qb β)(g:D×En->Qb β):RX α->Qb β
 |.inl p=>f p
 |.inr z=>g z
def VB{m:En->Qb (RX α)}:pE m ρ=(m ρ).bind (kX ž λ_=>Ž):=bind_fn λr=>by cases r<;>rfl
def zsa{m:En->Qb (RX α)}{Q:α×En->Prop}:Wo (pE m ρ) Q=Wo (m ρ) (Co (kX ž λ_=>Ž) ⟨0⟩ Q):=by rw[VB,zw]
def YE{mS:ME->MS}{k:Ar×En->Qb Fl}(h:∀me:ME,mS me ρ=(me ρ).bind k):tR mS mx ρ=(mx ρ).bind (kX k λz=>ž<|.ex z.1 z.2):=by
 unfold tR;rw[h<|pE mx];unfold pE;cases mx ρ with
 |none=>rfl
 |some r=>cases r<;>rfl
def zoq:Wo (tR (zR i) mx ρ) QS=Wo (mx ρ) (Co (kX (λp=>(put p).bind λq=>ž<|.nx<|q.2.set i<|some q.1) λz=>ž<|.ex z.1 z.2) ⟨0⟩ QS):=by rw[YE λ_=>MU,zw]
def Fo(tab:Qa (Str×Qa Str))(c:Str)(i:Nat)(mh:MS):Fl->Qb Fl
 |.ex x ao=>if under tab c x=ż then(mh<|ao.set i<|some<|.d x).bind (EU i)else Ž
 |f=>ž f
def zsb:Wo (Fi tab c i m1 m2 ρ) QS=Wo (m1 ρ) (Co (Fo tab c i m2) ⟨0⟩ QS):=by
 rw[<-zw];exact congrArg (Wo · QS) (bind_fn λf=>by cases f<;>rfl)
def zor:Fo tab c i m2 (.nx ρ)=ž (.nx ρ):=rfl
def zos:Fo tab c i m2 (.ex x ρ)=if under tab c x=ż then(m2<|ρ.set i<|some<|.d x).bind (EU i)else Ž:=rfl
def zsc:EU i (.nx ρ)=ž (.nx<|ρ.set i Ž):=rfl
def zsd{us:Qa U}:Wo (cY n pn m1 us) QF=Wo (m1<|sm us++č (n - us.length) Ž) (Co (BK pn us) ⟨0⟩ QF):=by rw[U0,zw]
def zot{us:Qa U}:Wo (tQ n pn m1 us) KY=Wo (m1<|sm us++č (n - us.length) Ž) (Co (Ca pn us) ⟨0⟩ KY):=by
 show Wo (Ξ _ _) KY=_;exact zw
def zle{us:Qa U}:Ca pn us (.rt u ρ)=(dY pn ρ 0 us).bind λos=>ž (.inl (u,os)):=rfl
def zlf{us:Qa U}:Ca pn us (.ex x ρ)=(dY pn ρ 0 us).bind λos=>ž (.inr (x,os)):=rfl
def rK(Q:Fl->Prop)(P:En->Prop):Fl->Prop
 |.nx ρ=>P ρ
 |.ct ρ=>P ρ
 |.bk ρ=>Q<|.nx ρ
 |.rt u ρ=>Q<|.rt u ρ
 |.ex x ρ=>Q<|.ex x ρ
def zlg{Q:Fl->Prop}{P:En->Prop}:rK Q P (.nx ρ)=P ρ:=rfl
def zlh{Q:Fl->Prop}{P:En->Prop}:rK Q P (.ct ρ)=P ρ:=rfl
def uh{Q:Fl->Prop}(P:Nat->En->Prop){ds:Qa D}(h0:P 0 ρ)(st:∀i d ρ,ds[i]?=ž d->P i ρ->Wo (mg d ρ) (Co m1 ⟨0⟩<|rK Q<|P<|i+1))(hQ:∀ρ,P ds.length ρ->Q (.nx ρ)):Wo (iR mg m1 ds ρ) Q:=by
 have main:∀(es:Qa D) (n:Nat) (ρ:En),n+es.length=ds.length->(∀i,es[i]?=ds[n+i]?)->P n ρ->Wo (iR mg m1 es ρ) Q:=by
  intro es
  induction es with
  |nil=>
   intro n ρ hn _ hp;show Wo (ž _) Q;rw[fX];rw[Ő,Ϩ]at hn;exact hQ ρ<|hn▸hp
  |cons d es ih=>
   intro n ρ hn he hp;have e0:=he 0;rw[ϵ,Ϩ]at e0;have(aw,e1,f,e2,k):=st n d ρ e0.symm hp;have nQ:∀aD,P (n+1) aD->Wo (iR mg m1 es aD) Q:=λaD z=>ih (n+1) aD (by rw[qt]at hn;omega) (λi=>by
    have:=he (i+1);rw[Ϸ]at this;rw[this,show n+(i+1)=n+1+i by omega]) z
   unfold iR;rw[zw];refine⟨aw,e1,?_⟩;rw[lL,zw];refine⟨f,e2,?_⟩;rw[lL];cases f with
   |nx aD=>exact nQ aD k
   |ct aD=>exact nQ aD k
   |bk aD=>exact⟨_,rfl,k⟩
   |rt u aD=>exact⟨_,rfl,k⟩
   |ex x aD=>exact⟨_,rfl,k⟩
 exact main ds 0 ρ (by omega) (λi=>by rw[Š]) h0
def ux{g:α->D}{Q:Fl->Prop}(P:Qa α->Qa α->En->Prop)(h0:P [] as ρ)(st:∀bs a cs ρ,as=bs++a::cs->P bs (a::cs) ρ->Wo (mg (g a) ρ) (Co m1 ⟨0⟩<|rK Q<|P (bs++[a]) cs))(hQ:∀ρ,P as [] ρ->Q (.nx ρ)):Wo (iR mg m1 (as.map g) ρ) Q:=by
 have main:∀(cs bs:Qa α) (ρ:En),as=bs++cs->P bs cs ρ->Wo (iR mg m1 (cs.map g) ρ) Q:=by
  intro cs
  induction cs with
  |nil=>
   intro bs ρ e hp;rw[ŕ]at e;subst e;exact⟨_,rfl,hQ ρ hp⟩
  |cons a cs ih=>
   intro bs ρ e hp;have(aw,e1,f,e2,k):=st bs a cs ρ e hp;have nQ:∀aD,P (bs++[a]) cs aD->Wo (iR mg m1 (cs.map g) aD) Q:=λaD z=>ih (bs++[a]) aD (by rw[e,Ķ];rfl) z;rw[Ē];unfold iR;rw[zw];refine⟨aw,e1,?_⟩;rw[lL,zw];refine⟨f,e2,?_⟩;rw[lL];cases f with
   |nx aD=>exact nQ aD k
   |ct aD=>exact nQ aD k
   |bk aD=>exact⟨_,rfl,k⟩
   |rt u aD=>exact⟨_,rfl,k⟩
   |ex x aD=>exact⟨_,rfl,k⟩
 exact main as [] ρ rfl h0
def wY(nt:Nat)(me:ME)(ys:Qa D)(P:En->Qa D->Prop)(p:Bool×En):Prop:=if p.1=ż then Wo (me p.2) (Co (λq=>(q.1.get q.2).bind λu=>u.da.bind λy=>ž (reset nt q.2,ys++[y])) ⟨0⟩ λz=>P z.1 z.2)else P (reset nt p.2) ys
def MC{ys:Qa D}{P:En->Qa D->Prop}:wY nt me ys P (ż,ρ)=Wo (me ρ) (Co (λq=>(q.1.get q.2).bind λu=>u.da.bind λy=>ž (reset nt q.2,ys++[y])) ⟨0⟩ λz=>P z.1 z.2):=rfl
def WM{ys:Qa D}{P:En->Qa D->Prop}:wY nt me ys P (Ż,ρ)=P (reset nt ρ) ys:=rfl
def Lr{Q:Qa D×En->Prop}(P:Nat->En->Qa D->Prop){ds:Qa D}(hz:ds.length<=Ď)(hP:∀i ρ ys,P i ρ ys->ys.length<=i)(h0:P 0 ρ [])(st:∀i d ρ ys,ds[i]?=ž d->P i ρ ys->Wo (mg d ρ) (Co mt ⟨0⟩<|wY nt me ys<|P<|i+1))(hQ:∀ρ ys,P ds.length ρ ys->Q (ys,ρ)):Wo (j0 nt mg mt me ds ρ []) Q:=by
 have main:∀(es:Qa D) (n:Nat) (ρ:En) (ys:Qa D),n+es.length=ds.length->(∀i,es[i]?=ds[n+i]?)->P n ρ ys->Wo (j0 nt mg mt me es ρ ys) Q:=by
  intro es
  induction es with
  |nil=>
   intro n ρ ys hn _ hp;rw[Ő,Ϩ]at hn;exact⟨_,rfl,hQ ρ ys<|hn▸hp⟩
  |cons d es ih=>
   intro n ρ ys hn he hp;have e0:=he 0;rw[ϵ,Ϩ]at e0;obtain⟨aw,e1,⟨b,aD⟩,e2,k⟩:=st n d ρ ys e0.symm hp;have hl:=hP _ _ _ hp;rw[qt]at hn;have nQ:∀aD Ea,P (n+1) aD Ea->Wo (j0 nt mg mt me es aD Ea) Q:=λaD Ea z=>ih (n+1) aD Ea (by omega) (λi=>by
    have:=he (i+1);rw[Ϸ]at this;rw[this,show n+(i+1)=n+1+i by omega]) z
   unfold j0;rw[a5L (by omega),zw];refine⟨aw,e1,?_⟩;rw[lL,zw];refine⟨_,e2,?_⟩;rw[lL];cases b with
   |false=>rw[a5M qf];exact nQ _ _ k
   |true=>
    rw[a5L rfl,zw];have(q,e3,k):=k;refine⟨q,e3,?_⟩;rw[lL,zw]at k ⊢;have(u,e4,k):=k;refine⟨u,e4,?_⟩;rw[lL,zw]at k;have(y,e5,z,e6,k):=k;cases u with
    |d y'=>cases e5;cases e6;exact nQ _ _ k
    |l=>cases e5
    |t=>cases e5
    |k=>cases e5
    |o=>cases e5
 exact main ds 0 ρ [] (by omega) (λi=>by rw[Š]) h0
def O3{Q:Fl->Prop}(P:Nat->En->Prop)(k:Nat)(h0:P k ρ)(st:∀k ρ,P k ρ->Wo (mt ρ) λp=>if p.1=ż then Wo (m1 p.2) (rK Q λao=>∃k',k' < k/\P k' ao)else Q (.nx p.2)):Wo (ub mt m1 ρ) Q:=by
 have main:∀(k:Nat) (ρ:En),P k ρ->∃n f,iQ mt m1 n ρ=ž f/\Q f:=by
  intro k
  induction k using a1f with
  |ind k ih=>
   intro ρ hp;obtain⟨⟨b,aw⟩,e1,z⟩:=st k ρ hp;cases b with
   |false=>
    rw[a5M qf]at z;exact⟨1,_,by unfold iQ;rw[e1];rfl,z⟩
   |true=>
    rw[a5L rfl]at z;have(f,e2,z):=z;have nQ:∀aD,(∃k',k' < k/\P k' aD)->f=.nx aD\/f=.ct aD->∃n f,iQ mt m1 n ρ=ž f/\Q f:=by
     rintro aD ⟨k',hk,hp'⟩ hf;have(n,f',e3,q):=ih k' hk aD hp';refine⟨n+1,f',?_,q⟩;unfold iQ;rw[e1,bd,a5L rfl,e2,bd];rcases hf with rfl|rfl<;>exact e3
    cases f with
    |nx aD=>exact nQ aD z<|.inl rfl
    |ct aD=>exact nQ aD z<|.inr rfl
    |bk aD=>exact⟨1,_,by unfold iQ;rw[e1,bd,a5L rfl,e2];rfl,z⟩
    |rt u aD=>exact⟨1,_,by unfold iQ;rw[e1,bd,a5L rfl,e2];rfl,z⟩
    |ex u aD=>exact⟨1,_,by unfold iQ;rw[e1,bd,a5L rfl,e2];rfl,z⟩
 have(n,f,e,q):=main k ρ h0;exact⟨f,zrk e,q⟩
end
def fH{o:Qb α}{b:α}(h:Wo o (λa=>a=b)):o=ž b:=by
 have(a,e,rfl):=h;exact e
def zsf{f:α×En->Qb β}{g:D×En->Qb β}{p:α×En}:kX f g (.inl p)=f p:=rfl
def zsg{f:α×En->Qb β}{g:D×En->Qb β}{p:D×En}:kX f g (.inr p)=g p:=rfl
def vI:Ď=16777216:=Eq.trans zl (Eq.symm<|Eq.symm<|Ϩ _)
def zsh{dc:Decidable (n < 16777216)}{a b:Qb α}(h:n < 16777216):(if n < 16777216 then a else b)=a:=a5L h
def HA{xs:Qa α}{r:Int}(h0:0<=r)(h1:r < (xs.length:Int)):∃a,bA xs r=ž a/\a∈xs/\xs[r.toNat]?=ž a:=by
 have hk:r.toNat < xs.length:=by omega
 have ek:r=((r.toNat:Nat):Int):=by omega
 have q:bA xs ((r.toNat:Nat):Int)=ž xs[r.toNat]:=yF (ql hk);rw[<-ek]at q;exact⟨_,q,a2p hk,ql hk⟩
def CL{xs:Qa D}{r:Int}{Q:U->Prop}(h0:0<=r)(h1:r < (xs.length:Int))(k:∀a∈xs,Q<|.d a):Wo ((bA xs r).map U.d) Q:=by
 have(a,e,m,_):=HA h0 h1;rw[e];exact⟨_,rfl,k a m⟩
def VA{f:α->D}{xs:Qa α}{r:Int}{Q:U->Prop}(h0:0<=r)(h1:r < (xs.length:Int))(k:∀a∈xs,xs[r.toNat]?=ž a->Q (.d<|f a)):Wo ((bA (xs.map f) r).map U.d) Q:=by
 have(a,e,m,z):=HA (xs:=xs.map f) h0 (by rw[ċ];exact h1);rw[ė]at z;have(b,hb,rfl):=qq.mp z;rw[e];exact⟨_,rfl,k b (Í hb) hb⟩
def Lq{lo:Int}{d:D}(h:(jy lo n)[i]?=ž d):i < n/\d=.int (lo+(i:Nat)):=Ij h
def G9{lo:Int}:(jy lo n).length=n:=by
 unfold jy;rw[ċ,Β]
def Lp{ρ:En}{mg:MG}{m1:MS}{Q:Fl->Prop}(P:Nat->En->Prop)(h0:P 0 ρ)(st:∀i ρ,i < n->P i ρ->Wo (mg (.int<|0+(i:Nat)) ρ) (Co m1 ⟨0⟩<|rK Q<|P<|i+1))(hQ:∀ρ,P n ρ->Q (.nx ρ)):Wo (iR mg m1 (jy 0 n) ρ) Q :=
 uh P h0 (λi d ρ hd hp=>by
  have(hi,rfl):=Lq hd;exact st i ρ hi hp) λρ hp=>hQ ρ (by rw[G9]at hp;exact hp)
def NL{ρ:En}{mg:MG}{mt:MT}{me:ME}{Q:Qa D×En->Prop}(P:Nat->En->Qa D->Prop)(hz:n<=Ď)(h0:P 0 ρ [])(hP:∀i ρ ys,P i ρ ys->ys.length<=i)(st:∀i ρ ys,i < n->P i ρ ys->Wo (mg (.int<|0+(i:Nat)) ρ) (Co mt ⟨0⟩<|wY nt me ys<|P<|i+1))(hQ:∀ρ ys,P n ρ ys->Q (ys,ρ)):Wo (j0 nt mg mt me (jy 0 n) ρ []) Q :=
 Lr P (by rw[G9];exact hz) hP h0 (λi d ρ ys hd hp=>by
  have(hi,rfl):=Lq hd;exact st i ρ ys hi hp) λρ ys hp=>hQ ρ ys (by rw[G9]at hp;exact hp)
def bN(n:Nat)(z:Str):Prop:=z.length<=n/\∀c∈z.cps.toList,c < 128
def bN.mono{z:Str}(h:bN n z)(hm:n<=m):bN m z:=⟨qx h.1 hm,h.2⟩
def bN.app{y:Str}(hx:bN n x)(hy:bN m y):bN (n+m) (x++y):=⟨by rw[PySem.Str.length_append];have:=hx.1;have:=hy.1;omega,λc hc=>by
 rw[PySem.Str.cps_append,ϩ,ğ]at hc;exact hc.elim (hx.2 c)<|hy.2 c⟩
def bN.one{c:Nat}(h:c < 128):bN 1 ⟨#[c]⟩:=⟨qe _,λd hd=>by
 cases qp.mp hd;exact h⟩
def bN.join:∀{ys:Qa Str},(∀z∈ys,bN n z)->bN (ys.length * n) (PySem.Str.join "" ys)
 |[],_=>⟨À _,λc hc=>by cases hc⟩
 |[x],h=>(h x qo).mono (by simp)
 |x::y::r,h=>by
  have:=((h x qo).app (show bN 0 "" from⟨qe _,λc hc=>by cases hc⟩)).app (bN.join λz hz=>h z<|qm _ hz);exact this.mono (by simp only[qt,a0x];omega)
def zp1{ys:Qa Str}(h:∀z∈ys,bN n z):bN (ys.length * n) (a0I "" ys):=by
 show bN _ (a5F "" ys);rw[PySem.StrLaws.glued_eq_join];exact bN.join h
def Vz{y:Str}(h:x.length+y.length<=16777216):p4 (.d<|.str x) (.d<|.str y)=ž (.d<|.str<|x++y):=by
 unfold p4;dsimp only;rw[a5L (by rw[zl];exact h)]
def yw{y:Str}{Q:U->Prop}(hx:bN n x)(hy:bN m y)(hn:n+m<=1000)(k:bN (n+m) (x++y)->Q (.d<|.str<|x++y)):Wo (p4 (.d<|.str x)<|.d<|.str y) Q:=by
 rw[Vz (by have:=hx.1;have:=hy.1;omega)];exact⟨_,rfl,k<|hx.app hy⟩
def Dw{z:Str}{r:Int}{Q:U->Prop}(h0:0<=r)(h1:r < (z.length:Int))(hz:z.length<=1000)(k:∀c∈z.cps.toList,Q<|.d<|.str ⟨#[c]⟩):Wo (tU (.d<|.str z)<|.d<|.int r) Q:=by
 have hl:z.length=z.cps.toList.length:=by rw[Ġ];rfl
 have(c,e,m,_):=HA (xs:=z.cps.toList) h0 (by rw[<-hl];exact h1);unfold tU;dsimp only;rw[a5L (by rw[zl];omega),e];exact⟨_,rfl,k c m⟩
def Qv:∀(zs:Qa Str),(zs.map ł).mapM xT=ž zs
 |[]=>rfl
 |z::zs=>by
  rw[Ē,a0f,Qv zs];rfl
def O2:∀{ys:Qa Str},(∀z∈ys,z.length<=n)->(ys.map (·.length)).sum<=ys.length * n
 |[],_=>by simp
 |y::ys,h=>by
  have:=O2 (ys:=ys) λz hz=>h z<|qm _ hz;have:=h y qo;simp only[Ē,ĺ,qt,a0x];omega
def NK{zs:Qa Str}{Q:U->Prop}(h:∀z∈zs,bN n z)(hl:zs.length<=m)(hm:m * n<=1000)(k:bN (m * n) (a0I "" zs)->Q (.d<|.str<|a0I "" zs)):Wo (vZ (.d<|.str "")<|.l<|zs.map ł) Q:=by
 have h1:=O2 (n:=n) λz hz=>(h z hz).1;have h2:zs.length * n<=m * n:=Ë _ hl;unfold vZ;dsimp only;rw[Qv,bd,a5L (by rw[show(("":Str)).length=0 by decide,Nat.mul_zero];omega)];exact⟨_,rfl,k<|(zp1 h).mono h2⟩
def HZ:∀(zs:Qa Str),(zs.map ł).mapM Bg=ž (zs.map V.str)
 |[]=>rfl
 |z::zs=>by
  rw[Ē,a0f,HZ zs];rfl
def zsi{xs:Qa D}{lo hi:Qb Int}:xO (.d<|.tuple xs) lo hi=ž (.d<|.tuple<|jG xs lo hi):=rfl
def P0{xs ys:Qa D}(h:xs.length+ys.length<=16777216):wu (.d<|.tuple xs) (.d<|.tuple ys)=ž (.d<|.tuple<|xs++ys):=by
 cases xs with
 |nil=>rfl
 |cons x xs=>
  show x9 (.d<|.tuple<|x::xs) (.d<|.tuple ys)=_;unfold x9;dsimp only;rw[a5L ⟨by simp,by rw[zl];exact h⟩]
def WL{i:Int}:iN "int" (.d<|.int i)=ž (.d<|.bool ż):=rfl
def WK{i:Int}:iN "bool" (.d<|.int i)=ž (.d<|.bool Ż):=rfl
def WJ{xs:Qa D}:iN "tuple" (.d<|.tuple xs)=ž (.d<|.bool ż):=rfl
def zsj{a b:String}:(η a=η b)=(a=b):=propext ⟨λh=>by
 rw[a1O,a1O]at h;have h1:=congrArg (λz:Str=>z.cps.toList) h;dsimp only at h1;exact String.toList_inj.mp<|a4P (λx y e=>Char.ext<|UInt32.toNat_inj.mp e) |>.mp h1,λh=>by rw[h]⟩
def YD{xs:Qa D}{lo hi:Qb Int}{x:D}(h:x∈jG xs lo hi):x∈xs:=by
 unfold jG at h;exact a4k<|a4j h
def YC(xs:Qa D)(lo hi:Qb Int):(jG xs lo hi).length<=xs.length:=by
 unfold jG;rw[Ŀ,ť];omega
structure gT (k M:Nat) (d:D):Prop where
 lay:d.canLay0=ż
 jc:d.depth<=k
 shw:d.showable=ż
 len:d.shown.length<=M
def gT.mono{k M k' M':Nat}{d:D}(h:gT k M d)(h1:k<=k')(h2:M<=M'):gT k' M' d:=⟨h.lay,qx h.jc h1,h.shw,qx h.len h2⟩
def ug{i:Int}(h:i.natAbs < 10^n)(h0:0 < n:=by decide)(h1:n<=470:=by decide):gT 0 (n+1) (.int i):=by
 refine⟨rfl,by simp[a0G],?_,?_⟩
 .show decide (i.natAbs.log2 < 1920)=ż
  refine a5N ?_
  by_cases z:i.natAbs=0
  .rw[z];decide
  .have e1:10^n<=16^n:=a4N (by decide) n
   have e2:16^n=2^(4 * n):=by rw[Nat.pow_mul]
   have e3:i.natAbs < 2^(4 * n):=by rw[<-e2];exact qi h e1
   exact qi ((a4C z).mpr e3) (by omega)
 .show(η<|toString i).length<=n+1
  rw[PySem.ofString_length];exact PySem.int_text_length_le10 h0 h
def YB{z:Str}(h:bN n z):gT 0 (10 * n+2) (.str z):=by
 refine⟨?_,by simp[a0G],rfl,?_⟩
 .show z.cps.all (· < 0x110000)=ż
  rw[Array.all_eq_true'];intro c hc;have:=h.2 c (Array.mem_toList_iff.mpr hc);exact a5N (by omega)
 .have:=PySem.StrLaws.reprText_len z λc hc=>ì (h.2 c hc) (by decide)
  have:=h.1;show(reprText z).length<=_;omega
def HY:gT 0 4 .none:=⟨rfl,by simp[a0G],rfl,by decide⟩
def NJ{k M:Nat}:∀{ds:Qa D},(∀d∈ds,gT k M d)->ϸ ds=ż/\a0M ds<=k/\a4g ds=ż/\((ε ds).map (·.length)).sum+2 * ds.length<=ds.length * (M+2)
 |[],_=>⟨rfl,by simp[a0M],rfl,by simp[ε]⟩
 |d::ds,h=>by
  have(a0,a1,a2,a3):=NJ (ds:=ds) λx hx=>h x<|qm _ hx;have(b0,b1,b2,b3):=h d qo;refine⟨?_,?_,?_,?_⟩
  .show(d.canLay0 && ϸ ds)=ż
   rw[a0,b0];rfl
  .simp only[a0M]
   omega
  .show(d.showable && a4g ds)=ż
   rw[a2,b2];rfl
  .show((d.shown::ε ds).map (·.length)).sum+_<=_
   rw[Ē,ĺ,qt,a0x,a4B];omega
def sv{k M:Nat}{ds:Qa D}(h:∀d∈ds,gT k M d)(hn:ds.length<=n):gT (k+1) (n * (M+2)+3) (.tuple ds):=by
 have(a0,a1,a2,a3):=NJ h;refine⟨a0,?_,a2,?_⟩
 .simp only[a0G]
  omega
 .have:=tupleText_len_le (ε ds)
  have e:=PyData.shownAll_length ds;have m:ds.length * (M+2)<=n * (M+2):=Ë _ hn;show(tupleText<|ε ds).length<=_;omega
def gT.shaped{k M:Nat}{d:D}(h:gT k M d)(hk:k<=64):ϣ d=ż:=by
 unfold ϣ;rw[h.lay,a1C];exact a5N<|qx h.jc hk
def gT.eqD{k M k' M':Nat}{a b:D}{neg:Bool}(ha:gT k M a)(hb:gT k' M' b)(hk:k<=64)(kf:k'<=64):pU neg (.d a) (.d b)=ž (.d<|.bool (if neg=ż then !PyData.eqv a b else a1s a b)):=by
 have ea:U.py (.d a)=ž a:=rfl;have eb:U.py (.d b)=ž b:=rfl;unfold pU;rw[ea,bd,eb,bd,a5L ⟨ha.shaped hk,hb.shaped kf⟩]
section
noncomputable def zDd:U->Qb U
 |.d (.int i)=>if i.natAbs.log2 < 1920 then ž (.d<|.str<|toString i)else Ž
 |.d (.str z)=>if z.length<=Ď then ž (.d<|.str z)else Ž
 |_=>Ž
abbrev MJ:=En->Str->Qb (Str×En)
def U.sr:U->Qb Str
 |.d (.str z)=>ž z
 |_=>Ž
end
end Internal
namespace Internal
open PySem PySem.Spec PyProof.Rows PySem.NumText
noncomputable abbrev ts(n:Int):Str:=η (toString n)
end Internal
namespace Internal
open PySem PySem.Spec PyProof.Rows
section
variable{X:Cx}{f:į}{tx:TE}{k:Nat}
def NH(hr:aF k X.A)(ho:Wr (PE X o td))(he:Wr (PE X e ty))(hf:Wr (PE X f tx))(m:M2 X o "get" apos e f bp):Wr (PE X (.Call (.Attribute o "get" apos) [e,f] [] bp)<|G4 X.K td ty tx):=⟨zqO (yh hr) ho.run he.run hf.run m⟩
end
section
def vX:U->Bool
 |.t _=>ż
 |.k _=>ż
 |.d (.dict kvs)=>l7 kvs
 |_=>Ż
def zsk{x:V}{u:U}(h:Rp K H x u)(e:vX u=ż):∃a,x=.ref a/\K6 H a:=by
 unfold vX at e;split at e
 .have(a,ws,rfl,h1,_):=h
  exact⟨a,rfl,.inr ⟨_,.inl h1⟩⟩
 .have(a,ws,rfl,h1,_):=h
  exact⟨a,rfl,.inl ⟨_,.inl h1⟩⟩
 .have(a,ob,ws,rfl,h1,_):=DF.cV h e
  exact⟨a,rfl,.inr ⟨_,.inr ⟨ob,h1⟩⟩⟩
 .cases e
def wq(md my mx:ME):ME:=λρ=>(md ρ).bind λp=>(p.1.get p.2).bind λu0=>if vX u0=ż then(my p.2).bind λq=>(mx q.2).bind λz=>(p.1.get z.2).bind λu=>(q.1.get z.2).bind λy=>(z.1.get z.2).bind λx=>(oE u y).bind λo=>match x with
 |.d x=>ž (.u<|.d<|o.getD x,z.2)
 |_=>Ž else Ž
def NG{tx:TE}{md my mx:ME}(hd:VE K td md)(hy:VE K ty my)(hx:VE K tx mx):VE K (G4 K td ty tx) (wq md my mx):=by
 intro ρ σ H a ao Q r e q;obtain⟨⟨a1,aw⟩,e1,e⟩:=bQ e;have(u0,e0,e):=bQ e;split at e
 rotate_left
 .cases e
 rename_i hu0;obtain⟨⟨b1,aD⟩,e2,e⟩:=bQ e;obtain⟨⟨c1,mM⟩,e3,e⟩:=bQ e;have(u,eu,e):=bQ e;have(y,ey,e):=bQ e;have(x,ex,e):=bQ e;have(o,eo,e):=bQ e;split at e
 rotate_left
 .cases e
 cases e;refine hd ρ σ H a1 aw _ r e1 λv1 H1 g1 k1=>?_;have(b,rfl,hb):=zsk (k1.now r g1 e0) hu0;refine⟨b,rfl,hb,hy aw σ H1 b1 _ _ g1.rs e2 λv2 H2 g2 k2=>hx aD σ H2 c1 _ _ g2.rs e3 λv3 H3 g3 k3=>?_⟩;have(b',eb,h):=Ox (k1.later r g1 (g2.trans g3) eu) (k2.later g1.rs g2 g3 ey) eo;cases eb;have p3:=k3.now g2.rs g3 ex;rcases h with⟨w,d',rfl,g,p⟩|⟨rfl,g⟩
 .exact⟨_,g,q w H3 ((g1.trans g2).trans g3) ⟨p,Nw.data⟩⟩
 .exact⟨_,g,q v3 H3 ((g1.trans g2).trans g3) ⟨p3,Nw.data⟩⟩
end
section
variable{s:Qd}{d:Qg}{ok ov:Qc}
def xW{T:Qc}{vs:Array Qc}{x:Qc}{Q:Unit->Qd->Prop}(e:s.heap.get? it=ž {cls:=T,data:=.fields vs})(hj:j < vs.size)
  (q:∀h':Į,h'.get? it=ž {cls:=T,data:=.fields (vs.setIfInBounds j x)}->h'.objs.size=s.heap.objs.size->(∀b o,b≠it->s.heap.get? b=ž o->h'.get? b=ž o)->Q () {s with heap:=h'}):Č (Đ prog w) A (setField (.ref it) j x) Q E s:=by
 refine ŷ e rfl hj<|q _ ?_ ?_ λb o hb z=>?_
 .exact Ô _ e (Ú<|æ rfl _)
 .exact a5t ..
 .exact((é ..).2 b hb).trans z
end
def YA{kvs:Qa (D×D)}(h:jE K H ws kvs):ws.length=kvs.length :=
 h.ind (P:=λws kvs=>ws.length=kvs.length) rfl λ_ _ t=>congrArg (·+1) t
noncomputable abbrev wc(h:Į)(t1:Qg):Į:=h.push {cls:=.type "tuple_iterator",data:=.fields #[.ref t1,.int 0 0]}
abbrev yB(h:Į)(t1 t2:Qg):Į:=(wc h t1).push {cls:=.type "tuple_iterator",data:=.fields #[.ref t2,.int 0 0]}
abbrev wa(h:Į)(t1 t2:Qg):Į:=(yB h t1 t2).push {cls:=.type "tuple",data:=.seq #[.ref h.objs.size,.ref (wc h t1).objs.size]}
abbrev Dk(h:Į)(t1 t2:Qg):Į:=(wa h t1 t2).push {cls:=.type "tuple",data:=.seq #[.none,.none]}
abbrev Ie(h:Į)(t1 t2:Qg):Į:=(Dk h t1 t2).push {cls:=.type "zip",data:=.fields #[.none,.bool Ż,.bool Ż,.ref (yB h t1 t2).objs.size,.ref (wa h t1 t2).objs.size]}
def zsl(t1 t2:Qg)(xs ys:Array Qc):
  Meets (Builtin.«zip.__new__» ⟨[.type "zip",.ref t1,.ref t2],[]⟩) (λ_ R s=>s.heap.IsTuple t1 xs/\s.heap.IsTuple t2 ys/\
   R (.ok<|.ret<|.ref (Dk s.heap t1 t2).objs.size) {s with heap:=Ie s.heap t1 t2}):=
 .of_wp λprog w A R s h=>by
  have(hp,g,d,tk,os):=s;have(h1,h2,h):=h;have iz:Heap.IsTuple (wc hp t1) t2 ys:=by
   have(o,e,r):=h2;exact⟨o,qd _ e,r⟩
  have JP:=sub_zip
  wp_walk using wpAny_pyIter_tuple h1,wpAny_pyIter_tuple iz
  exact⟨_,rfl,h⟩
section
variable{s:Qd}{z TI TO i1 i2 t1 t2:Qg}{k:Nat}{xs ys:Array Qc}{x y a b:Qc}
def zp2{Q:Qb Qc->Qd->Prop}(ap:ZipApart z TI TO i1 i2 t1 t2)(hz:IsZip s.heap z TI TO .none)(hI:a1p s.heap TI (.ref i1) (.ref i2))(hO:a1p s.heap TO a b)
  (h1:s.heap.IsTupleIter i1 t1 k) (h2:s.heap.IsTupleIter i2 t2 k) (g1:s.heap.IsTuple t1 xs) (g2:s.heap.IsTuple t2 ys) (ex:xs[k]?=ž x) (ey:ys[k]?=ž y)
  (q:∀h':Į,IsZip h' z TI TO (Ÿ s.heap.objs.size)->a1p h' TO x y->h'.IsTupleIter i1 t1 (k+1)->h'.IsTupleIter i2 t2 (k+1)->a1p h' s.heap.objs.size x y->
   (∀c o,c≠z->c≠TO->c≠i1->c≠i2->s.heap.get? c=ž o->h'.get? c=ž o)->Q (ž<|.ref s.heap.objs.size) {s with heap:=h'}):Č (Đ prog w) A (a1l<|.ref z) Q E s:=by
 have kT:s.TypeIs (.ref z) "zip":=⟨_,hz,rfl⟩;unfold a1l;refine qa<|τ<|ő (name:=ŧ "__next__") kT a1k<|ĸ a1k kT F.entry_zip_next ?_<|F.args_zip_next_1 _;unfold Builtin.«zip.__next__»;refine qa<|qb ?_;refine qa<|ļ hz rfl (x:=.bool Ż) rfl ?_;refine qa<|ļ hz rfl (x:=.ref TI) rfl ?_;refine qa<|ϓ hI rfl ?_;show Č _ _ (Ť (.ref z) >>= _) _ _ s;unfold Ť;refine qa<|qa<|ļ hz rfl (x:=.none) rfl<|qb ?_;show Č _ _ (if ż=ż then _ else _) _ _ _;rw[a5L rfl];refine qa<|ũ<|qa<|ļ hz rfl (x:=.ref TO) rfl ?_;refine qa<|xW hz (by simp) λha ka za fa=>?_;have T8:a1p ha TO a b:=fa _ _ ap.TOz hO;have Bb:ha.IsTupleIter i1 t1 k:=by
  have(o,e,r):=h1;exact⟨o,fa _ _ ap.i1z e,r⟩
 have Ky:ha.IsTuple t1 xs:=by
  have(o,e,r):=g1;exact⟨o,fa _ _ ap.l1z e,r⟩
 refine qa ?_;show Č _ _ (forIn [(Ė i1,0),(Ė i2,1)] (Ž,()) _) _ _ _;rw[a1a];refine qa<|qa<|a4r ?_;show Č _ _ (Ň (.ref i1) >>= _) _ _ _;refine qa<|Io (s:={s with heap:=ha}) Bb Ky ex λhb kb sb=>qb ?_;refine qa<|ϓ (s:={s with heap:=hb}) (o:=_) ((sb.2 _ ap.TOi1).trans T8) rfl ?_;refine qa<|a5A (s:={s with heap:=hb}) ((sb.2 _ ap.TOi1).trans T8) λhc kc sc=>?_;refine qa<|wpAny_letGo<|qb ?_;show Č _ _ (forIn [(Ė i2,1)] (Ž,()) _) _ _ _;rw[a1a];have nY:∀c o,c≠z->c≠TO->c≠i1->s.heap.get? c=ž o->hc.get? c=ž o:=λc o n1 n2 n3 e=>(sc.2 c n2).trans<|(sb.2 c n3).trans<|fa c o n1 e;have h22:hc.IsTupleIter i2 t2 k:=by
  have(o,e,r):=h2;exact⟨o,nY _ _ ap.i2z (ĭ ap.TOi2) (ĭ ap.i12) e,r⟩
 have g22:hc.IsTuple t2 ys:=by
  have(o,e,r):=g2;exact⟨o,nY _ _ ap.l2z ap.l2TO ap.l2i1 e,r⟩
 refine qa<|qa<|a4r ?_;show Č _ _ (Ň (.ref i2) >>= _) _ _ _;refine qa<|Io (s:={s with heap:=hc}) h22 g22 ey λhd kd sd=>qb ?_;have T7:a1p hd TO x b:=(sd.2 _ ap.TOi2).trans kc;refine qa<|ϓ (s:={s with heap:=hd}) T7 rfl ?_;refine qa<|a5A (s:={s with heap:=hd}) T7 λhe ke se=>?_;refine qa<|wpAny_letGo<|qb ?_;show Č _ _ (forIn ([]:Qa (Qc×Nat)) (Ž,()) _) _ _ _;rw[a0h];refine qb ?_;have T6:a1p he TO x y:=ke;show Č _ _ (seqItems? (.ref TO) >>= _) _ _ _;refine qa<|ϓ (s:={s with heap:=he}) T6 rfl ?_;simp only[newTuple];refine qa<|qy ?_ (by show(2:Nat)<=Ď;decide);have sz:he.objs.size=s.heap.objs.size:=by rw[se.1,sd.1,sc.1,sb.1];exact za
 show Č _ _ (a0i (.ref z) (.ref he.objs.size) >>= _) _ _ {s with heap:=he.push {cls:=.type "tuple",data:=.seq #[x,y]}};have kz:(he.push {cls:=.type "tuple",data:=.seq #[x,y]}).get? z=ž {cls:=.type "zip",data:=.fields #[.ellipsis,.bool Ż,.bool Ż,.ref TI,.ref TO]}:=
  qd _ ((se.2 _<|ĭ ap.TOz).trans<|(sd.2 _<|ĭ ap.i2z).trans<|(sc.2 _<|ĭ ap.TOz).trans<|(sb.2 _<|ĭ ap.i1z).trans ka)
 have kt:(he.push {cls:=.type "tuple",data:=.seq #[x,y]}).get? he.objs.size=ž {cls:=.type "tuple",data:=.seq #[x,y]}:=qg _ rfl;have kO:(he.push {cls:=.type "tuple",data:=.seq #[x,y]}).get? TO=_:=qd _ T6;have k1:a5u (he.push {cls:=.type "tuple",data:=.seq #[x,y]}) i1 t1 (k+1):=by
  have(o,e,r):=kb;exact⟨o,qd _<|(se.2 _<|ĭ ap.TOi1).trans<|(sd.2 _ ap.i12).trans<|(sc.2 _<|ĭ ap.TOi1).trans e,r⟩
 have k2:a5u (he.push {cls:=.type "tuple",data:=.seq #[x,y]}) i2 t2 (k+1):=by
  have(o,e,r):=kd;exact⟨o,qd _<|(se.2 _<|ĭ ap.TOi2).trans e,r⟩
 have kk:∀c o,c≠z->c≠TO->c≠i1->c≠i2->s.heap.get? c=ž o->(he.push {cls:=.type "tuple",data:=.seq #[x,y]}).get? c=ž o:=λc o n1 n2 n3 n4 e=>
  qd _ ((se.2 c n2).trans<|(sd.2 c n4).trans<|nY c o n1 n2 n3 e)
 have nz:he.objs.size≠z:=by
  rw[sz];exact ĭ<|qj<|qh hz
 generalize he.push {cls:=.type "tuple",data:=.seq #[x,y]}=hf at kz kt kO k1 k2 kk ⊢;unfold a0i;refine qa<|qa<|xW (s:={s with heap:=hf}) kz (by simp) λhg kg zg fg=>?_;refine xW (s:={s with heap:=hg}) kg (by simp) λhh kh zh fh=>?_;have up:∀c o,c≠z->hf.get? c=ž o->hh.get? c=ž o:=λc o n e=>fh c o n<|fg c o n e;refine qb ⟨_,rfl,qb ?_⟩;rw[sz]at kt kh nz ⊢;refine q hh kh (up _ _ ap.TOz kO) ?_ ?_ (up _ _ nz kt) λc o n1 n2 n3 n4 e=>up _ _ n1<|kk c o n1 n2 n3 n4 e
 .have(o,e,r):=k1
  exact⟨o,up _ _ ap.i1z e,r⟩
 .have(o,e,r):=k2
  exact⟨o,up _ _ ap.i2z e,r⟩
def zsm{Q:Qb Qc->Qd->Prop}(hh:A.handled=Ž)(ap:ZipApart z TI TO i1 i2 t1 t2)(hz:IsZip s.heap z TI TO .none)(hI:a1p s.heap TI (.ref i1) (.ref i2))(hO:a1p s.heap TO a b)
  (h1:s.heap.IsTupleIter i1 t1 k) (h2:s.heap.IsTupleIter i2 t2 k) (g1:s.heap.IsTuple t1 xs) (g2:s.heap.IsTuple t2 ys) (en:xs[k]?=Ž)
  (q:∀h':Į,(∀c o,c≠z->c≠TO->c≠i1->c≠i2->s.heap.get? c=ž o->h'.get? c=ž o)->Q Ž {s with heap:=h'}):Č (Đ prog w) A (a1l<|.ref z) Q E s:=by
 have kT:s.TypeIs (.ref z) "zip":=⟨_,hz,rfl⟩;unfold a1l;refine qa<|τ<|ő (name:=ŧ "__next__") kT a1k<|ĸ a1k kT F.entry_zip_next ?_<|F.args_zip_next_1 _;unfold Builtin.«zip.__next__»;refine qa<|qb ?_;refine qa<|ļ hz rfl (x:=.bool Ż) rfl ?_;refine qa<|ļ hz rfl (x:=.ref TI) rfl ?_;refine qa<|ϓ hI rfl ?_;show Č _ _ (Ť (.ref z) >>= _) _ _ s;unfold Ť;refine qa<|qa<|ļ hz rfl (x:=.none) rfl<|qb ?_;show Č _ _ (if ż=ż then _ else _) _ _ _;rw[a5L rfl];refine qa<|ũ<|qa<|ļ hz rfl (x:=.ref TO) rfl ?_;refine qa<|xW hz (by simp) λha ka za fa=>?_;have Bb:ha.IsTupleIter i1 t1 k:=by
  have(o,e,r):=h1;exact⟨o,fa _ _ ap.i1z e,r⟩
 have Ky:ha.IsTuple t1 xs:=by
  have(o,e,r):=g1;exact⟨o,fa _ _ ap.l1z e,r⟩
 refine qa ?_;show Č _ _ (forIn [(Ė i1,0),(Ė i2,1)] (Ž,()) _) _ _ _;rw[a1a];refine qa<|qa<|a4r ?_;show Č _ _ (Ň (.ref i1) >>= _) _ _ _;refine qa<|Qi (s:={s with heap:=ha}) hh Bb Ky en λhb e sb hZ=>?_;have(oe,ge,ce):=hZ;have kb:=sb z _ (ĭ ap.i1z) ka;refine xW (s:={s with heap:=hb}) kb (by simp) λhc kc zc fc=>?_;have nez:e≠z:=λh=>by
  rw[h]at ge;have z1:=qw (ge.symm.trans kb);rw[z1]at ce;have z2 : "zip" = "StopIteration":=a4c ce;exact absurd z2 (by decide)
 show Č _ _ (a0C (.ref e) (.type "StopIteration") >>= _) _ _ _;refine qa<|Ŵ (T := "StopIteration") (b:=ż) ⟨oe,fc _ _ nez ge,ce⟩ isSubtype_stop ?_;exact qb<|q hc λc o n1 n2 n3 n4 e=>fc c o n1<|sb c o n3<|fa c o n1 e
end
def UL(K:qc)(a b:Qg):It :=
 ⟨λi H=>∃xs ys x y,bT K H a xs/\bT K H b ys/\xs[i]?=ž x/\ys[i]?=ž y,λi H x H'=>∃T,H T=Ž/\x=.ref T/\∀xs ys v u,bT K H a xs->bT K H b ys->xs[i]?=ž v->ys[i]?=ž u->H'=upd H T (.tup [v,u]),λi H=>∃xs ys,bT K H a xs/\bT K H b ys/\xs.length=i⟩
abbrev UH(z TI TO i1 i2 t1 t2:Qg)(i:Nat)(h:Į):Prop:=IsZip h z TI TO .none/\a1p h TI (.ref i1) (.ref i2)/\(∃a b,a1p h TO a b)/\h.IsTupleIter i1 t1 i/\h.IsTupleIter i2 t2 i
def zsn{k:Nat}(z TI TO i1 i2 t1 t2:Qg)(ap:ZipApart z TI TO i1 i2 t1 t2):
  Turn P w K (.Tuple elts k pos) (UL K t1 t2) [z,TI,TO,i1,i2] z (UH z TI TO i1 i2 t1 t2) where
 mem:=by simp
 obj:=λi h st c hc=>by
  obtain⟨hz,hI,⟨a,b,hO⟩,⟨o1,e1,_,d1⟩,⟨o2,e2,_,d2⟩⟩:=st;simp only[qu,Ļ,or_false]at hc;rcases hc with rfl|rfl|rfl|rfl|rfl
  .exact⟨_,hz,λv q=>by
    have q':a4o _=a2q v:=q;cases q'⟩
  .exact⟨_,hI,λv q=>by
    have q':a4n _ _=a2q v:=q;cases q'⟩
  .exact⟨_,hO,λv q=>by
    have q':a4n _ _=a2q v:=q;cases q'⟩
  .exact⟨o1,e1,λv q=>by rw[d1]at q;cases q⟩
  .exact⟨o2,e2,λv q=>by rw[d2]at q;cases q⟩
 keep:=λi h h' st kk=>by
  obtain⟨hz,hI,⟨a,b,hO⟩,⟨o1,e1,r1⟩,⟨o2,e2,r2⟩⟩:=st;exact⟨kk z (by simp) _ hz,kk TI (by simp) _ hI,⟨a,b,kk TO (by simp) _ hO⟩,⟨o1,kk i1 (by simp) _ e1,r1⟩,⟨o2,kk i2 (by simp) _ e2,r2⟩⟩
 item:=by
  intro X hP hw hK hc i pins s σ H E I hf st hg;subst hP hw hK;have(xs,ys,x,y,qS,tj,hx,hy):=hg;obtain⟨hz,hI,⟨a,b,hO⟩,h1,h2⟩:=st;have(uT,Ek,w6,_):=I.tuple qS;have(gQ,Jd,w5,_):=I.tuple tj;have(u1,eu1,r1):=Ek.get hx;have(u2,eu2,r2):=Jd.get hy;refine zp2 ap hz hI hO h1 h2 w6 w5 (by simpa using eu1) (by simpa using eu2) λh' z' O' k1 k2 qP kk=>?_;refine⟨_,rfl,wpAny_letOwnedTupleGo_zip (s:={s with heap:=h'}) z' λiz z2 sb=>?_⟩;have nm:s.heap.objs.size∉[z,TI,TO,i1,i2]:=λhm=>by
   have:s.heap.objs.size < s.heap.objs.size:=by
    simp only[qu,Ļ,or_false]at hm;have(_,e1,_):=h1;have(_,e2,_):=h2;rcases hm with h|h|h|h|h
    .exact qi (h▸qh hz) (qe _)
    .exact qi (h▸qh hI) (qe _)
    .exact qi (h▸qh hO) (qe _)
    .exact qi (h▸qh e1) (qe _)
    .exact qi (h▸qh e2) (qe _)
   exact Ð _ this
  have nz:s.heap.objs.size≠z:=λh=>nm (by rw[h];simp);have I2:Inv X pins σ H {s with heap:=iz}:=I.fJ (t':=s.toks) (wr:=[z,TI,TO,i1,i2]) (λc o hc q=>by
   simp only[qu,Ļ,or_false,not_or]at hc;exact(sb.2 c hc.1).trans<|kk c o hc.1 hc.2.2.1 hc.2.2.2.1 hc.2.2.2.2 q) hf
  have fT:jH X pins H s.heap.objs.size:=I.iA (qe _) (I.aC.fresh<|qe _);have I3:Inv X pins σ (upd H s.heap.objs.size<|.tup [x,y]) {s with heap:=iz}:=I2.sO fT I.sz ⟨by show 2<=Ď;decide,[u1,u2],.cons r1<|.cons r2 .nil,_,(sb.2 _ nz).trans qP,rfl,⟨_,rfl⟩,.inl rfl⟩;refine⟨.ref s.heap.objs.size,_,I3,rfl,⟨_,I.aC.fresh<|qe _,rfl,λlS jP v u JT JS hv hu=>?_⟩,⟨z2,(sb.2 _ ap.TIz).trans<|kk _ _ ap.TIz ap.TITO ap.TIi1 ap.TIi2 hI,⟨_,_,(sb.2 _ ap.TOz).trans O'⟩,?_,?_⟩,λc hc=>?_⟩
  .cases I.cS qS JT
   cases I.cS tj JS;rw[hx]at hv;rw[hy]at hu;cases hv;cases hu;rfl
  .have(o,e,r):=k1
   exact⟨o,(sb.2 _ ap.i1z).trans e,r⟩
  .have(o,e,r):=k2
   exact⟨o,(sb.2 _ ap.i2z).trans e,r⟩
  .have ne:c≠s.heap.objs.size:=λh=>nm<|h▸hc
   rw[zA ne];exact(hf c hc).1
 done:=by
  intro X hP hw hK hc i pins s σ H E I hf st hg;subst hP hw hK;have(xs,ys,qS,tj,hl):=hg;obtain⟨hz,hI,⟨a,b,hO⟩,h1,h2⟩:=st;have(uT,Ek,w6,_):=I.tuple qS;have(gQ,Jd,w5,_):=I.tuple tj;refine zsm (I.ok.hd hc) ap hz hI hO h1 h2 w6 w5 (by
   have:=Ek.length;simp;omega) λh' kk=>⟨rfl,I.fJ (t':=s.toks) (wr:=[z,TI,TO,i1,i2]) (λc o hc q=>by
   simp only[qu,Ļ,or_false,not_or]at hc;exact kk c o hc.1 hc.2.2.1 hc.2.2.2.1 hc.2.2.2.2 q) hf⟩
 self:=λ_ _ _ _ _ st h=>wpAny_pyIter_zip st.1 h
section
variable{s:Qd}
def zp3{t1 t2:Qg}{xs ys:Array Qc}(h1:s.heap.IsTuple t1 xs)(h2:s.heap.IsTuple t2 ys)
  (h:∀h':Į,UH (s.heap.objs.size+4) (s.heap.objs.size+2) (s.heap.objs.size+3) s.heap.objs.size (s.heap.objs.size+1) t1 t2 0 h'->(∀b o,s.heap.get? b=ž o->h'.get? b=ž o)->Q (.ref<|s.heap.objs.size+4) {s with heap:=h'}):
  Č (Đ prog w) A (call (.type "zip") [.ref t1,.ref t2]) Q E s:=by
 refine callType_new F.called_zip (by decide) (F.typeCall_zip_2 _ _) (F.newCall_zip_2 _ _) (λobj=>F.args_object_init_3 obj _ _) F.entry_zip_new (zsl t1 t2 xs ys) ⟨h1,h2,?_⟩;have z1:(wc s.heap t1).objs.size=s.heap.objs.size+1:=Ŏ ..;have z2:(yB s.heap t1 t2).objs.size=s.heap.objs.size+2:=by rw[Ŏ,z1]
 have z3:(wa s.heap t1 t2).objs.size=s.heap.objs.size+3:=by rw[Ŏ,z2]
 have z4:(Dk s.heap t1 t2).objs.size=s.heap.objs.size+4:=by rw[Ŏ,z3]
 show _/\_;rw[z4];have ez:(Ie s.heap t1 t2).get? (s.heap.objs.size+4)=ž {cls:=.type "zip",data:=.fields #[.none,.bool Ż,.bool Ż,.ref<|s.heap.objs.size+2,.ref<|s.heap.objs.size+3]}:=by
  have:=qg (Dk s.heap t1 t2) (o:={cls:=.type "zip",data:=.fields #[.none,.bool Ż,.bool Ż,.ref (yB s.heap t1 t2).objs.size,.ref (wa s.heap t1 t2).objs.size]}) rfl;rw[z4,z2,z3]at this;rw[<-this];unfold Ie;rw[z2,z3]
 refine⟨⟨_,ez,rfl⟩,h _ ⟨ez,?_,⟨.none,.none,?_⟩,⟨{cls:=.type "tuple_iterator",data:=.fields #[.ref t1,.int 0 0]},?_,rfl,rfl⟩,⟨{cls:=.type "tuple_iterator",data:=.fields #[.ref t2,.int 0 0]},?_,rfl,rfl⟩⟩ λb o x=>?_⟩
 .have:=qg (yB s.heap t1 t2) (o:={cls:=.type "tuple",data:=.seq #[.ref s.heap.objs.size,.ref (wc s.heap t1).objs.size]}) rfl
  rw[z2,z1]at this;refine qd _<|qd _ ?_;unfold wa;rw[z1];exact this
 .have:=qg (wa s.heap t1 t2) (o:={cls:=.type "tuple",data:=.seq #[.none,.none]}) rfl
  rw[z3]at this;exact qd _ this
 .exact qd _ (qd _<|qd _<|qd _<|qg _ rfl)
 .have:=qg (wc s.heap t1) (o:={cls:=.type "tuple_iterator",data:=.fields #[.ref t2,.int 0 0]}) rfl
  rw[z1]at this;exact qd _<|qd _<|qd _ this
 .exact qd _ (qd _<|qd _<|qd _<|qd _ x)
end
section
variable{X:Cx}{k:Nat}
def Sw(K:qc)(ta:TA):TI:=λσ H R=>ta σ H λvs H1=>∃a b,vs=[.ref a,.ref b]/\(∃xs,bT K H1 a xs)/\(∃ys,bT K H1 b ys)/\R (UL K a b) H1
def Vy{a b:į}{ta:TA}(ha:Wr (PA X [a,b] ta))(hK:X.K=K:=by rfl)(hg:Gl X "zip":=by exact rfl)(hm:X.mg "zip"=Ž:=by exact vS ‹Bl _ _› (by decide))(hs:eM a=ż:=by rfl)(hs2:[b].all eM=ż:=by rfl):
  Wr (PI X (.Tuple elts k uB) (.Call (.Name "zip" p) [a,b] [] pos)<|Sw K ta):=by
 subst hK;refine⟨?_⟩;intro pins s σ H R I h;refine Call_<|wz I hg hm boot_zip<|ë (aJ (ha.run pos pins s σ H _ I h) λus s1 hZ=>?_) (lN hs)<|qG hs2;have(vs,H1,I1,r1,q1):=hZ;obtain⟨t1,t2,e,⟨xs,qS⟩,⟨ys,tj⟩,q⟩:=q1;subst e;have(u1,u2,rfl,ru1,ru2):=Cn r1;cases ru1;cases ru2;have(uT,Ek,w6,hz1):=I1.tuple qS;have(gQ,Jd,w5,hz2):=I1.tuple tj;have tl1:t1 < s1.heap.objs.size:=by
  have(o,e,_):=w6;exact qh e
 have tl2:t2 < s1.heap.objs.size:=by
  have(o,e,_):=w5;exact qh e
 have sX:∀{x y:Nat},x < y->x≠y:=λh=>qj h;refine zp3 (show s1.heap.IsTuple t1 uT.toArray from w6) (show s1.heap.IsTuple t2 gQ.toArray from w5) λh' iI kk=>?_;have I2:Inv X pins σ H1 {s1 with heap:=h'}:=I1.kept (t':=s1.toks) kk;refine wpAny_pyIter_zip iI.1 ?_;have f:∀j:Nat,jH X pins H1 (s1.heap.objs.size+j):=λj=>I1.iA (Ç _ _)<|I1.aC.fresh<|Ç _ _;have ap:ZipApart (s1.heap.objs.size+4) (s1.heap.objs.size+2) (s1.heap.objs.size+3) s1.heap.objs.size (s1.heap.objs.size+1) t1 t2:=by
  generalize s1.heap.objs.size=n at tl1 tl2;constructor<;>(simp only[Qg]at *;omega)
 refine⟨_,_,_,_,H1,rfl,I2,zsn _ _ _ _ _ t1 t2 ap,iI,λc hc=>?_,q⟩;simp only[qu,Ļ,or_false]at hc;rcases hc with rfl|rfl|rfl|rfl|rfl
 .exact f 4
 .exact f 2
 .exact f 3
 .exact f 0
 .exact f 1
end
noncomputable def tP:Qa D->Qa D->Qa D
 |x::xs,y::ys=>.tuple [x,y]::tP xs ys
 |_,_=>[]
theorem NF:∀{xs ys:Qa D} {i:Nat} {d:D},(tP xs ys)[i]?=ž d->∃x y,xs[i]?=ž x/\ys[i]?=ž y/\d=.tuple [x,y]
 |[],ys,i,d,h=>by simp[tP]at h
 |x::xs,[],i,d,h=>by simp[tP]at h
 |x::xs,y::ys,0,d,h=>by cases h;exact⟨x,y,rfl,rfl,rfl⟩
 |x::xs,y::ys,i+1,d,h=>NF (xs:=xs) (ys:=ys) (i:=i) h
theorem O1:∀(xs ys:Qa D),xs.length=ys.length->(tP xs ys).length=xs.length
 |[],[],_=>rfl
 |[],y::ys,h=>by cases h
 |x::xs,[],h=>by cases h
 |x::xs,y::ys,h=>congrArg (·+1)<|O1 xs ys<|ώ h
def xK:Qa U->Qb (Qa D)
 |[.d<|.tuple xs,.d<|.tuple ys]=>if xs.length=ys.length then ž (tP xs ys)else Ž
 |_=>Ž
def Fn(ma:MA):MI:=λρ=>(ma ρ).bind λp=>(bW p.2 p.1).bind λus=>(xK us).bind λds=>ž (ds,p.2)
theorem Vx{ta:TA}{ma:MA}(h:mw K ta ma):VI K (Sw K ta) (Fn ma):=by
 intro ρ σ H ds ao R r e q;obtain⟨⟨as,aw⟩,e1,e⟩:=bQ e;have(us,eu,e):=bQ e;have(zs,ez,e):=bQ e;cases e;refine h ρ σ H as aw _ r e1 λvs H1 g1 s1=>?_;have rp:=s1.qL r g1 eu;unfold xK at ez;split at ez
 .split at ez
  rotate_left
  .cases ez
  rename_i xs ys hl;cases ez;cases rp with
  |cons p1 t=>
   cases t with
   |cons p2 t=>
    cases t;have(a,vx,rfl,h1,d1):=DF.aI p1;have(b,vy,rfl,h2,d2):=DF.aI p2;refine⟨a,b,rfl,⟨vx,(bg.sq h1)⟩,⟨vy,(bg.sq h2)⟩,q _ _ g1 λH2 kk i=>⟨λd ed=>?_,λei=>?_⟩⟩
    .have(x,y,ex,ey,rfl):=NF ed
     have(v,ev,dv):=(d1.kp kk).get ex;have(w,ew,dw):=(d2.kp kk).get ey;refine⟨⟨vx,vy,v,w,(bg.kp kk h1).sq,(bg.kp kk h2).sq,ev,ew⟩,λz H' y=>?_⟩;have(T,nT,rfl,y):=y;cases y vx vy v w ((bg.kp kk h1).sq) ((bg.kp kk h2).sq) ev ew;have sm:=iH nT (.tup [v,w]);exact⟨sm,.tup (.inl zD)<|.cons (dv.kp sm.kp)<|.cons (dw.kp sm.kp) .nil⟩
    .exact⟨vx,vy,(bg.kp kk h1).sq,(bg.kp kk h2).sq,by rw[O1 _ _ hl]at ei;rw[d1.len];exact ei.symm⟩
 .cases ez
section
variable{s:Qd}
theorem zlm{b:Qg}{Q:Bool->Qd->Prop}(hT:s.TypeIs (.ref b) "tuple")(h:Q Ż s):Č (Đ prog w) A (a2C<|.ref b) Q E s:=by
 unfold a2C;refine qa<|Α hT F.slot_tuple_eq.lookup<|qb ?_;exact h
theorem zln{id:String}{d:Qg}{o:Obj}{Q:Array Ϡ->Qd->Prop}(ho:s.heap.get? d=ž o)(hd:o.data=.dict es ep)
  (hk:∀e∈es.toList,∃b,e.key=.ref b/\s.TypeIs (.ref b) "tuple") (hh:∀e∈es.toList,¬(es.filter (·.hash==e.hash)).size > 1) (h:Q es s):
  Č (Đ prog w) A (a1w id d) Q E s:=by
 unfold a1w;refine qa<|Ľ ho hd ?_;refine qa ?_;rw[<-a1D];refine ϭ _ (λrest _ s'=>s'=s/\∀e∈rest,e∈es.toList) _ ?_ ?_ _ _ ⟨rfl,λe h=>h⟩
 .rintro e rest b s' ⟨rfl,hr⟩
  have(c,ec,tc):=hk e (hr e qo);rw[ec];refine qa<|zlm tc ?_;simp only[ϡ,if_true];rw[a5M<|hh e<|hr e qo];exact qb ⟨rfl,λe h=>hr e<|qm _ h⟩
 .rintro b s' ⟨rfl,_⟩
  exact qb h
theorem Vw(ne:es.isEmpty=Ż)(hk:∀e∈es.toList,∃b,e.key=.ref b):(decide (es.size<=8) && es.all λe=>(keyPart e.key).isSome)=Ż:=by
 have:(es.all λe=>(keyPart e.key).isSome)=Ż:=by
  rw[<-a5b];cases h:es.toList with
  |nil=>
   have:es=#[]:=by
    apply ă;rw[h]
   rw[this]at ne;cases ne
  |cons e r=>
   have(b,eb):=hk e (by rw[h];exact qo);rw[Χ,eb];rfl
 rw[this,Bool.and_false]
theorem ziu{d:Qg}{o:Obj}(hdS:(d==Ĳ)=Ż)(ho:s.heap.get? d=ž o)(hx:o.ExactDict)(hd:o.data=.dict es ep)(hz:es.size<=Ď)
  (hk:∀e∈es.toList,∃b,e.key=.ref b/\s.TypeIs (.ref b) "tuple") (hh:∀e∈es.toList,¬(es.filter (·.hash==e.hash)).size > 1)
  (h:∀h':Į,(∃o' gJ,h'.get? s.heap.objs.size=ž o'/\o'.ExactDict/\o'.data=.dict es gJ)->(∀b u,s.heap.get? b=ž u->h'.get? b=ž u)->Q (.ref s.heap.objs.size) {s with heap:=h'}):
  Č (Đ prog w) A (call (.type "dict") [.ref d]) Q E s:=by
 refine callType_codes (Q₁:=λobj aH=>obj=.ref s.heap.objs.size/\aH={s with heap:=s.heap.push {cls:=.type "dict",data:=.dict #[]}}) F.kt_called_dict (F.kt_typeCall_dict_1 _) F.entry_dict_init (kt_code_dict_new _ ⟨rfl,rfl⟩) ?_;rintro obj aH ⟨rfl,rfl⟩;have nd:s.heap.objs.size≠d:=ĭ (qj<|qh ho);have hn:(s.heap.push {cls:=.type "dict",data:=.dict #[]}).get? s.heap.objs.size=ž {cls:=.type "dict",data:=.dict #[]}:=qg _ rfl;have cZ:(s.heap.push {cls:=.type "dict",data:=.dict #[]}).get? d=ž o:=qd _ ho;have kk:∀b u,s.heap.get? b=ž u->(s.heap.push {cls:=.type "dict",data:=.dict #[]}).get? b=ž u:=λb u e=>qd _ e;generalize s.heap.push {cls:=.type "dict",data:=.dict #[]}=h1 at hn cZ kk ⊢;have tn:a5D {s with heap:=h1} (.ref s.heap.objs.size) "dict":=⟨_,hn,rfl⟩;have to:a5D {s with heap:=h1} (.ref d) "dict":=⟨_,cZ,hx.1⟩;refine⟨tn,F.args_dict_init_2 _ _,?_⟩;unfold Builtin.«dict.__init__»;refine qa ?_;unfold Builtin.Dict.selfAndRest;refine qa<|Ϣ tn ?_;show Č _ _ (pure (s.heap.objs.size,[Ė d])) _ _ _;refine qb ?_;show Č _ _ (a2j "dict.__init__" s.heap.objs.size (.ref d) [] .none) _ _ _;unfold a2j;refine qa<|a2D to ?_;rw[a5M (by decide)];refine qa ?_;unfold Builtin.Dict.merge;refine qa ?_;unfold Builtin.Dict.readDirectly;refine qa<|Ŵ to isSubtype_dict_dict ?_;simp only[Ł,Ě,if_false];refine qa<|Α to F.slot_dict_iter.lookup<|qb ?_;simp only[a5Q,if_true];refine qa<|qb ?_;unfold Builtin.Dict.mergeDict;rw[a5M (by simpa using nd)];unfold Ϗ;rw[a5M (by rw[hdS];exact qf)];refine qa<|qb ?_;refine qa<|Ľ cZ hd ?_;cases ne:es.isEmpty with
 |true=>
  have e0:es=#[]:=Array.isEmpty_iff.mp ne;subst e0;have fw:(decide ((#[]:Array Ϡ).size<=8) && (#[]:Array Ϡ).all λe=>(keyPart e.key).isSome)=ż:=by rw[<-a5b];rfl
  simp only[fw,Ł,Ě,if_false];refine qa<|Ϝ (s:={s with heap:=h1}) cZ hd ?_;refine qa<|Ľ (s:={s with heap:=h1}) cZ hd ?_;refine qa ?_;rw[ύ];simp only[χ,a2g,ŏ,a4D,Array.size_empty,a5k,a0h];refine qb<|qb ?_;exact qa<|qb<|qb ⟨rfl,h h1 ⟨_,0,hn,⟨rfl,rfl,rfl⟩,rfl⟩ kk⟩
 |false=>
  have fw:=Vw ne λe he=>let ⟨b,eb,_⟩:=hk e he;⟨b,eb⟩;simp only[fw,ϡ,if_true];refine qa<|Ľ hn rfl ?_;simp only[Array.isEmpty_empty,if_true];refine qa<|zln (s:={s with heap:=h1}) cZ hd (λe he=>?_) hh ?_
  .have(b,eb,o2,eo,ec):=hk e he
   exact⟨b,eb,o2,kk _ _ eo,ec⟩
  simp only[ne,ϡ,if_true];refine qa<|wpAny_updateDictKeysTo hn rfl ?_ (by show es.size<=_;omega);refine qb<|qa<|qb<|qb ⟨rfl,h _ ⟨_,_,Ô _ hn rfl,⟨rfl,rfl,rfl⟩,rfl⟩ λb u e=>?_⟩;exact((é ..).2 b<|qj<|qh e).trans<|kk b u e
end
noncomputable def hK:Key->Int
 |.inl i=>hashInt i
 |.inr _=>0
def hT(ks:Qa Key):Int:=a3K (ľ<|ks.map hK)
def Fm(ks:Qa Key):Bool:=ks.all λk=>match k with |.inl _=>ż |.inr _=>Ż
def ua(Tj:Qa (Qa Key)):Bool:=Tj.all Fm && decide ((Tj.map hT).Nodup)
theorem zB1:∀{ks:Qa Key},Fm ks=ż->(Η<|dq P w).hash ks=hT ks:=λ{ks} h=>by
 show a3K (ľ<|ks.map<|SI w)=_;unfold hT;congr 2;refine Ø λk hk=>?_;have:=ä.mp h k hk;cases k with
 |inl i=>rfl
 |inr x=>cases this
theorem zmR{es:Qa Ϡ}(hn:(es.map (·.hash)).Nodup){e:Ϡ}(he:e∈es):(es.filter (·.hash==e.hash)).length<=1:=by
 induction es with
 |nil=>cases he
 |cons x es ih=>
  rw[Ē,a2A]at hn;rw[Ο];rcases qu.mp he with rfl|TV
  .rw[a5L (by simp)]
   have:es.filter (·.hash==e.hash)=[]:=List.filter_eq_nil_iff.mpr λy hy z=>hn.1<|Ä.mpr ⟨y,hy,by simpa using z⟩;rw[this];simp
  .have:¬((x.hash==e.hash)=ż):=λz=>hn.1<|Ä.mpr ⟨e,TV,by simpa using (beq_iff_eq.mp z).symm⟩
   rw[a5M this];exact ih hn.2 TV
section
variable{X:Cx}{s:Qd}
theorem Yz{l:Qa (Qa Key×V)}{m:Qa (Qa Key×Qg×Qc)}(r:KT X.K H l m):m.map (·.1)=l.map (·.1):=by
 induction r with
 |nil=>rfl
 |cons hq t ih=>rw[Ē,Ē,ih,hq.1]
theorem Yy(I:Inv X pins σ H s)(e:Rd H a (.dT kvs))(hh:ua (kvs.map (·.1))=ż)(h:∀p s',H p=Ž->Inv X pins σ (upd H p<|.dT kvs) s'->Q (.ref p) s'):Č (Đ X.prog X.w) A (call (.type "dict") [.ref a]) Q E s:=by
 have(z,y,xs,r,o,es,ep,h1,h2,h3,h4,h5):=(show bV X.prog X.w X.K H s.heap a (.dT kvs) from yj I.aC e);have(_,_,lS,r',dd):=rG I.bP I.aC e;have hlen:es.size=kvs.length:=by
  have:=congrArg a0s h4;rw[Ġ,ċ,<-DN r]at this;exact this
 have(hi,hn):=Bool.and_eq_true_iff.mp hh;have hn:=a5P hn;have nX:=Yz r;have hashes:es.toList.map (·.hash)=(kvs.map (·.1)).map hT:=by
  rw[h4,<-nX,ĳ,ĳ];refine Ø λx hx=>?_;exact zB1<|ä.mp hi x.1 (by rw[<-nX];exact Ä.mpr ⟨x,hx,rfl⟩)
 refine ziu y h1 h2 h3 (by omega) (λq hq=>?_) (λq hq=>?_) λh' ⟨o',gJ,n1,n2,n3⟩ kk=>?_
 .rw[h4]at hq
  have(x,hx,rfl):=Ä.mp hq;have key:∀{l:Qa (Qa Key×V)} {m:Qa (Qa Key×Qg×Qc)},KT X.K H l m->∀x∈m,bg X.K H x.2.1 (x.1.map kV):=by
   intro l m q
   induction q with
   |nil=>intro x hx;cases hx
   |cons hq _ ih=>
    intro x hx;rcases qu.mp hx with e|hx
    .subst e
     rw[<-hq.1];exact hq.2.1
    .exact ih x hx
  exact⟨x.2.1,rfl,(uc I.bP I.aC<|key r x hx).typeIs⟩
 .rw[<-hashes]at hn
  have:=zmR hn hq;rw[<-Ġ,Array.toList_filter];omega
 .refine h _ _ (I.aC.fresh<|qe _) (I.laid (a:=s.heap.objs.size) (o:=.dT kvs) (t':=s.toks) kk (qe _) ⟨z,beq_eq_false_iff_ne.mpr<|ĭ<|qj I.KO,xs,?_,o',es,gJ,n1,n2,n3,h4,h5⟩)
  exact KT.keeps r λb ys hb=>by rw[zA (λz=>by rw[z,I.aC.fresh<|qe _]at hb;cases hb)];exact hb
theorem zmS:ik X (.type "dict") (λxs H Q=>∃a kvs,xs=[.ref a]/\Rd H a (.dT kvs)/\ua (kvs.map (·.1))=ż/\∀p,H p=Ž->Q (.ref p) (upd H p<|.dT kvs)):=by
 intro pins s σ H xs us Q I r h;have(a,kvs,rfl,hr,hh,q):=h;have(u,rfl,ru):=pW r;cases ru;exact Yy I hr hh λp s' hp I'=>⟨.ref p,_,I',rfl,q p hp⟩
end
def t6:Qa (D×D)->Qb (Qa<|Qa Key×D)
 |[]=>ž []
 | (k,d)::r=>(d6 k).bind λk=>(t6 r).bind λr=>ž<|(k,d)::r
def wA:U->Qb U
 |.t kvs=>if ua (kvs.map (·.1))=ż then ž (.t kvs)else Ž
 |.d (.dict kvs)=>if l7 kvs=ż then(t6 kvs).bind λkvs=>if ua (kvs.map (·.1))=ż then ž (.t kvs)else Ž else Ž
 |_=>Ž
section
theorem O0{kvs:Qa (Qa Key×D)}(h:fq K H ws kvs):ws.map (·.1)=kvs.map (·.1):=by
 induction h with
 |nil=>rfl
 |cons hq t ih=>rw[Ē,Ē,ih,hq.1]
theorem HX:∀{kvs:Qa (D×D)} {ws:Qa (Qa Key×V)} {r:Qa (Qa Key×D)},jE K H ws kvs->t6 kvs=ž r->fq K H ws r
 |[],ws,r,h,e=>by cases h;cases e;exact .nil
 | (k,d)::kvs,ws,r,h,e=>by
  have(k',ek,e):=bQ (show(d6 k).bind _=ž r from e);have(r',er,e):=bQ e;cases e;cases h with
  | @cons k2 v _ vs ds hv t=>
   rw[DC]at ek;cases ek;exact .cons ⟨rfl,hv⟩<|HX t er
theorem zp4:VC K (λxs H Q=>∃a kvs,xs=[.ref a]/\Rd H a (.dT kvs)/\ua (kvs.map (·.1))=ż/\∀p,H p=Ž->Q (.ref p) (upd H p<|.dT kvs)) (f1 wA):=tM λv a u H Q h e q=>by
 unfold wA at e;split at e
 .split at e
  rotate_left
  .cases e
  rename_i kvs hh;cases e;have(b,ws,rfl,h1,h2):=h;refine⟨b,ws,rfl,.inl h1,by rw[O0 h2];exact hh,λp hp=>?_⟩;have sm:=iH hp (.dT ws);exact q _ _ sm ⟨p,ws,rfl,zD,h2.kp sm.kp⟩ λ_=>⟨p,rfl,hp⟩
 .split at e
  rotate_left
  .cases e
  rename_i nx;have(r,er,e):=bQ e;split at e
  rotate_left
  .cases e
  rename_i hh;cases e;have(b,o,ws,rfl,h1,h2):=DF.cV h nx;have kd:=HX h2 er;refine⟨b,ws,rfl,.inr ⟨o,h1⟩,by rw[O0 kd];exact hh,λp hp=>?_⟩;have sm:=iH hp (.dT ws);exact q _ _ sm ⟨p,ws,rfl,zD,kd.kp sm.kp⟩ λ_=>⟨p,rfl,hp⟩
 .cases e
end
def Cf(i j:Int):Prop:=i.natAbs.log2 < 1000000/\j.natAbs.log2 < 1000000
theorem OZ{n:Int}(h:n.natAbs.log2 < 1000000):Builtin.Int.intBits n<=2^20:=by
 refine intBits_le ?_
 by_cases z:n.natAbs=0
 .rw[z];exact Nat.two_pow_pos _
 .exact qi ((a4C z).mp h) (à (by decide) (by decide))
section
variable{X:Cx}
theorem yI:bF X (Ů .Mult) (rI Cf λi j=>.int<|i * j):=wV λ_ _ _ _ _ _ _ hc q=>mul_int q<|IntMulOk.of_bits (OZ hc.1)<|OZ hc.2
end
section
def t5:=pJ Cf λi j=>.int<|i * j
theorem yH:VO K (rI Cf λi j=>.int<|i * j) t5:=vR λi j H=>.int _
noncomputable def Ce:Qa U->Qb U
 |[.d<|.int i,.d<|.int j]=>ž<|.d<|.int (if j < i then j else i)
 |_=>Ž
theorem Yx:VC K (λxs H Q=>∃i j,xs=[.int i,.int j]/\Q (.int (if j < i then j else i)) H) Ce:=by
 intro vs us u H Q hr e q;unfold Ce at e;split at e
 .rename_i i j
  cases e;cases hr with
  |cons h1 t=>
   cases t with
   |cons h2 t=>
    cases t;cases DF.int_inv h1;cases DF.int_inv h2;exact⟨i,j,rfl,q _ _ (λ_ _ z=>z) (.int _) Nw.data⟩
 .cases e
theorem Yw{w:U}{xs:Qa D}(h:w.lo=ž xs):w=.l xs:=by
 cases w<;>first | (cases h;rfl) |cases h
end
section
variable{ρ:En}{me ma mb mc mk mi md my mv mx mo:ME}{mA mK:MA}{mt mu:MT}{mI:MI}{mg:MG}{m1 m2:MS}{u:U}{x:D}
variable{QE:Ar×En->Prop}{QI:Qa D×En->Prop}
theorem zlq:Wo (wq md my mx ρ) QE=Wo (md ρ) (Co (λp=>(p.1.get p.2).bind λu0=>if vX u0=ż then(my p.2).bind λq=>(mx q.2).bind λz=>(p.1.get z.2).bind λu=>(q.1.get z.2).bind λy=>(z.1.get z.2).bind λx=>(oE u y).bind λo=>x.da.bind λx=>ž (.u<|.d<|o.getD x,z.2)else Ž) ⟨0⟩ QE):=by
 have e:wq md my mx ρ=(md ρ).bind λp=>(p.1.get p.2).bind λu0=>if vX u0=ż then(my p.2).bind λq=>(mx q.2).bind λz=>(p.1.get z.2).bind λu=>(q.1.get z.2).bind λy=>(z.1.get z.2).bind λx=>(oE u y).bind λo=>x.da.bind λx=>ž (.u<|.d<|o.getD x,z.2)else Ž:=by
  unfold wq;refine bind_fn λp=>bind_fn λu0=>?_;split
  .refine bind_fn λq=>bind_fn λz=>bind_fn λu=>bind_fn λy=>bind_fn λx=>bind_fn λo=>?_
   cases x<;>rfl
  .rfl
 rw[e,zw]
theorem Z9:Wo (Fn mA ρ) QI=Wo (mA ρ) (Co (λp=>(bW p.2 p.1).bind λus=>(xK us).bind λds=>ž (ds,p.2)) ⟨0⟩ QI):=by
 show Wo (Ξ _ _) QI=_;rw[zw]
theorem zoC{kvs:Qa (Qa Key×D)}:vX (.t kvs)=ż:=rfl
theorem Z8{a:Int}:Ce [.d<|.int a,.d<|.int b]=ž (.d<|.int (if b < a then b else a)):=rfl
theorem yu{a:Int}(h:a.natAbs.log2 < 1000000)(h2:b.natAbs.log2 < 1000000):t5 (.d<|.int a) (.d<|.int b)=ž (.d<|.int<|a * b):=vN (c:=Cf) ⟨h,h2⟩
theorem MB{g:α->D}{b:α->Bool}{e:α->D}{Q:Qa D×En->Prop}(hz:as.length<=Ď)
  (st:∀a∈as,∀ys,Wo (mg (g a) ρ)<|Co mt ⟨0⟩<|wY nt me ys λao zs=>ao=ρ/\zs=if b a=ż then ys++[e a]else ys) (q:Q ((as.filter b).map e,ρ)):Wo (j0 nt mg mt me (as.map g) ρ []) Q:=by
 refine Lr (λi ao ys=>ao=ρ/\ys=((as.take i).filter b).map e) (by rw[ċ];exact hz) (λi ao ys h=>?_) ⟨rfl,rfl⟩ (λi d ao ys hd h=>?_) λao ys h=>?_
 .rw[h.2,ċ]
  exact qx (î _ _) (by rw[Ŀ];exact Nat.min_le_left _ _)
 .have(rfl,rfl):=h
  rw[ė]at hd;have(a,ha,rfl):=qq.mp hd;have:=st a (Í ha) (((as.take i).filter b).map e);have en:((as.take<|i+1).filter b).map e=if b a=ż then((as.take i).filter b).map e++[e a]else((as.take i).filter b).map e:=by
   rw[List.take_succ,ha,a4Q,ĕ];show _++(([a]:Qa α).filter b).map e=_;rw[Ο];split<;>simp
  rw[en];exact this
 .have(rfl,rfl):=h
  rw[ċ,a0R<|qe _];exact q
end
end Internal
namespace Internal
open PySem
noncomputable def pS(n d:Int):Int:=(if d < 0 then -n else n) / (Ŝ n d:Nat)
noncomputable def oC(n d:Int):Int:=(if d < 0 then -d else d) / (Ŝ n d:Nat)
theorem zp5{n d:Int}(hd:d≠0):pS n d * d=n * oC n d/\1<=oC n d/\Ŝ (pS n d) (oC n d)=1/\oC n d<=d.natAbs/\(pS n d).natAbs<=n.natAbs:=by
 have hg:0 < Ŝ n d:=a2R n hd;have(u,hu):=Int.gcd_dvd_left n d;have(v,hv):=Int.gcd_dvd_right n d;have TM:(0:Int) < (Ŝ n d:Nat):=Int.natCast_pos.mpr hg;have hc:Ŝ (n / (Ŝ n d:Nat)) (d / (Ŝ n d:Nat))=1:=Int.gcd_ediv_gcd_ediv_gcd hg;unfold pS oC;generalize (Ŝ n d:Nat)=g at *;have EK:(g:Int)≠0:=by omega
 have eu:n / (g:Int)=u:=by rw[hu];exact ó u EK
 have ev:d / (g:Int)=v:=by rw[hv];exact ó v EK
 have Ue:(-n) / (g:Int)=-u:=by rw[hu,<-a0z];exact ó (-u) EK
 have vi:(-d) / (g:Int)=-v:=by rw[hv,<-a0z];exact ó (-v) EK
 rw[eu,ev]at hc;have g1:1<=g:=hg;have an:n.natAbs=g * u.natAbs:=by rw[hu,ϑ];rfl
 have ad:d.natAbs=g * v.natAbs:=by rw[hv,ϑ];rfl
 have lu:u.natAbs<=n.natAbs:=by rw[an];exact a3W _ hg
 have lv:v.natAbs<=d.natAbs:=by rw[ad];exact a3W _ hg
 by_cases c:d < 0
 .rw[a5L c,a5L c,Ue,vi]
  have hv0:v < 0:=by
   rcases(by omega:v < 0\/0<=v)with z|z
   .exact z
   .have:=a1q (Ζ TM) z
    omega
  refine⟨?_,by omega,?_,by omega,by omega⟩
  .rw[hu,hv]
   simp only[Int.neg_mul,a0z,Int.neg_inj]
   ac_rfl
  .rw[Int.neg_gcd,Int.gcd_neg]
   exact hc
 .rw[a5M c,a5M c,eu,ev]
  have hv0:0 < v:=by
   rcases(by omega:0 < v\/v<=0)with z|z
   .exact z
   .have:=a1q (Ζ TM) (show 0<=-v by omega)
    rw[a0z,<-hv]at this;omega
  refine⟨?_,by omega,hc,by omega,by omega⟩;rw[hu,hv]
  ac_rfl
theorem Z7{n d N D:Int}(hd:d≠0)(h1:1<=D)(hc:Ŝ N D=1)(he:N * d=n * D):N=pS n d/\D=oC n d:=by
 have(e,y1,c,_,_):=zp5 (n:=n) hd;generalize pS n d=x at *;generalize oC n d=y at *;have k:N * y=x * D:=by
  have z:(N * y) * d=(x * D) * d:=by grind
  exact ć hd z
 have d1:D∣y:=by
  have t:D∣N * y:=⟨x,by rw[k];ac_rfl⟩;have u:=Ă.mpr t;rw[a3Z,hc]at u;simpa using u
 have d2:y∣D:=by
  have t:y∣x * D:=⟨N,by rw[<-k];ac_rfl⟩;have u:=Ă.mpr t;rw[a3Z,c]at u;simpa using u
 have l1:=Int.le_of_dvd (by omega) d1;have l2:=Int.le_of_dvd (by omega) d2;have e2:D=y:=by omega
 refine⟨?_,e2⟩;rw[e2]at k;exact ć (by omega) k
theorem OY(n d:Int){g:Int}(hg:0 < g):n.fdiv (if d < 0 then 0 - g else g)=(if d < 0 then -n else n) / g:=by
 split
 .rw[Int.zero_sub,<-a0m _ (Ζ hg)]
  have:=Int.neg_fdiv_neg (-n) g;rw[Int.neg_neg]at this;exact this
 .rw[a0m _<|Ζ hg]
theorem Z6(x y:Int):Ŝ (if x < 0 then -x else x) (if y < 0 then -y else y)=Ŝ x y:=by
 rw[Zf];split
 .exact Int.gcd_neg
 .rfl
theorem Yv{n d:Int}(hd:d≠0):pS n d=(Ĺ n d).num/\oC n d=((Ĺ n d).den:Int):=by
 have h:=Z7 (n:=n) (d:=d) (N:=(Ĺ n d).num) (D:=((Ĺ n d).den:Int)) hd (by have:=(Ĺ n d).den_pos;omega) (by
  have:=(Ĺ n d).reduced;exact this) (by
  have e:Ĺ (Ĺ n d).num ((Ĺ n d).den:Int)=Ĺ n d:=a1N _;rw[Rat.divInt_eq_divInt_iff (by have:=(Ĺ n d).den_pos;omega) hd]at e;rw[e])
 exact⟨h.1.symm,h.2.symm⟩
noncomputable def fR(r:Rat):D:=.tuple [.int r.num,.int (r.den:Int)]
theorem Vv{n d:Int}(hd:d≠0):ϟ [.int<|pS n d,.int<|oC n d]=fR (Ĺ n d):=by
 have(e1,e2):=Yv (n:=n) hd;rw[e1,e2];rfl
theorem xJ(r:Rat):1<=(r.den:Int):=by have:=r.den_pos;omega
theorem cop(r:Rat):Ŝ r.num (r.den:Int)=1:=by
 have:=r.reduced;exact this
theorem Yu(a b:Rat):Ĺ (a.num * b.den+b.num * a.den) ((a.den:Int) * b.den)=a+b:=by
 rw[Rat.add_def',<-a5E,a2Q]
theorem Yt(a b:Rat):Ĺ (a.num * b.num) ((a.den:Int) * b.den)=a * b:=by
 rw[Rat.mul_def',<-a5E,a2Q]
theorem Z5(r:Rat):r * (r.den:Rat)=(r.num:Rat):=by
 have e:(r.num:Rat) / ((r.den:Int):Rat)=r:=by rw[<-a5e];exact a1N r
 have n:((r.den:Int):Rat)≠0:=λh=>by
  have:=Rat.intCast_inj.mp (show((r.den:Int):Rat)=((0:Int):Rat) from h);have:=r.den_pos;omega
 have:=Rat.div_mul_cancel (a:=(r.num:Rat)) n;rw[e]at this;exact this
def Bd(M B:Nat)(r:Rat):Prop:=∃k:Int,r * (M:Rat)=(k:Rat)/\k.natAbs<=B
section
variable{M N C:Nat}{r s:Rat}
theorem Bd.le(h:Bd M B r)(c:B<=C):Bd M C r:=let ⟨k,e,b⟩:=h;⟨k,e,qx b c⟩
theorem Bd.size(hM:0 < M)(h:Bd M B r):r.den<=M/\r.num.natAbs<=B:=by
 have(k,e,b):=h;have e2:r.num * (M:Int)=k * (r.den:Int):=by
  have h1:=Z5 r;have h2:((r.num * (M:Int):Int):Rat)=((k * (r.den:Int):Int):Rat):=by
   rw[ϲ,ϲ,<-h1,<-e,ω,ω,a3v,a3v,Rat.mul_comm (r.den:Rat)]
  exact Rat.intCast_inj.mp h2
 have dv:(r.den:Int)∣(M:Int):=by
  have t:(r.den:Int)∣r.num * (M:Int):=⟨k,by rw[e2,Int.mul_comm]⟩;have u:=Ă.mpr t;rw[a3Z,cop]at u;simpa using u
 have(c,hc):=dv;have dp:(0:Int) < r.den:=by have:=r.den_pos;omega
 have c0:0 < c:=by
  rcases(by omega:0 < c\/c<=0)with z|z
  .exact z
  .have:=a1q (Ζ dp) (show 0<=-c by omega)
   rw[a0z,<-hc]at this;omega
 have ek:k=r.num * c:=by
  rw[hc]at e2;have:k * (r.den:Int)=(r.num * c) * (r.den:Int):=by rw[<-e2];ac_rfl
  exact ć (by omega) this
 constructor
 .have:(r.den:Int) * 1<=(r.den:Int) * c:=Int.mul_le_mul_of_nonneg_left (by omega) (by omega)
  omega
 .rw[ek,ϑ]at b
  exact qx (Nat.le_mul_of_pos_right _ (by omega)) b
theorem Bd.add(h:Bd M B r)(h':Bd M C s):Bd M (B+C) (r+s):=by
 have(k,e,b):=h;have(l,f,c):=h';exact⟨k+l,by rw[Rat.add_mul,e,f,Rat.intCast_add],qx (Int.natAbs_add_le _ _)<|Nat.add_le_add b c⟩
theorem Bd.mul(h:Bd M B r)(h':Bd N C s):Bd (M * N) (B * C) (r * s):=by
 have(k,e,b):=h;have(l,f,c):=h';refine⟨k * l,?_,by rw[ϑ];exact ÿ b c⟩;rw[ϲ,<-e,<-f,Rat.natCast_mul];grind
theorem Bd.neg(h:Bd M B r):Bd M B (-r):=by
 have(k,e,b):=h;exact⟨-k,by rw[a4y,e,Rat.intCast_neg],by rw[Int.natAbs_neg];exact b⟩
theorem Bd.zero:Bd M B 0:=⟨0,by rw[Rat.zero_mul];rfl,À _⟩
theorem Bd.wide(h:Bd M B r)(c:Nat):Bd (M * c) (B * c) r:=by
 have(k,e,b):=h;refine⟨k * c,?_,by rw[ϑ,Ś];exact Ë _ b⟩;rw[ϲ,<-e,Rat.natCast_mul,ω,a3v]
theorem Bd.one:Bd 1 1 1:=⟨1,by rw[a0w];rfl,qe _⟩
end
abbrev Pq(α:Type):=Qa (Qa Int×α)
section
noncomputable def look(p:Pq α)(k:Qa Int):Qb α:=(p.find? λt=>decide<|t.1=k).map (·.2)
noncomputable def fu(p:Pq α)(k:Qa Int)(x:α):Pq α:=if(p.any λt=>decide<|t.1=k)=ż then p.map (λt=>if t.1=k then(t.1,x)else t)else p++[(k,x)]
def cM(p:Pq α):Prop:=(p.map (·.1)).Nodup
theorem Ii{p:Pq α}{k:Qa Int}:look p k=Ž↔(p.any λt=>decide<|t.1=k)=Ż:=by
 induction p with
 |nil=>simp[look]
 |cons t p ih=>
  unfold look at ih ⊢;rw[ħ,ŭ]
  by_cases h:t.1=k
  .simp[h]
  .rw[a5O h,a0A]
   exact ih
theorem Z4{p:Pq α}{k:Qa Int}:(look p k).isSome=(p.any λt=>decide<|t.1=k):=by
 cases h:look p k with
 |none=>rw[Ii.mp h];rfl
 |some x=>
  cases z:(p.any λt=>decide<|t.1=k)with
  |true=>rfl
  |false=>rw[Ii.mpr z]at h;cases h
theorem Z3(p:Pq α)(k:Qa Int)(x:α):(fu p k x).map (·.1)=if(p.any λt=>decide<|t.1=k)=ż then p.map (·.1)else p.map (·.1)++[k]:=by
 unfold fu;split
 .rw[ĳ]
  refine Ø λt _=>?_;show(if t.1=k then(t.1,x)else t).1=t.1;split<;>rfl
 .rw[ĕ]
  rfl
theorem NX{p:Pq α}{k:Qa Int}{x:α}{t:Qa Int×α}(h:t∈fu p k x):(t∈p/\t.1≠k)\/t=(k,x):=by
 unfold fu at h;split at h
 .have(u,hu,rfl):=Ä.mp h
  by_cases c:u.1=k
  .rw[a5L c];exact .inr (by rw[c])
  .rw[a5M c];exact .inl ⟨hu,c⟩
 .rename_i hn
  rcases È.mp h with z|z
  .exact .inl ⟨z,λe=>hn<|List.any_eq_true.mpr ⟨t,z,a5N e⟩⟩
  .exact .inr (qp.mp z)
theorem cM.put{p:Pq α}(h:cM p)(k:Qa Int)(x:α):cM (fu p k x):=by
 unfold cM;rw[Z3];split
 .exact h
 .rename_i hn
  refine List.nodup_append.mpr ⟨h,by simp,λa ha b hb=>?_⟩;have:b=k:=by simpa using hb
  rw[this];have(t,ht,rfl):=Ä.mp ha;exact λe=>hn<|List.any_eq_true.mpr ⟨t,ht,a5N e⟩
theorem NW(p:Pq α)(k:Qa Int)(x:α):(fu p k x).length<=p.length+1:=by
 unfold fu;split
 .rw[ċ];omega
 .rw[qr];exact qe _
def dC[Add α][Zero α](acc:Pq α)(ts:Pq α):Pq α:=ts.foldl (λa t=>fu a t.1<|(look a t.1).getD 0+t.2) acc
end
section
variable[Add α][Zero α]
theorem CK(ts:Pq α):∀{acc:Pq α},cM acc->cM (dC acc ts):=by
 induction ts with
 |nil=>exact λh=>h
 |cons t ts ih=>exact λh=>ih<|h.put _ _
theorem Dv(ts:Pq α):∀(acc:Pq α),(dC acc ts).length<=acc.length+ts.length:=by
 induction ts with
 |nil=>intro acc;exact qe _
 |cons t ts ih=>
  intro acc;have h1:=ih (fu acc t.1<|(look acc t.1).getD 0+t.2);have h2:=NW acc t.1 ((look acc t.1).getD 0+t.2);rw[qt];show(dC (fu acc t.1<|(look acc t.1).getD 0+t.2) ts).length<=_;omega
theorem OX(acc ts:Pq α)(t:Qa Int×α):dC acc (ts++[t])=fu (dC acc ts) t.1 ((look (dC acc ts) t.1).getD 0+t.2):=by
 unfold dC;rw[List.foldl_append];rfl
theorem OW{Pk:Qa Int->Prop}(ts:Pq α):∀{acc:Pq α},(∀t∈acc,Pk t.1)->(∀t∈ts,Pk t.1)->∀t∈dC acc ts,Pk t.1:=by
 induction ts with
 |nil=>exact λh _=>h
 |cons t ts ih=>
  intro acc h1 h2;refine ih (acc:=fu acc t.1 _) (λu hu=>?_) λu hu=>h2 u<|qm _ hu;rcases NX hu with⟨z,_⟩|rfl
  .exact h1 u z
  .exact h2 t qo
end
theorem Z2{p:Pq α}{k:Qa Int}{x:α}(h:look p k=ž x):(k,x)∈p:=by
 unfold look at h;have(t,ht,rfl):=qq.mp h;have h1:=List.mem_of_find?_eq_some ht;have h2:t.1=k:=by simpa using List.find?_some ht
 rw[<-h2];exact h1
theorem uf{p:Pq α}(nd:cM p){t:Qa Int×α}(h:t∈p):look p t.1=ž t.2:=by
 induction p with
 |nil=>cases h
 |cons u p ih=>
  have sT:u.1∉p.map (·.1)/\cM p:=ĉ.mp nd;unfold look at ih ⊢;rw[ħ];rcases qu.mp h with rfl|h
  .rw[a5N rfl];rfl
  .rw[a5O λe=>sT.1<|List.mem_map.mpr ⟨t,h,e.symm⟩]
   exact ih sT.2 h
noncomputable def aL(p:Pq Rat)(g:Qa Int->Rat):Rat:=(p.map λt=>t.2 * g t.1).sum
theorem gH(g:Qa Int->Rat):aL [] g=0:=rfl
theorem zN(t:Qa Int×Rat)(p:Pq Rat)(g:Qa Int->Rat):aL (t::p) g=t.2 * g t.1+aL p g:=rfl
theorem NV(p q:Pq Rat)(g:Qa Int->Rat):aL (p++q) g=aL p g+aL q g:=by
 induction p with
 |nil=>rw[a0Z,gH,a0c]
 |cons t p ih=>rw[a5r,zN,zN,ih,a1E]
theorem OV{p q:Pq Rat}(h:p.Perm q)(g:Qa Int->Rat):aL p g=aL q g:=by
 induction h with
 |nil=>rfl
 |cons t _ ih=>rw[zN,zN,ih]
 |swap t u p=>rw[zN,zN,zN,zN];grind
 |trans _ _ i1 i2=>exact i1.trans i2
theorem G8(p:Pq Rat)(g:Qa Int->Rat):aL (p.filter λt=>decide<|t.2≠0) g=aL p g:=by
 induction p with
 |nil=>rfl
 |cons t p ih=>
  rw[Ο]
  by_cases h:t.2=0
  .rw[a5M (by simp[h]),zN,h,ih];grind
  .rw[a5L (by simp[h]),zN,zN,ih]
theorem Z1{p:Pq Rat}(nd:cM p){k:Qa Int}{x:Rat}(h:look p k=ž x)(y:Rat)(g:Qa Int->Rat):aL (p.map λt=>if t.1=k then(t.1,x+y)else t) g=aL p g+y * g k:=by
 induction p with
 |nil=>cases h
 |cons t p ih=>
  have sT:t.1∉p.map (·.1)/\cM p:=ĉ.mp nd;rw[Ē,zN,zN]
  by_cases c:t.1=k
  .have e:p.map (λt=>if t.1=k then(t.1,x+y)else t)=p:=by
    have:∀u∈p,(λt:Qa Int×Rat=>if t.1=k then(t.1,x+y)else t) u=id u:=λu hu=>a5M λz=>sT.1<|Ä.mpr ⟨u,hu,z.trans c.symm⟩;rw[a4E this,a4l]
   have ex:t.2=x:=by
    unfold look at h;rw[ħ,a5N c]at h;exact qw h
   rw[e,a5L c,ex,c];grind
  .have h':look p k=ž x:=by
    unfold look at h ⊢;rw[ħ,a5O c]at h;exact h
   rw[a5M c,ih sT.2 h'];grind
theorem Ys{p:Pq Rat}(nd:cM p)(k:Qa Int)(y:Rat)(g:Qa Int->Rat):aL (fu p k<|(look p k).getD 0+y) g=aL p g+y * g k:=by
 unfold fu;cases h:look p k with
 |none=>
  rw[a5M (by rw[Ii.mp h];exact qf),NV,zN,gH,a1V];grind
 |some x=>
  rw[a5L (by rw[<-Z4,h];rfl),a1U];exact Z1 nd h y g
theorem Hz(ts:Pq Rat)(g:Qa Int->Rat):∀{acc:Pq Rat},cM acc->aL (dC acc ts) g=aL acc g+aL ts g:=by
 induction ts with
 |nil=>intro acc _;rw[gH,Ŗ];rfl
 |cons t ts ih=>
  intro acc nd;show aL (dC (fu acc t.1 _) ts) g=_;rw[ih<|nd.put _ _,Ys nd,zN,a1E]
def wX(a b:Qa Int×α):Prop:=cN a.1 b.1=ż
def ins(x:Qa Int×α):Pq α->Pq α
 |[]=>[x]
 |y::l=>if cN x.1 y.1=ż then x::y::l else y::ins x l
def wR:Pq α->Pq α
 |[]=>[]
 |x::l=>ins x<|wR l
theorem HW(x:Qa Int×α):∀l:Pq α,(ins x l).Perm<|x::l
 |[]=>.refl _
 |y::l=>by
  unfold ins;split
  .exact .refl _
  .exact((HW x l).cons y).trans (List.Perm.swap x y l)
theorem su:∀l:Pq α,(wR l).Perm l
 |[]=>.refl _
 |x::l=>(HW x<|wR l).trans<|(su l).cons x
theorem OU(x:Qa Int×α):∀{l:Pq α},l.Pairwise wX->(∀y∈l,x.1≠y.1)->(ins x l).Pairwise wX
 |[],_,_=>by unfold ins;simp
 |y::l,h,ne=>by
  have(h1,h2):=Ü.mp h;unfold ins;split
  .rename_i c
   refine Ü.mpr ⟨λw hw=>?_,h⟩;rcases qu.mp hw with rfl|hw
   .exact c
   .exact wI c (h1 w hw)
  .rename_i c
   refine Ü.mpr ⟨λw hw=>?_,OU x h2 λw hw=>ne w<|qm _ hw⟩;rcases qu.mp ((HW x l).mem_iff.mp hw)with rfl|hw
   .exact(wH<|ne y qo).resolve_left c
   .exact h1 w hw
theorem HV:∀{l:Pq α},cM l->(wR l).Pairwise wX
 |[],_=>.nil
 |x::l,nd=>by
  have sT:x.1∉l.map (·.1)/\cM l:=ĉ.mp nd;exact OU x (HV sT.2) λy hy e=>sT.1<|Ä.mpr ⟨y,(su l).mem_iff.mp hy,e.symm⟩
structure Nf (p:Pq Rat):Prop where
 st:p.Pairwise wX
 nz:∀t∈p,t.2≠0
theorem Hy{p:Pq Rat}{k:Qa Int}(h:∀t∈p,t.1≠k):aL p (λe=>if e=k then 1 else 0)=0:=by
 induction p with
 |nil=>rfl
 |cons t p ih=>
  rw[zN,ih λu hu=>h u<|qm _ hu,a5M<|h t qo];grind
theorem sX{a b:Qa Int×α}(h:wX a b):a.1≠b.1:=λe=>by
 unfold wX at h;rw[e,um]at h;cases h
theorem Nf.tail{t:Qa Int×Rat}{p:Pq Rat}(h:Nf (t::p)):Nf p:=⟨(Ü.mp h.st).2,λu hu=>h.nz u<|qm _ hu⟩
theorem Nf.g8{t:Qa Int×Rat}{p:Pq Rat}(h:Nf (t::p)):aL (t::p) (λe=>if e=t.1 then 1 else 0)=t.2:=by
 rw[zN,Hy λu hu e=>sX ((List.pairwise_cons.mp h.st).1 u hu) e.symm,a5L rfl];grind
theorem NU:∀{p q:Pq Rat},Nf p->Nf q->(∀g,aL p g=aL q g)->p=q
 |[],[],_,_,_=>rfl
 |[],t::q,_,hq,h=>by
  have:=h λe=>if e=t.1 then 1 else 0;rw[hq.g8,gH]at this;exact absurd this.symm<|hq.nz t qo
 |t::p,[],hp,_,h=>by
  have:=h λe=>if e=t.1 then 1 else 0;rw[hp.g8,gH]at this;exact absurd this<|hp.nz t qo
 |t::p,u::q,hp,hq,h=>by
  have key:t.1=u.1:=by
   by_cases c:t.1=u.1
   .exact c
   .exfalso
    rcases wH c with z|z
    .have:=h λe=>if e=t.1 then 1 else 0
     rw[hp.g8,Hy]at this
     .exact hp.nz t qo this
     .intro w hw e
      rcases qu.mp hw with rfl|hw
      .exact c e.symm
      .have:=wI z ((Ü.mp hq.st).1 w hw)
       rw[e,um]at this;cases this
    .have:=h λe=>if e=u.1 then 1 else 0
     rw[hq.g8,Hy]at this
     .exact hq.nz u qo this.symm
     .intro w hw e
      rcases qu.mp hw with rfl|hw
      .exact c e
      .have:=wI z ((Ü.mp hp.st).1 w hw)
       rw[e,um]at this;cases this
  have val:t.2=u.2:=by
   have:=h λe=>if e=t.1 then 1 else 0;rw[hp.g8,key,hq.g8]at this;exact this
  have tl:∀g,aL p g=aL q g:=λg=>by
   have:=h g;rw[zN,zN,key,val]at this;grind
  rw[NU hp.tail hq.tail tl,Prod.ext key val]
noncomputable def nz(p:Pq Rat):Pq Rat:=p.filter λt=>decide<|t.2≠0
theorem Lo{p:Pq Rat}(h:cM p):cM (nz p):=h.sublist (List.filter_sublist.map _)
theorem Eo:cM ([]:Pq Rat):=a2Y
def PB(M B:Nat)(p:Pq Rat):Prop:=∀t∈p,Bd M B t.2
theorem Hx{M:Nat}{p:Pq Rat}(h:PB M B p)(k:Qa Int):Bd M B ((look p k).getD 0):=by
 cases e:look p k with
 |none=>exact Bd.zero
 |some x=>exact h _<|Z2 e
theorem CJ{M:Nat}(ts:Pq Rat):∀{C:Nat} {acc:Pq Rat},PB M C acc->PB M B ts->PB M (C+ts.length * B) (dC acc ts):=by
 induction ts with
 |nil=>intro C acc h _ t ht;exact(h t ht).le (by rw[Ő];omega)
 |cons t ts ih=>
  intro C acc h h' u hu;have hp:PB M (C+B) (fu acc t.1<|(look acc t.1).getD 0+t.2):=λv hv=>by
   rcases NX hv with⟨z,_⟩|rfl
   .exact(h v z).le (by omega)
   .exact(Hx h _).add (h' t qo)
  exact(ih hp (λv hv=>h' v<|qm _ hv) u hu).le (by rw[qt,a0x];omega)
theorem S4{M:Nat}:PB M B []:=λt ht=>by cases ht
noncomputable def bM(a b:Qa Int):Qa Int:=List.zipWith (·+·) a b
def dg[Mul α](p q:Pq α):Pq α:=p.flatMap λs=>q.map λt=>(bM s.1 t.1,s.2 * t.2)
theorem zsA(s:Qa Int×Rat)(q:Pq Rat)(g:Qa Int->Rat):aL (q.map λt=>(bM s.1 t.1,s.2 * t.2)) g=s.2 * aL q λb=>g (bM s.1 b):=by
 induction q with
 |nil=>rw[Œ,gH,gH,a3Q]
 |cons t q ih=>rw[Ē,zN,zN,ih];grind
theorem Du(p q:Pq Rat)(g:Qa Int->Rat):aL (dg p q) g=aL p λa=>aL q λb=>g (bM a b):=by
 induction p with
 |nil=>rfl
 |cons s p ih=>
  show aL (_++dg p q) g=_;rw[NV,zsA,ih,zN]
theorem qF{p:Pq Rat}{g h:Qa Int->Rat}(e:∀t∈p,g t.1=h t.1):aL p g=aL p h:=by
 induction p with
 |nil=>rfl
 |cons t p ih=>rw[zN,zN,e t qo,ih λu hu=>e u<|qm _ hu]
theorem HU[Mul α](p q:Pq α):(dg p q).length=p.length * q.length:=by
 induction p with
 |nil=>simp[dg]
 |cons s p ih=>
  show(_++dg p q).length=_;rw[qr,ih,ċ,qt,a0x,a4B,a3X]
theorem Dt[Mul α]{p q:Pq α}{t:Qa Int×α}(h:t∈dg p q):∃u∈p,∃v∈q,t=(bM u.1 v.1,u.2 * v.2):=by
 have(u,hu,h):=List.mem_flatMap.mp h;have(v,hv,rfl):=Ä.mp h;exact⟨u,hu,v,hv,rfl⟩
theorem Yr{M N C:Nat}{p q:Pq Rat}(h:PB M B p)(h':PB N C q):PB (M * N) (B * C) (dg p q):=λt ht=>by
 have(u,hu,v,hv,rfl):=Dt ht;exact(h u hu).mul<|h' v hv
noncomputable def iv(m:Nat)(r:Rat):Int:=r.num * ((m:Int) / (r.den:Int))
noncomputable def dB(ks:Qa Int):D:=.tuple (ks.map Ģ)
noncomputable abbrev kL(ks:Qa Int):Qa Key:=ks.map Δ
section
variable{c:α->D}
def bB(c:α->D)(p:Pq α):Qa (Qa Key×D):=p.map λt=>(kL t.1,c t.2)
def bR(c:α->D)(p:Pq α):Qa (D×D):=p.map λt=>(dB t.1,c t.2)
theorem wm{a b:Qa Int}:kL a=kL b↔a=b:=Za
theorem MR(k:Qa Int):i7 (kL k)=dB k:=by
 unfold i7 dB kL;rw[ĳ];rfl
theorem uw(k:Qa Int):d6 (dB k)=ž (kL k):=by rw[<-MR,DC]
theorem OP(p:Pq α):(bB c p).map (λp=>(i7 p.1,p.2))=bR c p:=by
 unfold bB bR;rw[ĳ];refine Ø λt _=>?_;show(i7<|kL t.1,c t.2)=_;rw[MR]
theorem so{p:Pq α}:U.fz (.t<|bB c p)=ž (.dict<|bR c p):=by
 show ž (a2e _)=_;rw[OP]
theorem CI(p:Pq α):l7 (bR c p)=ż:=by
 cases p with
 |nil=>rfl
 |cons t p=>rfl
theorem Yq(p:Pq α)(k:Qa Int):tW (bB c p) (kL k)=(look p k).map c:=by
 unfold tW bB look
 induction p with
 |nil=>rfl
 |cons t p ih=>
  rw[Ē,ħ,ħ]
  by_cases h:t.1=k
  .rw[a5N h,a5N<|wm.mpr h];rfl
  .rw[a5O h,a5O λz=>h<|wm.mp z];exact ih
theorem zsC(p:Pq α)(k:Qa Int):vO (bR c p) (kL k)=(look p k).map c:=by
 unfold vO bR look
 induction p with
 |nil=>rfl
 |cons t p ih=>
  rw[Ē,ħ,ħ]
  by_cases h:t.1=k
  .rw[a5N h,a5N (show d6 (dB t.1)=ž (kL k) by rw[uw,h])];rfl
  .rw[a5O h,a5O (show ¬d6 (dB t.1)=ž (kL k) by rw[uw];exact λz=>h<|wm.mp<|qw z)];exact ih
theorem zoH{p:Pq α}{k:Qa Int}:oE (.t<|bB c p) (.d<|dB k)=ž ((look p k).map c):=by
 show(d6<|dB k).map _=_;rw[uw,a2n,Yq]
theorem zoI{p:Pq α}{k:Qa Int}:oE (.d<|.dict<|bR c p) (.d<|dB k)=ž ((look p k).map c):=by
 show(if l7 (bR c p)=ż then _ else _)=_;rw[a5L<|CI p];show(d6<|dB k).map _=_;rw[uw,a2n,zsC]
theorem zsD{p:Pq α}:l7 (bR c p)=ż:=CI p
theorem zsE{p:Pq α}:(bR c p).map (λx=>x.1)=p.map λt=>dB t.1:=by
 unfold bR;rw[ĳ];rfl
theorem zlw{k:Qa Int}:d6 (dB k)=ž (kL k):=uw k
theorem Vu(p:Pq α)(k:Qa Int)(x:α):mP (bB c p) (kL k) (c x)=bB c (fu p k x):=by
 have any:((bB c p).any λkv=>decide<|kv.1=kL k)=(p.any λt=>decide<|t.1=k):=by
  unfold bB;rw[List.any_map];congr 1
  funext t
  exact decide_eq_decide.mpr wm
 unfold mP fu;rw[any];split
 .unfold bB
  rw[ĳ,ĳ];refine Ø λt _=>?_;show(if kL t.1=kL k then _ else _)=(λt:Qa Int×α=>(kL t.1,c t.2)) (if t.1=k then(t.1,x)else t)
  by_cases h:t.1=k
  .rw[a5L<|wm.mpr h,a5L h]
  .rw[a5M λz=>h<|wm.mp z,a5M h]
 .unfold bB
  rw[ĕ];rfl
theorem MQ(p:Pq α):(bB c p).length=p.length:=ċ ..
theorem BQ{p:Pq α}{k:Qa Int}{x:α}(h:p.length < 16777216):Gv (.t<|bB c p) (dB k) (c x)=ž (.t<|bB c<|fu p k x):=by
 show(d6<|dB k).bind _=_;rw[uw,bd,a5L (by rw[MQ];exact h),Vu]
theorem HS:∀p:Pq α,t6 (bR c p)=ž (bB c p)
 |[]=>rfl
 |t::p=>by
  show(d6<|dB t.1).bind _=_;rw[uw,bd];show(t6<|bR c p).bind _=_;rw[HS p,bd];rfl
theorem OT(p:Pq α):(bB c p).map (·.1)=(p.map (·.1)).map kL:=by
 unfold bB;rw[ĳ,ĳ];rfl
def xV(p:Pq α):Prop:=ua ((p.map (·.1)).map kL)=ż
theorem Lm{p:Pq α}(h:xV p):wA (.d<|.dict<|bR c p)=ž (.t<|bB c p):=by
 show(if l7 (bR c p)=ż then _ else _)=_;rw[a5L<|CI p,HS,bd,a5L (by rw[OT];exact h)]
theorem Ll{p:Pq α}(h:xV p):wA (.t<|bB c p)=ž (.t<|bB c p):=by
 show(if _ then _ else _)=_;rw[a5L (by rw[OT];exact h)]
end
theorem WH{r:Rat}:zJ (.d<|fR r) (.d<|.int 0)=ž (.d<|.int r.num):=rfl
theorem WG{r:Rat}:zJ (.d<|fR r) (.d<|.int 1)=ž (.d<|.int (r.den:Int)):=rfl
theorem MP(r:Rat):(!decide (r.num=0))=decide (r≠0):=by
 rw[ϰ,a1Z,decide_eq_false_iff_not,decide_eq_true_iff];exact not_congr a2L
theorem OS{f:α->D}{g:β->D}:∀(as:Qa α) (bs:Qa β),tP (as.map f) (bs.map g)=(as.zip bs).map λt=>.tuple [f t.1,g t.2]
 |[],bs=>by cases bs<;>rfl
 |a::as,[]=>rfl
 |a::as,b::bs=>by rw[Ē,Ē,a1F,Ē,<-OS as bs];rfl
theorem PY{f:α->D}{ks:Qa Int}(h:as.length=ks.length):xK [.d<|.tuple<|as.map f,.d<|dB ks]=ž ((as.zip ks).map λt=>.tuple [f t.1,.int t.2]):=by
 show(if _ then _ else _)=_;rw[a5L (by rw[ċ,ċ];exact h),OS]
theorem QB{as ks:Qa Int}(h:as.length=ks.length):xK [.d<|dB as,.d<|dB ks]=ž ((as.zip ks).map λt=>.tuple [.int t.1,.int t.2]):=PY (f:=Ģ) h
theorem CH{g:α->D}{e:α->D}{mg:MG}{mt:MT}{me:ME}{ρ:En}{Q:Qa D×En->Prop}(hz:as.length<=16777216)
  (st:∀a∈as,∀ys,Wo (mg (g a) ρ)<|Co mt ⟨0⟩<|wY nt me ys λao zs=>ao=ρ/\zs=ys++[e a]) (q:Q (as.map e,ρ)):Wo (j0 nt mg mt me (as.map g) ρ []) Q:=by
 refine MB (b:=λ_=>ż) (e:=e) (by rw[vI];exact hz) (λa ha ys=>?_) ?_
 .simp only[if_true]
  exact st a ha ys
 .rw[show as.filter (λ_=>ż)=as from List.filter_eq_self.mpr λ_ _=>rfl]
  exact q
theorem Qu(r:Rat):ϣ (fR r)=ż:=by
 unfold ϣ fR;simp[a1d,ϸ,a0G,a0M]
theorem Vt(a b:Rat):a1s (fR a) (fR b)=decide (a=b):=by
 unfold fR;simp only[a1s,PyData.eqvAll];rw[ϰ,decide_eq_true_iff];constructor
 .intro h
  simp only[ĩ,beq_iff_eq]at h;exact Rat.ext h.1 (by omega)
 .rintro rfl
  simp
theorem Hw{a b:Rat}{neg:Bool}:pU neg (.d<|fR a) (.d<|fR b)=ž (.d<|.bool (if neg=ż then !decide (a=b)else decide (a=b))):=by
 show(ž<|fR a).bind _=_;rw[bd];show(ž<|fR b).bind _=_;rw[bd,a5L ⟨Qu a,Qu b⟩,Vt]
theorem Vr:ϟ [.int 1,.int 1]=fR 1:=rfl
theorem Vq{r:Rat}(h1:r.num.natAbs < 10^n)(h2:r.den < 10^n)(h0:0 < n:=by decide)(h3:n<=470:=by decide):gT 1 (2 * (n+1+2)+3) (fR r):=by
 refine sv (λd hd=>?_)<|qe _;rcases qu.mp hd with rfl|hd
 .exact ug h1 h0 h3
 .rw[qp.mp hd]
  exact ug (by rw[Ś];exact h2) h0 h3
theorem zsH{o:Qb Rat}:(Option.map fR o).getD (.tuple [.int 0,.int 1])=fR (o.getD 0):=by cases o<;>rfl
theorem zp6[Mul α](p q:Pq α)(s:Qa Int×α):dg (p++[s]) q=dg p q++q.map λt=>(bM s.1 t.1,s.2 * t.2):=by
 unfold dg;rw[List.flatMap_append];simp
theorem lV(a b:Qa Int):bM a b=bM b a:=by
 unfold bM;rw[List.zipWith_comm];congr 1
 funext x y
 exact Int.add_comm _ _
noncomputable def mon:Qa (Rat×Int)->Rat
 |[]=>1
 |t::l=>t.1^t.2.toNat * mon l
def mono(pt:Qa Rat)(e:Qa Int):Rat:=mon (pt.zip e)
noncomputable def fL(s:Int)(q:Pq Rat):Pq Rat:=q.map λt=>(t.1,(s:Rat) * t.2)
theorem Vp{s:Int}(hs:s=1\/s=-1)(r:Rat):ϟ [.int<|s * r.num,.int (r.den:Int)]=fR ((s:Rat) * r):=by
 rcases hs with rfl|rfl
 .rw[Int.one_mul,show((1:Int):Rat)=1 from rfl,a0w];rfl
 .rw[show((-1:Int):Rat)=-1 from rfl,a4y,a0w,Int.neg_mul,Int.one_mul];rfl
theorem G7{M:Nat}{s:Int}(hs:s=1\/s=-1){q:Pq Rat}(h:PB M B q):PB M B (fL s q):=λt ht=>by
 have(u,hu,rfl):=Ä.mp ht;rcases hs with rfl|rfl
 .show Bd M B (((1:Int):Rat) * u.2)
  rw[show((1:Int):Rat)=1 from rfl,a0w];exact h u hu
 .show Bd M B (((-1:Int):Rat) * u.2)
  rw[show((-1:Int):Rat)=-1 from rfl,a4y,a0w];exact(h u hu).neg
theorem zp7{p:Pq α}{k:Qa Int}{x:α}(h:∀t∈p,t.1≠k):fu p k x=p++[(k,x)]:=by
 unfold fu;rw[a5M];intro z;have(t,ht,e):=List.any_eq_true.mp z;exact h t ht<|a5P e
theorem zsI{bs cs:Pq α}{t:Qa Int×α}(nd:cM (bs++t::cs)):∀u∈bs,u.1≠t.1:=λu hu e=>by
 unfold cM at nd;rw[ĕ,Ē]at nd;exact(List.nodup_append.mp nd).2.2 u.1 (Ä.mpr ⟨u,hu,rfl⟩) t.1 qo e
theorem NT(bs:Pq Rat)(t:Qa Int×Rat):nz (bs++[t])=if t.2=0 then nz bs else nz bs++[t]:=by
 unfold nz;rw[a4Q,Ο]
 by_cases h:t.2=0
 .rw[a5L h,a5M (by simp[h])];simp
 .rw[a5M h,a5L (by simp[h])];rfl
theorem MN{bs cs:Pq Rat}{t:Qa Int×Rat}(nd:cM (bs++t::cs)):fu (nz bs) t.1 t.2=nz bs++[t]:=zp7 λu hu=>zsI nd u (á.mp hu).1
theorem CG{f:α->β}:∀{l:Qa α},(l.map f).Nodup->∀a∈l,∀b∈l,f a=f b->a=b
 |[],_,a,ha,_,_,_=>by cases ha
 |x::l,nd,a,ha,b,hb,e=>by
  rw[Ē,a2A]at nd;rcases qu.mp ha with h1|h1
  .rcases qu.mp hb with h2|h2
   .rw[h1,h2]
   .exact(nd.1<|Ä.mpr ⟨b,h2,by rw[<-e,h1]⟩).elim
  .rcases qu.mp hb with h2|h2
   .exact(nd.1<|Ä.mpr ⟨a,h1,by rw[e,h2]⟩).elim
   .exact CG nd.2 a h1 b h2 e
theorem Vo{n d:Int}{M:Nat}(hd:0 < d)(h:d∣(M:Int))(h0:0 < M):Bd M (n.natAbs * M) (Ĺ n d):=by
 have(c,hc):=h;have c0:0 < c:=by
  rcases(by omega:0 < c\/c<=0)with z|z
  .exact z
  .have:=a1q (Ζ hd) (show 0<=-c by omega)
   rw[a0z,<-hc]at this;omega
 have dr:((d:Int):Rat)≠0:=λz=>by
  have:=Rat.intCast_inj.mp (show((d:Int):Rat)=((0:Int):Rat) from z);omega
 refine⟨n * c,?_,?_⟩
 .have e:(M:Rat)=((d:Int):Rat) * ((c:Int):Rat):=by rw[<-ϲ,<-hc,ω]
  rw[e,a5e,ϲ];grind
 .rw[ϑ]
  refine a4O _ ?_;have:1 * c<=d * c:=Int.mul_le_mul_of_nonneg_right (by omega) (by omega);omega
end Internal
namespace Internal
open PySem PySem.Spec PyProof.Rows
open PySem.AutoSeq1 (wpAny_loadPart')
theorem zmW(t:Qg)(items:Array Qc)(n:Nat)(dd:Qb Qg)(sl:Array (Qb Qc))(u:Tok):
  Meets (Builtin.«tuple.__mul__» ⟨[.ref t,.int 1 u],[]⟩) (λ_ R s=>s.heap.get? t=ž {cls:=.type "tuple",dict:=dd,data:=.seq items n,slots:=sl}/\R (.ok<|.ret<|.ref t) s):=
 .of_wp λprog w A R s h=>by
  have(hp,g,d,tk,os):=s;have(hl,h):=h
  wp_walk using wpAny_loadPart' hl
  exact⟨_,rfl,h⟩
theorem zmX(t:Qg)(items:Array Qc)(n:Nat)(dd:Qb Qg)(sl:Array (Qb Qc))(x:Int)(u:Tok)(hf:(decide (x < -2^63) || decide (x>=2^63))=Ż)(h1:(items.isEmpty || x==1)=Ż)(h0:(decide (x<=0) || items.isEmpty)=ż):
  Meets (Builtin.«tuple.__mul__» ⟨[.ref t,.int x u],[]⟩) (λ_ R s=>s.heap.get? t=ž {cls:=.type "tuple",dict:=dd,data:=.seq items n,slots:=sl}/\
   R (.ok<|.ret<|.ref s.heap.objs.size) {s with heap:=s.heap.push {cls:=.type "tuple",data:=.seq #[]}}):=
 .of_wp λprog w A R s h=>by
  have(hp,g,d,tk,os):=s;have(hl,h):=h
  wp_walk using wpAny_loadPart' hl
  refine a3u (by rw[hf];rfl) ?_
  wp_walk using wpAny_loadPart' hl
  exact⟨_,rfl,h⟩
theorem zmY(t:Qg)(items:Array Qc)(n:Nat)(dd:Qb Qg)(sl:Array (Qb Qc))(x:Int)(u:Tok)(hf:(decide (x < -2^63) || decide (x>=2^63))=Ż)(h1:(items.isEmpty || x==1)=Ż)(h0:(decide (x<=0) || items.isEmpty)=Ż)
  (hm:¬((items.size:Int) * x > (2^63 - 1) / 8)) (ht:Builtin.Tuple.tupleTooMany ((items.size:Int) * x)=Ż) (hz:(a1G (λx1 x2=>x1++x2) #[] (č x.toNat items)).size<=Ď):
  Meets (Builtin.«tuple.__mul__» ⟨[.ref t,.int x u],[]⟩) (λ_ R s=>s.heap.get? t=ž {cls:=.type "tuple",dict:=dd,data:=.seq items n,slots:=sl}/\
   R (.ok<|.ret<|.ref s.heap.objs.size) {s with heap:=s.heap.push {cls:=.type "tuple",data:=.seq (a1G (λx1 x2=>x1++x2) #[] (č x.toNat items))}}):=
 .of_wp λprog w A R s h=>by
  have(hp,g,d,tk,os):=s;have(hl,h):=h
  wp_walk using wpAny_loadPart' hl
  refine a3u (by rw[hf];rfl) ?_
  wp_walk using wpAny_loadPart' hl
  refine a3u (a5O hm) ?_
  wp_walk using wpAny_loadPart' hl
  exact⟨_,rfl,h⟩
theorem zgl:fillsNumberSlot (.type "tuple") "mul"=pure Ż :=
 PySem.fillsNumberSlot_seq (id := "tuple.__mul__") (r:=ž (.builtin "tuple.__rmul__")) F.slot_tuple_mul.lookup (by decide +kernel) F.slot_tuple_rmul.lookup (by decide +kernel)
theorem zj0:seqRepeat? (.type "tuple")=pure (ž<|.builtin "tuple.__mul__"):=by
 unfold seqRepeat?;rw[a4V (T := "tuple") (name := "__mul__") (id := "tuple.__mul__") F.slot_tuple_mul.lookup (by decide +kernel),a4V (T := "tuple") (name := "__rmul__") (id := "tuple.__rmul__") F.slot_tuple_rmul.lookup (by decide +kernel)];rfl
theorem zhV(a:Int)(t:Tok)(l:Qg)(items:Array Qc)(n:Nat)(dd:Qb Qg)(sl:Array (Qb Qc)):
  Meets (Builtin.«int.__rmul__» ⟨[.int a t,.ref l],[]⟩) (λ_ R s=>s.heap.get? l=ž {cls:=.type "tuple",dict:=dd,data:=.seq items n,slots:=sl}/\R (.ok<|.ret Value.notImplemented) s):=
 .of_wp λprog w A R s h=>by have(hp,g,d,tk,os):=s;have(hl,h):=h;wp_walk;exact⟨_,rfl,h⟩
section
variable{X:Cx}
def Lk(K:qc):R2:=λx y H Q=>∃l k xs,x=.ref l/\y=.int k/\bT K H l xs/\xs≠[]/\k < 1000000/\-1000000 < k/\xs.length * k.toNat<=1000000/\
 ((k=1/\Q x H)\/(k≠1/\∀p,H p=Ž->Q (.ref p) (upd H p<|.tup (č k.toNat xs).flatten)))
theorem Ds(K:qc)(hK:X.K=K:=by rfl):bF X (Ů .Mult) (Lk K):=by
 subst hK;intro pins s σ H x y v u Q I rx ry h;have(l,k,xs,rfl,rfl,hq,qV,hk,hk0,hz,q):=h;cases rx;have(t,rfl):=ry;have(aq,rv,ht,hzz):=I.tuple hq;obtain⟨⟨c,jC,dt,sl⟩,hl,hc,n,hd⟩:=ht;replace hc:c=.type "tuple":=hc;replace hd:dt=.seq aq.toArray n:=hd;subst hc hd;have lv:=rv.length;have To:aq.toArray.isEmpty=Ż:=by
  cases aq with
  |nil=>cases rv;exact absurd rfl qV
  |cons a r=>rfl
 have hf:(decide (k < -2^63) || decide (k>=2^63))=Ż:=by
  rw[a4p];exact⟨a5O (by omega),a5O (by omega)⟩
 have f0:a1G (λx1 x2=>x1++x2) #[] (č k.toNat aq.toArray)=(č k.toNat aq).flatten.toArray:=by
  have:=Qn aq k.toNat [];rw[a0Z]at this;exact this
 have ln:(č k.toNat xs).flatten.length<=Ď:=by
  rw[Oe,Nat.mul_comm];have:Ď=16777216:=vI;omega
 refine wpAny_binaryOp_repeat_ref (T := "tuple") (U := "int") (by decide) ⟨_,hl,rfl⟩ (λs'=>typeIs_int s' k t) zgl F.fills_int_mul F.slot_int_rmul zj0 F.slot_int_index.lookup
  (a0D F.slot_int_rmul (typeIs_int s k t) F.entry_int_rmul (F.args_int_rmul_2 _ _) (zhV k t l aq.toArray n jC sl) ⟨hl,rfl,⟨_,hl,rfl⟩,?_⟩)
 rcases q with⟨rfl,q⟩|⟨k1,q⟩
 .exact a0D a2S ⟨_,hl,rfl⟩ a2x (a2i _ _) (zmW l aq.toArray n jC sl t) ⟨hl,.ref l,H,I,rfl,q⟩
 .have h1:(aq.toArray.isEmpty || k==1)=Ż:=by rw[To,a0A];simpa using k1
  by_cases k0:k<=0
  .refine a0D a2S ⟨_,hl,rfl⟩ a2x (a2i _ _) (zmX l aq.toArray n jC sl k t hf h1 (by rw[a5N k0];rfl)) ⟨hl,.ref _,_,I.laid (t':=s.toks) (o:=.tup []) (λ_ _ q=>qd _ q) (qe _) ⟨À _,[],.nil,_,qg _ rfl,rfl,⟨_,rfl⟩,.inl rfl⟩,rfl,?_⟩
   have:=q _ I.fresh;rw[show k.toNat=0 by omega]at this;exact this
  .have m63:(aq.toArray.size:Int) * k<=1000000:=by
    have e1:(aq.toArray.size:Int)=(xs.length:Int):=by rw[ē,lv]
    have e2:k=(k.toNat:Int):=by omega
    rw[e1,e2,<-a2Q];omega
   refine a0D a2S ⟨_,hl,rfl⟩ a2x (a2i _ _) (zmY l aq.toArray n jC sl k t hf h1 (by rw[a5O k0,To];rfl) (by omega) (a5O (by rw[show((Ď:Nat):Int)=16777216 by rw[vI];rfl];omega)) ?_) ⟨hl,.ref _,_,I.laid (t':=s.toks) (o:=.tup (č k.toNat xs).flatten) (λ_ _ q=>qd _ q) (qe _) ⟨ln,(č k.toNat aq).flatten,rv.rep k.toNat,_,qg _ rfl,rfl,⟨0,?_⟩,.inl rfl⟩,rfl,q _ I.fresh⟩
   .rw[f0,ē,Oe,Nat.mul_comm]
    have:Ď=16777216:=vI;rw[<-lv];omega
   .show a4n (a1G (λx1 x2=>x1++x2) #[] (č k.toNat aq.toArray)) _=_
    rw[f0]
end
def pZ:U->U->Qb U
 |.d (.tuple xs),.d (.int k)=>if xs≠[]/\k < 1000000/\-1000000 < k/\xs.length * k.toNat<=1000000 then ž (.d<|.tuple (č k.toNat xs).flatten)else Ž
 |_,_=>Ž
theorem NS{ds:Qa D}(h:aO K H vs ds):∀n:Nat,aO K H (č n vs).flatten (č n ds).flatten
 |0=>.nil
 |n+1=>by
  rw[Ŕ,Ŕ,ź,ź];exact h.app<|NS h n
theorem Dr:VO K (Lk K) pZ:=by
 intro x y a b u H Q ha hb e q;unfold pZ at e;split at e
 .split at e
  rotate_left
  .cases e
  rename_i xs k hc;cases e;have(l,vs,rfl,h1,h2):=DF.aI ha;cases DF.int_inv hb;have ln:=h2.len;refine⟨l,k,vs,rfl,rfl,(bg.sq h1),λz=>hc.1<|ü (by rw[<-ln,z];rfl),hc.2.1,hc.2.2.1,by rw[ln];exact hc.2.2.2,?_⟩
  by_cases k1:k=1
  .subst k1
   refine .inl ⟨rfl,q _ _ (λ_ _ z=>z) ?_ Nw.data⟩;have e:(č (1:Int).toNat xs).flatten=xs:=by simp
   rw[e];exact DF.tup h1 h2
  .refine .inr ⟨k1,λp hp=>?_⟩
   have sm:=iH hp (.tup (č k.toNat vs).flatten);exact q _ _ sm (.tup (.inl zD)<|(NS h2 _).kp sm.kp) Nw.data
 .cases e
theorem P5{xs:Qa D}{k:Int}(h:0 < xs.length)(h2:k < 1000)(h3:-1000 < k)(h4:xs.length < 1000):pZ (.d<|.tuple xs) (.d<|.int k)=ž (.d<|.tuple (č k.toNat xs).flatten):=by
 show(if _ then _ else _)=_;rw[a5L ⟨λz=>by rw[z]at h;exact Ð _ h,by omega,by omega,qx (ÿ (â h4) (show k.toNat<=1000 by omega)) (by decide)⟩]
end Internal
namespace Internal
open PySem PySem.Spec PyProof.Rows
def G6(K:qc)(tk tv:TE):TE:=λσ H Q=>∀p,H p=Ž->tk σ (upd H p<|.dT []) λx H1=>tv σ H1 λy H2=>H2 p=ž (.dT [])/\∃k b,x=.ref b/\bg K H2 b (k.map kV)/\Q (.ref p) (upd H2 p<|.dT [(k,y)])
theorem zsK{X:Cx}{k v:į}{tk:TE}(hu:X.A.units+1 < ϻ)(hk:PE X k tk)(hv:PE X v tv):PE X (.Dict [ž k] [v] pos) (G6 X.K tk tv):=by
 intro pins s σ H Q I q;have hn:=I.aC.fresh (qe s.heap.objs.size);have I1:=I.laid (a:=s.heap.objs.size) (o:=.dT []) (h':=s.heap.push {cls:=.type "dict",data:=.dict #[]}) (t':=s.toks) (λ_ _ q=>qd _ q) (qe _) (PF s.heap I.KO);refine wpAny_Dict_any rfl rfl (by simp) (by show 1<=15;decide)<|pairTrees_cons_walk<|aJ (hk pins _ σ _ _ I1<|q _ hn) λu s1 hZ=>?_;have(x,H1,I1,rx,q1):=hZ;refine aJ (hv pins s1 σ H1 _ I1 q1) λw2 s2 hZ=>?_;have(y,H2,I2,ry,e,ks,b,ex,eb,q2):=hZ;refine pairTrees_nil_walk ?_;subst ex;cases rx;unfold storeAll;rw[a1a];have(z,hd,xs,rel,dd):=LZ I2.bP I2.aC e;cases rel;refine qa<|qa<|wpAny_dictSet_heap (hsz:=À _) (show X.A.units < ϻ from a5j hu) (uc I2.bP I2.aC eb) dd λh' vm hs=>qb ?_;dsimp only;rw[a0h];refine qb ?_;have(q',es,ep,hq,h2,h3,h4,_,h5):=vm;refine⟨.ref s.heap.objs.size,_,Hs (ob:=.dT [(ks,y)]) I2 (by rw[e];exact Ϟ) hs ⟨q',hq⟩ ⟨by show 1<=Ď;decide,hd,_,(KT.put (kvs:=[]) .nil ks eb ry).keeps λc ys ec=>?_,q',es,ep,hq,h2,h3,h4,h5⟩,rfl,q2⟩;rw[zA (x8 ec e (λz=>nomatch z))];exact ec
theorem Dj{X:Cx}{k v:į}{tk:TE}(hr:aF n X.A)(hk:Wr (PE X k tk))(hv:Wr (PE X v tv)):Wr (PE X (.Dict [ž k] [v] pos)<|G6 X.K tk tv):=⟨zsK (yh hr) hk.run hv.run⟩
section
variable{ρ aw ao:En}
theorem Rs.free{p:Qg}{c o:HO}(r:Rs K ρ σ H)(hc:H p=ž c)(m:Mo c)(n:¬Ow ρ σ p):Rs K ρ σ (upd H p o):=by
 have kp:=nI hc m o;refine⟨r.len,λi u e=>?_,r.apart⟩;have(v,ev,q):=r.rep i u e;refine⟨v,ev,q.kp kp λou a c' ea ha=>?_⟩;have ne:a≠p:=by
  rintro rfl;exact n ⟨i,u,e,ou,by rw[ev,ea]⟩
 rw[zA ne];exact ha
theorem Go.free{p:Qg}{c o:HO}(g:Go K ρ σ H ao H')(hp:H p=Ž)(hc:H' p=ž c)(m:Mo c)(n:¬Ow ao σ p):Go K ρ σ H ao (upd H' p o):=by
 refine⟨g.rs.free hc m n,λa ob ha hn=>?_,g.shr,λa ha=>?_⟩
 .have ne:a≠p:=by
   rintro rfl;rw[hp]at ha;cases ha
  rw[zA ne];exact g.fr a ob ha hn
 .by_cases e:a=p
  .subst e
   exact hp
  .rw[zA e]at ha
   exact g.dm a ha
def t9(mk mv:ME):ME:=λρ=>(mk ρ).bind λp=>(mv p.2).bind λq=>(p.1.get q.2).bind λk=>(q.1.get q.2).bind λv=>k.da.bind λk=>v.da.bind λv=>(d6 k).bind λk=>ž (.u<|.t [(k,v)],q.2)
theorem NR{w:U}{x:D}(h:w.da=ž x):w=.d x:=by
 cases w<;>first | (cases h;rfl) |cases h
theorem Di{tk:TE}{mk mv:ME}(hk:VE K tk mk)(hv:VE K tv mv):VE K (G6 K tk tv) (t9 mk mv):=by
 intro ρ σ H a ao Q r e q;obtain⟨⟨a1,aw⟩,e1,e⟩:=bQ e;obtain⟨⟨b1,aD⟩,e2,e⟩:=bQ e;have(uk,ek,e):=bQ e;have(uv,ev,e):=bQ e;have(dk,edk,e):=bQ e;have(dv,edv,e):=bQ e;have(ks,eks,e):=bQ e;cases e;cases NR edk;cases NR edv;intro p hp;have sm:=iH hp (.dT []);have g0:=Go.grow r sm;have n0:¬Ow ρ σ p:=λz=>by
  have(c,hc,_):=r.ow z;rw[hp]at hc;cases hc
 refine hk ρ σ (upd H p<|.dT []) a1 aw _ g0.rs e1 λx H1 g1 k1=>hv aw σ H1 b1 _ _ g1.rs e2 λy H2 g2 k2=>?_;have n1:¬Ow aw σ p:=λz=>n0<|g1.shr.ow z;have n2:¬Ow aD σ p:=λz=>n1<|g2.shr.ow z;have AR:H2 p=ž (.dT []):=g2.fr p _ (g1.fr p _ zD n0) n1;have pk:=k1.later g0.rs g1 g2 ek;have pv:=k2.now g1.rs g2 ev;have(b,rfl,hb):=yM pk eks;have kp:=nI AR trivial (.dT [(ks,y)]);refine⟨AR,ks,b,rfl,hb,q _ _ (((g0.trans g1).trans g2).free hp AR trivial n2) ⟨⟨p,[(ks,y)],rfl,zD,.cons ⟨rfl,DF.kp kp pv⟩ .nil⟩,λ_=>⟨p,rfl,hp⟩⟩⟩
end
section
variable{ρ:En}{mk mv:ME}{mA:MA}{f:Qa D->Qa D}{QE:Ar×En->Prop}{QI:Qa D×En->Prop}
theorem zlA:Wo (t9 mk mv ρ) QE=Wo (mk ρ) (Co (λp=>(mv p.2).bind λq=>(p.1.get q.2).bind λk=>(q.1.get q.2).bind λv=>k.da.bind λk=>v.da.bind λv=>(d6 k).bind λk=>ž (.u<|.t [(k,v)],q.2)) ⟨0⟩ QE):=by
 show Wo (Ξ _ _) QE=_;rw[zw]
end
end Internal
namespace Internal
open PySem
noncomputable def ch:Nat->Nat->Nat
 |_,0=>1
 |0,_+1=>0
 |n+1,k+1=>ch n k+ch n (k+1)
def part(a:Rat)(k j:Nat):Rat:=(ch k j:Rat) * a^(k - j)
theorem Sv{a b:Qa Int}(h:a.length+b.length<=1000):wu (.d<|dB a) (.d<|dB b)=ž (.d<|dB<|a++b):=by
 have:=P0 (xs:=a.map Ģ) (ys:=b.map Ģ) (by rw[ċ,ċ];omega);rw[<-ĕ]at this;exact this
theorem Vn{k:Int}:ϟ [.int k]=dB [k]:=rfl
end Internal
namespace Internal
open PySem PySem.Spec PyProof.Rows
open PySem.AutoSeq1 (wpAny_loadPart')
open MeetsSeq MeetsSeq2 MeetsSeq3 SeqRoads2
theorem zp8{s:Qd}{a:Int}{t u:Tok}(h:Q (.bool<|decide<|a<=b) s):Č (Đ prog w) A (richCompare .LtE (.int a t)<|.int b u) Q E s:=le_int h
def leB(xs ys:Qa Int):Bool:=!cN ys xs
def Be(xs ys:Qa Int):Bool:=!cN xs ys
theorem zm0(l b:Qg)(items be:Array Qc)(n n2:Nat)(dd vk:Qb Qg)(sl pA:Array (Qb Qc))(xs ys:Qa Int):
  Meets (Builtin.«tuple.__le__» ⟨[.ref l,.ref b],[]⟩)
   (λA R s=>s.heap.get? l=ž {cls:=.type "tuple",dict:=dd,data:=.seq items n,slots:=sl}/\s.heap.get? b=ž {cls:=.type "tuple",dict:=vk,data:=.seq be n2,slots:=pA}/\
    a0a items.toList xs/\a0a be.toList ys/\R (.ok<|.ret<|.bool<|leB xs ys) s):=
 .of_wp λprog w A R s h=>by
  have(hp,g,d,tk,os):=s;have(hl,hb,i1,i2,h):=h;have f2:=AutoSeq1.sub_tuple_tuple
  wp_walk using wpAny_loadPart' hl,wpAny_loadPart' hb,ϭ _ (λrest b s'=>b.1=Ž/\s'=⟨hp,g,d,tk,os⟩/\∃(vs us:Qa Qc) (as bs:Qa Int),rest=vs.zip us/\a0a vs as/\a0a us bs/\(Μ items < Μ be↔as.length < bs.length)/\(Μ be < Μ items↔bs.length < as.length)/\
   R (.ok<|.ret<|.bool<|leB as bs) ⟨hp,g,d,tk,os⟩) _
  case turn=>
   rintro⟨y,x⟩ rest b s' ⟨k8,rfl,vs,us,as,bs,hz,j1,j2,hn,hm,hR⟩;cases j1 with
   |nil=>cases hz
   | @cons a t vs as j1=>
    cases j2 with
    |nil=>cases hz
    | @cons c u us bs j2=>
     rw[a1F]at hz;injection hz with hyx AQ;injection hyx with e1 e2;subst e1 e2;refine qa<|a1h ?_
     by_cases e:a=c
     .subst e
      rw[a5Q]
      wp_walk
      refine⟨rfl,rfl,vs,us,as,bs,AQ,j1,j2,?_,?_,?_⟩
      .rw[hn,qt,qt]
       omega
      .rw[hm,qt,qt]
       omega
      .simpa [leB,Be,cN] using hR
     .rw[beq_eq_false_iff_ne.mpr e]
      wp_walk using zp8
      refine⟨_,rfl,?_⟩;simp only[leB,Be,cN,a5M e,a5M<|ĭ e]at hR;rw[<-decide_not]at hR;simp only[Int.not_lt]at hR;exact hR
  case fin=>
   rintro⟨b1,b2⟩ s' ⟨k8,rfl,vs,us,as,bs,hz,j1,j2,hn,hm,hR⟩;simp only at k8;subst k8
   wp_walk
   refine⟨_,rfl,?_⟩;cases j1 with
   |nil=>
    cases j2 with
    |nil=>
     have n1:¬Μ items < Μ be:=λz=>absurd (hn.mp z)<|Ð _;have n2:¬Μ be < Μ items:=λz=>absurd (hm.mp z)<|Ð _;simpa [Ϭ,leB,Be,cN,a2w n1,a2w n2] using hR
    |cons c u j2=>
     have n1:=hn.mpr (a5G _);simpa [Ϭ,leB,Be,cN,â n1,a5I n1] using hR
   |cons a t j1=>
    cases j2 with
    |nil=>
     have n1:=hm.mpr (a5G _);simpa [Ϭ,leB,Be,cN,â n1,a5I n1] using hR
    |cons c u j2=>cases hz
  case h=>
   refine⟨rfl,rfl,ο items,ο be,xs,ys,rfl,i1,i2,?_,?_,h⟩
   .rw[<-a1b i1,<-a1b i2,Ġ,Ġ]
   .rw[<-a1b i1,<-a1b i2,Ġ,Ġ]
end Internal
namespace Internal
open PySem PySem.Spec PyProof.Rows
section
variable{s:Qd}{l b:Qg}{items be:Array Qc}{xs ys:Qa Int}
theorem zm1(hl:s.heap.IsTuple l items)(hb:s.heap.IsTuple b be)(i1:a0a items.toList xs)(i2:a0a be.toList ys)(hu:A.units < ϻ)
  (h:Q (.bool<|leB xs ys) s):Č (Đ prog w) A (Ĥ .LtE (.ref l)<|.ref b) Q E s:=by
 obtain⟨⟨cls,dd,data,sl⟩,ho,hc,n,hd⟩:=id hl;obtain⟨⟨Bm,vk,data2,pA⟩,u4,A6,n2,hd2⟩:=id hb;simp only at hc hd A6 hd2;subst hc hd A6 hd2;exact richCompare_meets_room (op:=.LtE) ⟨_,ho,rfl⟩ ⟨_,u4,rfl⟩ F.slot_tuple_le F.entry_tuple_le (F.args_tuple_le_2 _ _) (zm0 l b items be n n2 dd vk sl pA xs ys) ⟨ho,u4,i1,i2,⟨(λx=>nomatch x),h⟩⟩ hu
end
def Lj(K:qc)(g:Qa Int->Qa Int->Bool):R2:=λx y H Q=>∃a b ns ms,x=.ref a/\y=.ref b/\bT K H a (ns.map V.int)/\bT K H b (ms.map V.int)/\Q (.bl<|g ns ms) H
section
variable{X:Cx}{k:Nat}
theorem Vm(K:qc)(hK:X.K=K)(hr:aF k X.A):bF X (Ĥ .LtE) (Lj K leB):=by
 subst hK;intro pins s σ H x y v u Q I rx ry h;have(a,b,ns,ms,rfl,rfl,ha,hb,q):=h;cases rx;cases ry;have(aq,r1,p1,_):=I.tuple ha;have(gQ,r2,p2,_):=I.tuple hb;exact zm1 p1 p2 (Qx r1) (Qx r2) (a5j<|yh hr) ⟨.bl _,H,I,rfl,q⟩
end
section
noncomputable def inD:D->Qb Int
 |.int i=>ž i
 |_=>Ž
theorem HF{us:Qa V}{ds:Qa D}{bs:Qa Int}(h:aO K H us ds):ds.mapM inD=ž bs->us=bs.map V.int:=by
 refine h.ind (P:=λus ds=>∀ys,ds.mapM inD=ž ys->us=ys.map V.int) (λys e=>?_) (λ{v d vs ds} h t ih ys e=>?_) bs
 .cases e;rfl
 .rw[a0f]at e
  have(y,e1,e):=bQ e;have(jP,e2,e):=bQ e;cases e;cases d with
  |int x=>cases e1;cases DF.int_inv h;rw[ih _ e2];rfl
  |_=>cases e1
def Cd(g:Qa Int->Qa Int->Bool):U->U->Qb U
 |.d (.tuple xs),.d (.tuple ys)=>(xs.mapM inD).bind λa=>(ys.mapM inD).bind λb=>ž<|.d<|.bool<|g a b
 |_,_=>Ž
theorem Yp{g:Qa Int->Qa Int->Bool}:VO K (Lj K g) (Cd g):=by
 intro x y a b u H Q ha hb e q;unfold Cd at e;split at e
 .have(n1,e1,e):=bQ e
  have(n2,e2,e):=bQ e;cases e;have(p,us,rfl,h1,h2):=DF.aI ha;have(p',nN,rfl,m9,iz):=DF.aI hb;cases HF h2 e1;cases HF iz e2;exact⟨p,p',n1,n2,rfl,rfl,(bg.sq h1),(bg.sq m9),q _ _ (eI.refl H) (DF.bl _) Nw.data⟩
 .cases e
theorem zoN{g:Qa Int->Qa Int->Bool}{a c d:Int}:Cd g (.d<|.tuple [.int a,.int b]) (.d<|.tuple [.int c,.int d])=ž (.d<|.bool<|g [a,b] [c,d]):=rfl
end
def HE(r r' pB:R2)(ta tb tc td:TE):TE:=λσ H Q=>ta σ H λx H1=>tb σ H1 λy H2=>r x y H2 λz H3=>∃k,z=.bl k/\
 (if k=ż then tc σ H3 λw' H4=>r' y w' H4 λz' H5=>∃k',z'=.bl k'/\(if k'=ż then td σ H5 λv H6=>pB w' v H6 Q else Q (.bl Ż) H5)else Q (.bl Ż) H3)
section
variable{X:Cx}{a b c d:į}{tc:TE}
theorem zp9{jV:CmpOp}{r r' pB:R2}(ho:bF X (Ĥ op) r)(cZ:bF X (Ĥ g7) r')(u5:bF X (Ĥ jV) pB)(ha:PE X a ta)(hb:PE X b tb)(hc:PE X c tc)(hd:PE X d td)
  (hm:a1S [op,g7,jV] [b,c,d]=Ż:=by with_unfolding_all rfl):PT X (.Compare a [op,g7,jV] [b,c,d] pos) (t4<|HE r r' pB ta tb tc td):=by
 intro pins s σ H Q I h;refine isTrue_chain (aJ (ha pins s σ H _ I h) λv s1 hZ=>?_) hm;have(x,H1,I1,r1,q1):=hZ;refine test_link<|aJ (hb pins s1 σ H1 _ I1 q1) λu s2 hZ=>?_;have(y,H2,I2,r2,q2):=hZ;refine aJ (ho pins s2 σ H2 x y v u _ I2 r1 r2 q2) λd s3 hZ=>?_;have(z,H3,I3,r3,k,e,q3):=hZ;subst e;cases r3;refine Ń ?_;cases k with
 |false=>
  have(k',e',q'):=q3;cases e';exact ite_ff ⟨H3,I3,q'⟩
 |true=>
  refine ite_tt<|test_link<|aJ (hc pins s3 σ H3 _ I3 q3) λw' s4 hZ=>?_;have(z',H4,I4,r4,q4):=hZ;refine aJ (cZ pins s4 σ H4 y z' u w' _ I4 r2 r4 q4) λd s5 hZ=>?_;have(z2,H5,I5,r5,k2,e2,q5):=hZ;subst e2;cases r5;refine Ń ?_;cases k2 with
  |false=>
   have(k',e',q'):=q5;cases e';exact ite_ff ⟨H5,I5,q'⟩
  |true=>
   refine ite_tt<|test_last<|aJ (hd pins s5 σ H5 _ I5 q5) λw2 s6 hZ=>?_;have(z3,H6,I6,r6,q6):=hZ;refine aJ (u5 pins s6 σ H6 z' z3 w' w2 _ I6 r4 r6 q6) λd' s7 hZ=>?_;have(z4,H7,I7,r7,k3,e3,q7):=hZ;subst e3;cases r7;exact Ń ⟨H7,I7,q7⟩
theorem zqa{jV:CmpOp}{r r' pB:R2}(ho:bF X (Ĥ op) r)(cZ:bF X (Ĥ g7) r')(u5:bF X (Ĥ jV) pB)(ha:Wr (PE X a ta))(hb:Wr (PE X b tb))(hc:Wr (PE X c tc))(hd:Wr (PE X d td))(hm:a1S [op,g7,jV] [b,c,d]=Ż:=by rfl):
  Wr (PT X (.Compare a [op,g7,jV] [b,c,d] pos)<|t4<|HE r r' pB ta tb tc td):=⟨zp9 ho cZ u5 ha.run hb.run hc.run hd.run hm⟩
end
section
def yG(f f' qZ:U->U->Qb U)(ma mb mc md:ME):ME:=λρ=>(ma ρ).bind λp=>(mb p.2).bind λq=>(p.1.get q.2).bind λx=>(q.1.get q.2).bind λy=>(f x y).bind λr=>match r with
 |.d (.bool ż)=>(mc q.2).bind λs=>(q.1.get s.2).bind λy'=>(s.1.get s.2).bind λz=>(f' y' z).bind λr'=>match r' with
  |.d (.bool ż)=>(md s.2).bind λt=>(s.1.get t.2).bind λz'=>(t.1.get t.2).bind λv=>(qZ z' v).bind λu=>ž (.u u,t.2)
  |.d (.bool Ż)=>ž (.u<|.d<|.bool Ż,s.2)
  |_=>Ž
 |.d (.bool Ż)=>ž (.u<|.d<|.bool Ż,q.2)
 |_=>Ž
theorem zsL{r r' pB:R2}{f f' qZ:U->U->Qb U}{tc:TE}{ma mb mc md:ME}(h:VO K r f)(h':VO K r' f')(h'':VO K pB qZ)(ha:VE K ta ma)(hb:VE K tb mb)(hc:VE K tc mc)(hd:VE K td md):VE K (HE r r' pB ta tb tc td) (yG f f' qZ ma mb mc md):=by
 intro ρ σ H a ao Q rs e q;obtain⟨⟨a1,aw⟩,e1,e⟩:=bQ e;obtain⟨⟨b1,aD⟩,e2,e⟩:=bQ e;have(x,ex,e):=bQ e;have(y,ey,e):=bQ e;have(rr,er,e):=bQ e;refine ha ρ σ H a1 aw _ rs e1 λv1 H1 g1 k1=>hb aw σ H1 b1 aD _ g1.rs e2 λv2 H2 g2 k2=>?_;refine h _ _ x y rr H2 _ (k1.later rs g1 g2 ex) (k2.now g1.rs g2 ey) er λv H3 s p n=>?_;have g3:=Go.grow g2.rs s;split at e
 .cases DF.bS p
  refine⟨ż,rfl,?_⟩;rw[a5L rfl];obtain⟨⟨c1,mM⟩,e3,e⟩:=bQ e;have(y',KH,e):=bQ e;have(z,ez,e):=bQ e;have(rr',er',e):=bQ e;refine hc aD σ H3 c1 _ _ g3.rs e3 λv3 H4 g4 k4=>?_;refine h' _ _ y' z rr' H4 _ (k2.later g1.rs g2 (g3.trans g4) KH) (k4.now g3.rs g4 ez) er' λw H5 s5 p5 n5=>?_;have g5:=Go.grow g4.rs s5;split at e
  .cases DF.bS p5
   refine⟨ż,rfl,?_⟩;rw[a5L rfl];obtain⟨⟨d1,gA⟩,e4,e⟩:=bQ e;have(z',ez',e):=bQ e;have(t,et,e):=bQ e;have(u,eu,e):=bQ e;cases e;refine hd mM σ H5 d1 _ _ g5.rs e4 λv5 H6 g6 k6=>?_;refine h'' _ _ z' t u H6 _ (k4.later g3.rs g4 (g5.trans g6) ez') (k6.now g5.rs g6 et) eu λw H7 s7 p7 n7=>?_;exact q w H7 ((((((g1.trans g2).trans g3).trans g4).trans g5).trans g6).trans<|Go.grow g6.rs s7) ⟨p7,n7.mono λb hb=>(g1.trans g2).dm b<|g3.dm b<|g4.dm b<|g5.dm b<|g6.dm b hb⟩
  .cases DF.bS p5
   cases e;refine⟨Ż,rfl,?_⟩;rw[a5M (by decide)];exact q _ H5 ((((g1.trans g2).trans g3).trans g4).trans g5) ⟨DF.bl _,Nw.data⟩
  .cases e
 .cases DF.bS p
  cases e;refine⟨Ż,rfl,?_⟩;rw[a5M (by decide)];exact q _ H3 ((g1.trans g2).trans g3) ⟨DF.bl _,Nw.data⟩
 .cases e
end
section
variable{f f' qZ:U->U->Qb U}{ma mb mc md:ME}{ρ:En}{QE:Ar×En->Prop}
theorem zqb:yG f f' qZ ma mb mc md ρ=(ma ρ).bind λp=>(mb p.2).bind λq=>(p.1.get q.2).bind λx=>(q.1.get q.2).bind λy=>(f x y).bind λr=>r.nu.bind λb=>if b=ż then(mc q.2).bind λs=>(q.1.get s.2).bind λy'=>(s.1.get s.2).bind λz=>(f' y' z).bind λr'=>r'.nu.bind λb'=>if b'=ż then(md s.2).bind λt=>(s.1.get t.2).bind λz'=>(t.1.get t.2).bind λv=>(qZ z' v).bind λu=>ž (.u u,t.2)else ž (.u<|.d<|.bool Ż,s.2)else ž (.u<|.d<|.bool Ż,q.2):=by
 unfold yG;have key:∀{β:Type} (r:U) (X Y:Qb β),(match r with |.d (.bool ż)=>X |.d (.bool Ż)=>Y|_=>Ž)=r.nu.bind λb=>if b=ż then X else Y:=by
  intro β r X Y;cases r with
  |d x=>
   cases x with
   |bool b=>cases b<;>rfl
   |_=>rfl
  |_=>rfl
 simp only[key]
theorem zi7:Wo (yG f f' qZ ma mb mc md ρ) QE=Wo (ma ρ) (Co (λp=>(mb p.2).bind λq=>(p.1.get q.2).bind λx=>(q.1.get q.2).bind λy=>(f x y).bind λr=>r.nu.bind λb=>if b=ż then(mc q.2).bind λs=>(q.1.get s.2).bind λy'=>(s.1.get s.2).bind λz=>(f' y' z).bind λr'=>r'.nu.bind λb'=>if b'=ż then(md s.2).bind λt=>(s.1.get t.2).bind λz'=>(t.1.get t.2).bind λv=>(qZ z' v).bind λu=>ž (.u u,t.2)else ž (.u<|.d<|.bool Ż,s.2)else ž (.u<|.d<|.bool Ż,q.2)) ⟨0⟩ QE):=by rw[zqb,zw]
end
end Internal
namespace HT
open PySem PySem.Spec PyProof.Rows
end HT
namespace Internal
open PySem PySem.Spec PyProof.Rows
def Li(K:qc):Qa V->Hp->VK->Prop:=λxs H Q=>∃(p:Qg) (ns:Qa Int) (m:Int),xs=[.ref p]/\bT K H p (ns.map V.int)/\m∈ns/\(∀x∈ns,x<=m)/\Q (.int m) H
theorem MM{X:Cx}(K:qc)(hK:X.K=K)(hc:X.calm=ż):ik X (.builtin "max") (Li K):=by
 subst hK;intro pins s σ H xs us Q I r h;have(p,ns,m,rfl,hq,z1,z2,q):=h;have(u,rfl,ru):=pW r;cases ru;have val:∀{i:Nat} {v:Qc},(∃x,(ns.map V.int)[i]?=ž x/\aP x v)->∃t,v=.int (ns.getD i 0) t/\ns[i]?=ž (ns.getD i 0):=λ{i v} hx=>by
  have(x,ex,rx):=hx;rw[ė]at ex;cases eb:ns[i]? with
  |none=>rw[eb]at ex;cases ex
  |some b=>
   rw[eb]at ex;cases ex;have(t,rfl):=rx;have ew:ns.getD i 0=b:=by rw[qA,eb];rfl
   exact⟨t,by rw[ew],by rw[ew]⟩
 have h0:0 < ns.length:=List.length_pos_of_mem z1;refine call_max_walk<|zq3 I (I.ok.hd hc) (.inr hq) λit fp wr n P St s2 W st hfp hn hP hI=>⟨it,fp,wr,n,P,St,_,rfl,W,st,hfp,by rw[hn,ċ];exact h0,CmpOf.ints_gt (λi=>ns.getD i 0) (λi v hv=>let ⟨t,e,_⟩:=val (hP i v hv);⟨t,e⟩),λv h' tk hv hk=>?_⟩;rw[ċ]at hn;have(t,rfl,ei):=val (hP _ v hv);have(b1,b2):=Qj (λi=>ns.getD i 0) (n - 1);have e:m=ns.getD (a3B (λi j=>decide<|ns.getD i 0 > ns.getD j 0)<|n - 1) 0:=by
  have le1:=z2 _ (Í ei);have(k,hk,ek):=a1t z1;have le2:=b2 k (by omega);have xu:ns.getD k 0=m:=by rw[qA,ql hk,ek];rfl
  have le2':ns.getD k 0<=ns.getD (a3B (λi j=>decide<|ns.getD i 0 > ns.getD j 0)<|n - 1) 0:=le2;omega
 exact⟨.int m,H,hI h' tk hk,⟨t,by rw[e]⟩,q⟩
section
noncomputable def rJ:U->Qb U
 |.d (.tuple [.int i,.int j])=>ž<|.d<|.int (if j > i then j else i)
 |_=>Ž
theorem NQ:VC K (Li K) (f1 rJ):=tM λv a u H Q h e q=>by
 unfold rJ at e;split at e
 .rename_i i j
  cases e;have(p,us,rfl,h1,h2):=DF.aI h;cases HF h2 (bs:=[i,j]) rfl;refine⟨p,[i,j],_,rfl,(bg.sq h1),?_,?_,q _ _ (eI.refl H) (DF.int _) Nw.data⟩
  .split<;>simp
  .intro x hx
   simp only[qu,Ļ,or_false]at hx;split<;>rcases hx with rfl|rfl<;>omega
 .cases e
end
end Internal
namespace Internal
open PySem PySem.Calls PySem.Spec PyProof.Rows
section
variable{s:Qd}
theorem zm2{nm:String}{b:Qg}{oa ob:Obj}{gJ:Nat}{Q:Bool->Qd->Prop}(ha:(a==Ĳ)=Ż)(hb:(b==Ĳ)=Ż)
  (jA:s.heap.get? a=ž oa) (k7:oa.data=.dict es ep) (kY:s.heap.get? b=ž ob) (bY:ob.data=.dict #[] gJ) (h:Q (es.size==0) s):
  Č (Đ prog w) A (Ϫ nm a b) Q E s:=by
 unfold Ϫ Ϗ;rw[a5M (show ¬(a==Ĳ)=ż by rw[ha];exact qf),a5M (show ¬(b==Ĳ)=ż by rw[hb];exact qf)];refine qa<|qb<|qa<|qb ?_;refine qa<|Ľ jA k7 ?_;dsimp only;refine qa<|Ľ kY bY ?_
 by_cases hsz:es.size=0
 .have h':Q ż s:=by rw[hsz]at h;exact h
  rw[a5M (by rw[hsz];simp)];refine qa<|Ϝ jA k7 ?_;refine qa ?_;rw[ύ];simp only[χ,a2g,ŏ,a4D,hsz,a5k,a0h];exact qb<|qb h'
 .rw[a5L (by simpa using hsz)]
  have Kk:(es.size==0)=Ż:=by simpa using hsz
  rw[Kk]at h;exact qa<|ũ<|qb h
theorem zsN{b:Qg}{oa ob:Obj}{gJ:Nat}(ha:(a==Ĳ)=Ż)(hb:(b==Ĳ)=Ż)
  (jA:s.heap.get? a=ž oa) (ca:oa.cls=.type "dict") (k7:oa.data=.dict es ep) (kY:s.heap.get? b=ž ob) (cb:ob.cls=.type "dict") (bY:ob.data=.dict #[] gJ) (hu:A.units < ϻ) (h:Q (.bool<|es.size==0) s):
  Č (Đ prog w) A (Ĥ .Eq (.ref a)<|.ref b) Q E s:=by
 have ta:s.TypeIs (.ref a) "dict":=⟨_,jA,ca⟩;have tb:s.TypeIs (.ref b) "dict":=⟨_,kY,cb⟩;refine Ϥ (op:=.Eq) ta tb Ą (ĸ Ą ta a3s ?_<|a3j _ _) hu;show Č _ _ (ŝ "__eq__" ⟨[.ref a,.ref b],[]⟩ >>= _) _ _ s;refine qa ?_;unfold ŝ;refine qa<|Ϣ ta ?_;show Č _ _ (pure (Ė a,Ė b)) _ _ s;refine qb ?_;refine qa<|Ŵ (T := "dict") tb a0K ?_;simp only[Ł,Ě,if_false];refine qa<|qb<|qa<|qb ?_;refine qa<|zm2 ha hb jA k7 kY bY ?_;refine qb ⟨_,rfl,?_,?_⟩
 .exact λx=>nomatch x
 .simpa using h
end
def Su:R2:=λx y H Q=>∃a b kvs,x=.ref a/\y=.ref b/\Rd H a (.dT kvs)/\Rd H b (.dT [])/\Q (.bl<|kvs.length==0) H
theorem Vl{X:Cx}{k:Nat}(hr:aF k X.A):bF X (Ĥ .Eq) Su:=by
 intro pins s σ H x y v u Q I rx ry h;have(a,b,kvs,rfl,rfl,ea,eb,q):=h;cases rx;cases ry;have(z,y,xs,r,o,es,ep,h1,h2,h3,h4,h5):=(show bV X.prog X.w X.K H s.heap a (.dT kvs) from yj I.aC ea);have(z',y',lS,r',o',pK,gJ,m9,iz,Ub,h4',h5'):=(show bV X.prog X.w X.K H s.heap b (.dT []) from yj I.aC eb);have hlen:es.size=kvs.length:=by
  have:=congrArg a0s h4;rw[Ġ,ċ,<-DN r]at this;exact this
 have AY:pK.size=0:=by
  have:=congrArg a0s h4';rw[Ġ,ċ,<-DN r']at this;exact this
 have e0:pK=#[]:=Array.eq_empty_of_size_eq_zero AY;rw[e0]at Ub;exact zsN y y' h1 h2.1 h3 m9 iz.1 Ub (by have:=hr.units;omega) ⟨.bl _,H,I,by rw[hlen];rfl,q⟩
section
def xN:U->U->Qb U
 |.d (.dict ds),.t []=>if l7 ds=ż then ž (.d<|.bool<|ds.length==0)else Ž
 |_,_=>Ž
theorem Vk:VO K Su xN:=by
 intro x y a b u H Q ha hb e q;unfold xN at e;split at e
 .split at e
  .rename_i ds nx
   cases e;have(c,o,ws,rfl,h1,h2):=DF.cV ha nx;have(b',Ah,rfl,h3,h4):=hb;cases h4;refine⟨c,b',ws,rfl,rfl,.inr ⟨o,h1⟩,.inl h3,?_⟩;rw[YA h2];exact q _ _ (λ_ _ z=>z) (.bl _) Nw.data
  .cases e
 .cases e
end
end Internal
namespace Internal
open PySem PySem.Spec PyProof.Rows
end Internal
namespace Internal
open PySem
end Internal
namespace Internal
open PySem PySem.Spec PyProof.Rows
section
variable{ρ ao aw:En}{H1:Hp}
def Bj(nt:Nat)(mg:MG)(mt:MT)(mk mv:ME):Qa D->En->Qa (Qa Key×D)->Qb (Qa (Qa Key×D)×En)
 |[],ρ,ys=>ž (ys,ρ)
 |d::ds,ρ,ys=>if ys.length < Ď then(mg d ρ).bind λaw=>(mt aw).bind λb=>if b.1=ż then(mk b.2).bind λp=>(mv p.2).bind λq=>(p.1.get q.2).bind λuk=>(q.1.get q.2).bind λuv=>uk.da.bind λdk=>uv.da.bind λdv=>(d6 dk).bind λk=>
   Bj nt mg mt mk mv ds (reset nt q.2) (mP ys k dv)else Bj nt mg mt mk mv ds (reset nt b.2) ys else Ž
end
section
variable{X:Cx}
theorem Pg:∀(ns:Qa Int),aO K H (ns.map V.int)<|ns.map Ģ
 |[]=>.nil
 |n::ns=>.cons (.int n)<|Pg ns
theorem ML{g:Qg}(gt:pM K g ns)(hn:ns≠[]:=by decide):VE K (tC<|.ref g) (mC<|.tuple<|ns.map Ģ):=by
 intro ρ σ H a ao Q rs e q;cases e;have(o,i,n,z1,z2,z3,z4,z5):=gt;refine q _ _ (Go.refl rs) ⟨DF.tup (.inr ⟨o,i,n,z1,z2,z3,z4,z5,?_⟩)<|Pg ns,Nw.data⟩;cases ns with
 |nil=>exact absurd rfl hn
 |cons a r=>exact⟨a,_,rfl⟩
end
section
variable{c:β->D}{mI:MI}{mg:MG}{mt:MT}{mk mv me ma:ME}{mA:MA}{ρ:En}{QE:Ar×En->Prop}{QT:Bool×En->Prop}
def zC0(nt:Nat)(mk mv:ME)(ys:Qa (Qa Key×D))(P:En->Qa (Qa Key×D)->Prop)(p:Bool×En):Prop :=
 if p.1=ż then Wo (mk p.2) (Co (λp=>(mv p.2).bind λq=>(p.1.get q.2).bind λuk=>(q.1.get q.2).bind λuv=>uk.da.bind λdk=>uv.da.bind λdv=>(d6 dk).bind λk=>ž (reset nt q.2,mP ys k dv)) ⟨0⟩ λz=>P z.1 z.2)else P (reset nt p.2) ys
def dcP(l:Pq β):Pq β:=l.foldl (λys t=>fu ys t.1 t.2) []
theorem zsQ{g:α->D}{b:α->Bool}{k:α->Qa Int}{v:α->β}{Q:Qa (Qa Key×D)×En->Prop}(hz:as.length<=16777216)
  (st:∀a∈as,∀ys:Pq β,Wo (mg (g a) ρ)<|Co mt ⟨0⟩<|zC0 nt mk mv (bB c ys) λao zs=>ao=ρ/\zs=bB c (if b a=ż then fu ys (k a) (v a)else ys))
  (q:Q (bB c<|dcP<|(as.filter b).map λa=>(k a,v a),ρ)):Wo (Bj nt mg mt mk mv (as.map g) ρ []) Q:=by
 have main:∀(es:Qa α) (acc:Pq β),(∀a∈es,a∈as)->acc.length+es.length<=16777216->Q (bB c<|((es.filter b).map λa=>(k a,v a)).foldl (λys t=>fu ys t.1 t.2) acc,ρ)->Wo (Bj nt mg mt mk mv (es.map g) ρ<|bB c acc) Q:=by
  intro es
  induction es with
  |nil=>intro acc _ _ q;exact⟨_,rfl,q⟩
  |cons a es ih=>
   intro acc hm hl q;rw[qt]at hl;obtain⟨aw,e1,⟨bb,aD⟩,e2,kk⟩:=st a (hm a qo) acc;rw[Ē];unfold Bj;rw[a5L (by rw[MQ];show _ < 16777216;omega),zw];refine⟨aw,e1,?_⟩;rw[lL,zw];refine⟨_,e2,?_⟩;rw[lL];rw[Ο]at q;have pl:=NW acc (k a) (v a);cases bb with
   |false=>
    have(e3,e4):=kk;rw[a5M qf,e3,e4]
    by_cases hb:b a=ż
    .rw[a5L hb]
     rw[a5L hb]at q;exact ih _ (λx hx=>hm x<|qm _ hx) (by omega) q
    .rw[a5M hb]
     rw[a5M hb]at q;exact ih _ (λx hx=>hm x<|qm _ hx) (by omega) q
   |true=>
    rw[a5L rfl,zw];have(p,e3,kk):=kk;refine⟨p,e3,?_⟩;rw[lL];have(z,e4,e5,e6):=kk;have(q1,f1,e4):=bQ e4;have(uk,f2,e4):=bQ e4;have(uv,f3,e4):=bQ e4;have(dk,f4,e4):=bQ e4;have(dv,f5,e4):=bQ e4;have(kk,f6,e4):=bQ e4;cases e4;rw[f1,bd,f2,bd,f3,bd,f4,bd,f5,bd,f6,bd];dsimp only at e5 e6;rw[e5,e6]
    by_cases hb:b a=ż
    .rw[a5L hb]
     rw[a5L hb]at q;exact ih _ (λx hx=>hm x<|qm _ hx) (by omega) q
    .rw[a5M hb]
     rw[a5M hb]at q;exact ih _ (λx hx=>hm x<|qm _ hx) (by omega) q
 exact main as [] (λ_ h=>h) (by simpa using hz) q
end
section
variable{X:Cx}{i v f:į}{tx:TE}{k:Nat}(K:qc)(hK:X.K=K)
include hK
end
end Internal
namespace Internal
open PySem PySem.Calls PySem.Spec PyProof.Rows
abbrev mD:=Qa (Qa Key×Qa Key)
noncomputable def sN(g:mD)(k:Qa Key):Qb (Qa Key):=(g.find? λq=>decide<|q.1=k).map (·.2)
def lg(f g:mD):Bool:=(f.length==g.length) && f.all λp=>decide<|sN g p.1=ž p.2
theorem Gq{F:α->β->Prop}{m:Qa β}(h:ϫ F l m):∀{i:Nat} {x:α},l[i]?=ž x->∃y,m[i]?=ž y/\F x y:=by
 induction h with
 |nil=>intro i x e;cases e
 |cons hq t ih=>
  intro i x e;cases i with
  |zero=>cases(show ž _=ž x from e);exact⟨_,rfl,hq⟩
  |succ i=>exact ih e
theorem CW{F:α->β->Prop}{m:Qa β}(h:ϫ F l m):l.length=m.length:=by
 induction h with
 |nil=>rfl
 |cons _ _ ih=>simp[ih]
theorem Pf{g:mD}(hn:(g.map (·.1)).Nodup){k v:Qa Key}(e:g[j]?=ž (k,v)):sN g k=ž v:=by
 induction g generalizing j with
 |nil=>cases e
 |cons q r ih=>
  rw[Ē,a2A]at hn;cases j with
  |zero=>
   cases(show ž q=ž (k,v) from e);unfold sN;rw[ħ,a5N rfl];rfl
  |succ j=>
   have m:k∈r.map (·.1):=Ä.mpr ⟨_,Í (show r[j]?=ž (k,v) from e),rfl⟩;have ne:¬q.1=k:=λz=>hn.1<|z▸m;unfold sN;rw[ħ,a5O ne];exact ih hn.2 (show r[j]?=ž (k,v) from e)
theorem zsS{g:mD}{k:Qa Key}(h:∀(j:Nat) (v:Qa Key),g[j]?≠ž (k,v)):sN g k=Ž:=by
 unfold sN;rw[List.find?_eq_none.mpr]
 .rfl
 .intro q hq z
  have(j,hj):=List.mem_iff_getElem?.mp hq;exact h j q.2 (by rw[hj,<-a5P z])
section
variable{s:Qd}
abbrev TK(prog:Qe)(w:Qh):=Η (dq prog w)
def xA(prog:Qe)(w:Qh)(h:Į)(xs:Qa (Qa Key×Qg×Qc))(f:mD):Prop:=ϫ (λx p=>x.1=p.1/\∃c,x.2.2=.ref c/\(TK prog w).is h p.2 c) xs f
theorem zsT{xs:Qa (Qa Key×Qg×Qc)}{f:mD}(v:xA prog w h xs f):f.map (·.1)=xs.map (·.1):=by
 induction v with
 |nil=>rfl
 |cons hq _ ih=>rw[Ē,Ē,ih,hq.1]
theorem Pe{nm:String}{b:Qg}{oa ob:Obj}{fs:Array Ϡ}{gJ:Nat}{xs:Qa (Qa Key×Qg×Qc)}{f g:mD}{Q:Bool->Qd->Prop}(hu:(TK prog w).room A)(ha:(a==Ĳ)=Ż)(hb:(b==Ĳ)=Ż)
  (jA:s.heap.get? a=ž oa) (k7:oa.data=.dict es ep) (kY:s.heap.get? b=ž ob) (bY:ob.data=.dict fs gJ) (hx:es.toList=xs.map (a1m<|TK prog w)) (hy:fs.toList=ys.map (a1m<|TK prog w))
  (Ey:∀x∈xs,(TK prog w).is s.heap x.1 x.2.1) (Ex:∀x∈ys,(TK prog w).is s.heap x.1 x.2.1) (ny:(ys.map (·.1)).Nodup) (vx:xA prog w s.heap xs f) (vy:xA prog w s.heap ys g) (h:Q (lg f g) s):
  Č (Đ prog w) A (Ϫ nm a b) Q E s:=by
 have sx:es.size=f.length:=(size_of_entries hx).trans (CW vx);have sy:fs.size=g.length:=(size_of_entries hy).trans (CW vy);have ng:(g.map (·.1)).Nodup:=by rw[zsT vy];exact ny
 unfold Ϫ Ϗ;rw[a5M (show ¬(a==Ĳ)=ż by rw[ha];exact qf),a5M (show ¬(b==Ĳ)=ż by rw[hb];exact qf)];refine qa<|qb<|qa<|qb ?_;refine qa<|Ľ jA k7 ?_;dsimp only;refine qa<|Ľ kY bY ?_
 by_cases hsz:es.size=fs.size
 .rw[a5M (by simpa using hsz)]
  refine qa<|Ϝ jA k7 ?_;refine qa ?_;rw[ύ];simp only[χ,a2g,ŏ,a4D];have hlen:(f.length==g.length)=ż:=by rw[<-sx,<-sy,hsz];exact a5Q _
  refine ϭ _ (λrest r s'=>s'=s/\r=(Ž,())/\∃i,i<=f.length/\rest=List.range' i (f.length - i)/\∀j p,j < i->f[j]?=ž p->sN g p.1=ž p.2) _ ?_ ?_ _ _ ⟨rfl,rfl,0,À _,by rw[sx,a2g],λj p hj=>absurd hj<|ν _⟩
  .rintro x rest r s' ⟨rfl,rfl,i,hi,hr,aC⟩
   have fj:i < f.length:=by
    rcases Ó i f.length with z|z
    .exact z
    .rw[Nat.sub_eq_zero_of_le z]at hr;cases hr
   obtain⟨n,hn⟩:∃n,f.length - i=n+1:=⟨f.length - i - 1,by omega⟩;rw[hn,a5l]at hr;injection hr with hr1 hr2;subst hr1;obtain⟨⟨k,c,v⟩,xj⟩:∃y,xs[x]?=ž y:=⟨xs[x]'(by rw[CW vx];exact fj),ql _⟩;obtain⟨⟨k',kv⟩,hf,e1,cv,e2,hcv⟩:=Gq vx xj;cases(show k=k' from e1);cases(show v=.ref cv from e2);have hex:es[x]?=ž ⟨(TK prog w).hash k,.ref c,.ref cv⟩:=by rw[entry_at hx x,xj];rfl
   refine qa<|Ľ jA k7 ?_;rw[hex];dsimp only;have bad:¬sN g k=ž kv->Q Ż s':=λqV=>by
    have:lg f g=Ż:=by
     unfold lg;rw[hlen,a1C];exact List.all_eq_false.mpr ⟨_,Í hf,by rw[a5O qV];exact qf⟩
    rw[<-this];exact h
   refine qa<|Ŋ<|qa<|wpAny_dictFind_heap hu (Ey _<|Í xj) kY bY hy Ex ny (λJY=>?_) λj p hj=>?_
   .refine qb ?_
    simp only[ϡ,if_true];refine qb ?_;refine qb<|bad ?_;rw[zsS λj v z=>?_]
    .intro z;cases z
    .obtain⟨y,Ez,hy2⟩:∃y,ys[j]?=ž y/\y.1=k:=by
      obtain⟨y,Ez⟩:∃y,ys[j]?=ž y:=⟨ys[j]'(by rw[CW vy];exact(qk.mp z).1),ql _⟩;have(q,qS,tj,_):=Gq vy Ez;rw[z]at qS;cases qS;exact⟨y,Ez,tj⟩
     exact JY j y.2 (by rw[Ez,<-hy2])
   .obtain⟨⟨k2,kb⟩,hg,e3,cb,e4,A4⟩:=Gq vy hj
    have(pa,vb):=p;cases(show k=k2 from e3);cases(show vb=.ref cb from e4);have hfj:fs[j]?=ž ⟨(TK prog w).hash k,.ref pa,.ref cb⟩:=by rw[entry_at hy j,hj];rfl
    refine qa<|Ľ kY bY ?_;rw[hfj];dsimp only;refine Ŋ<|(TK prog w).eqBool hu hcv A4 ?_;have va:=Pf ng hg
    by_cases q:kv=kb
    .rw[a5N q]
     simp only[Ł,Ě,if_false];refine qa<|Ϝ jA k7 ?_;rw[a5M (by simp)];refine qb ⟨rfl,rfl,x+1,fj,?_,λj p hj hp=>?_⟩
     .rw[hr2,show f.length - (x+1)=n by omega]
     .rcases Ó j x with z|z
      .exact aC j p z hp
      .cases(show j=x by omega)
       rw[hf]at hp;cases hp;rw[q];exact va
    .rw[a5O q]
     simp only[ϡ,if_true];refine qb ?_;refine qb<|bad ?_;rw[va];intro z;cases z;exact q rfl
  .rintro r s' ⟨rfl,rfl,i,hi,hr,aC⟩
   have hi2:f.length<=i:=by
    rcases Ó i f.length with z|z
    .obtain⟨n,hn⟩:∃n,f.length - i=n+1:=⟨f.length - i - 1,by omega⟩
     rw[hn,a5l]at hr;cases hr
    .exact z
   have:lg f g=ż:=by
    unfold lg;rw[hlen,a1C];refine ä.mpr λp hp=>?_;have(j,hj):=List.mem_iff_getElem?.mp hp;exact a5N<|aC j p (qi (qk.mp hj).1 hi2) hj
   rw[this]at h;exact qb h
 .rw[a5L (by simpa using hsz)]
  have Kk:lg f g=Ż:=by
   unfold lg;rw[show(f.length==g.length)=Ż by rw[<-sx,<-sy];simpa using hsz,Bool.false_and]
  rw[Kk]at h;exact qa<|ũ<|qb h
theorem zB4{wanted:Bool}{nm:String}{b:Qg}{xs:Qa (Qa Key×Qg×Qc)}{f g:mD}(JU:(op=.Eq/\wanted=ż)\/(op=.NotEq/\wanted=Ż))(ha:(a==Ĳ)=Ż)(hb:(b==Ĳ)=Ż)
  (da:s.heap.DictOfH (TK prog w) a xs) (db:s.heap.DictOfH (TK prog w) b ys) (vx:xA prog w s.heap xs f) (vy:xA prog w s.heap ys g) (hu:A.units+8 < ϻ) (h:Q (.bool<|lg f g==wanted) s):
  Č (Đ prog w) A (Ĥ op (.ref a)<|.ref b) Q E s:=by
 have(oa,es,ep,jA,ca,k7,hx,Ey,nx):=da;have(ob,fs,gJ,kY,cb,bY,hy,Ex,ny):=db;have ta:s.TypeIs (.ref a) "dict":=⟨_,jA,ca.1⟩;have tb:s.TypeIs (.ref b) "dict":=⟨_,kY,cb.1⟩;rcases JU with⟨rfl,rfl⟩|⟨rfl,rfl⟩
 .refine Ϥ (op:=.Eq) ta tb Ą (ĸ Ą ta a3s ?_<|a3j _ _) (É (Ç _ 8) hu)
  show Č _ _ (ŝ "__eq__" ⟨[.ref a,.ref b],[]⟩ >>= _) _ _ s;refine qa ?_;unfold ŝ;refine qa<|Ϣ ta ?_;show Č _ _ (pure (Ė a,Ė b)) _ _ s;refine qb ?_;refine qa<|Ŵ (T := "dict") tb a0K ?_;simp only[Ł,Ě,if_false];refine qa<|qb<|qa<|qb ?_;refine qa<|Pe (show _ < ϻ from by dsimp only[Around.in1];omega) ha hb jA k7 kY bY hx hy Ey Ex ny vx vy ?_;refine qb ⟨_,rfl,?_,?_⟩
  .exact λx=>nomatch x
  .simpa using h
 .refine Ϥ (op:=.NotEq) ta tb a3w (ĸ a3w ta PySem.F.entry_dict_ne ?_<|PySem.F.args_dict_ne_2 _ _) (É (Ç _ 8) hu)
  show Č _ _ (ŝ "__ne__" ⟨[.ref a,.ref b],[]⟩ >>= _) _ _ s;refine qa ?_;unfold ŝ;refine qa<|Ϣ ta ?_;show Č _ _ (pure (Ė a,Ė b)) _ _ s;refine qb ?_;refine qa<|Ŵ (T := "dict") tb a0K ?_;simp only[Ł,Ě,if_false];refine qa<|qb<|qa<|qb ?_;refine qa<|Pe (show _ < ϻ from by dsimp only[Around.in1];omega) ha hb jA k7 kY bY hx hy Ey Ex ny vx vy ?_;refine qb ⟨_,rfl,?_,?_⟩
  .exact λx=>nomatch x
  .simpa using h
end
def E1(K:qc)(H:Hp)(kvs:Qa (Qa Key×V))(f:mD):Prop:=ϫ (λp q=>p.1=q.1/\∃c,p.2=.ref c/\bg K H c (q.2.map kV)) kvs f
theorem MK(j7:K.In h)(ok:cC P w K H h){xs:Qa (Qa Key×Qg×Qc)}{f:mD}(t:KT K H kvs xs)(u:E1 K H kvs f):xA P w h xs f:=by
 induction t generalizing f with
 |nil=>cases u;exact .nil
 |cons hq _ ih=>cases u with
  |cons hp u=>
   have(e1,_,rv):=hq;have(e2,c,e3,tp):=hp;rw[e3]at rv;exact .cons ⟨e1.symm.trans e2,c,rv,uc j7 ok tp⟩<|ih u
def Lh(K:qc)(wanted:Bool):R2:=λx y H Q=>∃a b kvs Er f g,x=.ref a/\y=.ref b/\Rd H a (.dT kvs)/\Rd H b (.dT Er)/\E1 K H kvs f/\E1 K H Er g/\Q (.bl<|lg f g==wanted) H
theorem Yo{X:Cx}{k:Nat}{wanted:Bool}(JU:(op=.Eq/\wanted=ż)\/(op=.NotEq/\wanted=Ż))(K:qc)(hK:X.K=K)(hr:aF k X.A):bF X (Ĥ op) (Lh K wanted):=by
 subst hK;intro pins s σ H x y v u Q I rx ry h;have(a,b,kvs,Er,f,g,rfl,rfl,ea,eb,tf,tg,q):=h;cases rx;cases ry;have(_,ya,xs,ra,da):=rG I.bP I.aC ea;have(_,yb,ys,rb,db):=rG I.bP I.aC eb;exact zB4 (nm := "") JU ya yb da db (MK I.bP I.aC ra tf) (MK I.bP I.aC rb tg) (by have:=hr.units;omega) ⟨.bl _,H,I,rfl,q⟩
section
def vn:U->Qb (Qa<|Qa Key×D)
 |.t kvs=>ž kvs
 |.d (.dict ds)=>if l7 ds=ż then t6 ds else Ž
 |_=>Ž
def sY:Qa (Qa Key×D)->Qb mD
 |[]=>ž []
 | (k,d)::r=>(d6 d).bind λv=>(sY r).bind λr=>ž<|(k,v)::r
def Cc(wanted:Bool)(u v:U):Qb U:=(vn u).bind λa=>(vn v).bind λb=>(sY a).bind λf=>(sY b).bind λg=>ž<|.d<|.bool<|lg f g==wanted
theorem MH{u:U}{kvs:Qa (Qa Key×D)}(h:Rp K H v u)(e:vn u=ž kvs):∃a ws,v=.ref a/\Rd H a (.dT ws)/\fq K H ws kvs:=by
 unfold vn at e;split at e
 .cases e
  have(a,ws,rfl,h1,h2):=h;exact⟨a,ws,rfl,.inl h1,h2⟩
 .split at e
  .rename_i nx
   have(a,o,ws,rfl,h1,h2):=DF.cV h nx;exact⟨a,ws,rfl,.inr ⟨o,h1⟩,HX h2 e⟩
  .cases e
 .cases e
theorem MF{kvs:Qa (Qa Key×D)}{f:mD}(t:fq K H ws kvs)(e:sY kvs=ž f):E1 K H ws f:=by
 induction t generalizing f with
 |nil=>cases e;exact .nil
 | @cons _ kd _ r hq _ ih=>
  have(k,d):=kd;have(v,ev,e):=bQ (show(d6 d).bind _=ž f from e);have(r',er,e):=bQ e;cases e;have(b,e2,tb):=yM hq.2 ev;exact .cons ⟨hq.1,b,e2,tb⟩<|ih er
theorem Yn{wanted:Bool}:VO K (Lh K wanted) (Cc wanted):=by
 intro x y a b u H Q ha hb e q;have(k1,e1,e):=bQ e;have(k2,e2,e):=bQ e;have(f,e3,e):=bQ e;have(g,e4,e):=bQ e;cases e;have(c,ws,rfl,h1,h2):=MH ha e1;have(c',Ah,rfl,h3,h4):=MH hb e2;exact⟨c,c',ws,Ah,f,g,rfl,rfl,h1,h3,MF h2 e3,MF h4 e4,q _ _ (λ_ _ z=>z) (.bl _) Nw.data⟩
end
end Internal
namespace Internal
open PySem PySem.Spec PyProof.Rows
theorem Ss:∀{us:Qa α},us.length=1->∃a,us=[a]
 |[a],_=>⟨a,rfl⟩
theorem xM:∀{us:Qa α},us.length=2->∃a b,us=[a,b]
 |[a,b],_=>⟨a,b,rfl⟩
theorem Fw{us:Qa α}(h:us.length=3):∃a b c,us=[a,b,c]:=by
 cases us with
 |nil=>cases h
 |cons a us=>
  have(b,c,rfl):=xM (ώ h);exact⟨a,b,c,rfl⟩
theorem Fv{us:Qa α}(h:us.length=4):∃a b c d,us=[a,b,c,d]:=by
 cases us with
 |nil=>cases h
 |cons a us=>
  have(b,c,d,rfl):=Fw (ώ h);exact⟨a,b,c,d,rfl⟩
theorem Sr{us:Qa α}(h:us.length=5):∃a b c d e,us=[a,b,c,d,e]:=by
 cases us with
 |nil=>cases h
 |cons a us=>
  have(b,c,d,e,rfl):=Fv (ώ h);exact⟨a,b,c,d,e,rfl⟩
structure Zs where
 P:Qe
 w:Qh
 K:qc
 mg:Str->Qb Qc
 base:Į
def dD(K:qc)(x:Str)(st:Ş):Prop:=∃(f:Qg) (fd:ū),kF K x x st f fd/\Ĩ K ĝ x=ž (ž<|.ref f)
theorem fnK{f:Qg}{oc:Qc}{od an:Qb Qg}{kV doc pm aQ ct:Qc}(a:Ĩ K ĝ x=ž (ž<|.ref f))(l:K.lookup f=ž ⟨oc,od,.func<|ņ x x (kP st) (gN st) (zI st) .none kV doc pm an aQ ct,jU⟩)
  (c:ϊ K aQ x=ż) (k:ĵ K (.ref f)=ż):dD K x st:=⟨f,_,G3 l c k,a⟩
def dS(Z:Zs)(x:Str)(st:Ş):Prop:=∃(f:Qg) (fd:ū),kF Z.K x x st f fd/\Z.mg x=ž (.ref f)
theorem dD.z(a:dD K x st)(X:K.In h)(G:h.Ns ĝ mg):dS ⟨P,w,K,mg,base⟩ x st:=by
 have(f,fd,F,g):=a;exact⟨f,fd,F,ï X G g⟩
abbrev Zs.C(Z:Zs)(x:Str)(k:Nat)(ps:Qa Str)(n:Nat)(F:FD):Prop:=K8 Z.P Z.w Z.K Z.mg Z.base x k ps (qK Z.K n F)
abbrev Zs.X(Z:Zs)(x:Str)(k:Nat)(ps:Qa Str)(n:Nat)(F:FX):Prop:=BD Z.P Z.w Z.K Z.mg Z.base x k ps (As Z.K n F)
section
variable{Z:Zs}{k:Nat}{m:MS}{f:Qg}
abbrev Lg(Z:Zs)(x:Str)(st:Ş)(k:Nat)(pn:Qa Nat)(m:MS)(N:Qa Str)(f:Qg):Prop:=∀{aQ:Qc} {A:Qf} {outer:Qa Env} {s:Qd} {H:Hp} {E:XK},N.Nodup->aF k (A.deeper<|θ x (zI st) s.heap.objs.size f aQ)->
 ∃t,VS Z.K pn Fd t m/\Wr (dR (jr iM Z.P Z.w Z.K Z.mg Z.base N x (zI st) f aQ A outer s H E).uM (gN st) t)
abbrev Lf(Z:Zs)(x:Str)(st:Ş)(k:Nat)(pn:Qa Nat)(m:MS)(N:Qa Str)(f:Qg):Prop:=∀{aQ:Qc} {A:Qf} {outer:Qa Env} {s:Qd} {H:Hp} {E:XK},N.Nodup->aF k (A.deeper<|θ x (zI st) s.heap.objs.size f aQ)->
 kM (jr (lz Z.P Z.w Z.K) Z.P Z.w Z.K Z.mg Z.base N x (zI st) f aQ A outer s H E) (vw E)->
 ∃t,VS Z.K pn (vw E) t m/\Wr (dR (jr (lz Z.P Z.w Z.K) Z.P Z.w Z.K Z.mg Z.base N x (zI st) f aQ A outer s H E) (gN st) t)
theorem S6(F:kF Z.K x x st f fd)(N:Qa Str)(bh:Lg Z x st k pn m N f)(S:aX N ps (zI st):=by exact⟨rfl,rfl,rfl,by decide +kernel,rfl,by decide +kernel,by decide +kernel⟩)(tm:ps.length=n:=by rfl)(hN:N.length=nn:=by rfl)(kZ:n<=nn:=by decide):
  bI Z.P Z.w Z.K Z.mg Z.base iM (k+1) f fd ps (qK Z.K n<|cY nn pn m):=F.okV S tm hN kZ λaQ A outer s H E hr=>let ⟨t,a,b⟩:=bh S.nd hr;⟨t,b,a⟩
theorem eK(A:dS Z x st)(N:Qa Str)(bh:∀{f},Lg Z x st k pn m N f)(S:aX N ps (zI st):=by exact⟨rfl,rfl,rfl,by decide +kernel,rfl,by decide +kernel,by decide +kernel⟩)(tm:ps.length=n:=by rfl)(hN:N.length=nn:=by rfl)(kZ:n<=nn:=by decide)
  (hb:∀(kV doc pm:Qc) (an:Qb Qg) (aQ ct:Qc) (us:Qa Qc),us.length=ps.length->bindArgs (ņ x x (kP st) (gN st) (zI st) .none kV doc pm an aQ ct) ⟨us,[]⟩=pure (ps.zip us):=by
   intro _ _ _ _ _ _ us hl
   first
   | (have(_,rfl):=Ss hl;rfl)
   | (have(_,_,rfl):=xM hl;rfl)
   | (have(_,_,_,rfl):=Fw hl;rfl)
   | (have(_,_,_,_,rfl):=Fv hl;rfl)
   | (have(_,_,_,_,_,rfl):=Sr hl;rfl)
   | (cases(ü hl);rfl)):Z.C x (k+1) ps n (cY nn pn m):=
 let ⟨f,fd,F,g⟩:=A;⟨⟨f,fd,S6 F N bh S tm hN kZ,F.binds hb,F.kp,g⟩⟩
theorem zC1(A:dS Z x st)(N:Qa Str)(bh:∀{f},Lf Z x st k pn m N f)(S:aX N ps (zI st):=by exact⟨rfl,rfl,rfl,by decide +kernel,rfl,by decide +kernel,by decide +kernel⟩)(tm:ps.length=n:=by rfl)(hN:N.length=nn:=by rfl)(kZ:n<=nn:=by decide)
  (hb:∀(kV doc pm:Qc) (an:Qb Qg) (aQ ct:Qc) (us:Qa Qc),us.length=ps.length->bindArgs (ņ x x (kP st) (gN st) (zI st) .none kV doc pm an aQ ct) ⟨us,[]⟩=pure (ps.zip us):=by
   intro _ _ _ _ _ _ us hl
   first
   | (have(_,rfl):=Ss hl;rfl)
   | (have(_,_,rfl):=xM hl;rfl)
   | (have(_,_,_,rfl):=Fw hl;rfl)
   | (have(_,_,_,_,rfl):=Fv hl;rfl)
   | (have(_,_,_,_,_,rfl):=Sr hl;rfl)
   | (cases(ü hl);rfl)):Z.X x (k+1) ps n (tQ nn pn m):=
 let ⟨f,fd,F,g⟩:=A;⟨⟨f,fd,F.Jm S tm hN kZ λaQ A outer s H E hr hx=>let ⟨t,a,b⟩:=bh S.nd hr hx;⟨t,b,a⟩,F.binds hb,F.kp,g⟩⟩
end
end Internal
namespace Internal
open PySem
section
variable{a:α}{f:α->Qb β}{R:β->Prop}{t:Ph f}
theorem WE:Wo (ž a) (Co f t R)=Wo (f a) R:=fX
theorem WD{x:Fl}{Q:Fl->Prop}{P:En->Prop}:Wo (ž x) (rK Q P)=rK Q P x:=fX
end
end Internal
namespace Internal
open PySem PySem.Spec PyProof.Rows
end Internal
namespace Internal
open PySem PySem.Spec
def Tt(b:Bool):Prop:=b=ż
theorem WC{b:Bool}(h:b=ż):Tt b:=h
noncomputable def xw(ρ:En)(i:Nat):Bool:=((ρ[i]?).join).isSome
noncomputable def gt(ρ:En)(i:Nat):U:=((ρ[i]?).join).getD (.d .none)
theorem zB7{ρ:En}:gt ρ i=((ρ[i]?).join).getD (.d .none):=rfl
theorem zB8{u v:U}:(ž u:Qb U).getD v=u:=rfl
theorem NP{ρ:En}(h:xw ρ i=ż):(ρ[i]?).join=ž (gt ρ i):=by
 unfold xw at h;unfold gt;cases e:(ρ[i]?).join with
 |none=>rw[e]at h;cases h
 |some u=>rfl
def vo(ρ:En):Ar->Bool
 |.s i=>xw ρ i
 |.u _=>ż
def ag(ρ:En):Ar->U
 |.s i=>gt ρ i
 |.u x=>x
theorem zB9{ρ:En}:ag ρ (.s i)=gt ρ i:=rfl
theorem zCa{ρ:En}{x:U}:ag ρ (.u x)=x:=rfl
theorem Dh{ρ:En}{a:Ar}(h:vo ρ a=ż):a.get ρ=ž (ag ρ a):=by
 cases a with
 |s i=>exact NP h
 |u x=>rfl
def gs(ρ:En)(as:Qa Ar):Qa U:=as.map (ag ρ)
theorem zCb{ρ:En}:gs ρ []=[]:=rfl
theorem zCc{ρ:En}{a:Ar}{as:Qa Ar}:gs ρ (a::as)=ag ρ a::gs ρ as:=rfl
theorem Hi{ρ:En}:∀{as:Qa Ar},as.all (vo ρ)=ż->bW ρ as=ž (gs ρ as)
 |[],_=>rfl
 |a::as,h=>by
  rw[Χ,a4q]at h;rw[QH,Dh h.1,bd,Hi h.2];rfl
noncomputable def E2{α:Type}(m:En->Qb α)(ρ:En):Qb α:=m ρ
def Cu(ρ:En)(t:Ph ρ)(Q:Ar×En->Prop)(u:U):Prop:=Q (.u u,ρ)
def Cw(ρ:En)(as:Qa Ar)(t:Ph ρ)(Q:Ar×En->Prop)(o:U×Qa U):Prop:=Q (.u o.1,wb ρ as o.2)
def Jx(f:U->Qb U)(p:Ar×En):Qb (Ar×En):=(p.1.get p.2).bind λx=>(f x).bind λu=>ž (.u u,p.2)
noncomputable def Le(mA:MA)(p:Ar×En):Qb (Qa Ar×En):=(mA p.2).bind λq=>ž (p.1::q.1,q.2)
noncomputable def MD(a:Ar)(q:Qa Ar×En):Qb (Qa Ar×En):=ž (a::q.1,q.2)
def Jz(f:Qa U->Qb U)(p:Qa Ar×En):Qb (Ar×En):=(bW p.2 p.1).bind λus=>(f us).bind λu=>ž (.u u,p.2)
def Fu(f:FD)(p:Qa Ar×En):Qb (Ar×En):=if gL p.2 p.1=ż then(bW p.2 p.1).bind λus=>(f us).bind λo=>ž (.u o.1,wb p.2 p.1 o.2)else Ž
def Ft(i:Nat)(p:Ar×En):Qb Fl:=(put p).bind λq=>ž<|.nx<|q.2.set i<|some q.1
def kB(p:Ar×En):Qb (Bool×En):=(p.1.get p.2).bind λu=>u.nu.bind λb=>ž (b,p.2)
noncomputable def Es(m1 m2:MS)(p:Bool×En):Qb Fl:=if p.1=ż then m1 p.2 else m2 p.2
noncomputable def Gp(p:Ar×En):Qb Fl:=ž (.nx p.2)
section
variable{γ:Type}{ρ:En}{ma mb me:ME}{mA:MA}{mt:MT}{m1 m2:MS}{u x y:U}{d:D}{a b:Ar}{as:Qa Ar}{f:U->Qb U}{f2:U->U->Qb U}{fl:Qa U->Qb U}{F:FD}
variable{QE:Ar×En->Prop}{QA:Qa Ar×En->Prop}{QT:Bool×En->Prop}{QS:Fl->Prop}
theorem WB{m:En->Qb α}{Q:α->Prop}:Wo (E2 m ρ) Q=Wo (m ρ) Q:=rfl
theorem WA{g:Ar×En->Qb β}{t:Ph ρ}{t2:Ph g}{R:β->Prop}:Cu ρ t (Co g t2 R) u=Wo (g (.u u,ρ)) R:=rfl
theorem zs0{g:Ar×En->Qb β}{t:Ph g}{R:β->Prop}(h:Tt (xw ρ i)):Wo (zf i ρ) (Co g t R)=Wo (g (.s i,ρ)) R:=by
 rw[OR,NP h,fX,lL,fX];rfl
theorem zCd{g:Ar×En->Qb β}{t:Ph g}{R:β->Prop}:Wo (mC d ρ) (Co g t R)=Wo (g (.u<|.d d,ρ)) R:=Ld
theorem zoR(h:Tt (vo ρ a && vo ρ b)):Wo (BF f2 a (b,ρ)) QE=Wo (f2 (ag ρ a)<|ag ρ b) (Cu ρ ⟨0⟩ QE):=by
 have(h1,h2):=Bool.and_eq_true_iff.mp h;unfold BF;rw[Dh h1,bd,Dh h2,bd,zw];exact congrArg (Wo _)<|funext λ_=>fX
theorem W3:Wo (cI f ma ρ) QE=Wo (ma ρ) (Co (Jx f) ⟨0⟩ QE):=zBV
theorem zs1(h:Tt (vo ρ a)):Wo (Jx f (a,ρ)) QE=Wo (f<|ag ρ a) (Cu ρ ⟨0⟩ QE):=by
 unfold Jx;rw[Dh h,bd,zw];exact congrArg (Wo _)<|funext λ_=>fX
theorem zoS:Wo (zb me mA ρ) QA=Wo (me ρ) (Co (Le mA) ⟨0⟩ QA):=X4
theorem zlE:Wo (Le mA (a,ρ)) QA=Wo (mA ρ) (Co (MD a) ⟨0⟩ QA):=zw
theorem zi8{g:Qa Ar×En->Qb β}{t:Ph g}{R:β->Prop}:Wo (MD a (as,ρ)) (Co g t R)=Wo (g (a::as,ρ)) R:=fX
theorem zs2{g:Qa Ar×En->Qb β}{t:Ph g}{R:β->Prop}:Wo (zn ρ) (Co g t R)=Wo (g ([],ρ)) R:=OQ
theorem W2:Wo (bf fl mA ρ) QE=Wo (mA ρ) (Co (Jz fl) ⟨0⟩ QE):=zBW
theorem zs3(h:Tt (as.all<|vo ρ)):Wo (Jz fl (as,ρ)) QE=Wo (fl<|gs ρ as) (Cu ρ ⟨0⟩ QE):=by
 unfold Jz;rw[Hi h,bd,zw];exact congrArg (Wo _)<|funext λ_=>fX
theorem zs4:Wo (zK F mA ρ) QE=Wo (mA ρ) (Co (Fu F) ⟨0⟩ QE):=VG
theorem zoT(h:Tt (gL ρ as && as.all (vo ρ))):Wo (Fu F (as,ρ)) QE=Wo (F<|gs ρ as) (Cw ρ as ⟨0⟩ QE):=by
 have(h1,h2):=Bool.and_eq_true_iff.mp h;unfold Fu;rw[a5L h1,Hi h2,bd,zw];exact congrArg (Wo _)<|funext λ_=>fX
theorem W1{us:Qa U}{g:Ar×En->Qb β}{t:Ph ρ}{t2:Ph g}{R:β->Prop}:Cw ρ as t (Co g t2 R) (u,us)=Wo (g (.u u,wb ρ as us)) R:=rfl
theorem zs5:Wo (zR i me ρ) QS=Wo (me ρ) (Co (Ft i) ⟨0⟩ QS):=VF
theorem zoU{t:Ph (mN m2)}:Wo (Ft i (.u u,ρ)) (Co (mN m2) t QS)=Wo (E2 m2<|ρ.set i<|some u) QS:=fX
theorem zCe:Wo (mB me ρ) QT=Wo (me ρ) (Co kB ⟨0⟩ QT):=zCZ
theorem W0{c:Bool}{g:Bool×En->Qb β}{t:Ph g}{R:β->Prop}:Wo (kB (.u<|.d<|.bool c,ρ)) (Co g t R)=Wo (g (c,ρ)) R:=fX
theorem zs6:Wo (aT mt m1 m2 ρ) QS=Wo (mt ρ) (Co (Es m1 m2) ⟨0⟩ QS):=VD
theorem zs7:Wo (Es m1 m2 (ż,ρ)) QS=Wo (m1 ρ) QS:=rfl
theorem zs8:Wo (Es m1 m2 (Ż,ρ)) QS=Wo (m2 ρ) QS:=rfl
theorem zoV:Wo (du me ρ) QS=Wo (me ρ) (Co Gp ⟨0⟩ QS):=YH
theorem zlF{t:Ph (mN m2)}:Wo (Gp (a,ρ)) (Co (mN m2) t QS)=Wo (E2 m2 ρ) QS:=fX
theorem zoW{t:Ph (mN m2)}:Wo (zS ρ) (Co (mN m2) t QS)=Wo (E2 m2 ρ) QS:=P1
theorem zoX{p:Ar×En}:Ft i p=(put p).bind λq=>ž (.nx<|q.2.set i<|some q.1):=rfl
theorem WZ{p:Ar×En}:kB p=(p.1.get p.2).bind λu=>u.nu.bind λb=>ž (b,p.2):=rfl
theorem zs9{p:Bool×En}:Es m1 m2 p=if p.1=ż then m1 p.2 else m2 p.2:=rfl
theorem zlG{p:Ar×En}:Gp p=ž (.nx p.2):=rfl
end
end Internal
namespace Internal
open PySem PySem.Spec PyProof.Rows
abbrev KX(K:qc)(H:Hp):Qa (Qa K3×V)->Qa (Qa K3×Qg×Qc)->Prop:=ϫ λp q=>p.1=q.1/\N3 K H p.1 q.2.1/\aP p.2 q.2.2
noncomputable def U.fl(c f:Str):U->Qb (Qa D)
 |.o c' fs=>if c'=c then(match fs.lookup f with|some (.l xs)=>ž xs|_=>Ž)else Ž
 |_=>Ž
def PP(K:qc)(H:Hp):HO->PU->Prop
 |.lst us,.l xs=>aO K H us xs
 |.dT us,.t xs=>fq K H us xs
 |.dX us,.x xs=>fq K H us xs
 |_,_=>False
noncomputable def PU.part:PU->Bool
 |.d _=>Ż
 |_=>ż
noncomputable def U.fp(c f:Str):U->Qb PU
 |.o c' fs=>if c'=c then fs.lookup f else Ž
 |_=>Ž
noncomputable def PU.xs:PU->Qb (Qa<|Qa K3×D)
 |.x kvs=>ž kvs
 |_=>Ž
noncomputable def PU.ls:PU->Qb (Qa D)
 |.l xs=>ž xs
 |_=>Ž
structure K5 (P:Qe) (w:Qh) (K:qc) (mg:Str->Qb Qc) (base:Į) (c:Str) (m:Str) (k:Nat) (ps:Qa Str) (sp:Sp):Prop where
 ex:∃(C f:Qg) (fd:ū),XN K c C/\Fe K C/\bI P w K mg base iM k f fd ps sp/\lK K fd ps []/\K0 K C m f
def VN:TE:=λ_ H Q=>∀p,H p=Ž->Q (.ref p) (upd H p<|.dX [])
def PU.new:PU->TE
 |.l _=>BZ rB
 |.t _=>CD
 |_=>VN
def PU.ho:PU->HO
 |.l _=>.lst []
 |.t _=>.dT []
 |_=>.dX []
noncomputable def PU.nil:PU->Bool
 |.l []=>ż
 |.t []=>ż
 |.x []=>ż
 |_=>Ż
abbrev Zs.M(Z:Zs)(c x:Str)(k:Nat)(ps:Qa Str)(n:Nat)(F:FD):Prop:=K5 Z.P Z.w Z.K Z.mg Z.base c x k ps (qK Z.K n F)
noncomputable def lsN:U->Qb (Qa D)
 |.l xs=>ž xs
 |.d (.list xs)=>ž xs
 |_=>Ž
theorem zqc(l:Qg)(items:Array Qc)(n:Nat)(sl:Array (Qb Qc))(b:Qg)(be:Array Qc)(n2:Nat)(pA:Array (Qb Qc))(hc0:items.size+be.size<=Ď):
  Meets (Builtin.«list.__add__» ⟨[.ref l,.ref b],[]⟩) (λ_ R s=>s.heap.get? l=ž {cls:=.type "list",dict:=Ž,data:=.seq items n,slots:=sl}/\s.heap.get? b=ž {cls:=.type "list",dict:=Ž,data:=.seq be n2,slots:=pA}/\R (.ok<|.ret<|.ref s.heap.objs.size) {s with heap:=s.heap.push {cls:=.type "list",data:=.seq (items++be)},toks:=s.toks}):=
 .of_wp λprog w A R s h=>by
  have(hp,g,d,tk,os):=s;have(hl,hb,h):=h;have f1:=PySem.AutoSeq1.idx_int;have f2:=PySem.AutoSeq1.sub_tuple_tuple;have f3:=PySem.AutoSeq1.sub_list_list;have f4:=PySem.AutoSeq1.sub_tuple_list;have f5:=PySem.AutoSeq1.sub_list_tuple
  wp_walk using ŉ hl,ŉ hb
  exact⟨_,rfl,h⟩
section
variable{X:Cx}
def LH(K:qc):R2:=λx y H Q=>∃l b xs zs,x=.ref l/\y=.ref b/\bZ K H l xs/\bZ K H b zs/\xs.length+zs.length<=Ď/\∀p,H p=Ž->Q (.ref p) (upd H p<|.lst<|xs++zs)
theorem NO(hK:X.K=K:=by rfl):bF X (Ů .Add) (LH K):=by
 subst hK;intro pins s σ H x y v u Q I rx ry h;have(l,b,xs,zs,rfl,rfl,hH,hB,hz,q):=h;cases rx;cases ry;obtain⟨aq,r,⟨o,n,e,c1,d1,t1⟩,_⟩:=I.list hH;obtain⟨gQ,r2,⟨o2,n2,e2,c2,d2,t2⟩,_⟩:=I.list hB;have(cls,dd,data,sl):=o;have(Bm,vk,data2,pA):=o2;simp only at c1 d1 t1 c2 d2 t2;subst c1 d1 t1 c2 d2 t2;have l1:=r.length;have l2:=r2.length;have ea:aq.toArray++gQ.toArray=(aq++gQ).toArray:=by simp
 refine a2F ⟨_,e,rfl⟩ ⟨_,e2,rfl⟩ noFill_list_add seq_list_add F.slot_list_add F.entry_list_add (F.args_list_add_2 _ _) (zqc l aq.toArray n sl b gQ.toArray n2 pA (by rw[ē,ē];omega)) ⟨e,e2,?_⟩;rw[ea];exact⟨.ref _,_,I.Ju (t':=s.toks) (r.append r2) (by rw[qr];omega),rfl,q _ I.fresh⟩
end
def Cb(u w:U):Qb U:=(lsN u).bind λxs=>(lsN w).bind λys=>if xs.length+ys.length<=Ď then ž (.l<|xs++ys)else Ž
theorem Mq{u:U}{xs:Qa D}(p:Rp K H v u)(h:lsN u=ž xs):∃a us,v=.ref a/\bZ K H a us/\aO K H us xs:=by
 unfold lsN at h;split at h
 .cases h
  have(a,us,rfl,h1,h2):=p;exact⟨a,us,rfl,bZ.of h1,h2⟩
 .cases h
  have(b,vy,rfl,h2,d2):=DF.lst_inv p;exact⟨b,vy,rfl,PL.sq h2,d2⟩
 .cases h
theorem N5:VO K (LH K) Cb:=by
 intro x y a b u H Q ha hb e q;have(xs,ex,e):=bQ e;have(ys,ey,e):=bQ e;split at e
 .rename_i hz
  cases e;have(p,us,rfl,h1,h2):=Mq ha ex;have(p',nN,rfl,m9,iz):=Mq hb ey;refine⟨p,p',us,nN,rfl,rfl,h1,m9,by rw[h2.len,iz.len];exact hz,λr hr=>?_⟩;have s:=iH hr (.lst<|us++nN);exact q _ _ s ⟨r,_,rfl,zD,(h2.app iz).kp s.kp⟩ λ_=>⟨r,rfl,hr⟩
 .cases e
open PySem.AutoSeq1 (wpAny_loadPart')
open MeetsSeq MeetsSeq2 MeetsSeq3 SeqRoads2
end Internal
namespace Internal
open PySem PySem.Spec PyProof.Rows
noncomputable def Cx.JD(X:Cx):Cx:={X with A:=X.A.in1,xe:=λ_ _=>False}
end Internal
namespace Internal
open PySem PySem.Spec PySem.W PyProof.Rows
end Internal
namespace Internal
open PySem PySem.Spec PyProof.Rows
end Internal
namespace Internal
open PySem PySem.Spec PySem.W PyProof.Rows
structure fO (prog:Qe) (w:Qh) (A:Qf) (s:Qd) (κ:a2J) (ah:Array ě) (r:ě->Int):Prop where
 ask:∀x∈ah.toList,∀y∈ah.toList,∀C:Bool->Qd->Prop,C (decide<|r x < r y) s->Č (Đ prog w) A (keyLt' κ x.1 y.1) C (λ_ _=>False) s
 nd:(ah.toList.map r).Nodup
structure SS (κ:a2J) (ah:Array ě) (st:ģ):Prop where
 perm:(Ğ st).Perm ah
 kind:Ř st=κ
 failed:Ϻ st=Ž
noncomputable def R(r:ě->Int)(xs:Array ě)(i:Nat):Int:=match xs[i]? with
 |some x=>r x
 |none=>0
def Seg(r:ě->Int)(xs:Array ě)(lo hi:Nat):Prop:=∀i j,lo<=i->i < j->j < hi->R r xs i < R r xs j
theorem gM{xs ys:Array ě}(h:xs[i]?=ys[j]?):R r xs i=R r ys j:=by unfold R;rw[h]
theorem dU{xs:Array ě}{x:ě}(h:xs[i]?=ž x):R r xs i=r x:=by unfold R;rw[h]
theorem Seg.up{xs:Array ě}{lo:Nat}{v:Int}(h:Seg r xs lo hi)(h1:lo<=i)(de:i<=j)(hj:j < hi)(hv:v < R r xs i):v < R r xs j:=by
 rcases a4Y de with c|rfl
 .exact Int.lt_trans hv (h i j h1 c hj)
 .exact hv
theorem Seg.dn{xs:Array ě}{lo:Nat}{v:Int}(h:Seg r xs lo hi)(h1:lo<=i)(de:i<=j)(hj:j < hi)(hv:R r xs j < v):R r xs i < v:=by
 rcases a4Y de with c|rfl
 .exact Int.lt_trans (h i j h1 c hj) hv
 .exact hv
theorem HR{xs:Array ě}{src d:Nat}(hs:src < xs.size)(hd:d<=src)(k:Nat):
  R r (a3M xs src d) k=if k=src - d then R r xs src else if src - d < k/\k<=src then R r xs (k - 1)else R r xs k:=by
 have e:=getElem?_bubble hs d hd k
 by_cases h1:k=src - d
 .rw[a5L h1]at e ⊢;exact gM e
 .rw[a5M h1]at e ⊢
  by_cases h2:src - d < k/\k<=src
  .rw[a5L h2]at e ⊢;exact gM e
  .rw[a5M h2]at e ⊢;exact gM e
theorem zCf{xs:Array ě}{src d p:Nat}(hs:src < xs.size)(hp:p+d=src):
  (∀q,q < p->R r (a3M xs src d) q=R r xs q)/\R r (a3M xs src d) p=R r xs src/\∀q,p<=q->q < src->R r (a3M xs src d) (q+1)=R r xs q:=by
 subst hp;have hd:=a1g d p;refine⟨λq hq=>?_,?_,λq h1 h2=>?_⟩
 .rw[HR hs hd,ŏ,a5M<|qj hq,a5M λz=>absurd z.1<|Nat.lt_asymm hq]
 .rw[HR hs hd,ŏ,a5L rfl]
 .rw[HR hs hd,ŏ,a5M<|Nat.ne_of_gt<|a5i h1,a5L ⟨a5i h1,h2⟩,ŏ]
theorem ZK{xs:Array ě}(hj:j<=xs.size)(k:Nat):
  R r (mirror xs i j<|(j - i) / 2) k=if i<=k/\k < j then R r xs (i+j - 1 - k)else R r xs k:=by
 have e:=getElem?_mirror_all (i:=i) hj k
 by_cases h1:i<=k/\k < j
 .rw[a5L h1]at e ⊢;exact gM e
 .rw[a5M h1]at e ⊢;exact gM e
structure hE (lo hi:Nat) (st av:ģ):Prop where
 perm:(Ğ av).Perm (Ğ st)
 out:∀k,k < lo\/hi<=k->(Ğ av)[k]?=(Ğ st)[k]?
 kind:Ř av=Ř st
 failed:Ϻ av=Ϻ st
 pend:Ę av=Ę st
theorem hE.refl{lo:Nat}{st:ģ}:hE lo hi st st:=⟨a0u _,λ_ _=>rfl,rfl,rfl,rfl⟩
theorem hE.trans{lo:Nat}{st cH:ģ}(h:hE lo hi st av)(h':hE lo hi av cH):hE lo hi st cH :=
 ⟨h'.perm.trans h.perm,λk hk=>(h'.out k hk).trans<|h.out k hk,h'.kind.trans h.kind,h'.failed.trans h.failed,h'.pend.trans h.pend⟩
theorem hE.wide{lo uS kl:Nat}{st:ģ}(h:hE lo hi st av)(h1:uS<=lo)(h2:hi<=kl):hE uS kl st av :=
 ⟨h.perm,λk hk=>h.out k (by omega),h.kind,h.failed,h.pend⟩
section
variable{s:Qd}{st:ģ}{lo:Nat}
theorem SS.size(h:SS κ ah st):(Ğ st).size=ah.size:=h.perm.size_eq
theorem SS.chg(h:SS κ ah st)(c:hE lo hi st av):SS κ ah av:=⟨c.perm.trans h.perm,c.kind.trans h.kind,c.failed.trans h.failed⟩
theorem SS.mem(h:SS κ ah st){x:ě}(e:(Ğ st)[i]?=ž x):x∈ah.toList :=
 (ã.mp h.perm).mem_iff.mp (by have(hi,rfl):=Ê.mp e;simp)
theorem SS.at(h:SS κ ah st)(hi:i < ah.size):∃x,(Ğ st)[i]?=ž x:=⟨_,getElem?_pos _ i (by rw[h.size];exact hi)⟩
theorem SS.ne(h:SS κ ah st)(S:fO prog w A s κ ah r)(hi:i < ah.size)(hj:j < ah.size)(e:i≠j):R r (Ğ st) i≠R r (Ğ st) j:=by
 have nd:((Ğ st).toList.map r).Nodup:=((ã.mp h.perm).map r).nodup_iff.mpr S.nd;have(x,ex):=h.at hi;have(y,ey):=h.at hj;rw[dU ex,dU ey];intro z;have lx:i < ((Ğ st).toList.map r).length:=by simp[h.size,hi]
 have ly:j < ((Ğ st).toList.map r).length:=by simp[h.size,hj]
 have(_,e1):=Ê.mp ex;have(_,e2):=Ê.mp ey;have e3:((Ğ st).toList.map r)[i]=((Ğ st).toList.map r)[j]:=by simp[e1,e2,z]
 have pw:=Ý.mp nd;rcases a4X e with fj|fj
 .exact pw i j lx ly fj e3
 .exact pw j i ly lx fj e3.symm
theorem xY{x y:ě}{Q:Qb Bool->ģ->Prop}(S:fO prog w A s κ ah r)(hk:Ř st=κ)(hx:x∈ah.toList)(hy:y∈ah.toList)(h:Q (ž<|decide<|r x < r y) st):wpS (Đ prog w) A E s (lt' x y) Q st:=by
 rw[lt'_eq];refine ď<|π ?_;rw[hk];refine ď<|a1J<|τ<|ŋ (S.ask x hx y hy (λb s'=>s'=s/\b=decide (r x < r y)) ⟨rfl,rfl⟩) (λb s' hb=>?_) λ_ _ z=>z.elim;have(rfl,rfl):=hb;exact⟨rfl,Ĕ h⟩
theorem fV{x:ě}{Q:ě->ģ->Prop}(e:arr[i]?=ž x)(h:Q x st):wpS (Đ prog w) A E s (ϱ arr i) Q st:=by
 rw[elem'_eq,e];exact Ĕ h
theorem yt{Q:Qb Bool->ģ->Prop}(S:fO prog w A s κ ah r)(hB:SS κ ah st)(hi:i < ah.size)(hj:j < ah.size)(h:Q (ž<|decide<|R r (Ğ st) i < R r (Ğ st) j) st):wpS (Đ prog w) A E s (ltAt' i j) Q st:=by
 have(x,ex):=hB.at hi;have(y,ey):=hB.at hj;rw[dU ex,dU ey]at h;rw[ltAt'_eq];refine ď<|π ?_;show wpS _ _ _ _ (do let x <-ϱ (Ğ st) i;let y <-ϱ (Ğ st) j;lt' x y) Q st;exact ď<|fV ex<|ď<|fV ey<|xY S hB.kind (hB.mem ex) (hB.mem ey) h
theorem zCg{Q:Unit->ģ->Prop}(hj:j<=(Ğ st).size)(h:∀av,hE i j st av->(∀k,R r (Ğ av) k=if i<=k/\k < j then R r (Ğ st) (i+j - 1 - k)else R r (Ğ st) k)->Q () av):wpS (Đ prog w) A E s (reverseSlice' i j) Q st:=by
 rw[reverseSlice'_eq];refine Ŷ<|h _ ⟨mirror_perm _ _ _ _,λk hk=>?_,rfl,rfl,rfl⟩ λk=>ZK hj k;show(mirror (Ğ st) i j<|(j - i) / 2)[k]?=_;rw[getElem?_mirror_all hj,a5M (by omega)]
def UR(r:ě->Int)(xs:Array ě)(lo hi:Nat):Prop:=∀i j,lo<=i->i < j->j < hi->R r xs j < R r xs i
theorem LG{a bO:Nat}{Q:AscSt->ģ->Prop}{f:Nat->AscSt->StateT ģ Sem (ForInStep AscSt)}(S:fO prog w A s κ ah r)(hn:lo+bO<=ah.size)(ha:1<=a)(han:a<=bO)(hB:SS κ ah st)
  (hs:Seg r (Ğ st) lo (lo+a)) (hf:∀i c,f i c=(do
   let ji <-ltAt' (lo+c.snd) (lo+c.snd - 1)
   match ji with
   |some ip=>if ip=ż then pure (ϯ (Ž,c.snd))else pure (Ũ (Ž,c.snd+1))
   |_=>pure<|ϯ (ž Ž,c.snd)))
  (h:∀n,a<=n->n<=bO->Seg r (Ğ st) lo (lo+n)->(n=bO\/R r (Ğ st) (lo+n) < R r (Ğ st) (lo+n - 1))->Q (Ž,n) st):
  wpS (Đ prog w) A E s (forIn [a:bO] (Ž,a) f) Q st:=by
 refine ń (I:=λx c av=>av=st/\c=(Ž,x)/\Seg r (Ğ st) lo (lo+x)) ?step ?fin ⟨rfl,rfl,hs⟩
 case fin=>
  rintro c av ⟨rfl,rfl,dI⟩;rw[show max a bO=bO by omega]at dI ⊢;exact h bO han (qe _) dI<|.inl rfl
 case step=>
  rintro x c av T3 hxn ⟨rfl,rfl,dI⟩;rw[hf];dsimp only;refine ď<|yt S hB (by omega) (by omega) ?_
  by_cases cK:R r (Ğ av) (lo+x) < R r (Ğ av) (lo+x - 1)
  .rw[a5N cK]
   simp only[if_true];exact Ĕ<|h x T3 (by omega) dI<|.inr cK
  .rw[a5O cK]
   simp only[Ě,if_false];refine Ĕ ⟨rfl,rfl,λi j l9 de hj=>?_⟩
   by_cases Ka:j < lo+x
   .exact dI i j l9 de Ka
   .have kj:j=lo+x:=by omega
    subst kj;have ne:=hB.ne S (i:=lo+x) (j:=lo+x - 1) (by omega) (by omega) (by omega)
    by_cases kl:i=lo+x - 1
    .subst kl;omega
    .have:=dI i (lo+x - 1) l9 (by omega) (by omega)
     omega
theorem Mp{bO:Nat}{Q:Qb Nat->ģ->Prop}{f:Nat->AscSt->StateT ģ Sem (ForInStep AscSt)}{T:AscSt->StateT ģ Sem (Qb Nat)}(S:fO prog w A s κ ah r)(hn:lo+bO<=ah.size)(m1:2<=m)(m2:m<=bO)(hB:SS κ ah st)
  (hd:UR r (Ğ st) lo (lo+m)) (hf:∀i c,f i c=(do
   let ji <-ltAt' (lo+c.snd) (lo+c.snd - 1)
   match ji with
   |some ip=>if ip=ż then pure (ϯ (Ž,c.snd))else pure (Ũ (Ž,c.snd+1))
   |_=>pure<|ϯ (ž Ž,c.snd))) (hT:∀n,T (Ž,n)=pure (ž n))
  (h:∀m av,hE lo (lo+bO) st av->1<=m->m<=bO->Seg r (Ğ av) lo (lo+m)->Q (ž m) av):
  wpS (Đ prog w) A E s (do reverseSlice' lo (lo+m);let KU <-forIn [m:bO] (Ž,m) f;T KU) Q st:=by
 refine ď<|zCg (r:=r) (by rw[hB.size];omega) λbU c2 e2=>?_;refine ď<|LG S hn (by omega) m2 (hB.chg c2) (λi j l9 de hj=>?_) hf λk k1 k2 hk _=>?_
 .rw[e2,e2,a5L (by omega),a5L (by omega)]
  exact hd _ _ (by omega) (by omega) (by omega)
 .rw[hT]
  exact Ĕ<|h k bU (c2.wide (qe _) (by omega)) (by omega) k2 hk
theorem zm4{bO:Nat}{Q:Qb Nat->ģ->Prop}(S:fO prog w A s κ ah r)(hn:lo+bO<=ah.size)(h1:1<=bO)(hB:SS κ ah st)
  (h:∀m av,hE lo (lo+bO) st av->1<=m->m<=bO->Seg r (Ğ av) lo (lo+m)->Q (ž m) av):wpS (Đ prog w) A E s (countRun' lo bO) Q st:=by
 rw[countRun'_eq];refine ď<|LG S hn (qe 1) h1 hB (λi j _ _ _=>by omega) (λi c=>rfl) λn n1 n2 JQ hor=>?_;dsimp only
 by_cases kZ:n=bO
 .rw[a5L (by simpa using kZ)]
  exact Ĕ<|h n st hE.refl n1 n2 JQ
 .rw[a5M (by simpa using kZ)]
  have fj:=hor.resolve_left kZ
  by_cases EE:n > 1
  .rw[a5L EE]
   refine ď<|yt S hB (by omega) (by omega) ?_;rw[a5N<|JQ lo (lo+n - 1) (qe _) (by omega) (by omega)];simp only[if_true];exact Ĕ<|h n st hE.refl n1 n2 JQ
  .rw[a5M EE]
   have AV:n=1:=by omega
   subst AV;refine ď<|a1J<|ũ ⟨rfl,?_⟩;refine ď<|ń (I:=λx c av=>av=st/\c=(Ž,x,0)/\UR r (Ğ st) lo (lo+x)) ?step ?fin ⟨rfl,rfl,?init⟩
   case init=>
    intro i j l9 de hj;have e1:i=lo:=by omega
    have e2:j=lo+1:=by omega
    subst e1 e2;exact fj
   case step=>
    rintro x c av T3 hxn ⟨rfl,rfl,dI⟩;dsimp only;refine ď<|yt S hB (by omega) (by omega) ?_
    by_cases cK:R r (Ğ av) (lo+x) < R r (Ğ av) (lo+x - 1)
    .rw[a5N cK]
     simp only[if_true];rw[a5M (by omega)];refine Ĕ ⟨rfl,rfl,λi j l9 de hj=>?_⟩
     by_cases Ka:j < lo+x
     .exact dI i j l9 de Ka
     .have kj:j=lo+x:=by omega
      subst kj
      by_cases kl:i=lo+x - 1
      .subst kl;exact cK
      .have:=dI i (lo+x - 1) l9 (by omega) (by omega)
       omega
    .rw[a5O cK]
     simp only[Ě,if_false];have ne:=hB.ne S (i:=lo+x) (j:=lo+x - 1) (by omega) (by omega) (by omega);refine ď<|yt S hB (by omega) (by omega) ?_;rw[a5N (by omega)];simp only[if_true];refine Ĕ ?_;dsimp only;rw[a5M<|a3x 0];exact Mp S hn (by omega) (by omega) hB dI (λ_ _=>rfl) (λ_=>rfl) h
   case fin=>
    rintro c av ⟨rfl,rfl,dI⟩;rw[show max (1+1) bO=bO by omega]at dI ⊢;dsimp only;rw[a5M<|a3x 0];exact Mp S hn (by omega) (qe _) hB dI (λ_ _=>rfl) (λ_=>rfl) h
theorem zj5{ok:Nat}{Q:Bool->ģ->Prop}(S:fO prog w A s κ ah r)(hn:lo+n<=ah.size)(aC:ok<=n)(hB:SS κ ah st)(hs:Seg r (Ğ st) lo (lo+ok))
  (h:∀av,hE lo (lo+n) st av->Seg r (Ğ av) lo (lo+n)->Q ż av):wpS (Đ prog w) A E s (binarySort' lo n ok) Q st:=by
 rw[binarySort'_eq];refine ď<|ŗ (ń (I:=λk c av=>c=(Ž,())/\hE lo (lo+n) st av/\Seg r (Ğ av) lo (lo+min k n))
  (Q:=λc av=>c=(Ž,())/\hE lo (lo+n) st av/\Seg r (Ğ av) lo (lo+n)) ?step ?fin ?init) ?post
 case post=>
  rintro c av ⟨rfl,c1,dI⟩;exact Ĕ<|h av c1 dI
 case init=>
  refine⟨rfl,hE.refl,λi j l9 de hj=>?_⟩;exact hs i j l9 de (by omega)
 case fin=>
  rintro c av ⟨hc,c1,dI⟩;refine⟨hc,c1,?_⟩
  rwa[show min (max (max ok 1) n) n=n by omega]at dI
 case step=>
  rintro k c av hak hkn ⟨rfl,c1,dI⟩;rw[show min k n=k by omega]at dI;have Kx:=hB.chg c1;have hk:lo+k < ah.size:=by omega
  refine ď<|ŗ (ń (I:=λx c cH=>cH=av/\∃l rr,c=(Ž,l,rr)/\l<=rr/\rr<=k/\rr+x<=k+l/\
    (∀q,lo<=q->q < lo+l->R r (Ğ av) q < R r (Ğ av) (lo+k))/\(∀q,lo+rr<=q->q < lo+k->R r (Ğ av) (lo+k) < R r (Ğ av) q))
   (Q:=λc cH=>cH=av/\∃l rr,c=(Ž,l,rr)/\l<=k/\
    (∀q,lo<=q->q < lo+l->R r (Ğ av) q < R r (Ğ av) (lo+k))/\(∀q,lo+l<=q->q < lo+k->R r (Ğ av) (lo+k) < R r (Ğ av) q)) ?AL ?JH ?AN) ?AM
  case AN=>exact⟨rfl,0,k,rfl,À _,qe _,by omega,λq h1 h2=>absurd h2<|a5H h1,λq h1 h2=>absurd h2<|a5H h1⟩
  case JH=>
   rintro c cH ⟨rfl,l,rr,rfl,hlr,AO,hm,u6,xk⟩;have:l=rr:=by omega
   subst this;exact⟨rfl,l,l,rfl,AO,u6,xk⟩
  case AL=>
   rintro x c cH _ hxk ⟨rfl,l,rr,rfl,hlr,AO,hm,u6,xk⟩;dsimp only
   by_cases km:l>=rr
   .rw[a5L km]
    have:l=rr:=by omega
    subst this;exact Ĕ ⟨rfl,l,l,rfl,AO,u6,xk⟩
   .rw[a5M km]
    obtain⟨md,em⟩:∃md,(l+rr) / 2=md:=⟨_,rfl⟩;obtain⟨e1,e2⟩:l<=md/\md < rr:=by omega
    rw[em];clear em km;have mk:=qi e2 AO;have mL:=Ù mk lo;refine ď<|yt S Kx hk (ì mL hk) ?_
    by_cases cK:R r (Ğ cH) (lo+k) < R r (Ğ cH) (lo+md)
    .rw[a5N cK]
     simp only[if_true];exact Ĕ ⟨rfl,l,md,rfl,e1,â mk,by omega,u6,λq h1 h2=>dI.up (Ç _ _) h1 h2 cK⟩
    .rw[a5O cK]
     simp only[Ě,if_false];have ne:=Kx.ne S hk (ì mL hk) (ñ mL);have EE:R r (Ğ cH) (lo+md) < R r (Ğ cH) (lo+k):=by omega
     exact Ĕ ⟨rfl,md+1,rr,rfl,e2,AO,by omega,λq h1 h2=>dI.dn h1 (þ h2) mL EE,xk⟩
  case AM=>
   rintro c cH ⟨rfl,l,rr,rfl,TF,u6,xk⟩;have(d,rfl):=Ñ TF;show wpS _ _ _ _ (do moveDown' (lo+(l+d)) (lo+l);pure (Ũ (Ž,()))) _ _;have TH:lo+(l+d) < (Ğ cH).size:=by rw[Kx.size];exact hk
   have hd:d<=lo+(l+d):=qx (a1g _ _) (a1g _ _);rw[moveDown'_eq,show lo+(l+d) - (lo+l)=d by rw[<-ş,ŀ]];refine ď<|Ŷ<|Ĕ ⟨rfl,c1.trans ⟨bubble_perm _ _ _,λq hq=>?_,rfl,rfl,rfl⟩,?_⟩
   .show(a3M (Ğ cH) (lo+(l+d)) d)[q]?=_
    rw[getElem?_bubble TH _ hd,<-ş,ŏ,a5M (by omega),a5M (by omega)]
   .rw[Nat.min_eq_left hkn]
    intro i j l9 de hj;show R r (a3M (Ğ cH) (lo+(l+d)) d) i < R r (a3M (Ğ cH) (lo+(l+d)) d) j;have(b1,b2,b3):=zCf (r:=r) TH (ş lo l d);have dn:∀j,lo+l < j->∃j',j=j'+1:=λj h=>⟨j - 1,(Nat.sub_add_cancel<|É (À _) h).symm⟩;rcases a5h i (lo+l)with c|rfl|c
    .rw[b1 i c]
     rcases a5h j (lo+l)with e|rfl|e
     .rw[b1 j e];exact dI i j l9 de<|qi e<|a1z TF _
     .rw[b2];exact u6 i l9 c
     .have(j,rfl):=dn j e
      rw[b3 j (Ε e)<|a0Y hj];exact dI i j l9 (qi c<|þ e)<|ú hj
    .have(j,rfl):=dn j de
     rw[b2,b3 j (Ε de)<|a0Y hj];exact xk j (þ de)<|ú hj
    .have(j,rfl):=dn j (ì c de)
     have(i,rfl):=dn i c;have kj:=ú hj;have u7:=ú de;rw[b3 i (Ε c)<|a2h u7 kj,b3 j (qx (Ε c)<|Nat.le_of_lt u7) kj];exact dI i j (qx (Ç _ _)<|þ c) u7 kj
end
noncomputable def qE:Bool->ě->Array ě->Nat->Nat->Nat->StateT ģ Sem (Qb Nat):=sortPriv% PySem.Builtin.gallop
noncomputable def ue(left:Bool)(key:ě)(arr:Array ě)(base i:Nat):StateT ģ Sem (Qb Bool):=do
 let x <-ϱ arr (base+i)
 if left then lt' x key else return (<-lt' key x).map (!·)
theorem zm5(left:Bool)(key:ě)(arr:Array ě)(base n hint:Nat):qE left key arr base n hint=(do
 let mut fN:=0
 let mut m5:=1
 let mut lo:=0
 let mut hi:=0
 let ž right <-ue left key arr base hint|return Ž
 if right then
  let gg:=n - hint
  for _ in [0:n] do
   if m5>=gg then break
   let ž more <-ue left key arr base (hint+m5) |return Ž
   if !more then break
   fN:=m5
   m5:=2 * m5+1
  lo:=hint+fN+1
  hi:=hint+min m5 gg
 else
  let gg:=hint+1
  for _ in [0:n] do
   if m5>=gg then break
   let ž found <-ue left key arr base (hint - m5) |return Ž
   if found then break
   fN:=m5
   m5:=2 * m5+1
  lo:=hint+1 - min m5 gg
  hi:=hint - fN
 for _ in [0:n] do
  if lo>=hi then break
  let m:=lo+(hi - lo) / 2
  let ž more <-ue left key arr base m|return Ž
  if more then lo:=m+1 else hi:=m
 return ž hi):=rfl
section
variable{s:Qd}{st:ģ}
def gK(r:ě->Int)(left:Bool)(key:ě)(arr:Array ě)(base i:Nat):Bool:=if left=ż then decide (R r arr (base+i) < r key)else !decide (r key < R r arr (base+i))
theorem ZJ{left:Bool}{key:ě}{base:Nat}{x:ě}{Q:Qb Bool->ģ->Prop}(S:fO prog w A s κ ah r)(hk:Ř st=κ)(i8:key∈ah.toList)(ex:arr[base+i]?=ž x)(hx:x∈ah.toList)
  (h:Q (ž<|gK r left key arr base i) st):wpS (Đ prog w) A E s (ue left key arr base i) Q st:=by
 unfold ue;refine ď<|fV ex ?_;unfold gK at h;rw[dU ex]at h;cases left
 .simp only[Ě,if_false]at h ⊢
  exact ď<|xY S hk i8 hx<|Ĕ h
 .simp only[if_true]at h ⊢
  exact xY S hk hx i8 h
abbrev Gc:=Qb (Qb Nat)×Nat×Nat
theorem LF{B:Nat->Bool}{lo:Nat}{Q:Qb Nat->ģ->Prop}{f:Nat->Gc->StateT ģ Sem (ForInStep Gc)}{T:Gc->StateT ģ Sem (Qb Nat)}
  (bw:∀{i:Nat} {Q:Qb Bool->ģ->Prop},i < n->Q (ž<|B i) st->wpS (Đ prog w) A E s (ask i) Q st) (mono:∀i j,i<=j->j < n->B j=ż->B i=ż)
  (hf:∀i c,f i c=(if c.snd.fst>=c.snd.snd then pure (ϯ (Ž,c.snd.fst,c.snd.snd))
   else do
    let ji <-ask (c.snd.fst+(c.snd.snd - c.snd.fst) / 2)
    match ji with
     |some more=>
      if more=ż then pure (Ũ (Ž,c.snd.fst+(c.snd.snd - c.snd.fst) / 2+1,c.snd.snd))
      else pure (Ũ (Ž,c.snd.fst,c.snd.fst+(c.snd.snd - c.snd.fst) / 2))
     |x=>pure<|ϯ (ž Ž,c.snd.fst,c.snd.snd))) (hT:∀l k,T (Ž,l,k)=pure (ž k))
  (h1:lo<=hi) (h2:hi<=n) (ht:∀i,i < lo->B i=ż) (hff:∀i,hi<=i->i < n->B i=Ż)
  (h:∀k,k<=n->(∀i,i < k->B i=ż)->(∀i,k<=i->i < n->B i=Ż)->Q (ž k) st):wpS (Đ prog w) A E s (do let KU <-forIn [0:n] (Ž,lo,hi) f;T KU) Q st:=by
 refine ď<|ŗ (ń (I:=λx c av=>av=st/\∃l k,c=(Ž,l,k)/\l<=k/\k<=n/\k+x<=n+l/\(∀i,i < l->B i=ż)/\(∀i,k<=i->i < n->B i=Ż))
  (Q:=λc av=>av=st/\∃k,c=(Ž,k,k)/\k<=n/\(∀i,i < k->B i=ż)/\(∀i,k<=i->i < n->B i=Ż)) ?step ?fin ⟨rfl,lo,hi,rfl,h1,h2,by omega,ht,hff⟩) ?post
 case post=>
  rintro c av ⟨rfl,k,rfl,k1,k2,k3⟩;rw[hT];exact Ĕ<|h k k1 k2 k3
 case fin=>
  rintro c av ⟨rfl,l,k,rfl,a1,a2,a3,a4,a5⟩;have:l=k:=by omega
  subst this;exact⟨rfl,l,rfl,a2,a4,a5⟩
 case step=>
  rintro x c av _ hx ⟨rfl,l,k,rfl,a1,a2,a3,a4,a5⟩;rw[hf];dsimp only
  by_cases km:l>=k
  .rw[a5L km]
   have:l=k:=by omega
   subst this;exact Ĕ ⟨rfl,l,rfl,a2,a4,a5⟩
  .rw[a5M km]
   obtain⟨md,em⟩:∃md,l+(k - l) / 2=md:=⟨_,rfl⟩;obtain⟨e1,e2⟩:l<=md/\md < k:=by omega
   rw[em];clear em km;have e3:=qi e2 a2;refine ď<|bw e3 ?_;cases e:B md with
   |true=>
    simp only[if_true];exact Ĕ ⟨rfl,_,_,rfl,e2,a2,by omega,λi hi=>mono i md (þ hi) e3 e,a5⟩
   |false=>
    simp only[Ě,if_false];refine Ĕ ⟨rfl,_,_,rfl,e1,â e3,by omega,a4,λi hi hn=>?_⟩;cases e2:B i with
    |false=>rfl
    |true=>rw[mono md i hi hn e2]at e;cases e
theorem ZI{left:Bool}{key:ě}{base hint:Nat}{Q:Qb Nat->ģ->Prop}(S:fO prog w A s κ ah r)(hk:Ř st=κ)(i8:key∈ah.toList)(vf:∀i,i < n->∃x,arr[base+i]?=ž x/\x∈ah.toList)
  (mono:∀i j,i<=j->j < n->gK r left key arr base j=ż->gK r left key arr base i=ż) (hh:hint < n)
  (h:∀k,k<=n->(∀i,i < k->gK r left key arr base i=ż)->(∀i,k<=i->i < n->gK r left key arr base i=Ż)->Q (ž k) st):wpS (Đ prog w) A E s (qE left key arr base n hint) Q st:=by
 have bw:∀{i:Nat} {Q:Qb Bool->ģ->Prop},i < n->Q (ž<|gK r left key arr base i) st->wpS (Đ prog w) A E s (ue left key arr base i) Q st:=λ{i Q} hi hq=>by
  have(x,ex,hx):=vf i hi;exact ZJ S hk i8 ex hx hq
 have Br:∀i j,i<=j->j < n->gK r left key arr base i=Ż->gK r left key arr base j=Ż:=λi j de hj hf=>by
  cases e:gK r left key arr base j with
  |false=>rfl
  |true=>rw[mono i j de hj e]at hf;cases hf
 rw[zm5];dsimp only;refine ď<|bw hh ?_;cases e0:gK r left key arr base hint with
 |true=>
  simp only[if_true];refine ď<|ŗ (ń (I:=λx c av=>av=st/\∃l o,c=(Ž,l,o)/\x+1<=o/\hint+l < n/\l < o/\gK r left key arr base (hint+l)=ż)
   (Q:=λc av=>av=st/\∃l o,c=(Ž,l,o)/\hint+l < n/\l < o/\gK r left key arr base (hint+l)=ż/\(o>=n - hint\/(hint+o < n/\gK r left key arr base (hint+o)=Ż))) ?step ?fin ⟨rfl,0,1,rfl,qe _,hh,by omega,e0⟩) ?post
  case fin=>
   rintro c av ⟨rfl,l,o,rfl,a1,a2,a3,a4⟩;exact⟨rfl,l,o,rfl,a2,a3,a4,.inl (by omega)⟩
  case step=>
   rintro x c av _ hx ⟨rfl,l,o,rfl,a1,a2,a3,a4⟩;dsimp only
   by_cases km:o>=n - hint
   .rw[a5L km]
    exact Ĕ ⟨rfl,l,o,rfl,a2,a3,a4,.inl km⟩
   .rw[a5M km]
    refine ď<|bw (by omega) ?_;cases e:gK r left key arr base (hint+o)with
    |true=>
     simp only[Ł,Ě,if_false];exact Ĕ ⟨rfl,_,_,rfl,by omega,by omega,by omega,e⟩
    |false=>
     simp only[ϡ,if_true];exact Ĕ ⟨rfl,l,o,rfl,a2,a3,a4,.inr ⟨by omega,e⟩⟩
  case post=>
   rintro c av ⟨rfl,l,o,rfl,a2,a3,a4,a5⟩;dsimp only;refine LF (B:=gK r left key arr base) bw mono (λ_ _=>rfl) (λ_ _=>rfl) (by omega) (by omega) (λi hi=>mono i (hint+l) (by omega) a2 a4) (λi hi hn=>?_) h;rcases a5 with z|⟨z1,z2⟩
   .omega
   .exact Br (hint+o) i (by omega) hn z2
 |false=>
  simp only[Ě,if_false];refine ď<|ŗ (ń (I:=λx c av=>av=st/\∃l o,c=(Ž,l,o)/\x+1<=o/\l<=hint/\l < o/\gK r left key arr base (hint - l)=Ż)
   (Q:=λc av=>av=st/\∃l o,c=(Ž,l,o)/\l<=hint/\l < o/\gK r left key arr base (hint - l)=Ż/\(o>=hint+1\/(o<=hint/\gK r left key arr base (hint - o)=ż))) ?step ?fin ⟨rfl,0,1,rfl,qe _,À _,by omega,e0⟩) ?post
  case fin=>
   rintro c av ⟨rfl,l,o,rfl,a1,a2,a3,a4⟩;exact⟨rfl,l,o,rfl,a2,a3,a4,.inl (by omega)⟩
  case step=>
   rintro x c av _ hx ⟨rfl,l,o,rfl,a1,a2,a3,a4⟩;dsimp only
   by_cases km:o>=hint+1
   .rw[a5L km]
    exact Ĕ ⟨rfl,l,o,rfl,a2,a3,a4,.inl km⟩
   .rw[a5M km]
    refine ď<|bw (by omega) ?_;cases e:gK r left key arr base (hint - o)with
    |false=>
     simp only[Ě,if_false];exact Ĕ ⟨rfl,_,_,rfl,by omega,by omega,by omega,e⟩
    |true=>
     simp only[if_true];exact Ĕ ⟨rfl,l,o,rfl,a2,a3,a4,.inr ⟨by omega,e⟩⟩
  case post=>
   rintro c av ⟨rfl,l,o,rfl,a2,a3,a4,a5⟩;dsimp only;refine LF (B:=gK r left key arr base) bw mono (λ_ _=>rfl) (λ_ _=>rfl) (by omega) (by omega) (λi hi=>?_) (λi hi hn=>Br (hint - l) i (by omega) hn a4) h;rcases a5 with z|⟨z1,z2⟩
   .omega
   .exact mono i (hint - o) (by omega) (by omega) z2
theorem wF{left:Bool}{key:ě}{base hint e:Nat}{Q:Qb Nat->ģ->Prop}(S:fO prog w A s κ ah r)(hk:Ř st=κ)(i8:key∈ah.toList)(he:base+n=e)(vf:∀q,base<=q->q < e->∃x,arr[q]?=ž x/\x∈ah.toList)
  (sg:Seg r arr base e) (ne:∀q,base<=q->q < e->R r arr q≠r key) (hh:hint < n)
  (h:∀k,k<=n->(∀q,base<=q->q < base+k->R r arr q < r key)->(∀q,base+k<=q->q < e->r key < R r arr q)->Q (ž k) st):wpS (Đ prog w) A E s (qE left key arr base n hint) Q st:=by
 subst he;have bt:∀i,i < n->(gK r left key arr base i=ż↔R r arr (base+i) < r key):=λi hi=>by
  have:=ne (base+i) (Ç _ _) (Ù hi _);cases left
  .show(!decide (r key < R r arr (base+i)))=ż↔_
   rw[a1Z,decide_eq_false_iff_not];omega
  .exact decide_eq_true_iff
 refine ZI S hk i8 (λi hi=>vf _ (Ç _ _)<|Ù hi _) (λi j de hj hb=>?_) hh λk k1 k2 k3=>h k k1 (λq q1 q2=>?_) λq q1 q2=>?_
 .rw[bt j hj]at hb
  rw[bt i<|a4Z de hj];exact sg.dn (Ç _ _) (a1z de _) (Ù hj _) hb
 .have(i,rfl):=Ñ q1
  have hi:=Þ q2;exact(bt i<|qi hi k1).mp<|k2 i hi
 .have(i,rfl):=Ñ (qx (Ç _ _) q1)
  have hi:=Þ q2;have h1:=ne _ (Ç _ _) q2;have h3:¬R r arr (base+i) < r key:=λz=>by
   have h2:=k3 i (Nat.le_of_add_le_add_left q1) hi;rw[(bt i hi).mpr z]at h2;cases h2
  omega
end
noncomputable def Ab:Nat->StateT ģ Sem Unit:=sortPriv% PySem.Builtin.setMinGallop
noncomputable abbrev eJ(st:ģ)(g:Nat):ģ:=a4d (Ř st) (Ğ st) (Ę st) g (Ϻ st)
theorem DX(g:Nat):Ab g=modify λs=>eJ s g:=rfl
noncomputable def HQ:Array ě->Array ě->StateT ģ Sem (Array ě):=sortPriv% PySem.Builtin.mergeLo
def oO(a b:Array ě)(out:Array ě)(ia ib:Nat):Array ě:=out++a.extract ia a.size++b.extract ib b.size
def vW(a b:Array ě)(out:Array ě)(ia ib:Nat):Array ě:=out++b.extract ib b.size++a.extract ia a.size
abbrev xE:=Qb (Array ě)×Array ě×Nat×Nat×Nat×Nat×Nat
abbrev BA:=Qb (Array ě)×Array ě×Nat×Nat×Nat×Nat
abbrev Bu:=Qb (Array ě)×Array ě×Nat×Nat×Nat
noncomputable def BP(a b out:Array ě)(ia ib mg ac bc:Nat):StateT ģ Sem (ForInStep xE):=
 ϱ a ia >>= λx=>
 (if(ia+1+1==a.size)=ż then pure (.done (ž<|vW a b (out.push x) (ia+1) ib,out.push x,ia+1,ib,mg,ac,bc))
 else(if(decide (ac < 7) && decide (bc < 7))=ż then pure (.done (Ž,out.push x,ia+1,ib,mg,ac,bc))
 else pure (.yield (Ž,out.push x,ia+1,ib,mg,ac,bc))))
noncomputable def BO(a b out:Array ě)(ia ib mg ac bc:Nat):StateT ģ Sem (ForInStep xE):=
 ϱ b ib >>= λy=>
 (if(ib+1==b.size)=ż then pure (.done (ž<|oO a b (out.push y) ia<|ib+1,out.push y,ia,ib+1,mg,ac,bc))
 else(ϱ a ia >>= λx=>qE ż x b (ib+1) (b.size - (ib+1)) 0 >>= λji=>
  (match ji with
  |some k=>(if k > 0 then
    (if(ib+1+k==b.size)=ż then pure (.done (ž<|oO a b (out.push y++b.extract (ib+1) (ib+1+k)) ia<|ib+1+k,out.push y++b.extract (ib+1) (ib+1+k),ia,ib+1+k,mg,ac,k))
    else BP a b (out.push y++b.extract (ib+1) (ib+1+k)) ia (ib+1+k) mg ac k)
   else BP a b (out.push y) ia (ib+1) mg ac k)
  |_=>pure<|.done (ž<|oO a b (out.push y) ia<|ib+1,out.push y,ia,ib+1,mg,ac,bc))))
noncomputable def BN(a b out:Array ě)(ia ib mg ac bc:Nat):StateT ģ Sem (ForInStep xE):=
 Ab mg >>= λ_=>ϱ b ib >>= λy=>qE Ż y a ia (a.size - ia) 0 >>= λji=>
 (match ji with
 |some k=>(if k > 0 then
   (if(ia+k+1==a.size)=ż then pure (.done (ž<|vW a b (out++a.extract ia (ia+k)) (ia+k) ib,out++a.extract ia (ia+k),ia+k,ib,mg,k,bc))
   else(if(ia+k==a.size)=ż then pure (.done (ž<|oO a b (out++a.extract ia (ia+k)) (ia+k) ib,out++a.extract ia (ia+k),ia+k,ib,mg,k,bc))
   else BO a b (out++a.extract ia (ia+k)) (ia+k) ib mg k bc))
  else BO a b out ia ib mg k bc)
 |_=>pure<|.done (ž<|oO a b out ia ib,out,ia,ib,mg,ac,bc))
noncomputable def Fs(a b:Array ě)(mg:Nat)(c:BA):StateT ģ Sem (ForInStep BA):=
 ϱ b c.snd.snd.snd.fst >>= λy=>ϱ a c.snd.snd.fst >>= λx=>lt' y x >>= λji=>
 (match ji with
 |some Bq=>(if Bq=ż then(ϱ b c.snd.snd.snd.fst >>= λy=>
   (if(c.snd.snd.snd.fst+1==b.size)=ż then pure (.done (ž<|oO a b (c.snd.fst.push y) c.snd.snd.fst<|c.snd.snd.snd.fst+1,c.snd.fst.push y,c.snd.snd.fst,c.snd.snd.snd.fst+1,0,c.snd.snd.snd.snd.snd+1))
   else(if c.snd.snd.snd.snd.snd+1>=mg then pure (.done (Ž,c.snd.fst.push y,c.snd.snd.fst,c.snd.snd.snd.fst+1,0,c.snd.snd.snd.snd.snd+1))
   else pure (.yield (Ž,c.snd.fst.push y,c.snd.snd.fst,c.snd.snd.snd.fst+1,0,c.snd.snd.snd.snd.snd+1)))))
  else(ϱ a c.snd.snd.fst >>= λx=>
   (if(c.snd.snd.fst+1+1==a.size)=ż then pure (.done (ž<|vW a b (c.snd.fst.push x) (c.snd.snd.fst+1) c.snd.snd.snd.fst,c.snd.fst.push x,c.snd.snd.fst+1,c.snd.snd.snd.fst,c.snd.snd.snd.snd.fst+1,0))
   else(if c.snd.snd.snd.snd.fst+1>=mg then pure (.done (Ž,c.snd.fst.push x,c.snd.snd.fst+1,c.snd.snd.snd.fst,c.snd.snd.snd.snd.fst+1,0))
   else pure (.yield (Ž,c.snd.fst.push x,c.snd.snd.fst+1,c.snd.snd.snd.fst,c.snd.snd.snd.snd.fst+1,0))))))
 |_=>pure<|.done (ž<|oO a b c.snd.fst c.snd.snd.fst c.snd.snd.snd.fst,c.snd.fst,c.snd.snd.fst,c.snd.snd.snd.fst,c.snd.snd.snd.snd.fst,c.snd.snd.snd.snd.snd))
noncomputable def Si(a b:Array ě)(c:Bu)(d:BA):StateT ģ Sem (ForInStep Bu):=
 (match d.fst with
 |some r=>pure<|.done (ž r,d.snd.fst,d.snd.snd.fst,d.snd.snd.snd.fst,c.snd.snd.snd.snd)
 |none=>(liftM (rule "list.sort.gallop") >>= λ(_:Unit)=>
  forIn [0:a.size+b.size] ((Ž,d.snd.fst,d.snd.snd.fst,d.snd.snd.snd.fst,c.snd.snd.snd.snd+1,d.snd.snd.snd.snd.fst,d.snd.snd.snd.snd.snd):xE) (λ_ e=>
   (if e.snd.snd.snd.snd.fst > 1 then BN a b e.snd.fst e.snd.snd.fst e.snd.snd.snd.fst (e.snd.snd.snd.snd.fst - 1) e.snd.snd.snd.snd.snd.fst e.snd.snd.snd.snd.snd.snd
   else BN a b e.snd.fst e.snd.snd.fst e.snd.snd.snd.fst e.snd.snd.snd.snd.fst e.snd.snd.snd.snd.snd.fst e.snd.snd.snd.snd.snd.snd)) >>= λe=>
  (match e.fst with
  |some r=>pure<|.done (ž r,e.snd.fst,e.snd.snd.fst,e.snd.snd.snd.fst,e.snd.snd.snd.snd.fst)
  |none=>(Ab (e.snd.snd.snd.snd.fst+1) >>= λ_=>pure<|.yield (Ž,e.snd.fst,e.snd.snd.fst,e.snd.snd.snd.fst,e.snd.snd.snd.snd.fst+1)))))
noncomputable def Fq(a b:Array ě)(c:Bu):StateT ģ Sem (ForInStep Bu):=
 forIn [0:a.size+b.size] ((Ž,c.snd.fst,c.snd.snd.fst,c.snd.snd.snd.fst,0,0):BA) (λ_ d=>Fs a b c.snd.snd.snd.snd d) >>= Si a b c
theorem zlI(a b:Array ě):HQ a b=(do
 liftM (rule "list.sort.merge-lo")
 let x <-ϱ b 0
 if(1==b.size)=ż then pure (oO a b #[x] 0 1)
 else if(0+1==a.size)=ż then pure (vW a b #[x] 0 1)
 else do
  let st <-get
  let c <-forIn [0:a.size+b.size] ((Ž,#[x],0,1,ř st):Bu) λ_ c=>Fq a b c
  match c.fst with
  |some r=>pure r
  |none=>unsupported "internal:list.sort.merge-bound"):=by kernel_rfl
structure Mg (r:ě->Int) (a b out:Array ě) (ia ib:Nat):Prop where
 la:ia<=a.size
 lb:ib<=b.size
 perm:out.toList.Perm (a.toList.take ia++b.toList.take ib)
 up:out.toList.Pairwise λx y=>r x < r y
 ba:∀x∈out.toList,∀j,ia<=j->j < a.size->r x < R r a j
 bb:∀x∈out.toList,∀j,ib<=j->j < b.size->r x < R r b j
section
variable{a b out:Array ě}{ia ib:Nat}
theorem Mg.swap(h:Mg r a b out ia ib):Mg r b a out ib ia:=⟨h.lb,h.la,h.perm.trans Ā,h.up,h.bb,h.ba⟩
theorem Mg.push{x:ě}(h:Mg r a b out ia ib)(ex:a[ia]?=ž x)(sa:Seg r a 0 a.size)(hb:∀j,ib<=j->j < b.size->r x < R r b j):Mg r a b (out.push x) (ia+1) ib:=by
 have(hi,e):=Ê.mp ex;have rx:R r a ia=r x:=dU ex;refine⟨hi,h.lb,?_,?_,λy hy j h1 h2=>?_,λy hy j h1 h2=>?_⟩
 .rw[ň,a1X (by simpa using hi)]
  have e2:a.toList[ia]=x:=by simpa using e
  rw[e2];have h1:=h.perm.append_right [x];refine h1.trans ?_;rw[Ķ,Ķ];exact a3a _ Ā
 .rw[ň]
  refine ą.mpr ⟨h.up,a3y _ _,λy hy z hz=>?_⟩;rw[qp.mp hz,<-rx];exact h.ba y hy ia (qe _) hi
 .rw[ň]at hy
  rcases È.mp hy with hy|hy
  .exact h.ba y hy j (by omega) h2
  .rw[qp.mp hy,<-rx]
   exact sa ia j (À _) (by omega) h2
 .rw[ň]at hy
  rcases È.mp hy with hy|hy
  .exact h.bb y hy j h1 h2
  .rw[qp.mp hy]
   exact hb j h1 h2
theorem Mg.app(sa:Seg r a 0 a.size):∀{k:Nat} {out:Array ě} {ia:Nat},Mg r a b out ia ib->ia+k<=a.size->(∀i,i < k->∀j,ib<=j->j < b.size->R r a (ia+i) < R r b j)->Mg r a b (out++a.extract ia (ia+k)) (ia+k) ib
 |0,out,ia,h,hk,hb=>by
  have e:a.extract ia (ia+0)=#[]:=by
   apply ă;simp
  rw[e,a0e];exact h
 |k+1,out,ia,h,hk,hb=>by
  have hi:ia < a.size:=by omega
  have ex:a[ia]?=ž a[ia]:=getElem?_pos a ia hi;have h1:=h.push ex sa λj j1 j2=>by
   have:=hb 0 (by omega) j j1 j2;rw[Ϩ,dU ex]at this;exact this
  have h2:=Mg.app sa (k:=k) h1 (by omega) λi hi j j1 j2=>by
   have:=hb (i+1) (by omega) j j1 j2
   rwa[show ia+(i+1)=ia+1+i by omega]at this
  have e:out++a.extract ia (ia+(k+1))=out.push a[ia]++a.extract (ia+1) (ia+1+k):=by
   apply ă;rw[ϩ,ϩ,ň,ϝ,ϝ,Ķ];congr 1;rw[ŵ,ŵ,show ia+(k+1) - ia=k+1 by omega,show ia+1+k - (ia+1)=k by omega,Ţ (by simpa using hi),List.take_succ_cons];simp
  rw[e,show ia+(k+1)=ia+1+k by omega];exact h2
def jk(r:ě->Int)(a b o:Array ě):Prop:=o.toList.Perm (a.toList++b.toList)/\o.toList.Pairwise λx y=>r x < r y
theorem Mg.fin(h:Mg r a b out a.size b.size):jk r a b out:=by
 have:=h.perm;rw[a0R (by simp),a0R (by simp)]at this;exact⟨this,h.up⟩
theorem Mg.done(h:Mg r a b out ia ib)(sa:Seg r a 0 a.size)(sb:Seg r b 0 b.size)(c:ia=a.size\/ib=b.size):jk r a b (oO a b out ia ib):=by
 have la:=h.la;have lb:=h.lb;unfold oO;rcases c with rfl|rfl
 .have e:a.extract a.size a.size=#[]:=by
   apply ă;simp
  rw[e,a0e];have:=(h.swap.app sb (k:=b.size - ib) (by omega) λi hi j h1 h2=>by omega).swap;rw[show ib+(b.size - ib)=b.size by omega]at this;exact this.fin
 .have h1:=h.app sa (k:=a.size - ia) (by omega) λi hi j h1 h2=>by omega
  rw[show ia+(a.size - ia)=a.size by omega]at h1;have e:b.extract b.size b.size=#[]:=by
   apply ă;simp
  rw[e,a0e];exact h1.fin
theorem Mg.last(h:Mg r a b out ia ib)(sa:Seg r a 0 a.size)(sb:Seg r b 0 b.size)(c:ia+1=a.size)(lst:∀j,j < b.size->R r b j < R r a (a.size - 1)):jk r a b (vW a b out ia ib):=by
 have lb:=h.lb;unfold vW;have h1:=(h.swap.app sb (k:=b.size - ib) (by omega) λi hi j h1 h2=>by
  rw[show j=a.size - 1 by omega];exact lst _ (by omega)).swap
 rw[show ib+(b.size - ib)=b.size by omega]at h1;have h2:=h1.app sa (k:=a.size - ia) (by omega) λi hi j h1 h2=>by omega
 rw[show ia+(a.size - ia)=a.size by omega]at h2;exact h2.fin
end
section
variable{s:Qd}{st:ģ}{a b:Array ě}
structure fC (r:ě->Int) (ah a b:Array ě):Prop where
 ma:∀x∈a.toList,x∈ah.toList
 mb:∀x∈b.toList,x∈ah.toList
 sa:Seg r a 0 a.size
 sb:Seg r b 0 b.size
 ne:∀i j,i < a.size->j < b.size->R r a i≠R r b j
theorem fC.swap(h:fC r ah a b):fC r ah b a:=⟨h.mb,h.ma,h.sb,h.sa,λi j hi hj e=>h.ne j i hj hi e.symm⟩
theorem fC.at(h:fC r ah a b)(hi:i < a.size):∃x,a[i]?=ž x/\x∈ah.toList:=⟨a[i],getElem?_pos a i hi,h.ma _ (by simp)⟩
def lr(r:ě->Int)(a b:Array ě)(lo:Nat)(o:Qb (Array ě))(out:Array ě)(ia ib:Nat):Prop:=match o with
 |some o=>jk r a b o
 |none=>Mg r a b out ia ib/\ia+1 < a.size/\ib < b.size/\lo<=ia+ib
def GP(r:ě->Int)(a b:Array ě)(lo:Nat)(st:ģ)(f:ForInStep xE)(av:ģ):Prop:=(∃g,av=eJ st g)/\match f with
 |.done c=>lr r a b lo c.1 c.2.1 c.2.2.1 c.2.2.2.1
 |.yield c=>c.1=Ž/\lr r a b lo Ž c.2.1 c.2.2.1 c.2.2.2.1
variable{out:Array ě}{ia ib mg ac bc lo:Nat}
theorem Mn(T:fC r ah a b)(lst:∀j,j < b.size->R r b j < R r a (a.size - 1))(M:Mg r a b out ia ib)(h1:ia+1 < a.size)(h2:ib < b.size)(h3:lo<=ia+ib+1)(hx:∀j,ib<=j->j < b.size->R r a ia < R r b j):
  wpS (Đ prog w) A E s (BP a b out ia ib mg ac bc) (GP r a b lo st) st:=by
 unfold BP;have(x,ex,mx):=T.at (i:=ia) (by omega);refine ď<|fV ex ?_;have M1:=M.push ex T.sa λj j1 j2=>by
  rw[<-dU (r:=r) ex];exact hx j j1 j2
 by_cases c:ia+1+1=a.size
 .rw[a5L (by simpa using c)]
  exact Ĕ ⟨⟨ř st,rfl⟩,M1.last T.sa T.sb c lst⟩
 .rw[a5M (by simpa using c)]
  have ok:lr r a b lo Ž (out.push x) (ia+1) ib:=⟨M1,by omega,h2,by omega⟩;split
  .exact Ĕ ⟨⟨ř st,rfl⟩,ok⟩
  .exact Ĕ ⟨⟨ř st,rfl⟩,rfl,ok⟩
theorem Mm(S:fO prog w A s κ ah r)(hk:Ř st=κ)(T:fC r ah a b)(lst:∀j,j < b.size->R r b j < R r a (a.size - 1))(M:Mg r a b out ia ib)(h1:ia+1 < a.size)(h2:ib < b.size)(h3:lo<=ia+ib+1)(hy:∀j,ia<=j->j < a.size->R r b ib < R r a j):
  wpS (Đ prog w) A E s (BO a b out ia ib mg ac bc) (GP r a b lo st) st:=by
 unfold BO;have(y,ey,my):=T.swap.at (i:=ib) h2;refine ď<|fV ey ?_;have M1:=(M.swap.push ey T.sb λj j1 j2=>by
  rw[<-dU (r:=r) ey];exact hy j j1 j2).swap
 by_cases c:ib+1=b.size
 .rw[a5L (by simpa using c)]
  exact Ĕ ⟨⟨ř st,rfl⟩,M1.done T.sa T.sb<|.inr c⟩
 .rw[a5M (by simpa using c)]
  have(x,ex,mx):=T.at (i:=ia) (by omega);have rx:R r a ia=r x:=dU ex;refine ď<|fV ex<|ď<|wF (e:=b.size) S hk mx (by omega) (λq _ q2=>T.swap.at q2) (λi j _ i2 i3=>T.sb i j (À _) i2 i3) (λq _ q2 z=>T.ne ia q (by omega) q2<|rx.trans z.symm) (by omega) λk k1 below above=>?_;rw[<-rx]at below above
  .dsimp only
   by_cases kp:k > 0
   .rw[a5L kp]
    have M2:=(M1.swap.app T.sb (k:=k) (by omega) λi hi j j1 j2=>T.sa.up (À _) j1 j2<|below _ (Ç _ _)<|Ù hi _).swap
    by_cases c2:ib+1+k=b.size
    .rw[a5L (by simpa using c2)]
     exact Ĕ ⟨⟨ř st,rfl⟩,M2.done T.sa T.sb<|.inr c2⟩
    .rw[a5M (by simpa using c2)]
     exact Mn T lst M2 h1 (by omega) (by omega) above
   .rw[a5M kp]
    have k0:k=0:=by omega
    subst k0;exact Mn T lst M1 h1 (by omega) (by omega) above
theorem VM(S:fO prog w A s κ ah r)(hk:Ř st=κ)(T:fC r ah a b)(lst:∀j,j < b.size->R r b j < R r a (a.size - 1))(M:Mg r a b out ia ib)(h1:ia+1 < a.size)(h2:ib < b.size)(h3:lo<=ia+ib):
  wpS (Đ prog w) A E s (BN a b out ia ib mg ac bc) (GP r a b lo st) st:=by
 unfold BN;rw[DX];refine ď<|Ŷ ?_;have(y,ey,my):=T.swap.at (i:=ib) h2;have ry:R r b ib=r y:=dU ey;refine ď<|fV ey<|ď<|wF (st:=eJ st mg) (e:=a.size) S hk my (by omega) (λq _ q2=>T.at q2) (λi j _ i2 i3=>T.sa i j (À _) i2 i3) (λq _ q2 z=>T.ne q ib q2 h2<|z.trans ry.symm) (by omega) λk k1 below above=>?_;rw[<-ry]at below above
 .dsimp only
  have gp:∀{m:StateT ģ Sem (ForInStep xE)},wpS (Đ prog w) A E s m (GP r a b lo<|eJ st mg) (eJ st mg)->wpS (Đ prog w) A E s m (GP r a b lo st) (eJ st mg):=λh=>ŗ h λc av hc=>by
   obtain⟨⟨g,rfl⟩,hc⟩:=hc;exact⟨⟨g,rfl⟩,hc⟩
  by_cases kp:k > 0
  .rw[a5L kp]
   have M1:=M.app T.sa (k:=k) (by omega) λi hi j j1 j2=>T.sb.up (À _) j1 j2<|below _ (Ç _ _)<|Ù hi _
   by_cases c1:ia+k+1=a.size
   .rw[a5L (by simpa using c1)]
    exact Ĕ ⟨⟨mg,rfl⟩,M1.last T.sa T.sb c1 lst⟩
   .rw[a5M (by simpa using c1)]
    by_cases c2:ia+k=a.size
    .rw[a5L (by simpa using c2)]
     exact Ĕ ⟨⟨mg,rfl⟩,M1.done T.sa T.sb<|.inl c2⟩
    .rw[a5M (by simpa using c2)]
     exact gp<|Mm S hk T lst M1 (by omega) h2 (by omega) above
  .rw[a5M kp]
   have k0:k=0:=by omega
   subst k0;exact gp<|Mm S hk T lst M h1 h2 (by omega) above
def FP(r:ě->Int)(a b:Array ě)(lo:Nat)(st:ģ)(f:ForInStep BA)(av:ģ):Prop:=av=st/\match f with
 |.done c=>lr r a b lo c.1 c.2.1 c.2.2.1 c.2.2.2.1
 |.yield c=>c.1=Ž/\lr r a b lo Ž c.2.1 c.2.2.1 c.2.2.2.1
theorem VL(S:fO prog w A s κ ah r)(hk:Ř st=κ)(T:fC r ah a b)(lst:∀j,j < b.size->R r b j < R r a (a.size - 1))(M:Mg r a b out ia ib)(h1:ia+1 < a.size)(h2:ib < b.size)(h3:lo<=ia+ib+1):
  wpS (Đ prog w) A E s (Fs a b mg (Ž,out,ia,ib,ac,bc)) (FP r a b lo st) st:=by
 unfold Fs;dsimp only;have(y,ey,my):=T.swap.at (i:=ib) h2;have(x,ex,mx):=T.at (i:=ia) (by omega);have rx:R r a ia=r x:=dU ex;have ry:R r b ib=r y:=dU ey;refine ď<|fV ey<|ď<|fV ex<|ď<|xY S hk my mx ?_
 by_cases c:r y < r x
 .rw[a5N c]
  dsimp only;rw[a5L rfl];refine ď<|fV ey ?_;have M1:=(M.swap.push ey T.sb λj j1 j2=>T.sa.up (À _) j1 j2 (by rw[rx];exact c)).swap
  by_cases c1:ib+1=b.size
  .rw[a5L (by simpa using c1)]
   exact Ĕ ⟨rfl,M1.done T.sa T.sb<|.inr c1⟩
  .rw[a5M (by simpa using c1)]
   have ok:lr r a b lo Ž (out.push y) ia (ib+1):=⟨M1,h1,by omega,by omega⟩;split
   .exact Ĕ ⟨rfl,ok⟩
   .exact Ĕ ⟨rfl,rfl,ok⟩
 .rw[a5O c]
  dsimp only;rw[a5M qf];refine ď<|fV ex ?_;have ne:=T.ne ia ib (by omega) h2;have M1:=M.push ex T.sa λj j1 j2=>T.sb.up (À _) j1 j2 (by omega)
  by_cases c1:ia+1+1=a.size
  .rw[a5L (by simpa using c1)]
   exact Ĕ ⟨rfl,M1.last T.sa T.sb c1 lst⟩
  .rw[a5M (by simpa using c1)]
   have ok:lr r a b lo Ž (out.push x) (ia+1) ib:=⟨M1,by omega,h2,by omega⟩;split
   .exact Ĕ ⟨rfl,ok⟩
   .exact Ĕ ⟨rfl,rfl,ok⟩
theorem VJ(S:fO prog w A s κ ah r)(hk:Ř st=κ)(T:fC r ah a b)(lst:∀j,j < b.size->R r b j < R r a (a.size - 1))(M:Mg r a b out ia ib)(h1:ia+1 < a.size)(h2:ib < b.size)(h3:lo<=ia+ib):
  wpS (Đ prog w) A E s (Fq a b (Ž,out,ia,ib,mg)) (λf av=>(∃g,av=eJ st g)/\match f with
   |.done c=>∃o,c.1=ž o/\jk r a b o
   |.yield c=>c.1=Ž/\lr r a b (lo+1) Ž c.2.1 c.2.2.1 c.2.2.2.1) st:=by
 unfold Fq;dsimp only;refine ď<|ŗ (ń (I:=λx c av=>av=st/\c.1=Ž/\lr r a b (lo+min x 1) Ž c.2.1 c.2.2.1 c.2.2.2.1) (Q:=λc av=>av=st/\lr r a b (lo+1) c.1 c.2.1 c.2.2.1 c.2.2.2.1) ?step ?fin ⟨rfl,rfl,M,h1,h2,h3⟩) ?post
 case fin=>
  rintro⟨c,c1,c2,c3,c4,c5⟩ av ⟨iI,e,hc⟩;have e':c=Ž:=e;have gR:lr r a b (lo+min (max 0<|a.size+b.size) 1) Ž c1 c2 c3:=hc;rw[show min (max 0<|a.size+b.size) 1=1 by omega]at gR;subst e';exact⟨iI,gR⟩
 case step=>
  rintro x ⟨c,c1,c2,c3,c4,c5⟩ av _ hx ⟨rfl,e,hc⟩;dsimp only at e hc;subst e;have(q1,q2,q3,q4):=hc;refine ŗ (VL (lo:=lo+1) S hk T lst q1 q2 q3 (by omega)) λf bU hf=>?_;have(rfl,hf):=hf;cases f with
  |done d=>exact⟨rfl,hf⟩
  |yield d=>
   refine⟨rfl,hf.1,?_⟩;rw[show min (x+1) 1=1 by omega];exact hf.2
 case post=>
  rintro⟨d,d1,d2,d3,d4,d5⟩ av ⟨rfl,hd⟩;unfold Si;dsimp only at hd ⊢;cases d with
  |some o=>exact Ĕ ⟨⟨ř av,rfl⟩,o,rfl,hd⟩
  |none=>
   dsimp only;refine ď<|a1J<|ũ ⟨rfl,?_⟩;refine ď<|ŗ (ń (I:=λx c bU=>(∃g,bU=eJ av g)/\c.1=Ž/\lr r a b (lo+1) Ž c.2.1 c.2.2.1 c.2.2.2.1) (Q:=λc bU=>(∃g,bU=eJ av g)/\lr r a b (lo+1) c.1 c.2.1 c.2.2.1 c.2.2.2.1) ?iT ?oq ⟨⟨ř av,rfl⟩,rfl,hd⟩) ?iV
   case oq=>
    rintro⟨c,c1,c2,c3,c4,c5⟩ bU ⟨hg,e,hc⟩;dsimp only at e hc ⊢;subst e;exact⟨hg,hc⟩
   case iT=>
    rintro x ⟨c,c1,c2,c3,c4,c5,c6⟩ bU _ hx ⟨⟨g,rfl⟩,e,hc⟩;dsimp only at e hc ⊢;have(q1,q2,q3,q4):=hc;split
    all_goals
     refine ŗ (VM (st:=eJ av g) (lo:=lo+1) S hk T lst q1 q2 q3 q4) λf nO hf=>?_;obtain⟨⟨g',rfl⟩,hf⟩:=hf;cases f with
     |done d=>exact⟨⟨g',rfl⟩,hf⟩
     |yield d=>exact⟨⟨g',rfl⟩,hf⟩
   case iV=>
    rintro⟨e,e1,e2,e3,e4,e5,e6⟩ bU ⟨⟨g,rfl⟩,he⟩;dsimp only at he ⊢;cases e with
    |some o=>exact Ĕ ⟨⟨g,rfl⟩,o,rfl,he⟩
    |none=>
     dsimp only;rw[DX];exact ď<|Ŷ<|Ĕ ⟨⟨_,rfl⟩,rfl,he⟩
theorem zqd{Q:Array ě->ģ->Prop}(S:fO prog w A s κ ah r)(hk:Ř st=κ)(T:fC r ah a b)(a1:1<=a.size)(b1:1<=b.size)(first:R r b 0 < R r a 0)(lst:∀j,j < b.size->R r b j < R r a (a.size - 1))
  (h:∀o g,jk r a b o->Q o (eJ st g)):wpS (Đ prog w) A E s (HQ a b) Q st:=by
 rw[zlI];refine ď<|a1J<|ũ ⟨rfl,?_⟩;have(x0,e0,m0):=T.swap.at (i:=0) (by omega);refine ď<|fV e0 ?_;have M0:Mg r a b #[x0] 0 1:=by
  have:Mg r b a #[] 0 0:=⟨À _,À _,by simp,by simp,λx hx=>by simp at hx,λx hx=>by simp at hx⟩;exact(this.push e0 T.sb λj h1 h2=>by
   rw[<-dU (r:=r) e0];exact T.sa.up (À _) h1 h2 first).swap
 by_cases c1:1=b.size
 .rw[a5L (by simpa using c1)]
  exact Ĕ<|h _ (ř st)<|M0.done T.sa T.sb<|.inr c1
 rw[a5M (by simpa using c1)]
 by_cases c2:0+1=a.size
 .rw[a5L (by simpa using c2)]
  exact Ĕ<|h _ (ř st)<|M0.last T.sa T.sb c2 lst
 rw[a5M (by simpa using c2)];refine ď<|π ?_;refine ď<|ŗ (ń (I:=λx c av=>(∃g,av=eJ st g)/\c.1=Ž/\lr r a b (x+1) Ž c.2.1 c.2.2.1 c.2.2.2.1) (Q:=λc av=>(∃g,av=eJ st g)/\∃o,c.1=ž o/\jk r a b o) ?step ?fin ⟨⟨ř st,rfl⟩,rfl,M0,by show 0+1 < a.size;omega,by show 1 < b.size;omega,by show 0+1<=0+1;omega⟩) ?post
 case fin=>
  rintro⟨c,c1,c2,c3,c4⟩ av ⟨_,_,_,q2,q3,q4⟩;dsimp only at q2 q3 q4;omega
 case step=>
  rintro x ⟨c,c1,c2,c3,c4⟩ av _ hx ⟨⟨g,rfl⟩,e,q1,q2,q3,q4⟩;dsimp only at e q1 q2 q3 q4;subst e;refine ŗ (VJ (st:=eJ st g) S hk T lst q1 q2 q3 q4) λf nO hf=>?_;obtain⟨⟨g',rfl⟩,hf⟩:=hf;cases f with
  |done d=>exact⟨⟨g',rfl⟩,hf⟩
  |yield d=>exact⟨⟨g',rfl⟩,hf⟩
 case post=>
  rintro⟨c,c1⟩ av ⟨⟨g,rfl⟩,o,e,ho⟩;dsimp only at e;subst e;exact Ĕ<|h o g ho
end
def lI(a b:Array ě)(out:Array ě)(na nb:Nat):Array ě:=a.extract 0 na++b.extract 0 nb++out.reverse
def yr(a b:Array ě)(out:Array ě)(na nb:Nat):Array ě:=b.extract 0 nb++a.extract 0 na++out.reverse
noncomputable def Ig:Array ě->Array ě->StateT ģ Sem (Array ě):=sortPriv% PySem.Builtin.mergeHi
section
variable{a b out:Array ě}{na nb:Nat}
structure Hg (r:ě->Int) (a b out:Array ě) (na nb:Nat):Prop where
 la:na<=a.size
 lb:nb<=b.size
 perm:out.toList.Perm (a.toList.drop na++b.toList.drop nb)
 up:out.toList.Pairwise λx y=>r y < r x
 ba:∀x∈out.toList,∀j,j < na->R r a j < r x
 bb:∀x∈out.toList,∀j,j < nb->R r b j < r x
theorem Hg.swap(h:Hg r a b out na nb):Hg r b a out nb na:=⟨h.lb,h.la,h.perm.trans Ā,h.up,h.bb,h.ba⟩
theorem Hg.push{x:ě}(h:Hg r a b out na nb)(sa:Seg r a 0 a.size)(h1:1<=na)(ex:a[na - 1]?=ž x)(hb:∀j,j < nb->R r b j < r x):Hg r a b (out.push x) (na - 1) nb:=by
 have(p,rfl):=Nat.exists_eq_add_of_le' h1;rw[ŏ]at ex ⊢;have rx:R r a p=r x:=dU ex;have(hp,e):=Ê.mp ex;refine⟨â hp,h.lb,?_,?_,λy hy j j1=>?_,λy hy j j1=>?_⟩
 .rw[ň,Ţ (by simpa using hp)]
  have e2:a.toList[p]=x:=by simpa using e
  rw[e2];exact Ā.trans<|h.perm.cons x
 .rw[ň]
  refine ą.mpr ⟨h.up,a3y _ _,λy hy z hz=>?_⟩;rw[qp.mp hz,<-rx];exact h.ba y hy p<|ê _
 .rw[ň]at hy
  rcases È.mp hy with hy|hy
  .exact h.ba y hy j (è j1)
  .rw[qp.mp hy,<-rx]
   exact sa j p (À _) j1 hp
 .rw[ň]at hy
  rcases È.mp hy with hy|hy
  .exact h.bb y hy j j1
  .rw[qp.mp hy]
   exact hb j j1
theorem Hg.KS{c:Nat}(sa:Seg r a 0 a.size):∀{k:Nat} {out:Array ě},Hg r a b out (c+k) nb->(∀i,c<=i->i < c+k->∀j,j < nb->R r b j < R r a i)->Hg r a b (out++(a.extract c<|c+k).reverse) c nb:=λ{k}=>by
 induction k with
 |zero=>
  intro out h _;have e:out++(a.extract c<|c+0).reverse=out:=by
   apply ă;simp
  rw[e];exact h
 |succ k ih=>
  intro out h hb;have hi:c+k < a.size:=h.la;have ex:a[c+k]?=ž a[c+k]:=getElem?_pos a _ hi;have h1:=h.push sa (a1g 1 _) ex λj j1=>by
   rw[<-dU (r:=r) ex];exact hb (c+k) (Ç _ _) (ê _) j j1
  have e:out++(a.extract c<|c+(k+1)).reverse=out.push a[c+k]++(a.extract c<|c+k).reverse:=by
   apply ă;rw[ϩ,ϩ,ň,a1j,a1j,ϝ,ϝ,ŵ,ŵ,ŀ,ŀ,
    a1X (by rw[ť,Ġ];omega),List.reverse_append,List.getElem_drop,Ķ]
   rfl
  rw[e];exact ih h1 λi i1 i2=>hb i i1<|è i2
theorem Hg.app{c:Nat}(h:Hg r a b out na nb)(sa:Seg r a 0 a.size)(hc:c<=na)(hb:∀i,c<=i->i < na->∀j,j < nb->R r b j < R r a i):Hg r a b (out++(a.extract c na).reverse) c nb:=by
 have(k,rfl):=Ñ hc;exact Hg.KS sa h hb
theorem Hg.fin(h:Hg r a b out 0 0):jk r a b out.reverse:=by
 unfold jk;rw[a1j,List.pairwise_reverse];exact⟨(List.reverse_perm _).trans h.perm,h.up⟩
theorem Hg.done(h:Hg r a b out na nb)(sa:Seg r a 0 a.size)(sb:Seg r b 0 b.size)(c:na=0\/nb=0):jk r a b (lI a b out na nb):=by
 have no:∀{j:Nat} {P:Prop},j < 0->P:=λh=>absurd h<|ν _;rcases c with rfl|rfl
 .have h1:=(h.swap.app sb (À _) λi _ _ j=>no).swap.fin
  rw[δ,Κ]at h1;have e:lI a b out 0 nb=b.extract 0 nb++out.reverse:=by
   unfold lI;rw[a4H,Array.empty_append]
  rw[e];exact h1
 .have h1:=(h.app sa (À _) λi _ _ j=>no).fin
  rw[δ,Κ]at h1;have e:lI a b out na 0=a.extract 0 na++out.reverse:=by
   unfold lI;rw[a4H,a0e]
  rw[e];exact h1
theorem Hg.first(h:Hg r a b out na nb)(sa:Seg r a 0 a.size)(sb:Seg r b 0 b.size)(c:nb=1)(fst:∀j,j < a.size->R r b 0 < R r a j):jk r a b (yr a b out na nb):=by
 have la:=h.la;subst c;have h1:=h.app sa (À _) λi _ i2 j j1=>by
  cases Nat.lt_one_iff.mp j1;exact fst i<|qi i2 la
 have h2:=(h1.swap.app sb (À _) λi _ _ j j1=>absurd j1<|ν _).swap.fin;rw[δ,δ,Κ,Κ,<-a4I]at h2;exact h2
end
abbrev xF:=Qb (Array ě)×Nat×Nat×Array ě×Nat×Nat×Nat
abbrev BB:=Qb (Array ě)×Nat×Nat×Array ě×Nat×Nat
abbrev Bv:=Qb (Array ě)×Nat×Nat×Array ě×Nat
noncomputable def EL(a b out:Array ě)(na nb mg ac bc:Nat):StateT ģ Sem (ForInStep xF):=
 ϱ a (na - 1) >>= λx=>
 (if(na - 1==0)=ż then pure (.done (ž<|lI a b (out.push x) (na - 1) nb,na - 1,nb,out.push x,mg,ac,bc))
 else(if(decide (ac < 7) && decide (bc < 7))=ż then pure (.done (Ž,na - 1,nb,out.push x,mg,ac,bc))
 else pure (.yield (Ž,na - 1,nb,out.push x,mg,ac,bc))))
noncomputable def EM(a b out:Array ě)(na nb mg ac bc:Nat):StateT ģ Sem (ForInStep xF):=
 ϱ b (nb - 1) >>= λy=>
 (if(nb - 1==1)=ż then pure (.done (ž<|yr a b (out.push y) na<|nb - 1,na,nb - 1,out.push y,mg,ac,bc))
 else(ϱ a (na - 1) >>= λx=>qE ż x b 0 (nb - 1) (nb - 1 - 1) >>= λji=>
  (match ji with
  |some k=>(if nb - 1 - k > 0 then
    (if(k==1)=ż then pure (.done (ž<|yr a b (out.push y++(b.extract k<|nb - 1).reverse) na k,na,k,out.push y++(b.extract k<|nb - 1).reverse,mg,ac,nb - 1 - k))
    else(if(k==0)=ż then pure (.done (ž<|lI a b (out.push y++(b.extract k<|nb - 1).reverse) na k,na,k,out.push y++(b.extract k<|nb - 1).reverse,mg,ac,nb - 1 - k))
    else EL a b (out.push y++(b.extract k<|nb - 1).reverse) na k mg ac (nb - 1 - k)))
   else EL a b (out.push y) na (nb - 1) mg ac (nb - 1 - k))
  |_=>pure<|.done (ž<|lI a b (out.push y) na<|nb - 1,na,nb - 1,out.push y,mg,ac,bc))))
noncomputable def EN(a b out:Array ě)(na nb mg ac bc:Nat):StateT ģ Sem (ForInStep xF):=
 Ab mg >>= λ_=>ϱ b (nb - 1) >>= λy=>qE Ż y a 0 na (na - 1) >>= λji=>
 (match ji with
 |some k=>(if na - k > 0 then
   (if(k==0)=ż then pure (.done (ž<|lI a b (out++(a.extract k na).reverse) k nb,k,nb,out++(a.extract k na).reverse,mg,na - k,bc))
   else EM a b (out++(a.extract k na).reverse) k nb mg (na - k) bc)
  else EM a b out na nb mg (na - k) bc)
 |_=>pure<|.done (ž<|lI a b out na nb,na,nb,out,mg,ac,bc))
noncomputable def KE(a b:Array ě)(mg:Nat)(c:BB):StateT ģ Sem (ForInStep BB):=
 ϱ b (c.snd.snd.fst - 1) >>= λy=>ϱ a (c.snd.fst - 1) >>= λx=>lt' y x >>= λji=>
 (match ji with
 |some Bt=>(if Bt=ż then(ϱ a (c.snd.fst - 1) >>= λx=>
   (if(c.snd.fst - 1==0)=ż then pure (.done (ž<|lI a b (c.snd.snd.snd.fst.push x) (c.snd.fst - 1) c.snd.snd.fst,c.snd.fst - 1,c.snd.snd.fst,c.snd.snd.snd.fst.push x,c.snd.snd.snd.snd.fst+1,0))
   else(if c.snd.snd.snd.snd.fst+1>=mg then pure (.done (Ž,c.snd.fst - 1,c.snd.snd.fst,c.snd.snd.snd.fst.push x,c.snd.snd.snd.snd.fst+1,0))
   else pure (.yield (Ž,c.snd.fst - 1,c.snd.snd.fst,c.snd.snd.snd.fst.push x,c.snd.snd.snd.snd.fst+1,0)))))
  else(ϱ b (c.snd.snd.fst - 1) >>= λy=>
   (if(c.snd.snd.fst - 1==1)=ż then pure (.done (ž<|yr a b (c.snd.snd.snd.fst.push y) c.snd.fst<|c.snd.snd.fst - 1,c.snd.fst,c.snd.snd.fst - 1,c.snd.snd.snd.fst.push y,0,c.snd.snd.snd.snd.snd+1))
   else(if c.snd.snd.snd.snd.snd+1>=mg then pure (.done (Ž,c.snd.fst,c.snd.snd.fst - 1,c.snd.snd.snd.fst.push y,0,c.snd.snd.snd.snd.snd+1))
   else pure (.yield (Ž,c.snd.fst,c.snd.snd.fst - 1,c.snd.snd.snd.fst.push y,0,c.snd.snd.snd.snd.snd+1))))))
 |_=>pure<|.done (ž<|lI a b c.snd.snd.snd.fst c.snd.fst c.snd.snd.fst,c.snd.fst,c.snd.snd.fst,c.snd.snd.snd.fst,c.snd.snd.snd.snd.fst,c.snd.snd.snd.snd.snd))
noncomputable def S7(a b:Array ě)(c:Bv)(d:BB):StateT ģ Sem (ForInStep Bv):=
 (match d.fst with
 |some r=>pure<|.done (ž r,d.snd.fst,d.snd.snd.fst,d.snd.snd.snd.fst,c.snd.snd.snd.snd)
 |none=>(liftM (rule "list.sort.gallop") >>= λ(_:Unit)=>
  forIn [0:a.size+b.size] ((Ž,d.snd.fst,d.snd.snd.fst,d.snd.snd.snd.fst,c.snd.snd.snd.snd+1,d.snd.snd.snd.snd.fst,d.snd.snd.snd.snd.snd):xF) (λ_ e=>
   (if e.snd.snd.snd.snd.fst > 1 then EN a b e.snd.snd.snd.fst e.snd.fst e.snd.snd.fst (e.snd.snd.snd.snd.fst - 1) e.snd.snd.snd.snd.snd.fst e.snd.snd.snd.snd.snd.snd
   else EN a b e.snd.snd.snd.fst e.snd.fst e.snd.snd.fst e.snd.snd.snd.snd.fst e.snd.snd.snd.snd.snd.fst e.snd.snd.snd.snd.snd.snd)) >>= λe=>
  (match e.fst with
  |some r=>pure<|.done (ž r,e.snd.fst,e.snd.snd.fst,e.snd.snd.snd.fst,e.snd.snd.snd.snd.fst)
  |none=>(Ab (e.snd.snd.snd.snd.fst+1) >>= λ_=>pure<|.yield (Ž,e.snd.fst,e.snd.snd.fst,e.snd.snd.snd.fst,e.snd.snd.snd.snd.fst+1)))))
noncomputable def Jo(a b:Array ě)(c:Bv):StateT ģ Sem (ForInStep Bv):=
 forIn [0:a.size+b.size] ((Ž,c.snd.fst,c.snd.snd.fst,c.snd.snd.snd.fst,0,0):BB) (λ_ d=>KE a b c.snd.snd.snd.snd d) >>= S7 a b c
theorem zlJ(a b:Array ě):Ig a b=(do
 liftM (rule "list.sort.merge-hi")
 let x <-ϱ a (a.size - 1)
 if(a.size - 1==0)=ż then pure (lI a b #[x] (a.size - 1) b.size)
 else if(b.size==1)=ż then pure (yr a b #[x] (a.size - 1) b.size)
 else do
  let st <-get
  let c <-forIn [0:a.size+b.size] ((Ž,a.size - 1,b.size,#[x],ř st):Bv) λ_ c=>Jo a b c
  match c.fst with
  |some r=>pure r
  |none=>unsupported "internal:list.sort.merge-bound"):=by kernel_rfl
def kH(r:ě->Int)(a b:Array ě)(lo:Nat)(o:Qb (Array ě))(out:Array ě)(na nb:Nat):Prop:=match o with
 |some o=>jk r a b o
 |none=>Hg r a b out na nb/\1<=na/\2<=nb/\na+nb+lo<=a.size+b.size
def HP(r:ě->Int)(a b:Array ě)(lo:Nat)(st:ģ)(f:ForInStep xF)(av:ģ):Prop:=(∃g,av=eJ st g)/\match f with
 |.done c=>kH r a b lo c.1 c.2.2.2.1 c.2.1 c.2.2.1
 |.yield c=>c.1=Ž/\kH r a b lo Ž c.2.2.2.1 c.2.1 c.2.2.1
section
variable{s:Qd}{st:ģ}{a b out:Array ě}{na nb mg ac bc lo:Nat}
theorem LD(T:fC r ah a b)(M:Hg r a b out na nb)(h1:1<=na)(h2:2<=nb)(h3:na+nb+lo<=a.size+b.size+1)(hx:∀j,j < nb->R r b j < R r a (na - 1)):
  wpS (Đ prog w) A E s (EL a b out na nb mg ac bc) (HP r a b lo st) st:=by
 have la:=M.la;unfold EL;have(x,ex,mx):=T.at (i:=na - 1) (by omega);refine ď<|fV ex ?_;have M1:=M.push T.sa h1 ex λj j1=>by
  rw[<-dU (r:=r) ex];exact hx j j1
 by_cases c:na - 1=0
 .rw[a5L (by simpa using c)]
  exact Ĕ ⟨⟨ř st,rfl⟩,M1.done T.sa T.sb<|.inl c⟩
 .rw[a5M (by simpa using c)]
  have ok:kH r a b lo Ž (out.push x) (na - 1) nb:=⟨M1,by omega,h2,by omega⟩;split
  .exact Ĕ ⟨⟨ř st,rfl⟩,ok⟩
  .exact Ĕ ⟨⟨ř st,rfl⟩,rfl,ok⟩
theorem LB(S:fO prog w A s κ ah r)(hk:Ř st=κ)(T:fC r ah a b)(fst:∀j,j < a.size->R r b 0 < R r a j)(M:Hg r a b out na nb)(h1:1<=na)(h2:2<=nb)(h3:na+nb+lo<=a.size+b.size+1)(hy:∀j,j < na->R r a j < R r b (nb - 1)):
  wpS (Đ prog w) A E s (EM a b out na nb mg ac bc) (HP r a b lo st) st:=by
 have la:=M.la;have lb:=M.lb;unfold EM;have(y,ey,my):=T.swap.at (i:=nb - 1) (by omega);refine ď<|fV ey ?_;have M1:=(M.swap.push T.sb (by omega) ey λj j1=>by
  rw[<-dU (r:=r) ey];exact hy j j1).swap
 by_cases c:nb - 1=1
 .rw[a5L (by simpa using c)]
  exact Ĕ ⟨⟨ř st,rfl⟩,M1.first T.sa T.sb c fst⟩
 .rw[a5M (by simpa using c)]
  have(x,ex,mx):=T.at (i:=na - 1) (by omega);have rx:R r a (na - 1)=r x:=dU ex;refine ď<|fV ex<|ď<|wF (e:=nb - 1) S hk mx (Š _) (λq _ q2=>T.swap.at (by omega)) (λi j _ i2 i3=>T.sb i j (À _) i2 (by omega)) (λq _ q2 z=>T.ne (na - 1) q (by omega) (by omega)<|rx.trans z.symm) (by omega) λk k1 below above=>?_;rw[<-rx,Š]at below above;replace below:=λq=>below q<|À _
  .dsimp only
   by_cases kp:nb - 1 - k > 0
   .rw[a5L kp]
    have M2:=(M1.swap.app T.sb (c:=k) (by omega) λi i1 i2 j j1=>T.sa.dn (À _) (Ć j1) (by omega)<|above i i1 i2).swap
    by_cases c2:k=1
    .rw[a5L (by simpa using c2)]
     exact Ĕ ⟨⟨ř st,rfl⟩,M2.first T.sa T.sb c2 fst⟩
    .rw[a5M (by simpa using c2)]
     by_cases c3:k=0
     .rw[a5L (by simpa using c3)]
      exact Ĕ ⟨⟨ř st,rfl⟩,M2.done T.sa T.sb<|.inr c3⟩
     .rw[a5M (by simpa using c3)]
      exact LD T M2 h1 (by omega) (by omega) below
   .rw[a5M kp]
    have k0:k=nb - 1:=by omega
    subst k0;exact LD T M1 h1 (by omega) (by omega) below
theorem zCi(S:fO prog w A s κ ah r)(hk:Ř st=κ)(T:fC r ah a b)(fst:∀j,j < a.size->R r b 0 < R r a j)(M:Hg r a b out na nb)(h1:1<=na)(h2:2<=nb)(h3:na+nb+lo<=a.size+b.size):
  wpS (Đ prog w) A E s (EN a b out na nb mg ac bc) (HP r a b lo st) st:=by
 have la:=M.la;have lb:=M.lb;unfold EN;rw[DX];refine ď<|Ŷ ?_;have(y,ey,my):=T.swap.at (i:=nb - 1) (by omega);have ry:R r b (nb - 1)=r y:=dU ey;refine ď<|fV ey<|ď<|wF (st:=eJ st mg) (e:=na) S hk my (Š _) (λq _ q2=>T.at (by omega)) (λi j _ i2 i3=>T.sa i j (À _) i2 (by omega)) (λq _ q2 z=>T.ne q (nb - 1) (by omega) (by omega)<|z.trans ry.symm) (by omega) λk k1 below above=>?_;rw[<-ry,Š]at below above;replace below:=λq=>below q<|À _
 .dsimp only
  have gp:∀{m:StateT ģ Sem (ForInStep xF)},wpS (Đ prog w) A E s m (HP r a b lo<|eJ st mg) (eJ st mg)->wpS (Đ prog w) A E s m (HP r a b lo st) (eJ st mg):=λh=>ŗ h λc av hc=>by
   obtain⟨⟨g,rfl⟩,hc⟩:=hc;exact⟨⟨g,rfl⟩,hc⟩
  by_cases kp:na - k > 0
  .rw[a5L kp]
   have M1:=M.app T.sa (c:=k) (by omega) λi i1 i2 j j1=>T.sb.dn (À _) (Ć j1) (by omega)<|above i i1 i2
   by_cases c1:k=0
   .rw[a5L (by simpa using c1)]
    exact Ĕ ⟨⟨mg,rfl⟩,M1.done T.sa T.sb<|.inl c1⟩
   .rw[a5M (by simpa using c1)]
    exact gp<|LB S hk T fst M1 (by omega) h2 (by omega) below
  .rw[a5M kp]
   have k0:k=na:=by omega
   subst k0;exact gp<|LB S hk T fst M h1 h2 (by omega) below
def FH(r:ě->Int)(a b:Array ě)(lo:Nat)(st:ģ)(f:ForInStep BB)(av:ģ):Prop:=av=st/\match f with
 |.done c=>kH r a b lo c.1 c.2.2.2.1 c.2.1 c.2.2.1
 |.yield c=>c.1=Ž/\kH r a b lo Ž c.2.2.2.1 c.2.1 c.2.2.1
theorem zCj(S:fO prog w A s κ ah r)(hk:Ř st=κ)(T:fC r ah a b)(fst:∀j,j < a.size->R r b 0 < R r a j)(M:Hg r a b out na nb)(h1:1<=na)(h2:2<=nb)(h3:na+nb+lo<=a.size+b.size+1):
  wpS (Đ prog w) A E s (KE a b mg (Ž,na,nb,out,ac,bc)) (FH r a b lo st) st:=by
 have la:=M.la;have lb:=M.lb;unfold KE;dsimp only;have(y,ey,my):=T.swap.at (i:=nb - 1) (by omega);have(x,ex,mx):=T.at (i:=na - 1) (by omega);have rx:R r a (na - 1)=r x:=dU ex;have ry:R r b (nb - 1)=r y:=dU ey;refine ď<|fV ey<|ď<|fV ex<|ď<|xY S hk my mx ?_
 by_cases c:r y < r x
 .rw[a5N c]
  dsimp only;rw[a5L rfl];refine ď<|fV ex ?_;have M1:=M.push T.sa h1 ex λj j1=>T.sb.dn (À _) (Ć j1) (by omega) (by rw[ry];exact c)
  by_cases c1:na - 1=0
  .rw[a5L (by simpa using c1)]
   exact Ĕ ⟨rfl,M1.done T.sa T.sb<|.inl c1⟩
  .rw[a5M (by simpa using c1)]
   have ok:kH r a b lo Ž (out.push x) (na - 1) nb:=⟨M1,by omega,h2,by omega⟩;split
   .exact Ĕ ⟨rfl,ok⟩
   .exact Ĕ ⟨rfl,rfl,ok⟩
 .rw[a5O c]
  dsimp only;rw[a5M qf];refine ď<|fV ey ?_;have ne:=T.ne (na - 1) (nb - 1) (by omega) (by omega);have M1:=(M.swap.push T.sb (by omega) ey λj j1=>T.sa.dn (À _) (Ć j1) (by omega) (by omega)).swap
  by_cases c1:nb - 1=1
  .rw[a5L (by simpa using c1)]
   exact Ĕ ⟨rfl,M1.first T.sa T.sb c1 fst⟩
  .rw[a5M (by simpa using c1)]
   have ok:kH r a b lo Ž (out.push y) na (nb - 1):=⟨M1,h1,by omega,by omega⟩;split
   .exact Ĕ ⟨rfl,ok⟩
   .exact Ĕ ⟨rfl,rfl,ok⟩
theorem zCk(S:fO prog w A s κ ah r)(hk:Ř st=κ)(T:fC r ah a b)(fst:∀j,j < a.size->R r b 0 < R r a j)(M:Hg r a b out na nb)(h1:1<=na)(h2:2<=nb)(h3:na+nb+lo<=a.size+b.size):
  wpS (Đ prog w) A E s (Jo a b (Ž,na,nb,out,mg)) (λf av=>(∃g,av=eJ st g)/\match f with
   |.done c=>∃o,c.1=ž o/\jk r a b o
   |.yield c=>c.1=Ž/\kH r a b (lo+1) Ž c.2.2.2.1 c.2.1 c.2.2.1) st:=by
 have la:=M.la;have lb:=M.lb;unfold Jo;dsimp only;refine ď<|ŗ (ń (I:=λx c av=>av=st/\c.1=Ž/\kH r a b (lo+min x 1) Ž c.2.2.2.1 c.2.1 c.2.2.1) (Q:=λc av=>av=st/\kH r a b (lo+1) c.1 c.2.2.2.1 c.2.1 c.2.2.1) ?step ?fin ⟨rfl,rfl,M,h1,h2,h3⟩) ?post
 case fin=>
  rintro⟨c,c1,c2,c3,c4,c5⟩ av ⟨iI,e,hc⟩;have e':c=Ž:=e;have gR:kH r a b (lo+min (max 0<|a.size+b.size) 1) Ž c3 c1 c2:=hc;rw[show min (max 0<|a.size+b.size) 1=1 by omega]at gR;subst e';exact⟨iI,gR⟩
 case step=>
  rintro x ⟨c,c1,c2,c3,c4,c5⟩ av _ hx ⟨rfl,e,hc⟩;dsimp only at e hc;subst e;have(q1,q2,q3,q4):=hc;refine ŗ (zCj (lo:=lo+1) S hk T fst q1 q2 q3 (by omega)) λf bU hf=>?_;have(rfl,hf):=hf;cases f with
  |done d=>exact⟨rfl,hf⟩
  |yield d=>
   refine⟨rfl,hf.1,?_⟩;rw[show min (x+1) 1=1 by omega];exact hf.2
 case post=>
  rintro⟨d,d1,d2,d3,d4,d5⟩ av ⟨rfl,hd⟩;unfold S7;dsimp only at hd ⊢;cases d with
  |some o=>exact Ĕ ⟨⟨ř av,rfl⟩,o,rfl,hd⟩
  |none=>
   dsimp only;refine ď<|a1J<|ũ ⟨rfl,?_⟩;refine ď<|ŗ (ń (I:=λx c bU=>(∃g,bU=eJ av g)/\c.1=Ž/\kH r a b (lo+1) Ž c.2.2.2.1 c.2.1 c.2.2.1) (Q:=λc bU=>(∃g,bU=eJ av g)/\kH r a b (lo+1) c.1 c.2.2.2.1 c.2.1 c.2.2.1) ?iT ?oq ⟨⟨ř av,rfl⟩,rfl,hd⟩) ?iV
   case oq=>
    rintro⟨c,c1,c2,c3,c4,c5⟩ bU ⟨hg,e,hc⟩;dsimp only at e hc ⊢;subst e;exact⟨hg,hc⟩
   case iT=>
    rintro x ⟨c,c1,c2,c3,c4,c5,c6⟩ bU _ hx ⟨⟨g,rfl⟩,e,hc⟩;dsimp only at e hc ⊢;have(q1,q2,q3,q4):=hc;split
    all_goals
     refine ŗ (zCi (st:=eJ av g) (lo:=lo+1) S hk T fst q1 q2 q3 q4) λf nO hf=>?_;obtain⟨⟨g',rfl⟩,hf⟩:=hf;cases f with
     |done d=>exact⟨⟨g',rfl⟩,hf⟩
     |yield d=>exact⟨⟨g',rfl⟩,hf⟩
   case iV=>
    rintro⟨e,e1,e2,e3,e4,e5,e6⟩ bU ⟨⟨g,rfl⟩,he⟩;dsimp only at he ⊢;cases e with
    |some o=>exact Ĕ ⟨⟨g,rfl⟩,o,rfl,he⟩
    |none=>
     dsimp only;rw[DX];exact ď<|Ŷ<|Ĕ ⟨⟨_,rfl⟩,rfl,he⟩
theorem zqe{Q:Array ě->ģ->Prop}(S:fO prog w A s κ ah r)(hk:Ř st=κ)(T:fC r ah a b)(a1:1<=a.size)(b1:1<=b.size)(fst:∀j,j < a.size->R r b 0 < R r a j)(lst:∀j,j < b.size->R r b j < R r a (a.size - 1))
  (h:∀o g,jk r a b o->Q o (eJ st g)):wpS (Đ prog w) A E s (Ig a b) Q st:=by
 rw[zlJ];refine ď<|a1J<|ũ ⟨rfl,?_⟩;have(x0,e0,m0):=T.at (i:=a.size - 1) (by omega);refine ď<|fV e0 ?_;have M0:Hg r a b #[x0] (a.size - 1) b.size:=by
  have:Hg r a b #[] a.size b.size:=⟨qe _,qe _,by simp,.nil,λx hx=>by simp at hx,λx hx=>by simp at hx⟩;exact this.push T.sa a1 e0 λj j1=>by
   rw[<-dU (r:=r) e0];exact lst j j1
 by_cases c1:a.size - 1=0
 .rw[a5L (by simpa using c1)]
  exact Ĕ<|h _ (ř st)<|M0.done T.sa T.sb<|.inl c1
 rw[a5M (by simpa using c1)]
 by_cases c2:b.size=1
 .rw[a5L (by simpa using c2)]
  exact Ĕ<|h _ (ř st)<|M0.first T.sa T.sb c2 fst
 rw[a5M (by simpa using c2)];refine ď<|π ?_;refine ď<|ŗ (ń (I:=λx c av=>(∃g,av=eJ st g)/\c.1=Ž/\kH r a b (x+1) Ž c.2.2.2.1 c.2.1 c.2.2.1) (Q:=λc av=>(∃g,av=eJ st g)/\∃o,c.1=ž o/\jk r a b o) ?step ?fin ⟨⟨ř st,rfl⟩,rfl,M0,by show 1<=a.size - 1;omega,by show 2<=b.size;omega,by show a.size - 1+b.size+(0+1)<=a.size+b.size;omega⟩) ?post
 case fin=>
  rintro⟨c,c1,c2,c3,c4⟩ av ⟨_,_,_,q2,q3,q4⟩;dsimp only at q2 q3 q4;omega
 case step=>
  rintro x ⟨c,c1,c2,c3,c4⟩ av _ hx ⟨⟨g,rfl⟩,e,q1,q2,q3,q4⟩;dsimp only at e q1 q2 q3 q4;subst e;refine ŗ (zCk (st:=eJ st g) S hk T fst q1 q2 q3 q4) λf nO hf=>?_;obtain⟨⟨g',rfl⟩,hf⟩:=hf;cases f with
  |done d=>exact⟨⟨g',rfl⟩,hf⟩
  |yield d=>exact⟨⟨g',rfl⟩,hf⟩
 case post=>
  rintro⟨c,c1⟩ av ⟨⟨g,rfl⟩,o,e,ho⟩;dsimp only at e;subst e;exact Ĕ<|h o g ho
end
theorem Ym{σ:Type}{M:a2O}{s:Qd}{x:σ}{Q:PUnit->σ->Prop}{st:σ}(h:Q ⟨⟩ x):wpS M A E s (set x:StateT σ Sem PUnit) Q st:=by
 unfold wpS;rw[StateT.run_set];exact qb ⟨rfl,h⟩
noncomputable def Cj(ms:Qa ě)(n s:Nat)(arr:Array ě):Array ě:=(ms.zipIdx n).foldl (λa (p,j)=>a.setIfInBounds (s+j) p) arr
theorem N4:∀{ms Z P S:Qa ě} {n s:Nat} {arr:Array ě},arr.toList=P++(Z++S)->P.length=s+n->Z.length=ms.length->(Cj ms n s arr).toList=P++(ms++S)
 |[],Z,P,S,n,s,arr,h,_,h2=>by
  rw[List.length_eq_zero_iff.mp h2]at h;exact h
 |m::ms,[],P,S,n,s,arr,h,_,h2=>by cases h2
 |m::ms,z::Z,P,S,n,s,arr,h,h1,h2=>by
  have e:=N4 (ms:=ms) (Z:=Z) (P:=P++[m]) (S:=S) (n:=n+1) (s:=s) (arr:=arr.setIfInBounds (s+n) m) (by
   rw[a2V,h,<-h1,a3Y _ _<|qe _,a3V,Ķ];rfl) (by rw[qr,h1];rfl) (ώ h2)
  rw[Ķ]at e;exact e
theorem zlK(i:Nat):mergeAt' i=(do
 let s <-get
 let (ž (sa,na,power),ž (sb,nb,_)):=((Ę s)[i]?,(Ę s)[i+1]?) |unsupported "internal:list.sort.pending"
 set (a3J s<|((Ę s).setIfInBounds i (sa,na+nb,power)).eraseIdxIfInBounds<|i+1)
 let ž k <-qE Ż (<-ϱ (Ğ s) sb) (Ğ s) sa na 0|return Ż
 let (sa,na):=(sa+k,na - k)
 if na==0 then return ż
 let ž nb <-qE ż (<-ϱ (Ğ s) (sa+na - 1)) (Ğ s) sb nb (nb - 1) |return Ż
 if nb==0 then return ż
 let x:=(Ğ s).extract sa sb
 let y:=(Ğ s).extract sb (sb+nb)
 let merged <-if na<=nb then HQ x y else Ig x y
 modify λs=>setArr s (Cj merged.toList 0 sa<|Ğ s)
 return (Ϻ<|<-get).isNone):=rfl
section
variable{s:Qd}{st:ģ}
variable{P Z X Y S o:Qa ě}{a b:Array ě}
theorem CV(h:a.toList=P++(Z++S))(hi:i < Z.length):a[P.length+i]?=ž Z[i]:=by
 rw[<-ů,h,ę<|ϧ _ _,ŀ,Ĝ hi,ql hi]
theorem YR{z:ě}(h:a.toList=P++(Z++S))(hz:z∈Z):∃q,P.length<=q/\q < P.length+Z.length/\R r a q=r z:=by
 have(i,hi,rfl):=a1t hz;exact⟨P.length+i,Ç _ _,Ù hi _,dU<|CV h hi⟩
theorem Pd(h:a.toList=P++(Z++S))(h':b.toList=P++(o++S))(e:o.length=Z.length){q:Nat}(hq:q < P.length\/P.length+Z.length<=q):b[q]?=a[q]?:=by
 rw[<-ů,<-ů,h,h'];rcases hq with c|c
 .rw[Ĝ c,Ĝ c]
 .have(k,rfl):=Ñ c
  rw[ş,ę<|ϧ _ _,ę<|ϧ _ _,ŀ,ę<|ϧ _ _,<-e,ę<|ϧ _ _]
theorem N2(h:a.toList=P++(X++S))(hi:P.length=i)(hj:i+X.length=j):(a.extract i j).toList=X:=by
 subst hi hj;rw[ϝ,ŵ,h,List.drop_left,ŀ,List.take_left]
theorem zC2{sa lo e:Nat}(hA:a.toList=P++(Z++S))(hB:b.toList=P++(o++S))(po:o.Perm Z)(uo:o.Pairwise λx y=>r x < r y)(lP:P.length=lo)(lE:lo+Z.length=hi)(l1:sa<=lo)(l2:hi<=e)
  (low:∀i q,sa<=i->i < lo->lo<=q->q < e->R r a i < R r a q) (high:∀q j,sa<=q->q < hi->hi<=j->j < e->R r a q < R r a j) (sL:Seg r a sa lo) (sH:Seg r a hi e):Seg r b sa e:=by
 subst lP lE;have uS:=po.length_eq;have out:=λ{q}=>Pd (q:=q) hA hB uS;have JD:∀q,P.length<=q->q < P.length+Z.length->∃q',P.length<=q'/\q' < P.length+Z.length/\R r b q=R r a q':=λq h1 h2=>by
  have(i,rfl):=Ñ h1;have hi:i < o.length:=by rw[uS];exact Þ h2
  have(q',g1,g2,g3):=YR (r:=r) hA (po.mem_iff.mp<|a2p hi);exact⟨q',g1,g2,(dU<|CV hB hi).trans g3.symm⟩
 intro i j h1 h2 h3;rcases Ó i P.length with a1|a1
 .rw[gM<|out<|.inl a1]
  rcases Ó j P.length with b1|b1
  .rw[gM<|out<|.inl b1];exact sL i j h1 h2 b1
  rcases Ó j (P.length+Z.length)with b2|b2
  .have(q',g1,g2,g3):=JD j b1 b2
   rw[g3];exact low i q' h1 a1 g1<|qi g2 l2
  .rw[gM<|out<|.inr b2];exact low i j h1 a1 b1 h3
 rcases Ó i (P.length+Z.length)with a2|a2
 .rcases Ó j (P.length+Z.length)with b2|b2
  .have(i,rfl):=Ñ a1
   have(j,rfl):=Ñ (qx a1<|â h2);have hi:i < o.length:=by rw[uS];exact Þ a2
   have hj:j < o.length:=by rw[uS];exact Þ b2
   rw[dU<|CV hB hi,dU<|CV hB hj];exact Ý.mp uo i j hi hj<|Þ h2
  .have(q',g1,g2,g3):=JD i a1 a2
   rw[g3,gM<|out<|.inr b2];exact high q' j (qx l1 g1) g2 b2 h3
 .have b2:=qx a2 (â h2)
  rw[gM<|out<|.inr a2,gM<|out<|.inr b2];exact sH i j a2 h2 h3
theorem zAa(l:Qa α){p:Nat}(h:p+n+m<=l.length):∃P X Y S,l=P++(X++(Y++S))/\P.length=p/\X.length=n/\Y.length=m :=
 ⟨l.take p,(l.drop p).take n,((l.drop p).drop n).take m,((l.drop p).drop n).drop m,by rw[ϗ,ϗ,ϗ],a0S (by omega),
  a0S (by rw[ť];omega),a0S (by rw[ť,ť];omega)⟩
theorem zqf{sa na pw sb nb Jg:Nat}{Q:Bool->ģ->Prop}(S:fO prog w A s κ ah r)(hB:SS κ ah st)(p1:(Ę st)[i]?=ž (sa,na,pw))(p2:(Ę st)[i+1]?=ž (sb,nb,Jg))(Ug:sb=sa+na)(na1:1<=na)(nb1:1<=nb)(hn:sb+nb<=ah.size)
  (s1:Seg r (Ğ st) sa sb) (s2:Seg r (Ğ st) sb (sb+nb))
  (h:∀av,(Ğ av).Perm (Ğ st)->(∀k,k < sa\/sb+nb<=k->(Ğ av)[k]?=(Ğ st)[k]?)->Ř av=Ř st->Ϻ av=Ϻ st->Ę av=((Ę st).setIfInBounds i (sa,na+nb,pw)).eraseIdxIfInBounds (i+1)->Seg r (Ğ av) sa (sb+nb)->Q ż av):wpS (Đ prog w) A E s (mergeAt' i) Q st:=by
 have hz:=hB.size;rw[zlK];refine ď<|π ?_;rw[p1,p2];dsimp only;refine ď<|Ym ?_;have(y,ey):=hB.at (i:=sb) (by omega);have ry:R r (Ğ st) sb=r y:=dU ey;have at_:∀{q},q < ah.size->∃x,(Ğ st)[q]?=ž x/\x∈ah.toList:=λhq=>by
  have(x,ex):=hB.at hq;exact⟨x,ex,hB.mem ex⟩
 refine ď<|fV ey<|ď<|wF S hB.kind (hB.mem ey) Ug.symm (λq _ q2=>at_ (by omega)) s1 (λq _ q2=>by rw[<-ry];exact hB.ne S (by omega) (by omega) (by omega)) (by omega) λk k1 uR oh=>?_;rw[<-ry]at uR oh;clear ry ey;dsimp only
 by_cases c1:na - k=0
 .rw[a5L (by simpa using c1)]
  have e:na=k:=by omega
  subst e;refine Ĕ<|h _ (a0u _) (λ_ _=>rfl) rfl rfl rfl λi j h1 h2 h3=>?_;show R r (Ğ st) i < R r (Ğ st) j;rcases Ó i sb with ci|ci
  .rcases Ó j sb with cj|cj
   .exact s1 i j h1 h2 cj
   .exact s2.up (qe _) cj h3 (uR i h1 (by omega))
  .exact s2 i j ci h2 h3
 rw[a5M (by simpa using c1)];obtain⟨n,rfl⟩:∃n,na=k+(n+1):=⟨na - k - 1,by omega⟩;clear c1 k1 na1;have vj:sa+k+(n+1)=sb:=by rw[Ug,ş]
 simp only[ŀ];rw[show sa+k+(n+1) - 1=sa+k+n from rfl];have(x,ex):=hB.at (i:=sa+k+n) (by omega);have rx:R r (Ğ st) (sa+k+n)=r x:=dU ex;refine ď<|fV ex<|ď<|wF S hB.kind (hB.mem ex) rfl (λq _ q2=>at_ (by omega)) s2 (λq _ q2=>by rw[<-rx];exact hB.ne S (by omega) (by omega) (by omega)) (by omega) λm m1 AJ og=>?_;rw[<-rx]at AJ og;clear rx ex x y;dsimp only
 by_cases c2:m=0
 .exfalso
  subst c2;have h1:=og sb (qe _) (by omega);have h3:=oh (sa+k+n) (Ç _ _) (by omega);omega
 rw[a5M (by simpa using c2)];have(P,X,Y,T0,eL,lP,lX,lY):=zAa (Ğ st).toList (p:=sa+k) (n:=n+1) (m:=m) (by rw[Ġ];omega);have eX:=N2 eL lP (j:=sb) (by rw[lX];exact vj);have eY:=N2 (P:=P++X) (X:=Y) (S:=T0) (a:=Ğ st) (i:=sb) (j:=sb+m) (by rw[eL,Ķ]) (by rw[qr,lP,lX];exact vj) (by rw[lY]);have eZ:(Ğ st).toList=P++((X++Y)++T0):=by rw[eL,Ķ]
 have lZ:sa+k+(X++Y).length=sb+m:=by rw[qr,lX,lY,<-vj];exact(ş _ _ _).symm
 generalize ex:(Ğ st).extract (sa+k) sb=x at *;generalize ey:(Ğ st).extract sb (sb+m)=y at *;have zx:x.size=n+1:=by rw[<-Ġ,eX,lX]
 have zy:y.size=m:=by rw[<-Ġ,eY,lY]
 have Rx:∀q,q < n+1->R r x q=R r (Ğ st) (sa+k+q):=λq hq=>gM (by rw[<-ex,a3z,a5L (by omega)]);have Ry:∀q,q < m->R r y q=R r (Ğ st) (sb+q):=λq hq=>gM (by rw[<-ey,a3z,a5L (by omega)]);have AE:∀z∈X++Y,z∈ah.toList:=λz hz=>(ã.mp hB.perm).mem_iff.mp (by rw[eZ];exact qv _<|Ò _ hz);have hs1:∀i j,i < j->j < n+1->R r (Ğ st) (sa+k+i) < R r (Ğ st) (sa+k+j):=λi j c1 c2=>s1 _ _ (by omega) (by omega) (by omega);have T:fC r ah x y:=by
  refine⟨λz hz=>AE z<|Ò _<|eX▸hz,λz hz=>AE z<|qv _<|eY▸hz,λi j h1 h2 h3=>?_,λi j h1 h2 h3=>?_,λi j h1 h2=>?_⟩
  .rw[zx]at h3
   rw[Rx i<|a2h h2 h3,Rx j h3];exact hs1 i j h2 h3
  .rw[zy]at h3
   rw[Ry i<|a2h h2 h3,Ry j h3];exact s2 _ _ (Ç _ _) (Ù h2 _) (by omega)
  .rw[zx]at h1
   rw[zy]at h2;rw[Rx i h1,Ry j h2];exact hB.ne S (by omega) (by omega) (by omega)
 have fst:∀j,j < x.size->R r y 0 < R r x j:=λj hj=>by
  rw[zx]at hj;rw[Ry 0<|Nat.pos_of_ne_zero c2,Rx j hj];exact oh _ (Ç _ _) (by omega)
 have lst:∀j,j < y.size->R r y j < R r x (x.size - 1):=λj hj=>by
  rw[zy]at hj;rw[zx,ŏ,Ry j hj,Rx n<|a5J _];exact AJ _ (Ç _ _)<|Ù hj _
 have last:∀(o:Array ě) (g:Nat),jk r x y o->wpS (Đ prog w) A E s (do
   modify λs=>setArr s<|Cj o.toList 0 (sa+k)<|Ğ s
   let mq <-get
   pure (Ϻ mq).isNone) Q (eJ (a3J st<|((Ę st).setIfInBounds i (sa,k+(n+1)+nb,pw)).eraseIdxIfInBounds<|i+1) g):=λo g ho=>by
  refine ď<|Ŷ<|ď<|π ?_;have e:(Ϻ st).isNone=ż:=by rw[hB.failed];rfl
  show wpS _ _ _ _ (pure (Ϻ st).isNone) _ _;rw[e];have(po,uo):=ho;rw[eX,eY]at po;have eO:=N4 (n:=0) (s:=sa+k) eZ lP po.length_eq.symm;refine Ĕ<|h _ ?_ (λq hq=>?_) rfl rfl rfl ?_
  .rw[a2W]
   show(Cj o.toList 0 (sa+k)<|Ğ st).toList.Perm _;rw[eO,eZ];exact a3a _<|po.append_right _
  .exact Pd eZ eO po.length_eq (by rw[lP,lZ];omega)
  .refine zC2 eZ eO po uo lP lZ (Ç _ _) (by omega) (λi q h1 h2 h3 h4=>?_) (λq j h1 h2 h3 h4=>?_) (λi j h1 h2 h3=>s1 i j h1 h2 (by omega)) λi j h1 h2 h3=>s2 i j (by omega) h2 h3
   .rcases Ó q sb with c|c
    .exact s1 i q h1 (by omega) c
    .exact s2.up (qe _) c h4 (uR i h1 h2)
   .rcases Ó q sb with c|c
    .exact s1.dn h1 (show q<=sa+k+n by omega) (by omega) (og j h3 h4)
    .exact s2 q j c (by omega) h4
 split
 .exact ď (zqd S hB.kind T (by omega) (by omega) (fst 0 (by omega)) lst last)
 .exact ď (zqe S hB.kind T (by omega) (by omega) fst lst last)
end
def iE:Nat->Qa (Nat×Nat)->Nat->Prop
 |s,[],e=>s=e
 |s,t::l,e=>t.1=s/\1<=t.2/\iE (s+t.2) l e
theorem iE.app:∀{l:Qa (Nat×Nat)} {s e:Nat} {l':Qa (Nat×Nat)},iE s (l++l') e↔∃m,iE s l m/\iE m l' e
 |[],s,e,l'=>⟨λh=>⟨s,rfl,h⟩,λ⟨m,h1,h2⟩=>by cases h1;exact h2⟩
 |t::l,s,e,l'=>by
  show(t.1=s/\1<=t.2/\iE (s+t.2) (l++l') e)↔∃m,(t.1=s/\1<=t.2/\iE (s+t.2) l m)/\iE m l' e;rw[iE.app];constructor
  .rintro⟨h1,h2,m,h3,h4⟩
   exact⟨m,⟨h1,h2,h3⟩,h4⟩
  .rintro⟨m,⟨h1,h2,h3⟩,h4⟩
   exact⟨h1,h2,m,h3,h4⟩
theorem iE.bd:∀{l:Qa (Nat×Nat)} {s e:Nat},iE s l e->s+l.length<=e/\∀t∈l,s<=t.1/\t.1+t.2<=e
 |[],s,e,h=>⟨í h,λt ht=>by cases ht⟩
 |t::l,s,e,h=>by
  have(h1,h2,h3):=h;have(i1,i2):=iE.bd h3;refine⟨by rw[qt];omega,λu hu=>?_⟩;rcases qu.mp hu with rfl|hu
  .omega
  .have:=i2 u hu
   omega
noncomputable def sl(p:Array (Nat×Nat×Nat)):Qa (Nat×Nat):=p.toList.map λt=>(t.1,t.2.1)
structure RS (r:ě->Int) (κ:a2J) (ah:Array ě) (lo:Nat) (st:ģ):Prop where
 ss:SS κ ah st
 le:lo<=ah.size
 runs:iE 0 (sl<|Ę st) lo
 seg:∀t∈sl (Ę st),Seg r (Ğ st) t.1<|t.1+t.2
theorem Ml{x y:α}(h1:l[i]?=ž x)(h2:l[i+1]?=ž y):l=l.take i++x::y::l.drop (i+2):=by
 have(a1,e1):=qk.mp h1;have(a2,e2):=qk.mp h2
 conv=>lhs;rw[<-ϗ i l,Ţ a1,Ţ a2,e1,e2]
theorem zqg{x y z:α}(h1:l[i]?=ž x)(h2:l[i+1]?=ž y):(l.set i z).eraseIdx (i+1)=l.take i++z::l.drop (i+2):=by
 have(a1,e1):=qk.mp h1;have(a2,e2):=qk.mp h2;have h:=Ml h1 h2;have hp:(l.take i).length=i:=by rw[Ŀ];omega
 conv=>lhs;rw[h]
 rw[a3Y _ _ (by omega),List.eraseIdx_append_of_length_le (by omega),hp,a3V,show i+1 - i=1 by omega];rfl
section
variable{s:Qd}{st:ģ}{lo:Nat}
theorem Ic{Q:Bool->ģ->Prop}(S:fO prog w A s κ ah r)(h:RS r κ ah lo st)(hi:i+1 < (Ę st).size)
  (k:∀av,RS r κ ah lo av->(Ę av).size+1=(Ę st).size->(∀q,lo<=q->(Ğ av)[q]?=(Ğ st)[q]?)->Q ż av):wpS (Đ prog w) A E s (mergeAt' i) Q st:=by
 obtain⟨t1,p1⟩:∃t,(Ę st)[i]?=ž t:=⟨_,getElem?_pos _ i (by omega)⟩;obtain⟨t2,p2⟩:∃t,(Ę st)[i+1]?=ž t:=⟨_,getElem?_pos _ (i+1) hi⟩;have(sa,na,pw):=t1;have(sb,nb,Jg):=t2;have q1:(Ę st).toList[i]?=ž (sa,na,pw):=by rw[ů];exact p1
 have q2:(Ę st).toList[i+1]?=ž (sb,nb,Jg):=by rw[ů];exact p2
 have e1:=Ml q1 q2;have rn:=h.runs;have es:sl (Ę st)=((Ę st).toList.take i).map (λt=>(t.1,t.2.1))++(sa,na)::(sb,nb)::((Ę st).toList.drop<|i+2).map (λt=>(t.1,t.2.1)):=by
  unfold sl
  conv=>lhs;rw[e1]
  rw[ĕ,Ē,Ē]
 have sg:=h.seg;rw[es]at rn sg;have(m,r1,r2):=iE.app.mp rn;have(x1,x2,x3,x4,r3):=r2;dsimp only at x1 x2 x3 x4 r3;have(b1,b2):=r1.bd;have(b3,b4):=r3.bd;subst x1;have hle:=h.le;refine zqf S h.ss p1 p2 x3 x2 x4 (by omega) (sg (sa,na) (by simp) |> λz=>by rw[x3];exact z) (sg (sb,nb) (by simp)) λav a1 a2 a3 a4 a5 a6=>?_;have en:sl (Ę av)=((Ę st).toList.take i).map (λt=>(t.1,t.2.1))++(sa,na+nb)::((Ę st).toList.drop<|i+2).map (λt=>(t.1,t.2.1)):=by
  unfold sl;rw[a5,Array.toList_eraseIdxIfInBounds,a2V,zqg q1 q2,ĕ,Ē]
 have keep:∀u v:Nat,(v<=sa\/sb+nb<=u)->Seg r (Ğ st) u v->Seg r (Ğ av) u v:=λu v huv hs i j h1 h2 h3=>by
  rw[gM (r:=r)<|a2 i (by omega),gM (r:=r)<|a2 j (by omega)];exact hs i j h1 h2 h3
 refine k av ⟨⟨a1.trans h.ss.perm,a3.trans h.ss.kind,a4.trans h.ss.failed⟩,hle,?_,λt ht=>?_⟩ ?_ λq hq=>a2 q (by omega)
 .rw[en]
  refine iE.app.mpr ⟨sa,r1,rfl,by omega,?_⟩;rw[<-ş];exact r3
 .rw[en]at ht
  rcases È.mp ht with ht|ht
  .have:=b2 t ht
   exact keep _ _ (by omega)<|sg t<|Ò _ ht
  .rcases qu.mp ht with rfl|ht
   .dsimp only
    rw[show sa+(na+nb)=sb+nb by omega];exact a6
   .have:=b4 t ht
    exact keep _ _ (by omega)<|sg t<|qv _<|qm _<|qm _ ht
 .have z1:(sl<|Ę av).length=(Ę av).size:=by simp[sl]
  rw[en]at z1;rw[<-z1];simp;omega
theorem RS.chg(h:RS r κ ah lo st)(c:hE lo hi st av):RS r κ ah lo av:=by
 refine⟨h.ss.chg c,h.le,by rw[c.pend];exact h.runs,λt ht=>?_⟩;rw[c.pend]at ht;have:=h.runs.bd.2 t ht;intro i j h1 h2 h3;rw[gM (r:=r)<|c.out i<|.inl (by omega),gM (r:=r)<|c.out j<|.inl (by omega)];exact h.seg t ht i j h1 h2 h3
theorem RS.push(h:RS r κ ah lo st)(n1:1<=n)(hn:lo+n<=ah.size)(hs:Seg r (Ğ st) lo (lo+n)):RS r κ ah (lo+n) (a3J st<|(Ę st).push (lo,n,0)):=by
 have e:sl ((Ę st).push (lo,n,0))=sl (Ę st)++[(lo,n)]:=by
  unfold sl;rw[ň,ĕ];rfl
 refine⟨⟨h.ss.perm,h.ss.kind,h.ss.failed⟩,hn,?_,λt ht=>?_⟩
 .show iE 0 (sl<|(Ę st).push (lo,n,0)) _
  rw[e];exact iE.app.mpr ⟨lo,h.runs,rfl,n1,rfl⟩
 .have ht:t∈sl ((Ę st).push (lo,n,0)):=ht
  rw[e]at ht;rcases È.mp ht with ht|ht
  .exact h.seg t ht
  .rw[qp.mp ht]
   exact hs
theorem RS.pow{pw k:Nat}(h:RS r κ ah lo st):RS r κ ah lo (a3J st<|(Ę st).modify k λ(a,b,_)=>(a,b,pw)):=by
 have e:sl ((Ę st).modify k λ(a,b,_)=>(a,b,pw))=sl (Ę st):=by
  unfold sl;rw[Array.toList_modify];apply a0t;intro i;rw[ė,ė,List.getElem?_modify];cases(Ę st).toList[i]? with
  |none=>rfl
  |some t=>
   by_cases c:k=i
   .simp[c]
   .simp[c]
 refine⟨⟨h.ss.perm,h.ss.kind,h.ss.failed⟩,h.le,?_,λt ht=>?_⟩
 .show iE 0 (sl<|(Ę st).modify k λ(a,b,_)=>(a,b,pw)) _
  rw[e];exact h.runs
 .have ht:t∈sl ((Ę st).modify k λ(a,b,_)=>(a,b,pw)):=ht
  rw[e]at ht;exact h.seg t ht
theorem zm6{Q:Unit->ģ->Prop}(S:fO prog w A s κ ah r)(h0:RS r κ ah 0 st)(h2:2<=ah.size)
  (h:∀av,SS κ ah av->Seg r (Ğ av) 0 ah.size->Q () av):wpS (Đ prog w) A E s sortRuns' Q st:=by
 rw[sortRuns'_eq];refine ď<|π ?_;dsimp only;simp only[h0.ss.size];generalize minRun' ah.size ah.size 0=mr;refine ď<|ŗ (ń
  (I:=λx c av=>∃lo,c=(Ž,lo)/\RS r κ ah lo av/\(x<=lo))
  (Q:=λc av=>∃lo,c=(Ž,lo)/\RS r κ ah lo av/\ah.size<=lo) ?step ?fin ⟨0,rfl,h0,qe _⟩) ?post
 case fin=>
  rintro c av ⟨lo,rfl,h1,h3⟩;exact⟨lo,rfl,h1,by omega⟩
 case step=>
  rintro x c I9 _ hx ⟨lo,rfl,h1,h3⟩;dsimp only
  by_cases c1:lo>=ah.size
  .rw[a5L c1]
   exact Ĕ ⟨lo,rfl,h1,c1⟩
  rw[a5M c1];have hle:=h1.le;refine ď<|zm4 S (by omega) (by omega) h1.ss λm bU g1 m1 m2 hm=>?_;dsimp only;have h4:=h1.chg g1
  by_cases cm:m < mr
  .rw[a5L cm]
   refine ď<|a1J<|ũ ⟨rfl,?_⟩;refine ď<|zj5 (n:=min (ah.size - lo) mr) S (by omega) (by omega) h4.ss hm λnO g3 Tz=>?_;simp only[Ł,Ě,if_false];have h5:=h4.chg g3;refine ď<|π ?_;cases hb:(Ę nO).back? with
   |none=>
    dsimp only;exact ď<|Ŷ<|Ĕ ⟨lo+min (ah.size - lo) mr,rfl,h5.push (by omega) (by omega) Tz,by omega⟩
   |some b0=>
    have(s1,uO,pw0):=b0;dsimp only;refine ď<|ŗ (ń (I:=λx c gf=>c=(Ž,())/\RS r κ ah lo gf/\Seg r (Ğ gf) lo (lo+min (ah.size - lo) mr)) (Q:=λc gf=>c=(Ž,())/\RS r κ ah lo gf/\Seg r (Ğ gf) lo (lo+min (ah.size - lo) mr)) ?_ (λ_ _ hh=>hh) ⟨rfl,h5,Tz⟩) ?_
    .rintro x' c gf _ _ ⟨rfl,q1,q2⟩
     refine ď<|π ?_
     by_cases cp:(Ę gf).size > 1
     .rw[a5L cp]
      obtain⟨⟨f1,f2,Aw⟩,eo⟩:∃t,(Ę gf)[(Ę gf).size - 2]?=ž t:=⟨_,getElem?_pos _ _ (by omega)⟩;rw[eo];dsimp only;split
      .exact Ĕ ⟨rfl,q1,q2⟩
      .refine ď (Ic S q1 (by omega) λpj k1 k2 k3=>?_)
       simp only[Ł,Ě,if_false];refine Ĕ ⟨rfl,k1,λi j i1 i2 i3=>?_⟩;rw[gM (r:=r)<|k3 i (by omega),gM (r:=r)<|k3 j (by omega)];exact q2 i j i1 i2 i3
     .rw[a5M cp]
      exact Ĕ ⟨rfl,q1,q2⟩
    .rintro c gf ⟨rfl,q1,q2⟩
     dsimp only;have q3:=q1.pow (pw:=power' ah.size (2 * s1+uO) (2 * s1+uO+uO+min (ah.size - lo) mr) ah.size) (k:=(Ę gf).size - 1);exact ď<|Ŷ<|ď<|Ŷ<|Ĕ ⟨lo+min (ah.size - lo) mr,rfl,q3.push (by omega) (by omega) q2,by omega⟩
  .rw[a5M cm]
   refine ď<|π ?_;cases hb:(Ę bU).back? with
   |none=>
    dsimp only;exact ď<|Ŷ<|Ĕ ⟨lo+m,rfl,h4.push m1 (by omega) hm,by omega⟩
   |some b0=>
    have(s1,uO,pw0):=b0;dsimp only;refine ď<|ŗ (ń (I:=λx c gf=>c=(Ž,())/\RS r κ ah lo gf/\Seg r (Ğ gf) lo (lo+m)) (Q:=λc gf=>c=(Ž,())/\RS r κ ah lo gf/\Seg r (Ğ gf) lo (lo+m)) ?_ (λ_ _ hh=>hh) ⟨rfl,h4,hm⟩) ?_
    .rintro x' c gf _ _ ⟨rfl,q1,q2⟩
     refine ď<|π ?_
     by_cases cp:(Ę gf).size > 1
     .rw[a5L cp]
      obtain⟨⟨f1,f2,Aw⟩,eo⟩:∃t,(Ę gf)[(Ę gf).size - 2]?=ž t:=⟨_,getElem?_pos _ _ (by omega)⟩;rw[eo];dsimp only;split
      .exact Ĕ ⟨rfl,q1,q2⟩
      .refine ď (Ic S q1 (by omega) λpj k1 k2 k3=>?_)
       simp only[Ł,Ě,if_false];refine Ĕ ⟨rfl,k1,λi j i1 i2 i3=>?_⟩;rw[gM (r:=r)<|k3 i (by omega),gM (r:=r)<|k3 j (by omega)];exact q2 i j i1 i2 i3
     .rw[a5M cp]
      exact Ĕ ⟨rfl,q1,q2⟩
    .rintro c gf ⟨rfl,q1,q2⟩
     dsimp only;have q3:=q1.pow (pw:=power' ah.size (2 * s1+uO) (2 * s1+uO+uO+m) ah.size) (k:=(Ę gf).size - 1);exact ď<|Ŷ<|ď<|Ŷ<|Ĕ ⟨lo+m,rfl,q3.push m1 (by omega) q2,by omega⟩
 case post=>
  rintro c av ⟨lo,rfl,h1,h3⟩;have hle:=h1.le;have elo:lo=ah.size:=by omega
  subst elo;dsimp only;have pl:(Ę av).size<=ah.size:=by
   have:=h1.runs.bd.1;have e:(sl<|Ę av).length=(Ę av).size:=by simp[sl]
   omega
  refine ď<|ŗ (ń (I:=λx c bU=>c=(Ž,())/\RS r κ ah ah.size bU/\((Ę bU).size<=1\/(Ę bU).size+x<=ah.size)) (Q:=λc bU=>c=(Ž,())/\RS r κ ah ah.size bU/\(Ę bU).size<=1) ?iT ?oq ⟨rfl,h1,.inr (by omega)⟩) ?iV
  case oq=>
   rintro c bU ⟨rfl,q1,q2⟩;exact⟨rfl,q1,by omega⟩
  case iT=>
   rintro x c bU _ hx ⟨rfl,q1,q2⟩;refine ď<|π ?_
   by_cases cp:(Ę bU).size<=1
   .rw[a5L cp]
    exact Ĕ ⟨rfl,q1,cp⟩
   .rw[a5M cp]
    refine ď<|Ic S q1 ?_ λpj k1 k2 k3=>?_
    .have key:∀b:Bool,(if b=ż then(Ę bU).size - 2 - 1 else(Ę bU).size - 2)+1 < (Ę bU).size:=λb=>by
      cases b
      .rw[a5M qf];omega
      .rw[a5L rfl];omega
     exact key _
    .simp only[Ł,Ě,if_false]
     exact Ĕ ⟨rfl,k1,by omega⟩
  case iV=>
   rintro c bU ⟨rfl,q1,q2⟩;dsimp only;refine Ĕ<|h bU q1.ss ?_;have e:(sl<|Ę bU).length=(Ę bU).size:=by simp[sl]
   have rn:=q1.runs;have sg:=q1.seg
   match hl:sl (Ę bU),rn,sg with
   |[],rn,_=>
    have:0=ah.size:=rn;omega
   |[u],rn,sg=>
    have(u1,u2,u3):=rn;have u3:0+u.2=ah.size:=u3;have:=sg u (by simp);rw[u1,u3]at this;exact this
   |u::v::l,_,_=>
    rw[hl]at e;simp at e;omega
end
open Classical in
def nZ(vs:Qa Qc)(v:Qc):Nat:=if h:∃i,i < vs.length/\vs.getD i đ=v then h.choose else 0
theorem wj{vs:Qa Qc}(nd:∀i j,i < vs.length->j < vs.length->vs.getD i đ=vs.getD j đ->i=j)(hi:i < vs.length):nZ vs (vs.getD i đ)=i:=by
 have h:∃j,j < vs.length/\vs.getD j đ=vs.getD i đ:=⟨i,hi,rfl⟩;unfold nZ;rw[dif_pos h];exact nd _ _ h.choose_spec.1 hi h.choose_spec.2
theorem Ib{vs:Qa Qc}:(vs.toArray.zip vs.toArray).toList=(ĥ vs.length).map λi=>(vs.getD i đ,vs.getD i đ):=by
 apply a0t;intro i;rw[ė]
 by_cases hi:i < vs.length
 .rw[a1u hi]
  simp[hi,List.getElem?_zip_eq_some]
 .rw[ų (by simp;omega),ų (by simp;omega)]
  rfl
section
variable{s:Qd}
theorem ZH{vs:Qa Qc}{Q:Unit->ģ->Prop}(h2:2<=vs.length)(nd:∀i j,i < vs.length->j < vs.length->vs.getD i đ=vs.getD j đ->i=j)(inj:∀i j,i < vs.length->j < vs.length->rk i=rk j->i=j)
  (ask:Sx prog w A rk vs κ s) (h:∀av p,Pm vs.length p->Up rk p vs.length->Ğ av=p.map (kas_item<|vs.toArray.zip vs.toArray)->Ϻ av=Ž->Q () av):
  wpS (Đ prog w) A E s sortRuns' Q (a4d κ (vs.toArray.zip vs.toArray) #[] 7 Ž):=by
 have mem:∀x∈(vs.toArray.zip vs.toArray).toList,∃i,i < vs.length/\x=(vs.getD i đ,vs.getD i đ):=λx hx=>by
  rw[Ib]at hx;have(i,hi,rfl):=Ä.mp hx;exact⟨i,Õ.mp hi,rfl⟩
 have zs:(vs.toArray.zip vs.toArray).size=vs.length:=by simp
 have S:fO prog w A s κ (vs.toArray.zip vs.toArray) (λx=>rk<|nZ vs x.1):=by
  refine⟨λx hx y hy C hC=>?_,?_⟩
  .have(i,hi,rfl):=mem x hx
   have(j,hj,rfl):=mem y hy;dsimp only at hC;rw[wj nd hi,wj nd hj]at hC;exact ask i j C hi hj hC
  .rw[Ib,ĳ]
   refine ý.mpr<|a1P (λ{a b} ha hb (qV:a≠b)=>?_) a5m;have ha:=Õ.mp ha;have hb:=Õ.mp hb;show rk (nZ vs<|vs.getD a đ)≠rk (nZ vs<|vs.getD b đ);rw[wj nd ha,wj nd hb];exact λe=>qV<|inj a b ha hb e
 refine zm6 S ⟨⟨a0u _,rfl,rfl⟩,À _,rfl,λt ht=>by cases ht⟩ (by omega) λav hB hs=>?_;have ar:∀x∈(Ğ av).toList,∃i,i < vs.length/\x=(vs.getD i đ,vs.getD i đ):=λx hx=>mem x<|(ã.mp hB.perm).mem_iff.mp hx;have ki:∀i,i < vs.length->kas_item (vs.toArray.zip vs.toArray) i=(vs.getD i đ,vs.getD i đ):=λi hi=>by
  unfold kas_item;simp[a4G,hi]
 refine h av ((Ğ av).map λx=>nZ vs x.1) ?_ (λi j de hj=>?_) ?_ hB.failed
 .have:=(ã.mp hB.perm).map λx:ě=>nZ vs x.1
  unfold Pm;rw[a2W,a2k];refine this.trans ?_;rw[Ib,ĳ];have e:(ĥ vs.length).map ((λx:ě=>nZ vs x.1) ∘ λi=>(vs.getD i đ,vs.getD i đ))=ĥ vs.length:=by
   conv=>rhs;rw[<-a4l (ĥ vs.length)]
   exact Ø λi hi=>wj nd<|Õ.mp hi
  rw[e]
 .have z:=hB.size
  have kr:∀q,q < vs.length->KR rk ((Ğ av).map λx=>nZ vs x.1) q=R (λx=>rk<|nZ vs x.1) (Ğ av) q:=λq hq=>by
   have e:(Ğ av)[q]?=ž (Ğ av)[q]:=getElem?_pos _ q (by omega);rw[dU e];unfold KR;have:q < (Ğ av).size:=by omega
   simp[a4G,this]
  by_cases e:i=j
  .rw[e];exact a2B _
  .rw[kr i (by omega),kr j hj]
   have:=hs i j (À _) (by omega) (by omega);omega
 .apply ă
  rw[a2k,a2k,ĳ]
  conv=>lhs;rw[<-a4l (Ğ av).toList]
  refine Ø λx hx=>?_;have(i,hi,rfl):=ar x hx;show _=kas_item _ (nZ vs<|vs.getD i đ);rw[wj nd hi,ki i hi];rfl
theorem ziw{vs:Qa Qc}{P:PySem.Fin->Qd->Prop}(ho:s.heap.get? a=ž (a0k "list" vs.toArray n))(h64:vs.length<=100000)(nd:∀i j,i < vs.length->j < vs.length->vs.getD i đ=vs.getD j đ->i=j)(inj:∀i j,i < vs.length->j < vs.length->rk i=rk j->i=j)
  (hk:2<=vs.length->∀h':Į,(∀b o,b≠a->s.heap.get? b=ž o->h'.get? b=ž o)->∀Q:a2J->Qd->Prop,(∀κ,Sx prog w A rk vs κ {s with heap:=h'}->Q κ {s with heap:=h'})->Č (Đ prog w) A (keyKind' vs.toArray) Q (λ_ _=>False) {s with heap:=h'})
  (h:∀p:Array Nat,Pm vs.length p->Up rk p vs.length->P (.done<|.ret .none) {s with heap:=sortedHeap s.heap a vs (a1W<|p.toList.map λi=>vs.getD i đ)}):
  Č (Đ prog w) A (Builtin.«list.sort» ⟨[.ref a],[]⟩) P E s:=by
 have line:(100000:Nat)<=Ď:=by decide
 have ha:a < s.heap.objs.size:=qh ho;obtain⟨e1,TB⟩:∃e1,(s.heap.update a<|Ų λ_=>#[]).get? a=ž (a0k "list" #[] e1):=⟨_,get?_update_seq ho λ_=>#[]⟩;have old:∀b o,(s.heap.update a<|Ų λ_=>#[]).get? b=ž o->(((s.heap.update a<|Ų λ_=>#[]).push<|a0k "tuple" vs.toArray 0).push<|a0k "list" #[] 0).get? b=ž o :=
  λb o e=>qd _<|qd _ e
 have EC:=old _ _ TB;have keep:∀b o,b≠a->s.heap.get? b=ž o->(((s.heap.update a<|Ų λ_=>#[]).push<|a0k "tuple" vs.toArray 0).push<|a0k "list" #[] 0).get? b=ž o :=
  λb o ne e=>old b o (by rw[ξ _ _ _ _ ne];exact e)
 rw[list_sort_plain];refine qa<|listItems_at ho rfl<|qa<|a4v ho rfl (qa<|seqEpoch_at TB rfl<|qa<|wpAny_newTuple (qa<|wpAny_newList (Ŋ ?_) ?_) ?_) ?_ ?_
 case refine_2=>exact À _
 case refine_3=>show vs.length<=_;omega
 case refine_4=>show vs.toArray.size<=_;rw[ē];omega
 case refine_5=>exact À _
 show Č (Đ prog w) A _ P E {s with heap:=((s.heap.update a<|Ų λ_=>#[]).push<|a0k "tuple" vs.toArray 0).push (a0k "list" #[] 0)};dsimp only;generalize hH:((s.heap.update a<|Ų λ_=>#[]).push<|a0k "tuple" vs.toArray 0).push (a0k "list" #[] 0)=h6 at *;have hsz:vs.toArray.size=vs.length:=by simp
 have fin:∀p:Array Nat,Pm vs.length p->Up rk p vs.length->P (.done<|.ret .none) {s with heap:=h6.update a (Ų λ_=>a1W<|p.toList.map λi=>vs.getD i đ)}:=λp a1 a2=>by
  have:=h p a1 a2;unfold sortedHeap at this;rw[hH]at this;exact this
 by_cases h2:vs.toArray.size < 2
 .rw[a5L h2,a5L h2]
  refine qa<|qb ?_;rw[StateT.run_pure];refine qa<|qb ?_;dsimp only;have hz:(vs.toArray.zip vs.toArray).size=vs.length:=by simp
  have Kl:Ğ (a4d general' (vs.toArray.zip vs.toArray) #[] 7 Ž)=(ĥ vs.length).toArray.map (kas_item<|vs.toArray.zip vs.toArray):=by
   have:=kas_range (vs.toArray.zip vs.toArray);rw[hz]at this;exact this.symm
  have e:=kat_snds (ks:=vs) (vs:=vs) rfl Kl;rw[e];refine qa<|seqEpoch_at EC rfl<|qa<|a4v EC rfl ?_ ?_ ?_
  .show Č _ _ (if(e1 != e1)=ż then _ else _) _ _ _
   rw[bne_self_eq_false,a5M qf];refine qb<|fin _ (a0u _) λi j de hj=>?_;have:i=j:=by omega
   subst this;exact a2B _
  .exact À _
  .rw[ē,ċ]
   simp;omega
 .rw[a5M h2,a5M h2]
  have iz:2<=vs.length:=by omega
  refine qa<|ŋ (hk iz h6 keep _ λκ ask=>?_) (λ_ _ x=>x) λ_ _ x=>x.elim;refine qa<|ŋ (ZH (E:=E) (s:={s with heap:=h6}) (Q:=λ_ av=>∃p:Array Nat,Pm vs.length p/\Up rk p vs.length/\Ğ av=p.map (kas_item<|vs.toArray.zip vs.toArray)/\Ϻ av=Ž) iz nd inj ask λav p a1 a2 a3 a4=>⟨p,a1,a2,a3,a4⟩) ?_ λ_ _ x=>x;rintro⟨⟨⟩,av⟩ s' ⟨rfl,p,a1,a2,Kl,hf⟩;dsimp only;have e:=kat_snds (ks:=vs) (vs:=vs) rfl Kl;rw[e,hf];refine qa<|seqEpoch_at EC rfl<|qa<|a4v EC rfl ?_ ?_ ?_
  .show Č _ _ (if(e1 != e1)=ż then _ else _) _ _ _
   rw[bne_self_eq_false,a5M qf];exact qb<|fin p a1 a2
  .exact À _
  .rw[ē,ċ,Ġ,a1.size]
   omega
end
def rq(h:Į)(v:Qc)(ns:Qa Int):Prop:=∃(a:Qg) (i j:Int) (t t':Tok) (u:Qc),v=.ref a/\a2P h a #[.int i t,.int j t',u]/\ns=[i,j]
section
variable{s:Qd}
theorem zCl{v v':Qc}{Jq:Qa Int}{C:Bool->Qd->Prop}(p:rq s.heap v ns)(p':rq s.heap v' Jq)(ne:v=v'\/ns≠Jq)(h:C (cN ns Jq) s):Č (Đ prog w) A (keyLt' (tuples' ż) v v') C (λ_ _=>False) s:=by
 obtain⟨a,i,j,t,t',u,rfl,⟨oa,ea,ca,na,da⟩,rfl⟩:=p;obtain⟨a',i',j',q,q',u',rfl,⟨oa',gS,ca',Jt,KN⟩,rfl⟩:=p';refine kat_lt ea da gS KN ?_;show KatLex prog w A ż _ C [(.int i t,.int i' q),(.int j t',.int j' q'),(u,u')] 0 s;refine kat_cons<|a1h ?_
 by_cases e1:i=i'
 .subst e1
  rw[a5Q];refine kat_yes<|kat_cons<|a1h ?_
  by_cases e2:j=j'
  .subst e2
   rw[a5Q];rcases ne with z|z
   .cases z
    rw[ea]at gS;cases gS;rw[da]at KN;injection KN with d1 d2;have d3:=congrArg ο d1;have e3:u=u':=by
     have:=congrArg (λl:Qa Qc=>l[2]?) d3;simpa using this
    subst e3;refine kat_yes<|kat_cons<|a3P u prog w _ _<|kat_yes<|kat_nil ?_;rw[um]at h;exact h
   .exact absurd rfl z
  .rw[show(j==j')=Ż by simpa using e2]
   refine kat_no<|kat_one _ _<|zpS ?_;have e3:cN [i,j] [i,j']=decide (j < j'):=by simp[cN,e2]
   rw[e3]at h;exact h
 .rw[show(i==i')=Ż by simpa using e1]
  refine kat_no (show Č (Đ prog w) A (oneLt' ż (.int i t)<|.int i' q) C _ s from oneLt_int ?_);have e3:cN [i,j] [i',j']=decide (i < i'):=by simp[cN,e1]
  rw[e3]at h;exact h
end
theorem rq.kept{v:Qc}(p:rq h v ns)(k:∀b o,h.get? b=ž o->h'.get? b=ž o):rq h' v ns:=by
 have(a,i,j,t,t',u,e,ta,r):=p;exact⟨a,i,j,t,t',u,e,zq4 ta<|k a,r⟩
theorem PX:∀{vs:Qa Qc},(∀v∈vs,∃ns,rq h v ns)->∃fs,KatTups h vs fs/\fs.length=vs.length/\∀f∈fs,∃(i:Int) (t:Tok),f=.int i t
 |[],_=>⟨[],.nil,rfl,λf hf=>by cases hf⟩
 |v::vs,hv=>by
  have(fs,k,l,q):=PX (vs:=vs) λx hx=>hv x<|qm _ hx;obtain⟨ns,a,i,j,t,t',u,rfl,⟨o,eo,co,n,dO⟩,_⟩:=hv v qo;refine⟨.int i t::fs,.cons eo co dO rfl k,by rw[qt,qt,l],λf hf=>?_⟩;rcases qu.mp hf with e|hf
  .exact⟨i,t,e⟩
  .exact q f hf
def zAb(K:qc)(H:Hp)(vs:Qa V)(ps:Qa (Qa Int)):Prop:=vs.length=ps.length/\∀i v,vs[i]?=ž v->∃(a:Qg) (m n:Int) (y:V),v=.ref a/\bT K H a [.int m,.int n,y]/\ps.getD i []=[m,n]
def Mk(K:qc):Qa V->Hp->VK->Prop:=λxs H Q=>∃(l:Qg) (vs:Qa V) (ps:Qa (Qa Int)),xs=[.ref l]/\bZ K H l vs/\vs.length<=100000/\zAb K H vs ps/\ps.Nodup/\
 ∀(is:Qa Nat) r,is.Perm (ĥ vs.length)->(is.map λi=>ps.getD i []).Pairwise (λa b=>cN a b=ż)->H r=Ž->Q (.ref r) (upd H r<|.lst<|is.map λi=>vs.getD i .aK)
section
variable{X:Cx}
theorem zCm{x y z:V}(h:zY [x,y,z] us):∃u1 u2 u3,us=[u1,u2,u3]/\aP x u1/\aP y u2/\aP z u3:=by
 cases h with
 |cons h1 t=>
  cases t with
  |cons h2 t=>
   cases t with
   |cons h3 t=>
    cases t;exact⟨_,_,_,rfl,h1,h2,h3⟩
theorem zm7(K:qc)(hK:X.K=K){k:Nat}(hr:aF k X.A):ik X (.builtin "sorted") (Mk K):=by
 subst hK;intro pins s σ H xs us Q I r h;obtain⟨l,vs,ps,rfl,hl,h64,⟨lp,hp⟩,nd,q⟩:=h;have(u,rfl,ru):=pW r;cases ru;obtain⟨aq,rv,⟨o,n,eo,co,_,dO⟩,_⟩:=I.list hl;have line:(100000:Nat)<=Ď:=by decide
 have lv:aq.length=vs.length:=rv.length.symm;have pr:∀i,i < aq.length->rq s.heap (aq.getD i đ) (ps.getD i []):=λi hi=>by
  have kl:i < vs.length:=by omega
  have(a,m,n,y,ev,ha,hb):=hp i _ (ql kl);have(u,eu,ru):=rv.get (ql kl);rw[ev]at ru;cases ru;have(ia,ra,ta,_):=I.tuple ha;obtain⟨u1,u2,u3,rfl,⟨t1,rfl⟩,⟨t2,rfl⟩,r3⟩:=zCm ra;refine⟨a,m,n,t1,t2,u3,?_,ta,hb⟩;rw[qA,eu];rfl
 have ndV:∀i j,i < aq.length->j < aq.length->aq.getD i đ=aq.getD j đ->i=j:=λi j hi hj e=>by
  by_cases c:i=j
  .exact c
  .exfalso
   have h1:=pr i hi;have h2:=pr j hj;rw[e]at h1;obtain⟨a,m,n,t,t',u,e1,⟨o1,g1,_,n1,d1⟩,z1⟩:=h1;obtain⟨a',m',n',q,q',u',e2,⟨o2,g2,_,n2,d2⟩,z2⟩:=h2;rw[e1]at e2;cases e2;rw[g1]at g2;cases g2;rw[d1]at d2;injection d2 with d3 _;have d4:=congrArg ο d3;have k1:a0E m t=.int m' q:=by
    have:=congrArg (λl:Qa Qc=>l[0]?) d4;simpa using this
   have k2:a0E n t'=.int n' q':=by
    have:=congrArg (λl:Qa Qc=>l[1]?) d4;simpa using this
   cases k1;cases k2;exact yZ nd (by omega) (by omega) c<|z1.trans z2.symm
 have JE:∀i j,i < aq.length->j < aq.length->oG ps i=oG ps j->i=j:=λi j hi hj e=>by
  by_cases c:i=j
  .exact c
  .exfalso
   rcases wH (yZ nd (by omega:i < ps.length) (by omega:j < ps.length) c)with z|z
   .have:=yT (by omega) z
    omega
   .have:=yT (by omega) z
    omega
 refine Calls.call_function_entry kind_sorted plain_sorted entry_sorted (args_sorted1 _) ?_;unfold Builtin.«sorted»;refine qa (m:=checkCount "sorted" 1 1 _)<|qb ?_;refine qa<|collect_list (vs:=aq) ⟨o,eo,co,n,dO⟩ (qa<|wpAny_newList ?_ ?_) (by omega)
 case refine_2=>omega
 generalize hH:(s.heap.push<|a0k "list" #[] 0).update s.heap.objs.size (Ų (·++aq.toArray))=h1 at *;have hsz:h1.objs.size=s.heap.objs.size+1:=by rw[<-hH,a5t,size_push']
 have sZ:∀b o,s.heap.get? b=ž o->h1.get? b=ž o:=λb o e=>by
  have fj:b < s.heap.objs.size:=qh e;rw[<-hH,ξ _ _ _ _<|qj fj,Heap.get?_push_ne _ _ _<|qj fj];exact e
 have I1:Inv X pins σ H {s with heap:=h1,toks:=s.toks}:=I.kept sZ;have AU:(h1.push<|a0k "list" aq.toArray 0).get? h1.objs.size=ž (a0k "list" aq.toArray 0):=qg _ rfl;have hu:X.A.units+64 < ϻ:=hr.units;refine qa<|Ŋ<|ĸ slot_list_sort ⟨_,AU,rfl⟩ entry_list_sort (ziw (rk:=oG ps) (s:={s with heap:=h1.push (a0k "list" aq.toArray 0)}) AU (by omega) ndV JE (λh2 h' kp Q' hQ=>?_) λp a1 a2=>⟨_,rfl,?_⟩)<|args_list_sort _
 .have kp':∀b o,s.heap.get? b=ž o->h'.get? b=ž o:=λb o e=>by
   have fj:b < s.heap.objs.size:=qh e;exact kp b o (qj (by rw[hsz];exact è fj))<|qd _<|sZ b o e
  have Jh:∀i,i < aq.length->rq h' (aq.getD i đ) (ps.getD i []):=λi hi=>(pr i hi).kept kp';have(fs,kt,lf,tf):=PX (h:=h') (vs:=aq) λv hv=>by
   have(i,hi,e):=a1t hv;have:=Jh i hi;rw[show aq.getD i đ=v by simp[hi,e]]at this;exact⟨_,this⟩
  refine kat_kind (fs:=fs) (T:=.type "int") kt (by omega) (λv hv=>?_) (by decide) ?_
  .have(i,t,rfl):=tf v hv
   exact .now
  .refine hQ _ λi j C hi hj hc=>?_
   rw[Zb nd (by omega) (by omega)]at hc;refine zCl (Jh i hi) (Jh j hj) ?_ hc
   by_cases e:i=j
   .exact .inl (by rw[e])
   .exact .inr (yZ nd (by omega) (by omega) e)
 .refine qb ⟨_,rfl,?_⟩
  have(en,ho):=sortedHeap_at (vs:=aq) (out:=a1W (p.toList.map λi=>aq.getD i đ)) AU;have fresh:H h1.objs.size=Ž:=I1.aC.fresh (qe _);have perm:p.toList.Perm (ĥ vs.length):=by
   have:=a1.list;rw[lv]at this;exact this
  have mem:∀i∈p.toList,i < vs.length:=λi hi=>Õ.mp<|perm.mem_iff.mp hi;have lm:p.toList.length=vs.length:=by
   have:=perm.length_eq;simpa using this
  rw[lv,lp]at a1 a2;refine⟨.ref h1.objs.size,_,I1.laid (t':=s.toks) (a:=h1.objs.size) (o:=.lst (p.toList.map λi=>vs.getD i .aK)) (λb o e=>?_) (qe _) ⟨by rw[ċ];omega,p.toList.map λi=>aq.getD i đ,en,P9 rv p.toList mem,by simpa using ho⟩,rfl,q p.toList _ perm (Wa nd a1 a2) fresh⟩;have hb:b < h1.objs.size:=qh e;rw[sortedHeap_old (qj hb) (by rw[Ŏ];exact è hb)];exact qd _ e
end
end Internal
namespace Internal
open PySem PySem.Spec PyProof.Rows
section
noncomputable def wk:D->Qb (Qa Int)
 |.tuple [.int m,.int n,_]=>ž [m,n]
 |_=>Ž
def Ai:Qa D->Qb (Qa<|Qa Int)
 |[]=>ž []
 |d::ds=>(wk d).bind λk=>(Ai ds).bind λks=>ž<|k::ks
def tJ(a b:D):Prop:=∃k m,wk a=ž k/\wk b=ž m/\cN k m=ż
theorem tJ.KQ(a b:D)(h:tJ a b):¬tJ b a:=by
 rintro⟨k',m',e1,e2,h'⟩;have(k,m,e3,e4,h):=h;rw[e3]at e2;rw[e4]at e1;cases e1;cases e2;have:=wI h h';rw[um]at this;cases this
open Classical in
def Ci(xs:Qa D):Qa D:=if h:∃L,L.Perm xs/\L.Pairwise tJ then h.choose else []
theorem Pc{xs L:Qa D}(p:L.Perm xs)(s:L.Pairwise tJ):Ci xs=L:=by
 have h:∃L:Qa D,L.Perm xs/\L.Pairwise tJ:=⟨L,p,s⟩;unfold Ci;rw[dif_pos h];exact QU tJ.KQ (h.choose_spec.1.trans p.symm) h.choose_spec.2 s
def CU(u:U):Qb U:=u.lst.bind λxs=>(Ai xs).bind λks=>if xs.length<=100000/\ks.Nodup then ž (.l<|Ci xs)else Ž
theorem N1:∀{xs:Qa D} {ks:Qa (Qa Int)},Ai xs=ž ks->ks.length=xs.length
 |[],ks,e=>by cases e;rfl
 |x::xs,ks,e=>by
  have(k,e1,e):=bQ e;have(nW,e2,e):=bQ e;cases e;simp[N1 e2]
theorem CT:∀{xs:Qa D} {ks:Qa (Qa Int)} {i:Nat} {x:D},Ai xs=ž ks->xs[i]?=ž x->wk x=ž (ks.getD i [])
 |[],ks,i,x,e,ex=>by simp at ex
 |y::xs,ks,i,x,e,ex=>by
  have(k,e1,e):=bQ e;have(nW,e2,e):=bQ e;cases e;cases i with
  |zero=>cases(show ž y=ž x from ex);exact e1
  |succ i=>exact CT (i:=i) e2 ex
theorem ZG:VC K (Mk K) (f1 CU):=tM λv a u H Q h e q=>by
 have(xs,ex,e):=bQ e;have(ks,ek,e):=bQ e;split at e
 .rename_i hc
  cases e;have(p,ys,rfl,sq,ds):=h.lst ex;have ly:=ds.len;have lk:=N1 ek;refine⟨p,ys,ks,rfl,sq,by omega,⟨by omega,λi v ev=>?_⟩,hc.2,λis r hp hs hr=>?_⟩
  .have(d,ed,dv):=ds.get' ev
   have kd:=CT ek ed;unfold wk at kd;split at kd
   .rename_i m n y
    have kd:=qw kd;have(a,zs,rfl,h1,h2):=DF.aI dv;cases h2 with
    | @cons z1 _ _ _ h3 t=>
     cases t with
     | @cons z2 _ _ _ h4 t=>
      cases t with
      | @cons z3 _ _ _ h5 t=>
       cases t;cases DF.int_inv h3;cases DF.int_inv h4;exact⟨a,m,n,z3,rfl,bg.sq h1,kd.symm⟩
   .cases kd
  .have sm:=iH hr (.lst<|is.map λi=>ys.getD i .aK)
   have lt:∀i∈is,i < xs.length:=λi hi=>by
    have:=Õ.mp (hp.mem_iff.mp hi);omega
   have ext:(ĥ xs.length).map (λi=>xs.getD i .none)=xs:=by
    apply a0t;intro j;rw[ė]
    by_cases hj:j < xs.length
    .rw[a1u hj,a2n,qA,ql hj]
     rfl
    .rw[ų (by simpa using hj),ų (by omega)]
     rfl
   have tw:(is.map λi=>xs.getD i .none).Perm xs:=by
    have:=hp.map λi=>xs.getD i .none;rw[ly,ext]at this;exact this
   have s9:(is.map λi=>xs.getD i .none).Pairwise tJ:=by
    rw[a1Y]at hs ⊢;refine hs.imp_of_mem λ{i j} hi hj de=>?_;have gi:=ql (lt i hi);have gj:=ql (lt j hj);refine⟨_,_,?_,?_,de⟩
    .rw[qA,gi]
     exact CT ek gi
    .rw[qA,gj]
     exact CT ek gj
   rw[Pc tw s9]at q;refine q _ _ sm ⟨r,_,rfl,zD,?_⟩ λ_=>⟨r,rfl,hr⟩;refine aO.kp sm.kp ?_;clear hs hp tw s9 q sm
   induction is with
   |nil=>exact .nil
   |cons i is ih=>
    refine .cons ?_<|ih λj hj=>lt j<|qm _ hj;have gi:=ql (lt i qo);have(v,ev,dv):=ds.get gi;dsimp only;rw[qA,qA,gi,ev];exact dv
 .cases e
end
inductive E3 {a b c:Type} (p:a->b->c->Prop):Prop
 |mk (xa xb xc) (y:p xa xb xc):E3 p
inductive E5 {a b c d e:Type} (p:a->b->c->d->e->Prop):Prop
 |mk (xa xb xc xd xe) (y:p xa xb xc xd xe):E5 p
inductive E6 {a b c d e f:Type} (p:a->b->c->d->e->f->Prop):Prop
 |mk (xa xb xc xd xe xf) (y:p xa xb xc xd xe xf):E6 p
inductive E7 {a b c d e f g:Type} (p:a->b->c->d->e->f->g->Prop):Prop
 |mk (xa xb xc xd xe xf xg) (y:p xa xb xc xd xe xf xg):E7 p
inductive E8 {a b c d e f g h:Type} (p:a->b->c->d->e->f->g->h->Prop):Prop
 |mk (xa xb xc xd xe xf xg xh) (y:p xa xb xc xd xe xf xg xh):E8 p
section
def Gb(w:U):Qb (D×U):=w.lo.bind λxs=>(xs[xs.length - 1]?).bind λx=>ž (x,.l xs.dropLast)
def Ga(i:Nat):ME:=λρ=>(ρ[i]?).join.bind λw=>(Gb w).bind λz=>ž (.u<|.d z.1,ρ.set i<|some z.2)
theorem aO.Bi{ds:Qa D}(h:aO K H vs ds):aO K H vs.dropLast ds.dropLast:=by
 refine h.ind (P:=λvs ds=>aO K H vs.dropLast ds.dropLast) .nil λa t ih=>?_;cases t with
 |nil=>exact .nil
 |cons b t=>exact .cons a ih
theorem zAc:VE K (F0 K "list" SE<|nF i) (Ga i):=by
 intro ρ σ H a ao Q r e q;have(w,e0,e):=bQ e;obtain⟨⟨x,w'⟩,ez,e⟩:=bQ e;cases e;have(xs,ex,ez):=bQ ez;have(y,ey,ez):=bQ ez;cases ez;cases Yw ex;have(v0,jB,p0):=r.rep i _ (DG e0);have(l,us,rfl,hl,ds):=p0;have(z,hz,dz):=ds.get ey;have kp:=nI hl trivial (.lst us.dropLast);have ln:=ds.len;refine⟨_,jB,.inl ⟨rfl,us,bZ.of hl⟩,l,us,z,rfl,rfl,hl,by rw[ln];exact hz,q _ _ (Go.own (u':=.l xs.dropLast) r (DG e0) rfl jB ⟨l,_,rfl,zD,(ds.kp kp).Bi⟩) ⟨DF.kp kp dz,Nw.data⟩⟩
end
section
variable{QE:Ar×En->Prop}{ρ:En}
theorem zo6:Wo (Ga i ρ) QE=Wo (ρ[i]?).join (Co (λw=>(Gb w).bind λz=>ž (.u<|.d z.1,ρ.set i<|some z.2)) ⟨0⟩ QE):=by
 show Wo (Ξ _ _) QE=_;rw[zw]
end
theorem P4{xs:Qa D}{x:D}:Gb (.l<|xs++[x])=ž (x,.l xs):=by
 show((xs++[x])[(xs++[x]).length - 1]?).bind (λy=>ž (y,U.l (xs++[x]).dropLast))=_;rw[qr,List.dropLast_concat];simp
structure rl (K:qc) (x qual:Str) (st:Ş) (d:Int) (f:Qg) (fd:ū):Prop where
 ex:∃(oc:Qc) (od:Qb Qg) (dA:Qg) (kV doc pm:Qc) (an:Qb Qg) (aQ ct:Qc) (jU:Array (Qb Qc)) (oT:Obj) (tk:Tok) (m0:Nat),
  fd=ņ x qual (kP st) (gN st) (zI st) (.ref dA) kV doc pm an aQ ct/\K.lookup f=ž ⟨oc,od,.func fd,jU⟩/\ϊ K aQ qual=ż/\K.lookup dA=ž oT/\oT.data=.seq #[.int d tk] m0
 kp:ĵ K (.ref f)=ż
section
theorem rl.Jm{f:Qg}{k:Nat}{m:MS}{d:Int}(F:rl K x qual st d f fd)(S:aX N ps (zI st))(tm:ps.length=n)(hN:N.length=nn)(kZ:n<=nn)
  (bh:∀(aQ:Qc) (A:Qf) (outer:Qa Env) (s:Qd) (H:Hp) (E:XK),aF k (A.deeper<|θ qual (zI st) s.heap.objs.size f aQ)->kM (jr (lz P w K) P w K mg base N qual (zI st) f aQ A outer s H E) (vw E)->
   ∃t,Wr (dR (jr (lz P w K) P w K mg base N qual (zI st) f aQ A outer s H E) (gN st) t)/\VS K pn (vw E) t m):bI P w K mg base (lz P w K) (k+1) f fd ps (As K n<|tQ nn pn m):=by
 have(oc,od,dA,kV,doc,pm,an,aQ,ct,jU,oT,tk,m0,rfl,lk,iJ,_):=F.ex;refine GL lk iJ S (λvs H Q E h=>?_) λA outer s H vs Q E hr h=>?_
 .have(us,r,hl,rs,_):=h
  have:=rs.len;unfold sm eB at this;simp at this;omega
 have(us,r,hl,rs,ef,q):=h;have(t,wt,vt):=bh aQ A outer s H E hr LL;refine⟨t,wt.run,?_⟩;have(fl,em,ef):=bQ ef;have go:∀(ao:En) (outs:Qa U),dY pn ao 0 us=ž outs->Sn K pn (Ϲ N vs) (Ow (sm us)<|eB vs) H H (sm us++č (N.length - us.length) Ž) (Ϲ N vs) H:=λao outs ho=>H9 rs (by omega) ho;subst hN;cases fl with
 |nx ao=>
  have(os,eo,ef):=bQ (show(dY pn ao 0 us).bind _=_ from ef);cases ef;refine vt _ _ _ _ _ _ _ (.nx ao) _ (go ao _ eo) em λaG H' s'=>?_;exact q _ _ (rS rs s' eo) .aK Nw.data
 |rt u ao=>
  have(os,eo,ef):=bQ (show(dY pn ao 0 us).bind _=_ from ef);cases ef;refine vt _ _ _ _ _ _ _ (.rt u ao) _ (go ao _ eo) em λv aG H' s' p n'=>?_;exact q _ _ (rS rs s' eo) p n'
 |ex x ao=>
  have(os,eo,ef):=bQ (show(dY pn ao 0 us).bind _=_ from ef);cases ef;refine vt _ _ _ _ _ _ _ (.ex x ao) _ (go ao _ eo) em λa aG H' s' hn fl=>?_;have(n,C,fs,ds,rfl,fv,xn,t):=fl;refine⟨C,fs,fv,λH2 Kz kk dm=>?_⟩;exact q a H2 (rS rs (s'.mv hn fv.ext kk dm) eo) hn ⟨n,C,fs,ds,rfl,Kz,xn,t.kp (s'.rs.mv fv.ext kk).2⟩
 |bk=>cases ef
 |ct=>cases ef
end
def BR(K:qc)(x:Str)(st:Ş)(d:Int):Prop:=∃(f:Qg) (fd:ū),rl K x x st d f fd/\Ĩ K ĝ x=ž (ž<|.ref f)
theorem KD{d:Int}{f dA:Qg}{oc:Qc}{od an odT:Qb Qg}{slT:Array (Qb Qc)}{kV doc pm aQ ct clT:Qc}{tk:Tok}{m0:Nat}(a:Ĩ K ĝ x=ž (ž<|.ref f))(l:K.lookup f=ž ⟨oc,od,.func<|ņ x x (kP st) (gN st) (zI st) (.ref dA) kV doc pm an aQ ct,jU⟩)
  (c:ϊ K aQ x=ż) (k:ĵ K (.ref f)=ż) (t:K.lookup dA=ž ⟨clT,odT,.seq #[.int d tk] m0,slT⟩):BR K x st d:=⟨f,_,⟨⟨_,_,_,_,_,_,_,_,_,_,_,_,_,rfl,l,c,t,rfl⟩,k⟩,a⟩
def II(Z:Zs)(x:Str)(st:Ş)(d:Int):Prop:=∃(f:Qg) (fd:ū),rl Z.K x x st d f fd/\Z.mg x=ž (.ref f)
theorem BR.z{d:Int}(a:BR K x st d)(X:K.In h)(G:h.Ns ĝ mg):II ⟨P,w,K,mg,base⟩ x st d:=by
 have(f,fd,F,g):=a;exact⟨f,fd,F,ï X G g⟩
structure tL (P:Qe) (w:Qh) (K:qc) (mg:Str->Qb Qc) (base:Į) (x:Str) (k:Nat) (py ky:Str) (d:Int) (sp:Sp):Prop where
 ex:∃(f:Qg) (fd:ū) (tk:Tok),bI P w K mg base (lz P w K) k f fd [py,ky] sp/\(∀(s:Qd) (u:Qc),K.In s.heap->Ω s fd ⟨[u],[]⟩ [(py,u),(ky,.int d tk)])/\
  (∀(s:Qd) (u v:Qc),K.In s.heap->Ω s fd ⟨[u,v],[]⟩ [(py,u),(ky,v)])/\(∀(s:Qd) (u v:Qc),K.In s.heap->Ω s fd ⟨[u],[(ky,v)]⟩ [(py,u),(ky,v)])/\ĵ K (.ref f)=ż/\mg x=ž (.ref f)
section
variable{X:Cx}{EX:cW}{k:Nat}{py ky:Str}{d:Int}{e2:į}
theorem ZF{f:Qg}{s:Qd}{Q:VK}{as:Qa Qc}{kw:Qa (Str×Qc)}(F:bI X.prog X.w X.K X.mg X.base (lz X.prog X.w X.K) k f fd ps sp)(hr:aF k X.A)(hb:Ω s fd ⟨as,kw⟩ (ps.zip us))(hx:kM X EX)
  (I:Inv X pins σ H s) (r:zY vs us) (h:sp vs H Q (vF EX σ)):Č (Đ X.prog X.w) X.A (call (.ref f) as kw) (EP X pins σ Q) X.xe s:=by
 refine a0B<|Ϯ (F.run X.A X.stack s H ⟨as,kw⟩ us vs Q (vF EX σ) hr I.q9 hb r h) λr s' hq=>?_;cases r with
 |error e=>
  have(a,H',rfl,os,bare,un,aC,a',ea,q):=hq;cases ea;have(hh,g,d,t,sR):=s';obtain rfl:sR=s.os:=os;exact hx pins σ H' _ a (I.call (h':=hh) (g':=g) (d':=d) (t':=t) (ch:=[]) un aC bare (λb z=>absurd z (by simp))) q
 |ok fl=>
  cases fl with
  |ret u=>exact I.after hq
  |next=>exact ō hq
  |brk=>exact ō hq
  |cont=>exact ō hq
def Sh(P:V->Hp->Prop):Qa V->Hp->Prop
 |[v],H=>P v H
 |_,_=>False
theorem ZE{P:V->Hp->Prop}:∀{vs:Qa V} {H:Hp},Sh P vs H->∃v,vs=[v]/\P v H
 |[v],H,h=>⟨v,rfl,h⟩
theorem YQ(C:tL X.prog X.w X.K X.mg X.base x k py ky d sp)(hx:kM X EX)(ha:Wr (PE X e te))(hr:aF k X.A:=by exact aF.mono ‹aF _ _› (by decide))(hg:Gl X x:=by exact rfl)(bY:(x==("__debug__":Str))=Ż:=by decide)
  (he:eM e=ż:=by rfl):Wr (PE X (.Call (.Name x p) [e] [] pos)<|Cy sp EX<|oN te<|oN (tC<|.int d) rB):=by
 have(f,fd,tk,F,hb,_,_,hk,hm):=C.ex;refine⟨λpins s σ H Q I h=>?_⟩;refine Ϙ<|wC I hg hm ?_ bY;refine Ċ (h₀:=X.base) I.ok.mod.j7 hk (aJ (Oj ha.run Nh (lN he) pos pins s σ H (Sh λv H1=>sp [v,.int d] H1 Q<|vF EX σ) I h) λus s1 ⟨vs,H1,I1,r,q⟩=>⟨I1.bP,?_⟩) (lN he)<|qG rfl;have(v,rfl,q):=ZE q;have(u,rfl,ru):=r.one;exact ZF (as:=[u]) (kw:=[]) (us:=[u,.int d tk]) (vs:=[v,.int d]) F hr (hb _ u I1.bP) hx I1 (.cons ru<|.cons ⟨tk,rfl⟩ .nil) q
end
abbrev Zs.XD(Z:Zs)(x:Str)(k:Nat)(py ky:Str)(d:Int)(F:FX):Prop:=tL Z.P Z.w Z.K Z.mg Z.base x k py ky d (As Z.K 2 F)
section
variable{Z:Zs}{py ky:Str}{d:Int}{k:Nat}{m:MS}
theorem zCo(A:II Z x st d)(N:Qa Str)(bh:∀{f},Lf Z x st k pn m N f)(S:aX N [py,ky] (zI st):=by exact⟨rfl,rfl,rfl,by decide +kernel,rfl,by decide +kernel,by decide +kernel⟩)(hN:N.length=nn:=by rfl)(kZ:2<=nn:=by decide)
  (h1:∀(dA:Qg) (kV doc pm:Qc) (an:Qb Qg) (aQ ct:Qc) (s:Qd) (oT:Obj) (tk:Tok) (m0:Nat) (u:Qc),s.heap.get? dA=ž oT->oT.data=.seq #[.int d tk] m0->Ω s (ņ x x (kP st) (gN st) (zI st) (.ref dA) kV doc pm an aQ ct) ⟨[u],[]⟩ [(py,u),(ky,.int d tk)]:=by
   intro _ _ _ _ _ _ _ _ _ _ _ _ h1 h2;exact a1i rfl h1 h2 rfl rfl)
  (h2:∀(dA:Qg) (kV doc pm:Qc) (an:Qb Qg) (aQ ct:Qc) (s:Qd) (oT:Obj) (tk:Tok) (m0:Nat) (u v:Qc),s.heap.get? dA=ž oT->oT.data=.seq #[.int d tk] m0->Ω s (ņ x x (kP st) (gN st) (zI st) (.ref dA) kV doc pm an aQ ct) ⟨[u,v],[]⟩ [(py,u),(ky,v)]:=by
   intro _ _ _ _ _ _ _ _ _ _ _ _ _ h1 h2
   first|exact a5z rfl|exact a1i rfl h1 h2 rfl rfl)
  (h3:∀(dA:Qg) (kV doc pm:Qc) (an:Qb Qg) (aQ ct:Qc) (s:Qd) (oT:Obj) (tk:Tok) (m0:Nat) (u v:Qc),s.heap.get? dA=ž oT->oT.data=.seq #[.int d tk] m0->Ω s (ņ x x (kP st) (gN st) (zI st) (.ref dA) kV doc pm an aQ ct) ⟨[u],[(ky,v)]⟩ [(py,u),(ky,v)]:=by
   intro _ _ _ _ _ _ _ _ _ _ _ _ _ h1 h2
   first|exact a5z rfl|exact a1i rfl h1 h2 rfl rfl):Z.XD x (k+1) py ky d (tQ nn pn m):=by
 have(f,fd,F,g):=A;have ok:=F.Jm (P:=Z.P) (w:=Z.w) (mg:=Z.mg) (base:=Z.base) (k:=k) (pn:=pn) (m:=m) S rfl hN kZ λaQ A outer s H E hr hx=>let ⟨t,a,b⟩:=bh S.nd hr hx;⟨t,b,a⟩;have(oc,od,dA,kV,doc,pm,an,aQ,ct,jU,oT,tk,m0,rfl,lk,iJ,lt,ht):=F.ex;exact⟨⟨f,_,tk,ok,λs u X=>h1 dA kV doc pm an aQ ct s oT tk m0 u (X _ _ lt) ht,λs u v X=>h2 dA kV doc pm an aQ ct s oT tk m0 u v (X _ _ lt) ht,λs u v X=>h3 dA kV doc pm an aQ ct s oT tk m0 u v (X _ _ lt) ht,F.kp,g⟩⟩
end
end Internal
namespace K44
open PySem Internal
noncomputable def top(i:Nat):Ş:=PySem.Challenge.pw_undivide_k44_whole_webs_of_reckonings.main.body.getD i (.Pass ⟨0,0,0,0⟩)
abbrev Pb:Ş:=top 7
abbrev NZ:Ş:=top 8
abbrev Q6:Ş:=top 9
abbrev Rz:Ş:=top 10
abbrev Pa:Ş:=top 11
abbrev QQ:Ş:=top 13
abbrev Q5:Ş:=top 14
abbrev Rv:Ş:=top 15
abbrev RL:Ş:=top 16
abbrev Q4:Ş:=top 17
abbrev Ru:Ş:=top 18
abbrev RK:Ş:=top 19
abbrev R8:Ş:=top 20
abbrev RY:Ş:=top 21
abbrev RW:Ş:=top 22
abbrev Rh:Ş:=top 23
abbrev Rg:Ş:=top 24
abbrev Q3:Ş:=top 25
abbrev R7:Ş:=top 26
abbrev R6:Ş:=top 27
abbrev Se:Ş:=top 28
abbrev RJ:Ş:=top 29
abbrev RV:Ş:=top 30
abbrev RI:Ş:=top 31
abbrev RH:Ş:=top 32
abbrev Rf:Ş:=top 33
abbrev Sd:Ş:=top 34
abbrev Rc:Ş:=top 35
abbrev Rt:Ş:=top 36
abbrev LA:Ş:=top 37
noncomputable def xH:Qa (Str×Qa Str):=[("UndivideError",["ValueError", "Exception", "BaseException", "object"]),("TooMany",["UndivideError", "ValueError", "Exception", "BaseException", "object"]),("NotWhole",["UndivideError", "ValueError", "Exception", "BaseException", "object"])]
def Cg:Qa (Str×Qa Str):=xH.map λt=>(t.1,t.1::t.2)
noncomputable abbrev SN:Qa Str:=["at"]
noncomputable def Mj:Ş->Ş
 |.ClassDef _ _ _ (b::_) _ _ _ _ _ _ _=>b
 |s=>s
abbrev y8:Ş:=Mj (top 2)
theorem zlQ:aX ["self", "at"] ["self", "at"] (zI y8):=⟨rfl,rfl,rfl,by decide +kernel,rfl,by decide +kernel,by decide +kernel⟩
abbrev y0:Ş:=Mj (top 3)
theorem zka:aX ["self", "at"] ["self", "at"] (zI y0):=⟨rfl,rfl,rfl,by decide +kernel,rfl,by decide +kernel,by decide +kernel⟩
section
def Bs(Z:Zs):Prop:=Bl Z.mg ["enumerate", "len", "tuple", "sorted", "int", "range", "abs", "dict", "zip", "max", "isinstance", "bool", "min"]/\XT Z.K xH SN/\(∃G,Z.mg "NOUGHT"=ž (.ref G)/\pM Z.K G [0,1])/\(∃G,Z.mg "ONE"=ž (.ref G)/\pM Z.K G [1,1])/\(∃C,XN Z.K "UndivideError" C/\Z.mg "UndivideError"=ž (.ref C))/\(∃C,XN Z.K "TooMany" C/\Z.mg "TooMany"=ž (.ref C)/\XM Z.K Cg "TooMany" C/\oB Z.P Z.w Z.K Z.mg Z.base "TooMany" C "at")/\(∃C,XN Z.K "NotWhole" C/\Z.mg "NotWhole"=ž (.ref C)/\oB Z.P Z.w Z.K Z.mg Z.base "NotWhole" C "at")
variable{Z:Zs}
def Iz:MS:=(aW<|AG (mB<|af (aV Ż) (af zJ (zf 0)<|mC<|.int 0)<|mC<|.str "number") (aR<|zb (af zJ (zf 0)<|mC<|.int 1)<|zb (mC .none) zn)<|aR<|zb (mC<|.tuple [.int 1,.int 1])<|zb (af zJ (zf 0)<|mC<|.int 1) zn)
def wK:FD:=cY 1 [0] Iz
abbrev Q2(Z:Zs):Prop:=Z.C "leaf_entry" 1 ["row"] 1 wK
theorem zkb(B:Bs Z)(A:dS Z "leaf_entry" Q6):Q2 Z :=
 by obtain⟨hB,_,_,⟨kE,ja,gr⟩,_⟩:=B;exact eK A ["row"] λnd hr=>⟨_,(bE<|SJ (zv<|zp cD (zp zu ze zj) zV) (br<|zd (zp zu ze zj)<|zd rP zm)<|br<|zd (ML gr)<|zd (zp zu ze zj) zm),
 (zO<|zX<|LV (zC cE (zE zB aa zk) zU) (bu<|ae (zE zB aa zk)<|ae rF zi)<|bu<|ae (G1 (v:=.ref kE) rfl ja rfl)<|ae (zE zB aa zk) zi)⟩
def QP:MS:=(zz (zR 2<|af cB (af kI (mC<|.int 7919)<|zf 1)<|mC<|.int 11)
  (zz (aT (mB<|af mf (zf 1)<|bf (f1 cF)<|zb (zf 0) zn) (zR 2<|af bz (zf 0)<|zf 1)<|aT (mB<|af k9 (bf (f1 cF)<|zb (zf 0) zn)<|mC<|.int 0) (zR 2<|af cB (zf 2)<|af kI (af lF (af bz (zf 0)<|af lF (zf 1)<|bf (f1 cF)<|zb (zf 0) zn)<|mC<|.int 2147483629)<|mC<|.int 69623) zS)
  (zz (zR 3<|af cB (af lF (af cB (af kI (af lF (zf 2)<|mC<|.int 2147483629)<|mC<|.int 48271)<|af kI (mC<|.int 40692)<|zf 1)<|mC<|.int 2147483629)<|mC<|.int 1)
  (aW<|dW<|zb (af kI (zf 2)<|bf (f1 mU)<|zb (af KG (zf 2)<|af B6 (mC<|.int 10)<|mC<|.int 18) zn)<|zb (zf 3) zn))))
def DP:FD:=cY 4 [0,1] QP
abbrev QN(Z:Zs):Prop:=Z.C "_law_box" 1 ["_law_script", "_law_k"] 2 DP
theorem zlR(B:Bs Z)(A:dS Z "_law_box" QQ):QN Z :=
 have hB:=B.1;eK A ["_law_script", "_law_k", "_law_cell", "_law_seed"] λnd hr=>⟨_,(zt (zP<|zp cO (zp oQ zj ze) zj)
 (zt (rT<|bK (zv<|zp p8 ze<|cn fW<|zd ze zm) (zP<|zp cy ze ze)<|bK (zv<|zp rO (cn fW<|zd ze zm) zj) (zP<|zp cO ze<|zp oQ (zp oP (zp cy ze<|zp oP ze<|cn fW<|zd ze zm) zj) zj) b8)
 (zt (zP<|zp cO (zp oP (zp cO (zp oQ (zp oP ze zj) zj)<|zp oQ zj ze) zj) zj)
 (bE<|ig<|zd (zp oQ ze<|cn yO<|zd (zp zA4 ze<|zp Wz zj zj) zm)<|zd ze zm)))),
 (aE (zQ<|zZ cP (zZ oV zk aa) zk)
 (aE (rY<|bL (zC pX aa<|cc fS Æ<|ae aa zi) (zO<|zQ<|zE cz aa aa)<|zO<|bL (zC rH (cc fS Æ<|ae aa zi) zk) (zO<|zQ<|zZ cP aa<|zZ oV (zZ oU (zE cz aa<|zZ oU aa<|cc fS Æ<|ae aa zi) zk) zk) b9)
 (aE (zQ<|zZ cP (zZ oU (zZ cP (zZ oV (zZ oU aa zk) zk)<|zZ oV zk aa) zk) zk)
 (zO<|zX<|ij<|ae (zZ oV aa<|nD yW Û<|ae (tZ zAI aa<|zZ VZ zk zk) zi)<|ae aa zi))))⟩
def Q1:MS:=(zz (aT (mB<|af k9 (af bz (zf 0)<|mC<|.int 0)<|mC<|.int 0) (zz (zR 2<|af lF (af bz (zf 0)<|mC<|.int 0)<|zf 1)
  (zz (rR 0 (af yf (af bz (zf 0)<|mC<|.int 0)<|zf 1)<|mC<|.int 0)
  (aW<|zf 2))) zS)
  (zz (zR 3<|af lF (af kI (af bz (zf 0)<|mC<|.int 1)<|mC<|.int 69623)<|mC<|.int 2147483647)
  (zz (rR 0 (af cB (af lF (af cB (af kI (zf 3)<|mC<|.int 48271)<|mC<|.int 30103)<|mC<|.int 2147483629)<|mC<|.int 1)<|mC<|.int 1)
  (aW<|af lF (af yf (af cB (af kI (zf 3)<|mC<|.int 2147483647)<|af bz (zf 0)<|mC<|.int 1)<|mC<|.int 8191)<|zf 1))))
def zr:FD:=cY 4 [0,1] Q1
abbrev wJ(Z:Zs):Prop:=Z.C "_law_take" 1 ["_law_box_here", "_law_wide"] 2 zr
theorem zkc(B:Bs Z)(A:dS Z "_law_take" Q5):wJ Z :=
 have hB:=B.1;eK A ["_law_box_here", "_law_wide", "_law_digit", "_law_one"] λnd hr=>⟨_,(zt (bK (zv<|zp rO (zp cy ze zj) zj) (zt (zP<|zp oP (zp cy ze zj) ze)
 (zt (Dz (zp OF (zp cy ze zj) ze) zj)
 (bE ze))) b8)
 (zt (zP<|zp oP (zp oQ (zp cy ze zj) zj) zj)
 (zt (Dz (zp cO (zp oP (zp cO (zp oQ ze zj) zj) zj) zj) zj)
 (bE<|zp oP (zp OF (zp cO (zp oQ ze zj)<|zp cy ze zj) zj) ze)))),
 (aE (bL (zC rH (zE cz aa zk) zk) (aE (zQ<|zZ oU (zE cz aa zk) aa)
 (aE (jt (zZ PC (zE cz aa zk) aa)<|CB aa zk DB)
 (zO<|zX aa))) b9)
 (aE (zQ<|zZ oU (zZ oV (zE cz aa zk) zk) zk)
 (aE (jt (zZ cP (zZ oU (zZ cP (zZ oV aa zk) zk) zk) zk)<|CB aa zk DB)
 (zO<|zX<|zZ oU (zZ PC (zZ cP (zZ oV aa zk)<|zE cz aa zk) zk) aa))))⟩
def RG:MS:=(zz (zR 2<|bf (f1 xR)<|zb (zf 0) zn)
  (zz (zR 3<|bf (f1 xR)<|zb (zf 1) zn)
  (zz (ub (mB<|af (aV ż) (zf 3)<|mC<|.int 0)<|B2 2 3<|zb (zf 3)<|zb (af lF (zf 2)<|zf 3) zn)
  (zz (aT (mB<|af mf (zf 1)<|mC<|.int 0) (zR 2<|af lG (mC<|.int 0)<|zf 2) zS)
  (aW<|aR<|zb (af Cs (zf 0)<|zf 2)<|zb (af Cs (zf 1)<|zf 2) zn)))))
def sI:FD:=cY 4 [0,1] RG
abbrev Ad(Z:Zs):Prop:=Z.C "_law_fraction" 1 ["_law_n", "_law_d"] 2 sI
theorem zgn(B:Bs Z)(A:dS Z "_law_fraction" RL):Ad Z :=
 have hB:=B.1;eK A ["_law_n", "_law_d", "_law_one", "_law_two"] λnd hr=>⟨_,(zt (zP<|cn M6<|zd ze zm)
 (zt (zP<|cn M6<|zd ze zm)
 (zt (Oz (zv<|zp qD ze zj)<|zA8<|zd ze<|zd (zp oP ze ze) zm)
 (zt (rT<|bK (zv<|zp p8 ze zj) (zP<|zp oR zj ze) b8)
 (bE<|br<|zd (zp OE ze ze)<|zd (zp OE ze ze) zm))))),
 (aE (zQ<|cc Pn a2v<|ae aa zi)
 (aE (zQ<|cc Pn a2v<|ae aa zi)
 (aE (N9 (zC pY aa zk)<|zO<|zAW<|ae aa<|ae (zZ oU aa aa) zi)
 (aE (rY<|bL (zC pX aa zk) (zO<|zQ<|zZ oW zk aa) b9)
 (zO<|zX<|bu<|ae (zZ Pz aa aa)<|ae (zZ Pz aa aa) zi)))))⟩
def RU:MS:=(zz (aT (mB<|af (aV Ż) (af zJ (zf 1)<|mC<|.int 0)<|mC<|.int 0) (aW mZ) zS)
  (aW<|t9 (af pZ (aR<|zb (mC<|.int 0) zn)<|zf 0)<|zf 1))
def uy:FD:=cY 2 [0,1] RU
abbrev D9(Z:Zs):Prop:=Z.C "_law_poly_number" 1 ["_law_many", "_law_f"] 2 uy
theorem zeT(B:Bs Z)(A:dS Z "_law_poly_number" RY):D9 Z :=
 have hB:=B.1;eK A ["_law_many", "_law_f"] λnd hr=>⟨_,(zt (bK (zv<|zp cD (zp zu ze zj) zj) (bE ui) b8)
 (bE<|Di (zp Dr (br<|zd zj zm) ze) ze)),
 (aE (bL (zC cE (zE zB aa zk) zk) (zO<|zX uq) b9)
 (zO<|zX<|Dj hr (zZ (Ds _ rfl) (bu<|ae zk zi) aa) aa))⟩
def RT:MS:=(aW<|t9 (af wu (af wu (af pZ (aR<|zb (mC<|.int 0) zn)<|zf 1)<|aR<|zb (mC<|.int 1) zn)<|af pZ (aR<|zb (mC<|.int 0) zn)<|af lG (af lG (zf 0)<|zf 1)<|mC<|.int 1)<|aR<|zb (mC<|.int 1)<|zb (mC<|.int 1) zn)
def wN:FD:=cY 2 [0,1] RT
abbrev IE(Z:Zs):Prop:=Z.C "_law_poly_letter" 1 ["_law_many", "_law_k"] 2 wN
theorem zeU(B:Bs Z)(A:dS Z "_law_poly_letter" RW):IE Z :=
 have hB:=B.1;eK A ["_law_many", "_law_k"] λnd hr=>⟨_,(bE<|Di (zp PJ (zp PJ (zp Dr (br<|zd zj zm) ze)<|br<|zd zj zm)<|zp Dr (br<|zd zj zm)<|zp oR (zp oR ze ze) zj)<|br<|zd zj<|zd zj zm),
 (zO<|zX<|Dj hr (zZ PK (zZ PK (zZ (Ds _ rfl) (bu<|ae zk zi) aa)<|bu<|ae zk zi)<|zZ (Ds _ rfl) (bu<|ae zk zi)<|zZ oW (zZ oW aa aa) zk)<|bu<|ae zk<|ae zk zi)⟩
def wO:MS:=(zz (aT (eQ (mB<|af (aV Ż) (af zJ (zf 0)<|mC<|.int 0)<|mC<|.str "number")<|mB<|af (aV Ż) (af zJ (zf 0)<|mC<|.int 0)<|mC<|.str "letter") (aW<|aR<|zb (mC<|.int 1)<|zb (mC<|.int 0) zn) zS)
  (zz (gX (af bz (zf 1)<|af zJ (zf 0)<|mC<|.int 1)<|fG 2<|zW (zF 2)<|zW (zF 3) gC)
  (zz (gX (af bz (zf 1)<|af zJ (zf 0)<|mC<|.int 2)<|fG 2<|zW (zF 4)<|zW (zF 5) gC)
  (zz (aT (mB<|af (aV Ż) (af zJ (zf 0)<|mC<|.int 0)<|mC<|.str "times") (aW<|aR<|zb (af cB (zf 2)<|zf 4)<|zb (af cB (zf 3)<|zf 5) zn) zS)
  (zz (aT (mB<|af (aV Ż) (af zJ (zf 0)<|mC<|.int 0)<|mC<|.str "over") (aW<|aR<|zb (af cB (zf 2)<|zf 5)<|zb (af cB (zf 3)<|zf 4) zn) zS)
  (aW<|aR<|zb (bf ye<|zb (af cB (zf 2)<|zf 5)<|zb (af cB (zf 4)<|zf 3) zn)<|zb (af cB (zf 3)<|zf 5) zn))))))
def zT:FD:=cY 6 [0,1] wO
abbrev zev(Z:Zs):Prop:=Z.C "_law_weight" 1 ["_law_row", "_law_heavy"] 2 zT
theorem zh8(B:Bs Z)(A:dS Z "_law_weight" Rg):zev Z :=
 have hB:=B.1;eK A ["_law_row", "_law_heavy", "_law_a", "_law_b", "_law_c", "_law_d"] λnd hr=>⟨_,(zt (bK (fQ (zv<|zp cD (zp zu ze zj) zV)<|zv<|zp cD (zp zu ze zj) zV) (bE<|br<|zd zj<|zd zj zm) b8)
 (zt (mY (zp cy ze<|zp zu ze zj)<|jL<|cQ zH<|cQ zH jM)
 (zt (mY (zp cy ze<|zp zu ze zj)<|jL<|cQ zH<|cQ zH jM)
 (zt (bK (zv<|zp cD (zp zu ze zj) zV) (bE<|br<|zd (zp cO ze ze)<|zd (zp cO ze ze) zm) b8)
 (zt (bK (zv<|zp cD (zp zu ze zj) zV) (bE<|br<|zd (zp cO ze ze)<|zd (zp cO ze ze) zm) b8)
 (bE<|br<|zd (cn OD<|zd (zp cO ze ze)<|zd (zp cO ze ze) zm)<|zd (zp cO ze ze) zm)))))),
 (aE (bL (fP<|fU (zC cE (zE zB aa zk) zU)<|jx<|zC cE (zE zB aa zk) zU) (zO<|zX<|bu<|ae zk<|ae zk zi) b9)
 (aE (jt (zE cz aa<|zE zB aa zk)<|jN<|cR zG<|cR zG jO)
 (aE (jt (zE cz aa<|zE zB aa zk)<|jN<|cR zG<|cR zG jO)
 (aE (bL (zC cE (zE zB aa zk) zU) (zO<|zX<|bu<|ae (zZ cP aa aa)<|ae (zZ cP aa aa) zi) b9)
 (aE (bL (zC cE (zE zB aa zk) zU) (zO<|zX<|bu<|ae (zZ cP aa aa)<|ae (zZ cP aa aa) zi) b9)
 (zO<|zX<|bu<|ae (cc (Qs rfl) ā<|ae (zZ cP aa aa)<|ae (zZ cP aa aa) zi)<|ae (zZ cP aa aa) zi))))))⟩
def ID:MS:=(zz (gX (zf 0)<|fG 2<|zW (zF 2)<|zW (zF 3) gC)
  (zz (aT (mB<|af (aV Ż) (af zJ (zf 2)<|mC<|.int 0)<|mC<|.int 0) (aW mZ) zS)
  (aW<|t9 (bf (f1 rW)<|zb (nR (mT<|zb (zf 1) zn) 1 [3] (zF 0) tV<|bf (f1 mU)<|zb (af (aV Ż) (zf 0)<|zf 1) zn) zn)<|zf 2)))
def Ac:FD:=cY 4 [0,1] ID
abbrev Sb(Z:Zs):Prop:=Z.C "_law_entry_poly" 1 ["_law_entry", "_law_many"] 2 Ac
theorem zfn(B:Bs Z)(A:dS Z "_law_entry_poly" Se):Sb Z :=
 have hB:=B.1;eK A ["_law_entry", "_law_many", "_law_f", "_law_letter"] λnd hr=>⟨_,(zt (mY ze<|jL<|cQ zH<|cQ zH jM)
 (zt (bK (zv<|zp cD (zp zu ze zj) zj) (bE ui) b8)
 (bE<|Di (cn yR<|zd (vC (uj<|zd ze zm) zH CO<|cn yO<|zd (zp cD ze ze) zm) zm) ze))),
 (aE (jt aa<|jN<|cR zG<|cR zG jO)
 (aE (bL (zC cE (zE zB aa zk) zk) (zO<|zX uq) b9)
 (zO<|zX<|Dj hr (nD yV Ï<|ae (FT (uu<|ae aa zi) zG CA<|nD yW Û<|ae (tZ cE aa aa) zi) zi) aa)))⟩
def RF:MS:=(aW<|t7 (cI (iN "int")<|zf 0)<|yc<|cI (iN "bool")<|zf 0)
def uz:FD:=cY 1 [0] RF
abbrev IF(Z:Zs):Prop:=Z.C "_law_is_whole" 1 ["_law_thing"] 1 uz
theorem zgo(B:Bs Z)(A:dS Z "_law_is_whole" RH):IF Z :=
 have hB:=B.1;eK A ["_law_thing"] λnd hr=>⟨_,(bE<|CS (mX (T := "int") ze)<|M5<|mX (T := "bool") ze),
 (zO<|zX<|Ck (cc mV Å<|ae aa<|ae (m3 (v:=.ty "int") Û rfl) zi)<|GD<|w_not<|cc mV Å<|ae aa<|ae (m3 (v:=.ty "bool") û rfl) zi)⟩
def Rb:MS:=(zz (zR 1<|dW zn)
  (zz (hU (i5 rC<|zf 0) (zF 2)<|aT (eQ (mB<|af (aV Ż) (af zJ (zf 2)<|mC<|.int 0)<|mC<|.str "number")<|mB<|af (aV Ż) (af zJ (zf 2)<|mC<|.int 0)<|mC<|.str "letter") (du<|cX 1<|mC<|.int 1)<|du<|cX 1<|af cB (af cB (af bz (zf 1)<|af zJ (zf 2)<|mC<|.int 1)<|af bz (zf 1)<|af zJ (zf 2)<|mC<|.int 2)<|bf (f1 mU)<|zb (af (nh Ż) (af zJ (zf 2)<|mC<|.int 0)<|aR<|zb (mC<|.str "less")<|zb (mC<|.str "times") zn) zn)
  (oK [0] 1)))
def D3:FD:=cY 3 [0] Rb
abbrev Ra(Z:Zs):Prop:=Z.C "_law_widths" 1 ["_law_rows"] 1 D3
theorem zh9(B:Bs Z)(A:dS Z "_law_widths" Rc):Ra Z :=
 have hB:=B.1;eK A ["_law_rows", "_law_found", "_law_row"] λnd hr=>⟨_,(zt (zP<|ig zm)
 (zt (jK (yz ze) zH<|bK (fQ (zv<|zp cD (zp zu ze zj) zV)<|zv<|zp cD (zp zu ze zj) zV) (gF<|gB zj)<|gF<|gB<|zp cO (zp cO (zp cy ze<|zp zu ze zj)<|zp cy ze<|zp zu ze zj)<|cn yO<|zd (zp (B9 Ż) (zp zu ze zj)<|br<|zd zV<|zd zV zm) zm)
 yA)),
 (aE (zQ<|ij zi)
 (aE (jJ (yn aa) zG<|zO<|bL (fP<|fU (zC cE (zE zB aa zk) zU)<|jx<|zC cE (zE zB aa zk) zU) (zO<|gG<|fF _ rfl Á Â Ã gD aa<|ae zk zi)<|zO<|gG<|fF _ rfl Á Â Ã gD aa<|ae (zZ cP (zZ cP (zE cz aa<|zE zB aa zk)<|zE cz aa<|zE zB aa zk)<|nD yW Û<|ae (tZ FR (zE zB aa zk) (bu<|ae zU<|ae zU zi) rfl) zi) zi)
 (zO<|zX aa)))⟩
def Rr:MS:=(zz (zR 2<|dW zn)
  (zz (zR 3<|dW<|zb (aR<|zb (af lG (bf (f1 cF)<|zb (zf 0) zn)<|mC<|.int 1)<|zb (mC<|.int 0)<|zb (af cB (af bz (zf 1)<|cI iF<|mC<|.int 1)<|mC<|.int 1)<|zb (mC<|.int 1) zn) zn)
  (zz (ub (B4<|zf 3) (zz (gX (Ga 3)<|fG 4<|zW (zF 4)<|zW (zF 5)<|zW (zF 6)<|zW (zF 7) gC)
  (zz (zR 8<|af zJ (zf 0)<|zf 4)
  (zz (aT (eQ (mB<|af (aV Ż) (af zJ (zf 8)<|mC<|.int 0)<|mC<|.str "number")<|mB<|af (aV Ż) (af zJ (zf 8)<|mC<|.int 0)<|mC<|.str "letter") (zz (du<|cX 2<|aR<|zb (zf 5)<|zb (zf 7)<|zb (zK wK<|zb (zf 8) zn) zn)
  (zz (du<|cX 2<|aR<|zb (zf 7)<|zb (zf 6)<|zb (aR<|zb (mC<|.tuple [.int 1,.int 1])<|zb (mC .none) zn) zn)
  (λρ=>ž<|.ct ρ))) zS)
  (zz (zR 9<|af cB (zf 7)<|af bz (zf 1)<|af zJ (zf 8)<|mC<|.int 1)
  (aT (mB<|af (aV Ż) (af zJ (zf 8)<|mC<|.int 0)<|mC<|.str "plus") (zz (du<|cX 3<|aR<|zb (af zJ (zf 8)<|mC<|.int 1)<|zb (zf 5)<|zb (zf 6)<|zb (zf 7) zn)
  (du<|cX 3<|aR<|zb (af zJ (zf 8)<|mC<|.int 2)<|zb (zf 5)<|zb (zf 6)<|zb (zf 9) zn))<|aT (mB<|af (aV Ż) (af zJ (zf 8)<|mC<|.int 0)<|mC<|.str "less") (zz (du<|cX 2<|aR<|zb (zf 5)<|zb (zf 9)<|zb (aR<|zb (aR<|zb (cI iF<|mC<|.int 1)<|zb (mC<|.int 1) zn)<|zb (mC .none) zn) zn)
  (zz (du<|cX 3<|aR<|zb (af zJ (zf 8)<|mC<|.int 1)<|zb (zf 5)<|zb (zf 6)<|zb (zf 7) zn)
  (du<|cX 3<|aR<|zb (af zJ (zf 8)<|mC<|.int 2)<|zb (zf 9)<|zb (zf 6)<|zb (af cB (zf 9)<|mC<|.int 1) zn))) (zz (du<|cX 3<|aR<|zb (af zJ (zf 8)<|mC<|.int 1)<|zb (zf 5)<|zb (zf 9)<|zb (zf 7) zn)
  (du<|cX 3<|aR<|zb (af zJ (zf 8)<|mC<|.int 2)<|zb (zf 9)<|zb (zf 6)<|zb (af cB (zf 9)<|mC<|.int 1) zn))))))))
  (oK [0,1] 2))))
def D6:FD:=cY 10 [0,1] Rr
abbrev Rq(Z:Zs):Prop:=Z.C "opened_ways" 2 ["rows", "wide"] 2 D6
theorem zix(B:Bs Z)(A:dS Z "opened_ways" Rz)(c0:Q2 Z):Rq Z :=
 by obtain⟨hB,_,_,⟨kE,ja,gr⟩,_⟩:=B;exact eK A ["rows", "wide", "ways", "waiting", "at", "start", "end", "own", "row", "between"] λnd hr=>⟨_,(zt (zP<|ig zm)
 (zt (zP<|ig<|zd (br<|zd (zp oR (cn fW<|zd ze zm) zj)<|zd zj<|zd (zp cO (zp cy ze<|kJ lQ zj) zj)<|zd zj zm) zm)
 (zt (Oz (Wt ze) (zt (mY (zAc)<|jL<|cQ zH<|cQ zH<|cQ zH<|cQ zH jM)
 (zt (zP<|zp zu ze ze)
 (zt (bK (fQ (zv<|zp cD (zp zu ze zj) zV)<|zv<|zp cD (zp zu ze zj) zV) (zt (gF<|gB<|br<|zd ze<|zd ze<|zd (zM 1<|zd ze zm) zm)
 (zt (gF<|gB<|br<|zd ze<|zd ze<|zd (br<|zd (ML gr)<|zd rP zm) zm)
 Ws)) b8)
 (zt (zP<|zp cO ze<|zp cy ze<|zp zu ze zj)
 (bK (zv<|zp cD (zp zu ze zj) zV) (zt (gF<|gB<|br<|zd (zp zu ze zj)<|zd ze<|zd ze<|zd ze zm)
 (gF<|gB<|br<|zd (zp zu ze zj)<|zd ze<|zd ze<|zd ze zm))<|bK (zv<|zp cD (zp zu ze zj) zV) (zt (gF<|gB<|br<|zd ze<|zd ze<|zd (br<|zd (br<|zd (kJ lQ zj)<|zd zj zm)<|zd rP zm) zm)
 (zt (gF<|gB<|br<|zd (zp zu ze zj)<|zd ze<|zd ze<|zd ze zm)
 (gF<|gB<|br<|zd (zp zu ze zj)<|zd ze<|zd ze<|zd (zp cO ze zj) zm))) (zt (gF<|gB<|br<|zd (zp zu ze zj)<|zd ze<|zd ze<|zd ze zm)
 (gF<|gB<|br<|zd (zp zu ze zj)<|zd ze<|zd ze<|zd (zp cO ze zj) zm))))))))
 yA))),
 (aE (zQ<|ij zi)
 (aE (zQ<|ij<|ae (bu<|ae (zZ oW (cc fS Æ<|ae aa zi) zk)<|ae zk<|ae (zZ cP (zE cz aa<|lH lO zk) zk)<|ae zk zi) zi)
 (aE (N9 (zAV aa) (aE (jt (zAX _ rfl Á PySem.F.slot_list_pop PySem.F.type_list_pop Wh aa)<|jN<|cR zG<|cR zG<|cR zG<|cR zG jO)
 (aE (zQ<|zE zB aa aa)
 (aE (bL (fP<|fU (zC cE (zE zB aa zk) zU)<|jx<|zC cE (zE zB aa zk) zU) (aE (gG<|fF _ rfl Á Â Ã gD aa<|ae (bu<|ae aa<|ae aa<|ae (zL<|ae aa zi) zi) zi)
 (aE (gG<|fF _ rfl Á Â Ã gD aa<|ae (bu<|ae aa<|ae aa<|ae (bu<|ae (G1 (v:=.ref kE) rfl ja rfl)<|ae rF zi) zi) zi)
 (zO zmk))) b9)
 (aE (zQ<|zZ cP aa<|zE cz aa<|zE zB aa zk)
 (zO<|bL (zC cE (zE zB aa zk) zU) (aE (gG<|fF _ rfl Á Â Ã gD aa<|ae (bu<|ae (zE zB aa zk)<|ae aa<|ae aa<|ae aa zi) zi)
 (zO<|gG<|fF _ rfl Á Â Ã gD aa<|ae (bu<|ae (zE zB aa zk)<|ae aa<|ae aa<|ae aa zi) zi))<|zO<|bL (zC cE (zE zB aa zk) zU) (aE (gG<|fF _ rfl Á Â Ã gD aa<|ae (bu<|ae aa<|ae aa<|ae (bu<|ae (bu<|ae (lH lO zk)<|ae zk zi)<|ae rF zi) zi) zi)
 (aE (gG<|fF _ rfl Á Â Ã gD aa<|ae (bu<|ae (zE zB aa zk)<|ae aa<|ae aa<|ae aa zi) zi)
 (zO<|gG<|fF _ rfl Á Â Ã gD aa<|ae (bu<|ae (zE zB aa zk)<|ae aa<|ae aa<|ae (zZ cP aa zk) zi) zi))) (aE (gG<|fF _ rfl Á Â Ã gD aa<|ae (bu<|ae (zE zB aa zk)<|ae aa<|ae aa<|ae aa zi) zi)
 (zO<|gG<|fF _ rfl Á Â Ã gD aa<|ae (bu<|ae (zE zB aa zk)<|ae aa<|ae aa<|ae (zZ cP aa zk) zi) zi))))))))
 (zO<|zX aa))))⟩
def Ro:MS:=(zz (zR 2<|mC<|.str "abcdefghijklmnopqrstuvwxyz")
  (zz (zR 3<|nR (mT<|zb (af cB (mC<|.int 1)<|zK zr<|zb (zf 0)<|zb (mC<|.int 4) zn) zn) 1 [0,2] (zF 0) tV<|af tU (zf 2)<|zK zr<|zb (zf 1)<|zb (mC<|.int 26) zn)
  (zz (zR 4<|zK zr<|zb (zf 0)<|zb (bf (f1 cF)<|zb (zf 3) zn) zn)
  (zz (zR 5<|zK zr<|zb (zf 0)<|zb (mC<|.int 26) zn)
  (zz (zR 6<|dW zn)
  (zz (hU (mT<|zb (zf 1) zn) (zF 7) (zz (zR 8<|af tU (zf 2)<|af lF (af cB (zf 5)<|af kI (mC<|.int 7)<|zf 7)<|mC<|.int 26)
  (zz (zR 9<|af p4 (af p4 (Ep Am vZ (mC<|.str "")<|sW vB (zf 3) sA<|rM<|zf 4)<|zf 8)<|Ep Am vZ (mC<|.str "")<|sW vB (zf 3) (rM<|af cB (zf 4)<|mC<|.int 1) sA)
  (zz (zR 9<|af p4 (zf 9)<|af yk (mC<|.str "q")<|zK zr<|zb (zf 0)<|zb (mC<|.int 2) zn)
  (zz (aT (eQ (mB<|af (nh Ż) (zf 9)<|zf 6)<|mB<|af (nh Ż) (zf 9)<|aR<|zb (mC<|.str "part")<|zb (mC<|.str "end")<|zb (mC<|.str "give")<|zb (mC<|.str "rounds")<|zb (mC<|.str "letters") zn) (zR 9<|af p4 (mC<|.str "zz")<|af tU (zf 2)<|zf 7) zS)
  (du<|cX 6<|zf 9))))))
  (zz (aT (mB<|af (aV Ż) (zK zr<|zb (zf 0)<|zb (mC<|.int 5) zn)<|mC<|.int 0) (zz (zR 10<|af bz (dW<|zb (mC<|.str "ends")<|zb (mC<|.str "pa")<|zb (mC<|.str "gives")<|zb (mC<|.str "giv")<|zb (mC<|.str "x")<|zb (mC<|.str "y")<|zb (mC<|.str "r")<|zb (mC<|.str "rk") zn)<|zK zr<|zb (zf 0)<|zb (mC<|.int 8) zn)
  (aT (mB<|af (nh ż) (zf 10)<|zf 6) (rR 6 (zf 10)<|zK zr<|zb (zf 0)<|zb (zf 1) zn) zS)) zS)
  (aW<|bf (f1 rW)<|zb (zf 6) zn))))))))
def D5:FD:=cY 11 [0,1] Ro
abbrev Rn(Z:Zs):Prop:=Z.C "_law_names" 2 ["_law_box_here", "_law_many"] 2 D5
theorem ziy(B:Bs Z)(A:dS Z "_law_names" Rv)(c0:wJ Z):Rn Z :=
 have hB:=B.1;eK A ["_law_box_here", "_law_many", "_law_alphabet", "_law_signs", "_law_spot", "_law_first", "_law_found", "_law_k", "_law_one", "_law_name", "_law_odd"] λnd hr=>⟨_,(zt (zP zV)
 (zt (zP<|vC (uj<|zd (zp cO zj<|zM 2<|zd ze<|zd zj zm) zm) zH CO<|zp Hb ze<|zM 2<|zd ze<|zd zj zm)
 (zt (zP<|zM 2<|zd ze<|zd (cn fW<|zd ze zm) zm)
 (zt (zP<|zM 2<|zd ze<|zd zj zm)
 (zt (zP<|ig zm)
 (zt (jK (uj<|zd ze zm) zH (zt (zP<|zp Hb ze<|zp oP (zp cO ze<|zp oQ zj ze) zj)
 (zt (zP<|zp Dy (zp Dy (Sq M9 OM zV<|xP HB ze yK<|yJ ze) ze)<|Sq M9 OM zV<|xP HB ze (yJ<|zp cO ze zj) yK)
 (zt (zP<|zp Dy ze<|zp X6 zV<|zM 2<|zd ze<|zd zj zm)
 (zt (rT<|bK (fQ (zv<|zp (B9 Ż) ze ze)<|zv<|zp (B9 Ż) ze<|br<|zd zV<|zd zV<|zd zV<|zd zV<|zd zV zm) (zP<|zp Dy zV<|zp Hb ze ze) b8)
 (gF<|gB ze))))))
 (zt (rT<|bK (zv<|zp cD (zM 2<|zd ze<|zd zj zm) zj) (zt (zP<|zp cy (ig<|zd zV<|zd zV<|zd zV<|zd zV<|zd zV<|zd zV<|zd zV<|zd zV zm)<|zM 2<|zd ze<|zd zj zm)
 (bK (zv<|zp (B9 ż) ze ze) (Dz ze<|zM 2<|zd ze<|zd ze zm) b8)) b8)
 (bE<|cn yR<|zd ze zm)))))))),
 (aE (zQ zU)
 (aE (GN (uu<|ae (zZ cP zk<|zL<|ae aa<|ae zk zi) zi) zG CA<|zE G5 aa<|zL<|ae aa<|ae zk zi)
 (aE (zQ<|zL<|ae aa<|ae (cc fS Æ<|ae aa zi) zi)
 (aE (zQ<|zL<|ae aa<|ae zk zi)
 (aE (zQ<|ij zi)
 (aE (jJ (uu<|ae aa zi) zG (aE (zQ<|zE G5 aa<|zZ oU (zZ cP aa<|zZ oV zk aa) zk)
 (aE (zQ<|zZ DJ (zZ DJ (fF _ rfl a3h a3r a3p (N7 _ rfl) zU<|ae (yC GO aa yE<|yD aa) zi) aa)<|fF _ rfl a3h a3r a3p (N7 _ rfl) zU<|ae (yC GO aa (yD<|zZ cP aa zk) yE) zi)
 (aE (zQ<|zZ DJ aa<|zZ zmm zU<|zL<|ae aa<|ae zk zi)
 (aE (rY<|bL (fP<|fU (zC FR aa aa rfl)<|jx<|zC FR aa (bu<|ae zU<|ae zU<|ae zU<|ae zU<|ae zU zi) rfl) (zO<|zQ<|zZ DJ zU<|zE G5 aa aa) b9)
 (zO<|gG<|fF _ rfl Á Â Ã gD aa<|ae aa zi))))))
 (aE (rY<|bL (zC cE (zL<|ae aa<|ae zk zi) zk) (aE (zQ<|zE cz (ij<|ae zU<|ae zU<|ae zU<|ae zU<|ae zU<|ae zU<|ae zU<|ae zU zi)<|zL<|ae aa<|ae zk zi)
 (zO<|bL (zC Zd aa aa rfl) (zO<|jt aa<|CB aa (zL<|ae aa<|ae aa zi) DB) b9)) b9)
 (zO<|zX<|nD yV Ï<|ae aa zi))))))))⟩
def Q0:MS:=(aW<|zK sI<|zb (af cB (af t5 (af zJ (zf 0)<|mC<|.int 0)<|af zJ (zf 1)<|mC<|.int 1)<|af t5 (af zJ (zf 1)<|mC<|.int 0)<|af zJ (zf 0)<|mC<|.int 1)<|zb (af t5 (af zJ (zf 0)<|mC<|.int 1)<|af zJ (zf 1)<|mC<|.int 1) zn)
def Aa:FD:=cY 2 [0,1] Q0
abbrev Iy(Z:Zs):Prop:=Z.C "_law_plus" 2 ["_law_one", "_law_other"] 2 Aa
theorem zkd(B:Bs Z)(A:dS Z "_law_plus" Q4)(c0:Ad Z):Iy Z :=
 have hB:=B.1;eK A ["_law_one", "_law_other"] λnd hr=>⟨_,(bE<|zM 2<|zd (zp cO (zp yH (zp zu ze zj)<|zp zu ze zj)<|zp yH (zp zu ze zj)<|zp zu ze zj)<|zd (zp yH (zp zu ze zj)<|zp zu ze zj) zm),
 (zO<|zX<|zL<|ae (zZ cP (zZ yI (zE zB aa zk)<|zE zB aa zk)<|zZ yI (zE zB aa zk)<|zE zB aa zk)<|ae (zZ yI (zE zB aa zk)<|zE zB aa zk) zi)⟩
def Rm:MS:=(aW<|zK sI<|zb (af t5 (af zJ (zf 0)<|mC<|.int 0)<|af zJ (zf 1)<|mC<|.int 0)<|zb (af t5 (af zJ (zf 0)<|mC<|.int 1)<|af zJ (zf 1)<|mC<|.int 1) zn)
def D4:FD:=cY 2 [0,1] Rm
abbrev QZ(Z:Zs):Prop:=Z.C "_law_times" 2 ["_law_one", "_law_other"] 2 D4
theorem ziz(B:Bs Z)(A:dS Z "_law_times" Ru)(c0:Ad Z):QZ Z :=
 have hB:=B.1;eK A ["_law_one", "_law_other"] λnd hr=>⟨_,(bE<|zM 2<|zd (zp yH (zp zu ze zj)<|zp zu ze zj)<|zd (zp yH (zp zu ze zj)<|zp zu ze zj) zm),
 (zO<|zX<|zL<|ae (zZ yI (zE zB aa zk)<|zE zB aa zk)<|ae (zZ yI (zE zB aa zk)<|zE zB aa zk) zi)⟩
def Q9:MS:=(zz (zR 1<|zK zr<|zb (zf 0)<|zb (mC<|.int 12) zn)
  (zz (aT (mB<|af mf (zf 1)<|mC<|.int 7) (aW<|af bz (dW<|zb (aR<|zb (mC<|.int 0)<|zb (mC<|.int 1) zn)<|zb (aR<|zb (mC<|.int 1)<|zb (mC<|.int 1) zn)<|zb (aR<|zb (mC<|.int 1)<|zb (mC<|.int 1) zn)<|zb (aR<|zb (cI iF<|mC<|.int 1)<|zb (mC<|.int 1) zn)<|zb (aR<|zb (mC<|.int 2)<|zb (mC<|.int 1) zn)<|zb (aR<|zb (mC<|.int 1)<|zb (mC<|.int 2) zn)<|zb (aR<|zb (cI iF<|mC<|.int 2)<|zb (mC<|.int 3) zn) zn)<|zf 1) zS)
  (zz (aT (mB<|af mf (zf 1)<|mC<|.int 11) (aW<|zK sI<|zb (af lG (zK zr<|zb (zf 0)<|zb (mC<|.int 19) zn)<|mC<|.int 9)<|zb (af cB (mC<|.int 1)<|zK zr<|zb (zf 0)<|zb (mC<|.int 4) zn) zn) zS)
  (aW<|zK sI<|zb (af lG (zK zr<|zb (zf 0)<|zb (mC<|.int 1999999) zn)<|mC<|.int 999999)<|zb (af cB (mC<|.int 1)<|zK zr<|zb (zf 0)<|zb (mC<|.int 4) zn) zn))))
def sG:FD:=cY 2 [0] Q9
abbrev IC(Z:Zs):Prop:=Z.C "_law_number" 2 ["_law_box_here"] 1 sG
theorem zia(B:Bs Z)(A:dS Z "_law_number" Rh)(c0:wJ Z)(c1:Ad Z):IC Z :=
 have hB:=B.1;eK A ["_law_box_here", "_law_kind"] λnd hr=>⟨_,(zt (zP<|zM 2<|zd ze<|zd zj zm)
 (zt (bK (zv<|zp p8 ze zj) (bE<|zp cy (ig<|zd (br<|zd zj<|zd zj zm)<|zd (br<|zd zj<|zd zj zm)<|zd (br<|zd zj<|zd zj zm)<|zd (br<|zd (kJ lQ zj)<|zd zj zm)<|zd (br<|zd zj<|zd zj zm)<|zd (br<|zd zj<|zd zj zm)<|zd (br<|zd (kJ lQ zj)<|zd zj zm) zm) ze) b8)
 (zt (bK (zv<|zp p8 ze zj) (bE<|zM 2<|zd (zp oR (zM 2<|zd ze<|zd zj zm) zj)<|zd (zp cO zj<|zM 2<|zd ze<|zd zj zm) zm) b8)
 (bE<|zM 2<|zd (zp oR (zM 2<|zd ze<|zd zj zm) zj)<|zd (zp cO zj<|zM 2<|zd ze<|zd zj zm) zm)))),
 (aE (zQ<|zL<|ae aa<|ae zk zi)
 (aE (bL (zC pX aa zk) (zO<|zX<|zE cz (ij<|ae (bu<|ae zk<|ae zk zi)<|ae (bu<|ae zk<|ae zk zi)<|ae (bu<|ae zk<|ae zk zi)<|ae (bu<|ae (lH lO zk)<|ae zk zi)<|ae (bu<|ae zk<|ae zk zi)<|ae (bu<|ae zk<|ae zk zi)<|ae (bu<|ae (lH lO zk)<|ae zk zi) zi) aa) b9)
 (aE (bL (zC pX aa zk) (zO<|zX<|zL<|ae (zZ oW (zL<|ae aa<|ae zk zi) zk)<|ae (zZ cP zk<|zL<|ae aa<|ae zk zi) zi) b9)
 (zO<|zX<|zL<|ae (zZ oW (zL<|ae aa<|ae zk zi) zk)<|ae (zZ cP zk<|zL<|ae aa<|ae zk zi) zi))))⟩
def RQ:MS:=(zz (aT (eQ (hV<|mB<|cI (iN "tuple")<|zf 0)<|mB<|af (aV ż) (bf (f1 cF)<|zb (zf 0) zn)<|mC<|.int 2) (aW<|mC<|.bool Ż) zS)
  (zz (hU (i5 rC<|zf 0) (zF 1)<|aT (eQ (hV<|mB<|cI (iN "int")<|zf 1)<|mB<|cI (iN "bool")<|zf 1) (aW<|mC<|.bool Ż) zS)
  (aW<|t7 (af k9 (af zJ (zf 0)<|mC<|.int 1)<|mC<|.int 0)<|af (pU Ż) (zK sI<|zb (af zJ (zf 0)<|mC<|.int 0)<|zb (af zJ (zf 0)<|mC<|.int 1) zn)<|zf 0)))
def D8:FD:=cY 2 [0] RQ
abbrev RN(Z:Zs):Prop:=Z.C "_law_is_fraction" 2 ["_law_thing"] 1 D8
theorem zeV(B:Bs Z)(A:dS Z "_law_is_fraction" RV)(c0:Ad Z):RN Z :=
 have hB:=B.1;eK A ["_law_thing", "_law_one"] λnd hr=>⟨_,(zt (bK (fQ (ju<|h9<|mX (T := "tuple") ze)<|zv<|zp qD (cn fW<|zd ze zm) zj) (bE iO) b8)
 (zt (jK (yz ze) zH<|bK (fQ (ju<|h9<|mX (T := "int") ze)<|h9<|mX (T := "bool") ze) (bE iO) b8)
 (bE<|CS (zp rO (zp zu ze zj) zj)<|zp (GU Ż) (zM 2<|zd (zp zu ze zj)<|zd (zp zu ze zj) zm) ze))),
 (aE (bL (fP<|fU (jw<|jv<|cc mV Å<|ae aa<|ae (m3 (v:=.ty "tuple") Ï rfl) zi)<|jx<|zC pY (cc fS Æ<|ae aa zi) zk) (zO<|zX iP) b9)
 (aE (jJ (yn aa) zG<|zO<|bL (fP<|fU (jw<|jv<|cc mV Å<|ae aa<|ae (m3 (v:=.ty "int") Û rfl) zi)<|jx<|jv<|cc mV Å<|ae aa<|ae (m3 (v:=.ty "bool") û rfl) zi) (zO<|zX iP) b9)
 (zO<|zX<|Ck (tZ rH (zE zB aa zk) zk)<|GD<|tZ (Wx _ rfl hr) (zL<|ae (zE zB aa zk)<|ae (zE zB aa zk) zi) aa)))⟩
def O9:MS:=(zz (gX (zf 0)<|fG 2<|zW (zF 1)<|zW (zF 2) gC)
  (zz (zR 3<|dW zn)
  (zz (hU (Cq<|zb (zf 2) zn) (fG 2<|zW (zF 4)<|zW (zF 5) gC) (zz (zR 6<|af zJ (zf 5)<|mC<|.int 0)
  (zz (aT (mB<|af (aV Ż) (zf 6)<|mC<|.str "over") (CM<|AF "NotWhole" "at"<|zb (zf 4) zn) zS)
  (aT (eQ (mB<|af (aV Ż) (zf 6)<|mC<|.str "number")<|mB<|af (aV Ż) (zf 6)<|mC<|.str "letter") (du<|cX 3<|mC<|.int 1)<|du<|cX 3<|af cB (af cB (af bz (zf 3)<|af zJ (zf 5)<|mC<|.int 1)<|af bz (zf 3)<|af zJ (zf 5)<|mC<|.int 2)<|AG (mB<|af (aV Ż) (zf 6)<|mC<|.str "plus") (mC<|.int 0)<|mC<|.int 1))))
  (oK [0] 3))))
def yP:FX:=tQ 7 [0] O9
abbrev HK(Z:Zs):Prop:=Z.X "widths" 3 ["reckoning"] 1 yP
theorem ZD(B:Bs Z)(A:dS Z "widths" Pb):HK Z :=
 by obtain⟨hB,_,_,_,_,_,⟨cx,aU,dJ,bD⟩⟩:=B;exact zC1 A ["reckoning", "letters", "rows", "told", "at", "row", "word"] λnd hr hx=>⟨_,(zt (mY ze<|jL<|cQ zH<|cQ zH jM)
 (zt (zP<|ig zm)
 (zt (jK (Zx<|zd ze zm) (jL<|cQ zH<|cQ zH jM) (zt (zP<|zp zu ze zj)
 (zt (bK (zv<|zp cD ze zV) (OI<|OH bD.xn bD.cl bD.na<|zd ze zm) b8)
 (bK (fQ (zv<|zp cD ze zV)<|zv<|zp cD ze zV) (gF<|gB zj)<|gF<|gB<|zp cO (zp cO (zp cy ze<|zp zu ze zj)<|zp cy ze<|zp zu ze zj)<|SJ (zv<|zp cD ze zV) zj zj))))
 yA))),
 (aE (jt aa<|jN<|cR zG<|cR zG jO)
 (aE (zQ<|ij zi)
 (aE (jJ (Zc<|ae aa zi) (jN<|cR zG<|cR zG jO) (aE (zQ<|zE zB aa zk)
 (aE (bL (zC cE aa zU) (zO<|NN _ rfl hr hx<|PM bD<|ae aa zi) b9)
 (zO<|bL (fP<|fU (zC cE aa zU)<|jx<|zC cE aa zU) (zO<|gG<|fF _ rfl Á Â Ã gD aa<|ae zk zi)<|zO<|gG<|fF _ rfl Á Â Ã gD aa<|ae (zZ cP (zZ cP (zE cz aa<|zE zB aa zk)<|zE cz aa<|zE zB aa zk)<|LV (zC cE aa zU) zk zk) zi))))
 (zO<|zX aa))))⟩
def RE:MS:=(zz (zR 3<|bf (f1 wA)<|zb (zf 0) zn)
  (zz (hU (i5 rN<|bX<|zf 1) (zF 4) (zz (zR 5<|aR<|zb (af kI (zf 2)<|af zJ (lJ (zf 1)<|zf 4)<|mC<|.int 0)<|zb (af zJ (lJ (zf 1)<|zf 4)<|mC<|.int 1) zn)
  (p6 3 (zf 4)<|zK Aa<|zb (wq (zf 3) (zf 4)<|aR<|zb (mC<|.int 0)<|zb (mC<|.int 1) zn)<|zb (zf 5) zn)))
  (zz (zR 6 mZ)
  (zz (hU (i5 rN<|bX<|zf 3) (zF 4)<|aT (mB<|af (aV ż) (af zJ (lJ (zf 3)<|zf 4)<|mC<|.int 0)<|mC<|.int 0) (p6 6 (zf 4)<|lJ (zf 3)<|zf 4) zS)
  (oK [0,1,2] 6)))))
def oZ:FD:=cY 7 [0,1,2] RE
abbrev DW(Z:Zs):Prop:=Z.C "_law_poly_add" 3 ["_law_one", "_law_other", "_law_sign"] 3 oZ
theorem zgp(B:Bs Z)(A:dS Z "_law_poly_add" RK)(c0:Iy Z):DW Z :=
 have hB:=B.1;eK A ["_law_one", "_law_other", "_law_sign", "_law_found", "_law_powers", "_law_more", "_law_kept"] λnd hr=>⟨_,(zt (zP<|cn zp4<|zd ze zm)
 (zt (jK (yL<|fD ze) zH (zt (zP<|br<|zd (zp oQ ze<|zp zu (rQ ze ze) zj)<|zd (zp zu (rQ ze ze) zj) zm)
 (CP ze<|zM 2<|zd (NG ze ze<|br<|zd zj<|zd zj zm)<|zd ze zm)))
 (zt (zP ui)
 (zt (jK (yL<|fD ze) zH<|bK (zv<|zp qD (zp zu (rQ ze ze) zj) zj) (CP ze<|rQ ze ze) b8)
 yA)))),
 (aE (zQ<|nD zmS PyProof.Rows.boot_dict<|ae aa zi)
 (aE (jJ (yS<|fE aa) zG (aE (zQ<|bu<|ae (zZ oV aa<|zE zB (rX hr aa aa) zk)<|ae (zE zB (rX hr aa aa) zk) zi)
 (zO<|Cz hr aa aa<|zL<|ae (NH hr aa aa (bu<|ae zk<|ae zk zi) ⟨rfl,rfl,rfl,rfl⟩)<|ae aa zi)))
 (aE (zQ uq)
 (aE (jJ (yS<|fE aa) zG<|zO<|bL (zC pY (zE zB (rX hr aa aa) zk) zk) (zO<|Cz hr aa aa<|rX hr aa aa) b9)
 (zO<|zX aa)))))⟩
def R5:MS:=(zz (zR 2 mZ)
  (zz (hU (i5 rN<|bX<|zf 0) (zF 3)<|hU (i5 rN<|bX<|zf 1) (zF 4) (zz (zR 5<|bf (f1 rW)<|zb (nR (Fn<|zb (zf 3)<|zb (zf 4) zn) 2 [] (fG 2<|zW (zF 0)<|zW (zF 1) gC) tV<|af cB (zf 0)<|zf 1) zn)
  (zz (zR 6<|zK D4<|zb (lJ (zf 0)<|zf 3)<|zb (lJ (zf 1)<|zf 4) zn)
  (p6 2 (zf 5)<|zK Aa<|zb (wq (zf 2) (zf 5)<|aR<|zb (mC<|.int 0)<|zb (mC<|.int 1) zn)<|zb (zf 6) zn))))
  (zz (zR 7 mZ)
  (zz (hU (i5 rN<|bX<|zf 2) (zF 5)<|aT (mB<|af (aV ż) (af zJ (lJ (zf 2)<|zf 5)<|mC<|.int 0)<|mC<|.int 0) (p6 7 (zf 5)<|lJ (zf 2)<|zf 5) zS)
  (oK [0,1] 7)))))
def zq:FD:=cY 8 [0,1] R5
abbrev DZ(Z:Zs):Prop:=Z.C "_law_poly_mult" 3 ["_law_one", "_law_other"] 2 zq
theorem zfZ(B:Bs Z)(A:dS Z "_law_poly_mult" R8)(c0:Iy Z)(c1:QZ Z):DZ Z :=
 have hB:=B.1;eK A ["_law_one", "_law_other", "_law_found", "_law_left", "_law_right", "_law_powers", "_law_more", "_law_kept"] λnd hr=>⟨_,(zt (zP ui)
 (zt (jK (yL<|fD ze) zH<|jK (yL<|fD ze) zH (zt (zP<|cn yR<|zd (vC (Vx<|zd ze<|zd ze zm) (jL<|cQ zH<|cQ zH jM) CO<|zp cO ze ze) zm)
 (zt (zP<|zM 2<|zd (rQ ze ze)<|zd (rQ ze ze) zm)
 (CP ze<|zM 2<|zd (NG ze ze<|br<|zd zj<|zd zj zm)<|zd ze zm))))
 (zt (zP ui)
 (zt (jK (yL<|fD ze) zH<|bK (zv<|zp qD (zp zu (rQ ze ze) zj) zj) (CP ze<|rQ ze ze) b8)
 yA)))),
 (aE (zQ uq)
 (aE (jJ (yS<|fE aa) zG<|zO<|jJ (yS<|fE aa) zG (aE (zQ<|nD yV Ï<|ae (FT (Vy<|ae aa<|ae aa zi) (jN<|cR zG<|cR zG jO) CA<|zZ cP aa aa) zi)
 (aE (zQ<|zL<|ae (rX hr aa aa)<|ae (rX hr aa aa) zi)
 (zO<|Cz hr aa aa<|zL<|ae (NH hr aa aa (bu<|ae zk<|ae zk zi) ⟨rfl,rfl,rfl,rfl⟩)<|ae aa zi))))
 (aE (zQ uq)
 (aE (jJ (yS<|fE aa) zG<|zO<|bL (zC pY (zE zB (rX hr aa aa) zk) zk) (zO<|Cz hr aa aa<|rX hr aa aa) b9)
 (zO<|zX aa)))))⟩
def R4:MS:=(zz (zR 4<|bf (f1 cF)<|zb (zf 1) zn)
  (zz (zR 5<|af bz (dW<|zb (mC<|.str "plus")<|zb (mC<|.str "less")<|zb (mC<|.str "times")<|zb (mC<|.str "times")<|zb (mC<|.str "over")<|zb (mC<|.str "over") zn)<|zK zr<|zb (zf 0)<|zb (mC<|.int 6) zn)
  (zz (aT (eQ (mB<|af (aV Ż) (zf 4)<|mC<|.int 0)<|mB<|af mf (zK zr<|zb (zf 0)<|zb (mC<|.int 9) zn)<|mC<|.int 3) (zz (aT (mB<|af (aV Ż) (zK zr<|zb (zf 0)<|zb (mC<|.int 3) zn)<|mC<|.int 0) (aW<|aR<|zb (mC<|.str "number")<|zb (zK sG<|zb (zf 0) zn) zn) zS)
  (aW<|aR<|zb (mC<|.str "letter")<|zb (zK zr<|zb (zf 0)<|zb (zf 2) zn) zn)) zS)
  (zz (zR 6<|af bz (dW<|zb (af lG (zf 4)<|mC<|.int 1)<|zb (zK zr<|zb (zf 0)<|zb (zf 4) zn) zn)<|zK zr<|zb (zf 0)<|zb (mC<|.int 2) zn)
  (zz (zR 7<|zK zr<|zb (zf 0)<|zb (zf 4) zn)
  (zz (zR 8<|nR (mT<|zb (zf 4) zn) 1 [1] (zF 0) (mB<|af (aV Ż) (af zJ (af bz (zf 1)<|zf 0)<|mC<|.int 0)<|mC<|.str "times")<|zf 0)
  (zz (aT (jn (mB<|af (aV Ż) (zf 5)<|mC<|.str "over")<|jn (mB<|af (aV Ż) (zf 3)<|mC<|.int 1)<|mB<|af k9 (bf (f1 cF)<|zb (zf 8) zn)<|mC<|.int 0) (zz (zR 9<|af bz (zf 8)<|zK zr<|zb (zf 0)<|zb (bf (f1 cF)<|zb (zf 8) zn) zn)
  (aW<|aR<|zb (mC<|.str "over")<|zb (zf 9)<|zb (af zJ (af bz (zf 1)<|zf 9)<|af cB (mC<|.int 1)<|zK zr<|zb (zf 0)<|zb (mC<|.int 2) zn) zn)) zS)
  (zz (aT (jn (mB<|af (aV Ż) (zf 5)<|mC<|.str "over")<|mB<|af mf (zf 3)<|mC<|.int 2) (zR 5<|mC<|.str "times") zS)
  (aW<|aR<|zb (zf 5)<|zb (zf 6)<|zb (zf 7) zn)))))))))
def Ae:FD:=cY 10 [0,1,2,3] R4
abbrev R3(Z:Zs):Prop:=Z.C "_law_drawn_row" 3 ["_law_box_here", "_law_rows", "_law_many", "_law_kind"] 4 Ae
theorem zf0(B:Bs Z)(A:dS Z "_law_drawn_row" R7)(c0:wJ Z)(c1:IC Z):R3 Z :=
 have hB:=B.1;eK A ["_law_box_here", "_law_rows", "_law_many", "_law_kind", "_law_k", "_law_word", "_law_i", "_law_j", "_law_some", "_law_n"] λnd hr=>⟨_,(zt (zP<|cn fW<|zd ze zm)
 (zt (zP<|zp cy (ig<|zd zV<|zd zV<|zd zV<|zd zV<|zd zV<|zd zV zm)<|zM 2<|zd ze<|zd zj zm)
 (zt (bK (fQ (zv<|zp cD ze zj)<|zv<|zp p8 (zM 2<|zd ze<|zd zj zm) zj) (zt (bK (zv<|zp cD (zM 2<|zd ze<|zd zj zm) zj) (bE<|br<|zd zV<|zd (zM 1<|zd ze zm) zm) b8)
 (bE<|br<|zd zV<|zd (zM 2<|zd ze<|zd ze zm) zm)) b8)
 (zt (zP<|zp cy (ig<|zd (zp oR ze zj)<|zd (zM 2<|zd ze<|zd ze zm) zm)<|zM 2<|zd ze<|zd zj zm)
 (zt (zP<|zM 2<|zd ze<|zd ze zm)
 (zt (zP<|vC (uj<|zd ze zm) zH (zv<|zp cD (zp zu (zp cy ze ze) zj) zV) ze)
 (zt (bK (rV (zv<|zp cD ze zV)<|rV (zv<|zp cD ze zj)<|zv<|zp rO (cn fW<|zd ze zm) zj) (zt (zP<|zp cy ze<|zM 2<|zd ze<|zd (cn fW<|zd ze zm) zm)
 (bE<|br<|zd zV<|zd ze<|zd (zp zu (zp cy ze ze)<|zp cO zj<|zM 2<|zd ze<|zd zj zm) zm)) b8)
 (zt (rT<|bK (rV (zv<|zp cD ze zV)<|zv<|zp p8 ze zj) (zP zV) b8)
 (bE<|br<|zd ze<|zd ze<|zd ze zm))))))))),
 (aE (zQ<|cc fS Æ<|ae aa zi)
 (aE (zQ<|zE cz (ij<|ae zU<|ae zU<|ae zU<|ae zU<|ae zU<|ae zU zi)<|zL<|ae aa<|ae zk zi)
 (aE (bL (fP<|fU (zC cE aa zk)<|jx<|zC pX (zL<|ae aa<|ae zk zi) zk) (aE (bL (zC cE (zL<|ae aa<|ae zk zi) zk) (zO<|zX<|bu<|ae zU<|ae (zL<|ae aa zi) zi) b9)
 (zO<|zX<|bu<|ae zU<|ae (zL<|ae aa<|ae aa zi) zi)) b9)
 (aE (zQ<|zE cz (ij<|ae (zZ oW aa zk)<|ae (zL<|ae aa<|ae aa zi) zi)<|zL<|ae aa<|ae zk zi)
 (aE (zQ<|zL<|ae aa<|ae aa zi)
 (aE (GN (uu<|ae aa zi) zG (Nj<|zC cE (zE zB (zE cz aa aa) zk) zU) aa)
 (aE (bL (fP<|rZ (zC cE aa zU)<|rZ (zC cE aa zk)<|ur<|zC rH (cc fS Æ<|ae aa zi) zk) (aE (zQ<|zE cz aa<|zL<|ae aa<|ae (cc fS Æ<|ae aa zi) zi)
 (zO<|zX<|bu<|ae zU<|ae aa<|ae (zE zB (zE cz aa aa)<|zZ cP zk<|zL<|ae aa<|ae zk zi) zi)) b9)
 (aE (rY<|bL (fP<|rZ (zC cE aa zU)<|ur<|zC pX aa zk) (zO<|zQ zU) b9)
 (zO<|zX<|bu<|ae aa<|ae aa<|ae aa zi)))))))))⟩
def RD:MS:=(zz (aT (eQ (hV<|mB<|cI (iN "tuple")<|zf 0)<|eQ (mB<|af (aV ż) (bf (f1 cF)<|zb (zf 0) zn)<|mC<|.int 2)<|hV<|mB<|zK D8<|zb (af zJ (zf 0)<|mC<|.int 0) zn) (aW<|mC<|.bool Ż) zS)
  (zz (aT (jn (mB<|af (aV Ż) (af zJ (af zJ (zf 0)<|mC<|.int 0)<|mC<|.int 0)<|mC<|.int 0)<|hV<|mB<|zf 2) (aW<|mC<|.bool Ż) zS)
  (zz (aT (mB<|af (mO Ż) (af zJ (zf 0)<|mC<|.int 1)<|mC .none) (aW<|mC<|.bool ż) zS)
  (aW<|t7 (cI (iN "int")<|af zJ (zf 0)<|mC<|.int 1)<|t7 (yc<|cI (iN "bool")<|af zJ (zf 0)<|mC<|.int 1)<|yx tE mf (mC<|.int 0) (af zJ (zf 0)<|mC<|.int 1)<|zf 1))))
def DU:FD:=cY 3 [0,1,2] RD
abbrev RC(Z:Zs):Prop:=Z.C "_law_is_entry" 3 ["_law_entry", "_law_many", "_law_may_be_nought"] 3 DU
theorem zgq(B:Bs Z)(A:dS Z "_law_is_entry" RI)(c0:RN Z):RC Z :=
 have hB:=B.1;eK A ["_law_entry", "_law_many", "_law_may_be_nought"] λnd hr=>⟨_,(zt (bK (fQ (ju<|h9<|mX (T := "tuple") ze)<|fQ (zv<|zp qD (cn fW<|zd ze zm) zj)<|ju<|h9<|zM 1<|zd (zp zu ze zj) zm) (bE iO) b8)
 (zt (bK (rV (zv<|zp cD (zp zu (zp zu ze zj) zj) zj)<|ju<|h9 ze) (bE iO) b8)
 (zt (bK (zv<|zp Wp (zp zu ze zj) rP) (bE iO) b8)
 (bE<|CS (mX (T := "int")<|zp zu ze zj)<|CS (M5<|mX (T := "bool")<|zp zu ze zj)<|NM vQ p8 zj (zp zu ze zj) ze)))),
 (aE (bL (fP<|fU (jw<|jv<|cc mV Å<|ae aa<|ae (m3 (v:=.ty "tuple") Ï rfl) zi)<|fU (zC pY (cc fS Æ<|ae aa zi) zk)<|jx<|jw<|jv<|zL<|ae (zE zB aa zk) zi) (zO<|zX iP) b9)
 (aE (bL (fP<|rZ (zC cE (zE zB (zE zB aa zk) zk) zk)<|ur<|jw<|jv aa) (zO<|zX iP) b9)
 (aE (bL (zC VY (zE zB aa zk) rF) (zO<|zX iP) b9)
 (zO<|zX<|Ck (cc mV Å<|ae (zE zB aa zk)<|ae (m3 (v:=.ty "int") Û rfl) zi)<|Ck (w_not<|cc mV Å<|ae (zE zB aa zk)<|ae (m3 (v:=.ty "bool") û rfl) zi)<|GD<|Ze vU pX zk (zE zB aa zk) aa))))⟩
def NY:MS:=(aW<|af bz (pE<|ym yP<|zb (zf 0) zn)<|cI iF<|mC<|.int 1)
def Dg:FD:=cY 1 [0] NY
abbrev ND(Z:Zs):Prop:=Z.C "width" 4 ["reckoning"] 1 Dg
theorem YO(B:Bs Z)(A:dS Z "width" NZ)(c0:HK Z):ND Z :=
 have hB:=B.1;eK A ["reckoning"] λnd hr=>⟨_,(bE<|zp cy (Ha 1<|zd ze zm).1<|kJ lQ zj),
 (zO<|zX<|zE cz (M8 c0 X8<|ae aa zi)<|lH lO zk)⟩
def O8:MS:=(zz (gX (zf 0)<|fG 2<|zW (zF 2)<|zW (zF 3) gC)
  (zz (tR (zR 4)<|ym yP<|zb (zf 0) zn)
  (zz (zR 5<|af cB (af bz (zf 4)<|cI iF<|mC<|.int 1)<|mC<|.int 2)
  (zz (aT (mB<|af k9 (zf 5)<|zf 1) (CM<|AF "TooMany" "at"<|zb (af lG (bf (f1 cF)<|zb (zf 3) zn)<|mC<|.int 1) zn) zS)
  (zz (zR 6<|nR (i5 xQ<|bX<|zK D6<|zb (zf 3)<|zb (zf 4) zn) 1 [] (zF 0) (mB<|cI (Fp ż [0,1])<|af zJ (af zJ (zf 0)<|mC<|.int 2)<|mC<|.int 0)<|zf 0)
  (aW<|aR<|zb (zf 2)<|zb (zf 5)<|zb (bf (f1 rW)<|zb (bf (f1 CU)<|zb (zf 6) zn) zn) zn))))))
def DE:FX:=tQ 7 [0,1] O8
abbrev O7(Z:Zs):Prop:=Z.XD "web_of" 4 "reckoning" "most" 60 DE
theorem ZC(B:Bs Z)(A:II Z "web_of" Pa 60)(c0:HK Z)(c1:Rq Z):O7 Z :=
 by obtain⟨hB,_,⟨eG,gu,e9⟩,_,_,⟨cw,aN,cu,hM,bC⟩,_⟩:=B;exact zCo A ["reckoning", "most", "letters", "rows", "wide", "dots", "ways"] λnd hr hx=>⟨_,(zt (mY ze<|jL<|cQ zH<|cQ zH jM)
 (zt (OJ<|Ha 1<|zd ze zm)
 (zt (zP<|zp cO (zp cy ze<|kJ lQ zj) zj)
 (zt (bK (zv<|zp rO ze ze) (OI<|OH bC.xn bC.cl bC.na<|zd (zp oR (cn fW<|zd ze zm) zj) zm) b8)
 (zt (zP<|vC (OA<|fD<|zM 2<|zd ze<|zd ze zm) zH (zv<|zBU (neg:=ż) e9<|zp zu (zp zu ze zj) zj) ze)
 (bE<|br<|zd ze<|zd ze<|zd (cn yR<|zd (cn ZG<|zd ze zm) zm) zm)))))),
 (aE (jt aa<|jN<|cR zG<|cR zG jO)
 (aE (zQ<|M8 c0 hx<|ae aa zi)
 (aE (zQ<|zZ cP (zE cz aa<|lH lO zk) zk)
 (aE (bL (zC rH aa aa) (zO<|NN _ rfl hr hx<|PM bC<|ae (zZ oW (cc fS Æ<|ae aa zi) zk) zi) b9)
 (aE (GN (Oa<|fE<|zL<|ae aa<|ae aa zi) zG (Nj<|zC (GX _ rfl hr) (zE zB (zE zB aa zk) zk)<|G1 (v:=.ref eG) rfl gu rfl) aa)
 (zO<|zX<|bu<|ae aa<|ae aa<|ae (nD yV Ï<|ae (cc (zm7 _ rfl hr) PyProof.Rows.boot_sorted<|ae aa zi) zi) zi))))))⟩
def Q8:MS:=(zz (zR 3<|t9 (af pZ (aR<|zb (mC<|.int 0) zn)<|zf 2)<|aR<|zb (mC<|.int 1)<|zb (mC<|.int 1) zn)
  (zz (aT (mB<|af (aV Ż) (af zJ (zf 0)<|mC<|.int 0)<|mC<|.str "number") (aW<|aR<|zb (bX<|zK uy<|zb (zf 2)<|zb (af zJ (zf 0)<|mC<|.int 1) zn)<|zb (bX<|zf 3) zn) zS)
  (zz (aT (mB<|af (aV Ż) (af zJ (zf 0)<|mC<|.int 0)<|mC<|.str "letter") (aW<|aR<|zb (bX<|zK wN<|zb (zf 2)<|zb (af zJ (zf 0)<|mC<|.int 1) zn)<|zb (bX<|zf 3) zn) zS)
  (zz (gX (af bz (zf 1)<|af zJ (zf 0)<|mC<|.int 1)<|fG 2<|zW (zF 4)<|zW (zF 5) gC)
  (zz (gX (af bz (zf 1)<|af zJ (zf 0)<|mC<|.int 2)<|fG 2<|zW (zF 6)<|zW (zF 7) gC)
  (zz (aT (mB<|af (aV Ż) (af zJ (zf 0)<|mC<|.int 0)<|mC<|.str "times") (aW<|aR<|zb (bX<|zK zq<|zb (zf 4)<|zb (zf 6) zn)<|zb (bX<|zK zq<|zb (zf 5)<|zb (zf 7) zn) zn) zS)
  (zz (aT (mB<|af (aV Ż) (af zJ (zf 0)<|mC<|.int 0)<|mC<|.str "over") (aW<|aR<|zb (bX<|zK zq<|zb (zf 4)<|zb (zf 7) zn)<|zb (bX<|zK zq<|zb (zf 5)<|zb (zf 6) zn) zn) zS)
  (zz (zR 8<|af bz (dW<|zb (mC<|.int 1)<|zb (cI iF<|mC<|.int 1) zn)<|bf (f1 mU)<|zb (af (aV Ż) (af zJ (zf 0)<|mC<|.int 0)<|mC<|.str "less") zn)
  (zz (zR 9<|zK oZ<|zb (zK zq<|zb (zf 4)<|zb (zf 7) zn)<|zb (zK zq<|zb (zf 6)<|zb (zf 5) zn)<|zb (zf 8) zn)
  (aW<|aR<|zb (bX<|zf 9)<|zb (bX<|zK zq<|zb (zf 5)<|zb (zf 7) zn) zn))))))))))
def nK:FD:=cY 10 [0,1,2] Q8
abbrev Q7(Z:Zs):Prop:=Z.C "_law_pair" 4 ["_law_row", "_law_pairs", "_law_many"] 3 nK
theorem zke(B:Bs Z)(A:dS Z "_law_pair" Q3)(c0:DW Z)(c1:DZ Z)(c2:D9 Z)(c3:IE Z):Q7 Z :=
 have hB:=B.1;eK A ["_law_row", "_law_pairs", "_law_many", "_law_one", "_law_a", "_law_b", "_law_c", "_law_d", "_law_sign", "_law_above"] λnd hr=>⟨_,(zt (zP<|Di (zp Dr (br<|zd zj zm) ze)<|br<|zd zj<|zd zj zm)
 (zt (bK (zv<|zp cD (zp zu ze zj) zV) (bE<|br<|zd (fD<|zM 2<|zd ze<|zd (zp zu ze zj) zm)<|zd (fD ze) zm) b8)
 (zt (bK (zv<|zp cD (zp zu ze zj) zV) (bE<|br<|zd (fD<|zM 2<|zd ze<|zd (zp zu ze zj) zm)<|zd (fD ze) zm) b8)
 (zt (mY (zp cy ze<|zp zu ze zj)<|jL<|cQ zH<|cQ zH jM)
 (zt (mY (zp cy ze<|zp zu ze zj)<|jL<|cQ zH<|cQ zH jM)
 (zt (bK (zv<|zp cD (zp zu ze zj) zV) (bE<|br<|zd (fD<|zM 2<|zd ze<|zd ze zm)<|zd (fD<|zM 2<|zd ze<|zd ze zm) zm) b8)
 (zt (bK (zv<|zp cD (zp zu ze zj) zV) (bE<|br<|zd (fD<|zM 2<|zd ze<|zd ze zm)<|zd (fD<|zM 2<|zd ze<|zd ze zm) zm) b8)
 (zt (zP<|zp cy (ig<|zd zj<|zd (kJ lQ zj) zm)<|cn yO<|zd (zp cD (zp zu ze zj) zV) zm)
 (zt (zP<|zM 3<|zd (zM 2<|zd ze<|zd ze zm)<|zd (zM 2<|zd ze<|zd ze zm)<|zd ze zm)
 (bE<|br<|zd (fD ze)<|zd (fD<|zM 2<|zd ze<|zd ze zm) zm)))))))))),
 (aE (zQ<|Dj hr (zZ (Ds _ rfl) (bu<|ae zk zi) aa)<|bu<|ae zk<|ae zk zi)
 (aE (bL (zC cE (zE zB aa zk) zU) (zO<|zX<|bu<|ae (fE<|zL<|ae aa<|ae (zE zB aa zk) zi)<|ae (fE aa) zi) b9)
 (aE (bL (zC cE (zE zB aa zk) zU) (zO<|zX<|bu<|ae (fE<|zL<|ae aa<|ae (zE zB aa zk) zi)<|ae (fE aa) zi) b9)
 (aE (jt (zE cz aa<|zE zB aa zk)<|jN<|cR zG<|cR zG jO)
 (aE (jt (zE cz aa<|zE zB aa zk)<|jN<|cR zG<|cR zG jO)
 (aE (bL (zC cE (zE zB aa zk) zU) (zO<|zX<|bu<|ae (fE<|zL<|ae aa<|ae aa zi)<|ae (fE<|zL<|ae aa<|ae aa zi) zi) b9)
 (aE (bL (zC cE (zE zB aa zk) zU) (zO<|zX<|bu<|ae (fE<|zL<|ae aa<|ae aa zi)<|ae (fE<|zL<|ae aa<|ae aa zi) zi) b9)
 (aE (zQ<|zE cz (ij<|ae zk<|ae (lH lO zk) zi)<|nD yW Û<|ae (tZ cE (zE zB aa zk) zU) zi)
 (aE (zQ<|zL<|ae (zL<|ae aa<|ae aa zi)<|ae (zL<|ae aa<|ae aa zi)<|ae aa zi)
 (zO<|zX<|bu<|ae (fE aa)<|ae (fE<|zL<|ae aa<|ae aa zi) zi))))))))))⟩
def RB:MS:=(zz (gX (zf 0)<|fG 3<|zW (zF 1)<|zW (zF 2)<|zW (zF 3) gC)
  (zz (zR 4<|af Cb (dW<|zb (bX<|zK uy<|zb (bf (f1 cF)<|zb (zf 1) zn)<|zb (aR<|zb (mC<|.int 1)<|zb (mC<|.int 1) zn) zn) zn)<|nR (mT<|zb (af lG (zf 2)<|mC<|.int 1) zn) 1 [] (zF 0) tV<|bX mZ)
  (zz (hU (i5 rC<|zf 3) (fG 3<|zW (zF 5)<|zW (zF 6)<|zW (zF 7) gC) (zz (zR 8<|zK zq<|zb (af bz (zf 4)<|zf 5)<|zb (zK Ac<|zb (zf 7)<|zb (bf (f1 cF)<|zb (zf 1) zn) zn) zn)
  (rR 4 (bX<|zK oZ<|zb (af bz (zf 4)<|zf 6)<|zb (zf 8)<|zb (mC<|.int 1) zn)<|zf 6)))
  (aW<|af bz (zf 4)<|cI iF<|mC<|.int 1))))
def DS:FD:=cY 9 [0] RB
abbrev RA(Z:Zs):Prop:=Z.C "_law_web_poly" 4 ["_law_web"] 1 DS
theorem zgr(B:Bs Z)(A:dS Z "_law_web_poly" RJ)(c0:DW Z)(c1:DZ Z)(c2:D9 Z)(c3:Sb Z):RA Z :=
 have hB:=B.1;eK A ["_law_web", "_law_letters", "_law_dots", "_law_ways", "_law_found", "_law_begin", "_law_end", "_law_entry", "_law_part"] λnd hr=>⟨_,(zt (mY ze<|jL<|cQ zH<|cQ zH<|cQ zH jM)
 (zt (zP<|zp N5 (ig<|zd (fD<|zM 2<|zd (cn fW<|zd ze zm)<|zd (br<|zd zj<|zd zj zm) zm) zm)<|vC (uj<|zd (zp oR ze zj) zm) zH CO<|fD ui)
 (zt (jK (yz ze) (jL<|cQ zH<|cQ zH<|cQ zH jM) (zt (zP<|zM 2<|zd (zp cy ze ze)<|zd (zM 2<|zd ze<|zd (cn fW<|zd ze zm) zm) zm)
 (Dz (fD<|zM 3<|zd (zp cy ze ze)<|zd ze<|zd zj zm) ze)))
 (bE<|zp cy ze<|kJ lQ zj)))),
 (aE (jt aa<|jN<|cR zG<|cR zG<|cR zG jO)
 (aE (zQ<|zZ NO (ij<|ae (fE<|zL<|ae (cc fS Æ<|ae aa zi)<|ae (bu<|ae zk<|ae zk zi) zi) zi)<|FT (uu<|ae (zZ oW aa zk) zi) zG CA<|fE uq)
 (aE (jJ (yn aa) (jN<|cR zG<|cR zG<|cR zG jO) (aE (zQ<|zL<|ae (zE cz aa aa)<|ae (zL<|ae aa<|ae (cc fS Æ<|ae aa zi) zi) zi)
 (zO<|jt (fE<|zL<|ae (zE cz aa aa)<|ae aa<|ae zk zi)<|CB aa aa DB)))
 (zO<|zX<|zE cz aa<|lH lO zk))))⟩
def Rl:MS:=(zz (aT (eQ (hV<|mB<|cI (iN "tuple")<|zf 0)<|eQ (mB<|af (aV ż) (bf (f1 cF)<|zb (zf 0) zn)<|mC<|.int 3)<|eQ (mB<|af (pU ż) (af zJ (zf 0)<|mC<|.int 0)<|zf 1)<|hV<|mB<|zK uz<|zb (af zJ (zf 0)<|mC<|.int 1) zn) (aW<|mC<|.bool Ż) zS)
  (zz (aT (eQ (hV<|mB<|yx tE tE (mC<|.int 2) (af zJ (zf 0)<|mC<|.int 1)<|zf 2)<|hV<|mB<|cI (iN "tuple")<|af zJ (zf 0)<|mC<|.int 2) (aW<|mC<|.bool Ż) zS)
  (zz (zR 3<|aR<|zb (cI iF<|mC<|.int 1)<|zb (cI iF<|mC<|.int 1) zn)
  (zz (hU (i5 rC<|af zJ (zf 0)<|mC<|.int 2) (zF 4) (zz (aT (eQ (hV<|mB<|cI (iN "tuple")<|zf 4)<|eQ (mB<|af (aV ż) (bf (f1 cF)<|zb (zf 4) zn)<|mC<|.int 3)<|eQ (hV<|mB<|zK uz<|zb (af zJ (zf 4)<|mC<|.int 0) zn)<|hV<|mB<|zK uz<|zb (af zJ (zf 4)<|mC<|.int 1) zn) (aW<|mC<|.bool Ż) zS)
  (zz (aT (eQ (hV<|mB<|yG tE mf mf (mC<|.int 0) (af zJ (zf 4)<|mC<|.int 0) (af zJ (zf 4)<|mC<|.int 1)<|af zJ (zf 0)<|mC<|.int 1)<|mB<|af (Cd leB) (sW xO (zf 4) sA<|rM<|mC<|.int 2)<|zf 3) (aW<|mC<|.bool Ż) zS)
  (zz (aT (hV<|mB<|zK DU<|zb (af zJ (zf 4)<|mC<|.int 2)<|zb (bf (f1 cF)<|zb (zf 1) zn)<|zb (mC<|.bool Ż) zn) (aW<|mC<|.bool Ż) zS)
  (zR 3<|sW xO (zf 4) sA<|rM<|mC<|.int 2)))))
  (aW<|mC<|.bool ż)))))
def D2:FD:=cY 5 [0,1,2] Rl
abbrev Rj(Z:Zs):Prop:=Z.C "_law_is_web" 4 ["_law_web", "_law_letters", "_law_most"] 3 D2
theorem zic(B:Bs Z)(A:dS Z "_law_is_web" Rf)(c0:RC Z)(c1:IF Z):Rj Z :=
 have hB:=B.1;eK A ["_law_web", "_law_letters", "_law_most", "_law_last", "_law_way"] λnd hr=>⟨_,(zt (bK (fQ (ju<|h9<|mX (T := "tuple") ze)<|fQ (zv<|zp qD (cn fW<|zd ze zm) zj)<|fQ (zv<|zp (GU ż) (zp zu ze zj) ze)<|ju<|h9<|zM 1<|zd (zp zu ze zj) zm) (bE iO) b8)
 (zt (bK (fQ (ju<|zv<|NM vQ vQ zj (zp zu ze zj) ze)<|ju<|h9<|mX (T := "tuple")<|zp zu ze zj) (bE iO) b8)
 (zt (zP<|br<|zd (kJ lQ zj)<|zd (kJ lQ zj) zm)
 (zt (jK (yz<|zp zu ze zj) zH (zt (bK (fQ (ju<|h9<|mX (T := "tuple") ze)<|fQ (zv<|zp qD (cn fW<|zd ze zm) zj)<|fQ (ju<|h9<|zM 1<|zd (zp zu ze zj) zm)<|ju<|h9<|zM 1<|zd (zp zu ze zj) zm) (bE iO) b8)
 (zt (bK (fQ (ju<|zv<|zsL vQ p8 p8 zj (zp zu ze zj) (zp zu ze zj)<|zp zu ze zj)<|zv<|zp Yp (xP MV ze yK<|yJ zj) ze) (bE iO) b8)
 (zt (bK (ju<|h9<|zM 3<|zd (zp zu ze zj)<|zd (cn fW<|zd ze zm)<|zd iO zm) (bE iO) b8)
 (zP<|xP MV ze yK<|yJ zj)))))
 (bE iO))))),
 (aE (bL (fP<|fU (jw<|jv<|cc mV Å<|ae aa<|ae (m3 (v:=.ty "tuple") Ï rfl) zi)<|fU (zC pY (cc fS Æ<|ae aa zi) zk)<|fU (zC (GX _ rfl hr) (zE zB aa zk) aa)<|jx<|jw<|jv<|zL<|ae (zE zB aa zk) zi) (zO<|zX iP) b9)
 (aE (bL (fP<|fU (jw<|zrO vU vU zk (zE zB aa zk) aa)<|jx<|jw<|jv<|cc mV Å<|ae (zE zB aa zk)<|ae (m3 (v:=.ty "tuple") Ï rfl) zi) (zO<|zX iP) b9)
 (aE (zQ<|bu<|ae (lH lO zk)<|ae (lH lO zk) zi)
 (aE (jJ (yn<|zE zB aa zk) zG (aE (bL (fP<|fU (jw<|jv<|cc mV Å<|ae aa<|ae (m3 (v:=.ty "tuple") Ï rfl) zi)<|fU (zC pY (cc fS Æ<|ae aa zi) zk)<|fU (jw<|jv<|zL<|ae (zE zB aa zk) zi)<|jx<|jw<|jv<|zL<|ae (zE zB aa zk) zi) (zO<|zX iP) b9)
 (aE (bL (fP<|fU (jw<|zqa vU pX pX zk (zE zB aa zk) (zE zB aa zk)<|zE zB aa zk)<|jx<|zC (Vm _ rfl hr) (yC Sm aa yE<|yD zk) aa) (zO<|zX iP) b9)
 (aE (bL (jw<|jv<|zL<|ae (zE zB aa zk)<|ae (cc fS Æ<|ae aa zi)<|ae iP zi) (zO<|zX iP) b9)
 (zO<|zQ<|yC Sm aa yE<|yD zk)))))
 (zO<|zX iP)))))⟩
def Sa:MS:=(zz (gX (zf 0)<|fG 2<|zW (zF 1)<|zW (zF 2) gC)
  (zz (zR 3<|dW zn)
  (zz (hU (i5 rC<|zf 2) (zF 4)<|aT (mB<|af (aV Ż) (af zJ (zf 4)<|mC<|.int 0)<|mC<|.str "number") (du<|cX 3<|bX<|zK uy<|zb (bf (f1 cF)<|zb (zf 1) zn)<|zb (af zJ (zf 4)<|mC<|.int 1) zn)<|aT (mB<|af (aV Ż) (af zJ (zf 4)<|mC<|.int 0)<|mC<|.str "letter") (du<|cX 3<|bX<|zK wN<|zb (bf (f1 cF)<|zb (zf 1) zn)<|zb (af zJ (zf 4)<|mC<|.int 1) zn)<|aT (mB<|af (aV Ż) (af zJ (zf 4)<|mC<|.int 0)<|mC<|.str "times") (du<|cX 3<|bX<|zK zq<|zb (af bz (zf 3)<|af zJ (zf 4)<|mC<|.int 1)<|zb (af bz (zf 3)<|af zJ (zf 4)<|mC<|.int 2) zn) (zz (zR 5<|af bz (dW<|zb (mC<|.int 1)<|zb (cI iF<|mC<|.int 1) zn)<|bf (f1 mU)<|zb (af (aV Ż) (af zJ (zf 4)<|mC<|.int 0)<|mC<|.str "less") zn)
  (du<|cX 3<|bX<|zK oZ<|zb (af bz (zf 3)<|af zJ (zf 4)<|mC<|.int 1)<|zb (af bz (zf 3)<|af zJ (zf 4)<|mC<|.int 2)<|zb (zf 5) zn)))
  (aW<|af bz (zf 3)<|cI iF<|mC<|.int 1))))
def D7:FD:=cY 6 [0] Sa
abbrev R9(Z:Zs):Prop:=Z.C "_law_whole_poly" 4 ["_law_reckoning_here"] 1 D7
theorem zfo(B:Bs Z)(A:dS Z "_law_whole_poly" Sd)(c0:DW Z)(c1:DZ Z)(c2:D9 Z)(c3:IE Z):R9 Z :=
 have hB:=B.1;eK A ["_law_reckoning_here", "_law_letters", "_law_rows", "_law_found", "_law_row", "_law_sign"] λnd hr=>⟨_,(zt (mY ze<|jL<|cQ zH<|cQ zH jM)
 (zt (zP<|ig zm)
 (zt (jK (yz ze) zH<|bK (zv<|zp cD (zp zu ze zj) zV) (gF<|gB<|fD<|zM 2<|zd (cn fW<|zd ze zm)<|zd (zp zu ze zj) zm)<|bK (zv<|zp cD (zp zu ze zj) zV) (gF<|gB<|fD<|zM 2<|zd (cn fW<|zd ze zm)<|zd (zp zu ze zj) zm)<|bK (zv<|zp cD (zp zu ze zj) zV) (gF<|gB<|fD<|zM 2<|zd (zp cy ze<|zp zu ze zj)<|zd (zp cy ze<|zp zu ze zj) zm) (zt (zP<|zp cy (ig<|zd zj<|zd (kJ lQ zj) zm)<|cn yO<|zd (zp cD (zp zu ze zj) zV) zm)
 (gF<|gB<|fD<|zM 3<|zd (zp cy ze<|zp zu ze zj)<|zd (zp cy ze<|zp zu ze zj)<|zd ze zm)))
 (bE<|zp cy ze<|kJ lQ zj)))),
 (aE (jt aa<|jN<|cR zG<|cR zG jO)
 (aE (zQ<|ij zi)
 (aE (jJ (yn aa) zG<|zO<|bL (zC cE (zE zB aa zk) zU) (zO<|gG<|fF _ rfl Á Â Ã gD aa<|ae (fE<|zL<|ae (cc fS Æ<|ae aa zi)<|ae (zE zB aa zk) zi) zi)<|zO<|bL (zC cE (zE zB aa zk) zU) (zO<|gG<|fF _ rfl Á Â Ã gD aa<|ae (fE<|zL<|ae (cc fS Æ<|ae aa zi)<|ae (zE zB aa zk) zi) zi)<|zO<|bL (zC cE (zE zB aa zk) zU) (zO<|gG<|fF _ rfl Á Â Ã gD aa<|ae (fE<|zL<|ae (zE cz aa<|zE zB aa zk)<|ae (zE cz aa<|zE zB aa zk) zi) zi) (aE (zQ<|zE cz (ij<|ae zk<|ae (lH lO zk) zi)<|nD yW Û<|ae (tZ cE (zE zB aa zk) zU) zi)
 (zO<|gG<|fF _ rfl Á Â Ã gD aa<|ae (fE<|zL<|ae (zE cz aa<|zE zB aa zk)<|ae (zE cz aa<|zE zB aa zk)<|ae aa zi) zi)))
 (zO<|zX<|zE cz aa<|lH lO zk))))⟩
def R0:MS:=(zz (zR 5<|dW zn)
  (zz (zR 6<|dW zn)
  (zz (zR 7<|dW zn)
  (zz (hU (mT<|zb (af cB (mC<|.int 1)<|zK zr<|zb (zf 0)<|zb (zf 2) zn) zn) (zF 8) (zz (zR 9<|zK Ae<|zb (zf 0)<|zb (zf 5)<|zb (bf (f1 cF)<|zb (zf 1) zn)<|zb (zf 4) zn)
  (zz (aT (mB<|af k9 (bf (f1 rJ)<|zb (zK zT<|zb (zf 9)<|zb (zf 7) zn) zn)<|zf 3) (zR 9<|aR<|zb (af bz (dW<|zb (mC<|.str "plus")<|zb (mC<|.str "less") zn)<|zK zr<|zb (zf 0)<|zb (mC<|.int 2) zn)<|zb (af zJ (zf 9)<|mC<|.int 1)<|zb (af zJ (zf 9)<|mC<|.int 1) zn) zS)
  (zz (aT (mB<|af k9 (bf (f1 rJ)<|zb (zK zT<|zb (zf 9)<|zb (zf 7) zn) zn)<|zf 3) (zR 9<|aR<|zb (mC<|.str "letter")<|zb (zK zr<|zb (zf 0)<|zb (bf (f1 cF)<|zb (zf 1) zn) zn) zn) zS)
  (zz (aT (jn (mB<|af (aV Ż) (af zJ (zf 9)<|mC<|.int 0)<|mC<|.str "over")<|mB<|af xN (af zJ (af bz (zf 6)<|af zJ (zf 9)<|mC<|.int 2)<|mC<|.int 0) mZ) (zR 9<|aR<|zb (mC<|.str "number")<|zb (zK sG<|zb (zf 0) zn) zn) zS)
  (zz (du<|cX 5<|zf 9)
  (zz (du<|cX 6<|zK nK<|zb (zf 9)<|zb (zf 6)<|zb (bf (f1 cF)<|zb (zf 1) zn) zn)
  (du<|cX 7<|zK zT<|zb (zf 9)<|zb (zf 7) zn))))))))
  (aW<|aR<|zb (zf 1)<|zb (bf (f1 rW)<|zb (zf 5) zn) zn)))))
def DY:FD:=cY 10 [0,1,2,3,4] R0
abbrev RZ(Z:Zs):Prop:=Z.C "_law_reckoning" 5 ["_law_box_here", "_law_letters", "_law_most", "_law_weight_here", "_law_kind"] 5 DY
theorem zf4(B:Bs Z)(A:dS Z "_law_reckoning" R6)(c0:wJ Z)(c1:IC Z)(c2:zev Z)(c3:Q7 Z)(c4:R3 Z):RZ Z :=
 have hB:=B.1;eK A ["_law_box_here", "_law_letters", "_law_most", "_law_weight_here", "_law_kind", "_law_rows", "_law_pairs", "_law_heavy", "_law_k", "_law_row"] λnd hr=>⟨_,(zt (zP<|ig zm)
 (zt (zP<|ig zm)
 (zt (zP<|ig zm)
 (zt (jK (uj<|zd (zp cO zj<|zM 2<|zd ze<|zd ze zm) zm) zH (zt (zP<|zM 4<|zd ze<|zd ze<|zd (cn fW<|zd ze zm)<|zd ze zm)
 (zt (rT<|bK (zv<|zp rO (cn NQ<|zd (zM 2<|zd ze<|zd ze zm) zm) ze) (zP<|br<|zd (zp cy (ig<|zd zV<|zd zV zm)<|zM 2<|zd ze<|zd zj zm)<|zd (zp zu ze zj)<|zd (zp zu ze zj) zm) b8)
 (zt (rT<|bK (zv<|zp rO (cn NQ<|zd (zM 2<|zd ze<|zd ze zm) zm) ze) (zP<|br<|zd zV<|zd (zM 2<|zd ze<|zd (cn fW<|zd ze zm) zm) zm) b8)
 (zt (rT<|bK (rV (zv<|zp cD (zp zu ze zj) zV)<|zv<|zp Vk (zp zu (zp cy ze<|zp zu ze zj) zj) ui) (zP<|br<|zd zV<|zd (zM 1<|zd ze zm) zm) b8)
 (zt (gF<|gB ze)
 (zt (gF<|gB<|zM 3<|zd ze<|zd ze<|zd (cn fW<|zd ze zm) zm)
 (gF<|gB<|zM 2<|zd ze<|zd ze zm))))))))
 (bE<|br<|zd ze<|zd (cn yR<|zd ze zm) zm))))),
 (aE (zQ<|ij zi)
 (aE (zQ<|ij zi)
 (aE (zQ<|ij zi)
 (aE (jJ (uu<|ae (zZ cP zk<|zL<|ae aa<|ae aa zi) zi) zG (aE (zQ<|zL<|ae aa<|ae aa<|ae (cc fS Æ<|ae aa zi)<|ae aa zi)
 (aE (rY<|bL (zC rH (cc (MM _ rfl rfl) ā<|ae (zL<|ae aa<|ae aa zi) zi) aa) (zO<|zQ<|bu<|ae (zE cz (ij<|ae zU<|ae zU zi)<|zL<|ae aa<|ae zk zi)<|ae (zE zB aa zk)<|ae (zE zB aa zk) zi) b9)
 (aE (rY<|bL (zC rH (cc (MM _ rfl rfl) ā<|ae (zL<|ae aa<|ae aa zi) zi) aa) (zO<|zQ<|bu<|ae zU<|ae (zL<|ae aa<|ae (cc fS Æ<|ae aa zi) zi) zi) b9)
 (aE (rY<|bL (fP<|rZ (zC cE (zE zB aa zk) zU)<|ur<|zC (Vl hr) (zE zB (zE cz aa<|zE zB aa zk) zk) uq) (zO<|zQ<|bu<|ae zU<|ae (zL<|ae aa zi) zi) b9)
 (aE (gG<|fF _ rfl Á Â Ã gD aa<|ae aa zi)
 (aE (gG<|fF _ rfl Á Â Ã gD aa<|ae (zL<|ae aa<|ae aa<|ae (cc fS Æ<|ae aa zi) zi) zi)
 (zO<|gG<|fF _ rfl Á Â Ã gD aa<|ae (zL<|ae aa<|ae aa zi) zi))))))))
 (zO<|zX<|bu<|ae aa<|ae (nD yV Ï<|ae aa zi) zi)))))⟩
def QY:MS:=(zz (zR 1<|mC .none)
  (zz (zR 2<|mC .none)
  (zz (Fi Cg "TooMany" 3 (tR (zR 1)<|ym DE<|zb (zf 0)<|zb (mC<|.int 60) zn)<|zR 2<|cI (Ct xH "at")<|zf 3)
  (aW<|aR<|zb (zf 1)<|zb (zf 2) zn))))
def wM:FD:=cY 4 [0] QY
abbrev QW(Z:Zs):Prop:=Z.C "_law_heard" 5 ["_law_reckoning_here"] 1 wM
theorem ziA(B:Bs Z)(A:dS Z "_law_heard" Rt)(c0:O7 Z):QW Z :=
 by obtain⟨hB,hT,_,_,_,⟨cw,aN,cu,hM,bC⟩,_⟩:=B;exact eK A ["_law_reckoning_here", "_law_web", "_law_at", "e"] λnd hr=>⟨_,(zt (zP rP)
 (zt (zP rP)
 (zt (zBQ hM (by decide) (λEX=>(OJ<|Ha 2<|zd ze<|zd zj zm))<|zP<|kJ (X9 hT (by decide)) ze)
 (bE<|br<|zd ze<|zd ze zm)))),
 (aE (zQ rF)
 (aE (zQ rF)
 (aE (zBS _ rfl rfl rfl nd rfl rfl rfl cu (hT.cl _ _ _ rfl aN).1.cl (λpn E EX hy=>(zO<|zQ<|YQ c0 hy aa)) λa=>(zO<|zQ<|UY _ rfl aa rfl))
 (zO<|zX<|bu<|ae aa<|ae aa zi))))⟩
def Lz:MS:=(zz (zR 1<|dW zn)
  (zz (hU (mT<|zb (bf ye<|zb (mC<|.int 2)<|zb (bf Ce<|zb (bf (f1 cF)<|zb (zf 0) zn)<|zb (mC<|.int 3) zn) zn) zn) (zF 2) (zz (zR 3<|zK DP<|zb (zf 0)<|zb (zf 2) zn)
  (du<|cX 1<|zK DY<|zb (zf 3)<|zb (zK D5<|zb (zf 3)<|zb (af cB (mC<|.int 1)<|zK zr<|zb (zf 3)<|zb (mC<|.int 3) zn) zn)<|zb (mC<|.int 8)<|zb (mC<|.int 4)<|zb (mC<|.int 0) zn)))
  (zz (hU (i5 xQ<|bX<|af Cb (zf 1)<|sW vB (zf 1) sA<|rM<|mC<|.int 1) (zF 4) (zz (gX (zf 4)<|fG 2<|zW (zF 5)<|zW (zF 6) gC)
  (zz (zR 7<|af bz (zK D3<|zb (zf 6) zn)<|cI iF<|mC<|.int 1)
  (zz (zR 8<|zK Dg<|zb (zf 4) zn)
  (zz (gX (zK wM<|zb (zf 4) zn)<|fG 2<|zW (zF 9)<|zW (zF 10) gC)
  (zz (aT (eQ (hV<|mB<|zK uz<|zb (zf 8) zn)<|eQ (mB<|af (aV ż) (zf 8)<|zf 7)<|mB<|af (pU ż) (zK wM<|zb (zf 4) zn)<|aR<|zb (zf 9)<|zb (zf 10) zn) (aW<|mC<|.bool Ż) zS)
  (zz (aT (jn (mB<|af k9 (zf 7)<|mC<|.int 58)<|eQ (mB<|af (mO ż) (zf 9)<|mC .none)<|eQ (mB<|af (aV ż) (zf 10)<|af lG (bf (f1 cF)<|zb (zf 6) zn)<|mC<|.int 1)<|mB<|cI (iN "bool")<|zf 10) (aW<|mC<|.bool Ż) zS)
  (zz (aT (jn (mB<|af tE (zf 7)<|mC<|.int 58)<|eQ (mB<|af (mO ż) (zf 10)<|mC .none)<|hV<|mB<|zK D2<|zb (zf 9)<|zb (zf 5)<|zb (af cB (zf 7)<|mC<|.int 2) zn) (aW<|mC<|.bool Ż) zS)
  (aT (jn (mB<|af tE (zf 7)<|mC<|.int 58)<|mB<|af (Cc Ż) (zK DS<|zb (zf 9) zn)<|zK D7<|zb (zf 4) zn) (aW<|mC<|.bool Ż) zS)))))))))
  (aW<|mC<|.bool ż))))
def vM:FD:=cY 11 [0] Lz
theorem zAe{f:Qg}(B:Bs Z)(F:kF Z.K "law" "law" LA f fd)(c0:ND Z)(c1:QN Z)(c2:wJ Z)(c3:Rn Z)(c4:RZ Z)(c5:RA Z)(c6:IF Z)(c7:Rj Z)(c8:R9 Z)(c9:Ra Z)(c10:QW Z):bI Z.P Z.w Z.K Z.mg Z.base iM 6 f fd ["_law_script"] (qK Z.K 1 vM):=
 have hB:=B.1;S6 F ["_law_script", "_law_asked", "_law_k", "_law_box_here", "_law_reckoning_here", "_law_letters", "_law_rows", "_law_many", "_law_heard_here", "_law_web", "_law_at"] λnd hr=>⟨_,(zt (zP<|ig zm)
 (zt (jK (uj<|zd (cn OD<|zd zj<|zd (cn Yx<|zd (cn fW<|zd ze zm)<|zd zj zm) zm) zm) zH (zt (zP<|zM 2<|zd ze<|zd ze zm)
 (gF<|gB<|zM 5<|zd ze<|zd (zM 2<|zd ze<|zd (zp cO zj<|zM 2<|zd ze<|zd zj zm) zm)<|zd zj<|zd zj<|zd zj zm)))
 (zt (jK (OA<|fD<|zp N5 ze<|xP HB ze yK<|yJ zj) zH (zt (mY ze<|jL<|cQ zH<|cQ zH jM)
 (zt (zP<|zp cy (zM 1<|zd ze zm)<|kJ lQ zj)
 (zt (zP<|zM 1<|zd ze zm)
 (zt (mY (zM 1<|zd ze zm)<|jL<|cQ zH<|cQ zH jM)
 (zt (bK (fQ (ju<|h9<|zM 1<|zd ze zm)<|fQ (zv<|zp qD ze ze)<|zv<|zp (GU ż) (zM 1<|zd ze zm)<|br<|zd ze<|zd ze zm) (bE iO) b8)
 (zt (bK (rV (zv<|zp rO ze zj)<|fQ (zv<|zp Ou ze rP)<|fQ (zv<|zp qD ze<|zp oR (cn fW<|zd ze zm) zj)<|h9<|mX (T := "bool") ze) (bE iO) b8)
 (zt (bK (rV (zv<|zp vQ ze zj)<|fQ (zv<|zp Ou ze rP)<|ju<|h9<|zM 3<|zd ze<|zd ze<|zd (zp cO ze zj) zm) (bE iO) b8)
 (bK (rV (zv<|zp vQ ze zj)<|zv<|zp Yn (zM 1<|zd ze zm)<|zM 1<|zd ze zm) (bE iO) b8)))))))))
 (bE iO)))),
 (aE (zQ<|ij zi)
 (aE (jJ (uu<|ae (cc (Qs rfl) ā<|ae zk<|ae (cc (zpA rfl) PyProof.Rows.boot_min<|ae (cc fS Æ<|ae aa zi)<|ae zk zi) zi) zi) zG (aE (zQ<|zL<|ae aa<|ae aa zi)
 (zO<|gG<|fF _ rfl Á Â Ã gD aa<|ae (zL<|ae aa<|ae (zL<|ae aa<|ae (zZ cP zk<|zL<|ae aa<|ae zk zi) zi)<|ae zk<|ae zk<|ae zk zi) zi)))
 (aE (jJ (Oa<|fE<|zZ NO aa<|yC GO aa yE<|yD zk) zG (aE (jt aa<|jN<|cR zG<|cR zG jO)
 (aE (zQ<|zE cz (zL<|ae aa zi)<|lH lO zk)
 (aE (zQ<|zL<|ae aa zi)
 (aE (jt (zL<|ae aa zi)<|jN<|cR zG<|cR zG jO)
 (aE (bL (fP<|fU (jw<|jv<|zL<|ae aa zi)<|fU (zC pY aa aa)<|jx<|zC (GX _ rfl hr) (zL<|ae aa zi)<|bu<|ae aa<|ae aa zi) (zO<|zX iP) b9)
 (aE (bL (fP<|rZ (zC rH aa zk)<|ur<|fP<|fU (zC Ol aa rF)<|fU (zC pY aa<|zZ oW (cc fS Æ<|ae aa zi) zk)<|jx<|jv<|cc mV Å<|ae aa<|ae (m3 (v:=.ty "bool") û rfl) zi) (zO<|zX iP) b9)
 (aE (bL (fP<|rZ (zC vU aa zk)<|ur<|fP<|fU (zC Ol aa rF)<|jx<|jw<|jv<|zL<|ae aa<|ae aa<|ae (zZ cP aa zk) zi) (zO<|zX iP) b9)
 (zO<|bL (fP<|rZ (zC vU aa zk)<|ur<|zC (Yo (.inr ⟨rfl,rfl⟩) _ rfl hr) (zL<|ae aa zi)<|zL<|ae aa zi) (zO<|zX iP) b9)))))))))
 (zO<|zX iP))))⟩
end
end K44
set_option exponentiation.threshold 10000
open PySem Internal
open Lean in
local macro_rules|`(tactic|simp![$ls,*])=>do
 let u<-("↓zs0 ↓zCd ↓zoR ↓W3 ↓zs1 ↓zoS ↓zlE ↓zi8 ↓zs2 ↓W2 ↓zs3 ↓zs4 ↓zoT ↓zs5 ↓zoU ↓zCe ↓W0 ↓zs6 ↓zs7 ↓zs8 ↓zoV ↓zlF ↓zoW ↓WA ↓W1 ~WB ~zoX ~WZ ~zs9 ~zlG zB7 zB8 zB9 zCa zCb zCc ↓WE ↓WD fX ↓zw ↓lL OR Ld ↓X2 ↓zrQ OQ ↓zrR ↓zrS ↓zrT ↓zrU ↓zoe P1 ↓zrV ↓zrW ↓X1 ↓zrX ↓zof ↓zog ↓zrY ↓zrZ ↓zr0 ↓zk8 ↓zoh ↓zoi ↓zk9 ↓X0 ↓XZ ↓zoj ↓zol ↓zr3 ↓zr4 ↓XX ↓zi3 ↓zom ↓zr5 ↓zr6 ↓zla ↓zon ↓zlb ↓zoo ↓XW ↓zlc ↓WN ↓zld ↓zop ↓zsa ↓zoq ↓zsb ↓zsd ↓zot ↓zlq ↓Z9 ↓zlA ↓zi7 ↓zsQ ↓zo6 bd Xc zrr znP zkY QH ziY zhH zkZ zrs zBh zBi zrt ~znQ ~znR ~znS ~znT XU XS XR XQ zBl zBm XJ XH XG zBo zBp zrx zry znU zrz XF XE zBv zBw zBx zBy XB XA zrC zrD zBz Xz Xy Xx znV Xw Xv Xu Xt Xs Xr Xq ~znW zk0 zi0 Xp Xo zrE znX zBA zBB zBC zBD zBE zBF zBG zBH zBI zBJ Xm znZ X3 zn0 zrF zrG XY zok WO zBX ~zr8 ~zr9 ~zor ~zos ~zsc ~zle ~zlf ~zlg ~zlh ~MC ~WM ~zsf ~zsg vI zsh zsi P0 WL WK WJ zsj zoC Z8 OP so zoH zoI zsD zsE zlw WH WG PY QB Hw zsH P5 zoN P4 !List.getElem?_cons_zero !List.getElem?_cons_succ !List.set_cons_zero !List.set_cons_succ !List.cons_append !List.nil_append !List.length_cons !List.length_nil !List.replicate !Option.map_some !decide_eq_true_eq !List.mem_cons !List.not_mem_nil !true_or !or_true !or_false !false_or !if_true !if_false !ite_true !ite_false !true_and !and_true !and_false !false_and !Bool.not_true !Bool.not_false !Bool.false_eq_true !not_true !not_false_iff !Nat.zero_add !Nat.reduceAdd !Nat.reduceLeDiff !Nat.reduceEqDiff !Nat.reduceSub !Nat.reduceLT !List.map_cons !List.map_nil !List.getD_cons_zero !List.getD_cons_succ !List.drop_succ_cons !List.drop_zero !decide_true !decide_false !Bool.true_and !Bool.and_true !Bool.true_or !Bool.or_true !Bool.false_or !Bool.or_false !Bool.false_and !Bool.and_false !reduceCtorEq !List.length_map !List.length_append Xn znY !String.reduceEq ↓!reduceIte !Int.reduceEq !Int.reduceNe !Int.reduceLT !Int.reduceLE !Int.reduceAdd !Int.reduceSub !Int.reduceNeg !Int.reduceToNat !Int.cast_ofNat_Int !implies_true !forall_const !Option.map_none".splitOn " ").toArray.mapM λx=>do
  let n:=(((x.replace "↓" "").replace "~" "").replace "!" "").toName
  let y:=mkIdent (if x.contains '!' then n else `Internal++n)
  if x.startsWith "↓" then `(Parser.Tactic.simpLemma|↓$y:term) else if x.startsWith "~" then `(Parser.Tactic.simpLemma|nr $y) else `(Parser.Tactic.simpLemma|$y:term)
 `(tactic|simp (disch:=first|with_unfolding_all exact WC rfl|omega | (simp only[List.length_cons,Ő,ċ,List.length_append,Ŀ,ť,Š,Nat.reduceAdd]<;>omega) |fail) only[$ls,*,$u,*])
local macro_rules | `(tactic| simp!)=>`(tactic| simp![Option.map_none])
namespace K44
open PySem Internal
noncomputable abbrev bx(x y:Int):U:=.l [.int x,.int y]
theorem gE{x w:Int}{Q:U×Qa U->Prop}(hw:0 < w)(hw2:w<=18446744073709551616)(k:∀r x' y',0<=r->r < w->Q (.d<|.int r,[bx x' y',.d<|.int w])):Wo (zr [bx x y,.d<|.int w]) Q:=by
 simp![zr,Q1];refine mW (λhx=>?_) λhx=>?_
 .simp![hx]
  exact k _ _ _ (ö _ (by omega))<|ø _ hw
 .simp![hx]
  exact k _ _ _ (ö _ (by omega))<|ø _ hw
theorem Mi{k:Int}(h0:0<=k)(h:k < (ns.length:Int)):∃v:Int,bA (ns.map Ģ) k=ž (.int v):=by
 have hk:k.toNat < ns.length:=by omega
 refine⟨ns[k.toNat],?_⟩;unfold bA eV;rw[a5L h0,a5L (by rw[ċ];exact h),bd,ė,ql hk];rfl
theorem zCp{k:Int}{Q:U×Qa U->Prop}(h0:0<=k)(q:∀x y,Q (bx x y,[.d<|.list<|ns.map .int,.d<|.int k])):Wo (DP [.d<|.list<|ns.map .int,.d<|.int k]) Q:=by
 simp![DP,QP,ċ];refine mW (λh1=>?_) λh1=>?_
 .have(v,hv):=Mi h0 h1
  simp![hv];exact q _ _
 .simp![ċ]
  refine mW (λh2=>?_) λh2=>?_
  .have hm:=ø k h2
   have hm0:=ö k (show(ns.length:Int)≠0 by omega);have(v,hv):=Mi hm0 hm;simp![hv];exact q _ _
  .simp!
   exact q _ _
theorem zAf{a b:Nat}(h:a<=b)(hb:b.log2 < 9000):a.log2 < 9000:=by
 by_cases z:a=0
 .rw[z];decide
 .exact É ((Nat.le_log2 (by omega)).mpr<|qx (Nat.log2_self_le z) h) hb
theorem y9{n d:Int}(hd:d≠0)(hb:d.natAbs.log2 < 9000):sI [.d<|.int n,.d<|.int d]=ž (.d<|fR<|Ĺ n d,[.d<|.int n,.d<|.int d]):=by
 have gl:Ŝ n d<=d.natAbs:=Int.gcd_le_natAbs_right n hd;have gp:0 < Ŝ n d:=a2R n hd;have Bc:=zAf gl hb;refine fH ?_;rw[<-Vv hd];unfold pS oC;rw[<-OY n d (show(0:Int) < (Ŝ n d:Nat) by omega),<-OY d d (show(0:Int) < (Ŝ n d:Nat) by omega)];simp![sI,RG];refine O3 (λk ρ=>∃a b:Int,ρ=[ž<|.d<|.int n,ž<|.d<|.int d,ž<|.d<|.int a,ž<|.d<|.int b]/\0<=a/\0<=b/\b.toNat=k/\Ŝ a b=Ŝ n d) _ ⟨_,_,rfl,by split<;>omega,by split<;>omega,rfl,Z6 n d⟩ ?_;rintro k _ ⟨a,b,rfl,ha,hb0,hk,hg⟩;simp!
 by_cases hz:b=0
 .subst hz
  have e:a=((Ŝ n d:Nat):Int):=by rw[<-hg,Int.gcd_zero_right];omega
  subst e;have c1:vT n ((Ŝ n d:Nat):Int):=⟨by omega,by rw[Ś];exact Bc⟩;have c2:vT n (0 - ((Ŝ n d:Nat):Int)):=⟨by omega,by rw[Int.zero_sub,Int.natAbs_neg,Ś];exact Bc⟩;simp!;refine mW (λh=>?_) λh=>?_
  .simp![h,CN (a:=n) c2,CN (a:=d) c2]
  .simp![h,CN (a:=n) c1,CN (a:=d) c1]
 .simp![hz]
  refine⟨(a % b).toNat,?_,_,_,rfl,by omega,ö _ hz,rfl,?_⟩
  .have:=ø a (show 0 < b by omega)
   have:=ö a hz;omega
  .rw[zqX a b ha (by omega)]
   exact hg
structure Sz (r:Rat):Prop where
 n:r.num.natAbs < 2^4000
 d:r.den < 2^4000
theorem Sz.di{r:Rat}(h:Sz r):(r.den:Int).natAbs < 2^4000:=by rw[Ś];exact h.d
theorem lgd(h:n < 2^4000):n.log2 < 4000:=DO (by decide) h
theorem pC(h:n < 2^4000):n.log2 < 1000000:=ì (lgd h) (by decide)
theorem Mh{a b:Nat}(h:a < 2^4000)(h':b < 2^4000):(a * b).log2 < 9000:=by
 refine ì (DO (k:=4000+4000) (by decide) ?_) (by decide);rw[ś];exact Nat.mul_lt_mul'' h h'
section
variable{a b:Rat}
theorem QM(ha:Sz a)(hb:Sz b):Aa [.d<|fR a,.d<|fR b]=ž (.d<|fR<|a+b,[.d<|fR a,.d<|fR b]):=by
 refine fH ?_;have da:=xJ a;have db:=xJ b;have KL:((a.den:Int) * (b.den:Int))≠0:=Int.mul_ne_zero (by omega) (by omega);have lf:=y9 (n:=a.num * (b.den:Int)+b.num * (a.den:Int)) KL (by rw[ϑ,Ś,Ś];exact Mh ha.d hb.d);rw[Yu]at lf;simp![Aa,Q0,yu (pC ha.n)<|pC hb.di,yu (pC hb.n)<|pC ha.di,yu (pC ha.di)<|pC hb.di,lf]
theorem zkf(ha:Sz a)(hb:Sz b):D4 [.d<|fR a,.d<|fR b]=ž (.d<|fR<|a * b,[.d<|fR a,.d<|fR b]):=by
 refine fH ?_;have da:=xJ a;have db:=xJ b;have KL:((a.den:Int) * (b.den:Int))≠0:=Int.mul_ne_zero (by omega) (by omega);have lf:=y9 (n:=a.num * b.num) KL (by rw[ϑ,Ś,Ś];exact Mh ha.d hb.d);rw[Yt]at lf;simp![D4,Rm,yu (pC ha.n)<|pC hb.n,yu (pC ha.di)<|pC hb.di,lf]
end
noncomputable abbrev xx:Str := "abcdefghijklmnopqrstuvwxyz"
theorem Df:∀c∈xx.cps.toList,c < 128:=by decide
theorem De:xx.length=26:=by decide
theorem YN{z:Str}{n:Int}(h0:0<=n)(h1:n<=1):yk (.d<|.str z) (.d<|.int n)=ž (.d<|.str<|vG z n):=by
 unfold yk;dsimp only;rw[a5L ⟨h0,h1⟩]
theorem YM{k:Nat}{z:Str}{n:Int}(hz:bN k z)(h0:0<=n)(h1:n<=1):bN k (vG z n):=by
 rcases(by omega:n=0\/n=1)with rfl|rfl
 .exact⟨À _,λc hc=>by cases hc⟩
 .exact hz
theorem Sg{zs:Qa Str}{lo hi:Qb Int}:∃ws:Qa Str,jG (zs.map ł) lo hi=ws.map ł/\ws.length<=zs.length/\∀z∈ws,z∈zs:=by
 refine⟨(zs.drop<|HT.aY zs.length 0 lo).take<|HT.aY zs.length zs.length hi - HT.aY zs.length 0 lo,?_,?_,λz hz=>a4k<|a4j hz⟩
 .unfold jG
  rw[ċ,<-List.map_drop,<-List.map_take]
 .rw[Ŀ,ť]
  omega
theorem Ly{neg:Bool}{zs:Qa Str}{Q:U->Prop}(k:∀b,Q<|.d<|.bool b):Wo (nh neg (.d<|.str x)<|.l<|zs.map ł) Q:=by
 unfold nh;show Wo ((xS (.str x)<|zs.map ł).bind _) Q;unfold xS;rw[HZ];exact⟨_,rfl,k _⟩
theorem zCr{neg:Bool}{zs:Qa Str}{Q:U->Prop}(k:∀b,Q<|.d<|.bool b):Wo (nh neg (.d<|.str x)<|.d<|.tuple<|zs.map ł) Q:=by
 unfold nh;show Wo ((xS (.str x)<|zs.map ł).bind _) Q;unfold xS;rw[HZ];exact⟨_,rfl,k _⟩
theorem YL{x m:Int}{Q:U×Qa U->Prop}(h1:1<=m)(h3:m<=3)(k:∀(ns:Qa Str) x' y',ns.length=m.toNat->(∀z∈ns,bN 10 z)->Q (.d<|.tuple<|ns.map .str,[bx x' y',.d<|.int m])):Wo (D5 [bx x y,.d<|.int m]) Q:=by
 simp![D5,Ro];refine gE (by decide) (by decide) λr1 x1 y1 a1 b1=>?_;simp!;refine NL (λi ρ ys=>E3 λ(x y:Int) (zs:Qa Str)=>ρ=[Ž,ž<|bx x y,ž<|.d<|.str xx]/\ys=zs.map ł/\zs.length=i/\∀z∈zs,bN 1 z) ?_ ⟨_,_,[],rfl,rfl,rfl,λz hz=>by cases hz⟩ ?_ ?_ ?_
 .rw[zl];omega
 .rintro i ρ ys ⟨x,y,zs,rfl,rfl,hl,_⟩
  simp[hl]
 .rintro i _ _ hi ⟨x,y,zs,rfl,rfl,hl,hz⟩
  simp![MC];refine gE (by decide) (by decide) λr2 x2 y2 a2 b2=>?_;simp!;refine Dw a2 (by rw[De];omega) (by decide) λc hc=>?_;simp!;exact⟨x2,y2,zs++[⟨#[c]⟩],rfl,by rw[ĕ];rfl,by rw[qr,hl];rfl,λz JK=>by
   rcases È.mp JK with h|h
   .exact hz z h
   .cases qp.mp h
    exact bN.one<|Df c hc⟩
 rintro _ _ ⟨x2,y2,sg,rfl,rfl,hl,hs⟩;simp!;refine gE (by omega) (by omega) λr3 x3 y3 a3 b3=>?_;simp!;refine gE (by decide) (by decide) λr4 x4 y4 a4 b4=>?_;simp!;refine Lp (λi ρ=>E6 λ(x y:Int) (v7 v8 v9:Qb U) (zs:Qa Str)=>ρ=[ž<|bx x y,ž<|.d<|.int m,ž<|.d<|.str xx,ž<|.l<|sg.map .str,ž<|.d<|.int r3,ž<|.d<|.int r4,ž<|.l<|zs.map ł,v7,v8,v9,Ž]/\zs.length=i/\∀z∈zs,bN 10 z) ⟨x4,y4,Ž,Ž,Ž,[],rfl,rfl,λz hz=>by cases hz⟩ ?_ ?_
 .rintro i _ hi ⟨x,y,v7,v8,v9,zs,rfl,AX,hz⟩
  simp!;refine Dw (ö _ (by decide)) (by rw[De];exact ø _ (by decide)) (by decide) λc hc=>?_;simp!;have(w1,e1,l1,m1):=Sg (zs:=sg) (lo:=Ž) (hi:=ž r3);rw[e1];refine NK (n:=1) (m:=4) (λz hz=>hs z<|m1 z hz) (by omega) (by decide) λj1=>?_;simp!;refine yw j1 (bN.one<|Df c hc) (by decide) λj2=>?_;simp!;have(w2,e2,l2,m2):=Sg (zs:=sg) (lo:=ž (r3+1)) (hi:=Ž);rw[e2];refine NK (n:=1) (m:=4) (λz hz=>hs z<|m2 z hz) (by omega) (by decide) λj3=>?_;simp!;refine yw j2 j3 (by decide) λj4=>?_;simp!;refine gE (by decide) (by decide) λr5 x5 y5 a5 b5=>?_;simp![YN];refine yw j4 (YM (show bN 1 "q" by unfold bN;decide) a5 (by omega)) (by decide) λj5=>?_;simp!;refine Ly λb=>?_;generalize a0I "" w1++{cps:=#[c]}++a0I "" w2++vG "q" r5=nm at *;have fin:∀(nm:Str),bN 10 nm->E6 λ(x y:Int) (v7 v8 v9:Qb U) (ws:Qa Str)=>[ž<|bx x5 y5,ž<|.d<|.int m,ž<|.d<|.str xx,ž<|.l<|sg.map .str,ž<|.d<|.int r3,ž<|.d<|.int r4,ž<|.l<|zs.map ł++[.str nm],ž<|.d<|.int<|0+(i:Nat),ž<|.d<|.str ⟨#[c]⟩,ž<|.d<|.str nm,Ž]=[ž<|bx x y,ž<|U.d<|.int m,ž<|.d<|.str xx,ž<|.l<|sg.map .str,ž<|.d<|.int r3,ž<|.d<|.int r4,ž<|.l<|ws.map ł,v7,v8,v9,Ž]/\ws.length=i+1/\∀z∈ws,bN 10 z:=λnm hn=>
   ⟨x5,y5,_,_,_,zs++[nm],by rw[ĕ];rfl,by rw[qr,AX];rfl,λz JK=>by
    rcases È.mp JK with h|h
    .exact hz z h
    .cases qp.mp h
     exact hn⟩
  cases b with
  |true=>
   simp!;refine Dw (by omega) (by rw[De];omega) (by decide) λd hd=>?_;simp!;refine yw (show bN 2 "zz" by unfold bN;decide) (bN.one<|Df d hd) (by decide) λj6=>?_;simp!;exact fin _<|j6.mono (by decide)
  |false=>
   simp!;refine zCr (zs:=["part", "end", "give", "rounds", "letters"]) λb=>?_;cases b with
   |true=>
    simp!;refine Dw (by omega) (by rw[De];omega) (by decide) λd hd=>?_;simp!;refine yw (show bN 2 "zz" by unfold bN;decide) (bN.one<|Df d hd) (by decide) λj6=>?_;simp!;exact fin _<|j6.mono (by decide)
   |false=>
    simp!;exact fin _ j5
 .rintro _ ⟨x,y,v7,v8,v9,zs,rfl,AX,hz⟩
  simp!;refine gE (by decide) (by decide) λr5 x5 y5 a5 b5=>?_;simp!;refine mW (λh5=>?_) λh5=>?_
  .simp!
   refine gE (by decide) (by decide) λr6 x6 y6 a6 b6=>?_;simp!;refine VA (f:=ł) (xs:=["ends", "pa", "gives", "giv", "x", "y", "r", "rk"]) a6 b6 λz mz _=>?_;have az:bN 10 z:=by
    have:∀z∈(["ends", "pa", "gives", "giv", "x", "y", "r", "rk"]:Qa Str),bN 10 z:=by unfold bN;decide
    exact this z mz
   simp!;refine Ly λb=>?_;cases b with
   |false=>
    simp!;exact k zs _ _ AX hz
   |true=>
    simp!;refine gE (by omega) (by omega) λr7 x7 y7 a7 b7=>?_;have e7:eV zs.length r7=ž r7.toNat:=by
     unfold eV;rw[a5L a7,a5L (by omega)]
    simp![e7];have es:(zs.map ł).set r7.toNat (.str z)=(zs.set r7.toNat z).map ł:=by rw[List.map_set]
    rw[es];refine k _ _ _ (by rw[ī];exact AX) λw hw=>?_;rcases List.mem_or_eq_of_mem_set hw with h|h
    .exact hz w h
    .exact h▸az
  .simp!
   exact k zs _ _ AX hz
theorem IH{d:Int}(h:1<=d)(h2:d<=1000000):d.natAbs.log2 < 9000:=ì (DO (k:=30) (by decide) (by omega)) (by decide)
theorem nC{n d:Int}(hn:n.natAbs<=1000000)(h1:1<=d)(h4:d<=4):Bd 12 12000000 (Ĺ n d):=by
 have:d∣((12:Nat):Int):=by
  rcases(by omega:d=1\/d=2\/d=3\/d=4)with rfl|rfl|rfl|rfl<;>decide
 exact(Vo (M:=12) (by omega) this (by decide)).le (by omega)
theorem ZA{x:Int}{Q:U×Qa U->Prop}(k:∀r x' y',Bd 12 12000000 r->Q (.d<|fR r,[bx x' y'])):Wo (sG [bx x y]) Q:=by
 simp![sG,Q9];refine gE (by decide) (by decide) λr x1 y1 h0 h1=>?_;simp!;refine mW (λh7=>?_) λh7=>?_
 .simp!
  refine CL h0 (by show r < 7;omega) λa ha=>?_;have hq:∃q:Rat,a=fR q/\Bd 12 12000000 q:=by
   simp only[qu,Ļ,or_false]at ha;rcases ha with rfl|rfl|rfl|rfl|rfl|rfl|rfl
   .exact⟨Ĺ 0 1,rfl,nC (by decide) (by decide) (by decide)⟩
   .exact⟨Ĺ 1 1,rfl,nC (by decide) (by decide) (by decide)⟩
   .exact⟨Ĺ 1 1,rfl,nC (by decide) (by decide) (by decide)⟩
   .exact⟨Ĺ (-1) 1,rfl,nC (by decide) (by decide) (by decide)⟩
   .exact⟨Ĺ 2 1,rfl,nC (by decide) (by decide) (by decide)⟩
   .exact⟨Ĺ 1 2,rfl,nC (by decide) (by decide) (by decide)⟩
   .exact⟨Ĺ (-2) 3,rfl,nC (by decide) (by decide) (by decide)⟩
  have(q,rfl,hq):=hq;simp!;exact k q _ _ hq
 .simp!
  refine mW (λBb=>?_) λBb=>?_
  .simp!
   refine gE (by decide) (by decide) λr2 x2 y2 h2 h3=>?_;simp!;refine gE (by decide) (by decide) λr3 x3 y3 h4 h5=>?_;simp![y9 (n:=r2 - 9) (d:=1+r3) (by omega)<|IH (by omega) (by omega)];exact k _ _ _<|nC (by omega) (by omega) (by omega)
  .simp!
   refine gE (by decide) (by decide) λr2 x2 y2 h2 h3=>?_;simp!;refine gE (by decide) (by decide) λr3 x3 y3 h4 h5=>?_;simp![y9 (n:=r2 - 999999) (d:=1+r3) (by omega)<|IH (by omega) (by omega)];exact k _ _ _<|nC (by omega) (by omega) (by omega)
inductive Wd where
 |plus|less|times
 deriving DecidableEq
noncomputable def Wd.s:Wd->Str
 |.plus=> "plus"
 |.less=> "less"
 |.times=> "times"
inductive Rw where
 |num (r:Rat)
 |lt (k:Nat)
 |bin (w:Wd) (i j:Nat)
def aS:Rw->D
 |.num r=>.tuple [.str "number",fR r]
 |.lt k=>.tuple [.str "letter",.int (k:Int)]
 |.bin w i j=>.tuple [.str w.s,.int (i:Int),.int (j:Int)]
abbrev nH(rs:Qa Rw):D:=.tuple (rs.map aS)
abbrev gW(ls:Qa Str)(rs:Qa Rw):D:=.tuple [.tuple<|ls.map .str,nH rs]
def R1(n:Nat)(t:Nat):Rw->Prop
 |.num r=>Bd 12 12000000 r
 |.lt k=>k < n
 |.bin w i j=>i < t/\j < t
def RO(n:Nat)(rs:Qa Rw):Prop:=∀t r,rs[t]?=ž r->R1 n t r
theorem RO.app{rs:Qa Rw}{r:Rw}(h:RO n rs)(h':R1 n rs.length r):RO n (rs++[r]):=by
 intro t x hx
 by_cases ht:t < rs.length
 .rw[Ĝ ht]at hx
  exact h t x hx
 .rw[ę (by omega)]at hx
  by_cases h0:t=rs.length
  .subst h0
   simp at hx;subst hx;exact h'
  .rw[ų (by simp;omega)]at hx
   cases hx
noncomputable def acc{α:Type}(f:Qa α->Rw->α):Qa Rw->Qa α->Qa α
 |[],ws=>ws
 |r::rs,ws=>acc f rs<|ws++[f ws r]
section
variable{f:Qa α->Rw->α}{z:α}
theorem Ho:∀(a b:Qa Rw) (ws:Qa α),acc f (a++b) ws=acc f b (acc f a ws)
 |[],b,ws=>rfl
 |x::a,b,ws=>Ho a b _
theorem Dd{rs:Qa Rw}{r:Rw}:acc f (rs++[r]) []=acc f rs []++[f (acc f rs []) r]:=Ho rs [r] []
theorem Hn:∀(rs:Qa Rw) (ws:Qa α),∃zs,acc f rs ws=ws++zs/\zs.length=rs.length
 |[],ws=>⟨[],by simp[acc],rfl⟩
 |r::rs,ws=>by
  have(zs,e,l):=Hn rs (ws++[f ws r]);exact⟨f ws r::zs,by show acc f rs _=_;rw[e];simp,by simp[l]⟩
theorem oY{rs:Qa Rw}:(acc f rs []).length=rs.length:=by
 have(zs,e,l):=Hn (f:=f) rs [];rw[e,a0Z,l]
theorem HJ{rs:Qa Rw}{r:Rw}(h:rs[i]?=ž r):acc f (rs.take<|i+1) []=acc f (rs.take i) []++[f (acc f (rs.take i) []) r]:=by
 rw[List.take_succ,h];exact Dd
theorem t8{rs:Qa Rw}{t:Nat}(h:i < t)(ht:t<=rs.length):(acc f (rs.take t) []).getD i z=(acc f rs []).getD i z:=by
 have(zs,e,_):=Hn (f:=f) (rs.drop t) (acc f (rs.take t) []);have e2:acc f rs []=acc f (rs.take t) []++zs:=by
  rw[<-e]
  conv=>lhs;rw[<-ϗ t rs]
  rw[Ho]
 have ln:(acc f (rs.take t) []).length=t:=by rw[oY,Ŀ];omega
 rw[e2,qA,qA,Ĝ (by omega)]
theorem Hm{rs:Qa Rw}{t:Nat}{r:Rw}(h:rs[t]?=ž r):(acc f rs []).getD t z=f (acc f (rs.take t) []) r:=by
 have ht:=(qk.mp h).1;rw[<-t8 (t:=t+1) (by omega) (by omega),HJ h];have ln:(acc f (rs.take t) []).length=t:=by rw[oY,Ŀ];omega
 rw[qA,ę (by omega),ln];simp
end
noncomputable def Aj(ws:Qa Nat):Rw->Nat
 |.bin w i j=>ws.getD i 0+ws.getD j 0+(if w=.less\/w=.times then 1 else 0)
 |_=>1
abbrev bJ(rs:Qa Rw):Qa Nat:=acc Aj rs []
theorem ud{rs:Qa Rw}:(bJ rs).length=rs.length:=oY
theorem O6{rs:Qa Rw}{r:Rw}(h:rs[i]?=ž r):bJ (rs.take<|i+1)=bJ (rs.take i)++[Aj (bJ<|rs.take i) r]:=HJ h
noncomputable def iL(ws:Qa Nat):Qa D:=ws.map λ(n:Nat)=>Ģ (n:Int)
theorem Mf{a b:Qa Nat}:iL (a++b)=iL a++iL b:=ĕ
theorem tY{ws:Qa Nat}{a:Nat}(h:a < ws.length):bA (iL ws) (a:Int)=ž (.int ((ws.getD a 0:Nat):Int)):=by
 refine yF ?_;unfold iL;rw[ė,ql h,qA,ql h];rfl
abbrev wt(rs:Qa Rw)(t:Nat):Nat:=(bJ rs).getD t 0
theorem xX{rs:Qa Rw}{t:Nat}{r:Rw}(h:rs[t]?=ž r):wt rs t=Aj (bJ<|rs.take t) r:=Hm h
theorem Me{rs:Qa Rw}{t a b:Nat}{w:Wd}(hR:RO n rs)(h:rs[t]?=ž (.bin w a b)):wt rs t=wt rs a+wt rs b+(if w=.less\/w=.times then 1 else 0):=by
 have ht:=(qk.mp h).1;have ok:a < t/\b < t:=hR t _ h;rw[xX h];show(bJ<|rs.take t).getD a 0+(bJ<|rs.take t).getD b 0+_=_;rw[t8 ok.1 (by omega),t8 ok.2 (by omega)]
theorem Cv{rs:Qa Rw}(hR:RO n rs)(t:Nat):t < rs.length->1<=wt rs t:=by
 induction t using a1f with
 |_ t ih=>
  intro ht;have e:=ql ht;cases hr:rs[t]with
  |num r=>rw[hr]at e;rw[xX e];exact qe 1
  |lt k=>rw[hr]at e;rw[xX e];exact qe 1
  |bin w a b=>
   rw[hr]at e;have ok:a < t/\b < t:=hR t _ e;have:=ih a ok.1 (by omega);rw[Me hR e];omega
theorem Md{rs:Qa Rw}{t:Nat}{r:Rw}(h:rs[t]?=ž r):bA (rs.map aS) (t:Int)=ž (aS r):=yF (by rw[ė,h];rfl)
end K44
open PySem Internal
namespace K44
open PySem Internal
theorem vL{M:Nat}{r:Rat}(h:Bd M B r)(hM:0 < M)(h1:M < 2^4000)(h2:B < 2^4000):Sz r:=by
 have(a,b):=h.size hM;exact⟨É b h2,É a h1⟩
def Ln(n:Nat)(p:Pq α):Prop:=∀t∈p,t.1.length=n
abbrev dT(p:Pq Rat):U:=.d (.dict<|bR fR p)
theorem Mx{u:U}{a b:Qb α}:(if u.own=ż/\u.own=Ż then a else b)=b:=a5M λ⟨h,h'⟩=>by rw[h]at h';cases h'
theorem QL{M:Nat}{p q:Pq Rat}{u1 u2:U}{s:Int}(n8:wA u1=ž (.t<|bB fR p))(m7:u2.fz=ž (.dict<|bR fR q))(hs:s=1\/s=-1)(np:cM p)(nq:cM q)(hp:PB M B p)(hq:PB M B q)(hM:0 < M)(h1:M < 2^4000)(h2:B+q.length * B < 2^4000)(l1:p.length < 2000)(l2:q.length < 2000):
  oZ [u1,u2,.d<|.int s]=ž (.t<|bB fR<|nz<|dC p<|fL s q,[u1,dT q,.d<|.int s]):=by
 refine fH ?_;have sp:fL s q=q.map λt=>(t.1,(s:Rat) * t.2):=rfl;simp![oZ,RE,n8,m7];refine ux (λbs cs ρ=>∃o4 o5,ρ=[ž u1,ž<|dT q,ž<|.d<|.int s,ž<|.t<|bB fR<|dC p<|fL s bs,o4,o5,Ž]) ⟨_,_,rfl⟩ ?_ ?_
 .rintro bs t cs _ e ⟨o4,o5,rfl⟩
  have tq:t∈q:=by rw[e];simp
  have lb:bs.length+1<=q.length:=by rw[e,qr,qt];omega
  have gl:=Dv (fL s bs) p;rw[show(fL s bs).length=bs.length from ċ ..]at gl;have gb:PB M (B+q.length * B) (dC p<|fL s bs):=λv hv=>(CJ (fL s bs) hp (G7 hs λw hw=>hq w (by rw[e];exact Ò _ hw)) v hv).le (by
   rw[show(fL s bs).length=bs.length from ċ ..];have:=Ë B (show bs.length<=q.length by omega);omega)
  have s1:=vL (Hx gb t.1) hM h1 h2;have s2:Sz ((s:Rat) * t.2):=vL (G7 hs hq (t.1,(s:Rat) * t.2)<|Ä.mpr ⟨t,tq,rfl⟩) hM h1 (by omega);simp![uf nq tq,Vp hs,QM s1 s2];rw[BQ (by omega)];simp!;rw[show fL s (bs++[t])=fL s bs++[(t.1,(s:Rat) * t.2)] by unfold fL;rw[ĕ];rfl,OX];exact⟨_,_,rfl⟩
 .rintro _ ⟨o4,o5,rfl⟩
  have gn:cM (dC p<|fL s q):=CK _ np;have gl:=Dv (fL s q) p;rw[show(fL s q).length=q.length from ċ ..]at gl;generalize dC p (fL s q)=r at gn gl;simp!;refine ux (λbs cs ρ=>∃o4,ρ=[ž u1,ž<|dT q,ž<|.d<|.int s,ž<|dT r,o4,o5,ž<|.t<|bB fR<|nz bs]) ⟨_,rfl⟩ ?_ ?_
  .rintro bs t cs _ e ⟨o4,rfl⟩
   have tr:t∈r:=by rw[e];simp
   have ln:(nz bs).length<=bs.length:=î _ _;have lb:bs.length+1<=r.length:=by rw[e,qr,qt];omega
   simp![uf gn tr,MP];rw[NT]
   by_cases z:t.2=0
   .simp![z,ne_eq]
    exact⟨_,rfl⟩
   .simp![z,ne_eq,uf gn tr,BQ (c:=fR) (p:=nz bs) (k:=t.1) (x:=t.2) (by omega)]
    rw[MN (cs:=cs) (by rw[<-e];exact gn)];exact⟨_,rfl⟩
  .rintro _ ⟨o4,rfl⟩
   simp![Mx]
theorem QK{M N C:Nat}{p q:Pq Rat}{u1 u2:U}{Q:U×Qa U->Prop}(n8:u1.fz=ž (.dict<|bR fR p))(m7:u2.fz=ž (.dict<|bR fR q))(np:cM p)(nq:cM q)(hp:PB M B p)(hq:PB N C q)(lp:Ln n p)(lq:Ln n q)(ln:n < 64)(hM:0 < M)(hN:0 < N)(h1:M * N < 2^4000)(h2:M < 2^4000)(h3:N < 2^4000)(h4:B < 2^4000)(h5:C < 2^4000)(h6:p.length * q.length * (B * C) < 2^4000)(hBC:0 < B * C)
  (l1:p.length * q.length < 2000) (lp6:p.length < 64) (lq6:q.length < 64) (kq:∀jQ,jQ.fz=ž (.dict<|bR fR q)->(jQ=u2\/jQ=dT q)->Q (.t<|bB fR<|nz<|dC []<|dg p q,[dT p,jQ])):Wo (zq [u1,u2]) Q:=by
 have fin:∀(o1 o3 o4 o5 o6:Qb U) (r:Pq Rat),cM r->r.length < 2000->∀(Q:Fl->Prop),(∀o5,Q<|.nx [ž<|dT p,o1,ž<|dT r,o3,o4,o5,o6,ž<|.t<|bB fR<|nz r])->Wo (iR (zF 5) (aT (mB<|af (aV ż) (af zJ (lJ (zf 2)<|zf 5)<|mC<|.int 0)<|mC<|.int 0) (p6 7 (zf 5)<|lJ (zf 2)<|zf 5) zS) (r.map λt=>dB t.1) [ž<|dT p,o1,ž<|dT r,o3,o4,o5,o6,ž<|.t []]) Q:=by
  intro o1 o3 o4 o5 o6 r gn gl Q hQ;refine ux (λbs cs ρ=>∃o5,ρ=[ž<|dT p,o1,ž<|dT r,o3,o4,o5,o6,ž<|.t<|bB fR<|nz bs]) ⟨_,rfl⟩ ?_ ?_
  .rintro bs t cs _ e ⟨o5,rfl⟩
   have tr:t∈r:=by rw[e];simp
   have ln:(nz bs).length<=bs.length:=î _ _;have lb:bs.length+1<=r.length:=by rw[e,qr,qt];omega
   simp![uf gn tr,MP];rw[NT]
   by_cases z:t.2=0
   .simp![z,ne_eq]
    exact⟨_,rfl⟩
   .simp![z,ne_eq,uf gn tr,BQ (c:=fR) (p:=nz bs) (k:=t.1) (x:=t.2) (by omega)]
    rw[MN (cs:=cs) (by rw[<-e];exact gn)];exact⟨_,rfl⟩
  .rintro _ ⟨o5,rfl⟩
   exact hQ o5
 simp![zq,R5,n8];refine ux (λbs cs ρ=>E5 λ(x:U) (o3 o4 o5 o6:Qb U)=>ρ=[ž<|dT p,ž x,ž<|.t<|bB fR<|dC []<|dg bs q,o3,o4,o5,o6,Ž]/\(x=u2\/x=dT q)) ⟨u2,_,_,_,_,rfl,.inl rfl⟩ ?_ ?_
 .rintro bs s cs _ e ⟨x,o3,o4,o5,o6,rfl,kU⟩
  have hx:x.fz=ž (.dict<|bR fR q):=by
   rcases kU with rfl|rfl
   .exact m7
   .rfl
  have sp:s∈p:=by rw[e];simp
  have lbs:bs.length+1<=p.length:=by rw[e,qr,qt];omega
  have lpm:(dg bs q).length+q.length<=p.length * q.length:=by
   rw[HU];have:=Ë q.length lbs;rw[a0x,a4B]at this;exact this
  simp![hx];refine ux (λds fs ρ=>E3 λ(o4 o5 o6:Qb U)=>ρ=[ž<|dT p,ž<|dT q,ž<|.t<|bB fR<|dC []<|dg bs q++ds.map λt=>(bM s.1 t.1,s.2 * t.2),ž<|.d<|dB s.1,o4,o5,o6,Ž]) ⟨_,_,_,by rw[Œ,ŕ]⟩ ?_ ?_
  .rintro ds t fs _ e2 ⟨o4,o5,o6,rfl⟩
   have tq:t∈q:=by rw[e2];simp
   have lds:ds.length+1<=q.length:=by rw[e2,qr,qt];omega
   have hle:s.1.length=t.1.length:=by rw[lp s sp,lq t tq]
   have s1:=vL (hp s sp) hM h2 h4;have s2:=vL (hq t tq) hN h3 h5;have hb:PB (M * N) (B * C) (dg bs q++ds.map λt=>(bM s.1 t.1,s.2 * t.2)):=λv hv=>by
    rcases È.mp hv with z|z
    .have(a,ha,b,hb,rfl):=Dt z
     exact(hp a (by rw[e];exact Ò _ ha)).mul<|hq b hb
    .have(b,hb,rfl):=Ä.mp z
     exact(hp s sp).mul<|hq b (by rw[e2];exact Ò _ hb)
   have ll:(dg bs q++ds.map λt=>(bM s.1 t.1,s.2 * t.2)).length<=p.length * q.length:=by
    rw[qr,ċ];omega
   have gl:=Dv (dg bs q++ds.map λt=>(bM s.1 t.1,s.2 * t.2)) [];rw[Ő,Š]at gl;have gb:PB (M * N) (p.length * q.length * (B * C)) (dC []<|dg bs q++ds.map λt=>(bM s.1 t.1,s.2 * t.2)):=λv hv=>(CJ _ (C:=0) S4 hb v hv).le (by
    have:=Ë (B * C) ll;omega)
   have s3:=vL (Hx gb<|bM s.1 t.1) (a2y hM hN) h1 h6;have s4:Sz (s.2 * t.2):=vL ((hp s sp).mul<|hq t tq) (a2y hM hN) h1 (by
    have h7:1 * (B * C)<=p.length * q.length * (B * C):=Ë _ (by
     have:1 * 1<=p.length * q.length:=ÿ (by omega) (by omega);omega)
    omega)
   simp![QB hle];refine CH (e:=λt=>.int<|t.1+t.2) (by rw[List.length_zip,lp s sp];omega) (λt ht ys=>?_) ?_
   .simp!
   .rw[show((s.1.zip t.1).map λt=>Ģ<|t.1+t.2)=(bM s.1 t.1).map Ģ by unfold bM;rw[a5n,List.zip,a5n]]
    simp![show ϟ ((bM s.1 t.1).map Ģ)=dB (bM s.1 t.1) from rfl,uf np sp,uf nq tq,zkf s1 s2,QM s3 s4];rw[BQ (by omega)];simp!;rw[ĕ,<-Ķ,Ē,Œ,OX];exact⟨_,_,_,rfl⟩
  .rintro _ ⟨o4,o5,o6,rfl⟩
   simp!;rw[zp6];exact⟨dT q,_,_,_,_,rfl,.inr rfl⟩
 .rintro _ ⟨x,o3,o4,o5,o6,rfl,hx⟩
  have gl:=Dv (dg p q) [];rw[Ő,HU]at gl;simp!;refine fin _ _ _ _ _ _ (CK _ Eo) (by omega) _ λo5=>?_;rcases hx with rfl|rfl
  .simp![Mx]
   exact kq x m7<|.inl rfl
  .simp!
   exact kq (dT q) rfl<|.inr rfl
noncomputable def pO:Nat->Nat->Qa (Qa Int)
 |0,_=>[[]]
 |n+1,w=>(ĥ<|w+1).flatMap λ(j:Nat)=>(pO n<|w - j).map λl=>(j:Int)::l
structure Ks (n w:Nat) (a:Qa Int):Prop where
 ln:a.length=n
 pos:∀k∈a,0<=k
 sm:a.sum<=(w:Int)
theorem NC:∀{a:Qa Int},(∀k∈a,0<=k)->0<=a.sum
 |[],_=>by decide
 |k::a,h=>by
  rw[ĺ];have:=h k qo;have:=NC λj hj=>h j<|qm k hj;omega
theorem Gh:∀{n w:Nat} {a:Qa Int},Ks n w a->a∈pO n w
 |0,_,[],_=>qp.mpr rfl
 |0,_,_::_,h=>by have:=h.ln;simp at this
 |n+1,_,[],h=>by have:=h.ln;simp at this
 |n+1,w,k::a,h=>by
  have h1:=h.pos k qo;have h2:=NC λj hj=>h.pos j<|qm k hj;have h3:=h.sm;rw[ĺ]at h3;refine List.mem_flatMap.mpr ⟨k.toNat,Õ.mpr (by omega),Ä.mpr ⟨a,Gh ⟨ώ h.ln,λj hj=>h.pos j<|qm k hj,by omega⟩,?_⟩⟩;rw[Int.toNat_of_nonneg h1]
theorem Ks.up{w w':Nat}{a:Qa Int}(h:Ks n w a)(c:w<=w'):Ks n w' a:=⟨h.ln,h.pos,by have:=h.sm;omega⟩
theorem O5:∀{a b:Qa Int},a.length=b.length->(bM a b).sum=a.sum+b.sum
 |[],[],_=>rfl
 |[],_::_,h=>by simp at h
 |_::_,[],h=>by simp at h
 |x::a,y::b,h=>by
  show((x+y)::bM a b).sum=_;rw[ĺ,ĺ,ĺ,O5<|ώ h];omega
theorem O4:∀{a b:Qa Int},(∀k∈a,0<=k)->(∀k∈b,0<=k)->∀k∈bM a b,0<=k
 |[],_,_,_,k,hk=>by simp[bM]at hk
 |_::_,[],_,_,k,hk=>by simp[bM]at hk
 |x::a,y::b,h,h',k,hk=>by
  rcases qu.mp (show k∈(x+y)::bM a b from hk)with rfl|hk
  .have:=h x qo
   have:=h' y qo;omega
  .exact O4 (λj hj=>h j<|qm _ hj) (λj hj=>h' j<|qm _ hj) k hk
theorem Ks.add{w w':Nat}{a b:Qa Int}(h:Ks n w a)(h':Ks n w' b):Ks n (w+w') (bM a b):=by
 refine⟨?_,O4 h.pos h'.pos,?_⟩
 .unfold bM
  rw[a4F,h.ln,h'.ln,Nat.min_self]
 .rw[O5<|h.ln.trans h'.ln.symm]
  have:=h.sm;have:=h'.sm;omega
theorem zAh:((pO 1 4).map λa=>hT<|kL a).Nodup:=by decide +kernel
theorem zAi:((pO 2 4).map λa=>hT<|kL a).Nodup:=by decide +kernel
theorem zAj:((pO 3 4).map λa=>hT<|kL a).Nodup:=by decide +kernel
theorem zAk{p:Pq Rat}(h1:1<=n)(h3:n<=3)(nd:cM p)(ky:∀t∈p,Ks n (4) t.1):xV p:=by
 have inj:∀a∈pO n (4),∀b∈pO n (4),hT (kL a)=hT (kL b)->a=b:=by
  rcases(by omega:n=1\/n=2\/n=3)with rfl|rfl|rfl
  .exact CG zAh
  .exact CG zAi
  .exact CG zAj
 unfold xV ua;rw[a4q];constructor
 .rw[a5s]
  intro ks hk;have(a,_,rfl):=Ä.mp hk;rw[Fm,a5s];intro k hk;have(i,_,rfl):=Ä.mp hk;rfl
 .rw[decide_eq_true_iff,ĳ]
  have mem:∀a∈p.map (·.1),a∈pO n (4):=λa ha=>by
   have(t,ht,rfl):=Ä.mp ha;exact Gh<|ky t ht
  refine ý.mpr<|a1P (λ{a b} ha hb (qV:a≠b)=>?_) nd;exact λe=>qV<|inj a (mem a ha) b (mem b hb) e
structure PG (n e a:Nat) (p:Pq Rat):Prop where
 nd:cM p
 ky:∀t∈p,Ks n a t.1
 bd:PB (12^a) (2^(24 * a+e)) p
section
variable{e a c:Nat}{p q:Pq Rat}
theorem PG.len(h:PG n e a p)(n1:1<=n)(n3:n<=3)(a4:a<=4):p.length<=35:=by
 have:=List.Nodup.length_le_of_subset h.nd (l₂:=pO n (4)) λx hx=>by
  have(t,ht,rfl):=Ä.mp hx;exact Gh<|(h.ky t ht).up a4
 rw[ċ]at this;refine qx this ?_;rcases(by omega:n=1\/n=2\/n=3)with rfl|rfl|rfl<;>decide
theorem PG.up(h:PG n e a p)(hc:a<=c)(he:e<=e'):PG n e' c p:=by
 refine⟨h.nd,λt ht=>(h.ky t ht).up hc,λt ht=>?_⟩;have(d,rfl):=Ñ hc;rw[ś];refine((h.bd t ht).wide<|12^d).le ?_;have h1:12^d<=2^(24 * d):=by rw[Nat.pow_mul];exact a4N (by decide) d
 refine qx (a4O _ h1) ?_;rw[<-ś];exact à (by decide) (by omega)
theorem PG.hash(h:PG n e a p)(n1:1<=n)(n3:n<=3)(a4:a<=4):xV p:=zAk n1 n3 h.nd λt ht=>(h.ky t ht).up a4
theorem PG.mul(h:PG n e a p)(h':PG n e' c q)(n1:1<=n)(n3:n<=3)(Km:a+c<=4):PG n (e+e'+11) (a+c) (nz<|dC []<|dg p q):=by
 refine⟨Lo<|CK _ Eo,λt ht=>?_,λt ht=>?_⟩
 .refine OW (Pk:=λk=>Ks n (a+c) k) (dg p q) (λt h=>by cases h) (λt ht=>?_) t (á.mp ht).1
  have(u,hu,v,hv,rfl):=Dt ht;exact(h.ky u hu).add<|h'.ky v hv
 .have:=CJ (dg p q) (C:=0) S4 (Yr h.bd h'.bd) t (á.mp ht).1
  rw[<-ś]at this;refine this.le ?_;rw[HU,Š];have l1:=h.len n1 n3 (by omega);have l2:=h'.len n1 n3 (by omega);have l3:p.length * q.length<=2^11:=qx (ÿ l1 l2) (by decide);refine qx (Ë _ l3) ?_;rw[<-ś,<-ś];exact à (by decide) (by omega)
theorem PG.add(h:PG n e a p)(h':PG n e a q)(n1:1<=n)(n3:n<=3)(a4:a<=4){s:Int}(hs:s=1\/s=-1):PG n (e+6) a (nz<|dC p<|fL s q):=by
 have pk:∀t∈fL s q,Ks n a t.1:=λt ht=>by
  have(u,hu,rfl):=Ä.mp ht;exact h'.ky u hu
 refine⟨Lo<|CK _ h.nd,λt ht=>OW (Pk:=λk=>Ks n a k) (fL s q) h.ky pk t (á.mp ht).1,λt ht=>?_⟩;refine(CJ (fL s q) h.bd (G7 hs h'.bd) t (á.mp ht).1).le ?_;rw[show(fL s q).length=q.length from ċ ..];have l2:=h'.len n1 n3 a4;have:=Ë (2^(24 * a+e)) l2;rw[<-ş,ś _ _ 6];omega
end
noncomputable def zs(n:Nat):Qa Int:=č n 0
noncomputable def kK(n k:Nat):Qa Int:=č k 0++[1]++č (n - k - 1) 0
def jj(n:Nat)(f:Rat):Pq Rat:=if f=0 then []else [(zs n,f)]
theorem wd(k:Nat):ϟ (č k [Ģ 0]).flatten=dB (č k 0):=by
 unfold dB;congr 1
 induction k with
 |zero=>rfl
 |succ k ih=>rw[Ŕ,ź,Ŕ,Ē,<-ih];rfl
theorem ZX(r:Rat):decide (r.num=0)=decide (r=0):=decide_eq_decide.mpr a2L
theorem IB{f:Rat}(hn:n<=3):uy [.d<|.int (n:Int),.d<|fR f]=ž (.t<|bB fR<|jj n f,[.d<|.int (n:Int),.d<|fR f]):=by
 refine fH ?_;simp![uy,RU,ZX];unfold jj
 by_cases z:f=0
 .simp![z]
  rfl
 .simp![z,wd,İ]
  rfl
theorem Sf{k:Int}(h:k < 1000)(h2:-1000 < k):pZ (.d<|dB [0]) (.d<|.int k)=ž (.d<|dB<|č k.toNat 0):=by
 rw[<-wd];exact P5 (xs:=[.int 0]) (by decide) h h2 (by decide)
theorem ZW{k:Nat}(hk:k < n):(kK n k).length=n:=by
 unfold kK;rw[qr,qr,Ħ,Ħ,ţ];omega
theorem Hh(n:Nat):(zs n).length=n:=Ħ
theorem ZV{k:Nat}:∀j∈kK n k,0<=j/\j<=1:=λj hj=>by
 unfold kK at hj;rcases È.mp hj with z|z
 .rcases È.mp z with z|z
  .rw[a0y z];omega
  .rw[qp.mp z];omega
 .rw[a0y z];omega
theorem Mw:∀j∈zs n,j=0:=λj hj=>a0y hj
theorem AB{t:Qa Int×Rat}:cM [t]:=by unfold cM;simp
theorem Ri{k:Nat}(hk:k < n)(hn:n<=3):wN [.d<|.int (n:Int),.d<|.int (k:Int)]=ž (.t<|bB fR [(kK n k,1)],[.d<|.int (n:Int),.d<|.int (k:Int)]):=by
 refine fH ?_;have e:((n:Int) - (k:Int) - 1).toNat=n - k - 1:=by omega
 simp![wN,RT,wd,İ,e,Vn,Vr,Sv (a:=č k 0) (b:=[1]) (by rw[Ħ];show k+1<=1000;omega),Sv (a:=č k 0++[1]) (b:=č (n - k - 1) 0) (by rw[qr,Ħ,Ħ];show k+1+_<=1000;omega),Sf (k:=(k:Int)) (by omega) (by omega),Sf (k:=(n:Int) - (k:Int) - 1) (by omega) (by omega)];rfl
theorem rm{x y:Nat}(h:x < y):2^x < 2^y:=Nat.pow_lt_pow_right (by decide) h
theorem HI(f:Rat)(p:Pq Rat)(h:Qa Int->Rat):aL (p.map λt=>(t.1,f * t.2)) h=f * aL p h:=by
 induction p with
 |nil=>rw[Œ,gH,a3Q]
 |cons t p ih=>
  rw[Ē,zN,zN,ih];grind
def sh(n:Nat):Qb Nat->Qa Int->Qa Int
 |none,k=>k
 |some j,k=>bM k<|kK n j
theorem ZU:(kK n j).sum=1:=by
 unfold kK;simp
theorem NB(hj:j < n):Ks n 1 (kK n j):=⟨ZW hj,λk hk=>(ZV k hk).1,by rw[ZU];decide⟩
theorem NA(xs ys:Qa Rat):(xs++ys).sum=xs.sum+ys.sum:=by
 induction xs with
 |nil=>rw[a0Z,a3F,a0c]
 |cons x xs ih=>rw[a5r,ĺ,ĺ,ih,a1E]
theorem ZT(p:Pq Rat):aL p (λ_=>0)=0:=by
 induction p with
 |nil=>rfl
 |cons t p ih=>
  rw[zN,ih,a3Q,Ŗ]
end K44
open PySem Internal
namespace K44
open PySem Internal
theorem PV{ls:Qa Str}{rs:Qa Rw}(hR:RO n rs)(hl:rs.length<=100):
  yP [.d<|gW ls rs]=ž (.inl (.l<|iL<|bJ rs,[.d<|gW ls rs])):=by
 refine fH ?_;simp![yP,O9];refine uh (λi ρ=>E3 λ(v4 v5 v6:Qb U)=>ρ=[ž<|.d<|gW ls rs,ž<|.d<|.tuple<|ls.map .str,ž<|.d<|nH rs,ž<|.l<|iL<|bJ<|rs.take i,v4,v5,v6]) ⟨Ž,Ž,Ž,rfl⟩ ?_ ?_
 .rintro i d _ hd ⟨v4,v5,v6,rfl⟩
  have(x,ex,rfl):=Ir hd;rw[ė]at ex;have(r,er,rfl):=qq.mp ex;have fj:=(qk.mp er).1;have ok:=hR i r er;have tk:=O6 er;have ln:(bJ<|rs.take i).length=i:=by rw[ud,Ŀ];omega
  have n6:(iL<|bJ<|rs.take i).length=i:=by unfold iL;rw[ċ,ln]
  have ad:∀v:Nat,v=Aj (bJ<|rs.take i) r->iL (bJ<|rs.take i)++[Ģ (v:Int)]=iL (bJ<|rs.take<|i+1):=λv e=>by rw[tk,Mf,e];rfl
  cases r with
  |num f=>
   have a1:=ad 1 rfl;simp![aS,n6];exact⟨_,_,_,by rw[<-a1];rfl⟩
  |lt k=>
   have a1:=ad 1 rfl;simp![aS,n6];exact⟨_,_,_,by rw[<-a1];rfl⟩
  |bin w a b=>
   have ha:=tY (ws:=bJ (rs.take i)) (a:=a) (by rw[ln];exact ok.1);have hb:=tY (ws:=bJ (rs.take i)) (a:=b) (by rw[ln];exact ok.2);cases w with
   |plus=>
    have a1:=ad ((bJ<|rs.take i).getD a 0+(bJ<|rs.take i).getD b 0) rfl;simp![aS,Wd.s,ha,hb,n6];exact⟨_,_,_,by rw[<-a1,š,a4a]⟩
   |less=>
    have a1:=ad ((bJ<|rs.take i).getD a 0+(bJ<|rs.take i).getD b 0+1) rfl;simp![aS,Wd.s,ha,hb,n6];exact⟨_,_,_,by rw[<-a1,š,š];rfl⟩
   |times=>
    have a1:=ad ((bJ<|rs.take i).getD a 0+(bJ<|rs.take i).getD b 0+1) rfl;simp![aS,Wd.s,ha,hb,n6];exact⟨_,_,_,by rw[<-a1,š,š];rfl⟩
 .rintro _ ⟨v4,v5,v6,rfl⟩
  rw[show(sF 0<|rs.map aS).length=rs.length by rw[IA,ċ],a2o];simp!
theorem Dc{rs:Qa Rw}(h0:0 < rs.length):bA (iL<|bJ rs) (-1)=ž (.int ((wt rs (rs.length - 1):Nat):Int)):=by
 have e:=tY (ws:=bJ rs) (a:=rs.length - 1) (by rw[ud];omega);have ln:(iL<|bJ rs).length=rs.length:=by unfold iL;rw[ċ,ud]
 have e2:bA (iL<|bJ rs) (-1)=bA (iL<|bJ rs) ((rs.length - 1:Nat):Int):=by
  unfold bA eV;rw[ln,a5M (by decide),a5L (by omega),a5L (by omega),a5L (by omega),show((-1:Int)+(rs.length:Int)).toNat=((rs.length - 1:Nat):Int).toNat by omega]
 rw[e2,e]
theorem ZS{ls:Qa Str}{rs:Qa Rw}(hR:RO n rs)(h0:0 < rs.length)(hl:rs.length<=100):Dg [.d<|gW ls rs]=ž (.d<|.int ((wt rs (rs.length - 1):Nat):Int),[.d<|gW ls rs]):=by
 refine fH ?_;have w:=PV (ls:=ls) hR hl;simp![Dg,NY,w,Dc h0]
theorem Tp:mU (.d<|.bool ż)=ž (.d<|.int 1):=rfl
theorem i1f:mU (.d<|.bool Ż)=ž (.d<|.int 0):=rfl
theorem zCt:nh Ż (.d<|.str "plus") (.d<|.tuple [.str "less",.str "times"])=ž (.d<|.bool Ż):=rfl
theorem zCu:nh Ż (.d<|.str "less") (.d<|.tuple [.str "less",.str "times"])=ž (.d<|.bool ż):=rfl
theorem zCv:nh Ż (.d<|.str "times") (.d<|.tuple [.str "less",.str "times"])=ž (.d<|.bool ż):=rfl
theorem zkl{rs:Qa Rw}(hR:RO n rs)(hl:rs.length<=100):D3 [.d<|nH rs]=ž (.l<|iL<|bJ rs,[.d<|nH rs]):=by
 refine fH ?_;simp![D3,Rb];refine uh (λi ρ=>∃o2,ρ=[ž<|.d<|nH rs,ž<|.l<|iL<|bJ<|rs.take i,o2]) ⟨Ž,rfl⟩ ?_ ?_
 .rintro i d _ hd ⟨o2,rfl⟩
  rw[ė]at hd;have(r,er,rfl):=qq.mp hd;have fj:=(qk.mp er).1;have ok:=hR i r er;have tk:=O6 er;have ln:(bJ<|rs.take i).length=i:=by rw[ud,Ŀ];omega
  have n6:(iL<|bJ<|rs.take i).length=i:=by unfold iL;rw[ċ,ln]
  have ad:∀v:Nat,v=Aj (bJ<|rs.take i) r->iL (bJ<|rs.take i)++[Ģ (v:Int)]=iL (bJ<|rs.take<|i+1):=λv e=>by rw[tk,Mf,e];rfl
  cases r with
  |num f=>
   have a1:=ad 1 rfl;simp![aS,n6];exact⟨_,by rw[<-a1];rfl⟩
  |lt k=>
   have a1:=ad 1 rfl;simp![aS,n6];exact⟨_,by rw[<-a1];rfl⟩
  |bin w a b=>
   have ha:=tY (ws:=bJ (rs.take i)) (a:=a) (by rw[ln];exact ok.1);have hb:=tY (ws:=bJ (rs.take i)) (a:=b) (by rw[ln];exact ok.2);cases w with
   |plus=>
    have a1:=ad ((bJ<|rs.take i).getD a 0+(bJ<|rs.take i).getD b 0) rfl;simp![aS,Wd.s,ha,hb,n6,zCt,i1f];exact⟨_,by rw[<-a1,š,a4a]⟩
   |less=>
    have a1:=ad ((bJ<|rs.take i).getD a 0+(bJ<|rs.take i).getD b 0+1) rfl;simp![aS,Wd.s,ha,hb,n6,zCu,Tp];exact⟨_,by rw[<-a1,š,š];rfl⟩
   |times=>
    have a1:=ad ((bJ<|rs.take i).getD a 0+(bJ<|rs.take i).getD b 0+1) rfl;simp![aS,Wd.s,ha,hb,n6,zCv,Tp];exact⟨_,by rw[<-a1,š,š];rfl⟩
 .rintro _ ⟨o2,rfl⟩
  rw[ċ,a2o];simp!
end K44
open PySem Internal
namespace K44
open PySem Internal
abbrev Et:=Rat×Qb Nat
noncomputable def pF:Qb Nat->D
 |none=>.none
 |some k=>.int (k:Int)
def mm(e:Et):D:=.tuple [fR e.1,pF e.2]
structure EO (n:Nat) (e:Et):Prop where
 bd:Bd 12 12000000 e.1
 lt:∀k,e.2=ž k->k < n
theorem KP:Bd 12 12000000 1:=nC (n:=1) (d:=1) (by decide) (by decide) (by decide)
def uk(n:Nat):Qb Nat->Qa Int
 |none=>zs n
 |some j=>kK n j
def fe(n:Nat)(e:Et):Pq Rat:=if e.1=0 then []else [(uk n e.2,e.1)]
def Ev(n:Nat)(e:Et)(g:Qa Int->Rat):Qa Int->Rat:=λk=>e.1 * g (sh n e.2 k)
theorem CZ:∀{n:Nat} {k:Qa Int},k.length=n->bM k (zs n)=k
 |0,[],_=>rfl
 |n+1,x::k,h=>by
  show(x+0)::bM k (zs n)=_;rw[CZ<|ώ h,a4a]
 |0,_::_,h=>by cases h
 |_+1,[],h=>by cases h
theorem Nz{l:Qb Nat}{k:Qa Int}(h:k.length=n):bM k (uk n l)=sh n l k:=by
 cases l with
 |none=>exact CZ h
 |some j=>rfl
theorem units:∀n∈[1,2,3],(∀j∈ĥ n,((ĥ n).map λk:Nat=>(if(k:Int)=(j:Int)then(1:Int)else 0))=kK n j)/\((ĥ n).map λk:Nat=>(0:Int))=zs n:=by decide
theorem ziB{e:Et}(n1:1<=n)(n3:n<=3)(he:∀k,e.2=ž k->k < n):Ac [.d<|mm e,.d<|.int (n:Int)]=ž (.t<|bB fR<|fe n e,[.d<|mm e,.d<|.int (n:Int)]):=by
 refine fH ?_;have(f,l):=e;have un:=units n (by rcases(by omega:n=1\/n=2\/n=3)with rfl|rfl|rfl<;>decide);have ed:mm (f,l)=.tuple [fR f,pF l]:=rfl;unfold fe;dsimp only
 by_cases z:f=0
 .subst z
  simp![Ac,ID,ed,show((0:Rat).num=0)=True from eq_true rfl,if_true];rfl
 .simp![Ac,ID,ed,a2L,z,İ]
  cases l with
  |none=>
   refine CH (g:=λk:Nat=>Ģ<|0+(k:Int)) (as:=ĥ n) (e:=λk:Nat=>.int (0:Int)) (by rw[Β];omega) (λk hk ys=>?_) ?_
   .have q:aV Ż (.d<|.int<|0+(k:Int)) (.d .none)=ž (.d<|.bool Ż):=rfl
    simp![pF,q]
   .rw[show((ĥ n).map λk:Nat=>Ģ 0)=((ĥ n).map λk:Nat=>(0:Int)).map Ģ by rw[ĳ];rfl,un.2]
    simp![pF,show ϟ ((zs n).map Ģ)=dB (zs n) from rfl];rfl
  |some j=>
   have hj:=he j rfl;refine CH (g:=λk:Nat=>Ģ<|0+(k:Int)) (as:=ĥ n) (e:=λk:Nat=>.int (if(k:Int)=(j:Int)then(1:Int)else 0)) (by rw[Β];omega) (λk hk ys=>?_) ?_
   .rw[a1c]
    by_cases c:(k:Int)=(j:Int)
    .simp![pF,c]
    .simp![pF,c]
   .rw[show((ĥ n).map λk:Nat=>Ģ (if(k:Int)=(j:Int)then(1:Int)else 0))=((ĥ n).map λk:Nat=>if(k:Int)=(j:Int)then(1:Int)else 0).map Ģ by rw[ĳ];rfl,un.1 j<|Õ.mpr hj]
    simp![pF,show ϟ ((kK n j).map Ģ)=dB (kK n j) from rfl];rfl
structure PZ (n e a:Nat) (p:Pq Rat):Prop where
 pg:PG n e a p
 nz:∀t∈p,t.2≠0
theorem IG(q:Pq Rat):∀t∈Internal.nz q,t.2≠0:=λt ht=>a5P (á.mp ht).2
theorem PZ.up{e a a':Nat}{p:Pq Rat}(h:PZ n e a p)(ha:a<=a')(he:e<=e'):PZ n e' a' p:=⟨h.pg.up ha he,h.nz⟩
theorem PZ.nil{e a:Nat}:PZ n e a []:=⟨⟨a2Y,λt h=>(by cases h),λt h=>(by cases h)⟩,λt h=>(by cases h)⟩
theorem Lx{l:Qb Nat}(h:∀k,l=ž k->k < n):Ks n 1 (uk n l):=by
 cases l with
 |none=>
  refine⟨Hh n,λk hk=>by rw[Mw k hk];decide,?_⟩;unfold uk zs;simp
 |some j=>exact NB<|h j rfl
theorem zC3:Bd 12 12000000 (-1):=by
 rw[show(-1:Rat)=Ĺ (-1) 1 by decide];exact nC (n:=-1) (d:=1) (by decide) (by decide) (by decide)
noncomputable def we(e:Et):Nat:=if e.2=Ž/\(e.1=1\/e.1=-1)then 0 else 1
theorem Lw{e:Et}:we e<=1:=by
 unfold we;split<;>decide
theorem zC4:Bd 1 1 (-1):=Bd.one.neg
theorem Gg{w:Nat}:Ks n w (zs n):=by
 refine⟨Hh n,λk hk=>by rw[Mw k hk];decide,?_⟩;unfold zs;simp
theorem Mv{e:Et}(he:EO n e):PZ n 0 (we e) (fe n e):=by
 unfold fe;split
 .exact PZ.nil
 .rename_i z
  by_cases c:e.2=Ž/\(e.1=1\/e.1=-1)
  .rw[show we e=0 from a5L c]
   refine⟨⟨AB,λt ht=>?_,λt ht=>?_⟩,λt ht=>?_⟩
   all_goals cases qp.mp ht
   .rw[c.1]
    exact Gg
   .rcases c.2 with e1|e1
    .show Bd _ _ e.1
     rw[e1];exact Bd.one
    .show Bd _ _ e.1
     rw[e1];exact zC4
   .exact z
  rw[show we e=1 from a5M c];refine⟨⟨AB,λt ht=>?_,λt ht=>?_⟩,λt ht=>?_⟩
  all_goals cases qp.mp ht
  .exact Lx he.lt
  .exact he.bd.le (by decide)
  .exact z
theorem YK{e:Et}:(fe n e).length<=1:=by
 unfold fe;split
 .exact À _
 .exact qe _
theorem Ny:PZ n 0 0 (jj n 1):=by
 have e:jj n 1=[(zs n,1)]:=a5M (by decide);rw[e];refine⟨⟨AB,λt ht=>?_,λt ht=>?_⟩,λt ht=>?_⟩
 all_goals cases qp.mp ht
 .exact Gg
 .exact Bd.one
 .exact(by decide:(1:Rat)≠0)
theorem ZR(g:Qa Int->Rat):aL (jj n 1) g=g (zs n):=by
 have e:jj n 1=[(zs n,1)]:=a5M (by decide);rw[e,zN,gH];grind
def pN(n:Nat)(p:Pq Rat)(e:Et):Pq Rat:=Internal.nz (dC []<|dg p<|fe n e)
def lD(s:Int)(p q:Pq Rat):Pq Rat:=Internal.nz (dC p<|fL s q)
theorem Nx{e:Et}(g:Qa Int->Rat):aL (fe n e) g=e.1 * g (uk n e.2):=by
 unfold fe;split
 .rename_i z
  rw[z,gH,Rat.zero_mul]
 .rw[zN,gH,Ŗ]
theorem YJ{d a:Nat}{p:Pq Rat}{e:Et}(h:PG n d a p)(g:Qa Int->Rat):aL (pN n p e) g=aL p (Ev n e g):=by
 unfold pN;rw[show Internal.nz (dC []<|dg p<|fe n e)=(dC []<|dg p<|fe n e).filter (λt=>decide<|t.2≠0) from rfl,G8,Hz _ _ Eo,gH,a0c,Du];refine qF λt ht=>?_;rw[Nx,Nz (h.ky t ht).ln];rfl
theorem HH{s:Int}{p q:Pq Rat}(h:cM p)(g:Qa Int->Rat):aL (lD s p q) g=aL p g+s * aL q g:=by
 unfold lD;rw[show Internal.nz (dC p<|fL s q)=(dC p<|fL s q).filter (λt=>decide<|t.2≠0) from rfl,G8,Hz _ _ h];congr 1;exact HI _ _ _
section
variable{d a:Nat}{p q:Pq Rat}{e:Et}{u1 u2:U}
theorem PZ.SY(h:PZ n d a p)(n1:1<=n)(n3:n<=3)(ha:a+we e<=4)(he:EO n e):PZ n (d+11) (a+we e) (pN n p e):=⟨h.pg.mul (Mv he).pg n1 n3 ha,IG _⟩
theorem PZ.add(h:PZ n d a p)(h':PZ n d a q)(n1:1<=n)(n3:n<=3)(ha:a<=4){s:Int}(hs:s=1\/s=-1):PZ n (d+6) a (lD s p q):=⟨h.pg.add h'.pg n1 n3 ha hs,IG _⟩
theorem vK{k:Nat}:0 < 12^k:=a1n (by decide)
theorem rA{k:Nat}(h:k<=8):12^k < 2^4000:=É (à (by decide) h) (qi (by decide:12^8 < 2^30)<|à (by decide) (by decide))
theorem jY{Q:U×Qa U->Prop}(n1:1<=n)(n3:n<=3)(n8:u1.fz=ž (.dict<|bR fR p))(m7:u2.fz=ž (.dict<|bR fR<|fe n e))(hp:PZ n d a p)(ha:a+we e<=4)(hd:d<=3000)(he:EO n e)(kq:∀jQ,Q (.t<|bB fR<|pN n p e,[dT p,jQ])):Wo (zq [u1,u2]) Q:=by
 have lp:=hp.pg.len n1 n3 (by omega);have le:=YK (n:=n) (e:=e);have hq:=Mv he;have w1:=Lw (e:=e);have lm:p.length * (fe n e).length<=35 * 1:=ÿ lp le;refine QK n8 m7 hp.pg.nd hq.pg.nd hp.pg.bd hq.pg.bd (λt ht=>(hp.pg.ky t ht).ln) (λt ht=>(hq.pg.ky t ht).ln) (by omega) vK vK (by rw[<-ś];exact rA (by omega)) (rA (by omega)) (rA (by omega)) (rm (by omega)) (rm (by omega)) ?_ (a2y (a1n (by decide))<|a1n (by decide)) (by omega) (by omega) (by omega) λjQ _ _=>kq jQ;refine É (Ë _<|qx lm (by decide:35 * 1<=2^6)) ?_;rw[<-ś,<-ś];exact rm (by omega)
theorem zAm{s:Int}(n1:1<=n)(n3:n<=3)(n8:u1=.d (.dict<|bR fR p)\/u1=.t (bB fR p))(m7:u2.fz=ž (.dict<|bR fR q))(hs:s=1\/s=-1)(hp:PZ n d a p)(hq:PZ n d a q)(ha:a<=4)(hd:d<=3000):
  oZ [u1,u2,.d<|.int s]=ž (.t<|bB fR<|lD s p q,[u1,dT q,.d<|.int s]):=by
 have lp:=hp.pg.len n1 n3 ha;have lq:=hq.pg.len n1 n3 ha;have hh:=hp.pg.hash n1 n3 ha;refine QL (by rcases n8 with rfl|rfl;exact Lm hh;exact Ll hh) m7 hs hp.pg.nd hq.pg.nd hp.pg.bd hq.pg.bd vK (rA (by omega)) ?_ (by omega) (by omega);have h1:q.length * 2^(24 * a+d)<=35 * 2^(24 * a+d):=Ë _ lq;have h2:2^(24 * a+d+6)=2^(24 * a+d) * 64:=ś _ _ _;have h3:2^(24 * a+d+6) < 2^4000:=rm (by omega);omega
end
end K44
open PySem Internal
namespace K44
open PySem Internal
theorem P6:∀a b c:Qa Int,bM (bM a b) c=bM a (bM b c)
 |[],_,_=>rfl
 |_::_,[],_=>rfl
 |_::_,_::_,[]=>rfl
 |x::a,y::b,z::c=>by
  show(x+y+z)::bM (bM a b) c=(x+(y+z))::bM a (bM b c);rw[P6 a b c,Int.add_assoc]
theorem ZQ(p:Pq Rat)(g h:Qa Int->Rat):(aL p λa=>g a+h a)=aL p g+aL p h:=by
 induction p with
 |nil=>rw[gH,gH,gH,Ŗ]
 |cons t p ih=>
  rw[zN,zN,zN,ih];grind
theorem ZP{a b:Qa Int}(ha:a.length=n)(hb:b.length=n):(bM a b).length=n:=by
 unfold bM;rw[a4F,ha,hb,Nat.min_self]
theorem Nv{k:Qa Int}(h:k.length=n):bM (zs n) k=k:=by
 rw[Internal.lV,CZ h]
abbrev Ed:=Nat×Nat×Pq Rat
abbrev Vs:=Nat->Pq Rat
def eS(V:Vs)(d:Nat)(g:Qa Int->Rat)(x:Ed):Rat:=if x.2.1=d then aL (V x.1) (λe=>aL x.2.2 λf=>g<|bM e f)else 0
def sE(V:Vs)(d:Nat)(g:Qa Int->Rat)(E:Qa Ed):Rat:=(E.map<|eS V d g).sum
theorem si{V:Vs}{d:Nat}{g:Qa Int->Rat}{E F:Qa Ed}:sE V d g (E++F)=sE V d g E+sE V d g F:=by
 unfold sE;rw[ĕ,NA]
theorem lM{V:Vs}{d:Nat}{g:Qa Int->Rat}{x:Ed}{F:Qa Ed}:sE V d g (x::F)=eS V d g x+sE V d g F:=by
 unfold sE;rw[Ē,ĺ]
theorem sf{V:Vs}{d:Nat}{g:Qa Int->Rat}:sE V d g []=0:=rfl
structure GV (n:Nat) (E:Qa Ed) (V:Vs):Prop where
 ky:∀d,Ln n (V d)
 eq:∀d g,aL (V d) g=(if d=0 then g (zs n)else 0)+sE V d g E
theorem GV.same{E F:Qa Ed}{V:Vs}(h:GV n E V)(e:∀d g,sE V d g F=sE V d g E):GV n F V:=⟨h.ky,λd g=>by rw[e];exact h.eq d g⟩
noncomputable def upd(V:Vs)(m:Nat)(q:Pq Rat):Vs:=λd=>if d=m then q else V d
theorem Hf{V:Vs}{q:Pq Rat}:upd V m q m=q:=a5L rfl
theorem zA{V:Vs}{d:Nat}{q:Pq Rat}(h:d≠m):upd V m q d=V d:=a5M h
theorem zAn{V:Vs}{d:Nat}{q:Pq Rat}{g:Qa Int->Rat}{E:Qa Ed}(no:∀x∈E,x.1≠m):sE (upd V m q) d g E=sE V d g E:=by
 unfold sE;congr 1;refine Ø λx hx=>?_;unfold eS;rw[zA<|no x hx]
theorem Lv{V:Vs}{g:Qa Int->Rat}:∀{E:Qa Ed},(∀x∈E,x.2.1≠m)->sE V m g E=0
 |[],_=>rfl
 |x::E,h=>by
  rw[lM,Lv λy hy=>h y<|qm _ hy];unfold eS;rw[a5M<|h x qo,Ŗ]
theorem zAo{p q:Pq Rat}(hp:Ln n p)(hq:Ln n q):Ln n (dg p q):=λt ht=>by
 have(u,hu,v,hv,rfl):=Dt ht;exact ZP (hp u hu)<|hq v hv
theorem GV.Ja{s e:Nat}{E:Qa Ed}{V:Vs}{P q1 q2:Pq Rat}(h:GV n (E++[(s,e,P)]) V)(m0:m≠0)(hs:s≠m)(he:e≠m)(fr:∀x∈E,x.1≠m/\x.2.1≠m)(k1:Ln n q1)
  (hP:∀g,aL P g=aL q1 (λf=>aL q2 λh=>g<|bM f h)):GV n (E++[(s,m,q1),(m,e,q2)]) (upd V m<|dg (V s) q1):=by
 refine⟨λd=>?_,λd g=>?_⟩
 .by_cases c:d=m
  .subst c
   rw[Hf];exact zAo (h.ky s) k1
  .rw[zA c]
   exact h.ky d
 .rw[si,lM,lM,sf,zAn λx hx=>(fr x hx).1]
  by_cases c:d=m
  .subst c
   rw[Hf,a5M m0,Lv λx hx=>(fr x hx).2];unfold eS;rw[a5L rfl,a5M he,zA hs,Du];grind
  .rw[zA c,h.eq,si,lM,sf]
   unfold eS;dsimp only;have ee:aL (V s) (λe=>aL P λf=>g<|bM e f)=aL (dg (V s) q1) λe=>aL q2 λf=>g (bM e f):=by
    rw[Du];refine qF λt _=>?_;rw[hP];refine qF λu _=>qF λv _=>?_;rw[P6]
   rw[a5M<|ĭ c,Hf,a0c,ee]
theorem GV.par{s e:Nat}{E:Qa Ed}{V:Vs}{P q1 q2:Pq Rat}(h:GV n (E++[(s,e,P)]) V)(hP:∀g,aL P g=aL q1 g+aL q2 g):GV n (E++[(s,e,q1),(s,e,q2)]) V:=by
 refine h.same λd g=>?_;rw[si,si,lM,lM,lM,sf];congr 1;unfold eS;dsimp only;split
 .rw[<-a1E,Ŗ,Ŗ,<-ZQ]
  exact qF λt _=>(hP _).symm
 .rw[Ŗ,Ŗ]
def xI(n j:Nat):Pq Rat:=[(kK n j,1)]
noncomputable def wU(p:Pq Rat):Pq Rat:=p.map λt=>(t.1,(-1) * t.2)
def RP(n:Nat)(P:Vs)(t:Nat):Rw->Prop
 |.num f=>P t=jj n f
 |.lt k=>P t=xI n k
 |.bin .plus a b=>∀g,aL (P t) g=aL (P a) g+aL (P b) g
 |.bin .less a b=>∀g,aL (P t) g=aL (P a) g+(-1) * aL (P b) g
 |.bin .times a b=>∀g,aL (P t) g=aL (P a) λe=>aL (P b) λf=>g<|bM e f
structure PR (n:Nat) (P:Vs) (rs:Qa Rw):Prop where
 ky:∀t,Ln n (P t)
 eq:∀t r,rs[t]?=ž r->RP n P t r
end K44
open PySem Internal
namespace K44
open PySem Internal
structure Wy where
 i:Bool
 a:Nat
 b:Nat
 e:Et
def Wy.d(x:Wy):D:=.tuple [.int (x.a:Int),.int (x.b:Int),mm x.e]
structure Jb where
 t:Nat
 s:Nat
 e:Nat
 o:Nat
noncomputable def Jb.d(x:Jb):D:=.tuple [.int (x.t:Int),.int (x.s:Int),.int (x.e:Int),.int (x.o:Int)]
def oJ(x y:Wy):Prop:=(x.i=ż->y.i=ż->x.b≠y.b)/\(x.i=Ż->y.i=Ż->x.a≠y.a)/\(x.i≠y.i->x.a≠y.a)
structure JI (D0 m:Nat) (w:Nat->Nat) (J:Qa Jb):Prop where
 b:∀j∈J,j.s < j.o/\j.o+w j.t<=j.e/\j.e < D0/\j.t < m
 p:J.Pairwise λi j=>i.o+w i.t<=j.o
 s:∀i∈J,∀j∈J,j.o<=i.s->i.s < j.o+w j.t->False
 e:∀i∈J,∀j∈J,j.o<=i.e->i.e < j.o+w j.t->False
structure WI (n D0:Nat) (w:Nat->Nat) (W:Qa Wy) (J:Qa Jb):Prop where
 b:∀x∈W,x.a < x.b/\x.b < D0/\EO n x.e
 i:∀x∈W,∀j∈J,j.o<=x.b->x.b < j.o+w j.t->False
 a:∀x∈W,∀j∈J,j.o<=x.a->x.a < j.o+w j.t->False
 o:∀x∈W,x.i=Ż->∀j∈J,j.s≠x.a
 p:W.Pairwise oJ
theorem qC{r:α->α->Prop}{xs ys:Qa α}:(xs++ys).Pairwise r↔xs.Pairwise r/\ys.Pairwise r/\∀x∈xs,∀y∈ys,r x y:=ą
section
variable{D0:Nat}{w:Nat->Nat}{W:Qa Wy}{J:Qa Jb}{t s e o:Nat}
theorem PQ{f:Et}(h:JI D0 m w (J++[⟨t,s,e,o⟩]))(g:WI n D0 w W (J++[⟨t,s,e,o⟩]))(hw:w t=1)(hf:EO n f)(h1:EO n (1,Ž)):
  JI D0 m w J/\WI n D0 w (W++[⟨ż,s,o,f⟩]++[⟨Ż,o,e,(1,Ž)⟩]) J:=by
 have hb:=h.b ⟨t,s,e,o⟩ (by simp);have hp:=qC.mp h.p;have hs:=h.s;simp only[ğ,qp]at hb hs;refine⟨⟨λj hj=>h.b j (by simp[hj]),hp.1,λi hi j hj=>h.s i (by simp[hi]) j (by simp[hj]),λi hi j hj=>h.e i (by simp[hi]) j (by simp[hj])⟩,?_⟩;have cq:∀j∈J,j.o+w j.t<=o:=λj hj=>hp.2.2 j hj ⟨t,s,e,o⟩ (by simp);refine⟨λx hx=>?_,λx hx j hj h1 h2=>?_,λx hx j hj h1 h2=>?_,λx hx hi j hj=>?_,?_⟩
 .simp only[ğ,qp]at hx
  rcases hx with (hx|rfl) |rfl
  .exact g.b x hx
  .exact⟨hb.1,by dsimp only at *;omega,hf⟩
  .exact⟨by dsimp only at *;omega,hb.2.2.1,h1⟩
 .simp only[ğ,qp]at hx
  have:=cq j hj;rcases hx with (hx|rfl) |rfl
  .exact g.i x hx j (by simp[hj]) h1 h2
  .dsimp only at *;omega
  .exact h.e ⟨t,s,e,o⟩ (by simp) j (by simp[hj]) h1 h2
 .simp only[ğ,qp]at hx
  have:=cq j hj;rcases hx with (hx|rfl) |rfl
  .exact g.a x hx j (by simp[hj]) h1 h2
  .exact h.s ⟨t,s,e,o⟩ (by simp) j (by simp[hj]) h1 h2
  .dsimp only at *;omega
 .simp only[ğ,qp]at hx
  have:=cq j hj;rcases hx with (hx|rfl) |rfl
  .exact g.o x hx hi j (by simp[hj])
  .cases hi
  .have:=(h.b j (by simp[hj])).1
   dsimp only at *;omega
 .have jm:(⟨t,s,e,o⟩:Jb)∈J++[⟨t,s,e,o⟩]:=by simp
  refine qC.mpr ⟨qC.mpr ⟨g.p,by simp,λx hx y hy=>?_⟩,by simp,λx hx y hy=>?_⟩
  .cases qp.mp hy
   refine⟨λa _ z=>?_,λ_ a=>(by cases a),λa z=>?_⟩
   .exact g.i x hx _ jm (by dsimp only at *;omega) (by dsimp only at *;omega)
   .exact g.o x hx (by cases hh:x.i;rfl;exact absurd hh a) _ jm z.symm
  .cases qp.mp hy
   simp only[ğ,qp]at hx;rcases hx with hx|rfl
   .refine⟨λ_ a=>(by cases a),λa _ z=>?_,λa z=>?_⟩
    .exact g.a x hx _ jm (by dsimp only at *;omega) (by dsimp only at *;omega)
    .exact g.a x hx _ jm (by dsimp only at *;omega) (by dsimp only at *;omega)
   .exact⟨λ_ a=>(by cases a),λa=>(by cases a),λ_ z=>(by have:=hb.1;dsimp only at this z;omega)⟩
structure fC (D0 m:Nat) (w:Nat->Nat) (t s e o t1 e1 t2 s2 e2 o2:Nat):Prop where
 a:o+w t1<=o2
 b:o2+w t2<=o+w t
 c:o+w t1<=e1/\e1 < D0/\o2+w t2<=e2/\e2 < D0
 m1:t1 < m
 m2:t2 < m
 s:s2=s\/(s2=o+w t1/\s2 < o2)
 y:e1=e\/(e1=o+w t1/\e1 < o2)
 z:e2=e
variable{t1 e1 t2 s2 e2 o2:Nat}
theorem B8(h:JI D0 m w (J++[⟨t,s,e,o⟩]))(T:fC D0 m w t s e o t1 e1 t2 s2 e2 o2):JI D0 m w (J++[⟨t1,s,e1,o⟩]++[⟨t2,s2,e2,o2⟩]):=by
 have hb:=h.b ⟨t,s,e,o⟩ (by simp);have hp:=qC.mp h.p;have cq:∀j∈J,j.o+w j.t<=o:=λj hj=>hp.2.2 j hj ⟨t,s,e,o⟩ (by simp);have Tw:∀j∈J,j.o<=s->s < j.o+w j.t->False:=λj hj=>h.s ⟨t,s,e,o⟩ (by simp) j (by simp[hj]);have Tx:∀j∈J,o<=j.s->j.s < o+w t->False:=λj hj=>h.s j (by simp[hj]) ⟨t,s,e,o⟩ (by simp);have TR:∀j∈J,j.o<=e->e < j.o+w j.t->False:=λj hj=>h.e ⟨t,s,e,o⟩ (by simp) j (by simp[hj]);have TQ:∀j∈J,o<=j.e->j.e < o+w t->False:=λj hj=>h.e j (by simp[hj]) ⟨t,s,e,o⟩ (by simp);have(Ta,Tb,Tc,T1,T2,Ts,Te,Tf):=T;dsimp only at hb;refine⟨λj hj=>?_,qC.mpr ⟨qC.mpr ⟨hp.1,by simp,λx hx y hy=>?_⟩,by simp,λx hx y hy=>?_⟩,λi hi j hj h1 h2=>?_,λi hi j hj h1 h2=>?_⟩
 .simp only[ğ,qp]at hj
  rcases hj with (hj|rfl) |rfl
  .exact h.b j (by simp[hj])
  .dsimp only;omega
  .dsimp only;omega
 .cases qp.mp hy
  have:=cq x hx;dsimp only;omega
 .cases qp.mp hy
  simp only[ğ,qp]at hx;rcases hx with hx|rfl
  .have:=cq x hx
   dsimp only;omega
  .dsimp only;omega
 .simp only[ğ,qp]at hi hj
  rcases hi with (hi|rfl) |rfl
  .rcases hj with (hj|rfl) |rfl
   .exact h.s i (by simp[hi]) j (by simp[hj]) h1 h2
   .exact Tx i hi h1 (by dsimp only at *;omega)
   .exact Tx i hi (by dsimp only at *;omega) (by dsimp only at *;omega)
  .rcases hj with (hj|rfl) |rfl
   .exact Tw j hj h1 h2
   .dsimp only at *;omega
   .dsimp only at *;omega
  .rcases hj with (hj|rfl) |rfl
   .have:=cq j hj
    rcases Ts with rfl|⟨q1,q2⟩
    .exact Tw j hj h1 h2
    .dsimp only at *;omega
   .dsimp only at *;omega
   .dsimp only at *;omega
 .simp only[ğ,qp]at hi hj
  rcases hi with (hi|rfl) |rfl
  .rcases hj with (hj|rfl) |rfl
   .exact h.e i (by simp[hi]) j (by simp[hj]) h1 h2
   .exact TQ i hi h1 (by dsimp only at *;omega)
   .exact TQ i hi (by dsimp only at *;omega) (by dsimp only at *;omega)
  .rcases hj with (hj|rfl) |rfl
   .have:=cq j hj
    rcases Te with rfl|⟨q1,q2⟩
    .exact TR j hj h1 h2
    .dsimp only at *;omega
   .dsimp only at *;omega
   .dsimp only at *;omega
  .rcases hj with (hj|rfl) |rfl
   .subst Tf
    exact TR j hj h1 h2
   .dsimp only at *;omega
   .dsimp only at *;omega
theorem Gf(h:JI D0 m w (J++[⟨t,s,e,o⟩]))(g:WI n D0 w W (J++[⟨t,s,e,o⟩]))(T:fC D0 m w t s e o t1 e1 t2 s2 e2 o2):WI n D0 w W (J++[⟨t1,s,e1,o⟩]++[⟨t2,s2,e2,o2⟩]):=by
 have hb:=h.b ⟨t,s,e,o⟩ (by simp);have jm:(⟨t,s,e,o⟩:Jb)∈J++[⟨t,s,e,o⟩]:=by simp
 have(Ta,Tb,Tc,T1,T2,Ts,Te,Tf):=T;dsimp only at hb;refine⟨g.b,λx hx j hj h1 h2=>?_,λx hx j hj h1 h2=>?_,λx hx hi j hj=>?_,g.p⟩
 .simp only[ğ,qp]at hj
  have:=g.i x hx _ jm;rcases hj with (hj|rfl) |rfl
  .exact g.i x hx j (by simp[hj]) h1 h2
  .exact this h1 (by dsimp only at *;omega)
  .exact this (by dsimp only at *;omega) (by dsimp only at *;omega)
 .simp only[ğ,qp]at hj
  have:=g.a x hx _ jm;rcases hj with (hj|rfl) |rfl
  .exact g.a x hx j (by simp[hj]) h1 h2
  .exact this h1 (by dsimp only at *;omega)
  .exact this (by dsimp only at *;omega) (by dsimp only at *;omega)
 .simp only[ğ,qp]at hj
  have h3:=g.a x hx _ jm;have h4:=g.o x hx hi _ jm;rcases hj with (hj|rfl) |rfl
  .exact g.o x hx hi j (by simp[hj])
  .exact h4
  .rcases Ts with rfl|⟨q1,q2⟩
   .exact h4
   .intro z
    exact h3 (by dsimp only at *;omega) (by dsimp only at *;omega)
theorem zAp{f:Et}(h:JI D0 m w (J++[⟨t,s,e,o⟩]))(g:WI n D0 w W (J++[⟨t,s,e,o⟩]))(T:fC D0 m w t s e o t1 e1 t2 s2 e2 o2)(hs:s2=o+w t1)(h2:s2 < o2)(hf:EO n f):WI n D0 w (W++[⟨ż,s,s2,f⟩]) (J++[⟨t1,s,e1,o⟩]++[⟨t2,s2,e2,o2⟩]):=by
 have g2:=Gf h g T;have h2j:=B8 h T;have hb:=h.b ⟨t,s,e,o⟩ (by simp);have hp:=qC.mp h.p;have cq:∀j∈J,j.o+w j.t<=o:=λj hj=>hp.2.2 j hj ⟨t,s,e,o⟩ (by simp);have jm:(⟨t,s,e,o⟩:Jb)∈J++[⟨t,s,e,o⟩]:=by simp
 have cm:(⟨t1,s,e1,o⟩:Jb)∈J++[⟨t1,s,e1,o⟩]++[⟨t2,s2,e2,o2⟩]:=by simp
 have(Ta,Tb,Tc,T1,T2,Ts,Te,Tf):=T;dsimp only at hb;refine⟨λx hx=>?_,λx hx j hj h3 h4=>?_,λx hx j hj h3 h4=>?_,λx hx hi j hj=>?_,qC.mpr ⟨g.p,by simp,λx hx y hy=>?_⟩⟩
 .simp only[ğ,qp]at hx
  rcases hx with hx|rfl
  .exact g.b x hx
  .exact⟨by dsimp only;omega,by dsimp only;omega,hf⟩
 .simp only[ğ,qp]at hx
  rcases hx with hx|rfl
  .exact g2.i x hx j hj h3 h4
  .simp only[ğ,qp]at hj
   rcases hj with (hj|rfl) |rfl
   .have:=cq j hj;dsimp only at *;omega
   .dsimp only at *;omega
   .dsimp only at *;omega
 .simp only[ğ,qp]at hx
  rcases hx with hx|rfl
  .exact g2.a x hx j hj h3 h4
  .exact h2j.s _ cm j hj h3 h4
 .simp only[ğ,qp]at hx
  rcases hx with hx|rfl
  .exact g2.o x hx hi j hj
  .cases hi
 .cases qp.mp hy
  refine⟨λa _ z=>?_,λ_ a=>(by cases a),λa z=>?_⟩
  .exact g.i x hx _ jm (by dsimp only at *;omega) (by dsimp only at *;omega)
  .exact g.o x hx (by cases hh:x.i;rfl;exact absurd hh a) _ jm z.symm
end
def ew(n:Nat)(x:Wy):Ed:=(x.a,x.b,fe n x.e)
noncomputable def ej(P:Vs)(j:Jb):Ed:=(j.s,j.e,P j.t)
structure GI (n D1:Nat) (P:Vs) (wg:Nat->Nat) (q:Pq Rat) (W:Qa Wy) (J:Qa Jb) (V:Vs) (h:Nat->Nat):Prop where
 g:GV n (W.map (ew n)++J.map (ej P)) V
 v:∀g,aL (V D1) g=aL q g
 w:∀x∈W,h x.a+we x.e<=h x.b
 j:∀x∈J,h x.s+wg x.t<=h x.e
 l:∀d,h d<=4
noncomputable def hu(h:Nat->Nat)(m v:Nat):Nat->Nat:=λd=>if d=m then v else h d
theorem vJ{h:Nat->Nat}{v:Nat}:hu h m v m=v:=a5L rfl
theorem gY{h:Nat->Nat}{v d:Nat}(c:d≠m):hu h m v d=h d:=a5M c
structure Frs (D1 m s e:Nat) (W:Qa Wy) (J:Qa Jb):Prop where
 z:m≠0
 d:m≠D1
 s:s≠m
 e:e≠m
 w:∀x∈W,x.a≠m/\x.b≠m
 j:∀x∈J,x.s≠m/\x.e≠m
section
variable{D1:Nat}{P:Vs}{wg:Nat->Nat}{q:Pq Rat}{W:Qa Wy}{J:Qa Jb}{V:Vs}{h:Nat->Nat}{t s e o a b o2:Nat}
theorem Frs.g(F:Frs D1 m s e W J):∀x∈W.map (ew n)++J.map (ej P),x.1≠m/\x.2.1≠m:=λx hx=>by
 rcases È.mp hx with hx|hx
 .have(y,hy,rfl):=Ä.mp hx
  exact F.w y hy
 .have(y,hy,rfl):=Ä.mp hx
  exact F.j y hy
theorem GI.front(I:GI n D1 P wg q W (J++[⟨t,s,e,o⟩]) V h):GV n ((W.map (ew n)++J.map (ej P))++[(s,e,P t)]) V:=by
 have g:=I.g;rw[ĕ,<-Ķ]at g;exact g
theorem eP1:fe n (1,Ž)=[(zs n,1)]:=a5M (by decide)
theorem ePm:fe n (-1,Ž)=[(zs n,-1)]:=a5M (by decide)
theorem Ge{f:Et}(hf:∀k,f.2=ž k->k < n):Ln n (fe n f):=λt ht=>by
 unfold fe at ht;split at ht
 .cases ht
 .cases qp.mp ht
  exact(Lx hf).ln
theorem GI.leaf{f:Et}(I:GI n D1 P wg q W (J++[⟨t,s,e,o⟩]) V h)(F:Frs D1 m s e W J)(hP:P t=fe n f)(hf:∀k,f.2=ž k->k < n)(hw:wg t=1):∃V h,GI n D1 P wg q (W++[⟨ż,s,m,f⟩]++[⟨Ż,m,e,(1,Ž)⟩]) J V h:=by
 have g2:=I.front.Ja (q1:=fe n f) (q2:=fe n (1,Ž)) F.z F.s F.e F.g (Ge hf) λg=>by
  rw[hP,eP1];refine qF λk hk=>?_;rw[zN,gH,CZ<|Ge hf k hk];grind
 have hj:=I.j ⟨t,s,e,o⟩ (by simp);have w1:=Lw (e:=f);have w2:we (1,Ž)=0:=a5L ⟨rfl,.inl rfl⟩;have he:=I.l e;dsimp only at hj;refine⟨_,hu h m<|h s+1,g2.same λd g=>?_,λg=>?_,λx hx=>?_,λx hx=>?_,λd=>?_⟩
 .rw[show ew n=λx=>(x.a,x.b,fe n x.e) from rfl]
  simp only[ĕ,Ē,Œ,si,lM,sf];grind
 .rw[zA<|ĭ F.d]
  exact I.v g
 .simp only[ğ,qp]at hx
  rcases hx with (hx|rfl) |rfl
  .rw[gY (F.w x hx).1,gY (F.w x hx).2]
   exact I.w x hx
  .dsimp only
   rw[vJ,gY F.s];omega
  .dsimp only
   rw[vJ,gY F.e];omega
 .rw[gY (F.j x hx).1,gY (F.j x hx).2]
  exact I.j x (by simp[hx])
 .unfold hu
  split
  .omega
  .exact I.l d
theorem GI.plus(I:GI n D1 P wg q W (J++[⟨t,s,e,o⟩]) V h)(hP:∀g,aL (P t) g=aL (P a) g+aL (P b) g)(ha:wg a<=wg t)(hb:wg b<=wg t):GI n D1 P wg q W (J++[⟨a,s,e,o⟩]++[⟨b,s,e,o2⟩]) V h:=by
 have g2:=I.front.par hP;have hj:=I.j ⟨t,s,e,o⟩ (by simp);dsimp only at hj;refine⟨g2.same λd g=>?_,I.v,I.w,λx hx=>?_,I.l⟩
 .rw[show ej P=λj=>(j.s,j.e,P j.t) from rfl]
  simp only[ĕ,Ē,Œ,si,lM,sf];grind
 .simp only[ğ,qp]at hx
  rcases hx with (hx|rfl) |rfl
  .exact I.j x (by simp[hx])
  .dsimp only;omega
  .dsimp only;omega
theorem GI.times(I:GI n D1 P wg q W (J++[⟨t,s,e,o⟩]) V h)(F:Frs D1 m s e W J)(ky:Ln n (P a))(hP:∀g,aL (P t) g=aL (P a) λe=>aL (P b) λf=>g<|bM e f)(hw:wg a+wg b<=wg t):∃V h,GI n D1 P wg q W (J++[⟨a,s,m,o⟩]++[⟨b,m,e,o2⟩]) V h:=by
 have g2:=I.front.Ja (q1:=P a) (q2:=P b) F.z F.s F.e F.g ky hP;have hj:=I.j ⟨t,s,e,o⟩ (by simp);have he:=I.l e;dsimp only at hj;refine⟨_,hu h m<|h s+wg a,g2.same λd g=>?_,λg=>?_,λx hx=>?_,λx hx=>?_,λd=>?_⟩
 .rw[show ej P=λj=>(j.s,j.e,P j.t) from rfl]
  simp only[ĕ,Ē,Œ,si,lM,sf];grind
 .rw[zA<|ĭ F.d]
  exact I.v g
 .rw[gY (F.w x hx).1,gY (F.w x hx).2]
  exact I.w x hx
 .simp only[ğ,qp]at hx
  rcases hx with (hx|rfl) |rfl
  .rw[gY (F.j x hx).1,gY (F.j x hx).2]
   exact I.j x (by simp[hx])
  .dsimp only
   rw[vJ,gY F.s];omega
  .dsimp only
   rw[vJ,gY F.e];omega
 .unfold hu
  split
  .omega
  .exact I.l d
theorem GI.less(I:GI n D1 P wg q W (J++[⟨t,s,e,o⟩]) V h)(F:Frs D1 m s e W J)(ky:Ln n (P b))(hP:∀g,aL (P t) g=aL (P a) g+(-1) * aL (P b) g)(ha:wg a<=wg t)(hb:wg b<=wg t):∃V h,GI n D1 P wg q (W++[⟨ż,s,m,(-1,Ž)⟩]) (J++[⟨a,s,e,o⟩]++[⟨b,m,e,o2⟩]) V h:=by
 have g1:=I.front.par (q1:=P a) (q2:=wU (P b)) λg=>by
  unfold wU;rw[HI];exact hP g
 rw[show((W.map (ew n)++J.map (ej P))++[(s,e,P a),(s,e,wU<|P b)])=((W.map (ew n)++J.map (ej P))++[(s,e,P a)])++[(s,e,wU<|P b)] by rw[Ķ _ _ [(s,e,wU<|P b)]];rfl]at g1;have g2:=g1.Ja (m:=m) (q1:=fe n (-1,Ž)) (q2:=P b) F.z F.s F.e (λx hx=>by
  rcases È.mp hx with hx|hx
  .exact F.g x hx
  .cases qp.mp hx
   exact⟨F.s,F.e⟩) (Ge λk hk=>by cases hk) λg=>by
  unfold wU;rw[HI,ePm,zN,gH,Ŗ];dsimp only;congr 1;refine qF λu hu=>?_;rw[Nv<|ky u hu]
 have hj:=I.j ⟨t,s,e,o⟩ (by simp);have w2:we (-1,Ž)=0:=a5L ⟨rfl,.inr rfl⟩;have he:=I.l e;have hs:=I.l s;dsimp only at hj;refine⟨_,hu h m<|h s,g2.same λd g=>?_,λg=>?_,λx hx=>?_,λx hx=>?_,λd=>?_⟩
 .rw[show ej P=λj=>(j.s,j.e,P j.t) from rfl,show ew n=λx=>(x.a,x.b,fe n x.e) from rfl]
  simp only[ĕ,Ē,Œ,si,lM,sf];grind
 .rw[zA<|ĭ F.d]
  exact I.v g
 .simp only[ğ,qp]at hx
  rcases hx with hx|rfl
  .rw[gY (F.w x hx).1,gY (F.w x hx).2]
   exact I.w x hx
  .dsimp only
   rw[vJ,gY F.s];omega
 .simp only[ğ,qp]at hx
  rcases hx with (hx|rfl) |rfl
  .rw[gY (F.j x hx).1,gY (F.j x hx).2]
   exact I.j x (by simp[hx])
  .dsimp only
   rw[gY F.s,gY F.e];omega
  .dsimp only
   rw[vJ,gY F.e];omega
 .unfold hu
  split
  .omega
  .exact I.l d
end
theorem GI.start{D1 t o:Nat}{P:Vs}{wg:Nat->Nat}(h0:D1≠0)(ky:Ln n (P t))(hw:wg t<=4):∃V h,GI n D1 P wg (P t) [] [⟨t,0,D1,o⟩] V h:=by
 refine⟨λd=>if d=0 then [(zs n,1)]else if d=D1 then P t else [],λd=>if d=0 then 0 else 4,⟨λd u hu=>?_,λd g=>?_⟩,λg=>by rw[a5M h0,a5L rfl],λx hx=>(by cases hx),λx hx=>?_,λd=>(by split<;>omega)⟩
 .split at hu
  .cases qp.mp hu
   exact Hh n
  .split at hu
   .exact ky u hu
   .cases hu
 .show _=_+sE _ d g [(0,D1,P t)]
  rw[lM,sf];unfold eS;dsimp only
  by_cases c:d=0
  .subst c
   rw[a5L rfl,a5L rfl,a5M h0,zN,gH];grind
  .rw[a5M c,a5M c]
   by_cases c2:d=D1
   .subst c2
    rw[a5L rfl,a5L rfl,a5L rfl,zN,gH];dsimp only;rw[qF (g:=λf=>g<|bM (zs n) f) (h:=g) λu hu=>by rw[Nv<|ky u hu]];grind
   .rw[a5M c2,a5M<|ĭ c2,gH]
    grind
 .cases qp.mp hx
  dsimp only;rw[a5L rfl,a5M h0];omega
end K44
open PySem Internal
namespace K44
open PySem Internal
noncomputable def mJ(w:Nat->Nat):Qa Jb->Nat
 |[]=>0
 |j::J=>(2 * w j.t - 1)+mJ w J
def sJ(w:Nat->Nat):Qa Jb->Nat
 |[]=>0
 |j::J=>w j.t+sJ w J
theorem r9{w:Nat->Nat}:∀{J L:Qa Jb},mJ w (J++L)=mJ w J+mJ w L
 |[],L=>by simp[mJ]
 |j::J,L=>by
  show _+mJ w (J++L)=_+mJ w J+_;rw[r9];omega
theorem r8{w:Nat->Nat}:∀{J L:Qa Jb},sJ w (J++L)=sJ w J+sJ w L
 |[],L=>by simp[sJ]
 |j::J,L=>by
  show _+sJ w (J++L)=_+sJ w J+_;rw[r8];omega
theorem Mu{w:Nat->Nat}:∀{J:Qa Jb},(∀j∈J,1<=w j.t)->J.length<=sJ w J
 |[],_=>qe _
 |j::J,h=>by
  have:=Mu (J:=J) λi hi=>h i<|qm _ hi;have:=h j qo;simp only[qt,sJ];omega
theorem zC5:(U.l []).wQ=ž Ż:=rfl
theorem zC6{xs:Qa D}{x:D}:(U.l<|xs++[x]).wQ=ž ż:=by cases xs<;>rfl
theorem ZO{r:Rat}:wK [.d<|.tuple [.str "number",fR r]]=ž (.d<|mm (r,Ž),[.d<|.tuple [.str "number",fR r]]):=by
 refine fH ?_;simp![wK,Iz];rfl
theorem YI{k:Nat}:wK [.d<|.tuple [.str "letter",.int (k:Int)]]=ž (.d<|mm (1,ž k),[.d<|.tuple [.str "letter",.int (k:Int)]]):=by
 refine fH ?_;simp![wK,Iz];rfl
noncomputable def w1(ws:Qa Nat):Rw->Nat
 |.bin .times a b=>ws.getD a 0+ws.getD b 0
 |.bin _ a b=>max (ws.getD a 0)<|ws.getD b 0
 |_=>1
abbrev eN(rs:Qa Rw):Qa Nat:=acc w1 rs []
def GW(rs:Qa Rw):Prop:=∀t,t < rs.length->(eN rs).getD t 0<=4
theorem zCw{ws Ah:Qa Nat}{r:Rw}(h:R1 n i r)(e:∀j,j < i->ws.getD j 0=Ah.getD j 0):w1 ws r=w1 Ah r:=by
 cases r with
 |num=>rfl
 |lt=>rfl
 |bin w a b=>
  have ea:=e a h.1;have eb:=e b h.2;cases w<;>simp only[w1,ea,eb]
theorem p9{rs:Qa Rw}{t:Nat}{r:Rw}(hR:RO n rs)(h:rs[t]?=ž r):(eN rs).getD t 0=w1 (eN rs) r:=by
 have ht:=(qk.mp h).1;rw[Hm h];exact zCw (hR t r h) λj hj=>t8 hj (by omega)
theorem GW.snoc{rs:Qa Rw}{r:Rw}(h:GW rs)(h1:w1 (eN rs) r<=4):GW (rs++[r]):=λt ht=>by
 show(acc w1 (rs++[r]) []).getD t 0<=4;rw[Dd];have ln:(acc w1 rs []).length=rs.length:=oY;rw[qr,ţ]at ht
 by_cases c:t < rs.length
 .rw[qA,Ĝ (by omega),<-qA]
  exact h t c
 .rw[qA,ę (by omega),show t - (acc w1 rs []).length=0 by omega]
  exact h1
theorem gI{D0 t s e o u d1:Nat}{w:Nat->Nat}{W:Qa Wy}{J:Qa Jb}(hj:JI D0 m w (J++[⟨t,s,e,o⟩]))(hw:WI n D0 w W (J++[⟨t,s,e,o⟩]))(h1:o<=u)(h2:u < o+w t)(hd:D0=d1+1):Frs d1 u s e W J:=by
 have hb:=hj.b ⟨t,s,e,o⟩ (by simp);have jm:(⟨t,s,e,o⟩:Jb)∈J++[⟨t,s,e,o⟩]:=by simp
 dsimp only at hb;refine⟨by omega,by omega,by omega,by omega,λx hx=>⟨λz=>?_,λz=>?_⟩,λx hx=>⟨λz=>?_,λz=>?_⟩⟩
 .exact hw.a x hx _ jm (by dsimp only;omega) (by dsimp only;omega)
 .exact hw.i x hx _ jm (by dsimp only;omega) (by dsimp only;omega)
 .exact hj.s x (by simp[hx]) _ jm (by dsimp only;omega) (by dsimp only;omega)
 .exact hj.e x (by simp[hx]) _ jm (by dsimp only;omega) (by dsimp only;omega)
inductive A5 (p q r s t:Prop):Prop
 |mk (x1:p) (x2:q) (x3:r) (x4:s) (x5:t):A5 p q r s t
theorem ZN{rs:Qa Rw}{P:Vs}{Q:U×Qa U->Prop}(hR:RO n rs)(hP:PR n P rs)(hG:GW rs)(h0:0 < rs.length)(hl:rs.length<=100)(hw:wt rs (rs.length - 1)<=100)
  (k:∀W V h,WI n (wt rs (rs.length - 1)+2) (wt rs) W []->GI n (wt rs (rs.length - 1)+1) P (λt=>(eN rs).getD t 0) (P<|rs.length - 1) W [] V h->W.length<=3 * wt rs (rs.length - 1)->Q (.l<|W.map Wy.d,[.d<|nH rs,.l<|iL<|bJ rs])):Wo (D6 [.d<|nH rs,.l<|iL<|bJ rs]) Q:=by
 have la:bA (iL<|bJ rs) (-1)=ž (.int ((wt rs (rs.length - 1):Nat):Int)):=by
  have e:=tY (ws:=bJ rs) (a:=rs.length - 1) (by rw[ud];omega);have ln:(iL<|bJ rs).length=rs.length:=by unfold iL;rw[ċ,ud]
  have e2:bA (iL<|bJ rs) (-1)=bA (iL<|bJ rs) ((rs.length - 1:Nat):Int):=by
   unfold bA eV;rw[ln,a5M (by decide),a5L (by omega),a5L (by omega),a5L (by omega),show((-1:Int)+(rs.length:Int)).toNat=((rs.length - 1:Nat):Int).toNat by omega]
  rw[e2,e]
 obtain⟨z,ez⟩:∃z,wt rs (rs.length - 1)=z:=⟨_,rfl⟩;rw[ez]at la hw;simp only[ez]at k;simp![D6,Rr,la];refine O3 (λk ρ=>E8 λ(W:Qa Wy) (J:Qa Jb) (v4 v5 v6 v7 v8 v9:Qb U)=>A5 (ρ=[ž<|.d<|nH rs,ž<|.l<|iL<|bJ rs,ž<|.l<|W.map Wy.d,ž<|.l<|J.map Jb.d,v4,v5,v6,v7,v8,v9]) (JI (z+2) rs.length (wt rs) J) (WI n (z+2) (wt rs) W J) (mJ (wt rs) J=k) ((W.length+3 * sJ (wt rs) J<=3 * z)/\∃V h,GI n (z+1) P (λt=>(eN rs).getD t 0) (P<|rs.length - 1) W J V h)) _ ⟨[],[⟨rs.length - 1,0,z+1,1⟩],Ž,Ž,Ž,Ž,Ž,Ž,?_,?_,?_,rfl,?_,GI.start (by omega) (hP.ky _)<|hG _ (by omega)⟩ ?_
 .rw[show((rs.length:Int) - 1)=((rs.length - 1:Nat):Int) by omega]
  rfl
 .refine⟨λj hj=>?_,by simp,λi hi j hj h1 h2=>?_,λi hi j hj h1 h2=>?_⟩
  .cases qp.mp hj
   dsimp only;omega
  .cases qp.mp hi
   cases qp.mp hj;dsimp only at *;omega
  .cases qp.mp hi
   cases qp.mp hj;dsimp only at *;omega
 .exact⟨λx hx=>by simp at hx,λx hx=>by simp at hx,λx hx=>by simp at hx,λx hx=>by simp at hx,.nil⟩
 .show 0+3 * (wt rs (rs.length - 1)+0)<=_
  rw[ez];omega
 rintro m _ ⟨W,J,v4,v5,v6,v7,v8,v9,rfl,hj,hw,hk,hc,V,h,hI⟩;simp!;rcases List.eq_nil_or_concat J with rfl|⟨J',⟨t,s,e,o⟩,ej⟩
 .simp![zC5]
  exact k W V h hw hI (by omega)
 .rw[List.concat_eq_append]at ej
  subst ej;have jb:=hj.b ⟨t,s,e,o⟩ (by simp);dsimp only at jb;have er:=ql jb.2.2.2;have ar:=Md er;have wp:=Cv hR t jb.2.2.2;rw[r9]at hk;rw[r8]at hc;simp only[mJ,sJ]at hk hc;simp![ĕ,Ē,Œ,zC6,P4,Jb.d,ar];cases hr:rs[t]with
  |num f=>
   rw[hr]at er;have w1:wt rs t=1:=xX er;simp![ZO,aS];have i1:=hI.leaf (f:=(f,Ž)) (gI hj hw (qe o) (by omega) rfl) (hP.eq t _ er) (λk z=>by cases z) (p9 hR er);have(j1,g1):=PQ (f:=(f,Ž)) hj hw w1 ⟨hR t _ er,λk z=>by cases z⟩ ⟨KP,λk z=>by cases z⟩;exact⟨_,by omega,W++[⟨ż,s,o,(f,Ž)⟩]++[⟨Ż,o,e,(1,Ž)⟩],J',_,_,_,_,_,_,by rw[ĕ,ĕ];rfl,j1,g1,rfl,by simp only[qr,qt,Ő];omega,i1⟩
  |lt q=>
   rw[hr]at er;have w1:wt rs t=1:=xX er;simp![YI,aS];have i1:=hI.leaf (f:=(1,ž q)) (gI hj hw (qe o) (by omega) rfl) ((hP.eq t _ er).trans (by unfold xI fe;rw[a5M (show ¬(1:Rat)=0 by decide)];rfl)) (λk z=>by cases z;exact hR t _ er) (p9 hR er);have(j1,g1):=PQ (f:=(1,ž q)) hj hw w1 ⟨KP,λk z=>by cases z;exact hR t _ er⟩ ⟨KP,λk z=>by cases z⟩;exact⟨_,by omega,W++[⟨ż,s,o,(1,ž q)⟩]++[⟨Ż,o,e,(1,Ž)⟩],J',_,_,_,_,_,_,by rw[ĕ,ĕ];rfl,j1,g1,rfl,by simp only[qr,qt,Ő];omega,i1⟩
  |bin w a b=>
   rw[hr]at er;have ok:a < t/\b < t:=hR t _ er;have wb:=Me hR er;have pa:=Cv hR a (by omega);have pb:=Cv hR b (by omega);have ia:=tY (ws:=bJ rs) (a:=a) (by rw[ud];omega);have jl:=Mu (J:=J') λj kj=>Cv hR j.t (hj.b j (by simp[kj])).2.2.2;cases w with
   |plus=>
    have wb:wt rs t=wt rs a+wt rs b:=wb;have T:fC (z+2) rs.length (wt rs) t s e o a e b s e (o+wt rs a):=⟨qe _,by omega,by omega,by omega,by omega,.inl rfl,.inl rfl,rfl⟩;have i1:=hI.plus (o2:=o+wt rs a) (hP.eq t _ er) (qx (ç _ _)<|í (p9 hR er).symm) (qx (å _ _)<|í (p9 hR er).symm);have j1:=B8 hj T;have g1:=Gf hj hw T;simp![aS,Wd.s,ia];refine⟨_,?_,W,J'++[⟨a,s,e,o⟩]++[⟨b,s,e,o+wt rs a⟩],_,_,_,_,_,_,by rw[ĕ,ĕ];rfl,j1,g1,rfl,?_,⟨V,h,i1⟩⟩
    .rw[r9,r9];simp only[mJ];omega
    .rw[r8,r8];simp only[sJ];omega
   |less=>
    have wb:wt rs t=wt rs a+wt rs b+1:=wb;have T:fC (z+2) rs.length (wt rs) t s e o a e b (o+wt rs a) e (o+wt rs a+1):=⟨by omega,by omega,by omega,by omega,by omega,.inr ⟨rfl,by omega⟩,.inl rfl,rfl⟩;have i1:=hI.less (o2:=o+wt rs a+1) (gI hj hw (u:=o+wt rs a) (by omega) (by omega) rfl) (hP.ky b) (hP.eq t _ er) (qx (ç _ _)<|í (p9 hR er).symm) (qx (å _ _)<|í (p9 hR er).symm);have j1:=B8 hj T;have g1:=zAp (f:=(-1,Ž)) hj hw T rfl (by omega) ⟨zC3,λk z=>by cases z⟩;simp![aS,Wd.s,ia];refine⟨_,?_,W++[⟨ż,s,o+wt rs a,(-1,Ž)⟩],J'++[⟨a,s,e,o⟩]++[⟨b,o+wt rs a,e,o+wt rs a+1⟩],_,_,_,_,_,_,by rw[ĕ,ĕ,ĕ];rfl,j1,g1,rfl,?_,i1⟩
    .rw[r9,r9];simp only[mJ];omega
    .rw[r8,r8];simp only[sJ,qr,qt,Ő];omega
   |times=>
    have wb:wt rs t=wt rs a+wt rs b+1:=wb;have T:fC (z+2) rs.length (wt rs) t s e o a (o+wt rs a) b (o+wt rs a) e (o+wt rs a+1):=⟨by omega,by omega,by omega,by omega,by omega,.inr ⟨rfl,by omega⟩,.inr ⟨rfl,by omega⟩,rfl⟩;have i1:=hI.times (o2:=o+wt rs a+1) (gI hj hw (u:=o+wt rs a) (by omega) (by omega) rfl) (hP.ky a) (hP.eq t _ er) (í (p9 hR er).symm);have j1:=B8 hj T;have g1:=Gf hj hw T;simp![aS,Wd.s,ia];refine⟨_,?_,W,J'++[⟨a,s,o+wt rs a,o⟩]++[⟨b,o+wt rs a,e,o+wt rs a+1⟩],_,_,_,_,_,_,by rw[ĕ,ĕ];rfl,j1,g1,rfl,?_,i1⟩
    .rw[r9,r9];simp only[mJ];omega
    .rw[r8,r8];simp only[sJ];omega
end K44
open PySem Internal
namespace K44
open PySem Internal
noncomputable def IV(k:Nat):D:=.dict [(.none,.str "TooMany"),(.str "at",.int (k:Int))]
noncomputable def Wy.le(x y:Wy):Bool:=decide (x.a < y.a\/(x.a=y.a/\x.b<=y.b))
theorem Lu{a c d:Int}:(a < c\/(a=c/\b < d))->cN [a,b] [c,d]=ż:=by
 intro h;rcases h with h|⟨rfl,h⟩
 .show(if a=c then _ else decide (a < c))=ż
  rw[a5M (by omega)];exact a5N h
 .show(if a=a then(if b=d then Ż else decide (b < d))else _)=ż
  rw[a5L rfl,a5M (by omega)];exact a5N h
def tK(x y:Wy):Prop:=x.a < y.a\/(x.a=y.a/\x.b < y.b)
theorem oJ.symm{x y:Wy}(h:oJ x y):oJ y x:=⟨λa b z=>h.1 b a z.symm,λa b z=>h.2.1 b a z.symm,λa z=>h.2.2 (λq=>a q.symm) z.symm⟩
theorem oJ.ne{x y:Wy}(h:oJ x y):x.a=y.a->x.b=y.b->False:=by
 intro h1 h2;have(p,q,r):=h;cases hx:x.i<;>cases hy:y.i
 .exact q hx hy h1
 .exact r (by rw[hx,hy];decide) h1
 .exact r (by rw[hx,hy];decide) h1
 .exact p hx hy h2
def iD(W:Qa Wy):Qa Wy:=W.mergeSort Wy.le
theorem yU{W:Qa Wy}:(iD W).Perm W:=List.mergeSort_perm _ _
theorem Nu{W:Qa Wy}(h:W.Pairwise oJ):(iD W).Pairwise tK:=by
 have hs:(iD W).Pairwise λx y=>Wy.le x y=ż:=List.pairwise_mergeSort (λa b c h1 h2=>by
  unfold Wy.le at *;simp only[decide_eq_true_eq]at *;omega) (λa b=>by
  unfold Wy.le;simp only[Bool.or_eq_true,decide_eq_true_eq];omega) _
 have ha:(iD W).Pairwise oJ:=(yU.pairwise_iff λh=>oJ.symm h).mpr h;refine(hs.and ha).imp λ{x y} ⟨h1,h2⟩=>?_;have nn:=h2.ne;unfold Wy.le at h1;unfold tK;simp only[decide_eq_true_eq]at h1;rcases h1 with h1|⟨h1,h3⟩
 .exact .inl h1
 .exact .inr ⟨h1,Nat.lt_of_le_of_ne h3<|nn h1⟩
theorem zAq{W:Qa Wy}:Ai (W.map Wy.d)=ž (W.map λx=>[(x.a:Int),(x.b:Int)]):=by
 induction W with
 |nil=>rfl
 |cons x W ih=>
  show(wk x.d).bind _=_;rw[ih];rfl
theorem Xl{W:Qa Wy}(h:W.Pairwise oJ)(hl:W.length<=300):CU (.l<|W.map Wy.d)=ž (.l<|(iD W).map Wy.d):=by
 have e:Ci (W.map Wy.d)=(iD W).map Wy.d:=by
  refine Pc (yU.map _) ?_;rw[a1Y];refine(Nu h).imp λ{x y} h=>⟨[(x.a:Int),(x.b:Int)],[(y.a:Int),(y.b:Int)],rfl,rfl,Lu ?_⟩;unfold tK at h;omega
 have nd:(W.map λx=>[(x.a:Int),(x.b:Int)]).Nodup:=by
  unfold List.Nodup;rw[a1Y];refine h.imp λ{x y} h z=>?_;simp only[a4m,and_true]at z;exact h.ne (by omega) (by omega)
 unfold CU;show(ž<|W.map Wy.d).bind _=_;rw[Ι,zAq,Ι,a5L ⟨by rw[ċ];omega,nd⟩,e]
theorem zC7(b:Rat):Fp ż [0,1] (.d<|fR b)=ž (.d<|.bool (!decide (b=0))):=Hw (a:=b) (b:=0) (neg:=ż)
noncomputable def ir(W:Qa Wy):Qa Wy:=W.filter λx=>!decide (x.e.1=0)
abbrev nB(ls:Qa Str)(d:Nat)(W:Qa Wy):D:=.tuple [.tuple<|ls.map .str,.int (d:Int),.tuple<|W.map Wy.d]
theorem ZM{ls:Qa Str}{rs:Qa Rw}{P:Vs}{Q:(U×Qa U) ⊕ (D×Qa U)->Prop}(hR:RO n rs)(hP:PR n P rs)(hG:GW rs)(h0:0 < rs.length)(hl:rs.length<=100)
  (k2:58 < wt rs (rs.length - 1)->Q (.inr (IV<|rs.length - 1,[.d<|gW ls rs,.d<|.int 60])))
  (k3:wt rs (rs.length - 1)<=58->∀W V h,WI n (wt rs (rs.length - 1)+2) (wt rs) W []->GI n (wt rs (rs.length - 1)+1) P (λt=>(eN rs).getD t 0) (P<|rs.length - 1) W [] V h->W.length<=174->Q (.inl (.d<|nB ls (wt rs (rs.length - 1)+2)<|iD<|ir W,[.d<|gW ls rs,.d<|.int 60]))):
  Wo (DE [.d<|gW ls rs,.d<|.int 60]) Q:=by
 have w:=PV (ls:=ls) hR hl;simp![DE,O8,w,Dc h0];refine mW (λh=>?_) λh=>?_
 .simp!
  rw[show((rs.length:Int) - 1)=((rs.length - 1:Nat):Int) by omega];exact k2 (by omega)
 .simp!
  refine ZN hR hP hG h0 hl (by omega) λW V h g I l=>?_;simp!;refine MB (g:=Wy.d) (b:=λx=>!decide (x.e.1=0)) (e:=Wy.d) (by show W.length<=16777216;omega) (λa ha ys=>?_) ?_
  .simp![Wy.d,mm,zC7]
   generalize (!decide (a.e.fst=0))=bb;cases bb
   .simp![Ě]
   .simp!
  .have hs:=Xl (W:=ir W) (g.p.filter _) (qx (î _ _) (by omega:W.length<=300))
   unfold ir at hs;simp![hs];exact k3 (by omega) W V h g I (by omega)
theorem Hl{neg:Bool}{d:D}{k M:Nat}(h:gT k M d)(hk:k<=64):pU neg (.d d) (.d d)=ž (.d<|.bool (!neg)):=by
 rw[h.eqD h hk hk,PySem.SeqAt.eqv_refl d h.lay];cases neg<;>rfl
theorem zna{r:Rat}(hr:Bd 12 12000000 r):D8 [.d<|fR r]=ž (.d<|.bool ż,[.d<|fR r]):=by
 refine fH ?_;have(gd,gn):=hr.size (by decide);have d1:=xJ r;have lf:=y9 (n:=r.num) (d:=(r.den:Int)) (by omega) (IH d1 (by omega));rw[a1N]at lf;have er:fR r=.tuple [.int r.num,.int (r.den:Int)]:=rfl;simp![D8,RQ,er];refine uh (λi ρ=>∃v1,ρ=[ž<|U.d<|.tuple [.int r.num,.int (r.den:Int)],v1]) ⟨_,rfl⟩ ?_ ?_
 .rintro i d _ hd ⟨v1,rfl⟩
  obtain⟨z,rfl⟩:∃z:Int,d=.int z:=by
   have hm:=Í hd;simp only[qu,Ļ,or_false]at hm;rcases hm with rfl|rfl<;>exact⟨_,rfl⟩
  simp!;exact⟨_,rfl⟩
 .rintro _ ⟨v1,rfl⟩
  rw[<-er];have eq:=Hw (a:=r) (b:=r) (neg:=Ż);have JA:zJ (.d<|fR r) (.d<|.int 0)=ž (.d<|.int r.num):=rfl;have ix1:zJ (.d<|fR r) (.d<|.int 1)=ž (.d<|.int (r.den:Int)):=rfl;simp![lf,eq,JA,ix1,show((0:Int) < (r.den:Int))=True from eq_true (by omega),if_true]
theorem zCx{f:Rat}(h:Bd 12 12000000 f):gT 1 31 (fR f):=(Vq (n:=8) (É (h.size (by decide)).2 (by decide))<|É (h.size (by decide)).1 (by decide)).mono (qe _) (by decide)
theorem Mt{ns:Qa Str}(n3:ns.length<=3)(ha:∀z∈ns,bN 10 z):gT 1 400 (.tuple<|ns.map .str):=by
 refine(sv (n:=3) (k:=0) (M:=102) (λd hd=>?_) (by rw[ċ];exact n3)).mono (qe _) (by decide);have(z,hz,rfl):=Ä.mp hd;exact YB<|ha z hz
theorem DR{i:Int}:uz [.d<|.int i]=ž (.d<|.bool ż,[.d<|.int i]):=by
 refine fH ?_;simp![uz,RF]
theorem zCy:mO Ż (.d .none) (.d .none)=ž (.d<|.bool ż):=rfl
theorem zCz{i:Int}:mO Ż (.d<|.int i) (.d .none)=ž (.d<|.bool Ż):=rfl
theorem zl1{e:Et}(he:EO n e)(h0:e.1≠0):DU [.d<|mm e,.d<|.int (n:Int),.d<|.bool Ż]=ž (.d<|.bool ż,[.d<|mm e,.d<|.int (n:Int),.d<|.bool Ż]):=by
 refine fH ?_;have fo:=zna he.bd;have(f,l):=e;have n0:f.num≠0:=λz=>h0<|Rat.num_eq_zero.mp z;have ed:mm (f,l)=.tuple [fR f,pF l]:=rfl;have JA:zJ (.d<|fR f) (.d<|.int 0)=ž (.d<|.int f.num):=rfl;simp![DU,RD,ed,fo,JA,n0];cases l with
 |none=>simp![pF,zCy]
 |some j=>
  have hj:j < n:=he.lt j rfl;simp![pF,zCz,show((0:Int)<=(j:Int))=True from eq_true (by omega),if_true,show decide ((j:Int) < (n:Int))=ż from a5N (by omega)]
theorem zAr{a c d:Int}(h:c < a\/(c=a/\d < b)):leB [a,b] [c,d]=Ż:=by
 unfold leB;rw[Lu h];rfl
theorem zqh{ls:Qa Str}{D0:Nat}{W:Qa Wy}(n3:ls.length<=3)(ha:∀z∈ls,bN 10 z)(h2:2<=D0)(hb:∀x∈W,x.a < x.b/\x.b < D0/\EO ls.length x.e/\x.e.1≠0)(hp:W.Pairwise tK):
  D2 [.d<|nB ls D0 W,.d<|.tuple<|ls.map .str,.d<|.int (D0:Int)]=ž (.d<|.bool ż,[.d<|nB ls D0 W,.d<|.tuple<|ls.map .str,.d<|.int (D0:Int)]):=by
 refine fH ?_;have es:=Hl (neg:=ż) (Mt n3 ha) (by decide);simp![D2,Rl,es,DR,show((2:Int)<=(D0:Int))=True from eq_true (by omega),if_true,show decide ((D0:Int)<=(D0:Int))=ż from a5N (by omega)];refine ux (λbs cs ρ=>E3 λ(l1 l2:Int) (v4:Qb U)=>ρ=[ž<|.d<|nB ls D0 W,ž<|.d<|.tuple<|ls.map .str,ž<|.d<|.int (D0:Int),ž<|.d<|.tuple [.int l1,.int l2],v4]/\∀x∈cs,l1 < (x.a:Int)\/(l1=x.a/\l2 < x.b)) ⟨-1,-1,Ž,rfl,λx hx=>by omega⟩ ?_ ?_
 .rintro bs x cs _ hW ⟨l1,l2,v4,rfl,hx⟩
  have bx:=hb x (by rw[hW];simp);have lx:=zAr (hx x (by simp));have ie:=zl1 bx.2.2.1 bx.2.2.2;have px:∀y∈cs,tK x y:=by
   rw[hW]at hp;have:=(qC.mp hp).2.1;exact(Ü.mp this).1
  have ct:jG [Ģ (x.a:Int),.int (x.b:Int),mm x.e] Ž (ž 2)=[.int (x.a:Int),.int (x.b:Int)]:=rfl;simp![Wy.d,DR,lx,ie,ct,show((0:Int)<=(x.a:Int))=True from eq_true (by omega),if_true,show((x.a:Int) < (x.b:Int))=True from eq_true (by omega),decide_true,show((x.b:Int) < (D0:Int))=True from eq_true (by omega)];exact⟨_,_,_,rfl,λy hy=>by have:=px y hy;unfold tK at this;omega⟩
 .rintro _ ⟨l1,l2,v4,rfl,hx⟩
  simp!
end K44
open PySem Internal
namespace K44
open PySem Internal
theorem Sl{xs ys:Qa D}(h:xs.length+ys.length<=16777216):Cb (.l xs) (.l ys)=ž (.l<|xs++ys):=by
 show(if xs.length+ys.length<=Ď then _ else _)=_;rw[a5L (by rw[a1K];exact h)]
def pd(p:Pq Rat):D:=.dict (bR fR p)
def eW(n:Nat)(ps:Qa (Pq Rat))(j:Nat)(g:Qa Int->Rat)(w:Wy):Rat:=if w.b=j then aL (ps.getD w.a []) (Ev n w.e g)else 0
structure WQ (n m:Nat) (h:Nat->Nat) (bs:Qa Wy) (ps:Qa (Pq Rat)):Prop where
 ln:ps.length=m+1
 pz:∀j p,ps[j]?=ž p->PZ n (17 * bs.length) (h j) p
 eq:∀j p,ps[j]?=ž p->∀g,aL p g=(if j=0 then g (zs n)else 0)+(bs.map<|eW n ps j g).sum
structure Wv (n m:Nat) (h:Nat->Nat) (A:Qa Wy):Prop where
 en:∀w∈A,EO n w.e/\w.e.1≠0
 lt:∀w∈A,w.a < w.b/\w.b<=m
 up:A.Pairwise tK
 w:∀w∈A,h w.a+we w.e<=h w.b
 l:∀d,h d<=4
 ln:A.length<=174
theorem Gd{ps:Qa (Pq Rat)}{p:Pq Rat}(h:ps[j]?=ž p):bA (ps.map pd) (j:Int)=ž (pd p):=by
 have hl:=(qk.mp h).1;unfold bA eV;rw[a5L (by omega),a5L (by rw[ċ];omega),bd,ė,İ,h];rfl
theorem WQ.step{h:Nat->Nat}{A bs cs:Qa Wy}{w:Wy}{ps:Qa (Pq Rat)}{p q:Pq Rat}(n1:1<=n)(n3:n<=3)(H:Wv n m h A)(ea:A=bs++w::cs)(I:WQ n m h bs ps)(hp:ps[w.a]?=ž p)(hq:ps[w.b]?=ž q):
  WQ n m h (bs++[w]) (ps.set w.b<|lD 1 q<|pN n p w.e):=by
 have hw:w∈A:=by rw[ea];simp
 have(l1,l2):=H.lt w hw;have he:=(H.en w hw).1;have hh:=H.w w hw;have h4:=H.l w.b;have ln:=I.ln;have pp:=I.pz _ _ hp;have pq:=I.pz _ _ hq;have hl:w.b < ps.length:=by omega
 have pr:=pp.SY n1 n3 (by omega) he;have nw:=(pq.up (qe _) (by omega:17 * bs.length<=17 * bs.length+11)).add (pr.up (a':=h w.b) (by omega)<|qe _) n1 n3 (by omega) (.inl rfl:(1:Int)=1\/(1:Int)=-1);have bef:∀v∈bs++[w],v.a≠w.b:=λv hv z=>by
  have up:=H.up;rw[ea]at up;rcases È.mp hv with hv|hv
  .have:=(ą.mp up).2.2 v hv w qo
   unfold tK at this;omega
  .cases qp.mp hv
   omega
 have sm:∀(j:Nat) (g:Qa Int->Rat),((bs++[w]).map<|eW n (ps.set w.b<|lD 1 q<|pN n p w.e) j g).sum=(bs.map<|eW n ps j g).sum+(if w.b=j then aL p (Ev n w.e g)else 0):=λj g=>by
  rw[a4E (g:=eW n ps j g) λv hv=>by
   unfold eW;rw[qA,qA,qB<|ĭ<|bef v hv],ĕ,NA,Ē,Œ,ĺ,a3F,Ŗ]
  unfold eW;rw[qA (i:=w.a),hp,a1U]
 refine⟨by rw[ī];exact ln,λj r hr=>?_,λj r hr g=>?_⟩
 .rw[qr,ţ]
  by_cases c:w.b=j
  .subst c
   rw[Ĭ hl]at hr;cases hr;exact nw.up (qe _) (by omega)
  .rw[qB c]at hr
   exact(I.pz j r hr).up (qe _) (by omega)
 .rw[sm]
  by_cases c:w.b=j
  .subst c
   rw[Ĭ hl]at hr;cases hr;rw[HH pq.pg.nd,YJ pp.pg,I.eq _ _ hq,a5L rfl];rw[show((1:Int):Rat)=1 from rfl];grind
  .rw[qB c]at hr
   rw[a5M c,Ŗ];exact I.eq j r hr g
theorem znb{ns:Qa Str}{hp:Nat->Nat}{A:Qa Wy}{Q:U×Qa U->Prop}(n1:1<=ns.length)(n3:ns.length<=3)(m1:1<=m)(m6:m<=100)(h:Wv ns.length m hp A)
   (k:∀ps p,WQ ns.length m hp A ps->ps[m]?=ž p->Q (.d<|pd p,[.d<|nB ns (m+1) A])):Wo (DS [.d<|nB ns (m+1) A]) Q:=by
 have em1:((m+1:Nat):Int) - 1=(m:Int):=by omega
 have pn:=IB (n:=ns.length) (f:=1) n3;have ln:=h.ln;rw[show fR 1=.tuple [.int 1,.int 1] from rfl]at pn;simp![DS,RB,pn,em1,İ];refine CH (g:=λc:Nat=>Ģ<|0+(c:Int)) (as:=ĥ m) (e:=λ_=>pd []) (by rw[Β];omega) (λc hc ys=>?_) ?_
 .simp!
  rfl
 .have ct:=Sl (xs:=[a2e<|bR fR<|jj ns.length 1]) (ys:=(ĥ m).map λ_=>pd []) (by rw[ċ,Β];show 1+m<=_;omega)
  rw[show [a2e<|bR fR<|jj ns.length 1]++((ĥ m).map λ_=>pd [])=(jj ns.length 1::(ĥ m).map λ_=>[]).map pd by rw[Ē,ĳ];rfl]at ct;simp![ct];refine ux (λbs cs ρ=>E5 λ(ps:Qa (Pq Rat)) (v5 v6 v7 v8:Qb U)=>ρ=[ž<|U.d<|.tuple [.tuple<|ns.map .str,.int ((m+1:Nat):Int),.tuple<|A.map Wy.d],ž<|.d<|.tuple<|ns.map .str,ž<|.d<|.int ((m+1:Nat):Int),ž<|.d<|.tuple<|A.map Wy.d,ž<|.l<|ps.map pd,v5,v6,v7,v8]/\WQ ns.length m hp bs ps) ⟨jj ns.length 1::(ĥ m).map λ_=>[],_,_,_,_,rfl,?_⟩ ?_ ?_
  .refine⟨by simp,λj p hp=>?_,λj p hp g=>?_⟩
   .cases j with
    |zero=>
     cases(show ž _=ž p from hp);exact Ny.up (À _)<|qe _
    |succ j=>
     rw[Ϸ,ė]at hp;have(_,_,rfl):=qq.mp hp;exact PZ.nil
   .cases j with
    |zero=>
     cases(show ž _=ž p from hp);rw[ZR,a5L rfl];exact(Ŗ _).symm
    |succ j=>
     rw[Ϸ,ė]at hp;have(_,_,rfl):=qq.mp hp;rw[a5M (by omega),gH,Œ,a3F,Ŗ]
  .rintro bs w cs _ ea ⟨ps,v5,v6,v7,v8,rfl,I⟩
   have hw:w∈A:=by rw[ea];simp
   have(l1,l2):=h.lt w hw;have he:=(h.en w hw).1;have pl:=I.ln;have hh:=h.w w hw;have h4:=h.l w.b;have lb:bs.length+1<=174:=by have:=congrArg a0s ea;rw[qr,qt]at this;omega
   have EB:ps[w.a]?=ž ps[w.a]:=ql (by omega);have hq:ps[w.b]?=ž ps[w.b]:=ql (by omega);generalize ps[w.a]=p at EB;generalize ps[w.b]=q at hq;have st:=I.step n1 n3 h ea EB hq;have pp:=I.pz _ _ EB;have pq:=I.pz _ _ hq;have ewd:w.d=.tuple [.int (w.a:Int),.int (w.b:Int),mm w.e]:=rfl;have epo:=ziB n1 n3 he.lt;have Uh:∀r:Pq Rat,pd r=.dict (bR fR r):=λ_=>rfl;simp![ewd,Gd EB,epo];refine jY n1 n3 rfl so pp (by omega) (by omega) he λu2=>?_;have ad:=zAm (s:=1) (u1:=.d (pd q)) (u2:=.t (bB fR<|pN ns.length p w.e)) n1 n3 (.inl rfl) so (.inl rfl) (pq.up (qe _) (by omega:_<=17 * bs.length+11)) ((pp.SY n1 n3 (by omega) he).up (by omega)<|qe _) (by omega) (by omega);have ix:eV ps.length (w.b:Int)=ž w.b:=by
    unfold eV;rw[a5L (by omega),a5L (by omega),İ]
   have ms:(ps.map pd).set w.b (.dict<|bR fR<|lD 1 q<|pN ns.length p w.e)=(ps.set w.b<|lD 1 q<|pN ns.length p w.e).map pd:=List.map_set.symm;simp![Gd hq,ad,ix,ms];exact⟨_,_,_,_,_,rfl,st⟩
  .rintro _ ⟨ps,v5,v6,v7,v8,rfl,I⟩
   have pl:=I.ln;have tu:ps[m]?=ž ps[m]:=ql (by omega);generalize ps[m]=p at tu;have la:bA (ps.map pd) (-1)=ž (pd p):=by
    unfold bA eV;rw[a5M (by decide),a5L (by rw[ċ];omega),bd,ċ,show -1+((ps.length:Nat):Int)=(m:Int) by omega,ė,İ,tu];rfl
   simp![la];exact k ps p I tu
theorem ZL{xs ys:Qa Rat}(h:xs.Perm ys):xs.sum=ys.sum:=by
 induction h with
 |nil=>rfl
 |cons x _ ih=>rw[ĺ,ĺ,ih]
 |swap x y l=>
  rw[ĺ,ĺ,ĺ,ĺ];grind
 |trans _ _ a b=>exact a.trans b
theorem zAs{p:Pq Rat}{e:Et}(h:Ln n p)(g:Qa Int->Rat):aL p (λk=>aL (fe n e) λf=>g<|bM k f)=aL p (Ev n e g):=qF λt ht=>by
 rw[Nx,Nz<|h t ht];rfl
theorem Nt{V:Vs}{g:Qa Int->Rat}:∀{W:Qa Wy},sE V j g (W.map<|ew n)=((ir W).map λx=>eS V j g<|ew n x).sum
 |[]=>rfl
 |x::W=>by
  rw[Ē,lM,Nt (W:=W)];unfold ir
  by_cases c:x.e.1=0
  .rw[List.filter_cons_of_neg (by simpa using c)]
   have e0:eS V j g (ew n x)=0:=by
    unfold eS ew;dsimp only;split
    .rw[show fe n x.e=[] from a5L c]
     exact ZT _
    .rfl
   rw[e0,a0c]
  .rw[List.filter_cons_of_pos (by simpa using c),Ē,ĺ]
theorem zqi{h:Nat->Nat}{W:Qa Wy}{V:Vs}{ps:Qa (Pq Rat)}(H:Wv n m h (iD<|ir W))(I:WQ n m h (iD<|ir W) ps)(G:GV n (W.map<|ew n) V):∀(j:Nat) (p:Pq Rat),ps[j]?=ž p->∀g,aL p g=aL (V j) g:=by
 intro j
 induction j using a1f with
 |_ j ih=>
  intro p hp g;rw[I.eq j p hp,G.eq,Nt,<-ZL ((yU (W:=ir W)).map _)];congr 2;refine Ø λw hw=>?_;have(l1,l2):=H.lt w hw;have ln:=I.ln;unfold eW eS ew;dsimp only;split
  .rename_i c
   have e:=ql (l:=ps) (i:=w.a) (by omega);rw[zAs<|G.ky _,qA,e,a1U,ih w.a (by omega) _ e]
  .rfl
end K44
open PySem Internal
namespace K44
open PySem Internal
theorem GQ{x:Int}{N:Nat}{Q:U×Qa U->Prop}(hN:0 < N)(hM:N<=1000)(k:∀(r:Nat) x' y',r < N->Q (.d<|.int (r:Int),[bx x' y',.d<|.int (N:Int)])):Wo (zr [bx x y,.d<|.int (N:Int)]) Q :=
 gE (by omega) (by omega) λr x' y' h0 h1=>by
  have(q,rfl):=a0N h0;exact k q x' y' (by omega)
theorem CY(h:n<=m)(hm:m<=1000:=by decide):n<=1000:=qx h hm
theorem zC8{c r:Int}{N:Nat}(hN:0 < 0+(N:Int))(h0:0<=r)(h1:r < 0+(N:Int))(hc:c=0+(N:Int) - 1\/c=r):∃p:Nat,c=(p:Int)/\p < N:=⟨c.toNat,by omega,by omega⟩
theorem zCB{N:Nat}(h:1<=N)(hM:N<=1000):0 < (N:Int)/\(N:Int)<=18446744073709551616:=by omega
noncomputable def wD(w:Nat):D:=.tuple [.int (w:Int),.int 0]
abbrev wL(ws:Qa Nat):U:=.l (ws.map wD)
theorem vz{ws:Qa Nat}(h:i < ws.length):bA (ws.map wD) (i:Int)=ž (.tuple [.int ((ws.getD i 0:Nat):Int),.int 0]):=by
 refine yF ?_;rw[ė,ql h,qA,ql h];rfl
theorem Ms{a c:Nat}:(if(c:Int)+0 > (a:Int)+0 then(c:Int)+0 else(a:Int)+0)=((max a c:Nat):Int):=by
 split<;>omega
theorem Sk{w:Nat}:rJ (.d<|wD w)=ž (.d<|.int (w:Int)):=by
 show ž (U.d<|.int (if(0:Int) > (w:Int)then 0 else(w:Int)))=_;rw[a5M (by omega)]
theorem Ih{ws:Qa Nat}{r:Rw}(h:R1 n ws.length r):zT [.d<|aS r,wL ws]=ž (.d<|wD<|w1 ws r,[.d<|aS r,wL ws]):=by
 refine fH ?_;cases r with
 |num f=>simp![zT,wO,aS];rfl
 |lt k=>simp![zT,wO,aS];rfl
 |bin w a b=>
  cases w with
  |times=>simp![zT,wO,aS,Wd.s,vz h.1,vz h.2];rfl
  |plus=>
   rw[show w1 ws (.bin .plus a b)=max (ws.getD a 0) (ws.getD b 0) from rfl];simp![zT,wO,aS,Wd.s,vz h.1,vz h.2,Ms];rfl
  |less=>
   rw[show w1 ws (.bin .less a b)=max (ws.getD a 0) (ws.getD b 0) from rfl];simp![zT,wO,aS,Wd.s,vz h.1,vz h.2,Ms];rfl
theorem zCD{rs:Qa Rw}{r:Rw}:rs.map aS++[aS r]=(rs++[r]).map aS:=by rw[ĕ];rfl
theorem zCE{ws:Qa Nat}{w:Nat}:ws.map wD++[wD w]=(ws++[w]).map wD:=by rw[ĕ];rfl
section
variable{e a c:Nat}{p q:Pq Rat}
def nA(p q:Pq Rat):Pq Rat:=Internal.nz (dC []<|dg p q)
theorem PG.jY{u1 u2:U}{Q:U×Qa U->Prop}(h:PG n e a p)(h':PG n e' c q)(n1:1<=n)(n3:n<=3)(Km:a+c<=4)(he:e+e'<=3800)(n8:u1.fz=ž (.dict<|bR fR p))(m7:u2.fz=ž (.dict<|bR fR q))(kq:∀jQ,(jQ=u2\/jQ=dT q)->Q (.t<|bB fR<|nA p q,[dT p,jQ])):Wo (zq [u1,u2]) Q:=by
 have l1:=h.len n1 n3 (by omega);have l2:=h'.len n1 n3 (by omega);have l3:p.length * q.length<=35 * 35:=ÿ l1 l2;refine QK n8 m7 h.nd h'.nd h.bd h'.bd (λt ht=>(h.ky t ht).ln) (λt ht=>(h'.ky t ht).ln) (by omega) vK vK (by rw[<-ś];exact rA (by omega)) (rA (by omega)) (rA (by omega)) (rm (by omega)) (rm (by omega)) ?_ (a2y (a1n (by decide))<|a1n (by decide)) (by omega) (by omega) (by omega) λjQ _ hu=>kq jQ hu;refine É (Ë _ (show p.length * q.length<=2^11 from qx l3 (by decide))) ?_;rw[<-ś,<-ś];exact rm (by omega)
theorem PG.mx(h:PG n e a p)(h':PG n e' c q)(n1:1<=n)(n3:n<=3)(Km:a+c<=4)(he:e+e'<=3800):zq [dT p,dT q]=ž (.t<|bB fR<|nA p q,[dT p,dT q]):=by
 refine fH ?_;refine h.jY h' n1 n3 Km he rfl rfl λjQ hu=>?_;rcases hu with rfl|rfl<;>rfl
theorem PG.ax{u1 u2:U}{s:Int}(h:PG n e a p)(h':PG n e a q)(n1:1<=n)(n3:n<=3)(a4:a<=4)(hs:s=1\/s=-1)(he:e<=3800)(n8:u1=.d (.dict<|bR fR p)\/u1=.t (bB fR p))(m7:u2.fz=ž (.dict<|bR fR q)):oZ [u1,u2,.d<|.int s]=ž (.t<|bB fR<|lD s p q,[u1,dT q,.d<|.int s]):=by
 have l1:=h.len n1 n3 a4;have l2:=h'.len n1 n3 a4;have hh:=h.hash n1 n3 a4;refine QL (by rcases n8 with rfl|rfl;exact Lm hh;exact Ll hh) m7 hs h.nd h'.nd h.bd h'.bd vK (rA (by omega)) ?_ (by omega) (by omega);have:=Ë (2^(24 * a+e)) l2;refine É (show _<=2^(24 * a+e) * 2^6 by omega) ?_;rw[<-ś];exact rm (by omega)
end
theorem Nr{f:Rat}(h:Bd 12 12000000 f):PZ n 0 1 (jj n f):=by
 unfold jj;split
 .exact PZ.nil
 .rename_i z
  refine⟨⟨AB,λt ht=>?_,λt ht=>?_⟩,λt ht=>?_⟩
  all_goals cases qp.mp ht
  .exact Gg
  .exact h.le (by decide)
  .exact z
theorem Nq{k:Nat}(hk:k < n):PZ n 0 1 (xI n k):=by
 refine⟨⟨AB,λt ht=>?_,λt ht=>?_⟩,λt ht=>?_⟩
 all_goals cases qp.mp ht
 .exact NB hk
 .exact(Bd.one.wide 12).le (by decide)
 .exact(by decide:(1:Rat)≠0)
theorem Mr:PG n 0 0 [(zs n,1)]:=by
 have h:=(Ny (n:=n)).pg;rw[show jj n 1=[(zs n,1)] from a5M (by decide)]at h;exact h
abbrev P2:=Pq Rat×Pq Rat
abbrev pD(p:P2):D:=.tuple [.dict<|bR fR p.1,.dict<|bR fR p.2]
abbrev pL(ps:Qa P2):U:=.l (ps.map pD)
theorem Sj{ps:Qa P2}(h:i < ps.length):bA (ps.map pD) (i:Int)=ž (.tuple [.dict<|bR fR (ps.getD i ([],[])).1,.dict<|bR fR (ps.getD i ([],[])).2]):=by
 refine yF ?_;rw[ė,ql h,qA,ql h];rfl
structure PP (n e w:Nat) (p:P2):Prop where
 a:PG n e w p.1
 b:PG n e 0 p.2
theorem PP.up{e w:Nat}{p:P2}(h:PP n e w p)(c:e<=e'):PP n e' w p:=⟨h.a.up (qe _) c,h.b.up (qe _) c⟩
structure xD (n e:Nat) (ws:Qa Nat) (ps:Qa P2):Prop where
 ln:ps.length=ws.length
 ok:∀i,i < ps.length->PP n e (ws.getD i 0) (ps.getD i ([],[]))
def Gn:MS:=(zz (gX (af bz (zf 1)<|af zJ (zf 0)<|mC<|.int 1)<|fG 2<|zW (zF 4)<|zW (zF 5) gC)
  (zz (gX (af bz (zf 1)<|af zJ (zf 0)<|mC<|.int 2)<|fG 2<|zW (zF 6)<|zW (zF 7) gC)
  (zz (aT (mB<|af (aV Ż) (af zJ (zf 0)<|mC<|.int 0)<|mC<|.str "times") (aW<|aR<|zb (bX<|zK zq<|zb (zf 4)<|zb (zf 6) zn)<|zb (bX<|zK zq<|zb (zf 5)<|zb (zf 7) zn) zn) zS)
  (zz (aT (mB<|af (aV Ż) (af zJ (zf 0)<|mC<|.int 0)<|mC<|.str "over") (aW<|aR<|zb (bX<|zK zq<|zb (zf 4)<|zb (zf 7) zn)<|zb (bX<|zK zq<|zb (zf 5)<|zb (zf 6) zn) zn) zS)
  (zz (zR 8<|af bz (dW<|zb (mC<|.int 1)<|zb (cI iF<|mC<|.int 1) zn)<|bf (f1 mU)<|zb (af (aV Ż) (af zJ (zf 0)<|mC<|.int 0)<|mC<|.str "less") zn)
  (zz (zR 9<|zK oZ<|zb (zK zq<|zb (zf 4)<|zb (zf 7) zn)<|zb (zK zq<|zb (zf 6)<|zb (zf 5) zn)<|zb (zf 8) zn)
  (aW<|aR<|zb (bX<|zf 9)<|zb (bX<|zK zq<|zb (zf 5)<|zb (zf 7) zn) zn)))))))
theorem Hk:Q8=(zz (zR 3<|t9 (af pZ (aR<|zb (mC<|.int 0) zn)<|zf 2)<|aR<|zb (mC<|.int 1)<|zb (mC<|.int 1) zn)
  (zz (aT (mB<|af (aV Ż) (af zJ (zf 0)<|mC<|.int 0)<|mC<|.str "number") (aW<|aR<|zb (bX<|zK uy<|zb (zf 2)<|zb (af zJ (zf 0)<|mC<|.int 1) zn)<|zb (bX<|zf 3) zn) zS)
  (zz (aT (mB<|af (aV Ż) (af zJ (zf 0)<|mC<|.int 0)<|mC<|.str "letter") (aW<|aR<|zb (bX<|zK wN<|zb (zf 2)<|zb (af zJ (zf 0)<|mC<|.int 1) zn)<|zb (bX<|zf 3) zn) zS)
  Gn))):=rfl
def Gm:MS:=(zz (zR 9<|zK oZ<|zb (zK zq<|zb (zf 4)<|zb (zf 7) zn)<|zb (zK zq<|zb (zf 6)<|zb (zf 5) zn)<|zb (zf 8) zn)
  (aW<|aR<|zb (bX<|zf 9)<|zb (bX<|zK zq<|zb (zf 5)<|zb (zf 7) zn) zn))
theorem HG:Gn=(zz (gX (af bz (zf 1)<|af zJ (zf 0)<|mC<|.int 1)<|fG 2<|zW (zF 4)<|zW (zF 5) gC)
  (zz (gX (af bz (zf 1)<|af zJ (zf 0)<|mC<|.int 2)<|fG 2<|zW (zF 6)<|zW (zF 7) gC)
  (zz (aT (mB<|af (aV Ż) (af zJ (zf 0)<|mC<|.int 0)<|mC<|.str "times") (aW<|aR<|zb (bX<|zK zq<|zb (zf 4)<|zb (zf 6) zn)<|zb (bX<|zK zq<|zb (zf 5)<|zb (zf 7) zn) zn) zS)
  (zz (aT (mB<|af (aV Ż) (af zJ (zf 0)<|mC<|.int 0)<|mC<|.str "over") (aW<|aR<|zb (bX<|zK zq<|zb (zf 4)<|zb (zf 7) zn)<|zb (bX<|zK zq<|zb (zf 5)<|zb (zf 6) zn) zn) zS)
  (zz (zR 8<|af bz (dW<|zb (mC<|.int 1)<|zb (cI iF<|mC<|.int 1) zn)<|bf (f1 mU)<|zb (af (aV Ż) (af zJ (zf 0)<|mC<|.int 0)<|mC<|.str "less") zn)
  Gm))))):=rfl
theorem kz:i7 (kL<|č n 0)=dB (zs n):=zrH _
theorem Np{e a c A:Nat}{P R:P2}{s:Int}{o0 o1 o2 o3 o9:Qb U}(n1:1<=n)(n3:n<=3)(pa:PG n e a P.1)(pb:PG n e 0 P.2)(pc:PG n e c R.1)(pd:PG n e 0 R.2)(m1:a<=A)(m2:c<=A)(w1:A<=4)(he:e+e<=3700)(hs:s=1\/s=-1):
  ∃pq,PP n (e+e+17) A pq/\∀{Q:Fl->Prop},(∀o9,Q<|.rt (.d<|pD pq) [o0,o1,o2,o3,ž<|dT P.1,ž<|dT P.2,ž<|dT R.1,ž<|dT R.2,ž<|.d<|.int s,o9])->
  Wo (Gm [o0,o1,o2,o3,ž<|dT P.1,ž<|dT P.2,ž<|dT R.1,ž<|dT R.2,ž<|.d<|.int s,o9]) Q:=by
 have f1:=pa.mx pd n1 n3 (by omega) (by omega);have f2:=pc.mx pb n1 n3 (by omega) (by omega);have f3:=pb.mx pd n1 n3 (by decide) (by omega);have h1:=(pa.mul pd n1 n3 (by omega)).up (c:=A) (by omega) (qe _);have h2:=(pc.mul pb n1 n3 (by omega)).up (c:=A) (by omega) (qe _);have h3:=pb.mul pd n1 n3 (by decide);have f4:=h1.ax (u1:=.t (bB fR<|nA P.1 R.2)) (u2:=.t (bB fR<|nA R.1 P.2)) (s:=s) h2 n1 n3 w1 hs (by omega) (.inr rfl) so;refine⟨(lD s (nA P.1 R.2)<|nA R.1 P.2,nA P.2 R.2),⟨(h1.add h2 n1 n3 w1 hs).up (qe _) (by omega),h3.up (qe _) (by omega)⟩,λk=>?_⟩;simp![Gm,f1,f2,f3,f4,so];exact k _
section
variable{ps:Qa P2}
theorem Z0{f:Rat}(n3:n<=3):nK [.d<|aS<|.num f,pL ps,.d<|.int (n:Int)]=ž (.d<|pD (jj n f,[(zs n,1)]),[.d<|aS<|.num f,pL ps,.d<|.int (n:Int)]):=by
 refine fH ?_;simp![nK,Hk,aS,wd,İ,IB (f:=f) n3,so,kz];rfl
theorem ZZ{k:Nat}(hk:k < n)(n3:n<=3):nK [.d<|aS<|.lt k,pL ps,.d<|.int (n:Int)]=ž (.d<|pD (xI n k,[(zs n,1)]),[.d<|aS<|.lt k,pL ps,.d<|.int (n:Int)]):=by
 refine fH ?_;simp![nK,Hk,aS,wd,İ,Ri (k:=k) hk n3,so,kz];rfl
theorem Il{w:Wd}{Q:U×Qa U->Prop}(n3:n<=3)(h:Wo (Gn [ž<|.d<|aS<|.bin w i j,ž<|pL ps,ž<|.d<|.int (n:Int),ž<|.t<|bB fR [(zs n,1)],Ž,Ž,Ž,Ž,Ž,Ž]) (Co (BK [0,1,2] [.d<|aS<|.bin w i j,pL ps,.d<|.int (n:Int)]) ⟨0⟩ Q)):Wo (nK [.d<|aS<|.bin w i j,pL ps,.d<|.int (n:Int)]) Q:=by
 cases w <;>
 .simp![nK,Hk,aS,Wd.s,wd,İ]
  exact h
end
theorem Xk{e:Nat}{ws:Qa Nat}{ps:Qa P2}{r:Rw}(n1:1<=n)(n3:n<=3)(hP:xD n e ws ps)(hr:R1 n ps.length r)(w4:w1 ws r<=4)(he:e+e<=3700)(h':ps.length=0\/e+e+17<=e'):
  ∃pq:P2,PP n e' (w1 ws r) pq/\nK [.d<|aS r,pL ps,.d<|.int (n:Int)]=ž (.d<|pD pq,[.d<|aS r,pL ps,.d<|.int (n:Int)]):=by
 cases r with
 |num f=>exact⟨_,⟨(Nr hr).pg.up (qe 1)<|À _,Mr.up (À _)<|À _⟩,Z0 n3⟩
 |lt k=>exact⟨_,⟨(Nq hr).pg.up (qe 1)<|À _,Mr.up (À _)<|À _⟩,ZZ hr n3⟩
 |bin w i j=>
  have h':e+e+17<=e':=h'.resolve_left (ñ<|É (À _) hr.1);have(pa,pb):=hP.ok i hr.1;have(pc,pd):=hP.ok j hr.2;have ai:=Sj hr.1;have aj:=Sj hr.2;have wte:w1 ws (.bin w i j)=if w=.times then ws.getD i 0+ws.getD j 0 else max (ws.getD i 0) (ws.getD j 0):=by cases w<;>rfl
  rw[wte]at w4 ⊢;generalize ps.getD i ([],[])=P at *;generalize ps.getD j ([],[])=R at *;cases w with
  |times=>
   rw[a5L rfl]at w4 ⊢;have f1:=pa.mx pc n1 n3 w4 (by omega);have f2:=pb.mx pd n1 n3 (by decide) (by omega);refine⟨(nA P.1 R.1,nA P.2 R.2),⟨(pa.mul pc n1 n3 w4).up (qe _) (by omega),(pb.mul pd n1 n3 (by decide)).up (qe _) (by omega)⟩,fH<|Il n3 ?_⟩;simp![HG,aS,Wd.s,ai,aj,f1,f2,so]
  |plus=>
   rw[a5M (by decide)]at w4 ⊢;have(pq,h,g):=Np (s:=1) (o9:=Ž) n1 n3 pa pb pc pd (ç _ _) (å _ _) w4 he (.inl rfl);refine⟨pq,h.up h',fH<|Il n3 ?_⟩;have e1:bA [Ģ 1,.int (-1)] 0=ž (.int 1):=rfl;simp![HG,aS,Wd.s,ai,aj,e1];refine g λo9=>?_;simp!
  |less=>
   rw[a5M (by decide)]at w4 ⊢;have(pq,h,g):=Np (s:=-1) (o9:=Ž) n1 n3 pa pb pc pd (ç _ _) (å _ _) w4 he (.inr rfl);refine⟨pq,h.up h',fH<|Il n3 ?_⟩;have e1:bA [Ģ 1,.int (-1)] 1=ž (.int (-1)):=rfl;simp![HG,aS,Wd.s,ai,aj,e1];refine g λo9=>?_;simp!
end K44
open PySem Internal
namespace K44
open PySem Internal
theorem Xj{a:Int}{z:D}(h:z∈[Ģ a,.int b]):∃c,z=.int c/\(c=a\/c=b):=by
 rcases qu.mp h with rfl|h
 .exact⟨a,rfl,.inl rfl⟩
 .rw[qp.mp h];exact⟨b,rfl,.inr rfl⟩
theorem zAt:∀z∈[ł "plus",.str "less",.str "times",.str "times",.str "over",.str "over"],(∃w:Wd,z=.str w.s)\/z=.str "over":=by
 intro z hz;simp only[qu,Ļ,or_false]at hz;rcases hz with rfl|rfl|rfl|rfl|rfl|rfl
 .exact .inl ⟨.plus,rfl⟩
 .exact .inl ⟨.less,rfl⟩
 .exact .inl ⟨.times,rfl⟩
 .exact .inl ⟨.times,rfl⟩
 .exact .inr rfl
 .exact .inr rfl
theorem Xi(r:Rw):∃z t,aS r=.tuple (.str z::t):=by
 cases r<;>exact⟨_,_,rfl⟩
theorem zC9{rs:Qa Rw}(h:i < rs.length):∃r:Rw,bA (rs.map aS) (i:Int)=ž (aS r):=⟨rs[i],Md<|ql h⟩
def Gk:MS:=(zz (zR 6<|af bz (dW<|zb (af lG (zf 4)<|mC<|.int 1)<|zb (zK zr<|zb (zf 0)<|zb (zf 4) zn) zn)<|zK zr<|zb (zf 0)<|zb (mC<|.int 2) zn)
  (zz (zR 7<|zK zr<|zb (zf 0)<|zb (zf 4) zn)
  (zz (zR 8<|nR (mT<|zb (zf 4) zn) 1 [1] (zF 0) (mB<|af (aV Ż) (af zJ (af bz (zf 1)<|zf 0)<|mC<|.int 0)<|mC<|.str "times")<|zf 0)
  (zz (aT (jn (mB<|af (aV Ż) (zf 5)<|mC<|.str "over")<|jn (mB<|af (aV Ż) (zf 3)<|mC<|.int 1)<|mB<|af k9 (bf (f1 cF)<|zb (zf 8) zn)<|mC<|.int 0) (zz (zR 9<|af bz (zf 8)<|zK zr<|zb (zf 0)<|zb (bf (f1 cF)<|zb (zf 8) zn) zn)
  (aW<|aR<|zb (mC<|.str "over")<|zb (zf 9)<|zb (af zJ (af bz (zf 1)<|zf 9)<|af cB (mC<|.int 1)<|zK zr<|zb (zf 0)<|zb (mC<|.int 2) zn) zn)) zS)
  (zz (aT (jn (mB<|af (aV Ż) (zf 5)<|mC<|.str "over")<|mB<|af mf (zf 3)<|mC<|.int 2) (zR 5<|mC<|.str "times") zS)
  (aW<|aR<|zb (zf 5)<|zb (zf 6)<|zb (zf 7) zn))))))
def Gj:MS:=(zz (aT (mB<|af (aV Ż) (zK zr<|zb (zf 0)<|zb (mC<|.int 3) zn)<|mC<|.int 0) (aW<|aR<|zb (mC<|.str "number")<|zb (zK sG<|zb (zf 0) zn) zn) zS)
  (aW<|aR<|zb (mC<|.str "letter")<|zb (zK zr<|zb (zf 0)<|zb (zf 2) zn) zn))
theorem ZY:R4=(zz (zR 4<|bf (f1 cF)<|zb (zf 1) zn)
  (zz (zR 5<|af bz (dW<|zb (mC<|.str "plus")<|zb (mC<|.str "less")<|zb (mC<|.str "times")<|zb (mC<|.str "times")<|zb (mC<|.str "over")<|zb (mC<|.str "over") zn)<|zK zr<|zb (zf 0)<|zb (mC<|.int 6) zn)
  (zz (aT (eQ (mB<|af (aV Ż) (zf 4)<|mC<|.int 0)<|mB<|af mf (zK zr<|zb (zf 0)<|zb (mC<|.int 9) zn)<|mC<|.int 3) Gj zS)
  Gk))):=rfl
theorem Xh{x:Int}{w:Str}{rs:Qa Rw}{o2 o6 o7 o8 o9:Qb U}{Q:Fl->Prop}(hw:(∃v:Wd,w=v.s)\/w=ŧ "over")(hl:rs.length<=100)(h1:1<=rs.length)
  (k:∀v i j x' y' o5 o6 o7 o8,i < rs.length->j < rs.length->Q (.rt (.d<|aS<|.bin v i j) [ž<|bx x' y',ž<|.l<|rs.map aS,o2,ž<|.d<|.int 0,ž<|.d<|.int (rs.length:Int),o5,o6,o7,o8,o9])):
  Wo (Gk [ž<|bx x y,ž<|.l<|rs.map aS,o2,ž<|.d<|.int 0,ž<|.d<|.int (rs.length:Int),ž<|.d<|.str w,o6,o7,o8,o9]) Q:=by
 have(w0,w1):=zCB h1 (CY hl);simp![Gk];refine gE w0 w1 λr5 x5 y5 a5 b5=>?_;simp!;refine gE (by decide) (by decide) λr6 x6 y6 a6 b6=>?_;simp!;refine CL a6 b6 λz hz=>?_;have(c,rfl,hc):=Xj hz;simp!;refine GQ h1 (CY hl) λq x7 y7 hq=>?_;obtain⟨p,rfl,hp⟩:∃p:Nat,c=(p:Int)/\p < rs.length:=zC8 (by rw[a1c];exact w0) a5 (by rw[a1c];exact b5) (by rw[a1c];exact hc);simp!;refine NL (λi ρ ys=>ρ=[Ž,ž<|.l<|rs.map aS]/\ys.length<=i) (by rw[vI];omega) ⟨rfl,qe _⟩ ?_ ?_ ?_
 .rintro i _ ys ⟨rfl,h⟩
  exact h
 .rintro i _ ys hi ⟨rfl,h⟩
  have(r,er):=zC9 (rs:=rs) (i:=i) (by omega);have(z,t,ez):=Xi r;simp![a1c,er,ez]
  by_cases c:z=ŧ "times"
  .simp![c]
   exact h
  .simp![c]
   omega
 .rintro _ ys ⟨rfl,h⟩
  rcases hw with⟨v,rfl⟩|rfl
  .have kk:=k v p q x7 y7 (ž<|.d<|.str v.s) (ž<|.d<|.int (p:Int)) (ž<|.d<|.int (q:Int)) (ž<|.l ys) hp hq
   cases v <;>
   .simp![Wd.s]
    exact kk
  .have kk:=k .times p q x7 y7 (ž<|.d<|.str Wd.times.s) (ž<|.d<|.int (p:Int)) (ž<|.d<|.int (q:Int)) (ž<|.l ys) hp hq
   simp!;exact kk
theorem Nn{x:Int}{o1 o3 o4 o5 o6 o7 o8 o9:Qb U}{Q:Fl->Prop}(n1:1<=n)(n3:n<=3)
  (k:∀r x' y',(∀m,R1 n m r)->w1 [] r=1->Q (.rt (.d<|aS r) [ž<|bx x' y',o1,ž<|.d<|.int (n:Int),o3,o4,o5,o6,o7,o8,o9])):
  Wo (Gj [ž<|bx x y,o1,ž<|.d<|.int (n:Int),o3,o4,o5,o6,o7,o8,o9]) Q:=by
 simp![Gj];refine gE (by decide) (by decide) λr2 x2 y2 a2 b2=>?_;simp!;refine mW (λc=>?_) λc=>?_
 .simp!
  refine ZA λf x3 y3 hf=>?_;simp!;exact k (.num f) _ _ (λ_=>hf) rfl
 .simp!
  refine GQ n1 (CY n3) λq x3 y3 hq=>?_;simp!;exact k (.lt q) _ _ (λ_=>hq) rfl
theorem Xg{x:Int}{rs:Qa Rw}{Q:U×Qa U->Prop}(n1:1<=n)(n3:n<=3)(hl:rs.length<=100)
  (k:∀r x' y',R1 n rs.length r->Q (.d<|aS r,[bx x' y',.l<|rs.map aS,.d<|.int (n:Int),.d<|.int 0])):
  Wo (Ae [bx x y,.l<|rs.map aS,.d<|.int (n:Int),.d<|.int 0]) Q:=by
 have ll:(a2Z aS rs).length=rs.length:=ċ _;simp![Ae,ZY,ll];refine gE (by decide) (by decide) λr1 x1 y1 a1 b1=>?_;simp!;refine CL a1 b1 λz hz=>?_;obtain⟨w,rfl,hw⟩:∃w:Str,z=.str w/\((∃v:Wd,w=v.s)\/w=ŧ "over"):=by
  rcases zAt z hz with⟨v,rfl⟩|rfl
  .exact⟨_,rfl,.inl ⟨v,rfl⟩⟩
  .exact⟨_,rfl,.inr rfl⟩
 by_cases h0:(rs.length:Int)=0
 .simp![h0]
  refine Nn n1 n3 λr x3 y3 hr _=>?_;simp!;exact k r _ _<|hr _
 .simp![h0]
  refine gE (by decide) (by decide) λr2 x2 y2 a2 b2=>?_;simp!;refine mW (λc=>?_) λc=>?_
  .refine Nn n1 n3 λr x3 y3 hr _=>?_
   simp!;exact k r _ _<|hr _
  .simp!
   refine Xh hw hl (by omega) λv i j x3 y3 o5 o6 o7 o8 hi hj=>?_;simp!;exact k (.bin v i j) _ _ ⟨hi,hj⟩
theorem Mz{xs:Qa α}{y z:α}(h:i < xs.length):(xs++[y]).getD i z=xs.getD i z:=by
 rw[qA,qA,Ĝ h]
theorem My{xs:Qa α}{y z:α}:(xs++[y]).getD xs.length z=y:=by
 rw[qA,ę<|qe _,a3V];rfl
theorem xD.snoc{e:Nat}{ws:Qa Nat}{ps:Qa P2}{w:Nat}{p:P2}(h:xD n e ws ps)(c:e<=e')(hp:PP n e' w p):xD n e' (ws++[w]) (ps++[p]):=by
 refine⟨by rw[qr,qr,h.ln];rfl,λi hi=>?_⟩;rw[qr,ţ]at hi;rcases Ó i ps.length with z|z
 .rw[Mz z,Mz (by rw[<-h.ln];exact z)]
  exact(h.ok i z).up c
 .have e:i=ps.length:=by omega
  subst e;rw[My,h.ln,My];exact hp
theorem zCG{ps:Qa P2}{p:P2}:ps.map pD++[.tuple [.dict<|bR fR p.1,.dict<|bR fR p.2]]=(ps++[p]).map pD:=by rw[ĕ];rfl
noncomputable def ex(k:Nat):Nat:=20 * (2^(k - 1) - 1)
theorem zDa{k:Nat}(h:k<=7):ex k+ex k<=3700/\ex k<=ex (k+1)/\(k=0\/ex k+ex k+17<=ex (k+1)):=by
 rcases(by omega:k=0\/k=1\/k=2\/k=3\/k=4\/k=5\/k=6\/k=7)with rfl|rfl|rfl|rfl|rfl|rfl|rfl|rfl<;>decide
abbrev sC(x y:Int)(ns:Qa Str)(rs:Qa Rw)(ps:Qa P2)(o8 o9:Qb U):En:=[ž<|bx x y,ž<|.d<|.tuple<|ns.map .str,ž<|.d<|.int 8,ž<|.d<|.int 4,ž<|.d<|.int 0,ž<|.l<|rs.map aS,ž<|pL ps,ž<|wL<|eN rs,o8,o9]
structure JC (n:Nat) (rs:Qa Rw) (ps:Qa P2):Prop where
 ro:RO n rs
 gw:GW rs
 pp:xD n (ex rs.length) (eN rs) ps
def Gi:MS:=(zz (aT (jn (mB<|af (aV Ż) (af zJ (zf 9)<|mC<|.int 0)<|mC<|.str "over")<|mB<|af xN (af zJ (af bz (zf 6)<|af zJ (zf 9)<|mC<|.int 2)<|mC<|.int 0) mZ) (zR 9<|aR<|zb (mC<|.str "number")<|zb (zK sG<|zb (zf 0) zn) zn) zS)
  (zz (du<|cX 5<|zf 9)
  (zz (du<|cX 6<|zK nK<|zb (zf 9)<|zb (zf 6)<|zb (bf (f1 cF)<|zb (zf 1) zn) zn)
  (du<|cX 7<|zK zT<|zb (zf 9)<|zb (zf 7) zn))))
def F9:MS:=(zz (aT (mB<|af k9 (bf (f1 rJ)<|zb (zK zT<|zb (zf 9)<|zb (zf 7) zn) zn)<|zf 3) (zR 9<|aR<|zb (mC<|.str "letter")<|zb (zK zr<|zb (zf 0)<|zb (bf (f1 cF)<|zb (zf 1) zn) zn) zn) zS)
  (zz (aT (jn (mB<|af (aV Ż) (af zJ (zf 9)<|mC<|.int 0)<|mC<|.str "over")<|mB<|af xN (af zJ (af bz (zf 6)<|af zJ (zf 9)<|mC<|.int 2)<|mC<|.int 0) mZ) (zR 9<|aR<|zb (mC<|.str "number")<|zb (zK sG<|zb (zf 0) zn) zn) zS)
  (zz (du<|cX 5<|zf 9)
  (zz (du<|cX 6<|zK nK<|zb (zf 9)<|zb (zf 6)<|zb (bf (f1 cF)<|zb (zf 1) zn) zn)
  (du<|cX 7<|zK zT<|zb (zf 9)<|zb (zf 7) zn)))))
theorem Y7:F9=(zz (aT (mB<|af k9 (bf (f1 rJ)<|zb (zK zT<|zb (zf 9)<|zb (zf 7) zn) zn)<|zf 3) (zR 9<|aR<|zb (mC<|.str "letter")<|zb (zK zr<|zb (zf 0)<|zb (bf (f1 cF)<|zb (zf 1) zn) zn) zn) zS)
  Gi):=rfl
theorem Xf:R0=(zz (zR 5<|dW zn)
  (zz (zR 6<|dW zn)
  (zz (zR 7<|dW zn)
  (zz (hU (mT<|zb (af cB (mC<|.int 1)<|zK zr<|zb (zf 0)<|zb (zf 2) zn) zn) (zF 8) (zz (zR 9<|zK Ae<|zb (zf 0)<|zb (zf 5)<|zb (bf (f1 cF)<|zb (zf 1) zn)<|zb (zf 4) zn)
  (zz (aT (mB<|af k9 (bf (f1 rJ)<|zb (zK zT<|zb (zf 9)<|zb (zf 7) zn) zn)<|zf 3) (zR 9<|aR<|zb (af bz (dW<|zb (mC<|.str "plus")<|zb (mC<|.str "less") zn)<|zK zr<|zb (zf 0)<|zb (mC<|.int 2) zn)<|zb (af zJ (zf 9)<|mC<|.int 1)<|zb (af zJ (zf 9)<|mC<|.int 1) zn) zS)
  F9)))
  (aW<|aR<|zb (zf 1)<|zb (bf (f1 rW)<|zb (zf 5) zn) zn))))):=rfl
section
variable{x:Int}{ns:Qa Str}{rs:Qa Rw}{ps:Qa P2}{r:Rw}{o8:Qb U}{Q:Fl->Prop}
theorem Nm(hn:ns.length=n)(n1:1<=n)(n3:n<=3)(h:JC n rs ps)(hl:rs.length<=7)(hr:R1 n rs.length r)(w4:w1 (eN rs) r<=4)
  (k:∀r' pq x' y' o9,JC n (rs++[r']) (ps++[pq])->Q (.nx<|sC x' y' ns (rs++[r']) (ps++[pq]) o8 o9)):Wo (Gi<|sC x y ns rs ps o8<|some<|.d<|aS r) Q:=by
 have ll:(a2Z ł ns).length=n:=by rw[ċ,hn]
 have ln:(eN rs).length=rs.length:=oY;have lp:=h.pp.ln;have(e1,e2,e3):=zDa hl;have hw:=Ih (ws:=eN rs) (r:=r) (by rw[ln];exact hr);have(pq,hp,fp):=Xk (r:=r) (e':=ex (rs.length+1)) n1 n3 h.pp (by rw[lp,ln];exact hr) w4 e1 (by rw[lp,ln];exact e3);obtain⟨z,t,ez,zo⟩:∃z t,aS r=.tuple (.str z::t)/\(z=ŧ "over")=False:=by
  cases r with
  |num f=>exact⟨_,_,rfl,eq_false (by decide)⟩
  |lt k=>exact⟨_,_,rfl,eq_false (by decide)⟩
  |bin w i j=>cases w<;>exact⟨_,_,rfl,eq_false (by decide)⟩
 have kk:=k r pq x y (ž<|.d<|aS r) ⟨h.ro.app hr,h.gw.snoc w4,by
  rw[qr,ţ];show xD _ _ (acc w1 (rs++[r]) []) _;rw[Dd];exact h.pp.snoc e2 hp⟩
 rw[show sC x y ns (rs++[r]) (ps++[pq]) o8 (ž<|.d<|aS r)=[ž<|bx x y,ž<|.d<|.tuple<|ns.map .str,ž<|.d<|.int 8,ž<|.d<|.int 4,ž<|.d<|.int 0,ž<|.l<|(rs++[r]).map aS,ž<|.l<|(ps++[pq]).map pD,ž<|.l<|(eN rs++[w1 (eN rs) r]).map wD,o8,ž<|.d<|aS r] by rw[<-Dd],<-zCD,<-zCG,<-zCE]at kk;rw[ez]at hw fp kk ⊢;simp![Gi,zo,hw,ll,fp];exact kk
theorem Nl(hn:ns.length=n)(n1:1<=n)(n3:n<=3)(h:JC n rs ps)(hl:rs.length<=7)(hr:R1 n rs.length r)
  (k:∀r' pq x' y' o9,JC n (rs++[r']) (ps++[pq])->Q (.nx<|sC x' y' ns (rs++[r']) (ps++[pq]) o8 o9)):Wo (F9<|sC x y ns rs ps o8<|some<|.d<|aS r) Q:=by
 have ll:(a2Z ł ns).length=n:=by rw[ċ,hn]
 have ln:(eN rs).length=rs.length:=oY;have hw:=Ih (ws:=eN rs) (r:=r) (by rw[ln];exact hr);simp![Y7,hw,Sk];refine mW (λc=>?_) λc=>?_
 .simp![ll]
  refine GQ n1 (CY n3) λq x3 y3 hq=>?_;simp!;exact Nm (r:=.lt q) hn n1 n3 h hl hq (show 1<=4 by decide) k
 .simp!
  exact Nm hn n1 n3 h hl hr (by omega) k
end
theorem zl2{x:Int}{ns:Qa Str}{Q:U×Qa U->Prop}(hn:ns.length=n)(n1:1<=n)(n3:n<=3)
  (k:∀rs x' y',RO n rs->GW rs->1<=rs.length->rs.length<=8->Q (.d<|gW ns rs,[bx x' y',.d<|.tuple<|ns.map .str,.d<|.int 8,.d<|.int 4,.d<|.int 0])):
  Wo (DY [bx x y,.d<|.tuple<|ns.map .str,.d<|.int 8,.d<|.int 4,.d<|.int 0]) Q:=by
 have ll:(a2Z ł ns).length=n:=by rw[ċ,hn]
 simp![DY,Xf];refine gE (by decide) (by decide) λr1 x1 y1 a1 b1=>?_;simp!;refine Lp (λi ρ=>∃(x y:Int) (rs:Qa Rw) (ps:Qa P2) (o8 o9:Qb U),ρ=sC x y ns rs ps o8 o9/\rs.length=i/\JC n rs ps) ⟨_,_,[],[],_,_,rfl,rfl,⟨λt r h=>by simp at h,λt ht=>absurd ht<|ν _,rfl,λi hi=>absurd hi<|ν _⟩⟩ ?_ ?_
 .rintro i _ hi ⟨x,y,rs,ps,o8,o9,rfl,hl,h⟩
  have ln:(eN rs).length=rs.length:=oY;have fin:∀{r':Rw} {pq:P2} {x y:Int} {o8 o9:Qb U},JC n (rs++[r']) (ps++[pq])->∃(x' y':Int) (Je:Qa Rw) (S3:Qa P2) (o8' o9':Qb U),sC x y ns (rs++[r']) (ps++[pq]) o8 o9=sC x' y' ns Je S3 o8' o9'/\Je.length=i+1/\JC n Je S3:=λ{r' pq x y o8 o9} h=>⟨x,y,_,_,o8,o9,rfl,by rw[qr,hl];rfl,h⟩;have h7:rs.length<=7:=by omega
  simp![ll];refine Xg n1 n3 (qx h7 (by decide)) λr x2 y2 hr=>?_;have hw:=Ih (ws:=eN rs) (r:=r) (by rw[ln];exact hr);simp![hw,Sk];refine mW (λc=>?_) λc=>?_
  .cases r with
   |num f=>exact absurd (show((1:Nat):Int) > 4 from c) (by decide)
   |lt q=>exact absurd (show((1:Nat):Int) > 4 from c) (by decide)
   |bin w a b=>
    simp!;refine gE (by decide) (by decide) λr3 x3 y3 a3 b3=>?_;simp!;refine CL a3 b3 λz hz=>?_;obtain⟨w',rfl⟩:∃w:Wd,z=.str w.s:=by
     rcases qu.mp hz with rfl|hz
     .exact⟨.plus,rfl⟩
     .exact⟨.less,qp.mp hz⟩
    simp![aS];refine Nl (r:=.bin w' a a) hn n1 n3 h h7 ⟨hr.1,hr.1⟩ λr' pq x4 y4 o9 h'=>?_;simp!;exact fin h'
  .simp!
   refine Nl hn n1 n3 h h7 hr λr' pq x4 y4 o9 h'=>?_;simp!;exact fin h'
 .rintro _ ⟨x,y,rs,ps,o8,o9,rfl,hl,h⟩
  simp!;exact k rs _ _ h.ro h.gw (by omega) (by omega)
end K44
open PySem Internal
namespace K44
open PySem Internal
def v1(n:Nat)(vs:Qa (Pq Rat)):Rw->Pq Rat
 |.num f=>jj n f
 |.lt k=>xI n k
 |.bin .plus a b=>lD 1 (vs.getD a [])<|vs.getD b []
 |.bin .less a b=>lD (-1) (vs.getD a [])<|vs.getD b []
 |.bin .times a b=>nA (vs.getD a [])<|vs.getD b []
abbrev jz(n:Nat)(rs:Qa Rw):Qa (Pq Rat):=acc (v1 n) rs []
abbrev vP(n:Nat)(rs:Qa Rw)(t:Nat):Pq Rat:=(jz n rs).getD t []
noncomputable def ey(k:Nat):Nat:=20 * (2^k - 1)
theorem BE{k:Nat}(h:k<=7)(hj:j < k):ey j+ey j+11<=ey k/\ey k<=2540:=by
 unfold ey;rcases(by omega:k=1\/k=2\/k=3\/k=4\/k=5\/k=6\/k=7)with rfl|rfl|rfl|rfl|rfl|rfl|rfl <;>
 .have:2^j<=2^6:=à (by decide) (by omega)
  have:=à (n:=2) (by decide) (show j+1<=_ from hj);omega
theorem Nk{t:Nat}{rs:Qa Rw}{r:Rw}(hR:RO n rs)(h:rs[t]?=ž r):v1 n (jz n<|rs.take t) r=v1 n (jz n rs) r:=by
 have ht:=(qk.mp h).1;have ok:=hR t r h;cases r with
 |num f=>rfl
 |lt k=>rfl
 |bin w a b=>
  have ea:=t8 (f:=v1 n) (z:=[]) (rs:=rs) (i:=a) ok.1 (by omega);have eb:=t8 (f:=v1 n) (z:=[]) (rs:=rs) (i:=b) ok.2 (by omega);cases w<;>(unfold v1;dsimp only;rw[ea,eb])
theorem Ls{t:Nat}{rs:Qa Rw}{r:Rw}(hR:RO n rs)(h:rs[t]?=ž r):vP n rs t=v1 n (jz n rs) r:=by
 rw[<-Nk hR h];exact Hm h
theorem B7{rs:Qa Rw}(n1:1<=n)(n3:n<=3)(hR:RO n rs)(hG:GW rs)(hl:rs.length<=8)(t:Nat):t < rs.length->PZ n (ey t) ((eN rs).getD t 0) (vP n rs t):=by
 induction t using a1f with
 |_ t ih=>
  intro ht;have e:=ql ht;have hg:=hG t ht;generalize rs[t]=r at e;rw[Ls hR e];rw[p9 hR e]at hg ⊢;have ok:=hR t r e;cases r with
  |num f=>exact(Nr ok).up (qe _)<|À _
  |lt k=>exact(Nq ok).up (qe _)<|À _
  |bin w a b=>
   have ia:=ih a ok.1 (by have:=ok.1;omega);have ib:=ih b ok.2 (by have:=ok.2;omega);have(ea,gS):=BE (k:=t) (by omega) ok.1;have(eb,KJ):=BE (k:=t) (by omega) ok.2;have ad:∀s:Int,(s=1\/s=-1)->max ((eN rs).getD a 0) ((eN rs).getD b 0)<=4->PZ n (ey t) (max ((eN rs).getD a 0)<|(eN rs).getD b 0) (lD s (vP n rs a)<|vP n rs b):=λs hs h4=>((ia.up (ç _ _)<|ç _<|ey b).add (ib.up (å _ _)<|å (ey a) _) n1 n3 h4 hs).up (qe _) (by omega);cases w with
   |plus=>exact ad 1 (.inl rfl) hg
   |less=>exact ad (-1) (.inr rfl) hg
   |times=>exact(⟨ia.pg.mul ib.pg n1 n3 hg,IG _⟩:PZ n _ _ (nA _ _)).up (qe _) (by omega)
theorem Xe{rs:Qa Rw}{t:Nat}(ht:¬t < rs.length):vP n rs t=[]:=by
 unfold vP;rw[qA,ų (by rw[oY];omega)];rfl
theorem zCH{rs:Qa Rw}(n1:1<=n)(n3:n<=3)(hR:RO n rs)(hG:GW rs)(hl:rs.length<=8):PR n (vP n rs) rs:=by
 refine⟨λt=>?_,λt r h=>?_⟩
 .by_cases ht:t < rs.length
  .exact λu hu=>((B7 n1 n3 hR hG hl t ht).pg.ky u hu).ln
  .rw[Xe ht]
   exact λu hu=>by cases hu
 .have e:=Ls hR h
  have ht:=(qk.mp h).1;have ok:=hR t r h;cases r with
  |num f=>exact e
  |lt k=>exact e
  |bin w a b=>
   have pa:=B7 n1 n3 hR hG hl a (by have:=ok.1;omega);cases w with
   |plus=>
    intro g;rw[e];refine(HH pa.pg.nd g).trans ?_;rw[show((1:Int):Rat)=1 from rfl,a0w]
   |less=>
    intro g;rw[e];exact HH pa.pg.nd g
   |times=>
    intro g;rw[e];show aL (Internal.nz<|dC []<|dg (vP n rs a)<|vP n rs b) g=_;rw[show Internal.nz (dC []<|dg (vP n rs a)<|vP n rs b)=(dC []<|dg (vP n rs a)<|vP n rs b).filter (λt=>decide<|t.2≠0) from rfl,G8,Hz _ _ Eo,gH,a0c,Du]
theorem zkp{ns:Qa Str}{rs:Qa Rw}{Q:U×Qa U->Prop}(n1:1<=ns.length)(n3:ns.length<=3)(hR:RO ns.length rs)(hG:GW rs)(h0:0 < rs.length)(hl:rs.length<=8)
  (k:Q (.d<|pd<|vP ns.length rs<|rs.length - 1,[.d<|gW ns rs])):Wo (D7 [.d<|gW ns rs]) Q:=by
 have UJ:=B7 n1 n3 hR hG hl;simp![D7,Sa];refine uh (λi ρ=>∃v4 v5,ρ=[ž<|U.d<|gW ns rs,ž<|.d<|.tuple<|ns.map .str,ž<|.d<|nH rs,ž<|.l<|(jz ns.length<|rs.take i).map pd,v4,v5]) ⟨_,_,rfl⟩ ?_ ?_
 .rintro i d _ hd ⟨v4,v5,rfl⟩
  rw[ė]at hd;have(r,er,rfl):=qq.mp hd;have hi:=(qk.mp er).1;have ok:=hR i r er;have et:jz ns.length (rs.take<|i+1)=jz ns.length (rs.take i)++[v1 ns.length (jz ns.length<|rs.take i) r]:=HJ er;rw[Nk hR er]at et;have ln:(jz ns.length<|rs.take i).length=i:=by rw[oY,Ŀ];omega
  have hz:((jz ns.length<|rs.take i).map pd).length < 16777216:=by
   rw[ċ,ln];omega
  have fin:∀v4 v5,(∃v4' v5',[ž<|U.d<|gW ns rs,ž<|.d<|.tuple<|ns.map .str,ž<|.d<|nH rs,ž<|.l<|(jz ns.length<|rs.take i).map pd++[.dict<|bR fR<|v1 ns.length (jz ns.length rs) r],v4,v5]=[ž<|U.d<|gW ns rs,ž<|.d<|.tuple<|ns.map .str,ž<|.d<|nH rs,ž<|.l<|(jz ns.length<|rs.take<|i+1).map pd,v4',v5']):=λv4 v5=>⟨v4,v5,by rw[et,ĕ];rfl⟩;have at_:∀{a:Nat},a < i->bA ((jz ns.length<|rs.take i).map pd) (a:Int)=ž (.dict<|bR fR<|vP ns.length rs a):=λ{a} ha=>by
   refine Gd ?_;have e:=t8 (f:=v1 ns.length) (z:=[]) (rs:=rs) ha (by omega);show _=ž ((acc (v1 ns.length) rs []).getD a []);rw[<-e,qA,ql (by omega)];rfl
  have hg:=hG i hi;rw[p9 hR er]at hg;cases r with
  |num f=>
   have pn:=IB (n:=ns.length) (f:=f) n3;have f2:=fin (ž<|.d<|aS<|.num f) v5;simp![aS,pn,hz];exact f2
  |lt j=>
   have pn:=Ri (n:=ns.length) (k:=j) ok n3;have f2:=fin (ž<|.d<|aS<|.lt j) v5;simp![aS,pn,hz];exact f2
  |bin w a b=>
   have pa:=UJ a (by have:=ok.1;omega);have pb:=UJ b (by have:=ok.2;omega);have ya:=(BE (k:=i) (by omega) ok.1);have yb:=(BE (k:=i) (by omega) ok.2);have ad:∀s:Int,(s=1\/s=-1)->max ((eN rs).getD a 0) ((eN rs).getD b 0)<=4->_:=λs hs h4=>(pa.pg.up (ç _<|(eN rs).getD b 0)<|ç _<|ey b).ax (s:=s) (u1:=.d (.dict<|bR fR<|vP ns.length rs a)) (u2:=.d (.dict<|bR fR<|vP ns.length rs b)) (pb.pg.up (å _ _)<|å (ey a) _) n1 n3 h4 hs (by omega) (.inl rfl) rfl;cases w with
   |plus=>
    have f2:=fin (ž<|.d<|aS<|.bin .plus a b) (ž<|.d<|.int 1);have e1:bA [Ģ 1,.int (-1)] 0=ž (.int 1):=rfl;simp![aS,Wd.s,at_ ok.1,at_ ok.2,ad 1 (.inl rfl) hg,hz,e1];exact f2
   |less=>
    have f2:=fin (ž<|.d<|aS<|.bin .less a b) (ž<|.d<|.int (-1));have e1:bA [Ģ 1,.int (-1)] 1=ž (.int (-1)):=rfl;simp![aS,Wd.s,at_ ok.1,at_ ok.2,ad (-1) (.inr rfl) hg,hz,e1];exact f2
   |times=>
    have mx:=pa.pg.mx pb.pg n1 n3 hg (by omega);have f2:=fin (ž<|.d<|aS<|.bin .times a b) v5;simp![aS,Wd.s,at_ ok.1,at_ ok.2,mx,hz];exact f2
 .rintro _ ⟨v4,v5,rfl⟩
  rw[ċ,a2o];have la:bA ((jz ns.length rs).map pd) (-1)=ž (pd<|vP ns.length rs<|rs.length - 1):=by
   have ln:(jz ns.length rs).length=rs.length:=oY;unfold bA eV;rw[a5M (by decide),a5L (by rw[ċ];omega),bd,ċ,ln,show -1+((rs.length:Nat):Int)=((rs.length - 1:Nat):Int) by omega,ė,İ,ql (by omega)];unfold vP;rw[qA,ql (by omega)];rfl
  simp![la];exact k
end K44
open PySem Internal
namespace K44
open PySem Internal
def pG(p:Pq Rat):mD:=p.map λt=>(kL t.1,[.inl t.2.num,.inl (t.2.den:Int)])
theorem F8:∀p:Pq Rat,sY (bB fR p)=ž (pG p)
 |[]=>rfl
 |t::p=>by
  show(d6<|fR t.2).bind (λv=>(sY<|bB fR p).bind λr=>ž<|(kL t.1,v)::r)=_;rw[F8 p];rfl
theorem zCI{a b:Qa Int}(h:kL a=kL b):a=b:=(a4P λx y e=>by cases e;rfl).mp h
theorem Y6{p q:Pq Rat}(hp:p.Perm q)(nd:cM q):lg (pG p) (pG q)=ż:=by
 unfold lg;rw[show((pG p).length==(pG q).length)=ż by unfold pG;rw[ċ,ċ,hp.length_eq];exact a5Q _,a1C];refine ä.mpr λx hx=>?_;have(t,ht,rfl):=Ä.mp hx;have(j,hj):=List.mem_iff_getElem?.mp (hp.mem_iff.mp ht);refine a5N<|Pf ?_ (j:=j) ?_
 .unfold pG
  rw[ĳ];show(q.map λt=>kL t.1).Nodup;exact ý.mpr<|(ý.mp nd).imp λh e=>h<|zCI e
 .unfold pG
  rw[ė,hj];rfl
theorem zAu{w:Bool}{u v:U}{p q:Pq Rat}(hu:vn u=ž (bB fR p))(hv:vn v=ž (bB fR q))(hp:p.Perm q)(nd:cM q):Cc w u v=ž (.d<|.bool w):=by
 unfold Cc;rw[hu,hv];show(sY<|bB fR p).bind (λf=>(sY<|bB fR q).bind λg=>ž<|U.d<|.bool<|lg f g==w)=_;rw[F8,F8];show ž (U.d<|.bool<|lg (pG p) (pG q)==w)=_;rw[Y6 hp nd];cases w<;>rfl
theorem Y5{p q:Pq Rat}(n1:cM p)(z1:∀t∈p,t.2≠0)(n2:cM q)(z2:∀t∈q,t.2≠0)(h:∀g,aL p g=aL q g):p.Perm q:=by
 have e:wR p=wR q:=NU ⟨HV n1,λt ht=>z1 t<|(su p).mem_iff.mp ht⟩ ⟨HV n2,λt ht=>z2 t<|(su q).mem_iff.mp ht⟩ λg=>by rw[OV<|su p,OV<|su q,h]
 exact(su p).symm.trans<|e▸su q
theorem Mc(p:Pq Rat):vn (dT p)=ž (bB fR p):=by
 show(if l7 (bR fR p)=ż then t6 (bR fR p)else Ž)=_;rw[a5L<|CI p,HS]
theorem zAv{e:Et}(n3:n<=3)(h:EO n e):gT 2 200 (mm e):=by
 refine(sv (n:=2) (k:=1) (M:=90) (λd hd=>?_)<|qe _).mono (qe _) (by decide);simp only[qu,Ļ,or_false]at hd;rcases hd with rfl|rfl
 .exact(zCx h.bd).mono (qe _) (by decide)
 .have(f,l):=e
  cases l with
  |none=>exact HY.mono (by decide) (by decide)
  |some j=>
   have:=h.lt j rfl;exact(ug (n:=3) (by omega)).mono (by decide) (by decide)
theorem zAw{D0:Nat}{x:Wy}(n3:n<=3)(hd:D0<=100)(h:x.a < x.b/\x.b < D0/\EO n x.e):gT 3 700 x.d:=by
 refine(sv (n:=3) (k:=2) (M:=200) (λd dZ=>?_)<|qe _).mono (qe _) (by decide);simp only[qu,Ļ,or_false]at dZ;rcases dZ with rfl|rfl|rfl
 .exact(ug (n:=3) (by omega)).mono (by decide) (by decide)
 .exact(ug (n:=3) (by omega)).mono (by decide) (by decide)
 .exact zAv n3 h.2.2
theorem Xd{ls:Qa Str}{D0:Nat}{W:Qa Wy}(n3:ls.length<=3)(ha:∀z∈ls,bN 10 z)(hd:D0<=100)(hl:W.length<=174)(h:∀x∈W,x.a < x.b/\x.b < D0/\EO ls.length x.e):gT 5 500000 (nB ls D0 W):=by
 refine(sv (n:=3) (k:=4) (M:=130000) (λd dZ=>?_)<|qe _).mono (qe _) (by decide);simp only[qu,Ļ,or_false]at dZ;rcases dZ with rfl|rfl|rfl
 .exact(Mt n3 ha).mono (by decide) (by decide)
 .exact(ug (n:=3) (by omega)).mono (by decide) (by decide)
 .refine(sv (n:=174) (k:=3) (M:=700) (λd dZ=>?_) (by rw[ċ];exact hl)).mono (qe _) (by decide)
  have(x,hx,rfl):=Ä.mp dZ;exact zAw n3 hd<|h x hx
theorem zCJ{q:Nat}:under Cg "TooMany" (IV q)=ż:=rfl
theorem zCK{q:Nat}:Ct xH "at" (.d<|IV q)=ž (.d<|.int (q:Int)):=rfl
inductive Hd (ls:Qa Str) (rs:Qa Rw):D->D->Prop where
 |many (h:58 < wt rs (rs.length - 1)):Hd ls rs .none (.int ((rs.length - 1:Nat):Int))
 |SU (h:wt rs (rs.length - 1)<=58) (W:Qa Wy) (V:Vs) (hp:Nat->Nat) (g:WI ls.length (wt rs (rs.length - 1)+2) (wt rs) W []) (I:GI ls.length (wt rs (rs.length - 1)+1) (vP ls.length rs) (λt=>(eN rs).getD t 0) (vP ls.length rs<|rs.length - 1) W [] V hp) (l:W.length<=174):Hd ls rs (nB ls (wt rs (rs.length - 1)+2)<|iD<|ir W) .none
theorem Y4{ls:Qa Str}{rs:Qa Rw}(n1:1<=ls.length)(n3:ls.length<=3)(hR:RO ls.length rs)(hG:GW rs)(h0:0 < rs.length)(hl:rs.length<=8):∃x y,Hd ls rs x y/\wM [.d<|gW ls rs]=ž (.d<|.tuple [x,y],[.d<|gW ls rs]):=by
 have:Wo (wM [.d<|gW ls rs]) λo=>∃x y,Hd ls rs x y/\o=(.d<|.tuple [x,y],[.d<|gW ls rs]):=by
  simp![wM,QY];refine ZM hR (zCH n1 n3 hR hG hl) hG h0 (by omega) (λh=>?_) λh W V hp g I l=>?_
  .simp![zCJ,zCK]
   exact⟨_,_,.many h,rfl⟩
  .simp!
   exact⟨_,_,.SU h W V hp g I l,rfl⟩
 have(o,e,x,y,h,rfl):=this;exact⟨x,y,h,e⟩
theorem Mb{neg:Bool}:mO neg (.d .none) (.d .none)=ž (.d<|.bool (!neg)):=by cases neg<;>rfl
theorem zAx{neg:Bool}{ls:Qa Str}{d:Nat}{W:Qa Wy}:mO neg (.d<|nB ls d W) (.d .none)=ž (.d<|.bool neg):=by cases neg<;>rfl
theorem zAy{neg:Bool}{i:Int}:mO neg (.d<|.int i) (.d .none)=ž (.d<|.bool neg):=by cases neg<;>rfl
end K44
open PySem Internal
namespace K44
open PySem Internal
def Rk(d:D):Prop:=∃ls rs,d=gW ls rs/\1<=ls.length/\ls.length<=3/\(∀z∈ls,bN 10 z)/\RO ls.length rs/\GW rs/\1<=rs.length/\rs.length<=8
theorem zCL(ns:Qa Int)(hl:ns.length<=63):Wo (vM [.d<|.list<|ns.map .int]) λo=>o=(.d<|.bool ż,[.d<|.list<|ns.map .int]):=by
 simp![vM,Lz,ċ];refine uh (λi ρ=>E7 λ(ts:Qa D) (o2 o3 o4 o5 o6 o7:Qb U)=>E3 λ(o8 o9 uL:Qb U)=>ρ=[ž<|.d<|.list<|ns.map .int,ž<|.l ts,o2,o3,o4,o5,o6,o7,o8,o9,uL]/\ts.length=i/\∀d∈ts,Rk d) ⟨_,_,_,_,_,_,_,_,_,_,rfl,rfl,λd hd=>by cases hd⟩ ?_ ?_
 .rintro i d _ hd ⟨ts,o2,o3,o4,o5,o6,o7,o8,o9,uL,rfl,ht,j9⟩
  have(hi,rfl):=Ij hd;have hi4:i < 4:=by
   refine qi hi ?_;split<;>split<;>omega
  simp!;refine zCp (by omega) λx y=>?_;simp!;refine gE (by decide) (by decide) λr x1 y1 r0 r1=>?_;simp!;refine YL (by omega) (by omega) λls x2 y2 hls ha=>?_;have l1:1<=ls.length:=by omega
  have l3:ls.length<=3:=by omega
  simp!;refine zl2 rfl l1 l3 λrs x3 y3 hR hG h1 h8=>?_;simp!;exact⟨_,_,_,_,_,_,_,_,_,_,rfl,by simp[ht],λz hz=>by
   rcases È.mp hz with hz|hz
   .exact j9 z hz
   .cases qp.mp hz
    exact⟨ls,rs,rfl,l1,l3,ha,hR,hG,h1,h8⟩⟩
 .rintro _ ⟨ts,o2,o3,o4,o5,o6,o7,o8,o9,uL,rfl,ht,j9⟩
  have l4:ts.length<=4:=by
   rw[ht,Im];split<;>split<;>omega
  have lc:=YC ts Ž (ž 1);simp![Sl (xs:=ts) (ys:=jG ts Ž (ž 1)) (by omega)];refine uh (λi ρ=>E7 λ(o1 o2 o3 o4 o5 o6 o7:Qb U)=>E3 λ(o8 o9 uL:Qb U)=>ρ=[ž<|.d<|.list<|ns.map .int,o1,o2,o3,o4,o5,o6,o7,o8,o9,uL]) ⟨_,_,_,_,_,_,_,_,_,_,rfl⟩ ?_ ?_
  .rintro i d _ hd ⟨o1,o2,o3,o4,o5,o6,o7,o8,o9,uL,rfl⟩
   have dZ:Rk d:=by
    rcases È.mp (Í hd)with h|h
    .exact j9 d h
    .exact j9 d (YD h)
   have(ls,rs,rfl,l1,l3,ha,hR,hG,h1,h8):=dZ;have(x,y,hx,eh):=Y4 l1 l3 hR hG h1 h8;have lw:=zkl hR (by omega);have wo:=ZS (ls:=ls) hR h1 (by omega);cases hx with
   |many h=>
    have es:=Hl (neg:=ż) (d:=.tuple [.none,.int ((rs.length - 1:Nat):Int)]) (k:=1) (M:=200) ((sv (n:=2) (k:=0) (M:=10) (λd dZ=>by
     simp only[qu,Ļ,or_false]at dZ;rcases dZ with rfl|rfl
     .exact HY.mono (by decide) (by decide)
     .exact(ug (n:=3) (by omega)).mono (by decide) (by decide))<|qe _).mono (qe _) (by decide)) (by decide)
    have e1:((rs.length - 1:Nat):Int)=(rs.length:Int) - 1:=by omega
    rw[e1]at es eh;have c1:((58:Int) < ((wt rs (rs.length - 1):Nat):Int))=True:=eq_true (by omega);have c2:(((wt rs (rs.length - 1):Nat):Int)<=58)=False:=eq_false (by omega);simp![lw,Dc h1,wo,eh,DR,es,Mb,zAy,ċ,c1,c2,if_true,if_false];exact⟨_,_,_,_,_,_,_,_,_,_,rfl⟩
   |SU h W V hp g I l=>
    have lW:(ir W).length<=174:=qx (î _ _) l;have hb:∀x∈iD (ir W),x.a < x.b/\x.b < wt rs (rs.length - 1)+2/\EO ls.length x.e/\x.e.1≠0/\x∈W:=λx hx=>by
     have hf:=á.mp (yU.mem_iff.mp hx);have gb:=g.b x hf.1;exact⟨gb.1,gb.2.1,gb.2.2,by simpa using hf.2,hf.1⟩
    have fj:=Nu (W:=ir W) (g.p.filter _);have Tg:(iD<|ir W).length<=174:=by rw[yU.length_eq];exact lW
    have iw:=zqh (ls:=ls) (D0:=wt rs (rs.length - 1)+2) (W:=iD (ir W)) l3 ha (by omega) (λx hx=>⟨(hb x hx).1,(hb x hx).2.1,(hb x hx).2.2.1,(hb x hx).2.2.2.1⟩) fj;rw[show((wt rs (rs.length - 1)+2:Nat):Int)=((wt rs (rs.length - 1):Nat):Int)+2 by omega]at iw;have nw:=Xd (ls:=ls) (D0:=wt rs (rs.length - 1)+2) (W:=iD (ir W)) l3 ha (by omega) Tg λx hx=>⟨(hb x hx).1,(hb x hx).2.1,(hb x hx).2.2.1⟩;have es:=Hl (neg:=ż) (d:=.tuple [nB ls (wt rs (rs.length - 1)+2)<|iD<|ir W,.none]) (k:=6) (M:=1100000) ((sv (n:=2) (k:=5) (M:=500000) (λd dZ=>by
     simp only[qu,Ļ,or_false]at dZ;rcases dZ with rfl|rfl
     .exact nw
     .exact HY.mono (by decide) (by decide))<|qe _).mono (qe _) (by decide)) (by decide)
    have H:Wv ls.length (wt rs (rs.length - 1)+1) hp (iD<|ir W):=⟨λx hx=>⟨(hb x hx).2.2.1,(hb x hx).2.2.2.1⟩,λx hx=>⟨(hb x hx).1,by have:=(hb x hx).2.1;omega⟩,fj,λx hx=>I.w x (hb x hx).2.2.2.2,I.l,Tg⟩;have(o,ewp,ps,p,rfl,J,tu):=znb (Q:=λo=>∃ps p,o=(.d<|pd p,[.d<|nB ls (wt rs (rs.length - 1)+1+1)<|iD<|ir W])/\WQ ls.length (wt rs (rs.length - 1)+1) hp (iD<|ir W) ps/\ps[wt rs (rs.length - 1)+1]?=ž p) l1 l3 (by omega) (by omega) H λps p J tu=>⟨ps,p,rfl,J,tu⟩;have G:=I.g;rw[Œ,ŕ]at G;have pz:=J.pz _ _ tu;have qz:=B7 l1 l3 hR hG h8 (rs.length - 1) (by omega);have pq:p.Perm (vP ls.length rs<|rs.length - 1):=Y5 pz.pg.nd pz.nz qz.pg.nd qz.nz λg=>by rw[zqi H J G _ _ tu,I.v]
    have eqP:=zAu (w:=Ż) (Mc p) (Mc<|vP ls.length rs<|rs.length - 1) pq qz.pg.nd;have Uh:∀p,pd p=.dict (bR fR p):=λ_=>rfl;have c1:((58:Int) < ((wt rs (rs.length - 1):Nat):Int))=False:=eq_false (by omega);have c2:(((wt rs (rs.length - 1):Nat):Int)<=58)=True:=eq_true (by omega);have wp:=zkp (Q:=λo=>o=(.d<|pd<|vP ls.length rs<|rs.length - 1,[.d<|gW ls rs])) l1 l3 hR hG h1 h8 rfl;have(_,ewh,rfl):=wp;simp![lw,Dc h1,wo,eh,DR,es,Mb,zAx,c1,c2,if_true,if_false,iw,ewp,ewh,Uh,eqP];exact⟨_,_,_,_,_,_,_,_,_,_,rfl⟩
  .rintro _ ⟨o1,o2,o3,o4,o5,o6,o7,o8,o9,uL,rfl⟩
   simp!
theorem zAz(ns:Qa Int)(hl:ns.length<=63):∃outs,vM [.d<|.list<|ns.map .int]=ž (.d<|.bool ż,outs):=⟨_,fH<|zCL ns hl⟩
abbrev Ma(K:qc):Sp:=qK K 1 vM
theorem all_mk{l:a2d}{fa:Qg}(X:K.In h)(G:h.Ns ĝ mg)(hfa:mg "law"=ž (.ref fa)){gz cw cU cx cA eG kE:Qg}{jX j8 kA jT gv kC iZ i6 jd iW fm je:Qc}{jW kD iY jh l0 uK:Qb Qg}{jR iU lT uF:Array (Qb Qc)}{cT iy:Array Qc}{i4 sU:Nat}
  (a0:dD K "widths" Pb)
  (a1:dD K "width" NZ)
  (a2:dD K "leaf_entry" Q6)
  (a3:dD K "opened_ways" Rz)
  (a4:BR K "web_of" Pa 60)
  (a5:dD K "_law_box" QQ)
  (a6:dD K "_law_take" Q5)
  (a7:dD K "_law_names" Rv)
  (a8:dD K "_law_fraction" RL)
  (a9:dD K "_law_plus" Q4)
  (UG:dD K "_law_times" Ru)
  (UE:dD K "_law_poly_add" RK)
  (UD:dD K "_law_poly_mult" R8)
  (UC:dD K "_law_poly_number" RY)
  (UB:dD K "_law_poly_letter" RW)
  (UA:dD K "_law_number" Rh)
  (Uz:dD K "_law_weight" Rg)
  (Uy:dD K "_law_pair" Q3)
  (Ux:dD K "_law_drawn_row" R7)
  (Uw:dD K "_law_reckoning" R6)
  (Uv:dD K "_law_entry_poly" Se)
  (Uu:dD K "_law_web_poly" RJ)
  (Ut:dD K "_law_is_fraction" RV)
  (Us:dD K "_law_is_entry" RI)
  (Ur:dD K "_law_is_whole" RH)
  (Uq:dD K "_law_is_web" Rf)
  (Uo:dD K "_law_whole_poly" Sd)
  (Um:dD K "_law_widths" Rc)
  (Ul:dD K "_law_heard" Rt)
  (Uk:dD K "law" LA)
  (z0:Ĩ K ĝ "enumerate"=ž Ž)
  (z1:Ĩ K ĝ "len"=ž Ž)
  (z2:Ĩ K ĝ "tuple"=ž Ž)
  (z3:Ĩ K ĝ "sorted"=ž Ž)
  (z4:Ĩ K ĝ "int"=ž Ž)
  (z5:Ĩ K ĝ "range"=ž Ž)
  (z6:Ĩ K ĝ "abs"=ž Ž)
  (z7:Ĩ K ĝ "dict"=ž Ž)
  (z8:Ĩ K ĝ "zip"=ž Ž)
  (z9:Ĩ K ĝ "max"=ž Ž)
  (IM:Ĩ K ĝ "isinstance"=ž Ž)
  (IL:Ĩ K ĝ "bool"=ž Ž)
  (IJ:Ĩ K ĝ "min"=ž Ž)
  (IQ:Fj K xH SN=ż)
  (aZ:Ĩ K ĝ "UndivideError"=ž (ž<|.ref gz))
  (aN:Ĩ K ĝ "TooMany"=ž (ž<|.ref cw))
  (eU:ĵ K (.ref cw)=ż)
  (e8:ġ K (.ref cw) "__init__"=ž (ž<|.ref cU))
  (eR:K.lookup cU=ž ⟨jX,jW,.func<|ņ "__init__" "TooMany.__init__" (kP y8) (gN y8) (zI y8) .none j8 kA jT kD gv kC,jR⟩)
  (ff:ϊ K gv "TooMany.__init__"=ż)
  (dF:ĵ K (.ref cU)=ż)
  (dP:ζ K (.ref cU)=ż)
  (aU:Ĩ K ĝ "NotWhole"=ž (ž<|.ref cx))
  (dG:ĵ K (.ref cx)=ż)
  (dH:ġ K (.ref cx) "__init__"=ž (ž<|.ref cA))
  (dE:K.lookup cA=ž ⟨iZ,iY,.func<|ņ "__init__" "NotWhole.__init__" (kP y0) (gN y0) (zI y0) .none i6 jd iW jh fm je,iU⟩)
  (dQ:ϊ K fm "NotWhole.__init__"=ż)
  (cJ:ĵ K (.ref cA)=ż)
  (cL:ζ K (.ref cA)=ż)
  (IT:Fh K Cg "TooMany"=ż)
  (gx:Ĩ K ĝ "NOUGHT"=ž (ž<|.ref eG))
  (gk:K.lookup eG=ž ⟨.type "tuple",l0,.seq cT i4,lT⟩)
  (fZ:zY [.int<|0,.int<|1] cT.toList)
  (fY:cT.size<=Ď)
  (oA:Ĩ K ĝ "ONE"=ž (ž<|.ref kE))
  (nV:K.lookup kE=ž ⟨.type "tuple",uK,.seq iy sU,uF⟩)
  (nM:zY [.int<|1,.int<|1] iy.toList)
  (nL:iy.size<=Ď)
  : ∃fd:ū,(∀(s:Qd) (v:Qc),Ω s fd ⟨[v],[]⟩ [("_law_script",v)])/\∀base:Į,K.In base->base.Ns ĝ mg->bI l.prog w K mg base iM 6 fa fd ["_law_script"] (qK K 1 vM):=by
 have(_,fd,F,g):=Uk;cases hfa.symm.trans (ï X G g);refine⟨fd,λs v=>by have(_,_,_,_,_,_,_,_,_,rfl,_):=F.ex;exact .of_eq rfl,λbase _ _=>?_⟩;have hB:Bl mg ["enumerate", "len", "tuple", "sorted", "int", "range", "abs", "dict", "zip", "max", "isinstance", "bool", "min"]:=Bl.cons (Î X G z0) (Bl.cons (Î X G z1)<|Bl.cons (Î X G z2)<|Bl.cons (Î X G z3)<|Bl.cons (Î X G z4)<|Bl.cons (Î X G z5)<|Bl.cons (Î X G z6)<|Bl.cons (Î X G z7)<|Bl.cons (Î X G z8)<|Bl.cons (Î X G z9)<|Bl.cons (Î X G IM)<|Bl.cons (Î X G IL)<|Bl.cons (Î X G IJ)<|Bl.nil);have hT:=zBP IQ;have fB:=ï X G aZ;have cu:=ï X G aN;have g9:=G3 (st:=y8) eR ff dF;have bC:oB l.prog w K mg base "TooMany" cw "at":=⟨aN,(hT.cl _ _ _ rfl aN).1.cl,(hT.cl _ _ _ rfl aN).2 _ (by decide),cu,eU,⟨_,_,e8,dP,g9.binds (λ_ _ _ _ _ _ us hl=>by have(_,_,rfl):=xM hl;rfl),g9.ok (k:=0) zlQ (λvs H Q E h=>OO h) λaQ A outer s H vs Q E hr m8=>⟨_,Hv<|N6 (pv 0) (pv 1) rfl,ON m8⟩⟩⟩;have dJ:=ï X G aU;have gy:=G3 (st:=y0) dE dQ cJ;have bD:oB l.prog w K mg base "NotWhole" cx "at":=⟨aU,(hT.cl _ _ _ rfl aU).1.cl,(hT.cl _ _ _ rfl aU).2 _ (by decide),dJ,dG,⟨_,_,dH,cL,gy.binds (λ_ _ _ _ _ _ us hl=>by have(_,_,rfl):=xM hl;rfl),gy.ok (k:=0) zka (λvs H Q E h=>OO h) λaQ A outer s H vs Q E hr m8=>⟨_,Hv<|N6 (pv 0) (pv 1) rfl,ON m8⟩⟩⟩;have hM:=zBT IT aN;have gu:=ï X G gx;have e9:pM K eG [0,1]:=⟨_,cT,i4,gk,rfl,rfl,fY,fZ⟩;have ja:=ï X G oA;have gr:pM K kE [1,1]:=⟨_,iy,sU,nV,rfl,rfl,nL,nM⟩
 let Z:Zs:=⟨l.prog,w,K,mg,base⟩
 have B:Bs Z:=⟨hB,hT,⟨_,gu,e9⟩,⟨_,ja,gr⟩,⟨_,aZ,fB⟩,⟨_,aN,cu,hM,bC⟩,⟨_,aU,dJ,bD⟩⟩;have C0:=ZD B (a0.z X G);have C1:=YO B (a1.z X G) C0;have C2:=zkb B (a2.z X G);have C3:=zix B (a3.z X G) C2;have C4:=ZC B (a4.z X G) C0 C3;have C5:=zlR B (a5.z X G);have C6:=zkc B (a6.z X G);have C7:=ziy B (a7.z X G) C6;have C8:=zgn B (a8.z X G);have C9:=zkd B (a9.z X G) C8;have C10:=ziz B (UG.z X G) C8;have Lb:=zgp B (UE.z X G) C9;have La:=zfZ B (UD.z X G) C9 C10;have K9:=zeT B (UC.z X G);have UU:=zeU B (UB.z X G);have UT:=zia B (UA.z X G) C6 C8;have C16:=zh8 B (Uz.z X G);have C17:=zke B (Uy.z X G) Lb La K9 UU;have C18:=zf0 B (Ux.z X G) C6 UT;have C19:=zf4 B (Uw.z X G) C6 UT C16 C17 C18;have C20:=zfn B (Uv.z X G);have C21:=zgr B (Uu.z X G) Lb La K9 C20;have C22:=zeV B (Ut.z X G) C8;have C23:=zgq B (Us.z X G) C22;have US:=zgo B (Ur.z X G);have C25:=zic B (Uq.z X G) C23 US;have C26:=zfo B (Uo.z X G) Lb La K9 UU;have C27:=zh9 B (Um.z X G);have C28:=ziA B (Ul.z X G) C4;exact zAe (Z:=Z) B F C1 C5 C6 C7 C19 C21 US C25 C26 C27 C28
theorem walk{l:a2d}{q:Qe}{loose:Qa Str}{XP:(Str->Qb Qc)->Į->Prop}{YP:Qh->Į->Prop}{d:DefRec}{K:Params->qc}(hn:l.most=ž 63)(A2:d.params.defaults=[])
  (hY:∀(w:Qh) (h:Į),YP w h->(K w.params).In h)
  (F:∀(w:Qh) (mg:Str->Qb Qc) (fa:Qg) (h:Į),(K w.params).In h->h.Ns ĝ mg->mg d.name=ž (.ref fa)->
   ∃fd:ū,(∀(s:Qd) (u:Qc),Ω s fd ⟨[u],[]⟩ [("_law_script",u)])/\∀base:Į,(K w.params).In base->base.Ns ĝ mg->bI l.prog w (K w.params) mg base iM 6 fa fd ["_law_script"] (Ma<|K w.params)):
  a5f q loose XP YP l.row.toRowW d [] (λf vs=>a4z f vs):=
 Internal.qH (n:=63) (k:=6) (x := "_law_script") (CX:=λ_=>iM) (sp:=λw=>Ma<|K w.params) hn (by decide) A2 ⟨rfl,by decide,by decide,rfl⟩ hY F (λw H a ns hl hO hS=>Wn hO hS<|zAz ns hl) λ_ _ _ _ _ z=>z
end K44
namespace PySem.W.Fast
def tw1363236055734617850:=()
def tw8237823149218868120:=()
def tw3173043717190779685:=()
def tw7907193570873780806:=()
def tw7067953555030540491:=()
def tw11676279193417772630:=()
def tw15591615855295580398:=()
def tw8842140554295151500:=()
def tw2511348665572211334:=()
def tw16567663131298282250:=()
def tw5659010321245444615:=()
def tw16963802295005674325:=()
def tw15882045046759201962:=()
def tw1068503796716780516:=()
def tw18090740801061276645:=()
def tw725034913748552065:=()
def tw9595900201203708920:=()
def tw439988162407508958:=()
def tw11891626135977698142:=()
def tw16236815813728567082:=()
def tw11872126961077460916:=()
def tw15791673971317432750:=()
def tw11206843106327192768:=()
def tw1734516090379276541:=()
def tw9140731651984028643:=()
def tw11257650487538295127:=()
def tw127242582395371111:=()
def tw15706678021861802937:=()
def tw16163755630043497329:=()
def tw18258007637081181006:=()
def tw5184523852609657661:=()
def tw709087103343159700:=()
def tw110656907342024789:=()
def tw4870982627327253374:=()
def tw12642982213960157955:=()
def tw4577070984074678528:=()
def tw2178706876404836115:=()
def tw16007112910279383333:=()
def tw12586402598650797895:=()
def tw7037219642428515359:=()
def tw7068826896520672020:=()
def tw3338325436653338935:=()
def tw18221492883219484237:=()
def tw12448196810924208624:=()
def tw17442672462258150944:=()
def tw14221973318438491991:=()
def tw6651368625202238755:=()
def tw5528429176172331261:=()
def tw16058228175757239555:=()
def tw7034560578049028106:=()
def tw7276797054603390745:=()
def tw17027443784419846655:=()
def tw16542129233794848082:=()
def tw8926938678605746395:=()
def tw9262321817942669875:=()
def tw8707282855764325852:=()
def tw17907752392458758544:=()
def tw7044488105379132938:=()
def tw6180151223235583707:=()
def tw5020906439636956448:=()
def tw8653726787880115408:=()
def tw16029368345884488853:=()
def tw16260813168751966121:=()
def tw11240790057317954652:=()
def tw15607013555565586691:=()
def tw10848740513073579368:=()
def tw5495093135636712524:=()
def tw7814159952597477377:=()
def tw7432300120685515230:=()
def tw8248677675416518020:=()
def tw6760888839262430378:=()
def tw9994370926224601324:=()
def tw9836185997091508021:=()
def tw6697039365472990345:=()
def tw7090074577766137075:=()
def tw16761435429368869324:=()
def tw3171195070073544729:=()
def tw3121636118137956454:=()
def tw5664266624747992351:=()
def tw7614181474268568817:=()
def tw11225748312435381610:=()
def tw10588853440250588573:=()
def tw14234339975191089562:=()
def tw9351128738810141690:=()
def tw8788035610842360671:=()
def tw376820050880940702:=()
def tw1450431114937082360:=()
def tw14478469895536015431:=()
def tw11687372337672110058:=()
def tw13110440166877863087:=()
def tw10909829198698751189:=()
def tw17484843709380691793:=()
def tw1609890050577001786:=()
def tw2885737687532415778:=()
def tw7032893996286849536:=()
def tw13732622476637743343:=()
def tw12082157430872225372:=()
def tw967819248253123335:=()
def tw6425394875335210974:=()
def tw1607242655051507412:=()
def tw9399965993808635806:=()
def tw6671198783901527038:=()
def tw13429931681009640720:=()
def tw12813097881376711113:=()
def tw12229230954316074848:=()
def tw12984406904005232557:=()
def tw2993313919612203973:=()
def tw9606687803173507536:=()
def tw15655333991591254275:=()
def tw2831532728426087695:=()
def tw10619240489860103465:=()
def tw15646822186718753660:=()
def tw5258451255022607068:=()
def tw1787111308826258404:=()
def tw7175189682052835029:=()
def tw11117087828197235128:=()
def tw3580122923159931795:=()
def tw1162478805285809426:=()
def tw18154988090194181617:=()
def tw1318736293456927703:=()
def tw16615288928372169484:=()
def tw1402697604010122989:=()
def tw2146868842891698476:=()
def tw5320370130222922487:=()
def tw17440469352350031084:=()
def tw3313826593544693519:=()
def tw4483547276972573246:=()
def tw14795198397415981208:=()
def tw12400382619839173983:=()
def tw11961055489899547942:=()
def tw14514889458171545168:=()
def tw8297524525828512438:=()
def tw16989450136944900931:=()
def tw16393924446778545931:=()
def tw1574616443818842639:=()
def tw8475679653138867019:=()
def tw8978575141140571374:=()
def tw8471125860679494447:=()
def tw11425849550103951271:=()
def tw7029960257231241960:=()
def tw9433082107466652417:=()
def tw125715994111672554:=()
def tw12451172002544511485:=()
def tw7335253153883839619:=()
def tw10800898058817787283:=()
def tw7549097446117830279:=()
def tw2099460762930895532:=()
def tw11139317846474300729:=()
def tw10570796540741040226:=()
def tw14386204197562624670:=()
def tw11565918689271583607:=()
def tw1469832130999316458:=()
def tw5809742158005324592:=()
def tw8742745297709178063:=()
def tw7032564039076450846:=()
def tw1777331255449188656:=()
def tw13329767228772822027:=()
def tw12154317897805759812:=()
def tw6018182634476805513:=()
def tw16684674121050393255:=()
def tw2490726795470189189:=()
def tw2539809397362673124:=()
def tw5262363932870717014:=()
def tw4565591636124120915:=()
def tw12867210550937737760:=()
def tw18207907020453185983:=()
end PySem.W.Fast
open PySem PySem.W PyProof.Rows
set_option maxRecDepth 100000 in
set_option maxHeartbeats 0 in
theorem PySem.Challenge.cw_undivide_k44_whole_webs_of_reckonings_holds : PySem.Challenge.rw_undivide_k44_whole_webs_of_reckonings.Holds := by
 w_on;o_law;k_head;(case hw=>w_witness2)
 k_fill
 refine K44.walk (l:=PySem.Challenge.rw_undivide_k44_whole_webs_of_reckonings) rfl rfl (λw h Y=>PySem.W.kIn_of Y) ?F
 case F=>
  intro w mg fa h KX G AW;refine' K44.all_mk KX G AW ?a0 ?a1 ?a2 ?a3 ?a4 ?a5 ?a6 ?a7 ?a8 ?a9 ?UG ?UE ?UD ?UC ?UB ?UA ?Uz ?Uy ?Ux ?Uw ?Uv ?Uu ?Ut ?Us ?Ur ?Uq ?Uo ?Um ?Ul ?Uk ?z0 ?z1 ?z2 ?z3 ?z4 ?z5 ?z6 ?z7 ?z8 ?z9 ?IM ?IL ?IJ ?IQ ?aZ ?aN ?eU ?e8 ?eR ?ff ?dF ?dP ?aU ?dG ?dH ?dE ?dQ ?cJ ?cL ?IT ?gx ?gk ?fZ ?fY ?oA ?nV ?nM ?nL
  any_goals (refine' Internal.fnK ?_ ?_ ?_ ?_<;>try k_is)
  any_goals (refine' Internal.KD ?_ ?_ ?_ ?_ ?_<;>try k_is)
  (case z0=>k_is)
  (case z1=>k_is)
  (case z2=>k_is)
  (case z3=>k_is)
  (case z4=>k_is)
  (case z5=>k_is)
  (case z6=>k_is)
  (case z7=>k_is)
  (case z8=>k_is)
  (case z9=>k_is)
  (case IM=>k_is)
  (case IL=>k_is)
  (case IJ=>k_is)
  (case IQ=>kernel_rfl)
  (case aZ=>k_is)
  (case aN=>k_is)
  (case eU=>k_is)
  (case e8=>k_is)
  (case eR=>k_is)
  (case ff=>k_is)
  (case dF=>k_is)
  (case dP=>k_is)
  (case aU=>k_is)
  (case dG=>k_is)
  (case dH=>k_is)
  (case dE=>k_is)
  (case dQ=>k_is)
  (case cJ=>k_is)
  (case cL=>k_is)
  (case IT=>kernel_rfl)
  (case gx=>k_is)
  (case gk=>k_is)
  (case fZ=>(repeat (first|exact .nil|refine .cons ⟨_,rfl⟩ ?_)))
  (case fY=>exact by decide)
  (case oA=>k_is)
  (case nV=>k_is)
  (case nM=>(repeat (first|exact .nil|refine .cons ⟨_,rfl⟩ ?_)))
  (case nL=>exact by decide)
