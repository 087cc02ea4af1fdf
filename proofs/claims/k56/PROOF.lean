import PyProof.Rows.All
import Wide.All
import OpenK.AllK
import Wide.FinOn
import Lean
import PyProof.EqAt
import PyProof.EqKinds
import PyProof.TupleCall
import PySem.Challenge.RW_undivide_k56_cheapest_of_built_ones
set_option Elab.async false
set_option linter.all false
set_option maxRecDepth 100000
set_option compiler.extract_closed false
set_option bootstrap.genMatcherCode false
set_option genSizeOf false
local macro_rules | `(tactic| omega)=> `(tactic| lia)
noncomputable section
open Lean in
local macro_rules|`(tactic|have($a,$b,*):=$e)=>do
 let p<-(#[a]++b.getElems).mapM λx=>match x with|`($i:ident)=>`(Parser.Tactic.rcasesPatLo|$i:ident)|_=>`(Parser.Tactic.rcasesPatLo|_)
 `(tactic|obtain⟨$p,*⟩:=$e)
open Option renaming some→ž,none→Ž
open Bool renaming true→ż,false→Ż
open And renaming intro→a3C
open Array renaming length_toList→ś,getElem?_eq_none→a0T,forIn_toList→a1J,toList→a3u,all_toList→a5e
open Bool renaming false_eq_true→Ŋ,and_eq_true→Ŕ,not_true→ώ,not_false→ϧ,eq_iff_iff→ο,false_or→a0E,and_eq_true_iff→a1q,or_eq_false_iff→a4k
open False renaming elim→ŷ
open ForInStep renaming yield→a0D
open Int renaming toNat_natCast→Ŀ,gcd→œ,natAbs_natCast→Ŭ,natAbs_mul→ϩ,le_of_lt→Ξ,fdiv_eq_ediv_of_nonneg→a0t,mul_neg→a0C,natCast_nonneg→a1S,le_refl→a2F,natCast_mul→a2Q,gcd_pos_of_ne_zero_right→a2R,mul_nonneg→a3g,eq_ofNat_of_zero_le→a3z,zero_add→a3X,gcd_comm→a3Y,gcd_zero_right→a5c
open Int.ofNat renaming inj→a1h
open List renaming length_map→Ħ,replicate→Ĩ,map_cons→Ī,size_toArray→ī,getElem?_map→ĭ,getElem?_append_right→ı,getElem?_append_left→ĳ,map_append→ĵ,lookup_cons→Ķ,find?_cons→ķ,append_assoc→ĸ,length_replicate→Ĺ,not_mem_nil→ľ,length_set→ŀ,map_map→Ł,range→Ń,append_nil→ń,getElem?_set_self→ŉ,filter_cons→Ō,take_of_length_le→ő,replicate_succ→ŕ,getElem?_replicate→ŗ,length_singleton→Ŝ,length_nil→š,filter_append→ţ,lookup→Ũ,any_cons→ŭ,flatten_cons→ű,map_nil→ŵ,take_succ_eq_append_getElem→ό,take_length→ϑ,lookup_append→ϔ,nodup_cons→ϙ,all_cons→Ϝ,length→ϥ,getLast?_eq_getElem?→ϫ,drop_eq_getElem_cons→Ϭ,nil_append→ϵ,length_zip→Ϸ,getElem?_cons_zero→Ε,take_succ→Η,foldl_append→Θ,sum_cons→ε,foldl_cons→ν,getD_cons_zero→ω,getD_cons_succ→a0a,mapM_cons→a0g,getElem?_drop→a0h,foldl→a0i,length_take→a0L,length_drop→a0M,drop_length→a0N,all_eq_true→a0O,range_succ→a1f,forIn_nil→a1m,getElem_of_mem→a1B,getElem?_range→a1C,filterMap_cons→a1D,zip_cons_cons→a1M,toArray→a1V,filter→a2w,sum_append→a2B,of_mem_zip→a2C,forIn_cons→a2D,dropLast_concat_getLast→a2E,nodup_nil→a2X,mem_of_find?_eq_some→a3e,getElem?_cons_succ→a3t,drop_of_length_le→a3y,set_getElem_self→a3V,getElem?_eq_none→a3W,mem_of_mem_take→a4f,map_id→a4g,length_take_le'→a4h,getElem?_of_mem→a4i,map_congr_left→a4B,map_singleton→a4K,take_sublist→a4X,nodup_append→a4Y,length_range→a4Z,ext_getElem?→a5a,map_zipWith→a5m,getElem_inj→a5n,countP_cons→a5o,cons_append→a5p,mem_append→a5x,find?_some→a5y,filter_map→a5z
open List.Pairwise renaming nil→a1g
open Nat renaming zero_add→Ţ,add_zero→Ν,add_mul→a0B,sub_self→a1d,ne_of_gt→a1e,one_mul→a1v,add_assoc→a1L,le_of_lt→a2d,le_add_right→a2v,two_pow_pos→a2P,add_sub_cancel_left→a3x,succ_mul→a3Q,mul_comm→a3R,le_trans→a3S,le_mul_of_pos_left→a3T,add_comm→a3U,pow_add→a4y,mul_pos→a4z,log2_lt→a4A,eq_zero_or_pos→a4V,add_sub_cancel→a4W,lt_of_succ_lt→a5l
open Nat.succ renaming inj→a1A
open Ne renaming symm→ň
open Option renaming bind→ō,isSome_some→ϓ,map_some→ϲ,isSome_none→a0c,isSome_map→a0s,map_none→a0S
open Option.some renaming injEq→a3n
open Or renaming inr→a4e
open PyProof renaming noPylong_of_log2→a0q
open PyProof.Rows renaming IntsAre→Ι,seqObj→a0l,kindOf→a0n,boot_int→a0w,boot_abs→a0x,Keyed→a0y,AllBare→a0W,envOfC→a0X,slot_tuple_getitem→a1k,IsTup→a1R,boot_bool→a2k,assignInOrder_cons→a2s,boot_all→a2t,SortSt→a3L,subscriptTail→a4n,listUpdate_at→a4p,subscriptTail_builtinR→a4P
open PyProof.Rows.F renaming plain_set_update_loop→Ϙ,entry_set_update_loop→a0A
open PyProof.Rows.IntsAre renaming length→a5b
open PySem renaming sizeLine→ħ,wpAny→ĩ,model→Ĭ,mainGlobals→İ,Expr→ĺ,Heap→Ļ,wpAny_mono→ļ,cellsFrom→Ľ,compareOp→Ň,wpAny_call_entry→Ŏ,starEach→ŏ,wpAny_holding→Ő,sysModules→Œ,wpAny_truthy_bool→Ř,wpAny_bind→ř,Stmt→Ś,wpAny_field→Ş,sizeLine_eq→ş,foldedSetIterable→Š,eval→Ť,wpAny_dictEntries→ũ,DictEntry→Ů,behindInMarks→ů,attributeBase→Ű,codeAny→Ŵ,cLine→Ŷ,bootBuiltins→Ÿ,wpAny_standAt→Ź,wpAny_pyIter_tuple→ſ,binaryOp→ϊ,FuncData→ϋ,letOwnedTupleGo→Ϗ,wpAny_isInstance→ϖ,wpAny_callSpecial?_slot→ϗ,wpAny_rule→ϝ,holding→Ϟ,assignEach→ϟ,wpAny_specialOf→ϡ,wpAny_passesOwn→Ϣ,wpAny_seqItems→ϭ,wpAny_pure→Ϯ,setField→ϯ,rawInt→ϰ,pyNext→ϱ,Result→Ϻ,PyData→Β,tupleKind_room_in1→Κ,Paired→Μ,swapsWith→Ο,wpAny_setField→Φ,standAt→Χ,codeAny_mono→Ψ,backTo→Ω,NameKind→δ,wpAny_notOrdered_dict→ι,atKey→μ,wpAny_typeNameOfWhole_itemiter→π,wpAny_forIn_list→ς,tupleKind→τ,call_meets→υ,assign→χ,wpAny_typeNameOfWhole_keyiter→a0d,sliceBounds→a0e,wpAny_dictEpoch→a0k,pyIter→a0m,codeAny_builtin→a0o,Value→a0v,wpAny_Call_Name_kw→a0F,getItem→a0U,atKey_none_of_get→a0V,Shared→a1a,wpAny_Call_method0_late→a1i,wpAny_typeOf→a1r,wpAny_isOneOf_itemiter→a1s,evalArgs_none→a1u,Keyword→a1w,wpAny_updateSeq→a1x,wpAny_execs_nil→a1y,Scope→a1z,keywordEach→a1O,call→a1P,GenState→a1T,swapsWithSole→a2g,swappedStores→a2h,plainId_quiet→a2i,Comprehension→a2n,wpAny_tupleItemsOf→a2p,typeIs_int→a2q,entryOfKey→a2r,PlainAttrs→a2u,IsPair→a2x,wpAny_pyIter_slot→a2I,wpAny_pyIter_list→a2J,valueAt→a2K,setItem→a2L,concat_meets→a2M,callerA→a2N,CmpOp→a2T,scanBound→a2Z,noFill_tuple_add→a3a,isTrue→a3b,IsPart→a3f,wpAny_letGo→a3h,subscripted→a3i,seqIndex_of→a3j,IsRangeIter→a3o,wpAny_ite_split→a3p,wpAny_ite_false→a3q,theTreesLotGoes→a3r,Within→a3s,BindsTo→a3B,reduceHash→a3D,newFunctionEnv→a3E,isSubtype_stop→a3F,dictSetDefault→a3G,compTurn→a3H,bindArgs→a3I,backToKw→a3J,wpAny_binaryOp_repeat_ref→a3Z,wpAny_comprehension_free→a4l,wpAny_attempt→a4m,seq_tuple_add→a4o,assignInOrder→a4q,call→a4v,updateSeq→a4E,noteFrame→a4F,lastMarks→a4G,list_append→a4I,PassesOwn→a4J,wpAny_pyNext_range_end→a4L,wpAny_pyIter_rangeiter→a4M,wpAny_Call_method_late→a4N,wpAny_Assign_Subscript→a4O,seqIndex_neg→a4Q,codeAny_loop→a4R,seqSlot_of→a4U,wpAny_isTrue_Compare1→a5f,wpAny_isOneOf_keyiter→a5g,isSubtype_tuple_tuple→a5h,wpAny_updateSeq_pair→a5v
open PySem.Around renaming under_plainId→Υ,under→a1N
open PySem.AutoSeq1 renaming wpAny_loadPart'→Ŗ
open PySem.Builtin.Dict renaming showsAll→Ϲ,entriesForEmpty→a1E,updateFrom→a2f,quietEq→a2H
open PySem.Builtin.Dict_items renaming ownedTupleIsFree→ϕ,pairFromOwner→Ϡ,ownsTuple→ϳ,newIterator→a5s,isOneOf→a5t,dictOf→a5u
open PySem.Builtin.Frozenset renaming updateFrom→a5B
open PySem.Builtin.List renaming listExtendWith→Ρ,listTooLong→ξ,listLengthHint→a1I,listSameRef→a1W,listItems→a2o
open PySem.Builtin.Range renaming rangeSize→Ϧ,small→a2G
open PySem.Builtin.Slice renaming slicePlaces→Ϛ,sliceAdjust→ζ,sliceApplied→a1H
open PySem.Builtin.SmallTypes renaming nextOf→ϒ,ownedTupleHandOut→a0j,ownedTupleIsFree→a0u
open PySem.Builtin.Tuple renaming tupleHashOf→ŋ,tupleItemsOf→a1G
open PySem.Calls renaming spliced_nil→a1U,Name_function_global→a2U
open PySem.Code renaming isFrame→a3A
open PySem.Data renaming cell→a0P,fields→a1p,seq→a4j
open PySem.F renaming plain_extend_loop→ϸ,args_tuple_add_2→a0p,entry_tuple_add→a0z,slot_tuple_add→a0I,plainAttrs_str→a0J,slot_dict_get→a0R,slot_int_rmul→a1o,slot_dict_setdefault→a2b,args_tuple_mul_2→a2e,slot_dict_items→a2y,entry_tuple_mul→a2z,slot_tuple_mul→a2S,plainAttrs_dict→a2V,args_dict_get_3→a2W,slot_dict_itemiterator_iter→a2Y,entry_dict_get→a3d,slot_tuple_eq→a3m,slot_dict_items_iter→a4D,args_list_append_2→a5d,entry_list_append→a5q,entry_extend_loop→a5r,slot_list_append→a5A
open PySem.Heap renaming size_push→ŝ,SameBut→ύ,ExtBut→a1n,size_update→a2m,get?_update_ne→a4C
open PySem.Heap.SameBut renaming update→a5j
open PySem.IsL renaming update→a3P
open PySem.NameKind renaming cell→Ų,free→Ϫ
open PySem.Obj renaming mapSeq→ņ,data_mapFields→Δ,isFreed_of_fields→a1l,data_mapDictKeys→a4x,cls_mapFields→a5k
open PySem.Paired renaming length→ų,snoc→a2c
open PySem.PyData renaming int→į,tuple→Ĵ,hasDict→ϐ,hasDictAll→ϛ,bool→ϴ,shownAll→η,eqv→a0b,canLayAll0→a0r,str→a0K,depth→a1K,depthAll→a2l,canLay0→a2A,list→a3w,showableAll→a4d
open PySem.SeqAt renaming shaped→Ϩ,in_tupleAt→a4S
open PySem.SeqAt.EqAt renaming str_int→a3k,int_str→a3l,same→a3M
open PySem.Shared renaming TypeIs→Τ
open PySem.Str renaming ofString→θ,ofString→a0Z,ofString_eq_toList→a1Q,empty→a3v
open PySem.Txt renaming islower→a4s,isascii→a4t,isalpha→a4u
open PySem.Value renaming ref→Į,none→ł,type→ϣ,int→a0G,bool→a0Q,str→a1X,isInt→a2j,float→a3K
open PySem.Value.type renaming inj→a4a
open PySem.W renaming nsIn→Ĳ,findIn→Ņ,keepIn→ť,emptyDict→Ŧ,fnOf→Ū,instObj→ź,plainGet→Ϥ,hasDictIn→ϻ,codeIn→Α,plainOver→a0f,isFn→a0H,lookIn→a1b,kitOne→a1c,plainGet_of→a1j,methodObj→a1F,takerIn→a1Y,makesIn→a1Z,OpenLaw→a2a,cellsFrom_some→a3c,kitx_tuple→a3N,callWith_K→a3O,kitx_list→a4b,kitx_dict→a4c,handedIn→a4w,WalkO→a5i
open PySem.WalksT renaming enumerateD→a4r
open Rat renaming divInt→ū,one_mul→Ζ,intCast_mul→ψ,neg_mul→a1t,intCast_add→a2O,intCast_natCast→a4H,num_divInt_den→a4T,divInt_ofNat→a5w
open Std.Legacy.Range renaming size→a5C,forIn_eq_forIn_range'→a5D
open Sum renaming inl→Λ,inr→a0Y
open True renaming intro→ŧ
abbrev a5E.{u}:=@if_pos.{u}
abbrev a5F.{u}:=@if_neg.{u}
abbrev a5G:=@decide_eq_true
abbrev a5H:=@decide_eq_false
abbrev a5I:=@of_decide_eq_true
abbrev a5J.{u}:=@beq_self_eq_true.{u}
namespace Internal
open PySem PySem.Spec PyProof.Rows
abbrev À.{u,v}:=@List.mem_map.{u,v}
abbrev Á.{u}:=@List.mem_append.{u}
abbrev Â:=@PySem.boot_len
abbrev Ã:=@PyProof.Rows.boot_tuple
abbrev Ä.{u}:=@List.mem_of_getElem?.{u}
abbrev Å:=@PyProof.Rows.boot_isinstance
abbrev Æ:=@PySem.W.mg_none_of
abbrev Ç:=@Nat.zero_le
abbrev È:=@Nat.pow_le_pow_right
abbrev É:=@PySem.F.slot_list_append
abbrev Ê:=@PySem.F.type_list_append
abbrev Ë:=@PySem.F.plainAttrs_list
abbrev Ì.{u,v}:=@List.map_congr_left.{u,v}
abbrev Í.{u}:=@List.mem_append_left.{u}
abbrev Î:=@PySem.Heap.get?_update_other
abbrev Ï:=@a5j
abbrev Ð:=@PySem.Heap.get?_update_self
abbrev Ñ.{u}:=@List.length_filter_le.{u}
abbrev Ò:=@Nat.lt_irrefl
abbrev Ó:=@PySem.W.kia_one
abbrev Ô:=@Nat.lt_of_le_of_lt
abbrev Õ:=@PySem.W.mg_of
abbrev Ö:=@Nat.mul_le_mul
abbrev Ø:=@List.mem_range
abbrev Ù:=@PySem.Calls.callWith_builtin
abbrev Ú:=@Nat.lt_succ_of_lt
abbrev Û.{u}:=@List.pairwise_cons.{u}
abbrev Ü:=@PySem.F.called_set
abbrev Ý:=@Nat.mul_le_mul_right
abbrev Þ:=@PyProof.Rows.callWith_type1
abbrev ß.{u,v}:=@List.of_mem_zip.{u,v}
abbrev à:=@Nat.lt_succ_self
abbrev á.{u}:=@List.any_eq_true.{u}
abbrev â.{u}:=@List.mem_filter.{u}
abbrev ã:=@PySem.F.slot_dict_itemiterator_next
abbrev ä.{u}:=@List.length_eq_zero_iff.{u}
abbrev å.{u}:=@List.getElem?_set_self.{u}
abbrev æ:=@Int.emod_nonneg
abbrev ç:=@a1q
abbrev è.{u}:=@List.pairwise_iff_getElem.{u}
abbrev é:=@Nat.le_succ
abbrev ê:=@Int.mul_ediv_cancel_left
abbrev ë:=@PySem.mem_of_lookup
abbrev ì:=@PySem.F.slot_tuple_hash
abbrev í:=@PySem.Calls.spliced_cons
abbrev î:=@Int.emod_lt_of_pos
abbrev ï:=@PySem.SeqAt.canLay_of_shaped
abbrev ð.{u}:=@List.eq_nil_of_length_eq_zero.{u}
abbrev ñ:=@Nat.le_of_eq
abbrev ò:=@PySem.F.slot_dict_keyiterator_next
abbrev ó:=@Int.dvd_gcd_mul_iff_dvd_mul
abbrev ô:=@PySem.Calls.evalArgs_plain
abbrev õ.{u}:=@List.getElem_mem.{u}
abbrev ö:=@Int.eq_of_mul_eq_mul_right
abbrev ø.{u}:=@List.nodup_cons.{u}
abbrev ù.{u}:=@List.length_set.{u}
abbrev ú:=@Nat.lt_trans
abbrev û:=@PySem.Heap.size_push
abbrev Qa.{u}:=@List.{u}
abbrev Qb.{u}:=@Option.{u}
abbrev Qc:=a0v
abbrev Qd:=a1a
abbrev Qe:=Program
abbrev Qf:=Around
abbrev Qg:=Addr
abbrev Qh:=World
abbrev qa:=@ř
abbrev qb:=@Ϯ
abbrev qc:=PySem.W.Frag
abbrev qd:=@Heap.get?_push_of_some
abbrev qf:=@Nat.le_refl
abbrev qg:=@Bool.false_ne_true
abbrev qh:=@Heap.get?_push_size
abbrev qi:=@Heap.lt_size
abbrev qj:=@Nat.lt_of_lt_of_le
abbrev qk:=@Nat.ne_of_lt
abbrev qm.{u}:=@List.getElem?_eq_some_iff.{u}
abbrev qo.{u}:=@List.getElem?_eq_getElem.{u}
abbrev qp.{u}:=@List.mem_cons_of_mem.{u}
abbrev qq.{u}:=@List.mem_cons_self.{u}
abbrev qr.{u}:=@List.mem_singleton.{u}
abbrev qt.{u,v}:=@Option.map_eq_some_iff.{u,v}
abbrev qu.{u}:=@List.length_append.{u}
abbrev qv.{u}:=@List.length_cons.{u}
abbrev qw.{u}:=@List.mem_cons.{u}
abbrev qx.{u}:=@List.mem_append_right.{u}
abbrev qy.{u}:=@Option.some.inj.{u}
abbrev qA:=@a3S
abbrev qB:=@wpAny_newObj_type
abbrev qC.{u}:=@List.getD_eq_getElem?_getD.{u}
abbrev qD.{u}:=@List.getElem?_set_ne.{u}
abbrev Key:=Sum Int Str
theorem Ă(h:True:=by decide):True:=h
abbrev ă:=Ă._auto_1
theorem Ą(h:True:=by intro _;rfl):True:=h
abbrev ą:=Ą._auto_1
theorem Ć(h:True:=by rfl):True:=h
abbrev ć:=Ć._auto_1
theorem Ď(h:True:=by exact rfl):True:=h
abbrev ď:=Ď._auto_1
noncomputable def tJ:Key->Qc->Bool
 |.inl k,v=>a2j k v
 |.inr x,v=>Value.isStrOf x v
noncomputable def UR(w:Qh):Key->Int
 |.inl k=>hashInt k
 |.inr x=>hashStr w x
theorem mD:∀{k:Key} {v:Qc},tJ k v=ż->(∃i t,k=Λ i/\v=a0G i t)\/(∃x t,k=a0Y x/\v=a1X x t)
 |.inl i,v,h=>by
  have(t,e):=Value.isInt_shape (k:=i) (v:=v) h;exact .inl ⟨i,t,rfl,e⟩
 |.inr x,v,h=>by
  have(t,e):=Value.isStrOf_shape (x:=x) (v:=v) h;exact .inr ⟨x,t,rfl,e⟩
theorem RI(i:Int)(t:Tok):tJ (.inl i) (.int i t)=ż:=by simp[tJ,a2j]
theorem RH(x:Str)(t:Tok):tJ (.inr x) (.str x t)=ż:=by simp[tJ,Value.isStrOf]
theorem XC(a b:Int):decide ((Λ a:Key)=Λ b)=(a==b):=by
 by_cases e:a=b
 .subst e;simp
 .have h:¬(Λ a:Key)=Λ b:=λq=>e<|Sum.inl.inj q
  rw[a5H h];exact(beq_eq_false_iff_ne.mpr e).symm
theorem XB(a b:Str):decide ((a0Y a:Key)=a0Y b)=decide (a=b):=by
 by_cases e:a=b
 .subst e;simp
 .have h:¬(a0Y a:Key)=a0Y b:=λq=>e<|Sum.inr.inj q
  rw[a5H h,a5H e]
theorem XA(a:Int)(b:Str):decide ((Λ a:Key)=a0Y b)=Ż:=a5H (λq=>nomatch q)
theorem Xz(a:Str)(b:Int):decide ((a0Y a:Key)=Λ b)=Ż:=a5H (λq=>nomatch q)
def zH(prog:Qe)(w:Qh):PySem.KeyKind prog w Key where
 is:=tJ
 hash:=UR w
 inj:=λv a b ha hb=>by
  rcases mD ha with⟨i,t,rfl,rfl⟩|⟨x,t,rfl,rfl⟩
  .rcases mD hb with⟨j,u,rfl,e⟩|⟨y,u,rfl,e⟩
   .injection e with e1 _;rw[e1]
   .exact nomatch e
  .rcases mD hb with⟨j,u,rfl,e⟩|⟨y,u,rfl,e⟩
   .exact nomatch e
   .injection e with e1 _;rw[e1]
 byValue:=λk v h=>by
  rcases mD h with⟨i,t,rfl,rfl⟩|⟨x,t,rfl,rfl⟩<;>rfl
 pyHash:=λhv h=>by
  rcases mD hv with⟨i,t,rfl,rfl⟩|⟨x,t,rfl,rfl⟩
  .exact wpAny_pyHash_int h
  .exact wpAny_pyHash_str h
 eqBool:=λhu hv h=>by
  rcases mD hu with⟨i,t,rfl,rfl⟩|⟨x,t,rfl,rfl⟩
  .rcases mD hv with⟨j,u,rfl,rfl⟩|⟨y,u,rfl,rfl⟩
   .rw[XC]at h;exact wpAny_eqBool_int h
   .rw[XA]at h;exact a3l i t y u _ _ _ _ h
  .rcases mD hv with⟨j,u,rfl,rfl⟩|⟨y,u,rfl,rfl⟩
   .rw[Xz]at h;exact a3k x t j u _ _ _ _ h
   .rw[XB]at h;exact wpAny_eqBool_str h
 «strs»:=λk x t v h=>by
  rcases mD h with⟨i,u,rfl,e⟩|⟨y,u,rfl,e⟩
  .exact nomatch e
  .injection e with e1 _
   subst e1;cases v<;>rfl
theorem zlk(prog:Qe)(w:Qh)(i:Int)(t:Tok):(zH prog w).is (.inl i) (.int i t)=ż:=RI i t
theorem zll(prog:Qe)(w:Qh)(x:Str)(t:Tok):(zH prog w).is (.inr x) (.str x t)=ż:=RH x t
inductive V where
 |aM|bl (b:Bool) |int (i:Int) |str (x:Str) |yF (b:Array UInt8) |wy (b:UInt64) |ref (a:Qg) |ty (n:String)
 deriving DecidableEq
def zE:V->Qc->Prop
 |.aM,u=>u=ł
 |.bl b,u=>u=a0Q b
 |.int i,u=>∃t,u=a0G i t
 |.str x,u=>∃t,u=a1X x t
 |.yF b,u=>∃t,u=Value.bytes b t
 |.wy b,u=>∃t,u=a3K b t
 |.ref a,u=>u=Į a
 |.ty n,u=>u=ϣ n
abbrev zJ:Qa V->Qa Qc->Prop:=Μ zE
theorem zJ.length{xs:Qa V}{us:Qa Qc}(r:zJ xs us):xs.length=us.length:=ų r
theorem zJ.get:∀{xs:Qa V} {us:Qa Qc} {i:Nat} {x:V},zJ xs us->xs[i]?=ž x->∃u,us[i]?=ž u/\zE x u
 |_,_,_,_,.nil,e=>by simp at e
 |_,_,0,_,.cons r _,e=>by simp at e;subst e;exact⟨_,rfl,r⟩
 |_,_,i+1,x,.cons _ t,e=>by
  have(u,h1,h2):=zJ.get (i:=i) (x:=x) t (by simpa using e);exact⟨u,by simpa using h1,h2⟩
theorem zJ.set{x:V}{u:Qc}(r:zE x u):∀{xs:Qa V} {us:Qa Qc} (i:Nat),zJ xs us->zJ (xs.set i x) (us.set i u)
 |_,_,_,.nil=>.nil
 |_,_,0,.cons _ t=>.cons r t
 |_,_,i+1,.cons q t=>.cons q<|zJ.set r i t
theorem zJ.append{xs ys:Qa V}{us ws:Qa Qc}(h:zJ xs us)(s:zJ ys ws):zJ (xs++ys) (us++ws):=by
 induction h with
 |nil=>exact s
 |cons r _ ih=>exact .cons r ih
theorem zJ.take:∀{xs:Qa V} {us:Qa Qc} (n:Nat),zJ xs us->zJ (xs.take n) (us.take n)
 |_,_,0,_=>.nil
 |_,_,_+1,.nil=>.nil
 |_,_,n+1,.cons r t=>.cons r<|zJ.take n t
theorem zJ.drop:∀{xs:Qa V} {us:Qa Qc} (n:Nat),zJ xs us->zJ (xs.drop n) (us.drop n)
 |_,_,0,r=>r
 |_,_,_+1,.nil=>.nil
 |_,_,n+1,.cons _ t=>zJ.drop n t
def ix:Qb V->Qb Qc->Prop
 |some v,ž u=>zE v u
 |none,Ž=>True
 |_,_=>False
def KV{κ:Type}:Qa (κ×V)->Qa (κ×Qc)->Prop:=Μ λ(p:κ×V) (q:κ×Qc)=>p.1=q.1/\zE p.2 q.2
def kV:Key->V
 |.inl i=>.int i
 |.inr x=>.str x
structure IK (prog:Qe) (w:Qh) (J:Type) [DecidableEq J] where
 is:Ļ->J->Qc->Prop
 hash:J->Int
 draws:J->Nat
 jG:Nat
 inj:∀{h:Ļ} {v:Qc} {x y:J},is h x v->is h y v->x=y
 keeps:∀{h h':Ļ} {k:J} {v:Qc} {d:Qg} {o:Obj} {es ep},is h k v->h.get? d=ž o->o.data=.dict es ep->ύ d h h'->is h' k v
 pyHash:∀{A:Qf} {E:Qc->Qd->Prop} {s:Qd} {k:J} {v:Qc} {Q:Int->Qd->Prop},A.units+jG < Ŷ->is s.heap k v->Q (hash k) {s with toks:=s.toks+draws k}->
  ĩ (Ĭ prog w) A (PySem.pyHash v) Q E s
 eqBool:∀{A:Qf} {E:Qc->Qd->Prop} {s:Qd} {x y:J} {u v:Qc} {Q:Bool->Qd->Prop},A.units+jG < Ŷ->is s.heap x u->is s.heap y v->Q (decide<|x=y) s->
  ĩ (Ĭ prog w) A (PySem.eqBool u v) Q E s
 quiet:∀{A:Qf} {E:Qc->Qd->Prop} {s:Qd} {k:J} {v:Qc} {Q:Bool->Qd->Prop} (n:Nat),jG<=n->is s.heap k v->Q ż s->ĩ (Ĭ prog w) A (eqIsQuiet n v) Q E s
section
variable{prog:Qe}{w:Qh}{J:Type}[DecidableEq J](I:IK prog w J)
inductive aP (h:Ļ):Qa J->Qa Qc->Prop
 |nil:aP h [] []
 |cons {k:J} {v:Qc} {ks:Qa J} {vs:Qa Qc}:I.is h k v->aP h ks vs->aP h (k::ks) (v::vs)
def gZ(h:Ļ)(ks:Qa J)(a:Qg):Prop:=∃o items n,h.get? a=ž o/\o.cls=.type "tuple"/\o.data=.seq items n/\aP I h ks items.toList
noncomputable def DZ(ks:Qa J):Int:=a3D (ŋ<|ks.map I.hash)
noncomputable def El(ks:Qa J):Nat:=(ks.map I.draws).sum+1
variable{I}
theorem aP.inj{h:Ļ}{x y:Qa J}{vs:Qa Qc}(hx:aP I h x vs)(hy:aP I h y vs):x=y:=by
 induction hx generalizing y with
 |nil=>cases hy;rfl
 |cons h1 _ ih=>
  cases hy with
  |cons h2 t2=>rw[I.inj h1 h2,ih t2]
theorem aP.keeps{h h':Ļ}{x:Qa J}{vs:Qa Qc}{d:Qg}{o:Obj}{es ep}(hx:aP I h x vs)(ho:h.get? d=ž o)(hd:o.data=.dict es ep)(hs:ύ d h h'):aP I h' x vs:=by
 induction hx with
 |nil=>exact .nil
 |cons h1 _ ih=>exact .cons (I.keeps h1 ho hd hs) ih
theorem gZ.typeIs{s:Qd}{ks:Qa J}{a:Qg}(x:gZ I s.heap ks a):s.TypeIs (.ref a) "tuple":=let ⟨o,_,_,ho,hc,_⟩:=x;⟨o,ho,hc⟩
theorem gZ.tup{h:Ļ}{ks:Qa J}{a:Qg}(x:gZ I h ks a):∃items,h.IsTuple a items:=let ⟨o,ah,n,ho,hc,hd,_⟩:=x;⟨ah,o,ho,hc,n,hd⟩
theorem gZ.inj{h:Ļ}{a:Qg}{x y:Qa J}(hx:gZ I h x a)(hy:gZ I h y a):x=y:=by
 have(o,items,n,ho,_,hd,hi):=hx;have(o',LN,n',eR,_,qS,fK):=hy;obtain rfl:o=o':=qy (ho.symm.trans eR);rw[hd]at qS;injection qS with h1 _;subst h1;exact hi.inj fK
theorem gZ.keeps{h h':Ļ}{ks:Qa J}{a d:Qg}{o:Obj}{es ep}(x:gZ I h ks a)(ho:h.get? d=ž o)(hd:o.data=.dict es ep)(hs:ύ d h h'):gZ I h' ks a:=by
 have(o',items,n,eR,hc,qS,hi):=x;have uw:a≠d:=by
  rintro rfl;obtain rfl:o'=o:=qy (eR.symm.trans ho);rw[hd]at qS;exact nomatch qS
 exact⟨o',items,n,(hs.2 a uw).trans eR,hc,qS,hi.keeps ho hd hs⟩
variable{A:Qf}{E:Qc->Qd->Prop}{s:Qd}
theorem P1{ks:Qa J}{a:Qg}{Q:Int->Qd->Prop}(hu:A.units+(I.jG+1) < Ŷ)(hk:gZ I s.heap ks a)(h:Q (DZ I ks) {s with toks:=s.toks+El I ks}):
  ĩ (Ĭ prog w) A (pyHash<|.ref a) Q E s:=by
 have hT:=hk.typeIs;have(o,items,n,ho,_,hd,hi):=hk;unfold pyHash
 first|unfold pyHashByItsType|skip
 first|refine qa (wpAny_cRoomFor_or (.inr (by omega)) ?_) |skip
 refine qa<|ϡ hT ì.lookup ?_;show ĩ _ _ (if(ž (Value.builtin "tuple.__hash__")==ž ł)=ż then _ else _) Q E s;rw[a5F (by rw[beq_builtin_none];exact qg)];refine qa<|ϡ hT ì.lookup ?_;show ĩ _ _ (callSpecialIfBoundUnlessNone? (.ref a) "__hash__" _ >>= _) Q E s;refine qa<|wpAny_callSpecialIfBoundUnlessNone?_slot hT ì<|Ŏ ì hT PySem.F.entry_tuple_hash ?_<|PySem.F.args_tuple_hash_1 _;show ĩ _ _ (a1G (.ref a) >>= _) _ _ s;refine qa<|a2p ho hd ?_;refine qa ?_;rw[<-a1J];refine ς _
  (λrest (b:Array Int) s'=>∃done left,ks=done++left/\aP I s.heap left rest/\b.toList=done.map I.hash/\s'={s with toks:=s.toks+(done.map I.draws).sum})
  _ ?_ ?_ _ _ ⟨[],ks,rfl,hi,rfl,rfl⟩
 .rintro x rest b s' ⟨done,left,rfl,hl,hb,rfl⟩
  cases hl with
  | @cons k _ oW _ h1 wg=>
   refine qa (I.pyHash (s:={s with toks:=s.toks+(done.map I.draws).sum}) (by show A.units+1+I.jG < _;omega) h1 ?_)
   first
    |exact qb ⟨done++[k],oW,by simp,wg,by simp[hb],by simp[a1L]⟩
    |exact qa<|qb<|qb ⟨done++[k],oW,by simp,wg,by simp[hb],by simp[a1L]⟩
 .rintro b s' ⟨done,left,rfl,hl,hb,rfl⟩
  cases hl;rw[ń]at h;show ĩ _ _ (retInt<|ŋ b.toList) _ _ _;rw[hb];refine wpAny_ret_mkInt ?_;show ĩ _ _ (if(decide (-(2:Int)^63<=ŋ (done.map I.hash)) && decide (ŋ (done.map I.hash) < 2^63))=ż then _ else _) Q E _;unfold DZ a3D at h;unfold El at h
  by_cases hr:(decide (-(2:Int)^63<=ŋ (done.map I.hash)) && decide (ŋ (done.map I.hash) < 2^63))=ż
  .rw[a5E hr]
   rw[a5E hr]at h;exact qb (by simpa [a1L] using h)
  .rw[a5F hr]
   rw[a5F hr]at h;exact qa<|ϝ<|qb (by simpa [a1L] using h)
theorem zm7{x y:Qa J}{a b:Qg}{P:Fin->Qd->Prop}(hu:A.units+I.jG < Ŷ)(hx:gZ I s.heap x a)(hy:gZ I s.heap y b)(h:P (.done<|.ret<|.bool<|decide<|x=y) s):
  ĩ (Ĭ prog w) A (Builtin.«tuple.__eq__» ⟨[.ref a,.ref b],[]⟩) P E s:=by
 have hTb:=hy.typeIs;have(oa,xs,na,hoa,_,hda,hia):=hx;have(ob,ys,nb,hob,_,gJ,hib):=hy;show ĩ _ _ (isInstance (.ref b) (.type "tuple") >>= _) _ _ s;refine qa<|ϖ hTb a5h ?_;simp only[ώ,Ŋ,if_false];refine qa<|a2p hoa hda ?_;refine qa<|a2p hob gJ ?_;refine qa ?_;refine ς _
  (λrest r s'=>r.1=Ž/\s'=s/\∃x' y' je j8,rest=List.zip je j8/\aP I s.heap x' je/\aP I s.heap y' j8/\decide (x'=y')=decide (x=y)/\(je.length==j8.length)=(xs.size==ys.size))
  _ ?_ ?_ _ _ ⟨rfl,rfl,x,y,xs.toList,ys.toList,rfl,hia,hib,rfl,by simp⟩
 .rintro⟨u,v⟩ rest r s' ⟨hr,rfl,x',y',je,j8,hz,mU,FH,sG,hlen⟩
  cases mU with
  |nil=>simp at hz
  | @cons k1 u' Vc KQ h1 LY=>
   cases FH with
   |nil=>simp at hz
   | @cons k2 v' Vb KP h2 LV=>
    simp only[a1M,List.cons.injEq,Prod.mk.injEq]at hz;obtain⟨⟨rfl,rfl⟩,rfl⟩:=hz;refine qa<|I.eqBool (x:=k1) (y:=k2) hu h1 h2 ?_
    by_cases hk:k1=k2
    .subst hk
     rw[a5G rfl];simp only[ώ,Ŋ,if_false];refine qb ⟨rfl,rfl,Vc,Vb,KQ,KP,rfl,LY,LV,?_,by simpa using hlen⟩;rw[<-sG]
     by_cases VL:Vc=Vb
     .simp[VL]
     .simp[VL]
    .rw[a5H hk]
     simp only[ϧ,if_true];have hf:decide (x=y)=Ż:=by rw[<-sG];simp[hk]
     rw[hf]at h;exact qa<|qb<|qb<|qb h
 .rintro⟨r1,r2⟩ s' ⟨hr,rfl,x',y',je,j8,hz,mU,FH,sG,hlen⟩
  simp only at hr;subst hr;refine qb ?_;have Ml:(xs.size==ys.size)=decide (x=y):=by
   rw[<-sG,<-hlen];cases mU with
   |nil=>
    cases FH with
    |nil=>simp
    |cons _ _=>simp
   |cons _ _=>
    cases FH with
    |nil=>simp
    |cons _ _=>simp at hz
  show P (.done<|.ret<|.bool<|xs.size==ys.size) s';rw[Ml];exact h
theorem NT{x y:Qa J}{a b:Qg}{Q:Bool->Qd->Prop}(hu:A.units+(I.jG+1) < Ŷ)(hx:gZ I s.heap x a)(hy:gZ I s.heap y b)(h:Q (decide<|x=y) s):
  ĩ (Ĭ prog w) A (eqBool (.ref a)<|.ref b) Q E s:=by
 unfold eqBool
 try with_reducible refine Ő ?_
 show ĩ _ _ (if(Į a==Į b)=ż then _ else _) Q E s
 by_cases sH:(Į a==Į b)=ż
 .rw[a5E sH]
  have e:a=b:=by have:=eq_of_beq sH;injection this
  subst e;obtain rfl:=hx.inj hy;exact qa<|ϝ<|qb (by simpa using h)
 .rw[a5F sH]
  exact qa (wpAny_richCompare_same_room (op:=.Eq) hx.typeIs hy.typeIs a3m
   (Ŏ a3m hx.typeIs PySem.F.entry_tuple_eq (zm7 (by show A.units+1+I.jG < _;omega) hx hy ⟨_,rfl,(λe=>nomatch e),Ř h⟩)<|PySem.F.args_tuple_eq_2 _ _) (by omega))
theorem Q1{ks:Qa J}{a:Qg}{Q:Bool->Qd->Prop}(n:Nat)(hn:I.jG+1<=n)(hk:gZ I s.heap ks a)(h:Q ż s):ĩ (Ĭ prog w) A (eqIsQuiet n<|.ref a) Q E s:=by
 have hT:=hk.typeIs;obtain⟨m,rfl⟩:∃m,n=m+1:=⟨n - 1,by omega⟩;have(o,items,n',ho,_,hd,hi):=hk;unfold eqIsQuiet;refine qa<|ϡ hT PySem.F.slot_tuple_eq.lookup ?_;show ĩ _ _ (isInstance (.ref a) (.type "tuple") >>= _) _ _ s;refine qa<|ϖ hT a5h ?_;simp only[ώ,Ŋ,if_false];refine qa<|ϭ ho hd ?_;refine qa ?_;show ĩ _ _ (forIn items _ _) _ _ s;rw[<-a1J];refine ς _ (λrest r s'=>r.1=Ž/\s'=s/\∃oW,aP I s.heap oW rest) _ ?_ ?_ _ _ ⟨rfl,rfl,ks,hi⟩
 .rintro v rest r s' ⟨hr,rfl,oW,wq⟩
  cases wq with
  |cons h1 t1=>
   refine qa<|I.quiet m (by omega) h1 ?_;simp only[ώ,Ŋ,if_false];exact qb ⟨rfl,rfl,_,t1⟩
 .rintro⟨r1,r2⟩ s' ⟨hr,rfl,_⟩
  simp only at hr;subst hr;exact qb h
end
def LR(prog:Qe)(w:Qh):IK prog w Key where
 is:=λ_ k v=>(zH prog w).is k v=ż
 hash:=(zH prog w).hash
 draws:=λ_=>1
 jG:=0
 inj:=λhx hy=>(zH prog w).inj _ _ _ hx hy
 keeps:=λx _ _ _=>x
 pyHash:=λ_ hk h=>(zH prog w).pyHash hk h
 eqBool:=λ_ hx hy h=>(zH prog w).eqBool hx hy h
 quiet:=λn _ hk h=>by rw[eqIsQuiet_byValue n<|(zH prog w).byValue _ _ hk];exact qb h
def yn{prog:Qe}{w:Qh}{J:Type}[DecidableEq J](I:IK prog w J):IK prog w (Key ⊕ Qa J) where
 is:=λh x v=>match x with
  |.inl k=>(zH prog w).is k v=ż
  |.inr ks=>∃a,v=.ref a/\gZ I h ks a
 hash:=λx=>match x with
  |.inl k=>(zH prog w).hash k
  |.inr ks=>DZ I ks
 draws:=λx=>match x with
  |.inl _=>1
  |.inr ks=>El I ks
 jG:=I.jG+1
 inj:=λ{h v x y} hx hy=>by
  cases x with
  |inl k=>
   cases y with
   |inl k'=>exact congrArg Λ<|(zH prog w).inj _ _ _ hx hy
   |inr ks=>
    have(a,rfl,_):=hy;rcases mD hx with⟨i,t,_,e⟩|⟨z,t,_,e⟩<;>cases e
  |inr ks=>
   have(a,rfl,hx):=hx;cases y with
   |inl k'=>rcases mD hy with⟨i,t,_,e⟩|⟨z,t,_,e⟩<;>cases e
   |inr oW=>
    have(b,e,hy):=hy;cases e;exact congrArg a0Y (hx.inj hy)
 keeps:=λ{h h' k v d o es ep} x ho hd hs=>by
  cases k with
  |inl k=>exact x
  |inr ks=>
   have(a,e,x):=x;exact⟨a,e,x.keeps ho hd hs⟩
 pyHash:=λ{A E s k v Q} hu hk h=>by
  cases k with
  |inl k=>exact(zH prog w).pyHash hk h
  |inr ks=>
   have(a,rfl,x):=hk;exact P1 hu x h
 eqBool:=λ{A E s x y u v Q} hu hx hy h=>by
  cases x with
  |inl k=>
   cases y with
   |inl k'=>exact(zH prog w).eqBool hx hy (by simpa using h)
   |inr ks=>
    have(b,rfl,hy):=hy;have(ah,ht):=hy.tup;have h':Q Ż s:=by simpa using h
    rcases mD hx with⟨i,t,rfl,rfl⟩|⟨z,t,rfl,rfl⟩
    .exact SeqAt.EqAt.int_tuple i t ht (by omega) _ _ _ _ h'
    .exact SeqAt.EqAt.str_tuple z t ht (by omega) _ _ _ _ h'
  |inr ks=>
   have(a,rfl,hx):=hx;have(ah,ht):=hx.tup;cases y with
   |inl k'=>
    have h':Q Ż s:=by simpa using h
    rcases mD hy with⟨i,t,rfl,rfl⟩|⟨z,t,rfl,rfl⟩
    .exact SeqAt.EqAt.tuple_int i t ht (by omega) _ _ _ _ h'
    .exact SeqAt.EqAt.tuple_str z t ht (by omega) _ _ _ _ h'
   |inr oW=>
    have(b,rfl,hy):=hy;exact NT hu hx hy (by simpa using h)
 quiet:=λ{A E s k v Q} n hn hk h=>by
  cases k with
  |inl k=>rw[eqIsQuiet_byValue n<|(zH prog w).byValue _ _ hk];exact qb h
  |inr ks=>
   have(a,rfl,x):=hk;exact Q1 n hn x h
def Xy{prog:Qe}{w:Qh}{J:Type}[DecidableEq J](I:IK prog w J)(hI:I.jG<=7):HeapKind prog w (Qa J) where
 is:=gZ I
 hash:=DZ I
 draws:=El I
 room:=λA=>A.units+(I.jG+1) < Ŷ
 inj:=λhx hy=>hx.inj hy
 keeps:=λx ho hd hs=>x.keeps ho hd hs
 pyHash:=λhu hk h=>P1 hu hk h
 eqBool:=λhu hx hy h=>NT hu hx hy h
 quiet:=λhk h=>Q1 8 (by omega) hk h
abbrev K1:=Key ⊕ Qa Key
instance dK1:DecidableEq K1:=instDecidableEqSum
abbrev K2:=Key ⊕ Qa K1
instance dK2:DecidableEq K2:=instDecidableEqSum
abbrev Xi:=Key ⊕ Qa K2
instance dK2a:DecidableEq Xi:=instDecidableEqSum
abbrev K3:=Key ⊕ Qa Xi
instance dK3:DecidableEq K3:=instDecidableEqSum
instance dL3:DecidableEq (Qa K3):=instDecidableEqList
def yZ(prog:Qe)(w:Qh):HeapKind prog w (Qa K3):=Xy (yn<|yn<|yn<|yn<|LR prog w) (by show 4<=7;decide)
inductive HO where
 |lst (xs:Qa V)
 |tup (xs:Qa V)
 |dK (kvs:Qa (Key×V)) |dT (kvs:Qa (Qa Key×V))
 |set (S:Int->Bool) (n:Nat)
 |ins (C dx:Qg) (fs:Qa (Str×V))
 |own (x:Qg)
 |xd (fs:Qa (Str×V))
 |met (f x:Qg)
 |Lm (lo hi:Int)
 |be (o:Obj) (u:HO)
 |nG (ps:Array Qc)
 |ext (φ:Ļ->Prop)
 |sub (b:Qg) (p u:HO)
 |dX (kvs:Qa (Qa K3×V))
noncomputable def HO.flat:HO->Bool
 |.lst _=>ż
 |.dK _=>ż
 |.dT _=>ż
 |.dX _=>ż
 |_=>Ż
abbrev Hp:=Qg->Qb HO
noncomputable def upd(H:Hp)(a:Qg)(o:HO):Hp:=λb=>if b=a then ž o else H b
theorem zq{H:Hp}{a:Qg}{o:HO}:upd H a o a=ž o:=by unfold upd;rw[a5E rfl]
theorem zu{H:Hp}{a b:Qg}{o:HO}(h:b≠a):upd H a o b=H b:=by unfold upd;rw[a5F h]
theorem zvD{H:Hp}{a:Qg}{o u:HO}:upd (upd H a o) a u=upd H a u:=by
 funext b;unfold upd;split<;>rfl
theorem tI{H:Hp}{a b:Qg}{o u:HO}(h:H a=ž o)(h':H b=ž u)(d:o≠u):a≠b:=by
 intro e;subst e;rw[h]at h';exact d<|qy h'
theorem lK{H:Hp}{a b:Qg}{o:HO}(h:H a=ž o)(h':H b=Ž):a≠b:=by
 intro e;subst e;rw[h]at h';cases h'
def zEP(K:qc)(a:Qg)(xs:Qa V):Prop:=∃(o:Obj) (ah:Array Qc) (n:Nat),K.lookup a=ž o/\o.cls=.type "tuple"/\o.data=.seq ah n/\ah.size<=ħ/\zJ xs ah.toList/\∃i r,xs=.int i::r
def aJ(K:qc)(H:Hp)(a:Qg)(xs:Qa V):Prop:=H a=ž (.tup xs)\/zEP K a xs
theorem aJ.keeps{K:qc}{H H':Hp}{a:Qg}{xs:Qa V}(h:aJ K H a xs)(ht:∀b ys,H b=ž (.tup ys)->H' b=ž (.tup ys)):aJ K H' a xs:=h.imp (ht _ _) id
def om(h:Ļ)(a:Qg)(items:Array Qc):Prop:=∃o,h.get? a=ž o/\o.cls=.type "tuple"/\(∃n,o.data=.seq items n)/\(o.dict=Ž\/∃i t r,items.toList=.int i t::r)
theorem om.tup{h:Ļ}{a:Qg}{items:Array Qc}(x:om h a items):a1R h a items:=let ⟨o,e,c,d,_⟩:=x;⟨o,e,c,d⟩
theorem om.lt{h:Ļ}{a:Qg}{items:Array Qc}(x:om h a items):a < h.objs.size:=x.tup.lt
theorem om.new(h:Ļ)(items:Array Qc):om (h.push {cls:=.type "tuple",data:=.seq items}) h.objs.size items:=⟨_,qh _ rfl,rfl,⟨_,rfl⟩,.inl rfl⟩
def N0(K:qc)(H:Hp)(ks:Qa Key)(a:Qg):Prop:=aJ K H a (ks.map kV)
def NI{J:Type}(P:Qa J->Qg->Prop)(x:Key ⊕ Qa J)(v:V):Prop:=match x with
 |.inl k=>v=kV k
 |.inr ks=>∃b,v=.ref b/\P ks b
def jn{J:Type}(K:qc)(H:Hp)(P:Qa J->Qg->Prop)(xs:Qa (Key ⊕ Qa J))(a:Qg):Prop:=∃vs,aJ K H a vs/\Μ (NI P) xs vs
def N3(K:qc)(H:Hp):Qa K3->Qg->Prop:=jn K H (jn K H<|jn K H<|jn K H<|N0 K H)
theorem zvE{α β:Type}{F G:α->β->Prop}{oU:Qa α}{oS:Qa β}(h:Μ F oU oS)(f:∀a b,F a b->G a b):Μ G oU oS:=by
 induction h with
 |nil=>exact .nil
 |cons r _ ih=>exact .cons (f _ _ r) ih
theorem jn.keeps{J:Type}{K:qc}{H H':Hp}{P P':Qa J->Qg->Prop}{xs:Qa (Key ⊕ Qa J)}{a:Qg}(h:jn K H P xs a)(ht:∀b ys,H b=ž (.tup ys)->H' b=ž (.tup ys))(hp:∀ks b,P ks b->P' ks b):jn K H' P' xs a:=by
 have(vs,h1,h2):=h;refine⟨vs,h1.keeps ht,zvE h2 λx v z=>?_⟩;cases x with
 |inl k=>exact z
 |inr ks=>have(b,e,z):=z;exact⟨b,e,hp _ _ z⟩
theorem N3.keeps{K:qc}{H H':Hp}{xs:Qa K3}{a:Qg}(h:N3 K H xs a)(ht:∀b ys,H b=ž (.tup ys)->H' b=ž (.tup ys)):N3 K H' xs a :=
 jn.keeps h ht λ_ _ h=>jn.keeps h ht λ_ _ h=>jn.keeps h ht λ_ _ h=>jn.keeps h ht λ_ _ h=>aJ.keeps h ht
section
variable(P:Qe)(w:Qh)(K:qc)
def zP(H:Hp)(h:Ļ)(a:Qg):HO->Prop
 |.lst xs=>xs.length<=ħ/\∃(ah:Qa Qc) (n:Nat),zJ xs ah/\h.get? a=ž {cls:=.type "list",data:=.seq ah.toArray n}
 |.tup xs=>xs.length<=ħ/\∃ah:Qa Qc,zJ xs ah/\om h a ah.toArray
 |.dK kvs=>kvs.length<=ħ/\(a==Œ)=Ż/\∃vs,KV kvs vs/\h.DictOf (zH P w) a vs
 |.dT kvs=>kvs.length<=ħ/\(a==Œ)=Ż/\∃xs:Qa (Qa Key×Qg×Qc),
   Μ (λ(p:Qa Key×V) (q:Qa Key×Qg×Qc)=>p.1=q.1/\aJ K H q.2.1 (p.1.map kV)/\zE p.2 q.2.2) kvs xs/\
   ∃o es ep,h.get? a=ž o/\o.ExactDict/\o.data=.dict es ep/\es.toList=xs.map (a2r<|τ<|zH P w)/\(xs.map (·.1)).Nodup
 |.dX kvs=>kvs.length<=ħ/\(a==Œ)=Ż/\∃xs:Qa (Qa K3×Qg×Qc),
   Μ (λ(p:Qa K3×V) (q:Qa K3×Qg×Qc)=>p.1=q.1/\N3 K H p.1 q.2.1/\zE p.2 q.2.2) kvs xs/\
   ∃o es ep,h.get? a=ž o/\o.ExactDict/\o.data=.dict es ep/\es.toList=xs.map (a2r<|yZ P w)/\(xs.map (·.1)).Nodup
 |.set S n=>h.SetOf (intKind P w) a S n
 |.ins C dx fs=>H dx=ž (.own a)/\fs.length<=1000/\dx≠a/\h.get? a=ž (ź C dx)/\
   ∃mA,h.Ns1 dx mA/\(∀f,ix (fs.lookup f)<|mA f)/\a3s mA (fs.map (·.1))
 |.own _=>∃o,h.get? a=ž o
 |.xd fs=>∃mA,h.Ns1 a mA/\∀f,ix (fs.lookup f)<|mA f
 |.Lm lo hi=>∃t u v,h.get? a=ž {cls:=.type "range",data:=.fields #[.int lo t,.int hi u,.int 1 v]}
 |.be o u=>h.get? a=ž o/\zP H h a u
 |.nG ps=>h.get? a=ž {cls:=.none,data:=.fields ps}
 |.met f x=>h.get? a=ž (a1F (.ref f)<|.ref x)
 |.ext φ=>φ h/\(∃o,h.get? a=ž o)/\∀h1 h2:Ļ,φ h1->(∀o,h1.get? a=ž o->h2.get? a=ž o)->φ h2
 |.sub b p u=>zP H h a u/\H b=ž (.own a)/\b≠a/\p.flat=ż/\zP H h b p
def b9(H:Hp)(h:Ļ):Prop:=∀a o,H a=ž o->zP P w K H h a o
end
section
variable{P:Qe}{w:Qh}{K:qc}{H H':Hp}{h h':Ļ}{a:Qg}{o:HO}
theorem zP.lt(x:zP P w K H h a o):a < h.objs.size:=by
 induction o with
 |sub b p u _ ih=>exact ih x.1
 |lst xs=>have(_,_,_,_,e):=x;exact qi e
 |tup xs=>have(_,_,_,p):=x;exact p.lt
 |dK kvs=>have(_,_,_,_,o,_,_,e,_):=x;exact qi e
 |dT kvs=>have(_,_,_,_,o,_,_,e,_):=x;exact qi e
 |dX kvs=>have(_,_,_,_,o,_,_,e,_):=x;exact qi e
 |set S n=>have(o,_,_,_,e,_):=x;exact qi e
 |ins C dx fs=>have(_,_,_,e,_):=x;exact qi e
 |own y=>have(_,e):=x;exact qi e
 |xd fs=>obtain⟨_,⟨_,_,_,e,_⟩,_⟩:=x;exact qi e
 |Lm lo hi=>have(_,_,_,e):=x;exact qi e
 |be ob u _=>have(e,_):=x;exact qi e
 |nG ps=>exact qi (show h.get? a=ž _ from x)
 |met f y=>exact qi (show h.get? a=ž _ from x)
 |ext φ=>obtain⟨_,⟨_,e⟩,_⟩:=x;exact qi e
theorem Paired.iX{α β:Type}{F G:α->β->Prop}:∀{oU:Qa α} {oS:Qa β},Μ F oU oS->(∀a b,F a b->G a b)->Μ G oU oS
 |_,_,.nil,_=>.nil
 |_,_,.cons r t,f=>.cons (f _ _ r)<|Paired.iX t f
theorem zP.oJ(x:zP P w K H h a o)(f:o.flat=ż)(k:∀u,h.get? a=ž u->h'.get? a=ž u)(ht:∀b xs,H b=ž (.tup xs)->H' b=ž (.tup xs)):zP P w K H' h' a o:=by
 cases o with
 |lst xs=>have(z,ah,n,r,e):=x;exact⟨z,ah,n,r,k _ e⟩
 |dK kvs=>have(z,y,vs,r,ob,es,ep,e,c):=x;exact⟨z,y,vs,r,ob,es,ep,k _ e,c⟩
 |dT kvs=>
  have(z,y,xs,r,ob,es,ep,e,c):=x;exact⟨z,y,xs,Paired.iX r λp q z=>⟨z.1,z.2.1.keeps ht,z.2.2⟩,ob,es,ep,k _ e,c⟩
 |dX kvs=>
  have(z,y,xs,r,ob,es,ep,e,c):=x;exact⟨z,y,xs,Paired.iX r λp q z=>⟨z.1,z.2.1.keeps ht,z.2.2⟩,ob,es,ep,k _ e,c⟩
 |_=>cases f
theorem zP.dZ(x:zP P w K H h a o)(k:∀b u,(b=a\/H b=ž (.own a))->h.get? b=ž u->h'.get? b=ž u)
  (ho:∀b,H b=ž (.own a)->H' b=ž (.own a)) (ht:∀b xs,H b=ž (.tup xs)->H' b=ž (.tup xs)):zP P w K H' h' a o:=by
 induction o with
 |lst xs=>have(z,ah,n,r,e):=x;exact⟨z,ah,n,r,k _ _ (.inl rfl) e⟩
 |tup xs=>have(z,ah,r,ob,e,c):=x;exact⟨z,ah,r,ob,k _ _ (.inl rfl) e,c⟩
 |dK kvs=>have(z,y,vs,r,ob,es,ep,e,c):=x;exact⟨z,y,vs,r,ob,es,ep,k _ _ (.inl rfl) e,c⟩
 |dT kvs=>
  have(z,y,xs,r,ob,es,ep,e,c):=x;exact⟨z,y,xs,Paired.iX r λp q z=>⟨z.1,z.2.1.keeps ht,z.2.2⟩,ob,es,ep,k _ _ (.inl rfl) e,c⟩
 |dX kvs=>
  have(z,y,xs,r,ob,es,ep,e,c):=x;exact⟨z,y,xs,Paired.iX r λp q z=>⟨z.1,z.2.1.keeps ht,z.2.2⟩,ob,es,ep,k _ _ (.inl rfl) e,c⟩
 |set S n=>have(ob,es,ep,t,e,c):=x;exact⟨ob,es,ep,t,k _ _ (.inl rfl) e,c⟩
 |ins C dx fs=>
  obtain⟨d,z,ne,e,mA,⟨od,es,ep,e2,c⟩,r⟩:=x;exact⟨ho _ d,z,ne,k _ _ (.inl rfl) e,mA,⟨od,es,ep,k _ _ (.inr d) e2,c⟩,r⟩
 |own y=>have(ob,e):=x;exact⟨ob,k _ _ (.inl rfl) e⟩
 |xd fs=>obtain⟨mA,⟨od,es,ep,e,c⟩,r⟩:=x;exact⟨mA,⟨od,es,ep,k _ _ (.inl rfl) e,c⟩,r⟩
 |Lm lo hi=>have(t,u,v,e):=x;exact⟨t,u,v,k _ _ (.inl rfl) e⟩
 |be ob u ih=>have(e,q):=x;exact⟨k _ _ (.inl rfl) e,ih q⟩
 |nG ps=>
  have e:h.get? a=ž {cls:=.none,data:=.fields ps}:=x;show h'.get? a=ž {cls:=.none,data:=.fields ps};exact k a _ (.inl rfl) e
 |met f y=>
  have e:h.get? a=ž (a1F (.ref f)<|.ref y):=x;show h'.get? a=ž (a1F (.ref f)<|.ref y);exact k a _ (.inl rfl) e
 |ext φ=>obtain⟨p,⟨o,e⟩,st⟩:=x;exact⟨st _ _ p λo q=>k _ _ (.inl rfl) q,⟨o,k _ _ (.inl rfl) e⟩,st⟩
 |sub b p u _ ih=>have(y,e,n,f,q):=x;exact⟨ih y,ho _ e,n,f,q.oJ f (λu z=>k _ _ (.inr e) z) ht⟩
theorem b9.lt(x:b9 P w K H h)(e:H a=ž o):a < h.objs.size:=(x a o e).lt
theorem b9.fresh(x:b9 P w K H h)(e:h.objs.size<=a):H a=Ž:=by
 cases q:H a with
 |none=>rfl
 |some u=>exact absurd (qj (x.lt q) e)<|Ò _
theorem b9.kept(x:b9 P w K H h)(k:∀b u,h.get? b=ž u->h'.get? b=ž u):b9 P w K H h':=λa o e=>
 (x a o e).dZ (λb u _ q=>k b u q) (λ_ q=>q) λ_ _ q=>q
theorem b9.laid(x:b9 P w K H h)(k:∀b u,h.get? b=ž u->h'.get? b=ž u)(hp:h.objs.size<=a)(new:zP P w K (upd H a o) h' a o):b9 P w K (upd H a o) h':=λb u e=>by
 have hn:=x.fresh hp
 by_cases hb:b=a
 .subst hb;rw[zq]at e;cases e;exact new
 .rw[zu hb]at e
  exact(x b u e).dZ (λc v _ q=>k c v q) (λc q=>by rw[zu<|lK q hn];exact q) λc xs q=>by rw[zu<|lK q hn];exact q
end
def Rd(H:Hp)(a:Qg)(u:HO):Prop:=H a=ž u\/∃o,H a=ž (.be o u)
theorem Rd.ok{P:Qe}{w:Qh}{K:qc}{H:Hp}{h:Ļ}{a:Qg}{u:HO}(r:Rd H a u)(x:b9 P w K H h):zP P w K H h a u:=by
 rcases r with r|⟨o,r⟩
 .exact x a u r
 .have(_,q):=x a _ r
  exact q
def CH:Qb HO->Prop
 |some (.lst _)=>True
 |some (.dK _)=>True
 |some (.dT _)=>True
 |some (.set _ _)=>True
 |some (.ins _ _ _)=>True
 |some (.ext _)=>True
 |some (.sub _ _ _)=>True
 |some (.dX _)=>True
 |_=>False
section
variable{P:Qe}{w:Qh}{K:qc}{H:Hp}{h h':Ļ}{x e:Qg}{o':HO}
theorem b9.write(ok:b9 P w K H h)(mu:CH (H x))(he:e=x\/H e=ž (.own x))(k:∀b u,b≠e->h.get? b=ž u->h'.get? b=ž u)(yx:∃u,h'.get? e=ž u)
  (new:zP P w K (upd H x o') h' x o'):b9 P w K (upd H x o') h':=λb u q=>by
 have A8:∀c y,H c=ž (.own y)->c≠x:=λc y r z=>by subst z;rw[r]at mu;exact mu
 have Lz:∀c xs,H c=ž (.tup xs)->c≠x:=λc xs r z=>by subst z;rw[r]at mu;exact mu
 by_cases hb:b=x
 .subst hb;rw[zq]at q;cases q;exact new
 .rw[zu hb]at q
  by_cases wo:b=e
  .have q':H b=ž (.own x):=by
    rcases he with z|z
    .exact absurd (wo.trans z) hb
    .rw[wo];exact z
   rw[q]at q';cases q';have(v,hv):=yx;exact⟨v,by rw[wo];exact hv⟩
  .refine(ok b u q).dZ (λc v hc r=>k c v ?_ r) (λc r=>by rw[zu<|A8 c b r];exact r) λc xs r=>by rw[zu<|Lz c xs r];exact r
   rcases hc with rfl|hc
   .exact wo
   .rintro rfl
    rcases he with z|z
    .exact A8 c b hc z
    .rw[hc]at z;cases z;exact hb rfl
end
structure Un (fs ex:Qa Qg) (H H':Hp) (h h':Ļ):Prop where
 keep:∀b o,h.get? b=ž o->H b=Ž->b∉fs->b∉ex->h'.get? b=ž o
 slot:∀b o,h.get? b=ž o->H b=Ž->b∈fs->b∉ex->∃sl,h'.get? b=ž {o with slots:=sl}
 free:∀b o,h.get? b=ž o->H b=Ž->b∉ex->H' b=Ž
 there:∀b o,h.get? b=ž o->b∉ex->∃o',h'.get? b=ž o'
 gD:∀b xs,H b=ž (.tup xs)->H' b=ž (.tup xs)
 fL:∀b o u,H b=ž (.be o u)->H' b=ž (.be o u)
 hX:∀b ps,H b=ž (.nG ps)->∃more,H' b=ž (.nG<|ps++more)
section
variable{fs fs' ex yC:Qa Qg}{H H1 H2:Hp}{h h1 h2 h':Ļ}{a x e:Qg}{o:HO}
theorem Un.any(u:Un fs ex H H1 h h1){b:Qg}{ob:Obj}(q:h.get? b=ž ob)(n:H b=Ž)(hx:b∉ex):∃sl,h1.get? b=ž {ob with slots:=sl}:=by
 by_cases hb:b∈fs
 .exact u.slot b ob q n hb hx
 .exact⟨ob.slots,u.keep b ob q n hb hx⟩
theorem Un.kept(k:∀b u,h.get? b=ž u->h'.get? b=ž u):Un fs ex H H h h' :=
 ⟨λb ob q _ _ _=>k b ob q,λb ob q _ _ _=>⟨ob.slots,k b ob q⟩,λ_ _ _ n _=>n,λb ob q _=>⟨ob,k b ob q⟩,λ_ _ q=>q,λ_ _ _ q=>q,λ_ ps q=>⟨#[],by rw[q];simp⟩⟩
theorem Un.refl:Un fs ex H H h h:=Un.kept λ_ _ q=>q
theorem Un.laid(k:∀b u,h.get? b=ž u->h'.get? b=ž u)(hp:h.objs.size<=a)(hn:H a=Ž):Un fs ex H (upd H a o) h h' where
 keep:=λb u q _ _ _=>k b u q
 slot:=λb u q _ _ _=>⟨u.slots,k b u q⟩
 free:=λb u q n _=>by rw[zu<|qk<|qj (qi q) hp];exact n
 there:=λb u q _=>⟨u,k b u q⟩
 gD:=λb xs q=>by rw[zu<|lK q hn];exact q
 fL:=λb u xs q=>by rw[zu<|lK q hn];exact q
 hX:=λb ps q=>⟨#[],by rw[zu<|lK q hn,q];simp⟩
theorem Un.write(mu:CH (H x))(he:e=x\/H e=ž (.own x))(k:∀b u,b≠e->h.get? b=ž u->h'.get? b=ž u)(yx:∃u,h'.get? e=ž u):Un fs ex H (upd H x o) h h':=by
 have hx:∀b,H b=Ž->b≠x:=λb n z=>by subst z;rw[n]at mu;exact mu
 have hb:∀b,H b=Ž->b≠e:=λb n z=>by
  subst z;rcases he with r|r
  .exact hx b n r
  .rw[n]at r;cases r
 have hm:∀b u,H b=ž u->¬CH (ž u)->b≠x:=λb u q nm z=>by subst z;rw[q]at mu;exact nm mu
 refine⟨λb u q n _ _=>k b u (hb b n) q,λb u q n _ _=>⟨u.slots,k b u (hb b n) q⟩,λb u q n _=>by rw[zu<|hx b n];exact n,λb u q _=>?_,
  λb xs q=>by rw[zu<|hm b _ q λz=>z];exact q,λb u xs q=>by rw[zu<|hm b _ q λz=>z];exact q,λb ps q=>⟨#[],by rw[zu<|hm b _ q λz=>z,q];simp⟩⟩
 by_cases wo:b=e
 .subst wo;exact yx
 .exact⟨u,k b u wo q⟩
end
noncomputable def Fg(h:Ļ)(H:Hp):Qa Qg:=(Ń h.objs.size).filter λa=>(H a).isSome
def rl(h:Ļ)(H:Hp):Ļ:=PySem.W.hideAll h (Fg h H)
theorem zqy(h:Ļ)(H:Hp):(rl h H).objs.size=h.objs.size:=PySem.W.hideAll_size _ _
theorem zry{h:Ļ}{H:Hp}{b:Qg}{o:Obj}(e:h.get? b=ž o)(n:H b=Ž):(rl h H).get? b=ž o :=
 PySem.W.hideAll_get _ e λhm=>by
  have q:(H b).isSome=ż:=(â.mp hm).2;rw[n]at q;simp at q
theorem zvF{h:Ļ}{H:Hp}{b:Qg}{o:Obj}(e:(rl h H).get? b=ž o):h.get? b=ž o/\H b=Ž:=by
 have e':h.get? b=ž o:=PySem.W.of_hideAll (Fg h H) e;refine⟨e',?_⟩;cases q:H b with
 |none=>rfl
 |some x=>
  have hm:b∈Fg h H:=â.mpr ⟨Ø.mpr<|qi e',by simp[q]⟩;have z:(rl h H).get? b=Ž:=PySem.W.hideAll_none (Fg h H) hm;rw[z]at e;cases e
noncomputable def zvG(g h:Ļ)(L:Qg):Qa (Qg×Obj):=(Ń h.objs.size).filterMap λa=>if a=L\/(g.get? a).isSome=ż then Ž else(h.get? a).map λo=>(a,o)
def rest(g h:Ļ)(L d:Qg):Qa (Qg×Obj):=(zvG g h L).filter λp=>decide<|p.1≠d
structure Mod (K:qc) (mg:Str->Qb Qc) (base:Ļ):Prop where
 fJ:K.In base
 glob:base.Ns İ mg
 blt:∃mb,base.Ns builtinsNs mb/\∀x:Str,x ≠ "__name__"->mb x=Ÿ x
 nolimit:base.NoLimit
structure Cx where
 prog:Qe
 w:Qh
 K:qc
 mg:Str->Qb Qc
 base:Ļ
 A:Qf
 N:Qa Str
 bf:Qd
 H₀:Hp
 env:Env
 outer:Qa Env
 stack:Qa Env
 ex:Qa Qg
 fn:Str->Bool
 calm:Bool
 pn:Qa (Qg×Obj)
 xe:Qc->Qd->Prop
noncomputable def m6(l:Qa Env):Qa Qg:=l.filterMap (·.frame)
abbrev Cx.fs(X:Cx):Qa Qg:=m6 X.outer
def F9(sc:a1z)(x:Str):Prop:=sc.names.lookup x=ž .local\/sc.names.lookup x=ž .cell\/sc.names.lookup x=ž .free
def Loc(sc:a1z)(x:Str):Prop:=sc.names.lookup x=ž .local\/sc.names.lookup x=ž .cell
def zEQ(env:Env)(h:Ļ)(m:Str->Qb Qc)(x:Str)(u:Qc):Prop :=
 (env.kindOf x=ž .local/\m x=ž u)\/((env.kindOf x=ž .cell\/env.kindOf x=ž .free)/\∃c,env.cells.lookup x=ž c/\h.IsCell c (ž u))
structure Cx.Ok (X:Cx):Prop where
 mod:Mod X.K X.mg X.base
 kind:X.env.scope.kind=.function
 glob:X.env.globals=İ
 blt:X.env.builtins=builtinsNs
 above:X.bf.heap.objs.size<=X.env.locals
 inj:∀x y c,X.env.cells.lookup x=ž c->X.env.cells.lookup y=ž c->x=y
 has:∀x,(X.env.kindOf x=ž .cell\/X.env.kindOf x=ž .free)->∃c,X.env.cells.lookup x=ž c
 yE:∀x c,X.fn x=ż->X.env.cells.lookup x=ž c->X.bf.heap.objs.size<=c
 hd:X.calm=ż->X.A.handled=Ž
 frames:X.A.frames=ž X.stack
 AY:X.stack=X.outer\/(X.stack=X.env::X.outer/\X.env.frame=ž X.env.locals)
 F0:∀b∈X.ex,b≠X.env.locals/\∀x c,X.env.cells.lookup x=ž c->c≠b
 bs:∀b o,X.base.get? b=ž o->X.bf.heap.get? b=ž o/\X.H₀ b=Ž
 qY:X.base.objs.size<=X.bf.heap.objs.size
 mQ:∀b o,X.base.get? b=ž o->b∉X.ex
 pq:∀b∈X.ex,b∉X.fs
 eX:X.bf.heap.FunFrames X.base X.outer
 uF:∀b∈X.fs,X.H₀ b=Ž
structure Inv (X:Cx) (pins:Qa (Qg×Obj)) (σ:Qa (Qb V)) (H:Hp) (s:Qd):Prop where
 ok:X.Ok
 os:s.os=X.bf.os
 bare:a0W s.gens
 base:Un X.fs X.ex X.H₀ H X.bf.heap s.heap
 loc:∃m,s.heap.Ns X.env.locals m/\∀(i:Nat) (x:Str) (v:V),X.N[i]?=ž x->σ[i]?=ž (ž v)->F9 X.env.scope x->∃u,zE v u/\zEQ X.env s.heap m x u
 cell:∀x c,X.env.cells.lookup x=ž c->∃v,s.heap.IsCell c v
 free:H X.env.locals=Ž
 b7:∀x c,X.env.cells.lookup x=ž c->H c=Ž
 pin:∀p∈X.pn++pins,s.heap.get? p.1=ž p.2/\H p.1=Ž/\p.1≠X.env.locals/\p.1∉X.fs/\∀v,p.2.data≠.cell v
 aw:b9 X.prog X.w X.K H s.heap
 len:σ.length=X.N.length
section
variable{X:Cx}{pins:Qa (Qg×Obj)}{σ:Qa (Qb V)}{H H':Hp}{s:Qd}{h':Ļ}
theorem Cx.Ok.LB(ok:X.Ok){b:Qg}{o:Obj}(e:X.base.get? b=ž o):b∉X.fs:=λhb=>by
 have:=(ok.eX.mem hb).1;rw[e]at this;cases this
theorem Inv.bs(I:Inv X pins σ H s):∀b o,X.base.get? b=ž o->s.heap.get? b=ž o/\H b=Ž:=λb o e=>
 ⟨I.base.keep b o (I.ok.bs b o e).1 (I.ok.bs b o e).2 (I.ok.LB e)<|I.ok.mQ b o e,I.base.free b o (I.ok.bs b o e).1 (I.ok.bs b o e).2<|I.ok.mQ b o e⟩
theorem Inv.bk(I:Inv X pins σ H s):∀b o,X.base.get? b=ž o->s.heap.get? b=ž o:=λb o e=>(I.bs b o e).1
theorem Inv.mod(I:Inv X pins σ H s):Mod X.K X.mg X.base:=I.ok.mod
theorem Inv.aZ(I:Inv X pins σ H s):X.K.In s.heap:=I.ok.mod.fJ.keeps I.bk
theorem Inv.fr(I:Inv X pins σ H s):∃m,Fr X.base X.env.locals s.heap m :=
 let ⟨m,hn,_⟩:=I.loc
 ⟨m,hn,I.bk,qA I.ok.qY I.ok.above⟩
theorem Inv.lt(I:Inv X pins σ H s):X.env.locals < s.heap.objs.size:=let ⟨_,hn,_⟩:=I.loc;hn.lt
theorem Inv.sz(I:Inv X pins σ H s):X.bf.heap.objs.size<=s.heap.objs.size:=qA I.ok.above (a2d I.lt)
theorem Inv.LA(I:Inv X pins σ H s){a:Qg}(h:s.heap.objs.size<=a):a∉X.fs:=λhb=>by
 have(_,o,ho,_):=I.ok.eX.mem hb;exact absurd (qj (qi ho)<|qA I.sz h)<|Ò _
theorem Inv.qX(I:Inv X pins σ H s):∀x c,X.env.cells.lookup x=ž c->c≠X.env.locals:=λx c e z=>by
 have(v,o,ho,hd):=I.cell x c e;obtain⟨m,⟨o',es,ep,eR,qS,_⟩,_⟩:=I.loc;rw[z,eR]at ho;cases ho;rw[qS]at hd;cases hd
theorem Inv.eX(I:Inv X pins σ H s):s.heap.FunFrames X.base X.outer:=by
 have all:∀(l:Qa Env),(∀b∈m6 l,b∈X.fs)->X.bf.heap.FunFrames X.base l->s.heap.FunFrames X.base l:=by
  intro l
  induction l with
  |nil=>intro _ _;trivial
  |cons env r ih=>
   intro hs hl;obtain⟨hk,⟨L,o,hf,hn,ho,hd⟩,hr⟩:=hl;have hL:L∈X.fs:=hs L (by unfold m6;rw[a1D,hf];exact qq);have(sl,e):=I.base.slot L o ho (I.ok.uF L hL) hL λz=>I.ok.pq L z hL;exact⟨hk,⟨L,_,hf,hn,e,hd⟩,ih (λb hb=>hs b (by unfold m6;rw[a1D,hf];exact qp _ hb)) hr⟩
 exact all X.outer (λ_ hb=>hb) I.ok.eX
theorem Inv.stack(I:Inv X pins σ H s):s.heap.FunFrames X.base X.stack:=by
 rcases I.ok.AY with e|⟨e,hf⟩
 .rw[e];exact I.eX
 .rw[e]
  have(m,hn,_):=I.loc;refine .cons (by rw[I.ok.kind];decide) hf hn ?_ I.eX;exact Heap.get?_none_of_le<|qA I.ok.qY I.ok.above
theorem Inv.iT(I:Inv X pins σ H s):∀b∈m6 X.stack,b∈X.env.locals::X.fs:=λb hb=>by
 rcases I.ok.AY with e|⟨e,hf⟩
 .rw[e]at hb;exact qp _ hb
 .rw[e]at hb
  unfold m6 at hb;rw[a1D,hf]at hb;exact hb
theorem Inv.lM(I:Inv X pins σ H s):∀b∈m6 X.stack,H b=Ž:=λb hb=>by
 rcases qw.mp (I.iT b hb)with e|hb
 .rw[e];exact I.free
 .have(_,o,ho,_):=I.ok.eX.mem hb
  exact I.base.free b o ho (I.ok.uF b hb) λz=>I.ok.pq b z hb
theorem Inv.step{g':Array a1T}{t':Nat}{d':Drawn}{ch:Qa Qg}(I:Inv X pins σ H s)
  (qT:∀b∈ch,(b∈X.ex\/X.bf.heap.objs.size<=b)/\b≠X.env.locals/\(∀x c,X.env.cells.lookup x=ž c->c≠b)/\∀p∈X.pn++pins,p.1≠b)
  (keep:∀b o,b≠X.env.locals->b∉X.fs->b∉ch->s.heap.get? b=ž o->H b=Ž->h'.get? b=ž o)
  (slot:∀b o,b≠X.env.locals->b∈X.fs->b∉ch->s.heap.get? b=ž o->H b=Ž->∃sl,h'.get? b=ž {o with slots:=sl}) (free:∀b o,b∉ch->s.heap.get? b=ž o->H b=Ž->H' b=Ž)
  (there:∀b o,b∉ch->s.heap.get? b=ž o->∃o',h'.get? b=ž o')
  (gD:∀b xs,H b=ž (.tup xs)->H' b=ž (.tup xs)) (fL:∀b o u,H b=ž (.be o u)->H' b=ž (.be o u)) (hX:∀b ps,H b=ž (.nG ps)->∃more,H' b=ž (.nG<|ps++more))
  (ns:∀m,s.heap.Ns X.env.locals m->h'.Ns X.env.locals m) (aw:b9 X.prog X.w X.K H' h') (hg:a0W g'):
  Inv X pins σ H' {s with heap:=h',gens:=g',drawn:=d',toks:=t'}:=by
 have Vw:∀b o,X.bf.heap.get? b=ž o->b≠X.env.locals:=λb o e=>qk<|qj (qi e) I.ok.above;have Fv:∀b o,X.bf.heap.get? b=ž o->b∉X.ex->b∉ch:=λb o e hx hb=>by
  rcases(qT b hb).1 with z|z
  .exact hx z
  .exact absurd (qj (qi e) z) (Ò _)
 have cellK:∀x c,X.env.cells.lookup x=ž c->∀v,s.heap.IsCell c v->h'.IsCell c v:=λx c e v ⟨o,ho,hd⟩=>by
  have Bc:c∉ch:=λz=>(qT c z).2.2.1 x c e rfl
  by_cases hc:c∈X.fs
  .have(sl,q):=slot c o (I.qX x c e) hc Bc ho (I.b7 x c e)
   exact⟨_,q,hd⟩
  .exact⟨o,keep c o (I.qX x c e) hc Bc ho<|I.b7 x c e,hd⟩
 refine⟨I.ok,I.os,hg,⟨λb o e n hb hx=>?_,λb o e n hb hx=>?_,λb o e n hx=>?_,λb o e hx=>?_,λb xs e=>gD b xs<|I.base.gD b xs e,λb o xs e=>fL b o xs<|I.base.fL b o xs e,λb ps e=>?_⟩,?_,λx c e=>?_,?_,λx c e=>?_,λp hp=>?_,aw,I.len⟩
 .exact keep b o (Vw b o e) hb (Fv b o e hx) (I.base.keep b o e n hb hx) (I.base.free b o e n hx)
 .have(sl,e1):=I.base.slot b o e n hb hx
  have(sl',e2):=slot b _ (Vw b o e) hb (Fv b o e hx) e1 (I.base.free b o e n hx);exact⟨sl',e2⟩
 .have(o',e1):=I.base.there b o e hx
  exact free b o' (Fv b o e hx) e1<|I.base.free b o e n hx
 .have(o',e1):=I.base.there b o e hx
  exact there b o' (Fv b o e hx) e1
 .have(m1,e1):=I.base.hX b ps e
  have(m2,e2):=hX b _ e1;exact⟨m1++m2,by rw[e2,Array.append_assoc]⟩
 .have(m,hn,hl):=I.loc
  refine⟨m,ns m hn,λi x v e1 e2 e3=>?_⟩;have(u,r,l):=hl i x v e1 e2 e3;refine⟨u,r,?_⟩;rcases l with l|⟨k,c,e,z⟩
  .exact .inl l
  .exact .inr ⟨k,c,e,cellK x c e _ z⟩
 .have(v,z):=I.cell x c e
  exact⟨v,cellK x c e v z⟩
 .obtain⟨m,⟨o,_,_,ho,_⟩,_⟩:=I.loc
  exact free _ o (λz=>(qT _ z).2.1 rfl) ho I.free
 .have(v,o,ho,hd):=I.cell x c e
  exact free c o (λz=>(qT c z).2.2.1 x c e rfl) ho<|I.b7 x c e
 .have(e,n,ne,nf,d):=I.pin p hp
  have Bc:p.1∉ch:=λz=>(qT p.1 z).2.2.2 p hp rfl;exact⟨keep p.1 p.2 ne nf Bc e n,free p.1 p.2 Bc e n,ne,nf,d⟩
theorem Inv.un{t':Nat}(I:Inv X pins σ H s)(u:Un X.fs [] H H' s.heap h')(aw:b9 X.prog X.w X.K H' h'):Inv X pins σ H' {s with heap:=h',toks:=t'}:=by
 obtain⟨m,⟨o,es,ep,ho,r⟩,_⟩:=id I.loc;have(sl,hL):=u.any ho I.free (by simp);exact I.step (g':=s.gens) (d':=s.drawn) (ch:=[]) (λ_ z=>nomatch z) (λb o _ hb _ e n=>u.keep b o e n hb (by simp)) (λb o _ hb _ e n=>u.slot b o e n hb (by simp)) (λb o _ e n=>u.free b o e n (by simp)) (λb o _ e=>u.there b o e (by simp)) u.gD u.fL u.hX (λm' hm=>by
  have(o',yD,pw,eR,r'):=hm;rw[ho]at eR;cases eR;exact⟨_,yD,pw,hL,r'⟩) aw I.bare
theorem Inv.call{g':Array a1T}{t':Nat}{d':Drawn}{ch:Qa Qg}(I:Inv X pins σ H s)(u:Un (m6 X.stack) ch H H' s.heap h')(aw:b9 X.prog X.w X.K H' h')(hg:a0W g')
  (qT:∀b∈ch,(b∈X.ex\/X.bf.heap.objs.size<=b)/\b≠X.env.locals/\(∀x c,X.env.cells.lookup x=ž c->c≠b)/\∀p∈X.pn++pins,p.1≠b):
  Inv X pins σ H' {s with heap:=h',gens:=g',drawn:=d',toks:=t'}:=by
 obtain⟨m,⟨o,es,ep,ho,r⟩,_⟩:=id I.loc;have(sl,hL):=u.any ho I.free λz=>(qT _ z).2.1 rfl;exact I.step (ch:=ch) qT (λb o hL hb hc e n=>u.keep b o e n (λz=>(qw.mp<|I.iT b z).elim hL hb) hc) (λb o _ _ hc e n=>u.any e n hc) (λb o hc e n=>u.free b o e n hc) (λb o hc e=>u.there b o e hc) u.gD u.fL u.hX (λm' hm=>by
  have(o',yD,pw,eR,r'):=hm;rw[ho]at eR;cases eR;exact⟨_,yD,pw,hL,r'⟩) aw hg
theorem Inv.lL{t':Nat}{wr:Qa Qg}(I:Inv X pins σ H s)(k:∀b o,b∉wr->s.heap.get? b=ž o->h'.get? b=ž o)
  (hf:∀b∈wr,H b=Ž/\b≠X.env.locals/\(b∈X.ex\/X.bf.heap.objs.size<=b)/\(∀x c,X.env.cells.lookup x=ž c->c≠b)/\∀p∈X.pn++pins,p.1≠b):Inv X pins σ H {s with heap:=h',toks:=t'}:=by
 have yh:∀b u,H b=ž u->b∉wr:=λb u e z=>by rw[(hf b z).1]at e;cases e
 refine I.step (g':=s.gens) (d':=s.drawn) (ch:=wr) (λb hb=>?_) (λb o _ _ hc e _=>k b o hc e) (λb o _ _ hc e _=>⟨o.slots,k b o hc e⟩) (λ_ _ _ _ n=>n)
  (λb o hc e=>⟨o,k b o hc e⟩) (λ_ _ e=>e) (λ_ _ _ e=>e) (λb ps e=>⟨#[],by rw[e];simp⟩) (λm hm=>?_) (λb u e=>?_) I.bare
 .have(_,z1,z3,z4,z5):=hf b hb
  exact⟨z3,z1,z4,z5⟩
 .have(o,es,ep,ho,r):=hm
  exact⟨o,es,ep,k _ o (λz=>(hf _ z).2.1 rfl) ho,r⟩
 .refine(I.aw b u e).dZ (λc v hc q=>k c v ?_ q) (λ_ q=>q) λ_ _ q=>q
  rcases hc with z|z
  .rw[z];exact yh b u e
  .exact yh c _ z
theorem Inv.turned{t':Nat}{it:Qg}(I:Inv X pins σ H s)(k:∀b o,b≠it->s.heap.get? b=ž o->h'.get? b=ž o)(hn:H it=Ž)(hL:it≠X.env.locals)
  (h1:it∈X.ex\/X.bf.heap.objs.size<=it) (h2:∀x c,X.env.cells.lookup x=ž c->c≠it) (h3:∀p∈X.pn++pins,p.1≠it):Inv X pins σ H {s with heap:=h',toks:=t'}:=
 I.lL (wr:=[it]) (λb o hb=>k b o λz=>hb (by simp[z])) λb hb=>by
  rw[qr.mp hb];exact⟨hn,hL,h1,h2,h3⟩
theorem Inv.tok(I:Inv X pins σ H s)(t:Nat):Inv X pins σ H {s with toks:=t}:=I.un (h':=s.heap) (t':=t) Un.refl I.aw
theorem Inv.kept{t':Nat}(I:Inv X pins σ H s)(k:∀b u,s.heap.get? b=ž u->h'.get? b=ž u):Inv X pins σ H {s with heap:=h',toks:=t'}:=I.un (Un.kept k) (I.aw.kept k)
theorem Inv.laid{a:Qg}{o:HO}{t':Nat}(I:Inv X pins σ H s)(k:∀b u,s.heap.get? b=ž u->h'.get? b=ž u)(hp:s.heap.objs.size<=a)(new:zP X.prog X.w X.K (upd H a o) h' a o):
  Inv X pins σ (upd H a o) {s with heap:=h',toks:=t'}:=I.un (Un.laid k hp<|I.aw.fresh hp) (I.aw.laid k hp new)
theorem Inv.write{x e:Qg}{o:HO}{t':Nat}(I:Inv X pins σ H s)(mu:CH (H x))(he:e=x\/H e=ž (.own x))(k:∀b u,b≠e->s.heap.get? b=ž u->h'.get? b=ž u)(yx:∃u,h'.get? e=ž u)
  (new:zP X.prog X.w X.K (upd H x o) h' x o):Inv X pins σ (upd H x o) {s with heap:=h',toks:=t'}:=I.un (Un.write mu he k yx) (I.aw.write mu he k yx new)
theorem Inv.weak{aF:Qa (Qb V)}(I:Inv X pins σ H s)(hl:aF.length=σ.length)(w:∀(i:Nat) v,aF[i]?=ž (ž v)->σ[i]?=ž (ž v)):Inv X pins aF H s :=
 ⟨I.ok,I.os,I.bare,I.base,let ⟨m,hn,wg⟩:=I.loc;⟨m,hn,λi x v e1 e2 e3=>wg i x v e1 (w i v e2) e3⟩,I.cell,I.free,I.b7,I.pin,I.aw,hl.trans I.len⟩
theorem Inv.cL{ub:Qa (Qg×Obj)}(I:Inv X pins σ H s)(h:∀p∈ub,s.heap.get? p.1=ž p.2/\H p.1=Ž/\p.1≠X.env.locals/\p.1∉X.fs/\∀v,p.2.data≠.cell v):Inv X ub σ H s :=
 ⟨I.ok,I.os,I.bare,I.base,I.loc,I.cell,I.free,I.b7,λp hp=>(Á.mp hp).elim (λz=>I.pin p<|Í _ z)<|h p,I.aw,I.len⟩
theorem Q0{N:Qa Str}(hN:N.Nodup){i j:Nat}{x:Str}(a:N[i]?=ž x)(b:N[j]?=ž x):i=j:=by
 have(h1,e1):=qm.mp a;have(h2,e2):=qm.mp b;exact(a5n hN).mp<|e1.trans e2.symm
theorem wV{p:Prop}(h:p:=by first|exact .inl rfl|exact .inr rfl|assumption):p:=h
theorem Ā(h:True:=by exact wV):True:=h
abbrev ā:=Ā._auto_1
theorem RG{M:Model}{A:Qf}{E:Qc->Qd->Prop}{i:Nat}{x:Str}{v:V}{u:Qc}{Q:Unit->Qd->Prop}(I:Inv X pins σ H s)(hN:X.N.Nodup)(hi:X.N[i]?=ž x)(hx:Loc X.env.scope x)(r:zE v u)
  (h:∀s',Inv X pins (σ.set i<|some v) H s'->(∃a,ύ a s.heap s'.heap/\(a=X.env.locals\/X.env.cells.lookup x=ž a))->Q () s') (hf:autoParam (X.fn x=ż\/X.env.scope.names.lookup x=ž .local) ā):ĩ M A (storeName X.env x u) Q E s:=by
 have(m,hn,hl):=id I.loc;have Mn:(X.env.scope.kind==.class || (X.env.scope.kind==.module && X.env.locals != X.env.globals))=Ż:=by rw[I.ok.kind];rfl
 have BW:i < σ.length:=by rw[I.len];exact(qm.mp hi).1
 have qX:=I.qX;have tracked:∀{a:Qg} {h':Ļ},(∃o,s.heap.get? a=ž o/\H a=Ž)->ύ a s.heap h'->b9 X.prog X.w X.K H h':=λ{a h'} ha hs b ob e=>by
  have(_,_,uB):=ha;refine(I.aw b ob e).dZ (λc w' hc q=>(hs.2 c ?_).trans q) (λ_ q=>q) λ_ _ q=>q;rintro rfl;rcases hc with rfl|hc
  .rw[uB]at e;cases e
  .rw[uB]at hc;cases hc
 rcases hx with hk|hk
 .refine wpAny_storeName_local hk hn (λh' hn' hs=>?_) Mn
  have(oL,_,_,BP,_):=id hn;refine h _ ⟨I.ok,I.os,I.bare,⟨λb o e n hb hx=>?_,λb o e n hb hx=>?_,I.base.free,λb o e hx=>?_,I.base.gD,I.base.fL,I.base.hX⟩,⟨_,hn',λj y v' e1 e2 e3=>?_⟩,λy c e=>?_,I.free,I.b7,λp hp=>?_,tracked ⟨oL,BP,I.free⟩ hs,by simpa using I.len⟩ ⟨_,hs,.inl rfl⟩
  .exact(hs.2 b<|qk<|qj (qi e) I.ok.above).trans (I.base.keep b o e n hb hx)
  .have(sl,e1):=I.base.slot b o e n hb hx
   exact⟨sl,(hs.2 b<|qk<|qj (qi e) I.ok.above).trans e1⟩
  .have(o',e1):=I.base.there b o e hx
   exact⟨o',(hs.2 b<|qk<|qj (qi e) I.ok.above).trans e1⟩
  .by_cases hj:j=i
   .subst hj
    rw[hi]at e1;cases e1;rw[ŉ BW]at e2;cases e2;exact⟨u,r,.inl ⟨hk,by simp⟩⟩
   .rw[qD<|ň hj]at e2
    have(u',r',q):=hl j y v' e1 e2 e3;refine⟨u',r',?_⟩;rcases q with⟨k,e⟩|⟨k,c,e,z⟩
    .refine .inl ⟨k,?_⟩
     have:y≠x:=λe=>hj<|Q0 hN e1<|e▸hi;simp[this,e]
    .exact .inr ⟨k,c,e,z.sameBut hs<|qX y c e⟩
  .have(w',z):=I.cell y c e
   exact⟨w',z.sameBut hs<|qX y c e⟩
  .have(e,n,ne,nf,d):=I.pin p hp
   exact⟨(hs.2 p.1 ne).trans e,n,ne,nf,d⟩
 .have Mi:X.fn x=ż:=by
   rcases hf with z|z
   .exact z
   .rw[z]at hk;cases hk
  have(c,hc):=I.ok.has x (.inl hk);have(w',z):=I.cell x c hc;refine wpAny_storeName_cell I.ok.kind hk hc z λh' mX hs=>?_;have(oc,VW,Mb):=id z;refine h {s with heap:=h'} ⟨I.ok,I.os,I.bare,⟨λb o e n hb hx=>?_,λb o e n hb hx=>?_,I.base.free,λb o e hx=>?_,I.base.gD,I.base.fL,I.base.hX⟩,⟨m,hn.sameBut hs<|ň<|qX x c hc,λj y v' e1 e2 e3=>?_⟩,λy c' e=>?_,I.free,I.b7,λp hp=>?_,tracked ⟨oc,VW,I.b7 x c hc⟩ hs,by simpa using I.len⟩ ⟨c,hs,.inr hc⟩
  .exact(hs.2 b<|qk<|qj (qi e)<|I.ok.yE x c Mi hc).trans (I.base.keep b o e n hb hx)
  .have(sl,e1):=I.base.slot b o e n hb hx
   exact⟨sl,(hs.2 b<|qk<|qj (qi e)<|I.ok.yE x c Mi hc).trans e1⟩
  .have(o',e1):=I.base.there b o e hx
   exact⟨o',(hs.2 b<|qk<|qj (qi e)<|I.ok.yE x c Mi hc).trans e1⟩
  .by_cases hj:j=i
   .subst hj
    rw[hi]at e1;cases e1;rw[ŉ BW]at e2;cases e2;exact⟨u,r,.inr ⟨.inl hk,c,hc,mX⟩⟩
   .rw[qD<|ň hj]at e2
    have(u',r',q):=hl j y v' e1 e2 e3;refine⟨u',r',?_⟩;rcases q with q|⟨k,c',e,z'⟩
    .exact .inl q
    .refine .inr ⟨k,c',e,z'.sameBut hs ?_⟩
     rintro rfl;exact hj<|Q0 hN e1<|I.ok.inj _ _ _ e hc▸hi
  .by_cases V9:c'=c
   .subst V9;exact⟨_,mX⟩
   .have(w2,z2):=I.cell y c' e
    exact⟨w2,z2.sameBut hs V9⟩
  .have(e,n,ne,nf,d):=I.pin p hp
   refine⟨(hs.2 p.1 ?_).trans e,n,ne,nf,d⟩;intro q;rw[q,VW]at e;have q':oc=p.2:=qy e;exact d w' (by rw[<-q'];exact Mb)
theorem EB{M:Model}{A:Qf}{E:Qc->Qd->Prop}{i:Nat}{x:Str}{v:V}{u:Qc}{Q:Unit->Qd->Prop}(I:Inv X pins σ H s)(hN:X.N.Nodup)(hi:X.N[i]?=ž x)(hx:Loc X.env.scope x)(r:zE v u)
  (h:∀s',Inv X pins (σ.set i<|some v) H s'->Q () s') (hf:autoParam (X.fn x=ż\/X.env.scope.names.lookup x=ž .local) ā):ĩ M A (storeName X.env x u) Q E s :=
 RG I hN hi hx r (λs' I' _=>h s' I') hf
theorem Inv.uJ{s':Qd}{ch:Qa Qg}(I:Inv X pins σ H s)(ho:s'.os=s.os)(u:Un (m6 X.stack) ch H H' s.heap s'.heap)(aw:b9 X.prog X.w X.K H' s'.heap)(hg:a0W s'.gens)
  (qT:∀b∈ch,(b∈X.ex\/X.bf.heap.objs.size<=b)/\b≠X.env.locals/\(∀x c,X.env.cells.lookup x=ž c->c≠b)/\∀p∈X.pn++pins,p.1≠b):Inv X pins σ H' s':=by
 have(h',g',d',t',o'):=s';have e:o'=s.os:=ho;subst e;exact I.call (g':=g') (t':=t') (d':=d') u aw hg qT
end
abbrev XK:=Qc->Qb Qg->Hp->Prop
abbrev St:=Qa (Qb V)
abbrev VK:=V->Hp->Prop
abbrev TE:=St->Hp->VK->Prop
abbrev TT:=St->Hp->(Bool->Hp->Prop)->Prop
abbrev TA:=St->Hp->(Qa V->Hp->Prop)->Prop
structure Ends where
 nx:St->Hp->Prop
 rt:VK
 bk:St->Hp->Prop:=λ_ _=>False
 ct:St->Hp->Prop:=λ_ _=>False
abbrev TS:=Ends->St->Hp->Prop
def EP(X:Cx)(pins:Qa (Qg×Obj))(σ:St)(Q:VK)(u:Qc)(s':Qd):Prop:=∃v H',Inv X pins σ H' s'/\zE v u/\Q v H'
def TP(X:Cx)(pins:Qa (Qg×Obj))(σ:St)(Q:Bool->Hp->Prop)(b:Bool)(s':Qd):Prop:=∃H',Inv X pins σ H' s'/\Q b H'
def AP(X:Cx)(pins:Qa (Qg×Obj))(σ:St)(Q:Qa V->Hp->Prop)(us:Qa Qc)(s':Qd):Prop:=∃vs H',Inv X pins σ H' s'/\zJ vs us/\Q vs H'
def SP(X:Cx)(pins:Qa (Qg×Obj))(D:Ends)(f:Flow)(s':Qd):Prop :=
 match f with
 |.next=>∃aF H',Inv X pins aF H' s'/\D.nx aF H'
 |.brk=>∃aF H',Inv X pins aF H' s'/\D.bk aF H'
 |.cont=>∃aF H',Inv X pins aF H' s'/\D.ct aF H'
 |.ret u=>∃v aF H',Inv X pins aF H' s'/\zE v u/\D.rt v H'
def PE(X:Cx)(e:ĺ)(t:TE):Prop :=
 ∀(pins:Qa (Qg×Obj)) (s:Qd) (σ:St) (H:Hp) (Q:VK),Inv X pins σ H s->t σ H Q->ĩ (Ĭ X.prog X.w) X.A (Ť e X.env) (EP X pins σ Q) X.xe s
def PT(X:Cx)(e:ĺ)(t:TT):Prop :=
 ∀(pins:Qa (Qg×Obj)) (s:Qd) (σ:St) (H:Hp) (Q:Bool->Hp->Prop),Inv X pins σ H s->t σ H Q->ĩ (Ĭ X.prog X.w) X.A (a3b e X.env<|Ť e X.env) (TP X pins σ Q) X.xe s
def PW(X:Cx)(e:ĺ)(t:TT):Prop :=
 ∀(whole:Sem Qc) (pins:Qa (Qg×Obj)) (s:Qd) (σ:St) (H:Hp) (Q:Bool->Hp->Prop),Inv X pins σ H s->t σ H Q->ĩ (Ĭ X.prog X.w) X.A (a3b e X.env whole) (TP X pins σ Q) X.xe s
theorem PW.pt{X:Cx}{e:ĺ}{t:TT}(h:PW X e t):PT X e t:=h _
def PA(X:Cx)(es:Qa ĺ)(t:TA):Prop :=
 ∀(pos:Pos) (pins:Qa (Qg×Obj)) (s:Qd) (σ:St) (H:Hp) (Q:Qa V->Hp->Prop),Inv X pins σ H s->t σ H Q->ĩ (Ĭ X.prog X.w) X.A (spliced<|Ω pos<|ŏ es X.env) (AP X pins σ Q) X.xe s
def PS(X:Cx)(st:Ś)(t:TS):Prop :=
 ∀(pins:Qa (Qg×Obj)) (s:Qd) (σ:St) (H:Hp) (D:Ends),Inv X pins σ H s->t D σ H->ĩ (Ĭ X.prog X.w) X.A (exec st X.env) (SP X pins D) X.xe s
def fN(X:Cx)(st:Qa Ś)(t:TS):Prop :=
 ∀(pins:Qa (Qg×Obj)) (s:Qd) (σ:St) (H:Hp) (D:Ends),Inv X pins σ H s->t D σ H->ĩ (Ĭ X.prog X.w) X.A (execs st X.env) (SP X pins D) X.xe s
theorem az{α:Type}{t:Sem α}{Q Q':α->Qd->Prop}{M:Model}{A:Qf}{E:Qc->Qd->Prop}{s:Qd}(h:ĩ M A t Q E s)(hQ:∀a s,Q a s->Q' a s):ĩ M A t Q' E s:=ļ h hQ λ_ _ x=>x
section
variable{X:Cx}
theorem bin{a b:ĺ}{ta tb:TE}(ha:PE X a ta)(hb:PE X b tb){pins:Qa (Qg×Obj)}{s:Qd}{σ:St}{H:Hp}{R:V->V->Hp->Prop}(I:Inv X pins σ H s)(h:ta σ H λx H1=>tb σ H1 λy H2=>R x y H2)
  {α:Type} {Q:α->Qd->Prop} {f:Qc->Qc->Sem α}
  (hf:∀v u s2 x y H2,Inv X pins σ H2 s2->zE x v->zE y u->R x y H2->ĩ (Ĭ X.prog X.w) X.A (f v u) Q X.xe s2):
  ĩ (Ĭ X.prog X.w) X.A (Ť a X.env) (λv aB=>ĩ (Ĭ X.prog X.w) X.A (Ť b X.env) (λu fG=>ĩ (Ĭ X.prog X.w) X.A (f v u) Q X.xe fG) X.xe aB) X.xe s:=by
 refine az (ha pins s σ H _ I h) λv s1 hZ=>?_;have(x,H1,I1,r1,q1):=hZ;refine az (hb pins s1 σ H1 _ I1 q1) λu s2 hZ=>?_;have(y,H2,I2,r2,q2):=hZ;exact hf v u s2 x y H2 I2 r1 r2 q2
def fQ(i:Nat):TE:=λσ H Q=>∃v,σ[i]?=ž (ž v)/\Q v H
def tC(v:V):TE:=λ_ H Q=>Q v H
theorem X1{i:Nat}{x:Str}{pos:Pos}(hN:X.N[i]?=ž x)(hv:F9 X.env.scope x)(hd:autoParam ((x==("__debug__":Str))=Ż) ă)(mW:autoParam ((x==("__classdict__":Str))=Ż) ă):PE X (.Name x pos) (fQ i):=by
 intro pins s σ H Q I h;have(v,e,h):=h;have(m,hn,hl):=I.loc;have(u,r,l):=hl i x v hN e hv;have fin:EP X pins σ Q u s:=⟨v,H,I,r,h⟩;rcases l with⟨hk,hm⟩|⟨hk,c,hc,uC⟩
 .exact wpAny_Name (wpAny_loadName_local I.ok.kind hk hn hm fin) hd
 .rcases hk with hk|hk
  .exact wpAny_Name (wpAny_loadName_cell I.ok.kind hk hc uC fin) hd
  .exact wpAny_Name (wpAny_loadName_free I.ok.kind hk hc uC fin mW) hd
theorem X0{i j pos}:PE X (.Constant (.int i) j pos) (tC<|.int i):=λ_ _ _ H _ I h=>wpAny_Constant_int ⟨.int i,H,I.tok _,⟨_,rfl⟩,h⟩
theorem zCz{b j pos}:PE X (.Constant (.bool b) j pos) (tC<|.bl b):=λ_ _ _ H _ I h=>Constant_bool ⟨.bl b,H,I,rfl,h⟩
theorem XZ{j pos}:PE X (.Constant .none j pos) (tC .aM):=λ_ _ _ H _ I h=>Constant_none ⟨.aM,H,I,rfl,h⟩
theorem XY{x j pos}:PE X (.Constant (.str x) j pos) (tC<|.str x):=λ_ _ _ H _ I h=>Calls.Constant_str ⟨.str x,H,I.tok _,⟨_,rfl⟩,h⟩
def Gl(X:Cx)(x:Str):Prop:=X.env.kindOf x=ž .globalImplicit
theorem IJ{E:Qc->Qd->Prop}{pins:Qa (Qg×Obj)}{s:Qd}{σ:St}{H:Hp}{x:Str}{u:Qc}{pos:Pos}{Q:Qc->Qd->Prop}(I:Inv X pins σ H s)(hg:Gl X x)(hm:X.mg x=ž u)(h:Q u s)
  (hd:autoParam ((x==("__debug__":Str))=Ż) ă):ĩ (Ĭ X.prog X.w) X.A (Ť (.Name x pos) X.env) Q E s :=
 a2U I.ok.kind hg (Calls.loadGlobal_global (by rw[I.ok.glob];exact I.mod.glob.keeps I.bk) hm h) hd
theorem vi{E:Qc->Qd->Prop}{pins:Qa (Qg×Obj)}{s:Qd}{σ:St}{H:Hp}{x:Str}{u:Qc}{pos:Pos}{Q:Qc->Qd->Prop}(I:Inv X pins σ H s)(hg:Gl X x)(hm:X.mg x=Ž)(hv:Ÿ x=ž u)(h:Q u s)
  (hn:autoParam (x ≠ "__name__") ă) (hd:autoParam ((x==("__debug__":Str))=Ż) ă):ĩ (Ĭ X.prog X.w) X.A (Ť (.Name x pos) X.env) Q E s:=by
 have(mb,h1,h2):=I.mod.blt;exact a2U I.ok.kind hg (Calls.loadGlobal_builtin (by rw[I.ok.glob];exact I.mod.glob.keeps I.bk) hm (by rw[I.ok.blt];exact h1.keeps I.bk) ((h2 x hn).trans hv) h) hd
theorem zvH{x:Str}{v:V}{u:Qc}{pos:Pos}(hg:Gl X x)(hm:X.mg x=ž u)(r:zE v u)(hd:autoParam ((x==("__debug__":Str))=Ż) ă):PE X (.Name x pos) (tC v):=
 λ_ _ _ H _ I h=>IJ I hg hm ⟨v,H,I,r,h⟩ hd
theorem zvI{x:Str}{v:V}{u:Qc}{pos:Pos}(hg:Gl X x)(hm:X.mg x=Ž)(hv:Ÿ x=ž u)(r:zE v u)(hn:autoParam (x ≠ "__name__") ă)(hd:autoParam ((x==("__debug__":Str))=Ż) ă):PE X (.Name x pos) (tC v):=
 λ_ _ _ H _ I h=>vi I hg hm hv ⟨v,H,I,r,h⟩ hn hd
variable{a b:ĺ}{ta tb:TE}{pos:Pos}
def PC(X:Cx)(op:a2T)(a b:ĺ)(t:TE):Prop :=
 ∀(pins:Qa (Qg×Obj)) (s:Qd) (σ:St) (H:Hp) (Q:VK),Inv X pins σ H s->t σ H Q->
  ĩ (Ĭ X.prog X.w) X.A (Ť a X.env) (λv aB=>ĩ (Ĭ X.prog X.w) X.A (Ť b X.env) (λu fG=>ĩ (Ĭ X.prog X.w) X.A (Ň op v u) (EP X pins σ Q) X.xe fG) X.xe aB) X.xe s
theorem zrz(b:ĺ){op:a2T}(h:op≠.In)(h2:op≠.NotIn):ů op b=Ż:=by
 have e1:(op==CmpOp.In)=Ż:=by cases op<;>first|rfl|exact absurd rfl h
 have e2:(op==CmpOp.NotIn)=Ż:=by cases op<;>first|rfl|exact absurd rfl h2
 cases b<;>simp[ů,e1,e2]
def tB(t:TE):TT:=λσ H Q=>t σ H λx H1=>∃c,x=.bl c/\Q c H1
theorem OS{op:a2T}{t:TE}(h:PC X op a b t)(h1:ů op b=Ż:=by first|exact zrz _ (by decide) (by decide) |rfl):PT X (.Compare a [op] [b] pos) (tB t):=by
 intro pins s σ H Q I hw;refine a5f (az (h pins s σ H _ I hw) λv s1 h1=>az h1 λu s2 h2=>az h2 λc s3 hZ=>?_) h1;have(x,H1,I1,r1,q1):=hZ;have(d,rfl,q):=q1;cases r1;exact Ř ⟨H1,I1,q⟩
theorem XX{e:ĺ}{t:TE}(h:PE X e t)(he:autoParam (∀whole,a3b e X.env whole=(do let v <-whole;Χ e.pos;Ϟ [v] (truthy v))) ą):PT X e (tB t):=by
 intro pins s σ H Q I hw;refine isTrue_plain (az (h pins s σ H _ I hw) λv s1 hZ=>?_)<|he _;have(x,H1,I1,r1,q1):=hZ;have(d,rfl,q):=q1;cases r1;exact Ř ⟨H1,I1,q⟩
variable{tA qF:TT}{rest:Qa ĺ}
def Gx(t u:TT):TT:=λσ H Q=>t σ H λc H1=>if c=ż then u σ H1 Q else Q Ż H1
def K5(t u:TT):TT:=λσ H Q=>t σ H λc H1=>if c=ż then Q ż H1 else u σ H1 Q
def Gw(t:TT):TT:=λσ H Q=>t σ H λc H1=>Q (!c) H1
theorem zvJ(ha:PT X a tA):PW X (.BoolOp .And [a] pos) tA:=by
 intro wh pins s σ H Q I h;refine isTrue_and<|az (ha pins s σ H Q I h) λc s1 e=>?_;cases c with
 |true=>exact isTrue_and_nil e
 |false=>exact e
theorem XW(ha:PT X a tA):PW X (.BoolOp .Or [a] pos) tA:=by
 intro wh pins s σ H Q I h;refine isTrue_or<|az (ha pins s σ H Q I h) λc s1 e=>?_;cases c with
 |false=>exact isTrue_or_nil e
 |true=>exact e
theorem XU(ha:PT X a tA)(hb:PW X (.BoolOp .And (b::rest) pos) qF):PW X (.BoolOp .And (a::b::rest) pos) (Gx tA qF):=by
 intro wh pins s σ H Q I h;refine isTrue_and<|az (ha pins s σ H _ I h) λc s1 hZ=>?_;have(H1,I1,q1):=hZ;cases c with
 |true=>exact hb wh pins s1 σ H1 Q I1 q1
 |false=>exact⟨H1,I1,q1⟩
theorem zCA(ha:PT X a tA)(hb:PW X (.BoolOp .Or (b::rest) pos) qF):PW X (.BoolOp .Or (a::b::rest) pos) (K5 tA qF):=by
 intro wh pins s σ H Q I h;refine isTrue_or<|az (ha pins s σ H _ I h) λc s1 hZ=>?_;have(H1,I1,q1):=hZ;cases c with
 |true=>exact⟨H1,I1,q1⟩
 |false=>exact hb wh pins s1 σ H1 Q I1 q1
theorem XT(ha:PT X a tA):PT X (.UnaryOp .Not a pos) (Gw tA):=by
 intro pins s σ H Q I h;exact isTrue_not<|ha pins s σ H (λc H1=>Q (!c) H1) I h
def Hz(ta tb:TE):TE:=λσ H Q=>ta σ H λx H1=>∃c,x=.bl c/\if c=ż then tb σ H1 Q else Q (.bl Ż) H1
def Hy(ta:TE):TE:=λσ H Q=>ta σ H λx H1=>∃c,x=.bl c/\Q (.bl (!c)) H1
theorem XS{op}{t:TE}(h:PE X a t):PE X (.BoolOp op [a] pos) t:=λpins s σ H Q I hw=>BoolOp_one<|h pins s σ H Q I hw
theorem XR(ha:PE X a ta)(hb:PE X (.BoolOp .And (b::rest) pos) tb):PE X (.BoolOp .And (a::b::rest) pos) (Hz ta tb):=by
 intro pins s σ H Q I h;refine BoolOp_and<|az (ha pins s σ H _ I h) λv s1 hZ=>?_;have(x,H1,I1,r1,q1):=hZ;have(c,rfl,q1):=q1;cases r1;refine Ř ?_;cases c with
 |true=>exact hb pins s1 σ H1 Q I1 q1
 |false=>exact⟨.bl Ż,H1,I1,rfl,q1⟩
theorem XQ(ha:PE X a ta):PE X (.UnaryOp .Not a pos) (Hy ta):=by
 intro pins s σ H Q I h;refine UnaryOp_<|az (ha pins s σ H _ I h) λv s1 hZ=>?_;have(x,H1,I1,r1,q1):=hZ;have(c,rfl,q1):=q1;cases r1;exact not_of<|Ř ⟨.bl (!c),H1,I1,rfl,q1⟩
def K6(t:TT)(ta tb:TE):TE:=λσ H Q=>t σ H λc H1=>if c=ż then ta σ H1 Q else tb σ H1 Q
theorem zrD{c:ĺ}(hc:PT X c tA)(ha:PE X a ta)(hb:PE X b tb):PE X (.IfExp c a b pos) (K6 tA ta tb):=by
 intro pins s σ H Q I h;refine wpAny_IfExp<|az (hc pins s σ H _ I h) λd s1 hZ=>?_;have(H1,I1,q1):=hZ;cases d with
 |true=>exact ha pins s1 σ H1 Q I1 q1
 |false=>exact hb pins s1 σ H1 Q I1 q1
end
def bu(K:qc)(H:Hp)(a:Qg)(xs:Qa V):Prop :=
 Rd H a (.lst xs)\/
  ∃(o:Obj) (ah:Array Qc) (n:Nat),K.lookup a=ž o/\o.cls=.type "list"/\o.dict=Ž/\o.data=.seq ah n/\ah.size<=ħ/\zJ xs ah.toList
def cH(K:qc)(H:Hp)(a:Qg)(xs:Qa V):Prop :=
 Rd H a (.tup xs)\/
  ∃(o:Obj) (ah:Array Qc) (n:Nat),K.lookup a=ž o/\o.cls=.type "tuple"/\o.data=.seq ah n/\ah.size<=ħ/\zJ xs ah.toList
noncomputable def zER:Qc->Qb V
 |.none=>ž .aM
 |.bool b=>ž<|.bl b
 |.int i _=>ž<|.int i
 |.str x _=>ž<|.str x
 |.bytes b _=>ž<|.yF b
 |.float b _=>ž<|.wy b
 |.ref a=>ž<|.ref a
 |.type n=>ž<|.ty n
 |_=>Ž
theorem zE.abs{x:V}{u:Qc}(r:zE x u):zER u=ž x:=by
 cases x with
 |aM=>cases r;rfl
 |bl _=>cases r;rfl
 |int _=>have(t,rfl):=r;rfl
 |str _=>have(t,rfl):=r;rfl
 |yF _=>have(t,rfl):=r;rfl
 |wy _=>have(t,rfl):=r;rfl
 |ref _=>cases r;rfl
 |ty _=>cases r;rfl
theorem zE.inj{x y:V}{u:Qc}(r:zE x u)(q:zE y u):x=y:=qy (r.abs.symm.trans q.abs)
theorem zJ.inj{xs ys:Qa V}{us:Qa Qc}(h:zJ xs us)(h':zJ ys us):xs=ys:=by
 induction h generalizing ys with
 |nil=>cases h';rfl
 |cons r _ ih=>cases h' with
  |cons r' t'=>rw[r.inj r',ih t']
section
variable{X:Cx}{pins:Qa (Qg×Obj)}{σ:St}{H:Hp}{s:Qd}{a:Qg}{xs ys:Qa V}
theorem bu.of{K:qc}(h:H a=ž (.lst xs)):bu K H a xs:=.inl (.inl h)
theorem Inv.list(I:Inv X pins σ H s)(h:bu X.K H a xs):∃ah:Qa Qc,zJ xs ah/\PlainL s.heap a ah.toArray/\xs.length<=ħ:=by
 rcases h with h|⟨o,ah,n,hk,hc,hd,hs,hz,r⟩
 .have(z,ah,n,r,e):=h.ok I.aw
  exact⟨ah,r,⟨_,n,e,rfl,rfl,rfl⟩,z⟩
 .refine⟨ah.toList,r,⟨o,n,I.aZ a o hk,hc,hd,by simpa using hs⟩,?_⟩
  have e:=r.length;simp only[ś]at e;omega
theorem Inv.tuple(I:Inv X pins σ H s)(h:cH X.K H a xs):∃ah:Qa Qc,zJ xs ah/\a1R s.heap a ah.toArray/\xs.length<=ħ:=by
 rcases h with h|⟨o,ah,n,hk,hc,hs,hz,r⟩
 .have(z,ah,r,p):=h.ok I.aw
  exact⟨ah,r,p.tup,z⟩
 .refine⟨ah.toList,r,⟨o,I.aZ a o hk,hc,n,by simpa using hs⟩,?_⟩
  have e:=r.length;simp only[ś]at e;omega
theorem Inv.jC(I:Inv X pins σ H s)(h:bu X.K H a xs)(h':bu X.K H a ys):xs=ys:=by
 obtain⟨ah,r,⟨o,n,e,_,_,d⟩,_⟩:=I.list h;obtain⟨its',r',⟨o',n',e',_,_,d'⟩,_⟩:=I.list h';rw[e]at e';cases e';rw[d]at d';injection d' with d1 _;have:ah=its':=by simpa using congrArg a3u d1
 subst this;exact r.inj r'
theorem Inv.iE(I:Inv X pins σ H s)(h:cH X.K H a xs)(h':cH X.K H a ys):xs=ys:=by
 obtain⟨ah,r,⟨o,e,_,n,d⟩,_⟩:=I.tuple h;obtain⟨its',r',⟨o',e',_,n',d'⟩,_⟩:=I.tuple h';rw[e]at e';cases e';rw[d]at d';injection d' with d1 _;have:ah=its':=by simpa using congrArg a3u d1
 subst this;exact r.inj r'
end
noncomputable abbrev Cx.hW(X:Cx)(E:Qc->Qd->Prop):Cx:={X with xe:=E}
abbrev Cx.uc(X:Cx):Cx:=X.hW λ_ _=>False
theorem Cx.Ok.hW{X:Cx}(ok:X.Ok)(E:Qc->Qd->Prop):(X.hW E).Ok :=
 ⟨ok.mod,ok.kind,ok.glob,ok.blt,ok.above,ok.inj,ok.has,ok.yE,ok.hd,ok.frames,ok.AY,ok.F0,ok.bs,ok.qY,ok.mQ,ok.pq,ok.eX,ok.uF⟩
theorem Cx.Ok.cI{X:Cx}{E:Qc->Qd->Prop}(ok:(X.hW E).Ok):X.Ok :=
 ⟨ok.mod,ok.kind,ok.glob,ok.blt,ok.above,ok.inj,ok.has,ok.yE,ok.hd,ok.frames,ok.AY,ok.F0,ok.bs,ok.qY,ok.mQ,ok.pq,ok.eX,ok.uF⟩
section
variable{X:Cx}{pins:Qa (Qg×Obj)}{σ:St}{H:Hp}{s:Qd}{E:Qc->Qd->Prop}
theorem Inv.hW(I:Inv X pins σ H s)(E:Qc->Qd->Prop):Inv (X.hW E) pins σ H s:=⟨I.ok.hW E,I.os,I.bare,I.base,I.loc,I.cell,I.free,I.b7,I.pin,I.aw,I.len⟩
theorem Inv.cI(I:Inv (X.hW E) pins σ H s):Inv X pins σ H s:=⟨I.ok.cI,I.os,I.bare,I.base,I.loc,I.cell,I.free,I.b7,I.pin,I.aw,I.len⟩
theorem SP.cI{D:Ends}{f:Flow}{s':Qd}(h:SP (X.hW E) pins D f s'):SP X pins D f s':=by
 cases f with
 |next=>have(aF,H',I,q):=h;exact⟨aF,H',I.cI,q⟩
 |brk=>have(aF,H',I,q):=h;exact⟨aF,H',I.cI,q⟩
 |cont=>have(aF,H',I,q):=h;exact⟨aF,H',I.cI,q⟩
 |ret u=>have(v,aF,H',I,r,q):=h;exact⟨v,aF,H',I.cI,r,q⟩
theorem fN.uc{st:Qa Ś}{t:TS}(h:fN X.uc st t):fN X st t:=λpins s σ H D I hw=>
 ļ (h pins s σ H D (I.hW _) hw) (λ_ _ q=>q.cI) λ_ _ z=>ŷ z
end
section
variable{X:Cx}{st:Ś}{rest:Qa Ś}{t u:TS}{e:ĺ}{te:TE}{pos:Pos}
def Hw:TS:=λD σ H=>D.nx σ H
def Ds(t u:TS):TS:=λD σ H=>t {D with nx:=u D} σ H
theorem zvL:fN X [] Hw:=λ_ _ σ H _ I h=>a1y ⟨σ,H,I,h⟩
theorem zrF(h1:PS X st t)(h2:fN X rest u):fN X (st::rest) (Ds t u):=by
 intro pins s σ H D I h;refine wpAny_execs_cons<|az (h1 pins s σ H {D with nx:=u D} I h) λf s1 q=>?_;cases f with
 |next=>
  have(aF,H',I',q):=q;exact h2 pins s1 aF H' D I' q
 |ret v=>exact q
 |brk=>exact q
 |cont=>exact q
theorem zvM(h1:PS X st t):fN X [st] t:=by
 intro pins s σ H D I h;refine wpAny_execs_cons<|az (h1 pins s σ H D I h) λf s1 q=>?_;cases f with
 |next=>exact a1y q
 |ret v=>exact q
 |brk=>exact q
 |cont=>exact q
theorem Inv.quiet{pins:Qa (Qg×Obj)}{σ:St}{H:Hp}{s:Qd}(I:Inv X pins σ H s):interactive X.env=Ż:=by simp[interactive,I.ok.kind]
def Hv(te:TE):TS:=λD σ H=>te σ H λ_ H1=>D.nx σ H1
theorem zvN(he:PE X e te)(hs:autoParam (Ο e Ž pos.line X.env=pure Ż) ć):PS X (.Expr e pos) (Hv te):=by
 intro pins s σ H D I h;exact wpAny_Expr_any (az (he pins s σ H _ I h) λv s1 ⟨x,H1,I1,r1,q1⟩=>⟨σ,H1,I1,q1⟩) I.quiet hs
def Dr(te:TE):TS:=λD σ H=>te σ H D.rt
theorem XO(he:PE X e te):PS X (.Return (ž e) pos) (Dr te):=by
 intro pins s σ H D I h;exact wpAny_Return_some<|az (he pins s σ H _ I h) λv s1 ⟨x,H1,I1,r1,q1⟩=>⟨x,σ,H1,I1,r1,q1⟩
def Gv(c:TT)(t u:TS):TS:=λD σ H=>c σ H λb H1=>if b=ż then t D σ H1 else u D σ H1
theorem zCB{c:ĺ}{a b:Qa Ś}{tc:TT}(hc:PT X c tc)(ha:fN X a t)(hb:fN X b u):PS X (.If c a b pos) (Gv tc t u):=by
 intro pins s σ H D I h;refine wpAny_If<|az (hc pins s σ H _ I h) λd s1 hZ=>?_;have(H1,I1,q1):=hZ;cases d with
 |true=>exact ha pins s1 σ H1 D I1 q1
 |false=>exact hb pins s1 σ H1 D I1 q1
end
abbrev TG:=V->St->Hp->(St->Hp->Prop)->Prop
abbrev jW:=Qa V->St->Hp->(St->Hp->Prop)->Prop
def PG(X:Cx)(target:ĺ)(t:TG):Prop :=
 ∀(pins:Qa (Qg×Obj)) (s:Qd) (σ:St) (H:Hp) (v:V) (u:Qc) (Q:St->Hp->Prop),Inv X pins σ H s->zE v u->t v σ H Q->
  ĩ (Ĭ X.prog X.w) X.A (χ target X.env u) (λ_ s'=>∃aF H',Inv X pins aF H' s'/\Q aF H') X.xe s
def uL(X:Cx)(ts:Qa ĺ)(t:jW):Prop :=
 ∀(pins:Qa (Qg×Obj)) (s:Qd) (σ:St) (H:Hp) (vs:Qa V) (us:Qa Qc) (Q:St->Hp->Prop),Inv X pins σ H s->zJ vs us->t vs σ H Q->
  ĩ (Ĭ X.prog X.w) X.A (a4q ((ϟ ts X.env).map (·.2)) us) (λ_ s'=>∃aF H',Inv X pins aF H' s'/\Q aF H') X.xe s
abbrev wZ:=V->V->V->Hp->(Hp->Prop)->Prop
def Dq(X:Cx)(t:wZ):Prop :=
 ∀(pins:Qa (Qg×Obj)) (s:Qd) (σ:St) (H:Hp) (o i v:V) (ov iv u:Qc) (Q:Hp->Prop),Inv X pins σ H s->zE o ov->zE i iv->zE v u->t o i v H Q->
  ĩ (Ĭ X.prog X.w) X.A (a2L ov iv u) (λ_ s'=>∃H',Inv X pins σ H' s'/\Q H') X.xe s
abbrev Gc:=V->V->Hp->VK->Prop
def Xg(X:Cx)(op:Operator)(t:Gc):Prop :=
 ∀(pins:Qa (Qg×Obj)) (s:Qd) (σ:St) (H:Hp) (x y:V) (v u:Qc) (Q:VK),Inv X pins σ H s->zE x v->zE y u->t x y H Q->
  ĩ (Ĭ X.prog X.w) X.A (inplaceOp op v u) (EP X pins σ Q) X.xe s
section
variable{X:Cx}{pos:Pos}
def iO(i:Nat):TG:=λv σ H Q=>Q (σ.set i<|some v) H
theorem zvQ{i:Nat}{x:Str}(hN:X.N.Nodup)(hi:X.N[i]?=ž x)(hx:Loc X.env.scope x)(hf:autoParam (X.fn x=ż\/X.env.scope.names.lookup x=ž .local) ā):PG X (.Name x pos) (iO i):=by
 intro pins s σ H v u Q I r h;exact wpAny_assign_Name<|EB I hN hi hx r (λs' I'=>⟨_,H,I',h⟩) hf
def Dp:jW:=λvs σ H Q=>vs=[]/\Q σ H
def yY(t:TG)(u:jW):jW:=λvs σ H Q=>∃v r,vs=v::r/\t v σ H λaF H'=>u r aF H' Q
theorem zvS:uL X [] Dp:=by
 intro pins s σ H vs us Q I r h;have(e,h):=h;subst e;cases r;exact assignInOrder_nil ⟨σ,H,I,h⟩
theorem zrH{e:ĺ}{es:Qa ĺ}{t:TG}{u:jW}(h1:PG X e t)(h2:uL X es u)
  (hs:autoParam ((ϟ (e::es) X.env).map (·.2)=χ e X.env::(ϟ es X.env).map (·.2)) ć):uL X (e::es) (yY t u):=by
 intro pins s σ H vs us Q I r h;have(v,vr,e1,h):=h;subst e1;cases r with
 |cons r rr=>
  rw[hs];refine a2s<|az (h1 pins s σ H _ _ _ I r h) λ_ s1 hZ=>?_;have(fO,H1,I1,q1):=hZ;exact h2 pins s1 fO H1 _ _ Q I1 rr q1
def Dn(K:qc)(n:Nat)(t:jW):TG:=λv σ H Q=>∃a xs,v=.ref a/\cH K H a xs/\xs.length=n/\t xs σ H Q
theorem XM{es:Qa ĺ}{k:Nat}{t:jW}{n:Nat}(hc:X.calm=ż)(h:uL X es t)
  (hn:autoParam ((ϟ es X.env).length=n) ć) (yr:autoParam ((ϟ es X.env).findIdx? (·.1)=Ž) ć):PG X (.Tuple es k pos) (Dn X.K n t):=by
 intro pins s σ H v u Q I r hw;have(a,xs,e1,hq,hl,hw):=hw;subst e1;cases r;have(ah,rv,ht,hz):=I.tuple hq;refine assign_Tuple_tuple (I.ok.hd hc) ht (by simp[hn,<-hl,rv.length]) yr λh' hx=>?_;have I1:Inv X pins σ H {s with heap:=h'}:=I.kept (t':=s.toks) λb o e=>hx b o (qk<|qi e) e;exact h pins _ σ H xs _ Q I1 (by simpa using rv) hw
def Gu(to ti:TE)(t:wZ):TG:=λv σ H Q=>to σ H λo H1=>ti σ H1 λi H2=>t o i v H2 λH3=>Q σ H3
theorem XJ{o i:ĺ}{to ti:TE}{t:wZ}(ho:PE X o to)(hi:PE X i ti)(hs:Dq X t)
  (ha:autoParam (∀v,χ (.Subscript o i pos) X.env v=(do
   let ov <-Ϟ [v] (Ť o X.env)
   let iv <-Ϟ [v,ov] (Ť i X.env)
   Χ pos
   Ϟ [v,ov,iv] (a2L ov iv v)
   release [v,ov,iv] [])) ą):PG X (.Subscript o i pos) (Gu to ti t):=by
 intro pins s σ H v u Q I r h;rw[ha];refine qa<|Ő<|az (ho pins s σ H _ I h) λov s1 hZ=>?_;have(x,H1,I1,r1,q1):=hZ;refine qa<|Ő<|az (hi pins s1 σ H1 _ I1 q1) λiv s2 hZ=>?_;have(y,H2,I2,r2,q2):=hZ;refine qa<|Ź<|qa<|Ő<|az (hs pins s2 σ H2 x y v ov iv u _ I2 r1 r2 r q2) λ_ s3 hZ=>?_;have(H3,I3,q3):=hZ;exact wpAny_release ⟨σ,H3,I3,q3⟩
def pN(te:TE)(g:TG):TS:=λD σ H=>te σ H λx H1=>g x σ H1 D.nx
theorem XI{tg e:ĺ}{te:TE}{g:TG}(he:PE X e te)(hg:PG X tg g)(hs:autoParam (a2g [tg] e pos.line X.env=pure Ż) ć)(hw:autoParam (a2h [tg] e X.env=pure Ž) ć)
  (h1:autoParam ((ϟ [tg] X.env).map (·.2)=[χ tg X.env]) ć):PS X (.Assign [tg] e pos) (pN te g):=by
 intro pins s σ H D I h;refine wpAny_Assign_stores (az (he pins s σ H _ I h) λv s1 hZ=>?_) hs hw;have(x,H1,I1,r1,q1):=hZ;rw[h1];exact az (hg pins s1 σ H1 x v _ I1 r1 q1) λ_ s2 q=>q
theorem XH{i:Nat}{x:Str}{e:ĺ}{te:TE}{pos':Pos}(hN:X.N.Nodup)(hi:X.N[i]?=ž x)(hx:Loc X.env.scope x)(he:PE X e te)(hs:autoParam (Ο e (ž<|.Name x pos') pos.line X.env=pure Ż) ć)(hf:autoParam (X.fn x=ż\/X.env.scope.names.lookup x=ž .local) ā):
  PS X (.Assign [.Name x pos'] e pos) (pN te<|iO i):=by
 intro pins s σ H D I h;refine wpAny_Assign_Name (az (he pins s σ H _ I h) λv s1 hZ=>?_) hs;have(y,H1,I1,r1,q1):=hZ;exact EB I1 hN hi hx r1 (λs2 I2=>⟨_,H1,I2,q1⟩) hf
def Gs(i j:Nat)(ta:TA):TS:=λD σ H=>ta σ H λvs H1=>∃v w,vs=[v,w]/\D.nx ((σ.set i<|some v).set j<|some w) H1
theorem XG{i j:Nat}{x y:Str}{a b:ĺ}{ta:TA}{px py pt:Pos}{kt k2 vM}(hc:X.calm=ż)(hN:X.N.Nodup)(hi:X.N[i]?=ž x)(hj:X.N[j]?=ž y)(qR:i≠j)
  (hx:X.env.scope.names.lookup x=ž .local) (hy:X.env.scope.names.lookup y=ž .local) (ha:PA X [a,b] ta)
  (hw:a2h [.Tuple [.Name x px,.Name y py] kt pt] (.Tuple [a,b] k2 vM) X.env=pure (ž [x,y]))
  (hs:autoParam (a2g [.Tuple [.Name x px,.Name y py] kt pt] (.Tuple [a,b] k2 vM) pos.line X.env=pure Ż) ć):
  PS X (.Assign [.Tuple [.Name x px,.Name y py] kt pt] (.Tuple [a,b] k2 vM) pos) (Gs i j ta):=by
 intro pins s σ H D I h;rw[exec_Assign_arm];refine qa<|Ź ?_;rw[hs];refine qa<|qb ?_;rw[a5F (by decide)];refine qa<|Tuple_<|az (ha _ pins s σ H _ I h) λus s1 hZ=>?_;have(vs,H1,I1,r1,q1):=hZ;have(v,w,e1,q1):=q1;subst e1;obtain⟨u1,u2,rfl,rv,ig⟩:∃u1 u2,us=[u1,u2]/\zE v u1/\zE w u2:=by
  cases r1 with
  |cons p q=>
   cases q with
   |cons p' q'=>
    cases q';exact⟨_,_,rfl,p,p'⟩
 refine qB ?_ (by show 2<=ħ;decide);have I2:Inv X pins σ H1 {s1 with heap:=s1.heap.push {cls:=.type "tuple",data:=.seq [u1,u2].toArray}}:=I1.kept (t':=s1.toks) λb o e=>qd _ e;rw[hw];refine qa<|qb ?_;show ĩ (Ĭ X.prog X.w) X.A (do rule "assign.swapped-stores";let items <-unpackItems (.ref s1.heap.objs.size) 2 Ž;a4q [λv=>bindName X.env y v,λv=>bindName X.env x v] items.reverse;pure Flow.next) _ _ _;refine qa<|ϝ<|qa<|unpackItems_tuple (items:=#[u1,u2]) (I.ok.hd hc) (IsTup.new s1.heap _) λh' mU=>?_;have I3:=I2.kept (h':=h') (t':=s1.toks) λb o e=>mU b o (qk<|qi e) e;show ĩ _ _ (a4q [λv=>bindName X.env y v,λv=>bindName X.env x v] [u2,u1] >>= λ_=>pure Flow.next) _ _ _;refine qa<|a2s<|wpAny_bindName<|EB I3 hN hj (.inl hy) ig (λs2 I4=>?_)<|.inr hy;refine a2s<|wpAny_bindName<|EB I4 hN hi (.inl hx) rv (λs3 I5=>assignInOrder_nil<|qb ?_)<|.inr hx;rw[List.set_comm _ _<|ň qR]at I5;exact⟨_,H1,I5,q1⟩
def Hu(to ti te:TE)(rS:V->V->Hp->VK->Prop)(Fh:Gc)(j9:wZ):TS:=λD σ H=>to σ H λo H1=>ti σ H1 λi H2=>rS o i H2 λx H3=>te σ H3 λy H4=>Fh x y H4 λz H5=>j9 o i z H5 λH6=>D.nx σ H6
def U4(X:Cx)(t:V->V->Hp->VK->Prop):Prop :=
 ∀(pins:Qa (Qg×Obj)) (s:Qd) (σ:St) (H:Hp) (o i:V) (ov iv:Qc) (Q:VK),Inv X pins σ H s->zE o ov->zE i iv->t o i H Q->
  ĩ (Ĭ X.prog X.w) X.A (a0U ov iv) (EP X pins σ Q) X.xe s
theorem Ĉ(h:True:=by intros;rfl):True:=h
abbrev ĉ:=Ĉ._auto_1
theorem zvU{o i e:ĺ}{to ti te:TE}{rS:V->V->Hp->VK->Prop}{Fh:Gc}{j9:wZ}{op:Operator}{jw:Pos}(ho:PE X o to)(hi:PE X i ti)(hg:U4 X rS)(he:PE X e te)(hp:Xg X op Fh)(hs:Dq X j9)
  (ha:autoParam (∀ov iv new,augStore i ov iv new=(do Ϟ [new,ov,iv] (a2L ov iv new);release [new,ov,iv] [];pure .next)) ĉ):PS X (.AugAssign (.Subscript o i jw) op e pos) (Hu to ti te rS Fh j9):=by
 intro pins s σ H D I h;refine wpAny_AugAssign_SubscriptAny (az (ho pins s σ H _ I h) λov s1 hZ=>?_) ha;have(x1,H1,I1,r1,q1):=hZ;refine az (hi pins s1 σ H1 _ I1 q1) λiv s2 hZ=>?_;have(x2,H2,I2,r2,q2):=hZ;refine az (hg pins s2 σ H2 x1 x2 ov iv _ I2 r1 r2 q2) λold s3 hZ=>?_;have(x3,H3,I3,r3,q3):=hZ;refine az (he pins s3 σ H3 _ I3 q3) λv s4 hZ=>?_;have(x4,H4,I4,r4,q4):=hZ;refine az (hp pins s4 σ H4 x3 x4 old v _ I4 r3 r4 q4) λnew s5 hZ=>?_;have(x5,H5,I5,r5,q5):=hZ;exact az (hs pins s5 σ H5 x1 x2 x5 ov iv new _ I5 r1 r2 r5 q5) λ_ s6 ⟨H6,I6,q6⟩=>⟨σ,H6,I6,q6⟩
def LP(f:Int->Int->Int):Gc:=λx y H Q=>∃i j,x=.int i/\y=.int j/\Q (.int<|f i j) H
theorem XF:Xg X .Add (LP λi j=>i+j):=by
 intro pins s σ H x y v u Q I r1 r2 h;have(i,j,e1,e2,q):=h;subst e1;subst e2;have(t,rfl):=r1;have(t',rfl):=r2;exact iadd_int ⟨.int _,H,I.tok _,⟨_,rfl⟩,q⟩
end
section
variable{X:Cx}{pos:Pos}
def Iw(c:TT)(tb:TS):TS:=λD σ H=>∃W:Nat->St->Hp->Prop,(∃m,W m σ H)/\∀m σ H,W m σ H->
 c σ H λb H1=>if b=ż then ∃N:St->Hp->Prop,(∀aF H',N aF H'->∃m',m' < m/\W m' aF H')/\tb {D with nx:=N,ct:=N,bk:=D.nx} σ H1 else D.nx σ H1
theorem zrJ{c:ĺ}{body:Qa Ś}{tc:TT}{tb:TS}(hp:a4J (Ĭ X.prog X.w) X.A X.env X.xe)(hc:PT X c tc)(hb:fN X body tb):PS X (.While c body [] pos) (Iw tc tb):=by
 intro pins s σ H D I h;obtain⟨W,⟨m0,w0⟩,turn⟩:=h;refine wpAny_While<|codeAny_whileLoop (λn s'=>∃aF H',Inv X pins aF H' s'/\W n aF H') ?_ m0 ⟨σ,H,I,w0⟩;rintro n s1 ⟨fO,H1,I1,w1⟩;refine Ϣ hp<|az (hc pins s1 fO H1 _ I1<|turn n fO H1 w1) λb s2 hZ=>?_;have(H2,I2,q2):=hZ;cases b with
 |true=>
  have(N,hN,q2):=q2;rw[a5E rfl];refine Ϣ hp<|az (hb pins s2 fO H2 _ I2 q2) λf s3 q3=>?_;cases f with
  |next=>
   have(eB,H3,I3,n3):=q3;have(m',hm,w3):=hN eB H3 n3;exact⟨m',hm,eB,H3,I3,w3⟩
  |cont=>
   have(eB,H3,I3,n3):=q3;have(m',hm,w3):=hN eB H3 n3;exact⟨m',hm,eB,H3,I3,w3⟩
  |brk=>exact q3
  |ret v=>exact q3
 |false=>
  rw[a5F qg];exact a1y ⟨fO,H2,I2,q2⟩
end
structure It where
 go:Nat->Hp->Prop
 vG:Nat->Hp->V->Hp->Prop
 stop:Nat->Hp->Prop
def cK(X:Cx)(pins:Qa (Qg×Obj))(H:Hp)(b:Qg):Prop :=
 H b=Ž/\b≠X.env.locals/\b∉X.fs/\(b∈X.ex\/X.bf.heap.objs.size<=b)/\(∀x c,X.env.cells.lookup x=ž c->c≠b)/\∀p∈X.pn++pins,p.1≠b
theorem Inv.eY{X:Cx}{pins:Qa (Qg×Obj)}{σ:St}{H H':Hp}{s:Qd}{b:Qg}(I:Inv X pins σ H s)(hb:s.heap.objs.size<=b)(hn:H' b=Ž):cK X pins H' b:=by
 refine⟨hn,a1e<|qj I.lt hb,I.LA hb,.inr<|qA I.sz hb,λx c e z=>?_,λp hp z=>?_⟩
 .have(v,q):=I.cell x c e
  exact absurd (qj q.lt (by rw[z];exact hb))<|Ò _
 .exact absurd (qj (qi (I.pin p hp).1) (by rw[z];exact hb)) (Ò _)
structure Turn (P:Qe) (w:Qh) (K:qc) (tg:ĺ) (J:It) (fp:Qa Qg) (it:Qg) (tn:Nat->Ļ->Prop):Prop where
 mem:it∈fp
 obj:∀i h,tn i h->∀b∈fp,∃o,h.get? b=ž o/\∀v,o.data≠.cell v
 keep:∀i h h',tn i h->(∀b∈fp,∀o,h.get? b=ž o->h'.get? b=ž o)->tn i h'
 item:∀(X:Cx),X.prog=P->X.w=w->X.K=K->X.calm=ż->∀(i:Nat) (pins:Qa (Qg×Obj)) (s:Qd) (σ:St) (H:Hp) (E:Qc->Qd->Prop),Inv X pins σ H s->(∀b∈fp,cK X pins H b)->tn i s.heap->J.go i H->
  ĩ (Ĭ P w) X.A (ϱ<|.ref it) (λr s1=>∃u,r=ž u/\
   ĩ (Ĭ P w) X.A (Ϗ tg (.ref it) u) (λ_ s2=>∃x H',Inv X pins σ H' s2/\zE x u/\J.vG i H x H'/\tn (i+1) s2.heap/\∀b∈fp,H' b=Ž) E s1) E s
 done:∀(X:Cx),X.prog=P->X.w=w->X.K=K->X.calm=ż->∀(i:Nat) (pins:Qa (Qg×Obj)) (s:Qd) (σ:St) (H:Hp) (E:Qc->Qd->Prop),Inv X pins σ H s->(∀b∈fp,cK X pins H b)->tn i s.heap->J.stop i H->
  ĩ (Ĭ P w) X.A (ϱ<|.ref it) (λr s1=>r=Ž/\Inv X pins σ H s1) E s
 self:∀(A:Qf) (i:Nat) (s:Qd) (Q:Qc->Qd->Prop) (E:Qc->Qd->Prop),tn i s.heap->Q (.ref it) s->ĩ (Ĭ P w) A (a0m<|.ref it) Q E s
abbrev TI:=St->Hp->(It->Hp->Prop)->Prop
def CF(X:Cx)(pins:Qa (Qg×Obj))(σ:St)(tg:ĺ)(R:It->Hp->Prop)(FF:Qc)(s2:Qd):Prop :=
 ∃(it:Qg) (fp:Qa Qg) (tn:Nat->Ļ->Prop) (J:It) (H':Hp),FF=.ref it/\Inv X pins σ H' s2/\Turn X.prog X.w X.K tg J fp it tn/\tn 0 s2.heap/\(∀b∈fp,cK X pins H' b)/\R J H'
def PI(X:Cx)(tg iter:ĺ)(wi:TI):Prop :=
 ∀(pins:Qa (Qg×Obj)) (s:Qd) (σ:St) (H:Hp) (R:It->Hp->Prop),Inv X pins σ H s->wi σ H R->
  ĩ (Ĭ X.prog X.w) X.A (Ť iter X.env) (λv s1=>ĩ (Ĭ X.prog X.w) X.A (a0m v) (CF X pins σ tg R) X.xe s1) X.xe s
theorem yX{M:Model}{A:Qf}{E:Qc->Qd->Prop}{s:Qd}{tg:ĺ}{it:Qg}{u:Qc}{o:Obj}{n:String}{vs:Array Qc}{Q:Unit->Qd->Prop}(ho:s.heap.get? it=ž o)(hc:o.cls=.type n)(hd:o.data=.fields vs)
  (hn:["enumerate", "zip", "dict_itemiterator", "dict_reverseitemiterator", "odict_iterator", "itertools.zip_longest", "itertools.pairwise"].contains n=Ż) (hQ:Q () s):ĩ M A (Ϗ tg (.ref it) u) Q E s:=by
 unfold Ϗ;cases tg<;>first
  |exact qb hQ
  | (cases u<;>first
    |exact qb hQ
    | (refine qa<|wpAny_load ho ?_
       rw[hc,hd];show ĩ M A (if(["enumerate", "zip", "dict_itemiterator", "dict_reverseitemiterator", "odict_iterator", "itertools.zip_longest", "itertools.pairwise"].contains n && vs[0]?==ž (ϰ _))=ż then _ else _) Q E s;rw[a5F (by intro h;rw[hn,Bool.false_and]at h;cases h)];exact qb hQ))
noncomputable def Xl(K:qc)(a:Qg):It :=
 ⟨λi H=>∃xs x,bu K H a xs/\xs[i]?=ž x,λi H x H'=>H'=H/\∀xs,bu K H a xs->xs[i]?=ž x,λi H=>∃xs,bu K H a xs/\xs.length<=i⟩
noncomputable def Xj(K:qc)(a:Qg):It :=
 ⟨λi H=>∃xs x,cH K H a xs/\xs[i]?=ž x,λi H x H'=>H'=H/\∀xs,cH K H a xs->xs[i]?=ž x,λi H=>∃xs,cH K H a xs/\xs.length<=i⟩
noncomputable def Gg(lo:Int)(n:Nat):It:=⟨λi _=>i < n,λi H x H'=>H'=H/\x=.int (lo+i),λi _=>n<=i⟩
theorem zqB{P:Qe}{w:Qh}{K:qc}{tg:ĺ}(a it:Qg):Turn P w K tg (Xl K a) [it] it (λi h=>h.IsListIter it a i) where
 mem:=by simp
 obj:=λi h st b hb=>by
  have e:b=it:=by simpa using hb
  subst e;have(o,e,c,d):=st;exact⟨o,e,λv z=>by rw[d]at z;cases z⟩
 keep:=λi h h' st k=>st.at λo e=>k it (by simp) o e
 item:=by
  intro X hP hw hK hc i pins s σ H E I hf st hg;subst hP hw hK;have(xs,x,hq,hx):=hg;have(ah,rv,p,hz):=I.list hq;have(u,hu,ru):=rv.get hx;have(f0,f1,f2,f3,f4,f5):=hf it (by simp);refine wpAny_pyNext_list_item st p.isList (x:=u) (by simpa using hu) λh' h8 sb=>?_;have I1:Inv X pins σ H {s with heap:=h'}:=I.turned (t':=s.toks) (λb o hb e=>(sb.2 b hb).trans e) f0 f1 f3 f4 f5;have(o,e,c,d):=id h8;exact⟨u,rfl,yX (s:={s with heap:=h'}) e c d (by decide) ⟨x,H,I1,ru,⟨rfl,λys hy=>by rw[I.jC hy hq];exact hx⟩,h8,λb hb=>(hf b hb).1⟩⟩
 done:=by
  intro X hP hw hK hc i pins s σ H E I hf st hg;subst hP hw hK;have(xs,hq,hx):=hg;have(ah,rv,p,hz):=I.list hq;have(f0,f1,f2,f3,f4,f5):=hf it (by simp);have hl:=rv.length;exact wpAny_pyNext_list_end (I.ok.hd hc) st p.isList (by simp;omega) λh' eb=>⟨rfl,I.turned (t':=s.toks) (λb o hb e=>eb b o hb e) f0 f1 f3 f4 f5⟩
 self:=λ_ _ _ _ _ st h=>wpAny_pyIter_listiter st h
theorem zm9{P:Qe}{w:Qh}{K:qc}{tg:ĺ}(a it:Qg):Turn P w K tg (Xj K a) [it] it (λi h=>h.IsTupleIter it a i) where
 mem:=by simp
 obj:=λi h st b hb=>by
  have e:b=it:=by simpa using hb
  subst e;have(o,e,c,d):=st;exact⟨o,e,λv z=>by rw[d]at z;cases z⟩
 keep:=λi h h' st k=>st.at λo e=>k it (by simp) o e
 item:=by
  intro X hP hw hK hc i pins s σ H E I hf st hg;subst hP hw hK;have(xs,x,hq,hx):=hg;have(ah,rv,p,hz):=I.tuple hq;have(u,hu,ru):=rv.get hx;have(f0,f1,f2,f3,f4,f5):=hf it (by simp);refine wpAny_pyNext_tuple_item st (show s.heap.IsTuple a ah.toArray from p) (x:=u) (by simpa using hu) λh' h8 sb=>?_;have I1:Inv X pins σ H {s with heap:=h'}:=I.turned (t':=s.toks) (λb o hb e=>(sb.2 b hb).trans e) f0 f1 f3 f4 f5;have(o,e,c,d):=id h8;exact⟨u,rfl,yX (s:={s with heap:=h'}) e c d (by decide) ⟨x,H,I1,ru,⟨rfl,λys hy=>by rw[I.iE hy hq];exact hx⟩,h8,λb hb=>(hf b hb).1⟩⟩
 done:=by
  intro X hP hw hK hc i pins s σ H E I hf st hg;subst hP hw hK;have(xs,hq,hx):=hg;have(ah,rv,p,hz):=I.tuple hq;have(f0,f1,f2,f3,f4,f5):=hf it (by simp);have hl:=rv.length;exact wpAny_pyNext_tuple_end (I.ok.hd hc) st (show s.heap.IsTuple a ah.toArray from p) (by simp;omega) λh' eb=>⟨rfl,I.turned (t':=s.toks) (λb o hb e=>eb b o hb e) f0 f1 f3 f4 f5⟩
 self:=λ_ _ _ _ _ st h=>wpAny_pyIter_tupleiter st h
theorem zna{P:Qe}{w:Qh}{K:qc}{tg:ĺ}(it:Qg)(lo:Int)(n:Nat):Turn P w K tg (Gg lo n) [it] it (λi h=>a3o h it (lo+(i:Nat) * 1) ((n:Int) - (i:Nat)) 1) where
 mem:=by simp
 obj:=λi h st b hb=>by
  have e:b=it:=by simpa using hb
  subst e;exact⟨_,st,λv z=>by
   have z':a1p _=a0P v:=z;cases z'⟩
 keep:=λi h h' st k=>k it (by simp) _ st
 item:=by
  intro X hP hw hK hc i pins s σ H E I hf st hg;subst hP hw hK;have(f0,f1,f2,f3,f4,f5):=hf it (by simp);have W:=Walks.range (prog:=X.prog) (w:=X.w) (I.ok.hd hc) it lo 1 n;refine W.item i s _ _ hg st λv h' tk hv h8 kk=>?_;have(t,rfl):=hv;have I1:Inv X pins σ H {s with heap:=h',toks:=tk}:=I.turned (λb o hb e=>kk b o (by simpa using hb) e) f0 f1 f3 f4 f5;refine⟨_,rfl,yX (s:={s with heap:=h',toks:=tk}) (n := "range_iterator") h8 rfl rfl (by decide) ⟨.int<|lo+i,H,I1,⟨t,?_⟩,⟨rfl,rfl⟩,h8,λb hb=>(hf b hb).1⟩⟩;rw[Int.mul_one]
 done:=by
  intro X hP hw hK hc i pins s σ H E I hf st hg;subst hP hw hK;have(f0,f1,f2,f3,f4,f5):=hf it (by simp);exact a4L (I.ok.hd hc) st (by have:n<=i:=hg;omega) λh' eb=>⟨rfl,I.turned (t':=s.toks) (λb o hb e=>eb b o hb e) f0 f1 f3 f4 f5⟩
 self:=λ_ _ _ _ _ st h=>a4M st h
section
variable{X:Cx}{tg:ĺ}
def Ht(K:qc)(tl:TE):TI:=λσ H R=>tl σ H λx H1=>∃a,x=.ref a/\(∃xs,bu K H1 a xs)/\R (Xl K a) H1
def Gq(K:qc)(tl:TE):TI:=λσ H R=>tl σ H λx H1=>∃a,x=.ref a/\(∃xs,cH K H1 a xs)/\R (Xj K a) H1
theorem zvV{l:ĺ}{tl:TE}(hl:PE X l tl):PI X tg l (Ht X.K tl):=by
 intro pins s σ H R I h;refine az (hl pins s σ H _ I h) λv s1 hZ=>?_;have(x,H1,I1,r1,q1):=hZ;obtain⟨a,e,⟨xs,hq⟩,q⟩:=q1;subst e;cases r1;have(ah,rv,p,hz):=I1.list hq;refine a2J p.isList ?_;refine⟨s1.heap.objs.size,[s1.heap.objs.size],_,_,H1,rfl,I1.kept (t':=s1.toks) λb o e=>qd _ e,zqB a _,⟨_,qh _ rfl,rfl,rfl⟩,λb hb=>?_,q⟩;have e:b=s1.heap.objs.size:=by simpa using hb
 subst e;exact I1.eY (qf _)<|I1.aw.fresh<|qf _
theorem XE{l:ĺ}{tl:TE}(hl:PE X l tl):PI X tg l (Gq X.K tl):=by
 intro pins s σ H R I h;refine az (hl pins s σ H _ I h) λv s1 hZ=>?_;have(x,H1,I1,r1,q1):=hZ;obtain⟨a,e,⟨xs,hq⟩,q⟩:=q1;subst e;cases r1;have(ah,rv,p,hz):=I1.tuple hq;refine ſ (show s1.heap.IsTuple a ah.toArray from p) ?_;refine⟨s1.heap.objs.size,[s1.heap.objs.size],_,_,H1,rfl,I1.kept (t':=s1.toks) λb o e=>qd _ e,zm9 a _,⟨_,qh _ rfl,rfl,rfl⟩,λb hb=>?_,q⟩;have e:b=s1.heap.objs.size:=by simpa using hb
 subst e;exact I1.eY (qf _)<|I1.aw.fresh<|qf _
theorem zrL{pins:Qa (Qg×Obj)}{σ:St}{H:Hp}{s:Qd}{R:It->Hp->Prop}{E:Qc->Qd->Prop}{lo hi:Int}{t u v:Tok}{tk:Nat}(I:Inv X pins σ H s)(h1:-(2^62)<=lo)(h2:lo < 2^62)(h3:-(2^62)<=hi)(h4:hi < 2^62)
  (q:R (Gg lo (hi - lo).toNat) H):ĩ (Ĭ X.prog X.w) X.A (a0m<|.ref s.heap.objs.size) (CF X pins σ tg R) E {s with heap:=s.heap.push {cls:=.type "range",data:=.fields #[.int lo t,.int hi u,.int 1 v]},toks:=tk}:=by
 refine wpAny_pyIter_range (IsRange.new ..) (small_one h1 h2 h3 h4) ?_;have I1:Inv X pins σ H {s with heap:=s.heap.push {cls:=.type "range",data:=.fields #[.int lo t,.int hi u,.int 1 v]},toks:=tk}:=I.kept λb o e=>qd _ e;refine⟨(s.heap.push {cls:=.type "range",data:=.fields #[.int lo t,.int hi u,.int 1 v]}).objs.size,[(s.heap.push {cls:=.type "range",data:=.fields #[.int lo t,.int hi u,.int 1 v]}).objs.size],_,_,H,rfl,
  I1.kept (t':=tk) λb o e=>qd _ e,zna _ lo (hi - lo).toNat,?_,λb hb=>?_,q⟩
 .have e1:lo+((0:Nat):Int) * 1=lo:=by simp
  have e2:(((hi - lo).toNat:Nat):Int) - ((0:Nat):Int)=Ϧ lo hi 1:=by rw[rangeSize_one];split<;>omega
  show a3o _ _ (lo+((0:Nat):Int) * 1) ((((hi - lo).toNat:Nat):Int) - ((0:Nat):Int)) 1;rw[e1,e2];exact qh _ rfl
 .have e:b=(s.heap.push {cls:=.type "range",data:=.fields #[.int lo t,.int hi u,.int 1 v]}).objs.size:=by simpa using hb
  subst e;exact I1.eY (qf _)<|I1.aw.fresh<|qf _
def Hs(ta:TA):TI:=λσ H R=>ta σ H λvs H1=>∃j:Int,vs=[.int j]/\-(2^62)<=j/\j < 2^62/\R (Gg 0 j.toNat) H1
theorem zqC{a:ĺ}{ta:TA}{p pos:Pos}(hg:Gl X "range")(hm:X.mg "range"=Ž)(ha:PA X [a] ta)(hs:autoParam (ŏ [a] X.env=[(Ż,Ť a X.env)]) ć):PI X tg (.Call (.Name "range" p) [a] [] pos) (Hs ta):=by
 intro pins s σ H R I h;refine Call_<|vi I hg hm boot_range<|Þ (az (ha pos pins s σ H _ I h) λus s1 hZ=>?_) hs rfl;have(vs,H1,I1,r1,q1):=hZ;have(j,e,q1,q2,q):=q1;subst e;cases r1 with
 |cons r rr=>
  cases rr;have(t,rfl):=r;exact call_range_1<|zrL I1 (by omega) (by omega) q1 q2 (by simpa using q)
def Gp(wi:TI)(g:TG)(tb:TS):TS:=λD σ H=>wi σ H λJ H1=>∃W:Nat->Nat->St->Hp->Prop,(∃m,W 0 m σ H1)/\∀i m σ H,W i m σ H->
 (J.stop i H/\D.nx σ H)\/(J.go i H/\∃N:St->Hp->Prop,(∀aF H',N aF H'->∃m',m' < m/\W (i+1) m' aF H')/\∀x H',J.vG i H x H'->g x σ H' λfB H2=>tb {D with nx:=N,ct:=N,bk:=D.nx} fB H2)
noncomputable def An(fp:Qa Qg)(h:Ļ):Qa (Qg×Obj):=fp.filterMap λb=>(h.get? b).map λo=>(b,o)
theorem t7{fp:Qa Qg}{h:Ļ}{b:Qg}{o:Obj}(hb:b∈fp)(e:h.get? b=ž o):(b,o)∈An fp h:=List.mem_filterMap.mpr ⟨b,hb,by rw[e];rfl⟩
theorem zqD{fp:Qa Qg}{h:Ļ}{p:Qg×Obj}(hp:p∈An fp h):p.1∈fp/\h.get? p.1=ž p.2:=by
 have(b,hb,e):=List.mem_filterMap.mp hp;cases q:h.get? b with
 |none=>rw[q]at e;cases e
 |some o=>
  rw[q]at e;have e':(b,o)=p:=qy e;subst e';exact⟨hb,q⟩
theorem Inv.pinned{pins:Qa (Qg×Obj)}{σ:St}{H:Hp}{s:Qd}{fp:Qa Qg}(I:Inv X pins σ H s)(hf:∀b∈fp,cK X pins H b)(ho:∀b∈fp,∃o,s.heap.get? b=ž o/\∀v,o.data≠.cell v):Inv X (pins++An fp s.heap) σ H s :=
 I.cL λp hp=>(Á.mp hp).elim (λz=>I.pin p<|qx _ z) λz=>by
  have(hb,e):=zqD z;have(f0,f1,f2,_):=hf p.1 hb;have(o,e',d):=ho p.1 hb;rw[e]at e';cases e';exact⟨e,f0,f1,f2,d⟩
theorem Inv.gC{pins pl:Qa (Qg×Obj)}{σ:St}{H:Hp}{s:Qd}(I:Inv X (pins++pl) σ H s):Inv X pins σ H s:=I.cL λp hp=>I.pin p<|qx _<|Í _ hp
theorem X8{iter:ĺ}{body:Qa Ś}{wi:TI}{g:TG}{tb:TS}{pos:Pos}(hp:a4J (Ĭ X.prog X.w) X.A X.env X.xe)(hc:X.calm=ż)(hi:PI X tg iter wi)(hg:PG X tg g)(hb:fN X body tb)
  (hs:autoParam (∀x,Š iter X.env x=pure x) ą):PS X (.For tg iter body [] pos) (Gp wi g tb):=by
 intro pins s σ H D I h;refine wpAny_For (az (hi pins s σ H _ I h) λv s1 h1=>az h1 λFF s2 h2=>?_) hs;obtain⟨it,fp,tn,J,H2,e,I2,T,qG,f2,W,⟨m0,w0⟩,turn⟩:=h2;subst e;have vI:∀{H':Hp},(∀b∈fp,H' b=Ž)->∀b∈fp,cK X pins H' b:=λhn b hb=>⟨hn b hb,(f2 b hb).2⟩;refine codeAny_forLoop_any (λn s'=>∃i aF H',Inv X pins aF H' s'/\tn i s'.heap/\(∀b∈fp,H' b=Ž)/\W i n aF H') ?_ m0 ⟨0,σ,H2,I2,qG,λb hb=>(f2 b hb).1,w0⟩;rintro n s3 ⟨i,eB,H3,I3,oK,ph,w3⟩;rcases turn i n eB H3 w3 with⟨stop,qn⟩|⟨go,N,hN,step⟩
 .refine Ϣ hp (az (T.done X rfl rfl rfl hc i pins s3 eB H3 X.xe I3 (vI ph) oK stop) λr s4 hZ=>?_)
  have(hr,I4):=hZ;subst hr;exact a1y ⟨eB,H3,I4,qn⟩
 .refine Ϣ hp (az (T.item X rfl rfl rfl hc i pins s3 eB H3 X.xe I3 (vI ph) oK go) λr s4 hZ=>?_)
  have(u,hr,h4):=hZ;subst hr;refine Ϣ hp<|az h4 λ_ s5 hZ=>?_;have(x,H5,I5,r5,y5,kf,wu):=hZ;have wM:=I5.pinned (vI wu) (T.obj _ _ kf);refine Ϣ hp<|az (hg _ s5 eB H5 x u _ wM r5<|step x H5 y5) λ_ s6 hZ=>?_;have(k7,H6,I6,q6):=hZ;refine Ϣ hp<|az (hb _ s6 k7 H6 _ I6 q6) λf s7 q7=>?_;have again:∀{nN:St} {H7:Hp},Inv X (pins++An fp s5.heap) nN H7 s7->N nN H7->∃m,m < n/\∃i aF H',Inv X pins aF H' s7/\tn i s7.heap/\(∀b∈fp,H' b=Ž)/\W i m aF H':=λ{nN H7} I7 n7=>by
   have(m',hm,w7):=hN nN H7 n7;refine⟨m',hm,i+1,nN,H7,I7.gC,T.keep _ _ _ kf λb hb o e=>(I7.pin (b,o)<|qx _<|qx _<|t7 hb e).1,λb hb=>?_,w7⟩;have(o,e,d):=T.obj _ _ kf b hb;exact(I7.pin (b,o)<|qx _<|qx _<|t7 hb e).2.1
  cases f with
  |next=>have(nN,H7,I7,n7):=q7;exact again I7 n7
  |cont=>have(nN,H7,I7,n7):=q7;exact again I7 n7
  |brk=>have(nN,H7,I7,q7):=q7;exact⟨nN,H7,I7.gC,q7⟩
  |ret v=>have(x7,nN,H7,I7,r7,q7):=q7;exact⟨x7,nN,H7,I7.gC,r7,q7⟩
end
abbrev R2:=V->V->Hp->VK->Prop
def bL(X:Cx)(f:Qc->Qc->Sem Qc)(r:R2):Prop :=
 ∀(pins:Qa (Qg×Obj)) (s:Qd) (σ:St) (H:Hp) (x y:V) (v u:Qc) (Q:VK),Inv X pins σ H s->zE x v->zE y u->r x y H Q->
  ĩ (Ĭ X.prog X.w) X.A (f v u) (EP X pins σ Q) X.xe s
def Gb(X:Cx)(f:Qc->Sem Qc)(r:V->Hp->VK->Prop):Prop :=
 ∀(pins:Qa (Qg×Obj)) (s:Qd) (σ:St) (H:Hp) (x:V) (v:Qc) (Q:VK),Inv X pins σ H s->zE x v->r x H Q->
  ĩ (Ĭ X.prog X.w) X.A (f v) (EP X pins σ Q) X.xe s
def fV(X:Cx)(f:Qc)(r:Qa V->Hp->VK->Prop):Prop :=
 ∀(pins:Qa (Qg×Obj)) (s:Qd) (σ:St) (H:Hp) (xs:Qa V) (us:Qa Qc) (Q:VK),Inv X pins σ H s->zJ xs us->r xs H Q->
  ĩ (Ĭ X.prog X.w) X.A (a1P f us) (EP X pins σ Q) X.xe s
def zES(X:Cx)(r:V->Hp->(Bool->Hp->Prop)->Prop):Prop :=
 ∀(pins:Qa (Qg×Obj)) (s:Qd) (σ:St) (H:Hp) (x:V) (v:Qc) (Q:Bool->Hp->Prop),Inv X pins σ H s->zE x v->r x H Q->
  ĩ (Ĭ X.prog X.w) X.A (truthy v) (TP X pins σ Q) X.xe s
def qE(r:R2)(ta tb:TE):TE:=λσ H Q=>ta σ H λx H1=>tb σ H1 λy H2=>r x y H2 Q
def KZ(r:V->Hp->VK->Prop)(ta:TE):TE:=λσ H Q=>ta σ H λx H1=>r x H1 Q
def rI(C:Int->Int->Prop)(g:Int->Int->V):R2:=λx y H Q=>∃i j,x=.int i/\y=.int j/\C i j/\Q (g i j) H
def km(g:Int->Int->V):R2:=λx y H Q=>∃i j,x=.int i/\y=.int j/\Q (g i j) H
def rU(g:Int->V):V->Hp->VK->Prop:=λx H Q=>∃i,x=.int i/\Q (g i) H
section
variable{X:Cx}{a b c:ĺ}{ta tb tc:TE}{pos:Pos}
theorem GA(ha:PE X a ta)(hb:PE X b tb){pins:Qa (Qg×Obj)}{s:Qd}{σ:St}{H:Hp}{R:V->V->Hp->Prop}(I:Inv X pins σ H s)
  (h:ta σ H λx H1=>tb σ H1 λy H2=>R x y H2) {Q:Qc->Qd->Prop} {f:Qc->Qc->Sem Qc}
  (hf:∀v u s2 x y H2,Inv X pins σ H2 s2->zE x v->zE y u->R x y H2->ĩ (Ĭ X.prog X.w) X.A (f v u) Q X.xe s2):
  ĩ (Ĭ X.prog X.w) X.A (Ť a X.env) (λv aB=>ĩ (Ĭ X.prog X.w) X.A (Ť b X.env) (λu fG=>ĩ (Ĭ X.prog X.w) X.A (f v u) Q X.xe fG) X.xe aB) X.xe s:=by
 refine az (ha pins s σ H _ I h) λv s1 hZ=>?_;have(x,H1,I1,r1,q1):=hZ;refine az (hb pins s1 σ H1 _ I1 q1) λu s2 hZ=>?_;have(y,H2,I2,r2,q2):=hZ;exact hf v u s2 x y H2 I2 r1 r2 q2
theorem zCD{op:Operator}{r:R2}(ho:bL X (ϊ op) r)(ha:PE X a ta)(hb:PE X b tb):PE X (.BinOp a op b pos) (qE r ta tb):=by
 intro pins s σ H Q I h;exact wpAny_BinOp<|GA ha hb I h λv u s2 x y H2 I2 rx ry q=>ho pins s2 σ H2 x y v u Q I2 rx ry q
theorem zCE{op:UnaryOp}{r:V->Hp->VK->Prop}(ho:Gb X (unaryOp op) r)(ha:PE X a ta):PE X (.UnaryOp op a pos) (KZ r ta):=by
 intro pins s σ H Q I h;exact UnaryOp_<|az (ha pins s σ H _ I h) λv s1 ⟨x,H1,I1,r1,q1⟩=>ho pins s1 σ H1 x v Q I1 r1 q1
theorem yf{f:Qc->Qc->Sem Qc}{C:Int->Int->Prop}{g:Int->Int->Int}
  (rule:∀(i j:Int) (t u:Tok) (s:Qd) (Q:Qc->Qd->Prop) (E:Qc->Qd->Prop),C i j->Q (.int (g i j) s.toks) {s with toks:=s.toks+1}->ĩ (Ĭ X.prog X.w) X.A (f (.int i t)<|.int j u) Q E s):
  bL X f (rI C λi j=>.int<|g i j):=by
 intro pins s σ H x y v u Q I rx ry h;have(i,j,rfl,rfl,hc,q):=h;have(t,rfl):=rx;have(t',rfl):=ry;exact rule i j t t' s _ _ hc ⟨.int<|g i j,H,I.tok _,⟨_,rfl⟩,q⟩
theorem U3{f:Qc->Qc->Sem Qc}{g:Int->Int->Int}
  (rule:∀(i j:Int) (t u:Tok) (s:Qd) (Q:Qc->Qd->Prop) (E:Qc->Qd->Prop),Q (.int (g i j) s.toks) {s with toks:=s.toks+1}->ĩ (Ĭ X.prog X.w) X.A (f (.int i t)<|.int j u) Q E s):
  bL X f (km λi j=>.int<|g i j):=by
 intro pins s σ H x y v u Q I rx ry h;have(i,j,rfl,rfl,q):=h;have(t,rfl):=rx;have(t',rfl):=ry;exact rule i j t t' s _ _ ⟨.int<|g i j,H,I.tok _,⟨_,rfl⟩,q⟩
theorem Dm{f:Qc->Qc->Sem Qc}{g:Int->Int->Bool}
  (rule:∀(i j:Int) (t u:Tok) (s:Qd) (Q:Qc->Qd->Prop) (E:Qc->Qd->Prop),Q (.bool<|g i j) s->ĩ (Ĭ X.prog X.w) X.A (f (.int i t)<|.int j u) Q E s):
  bL X f (km λi j=>.bl<|g i j):=by
 intro pins s σ H x y v u Q I rx ry h;have(i,j,rfl,rfl,q):=h;have(t,rfl):=rx;have(t',rfl):=ry;exact rule i j t t' s _ _ ⟨.bl<|g i j,H,I,rfl,q⟩
def Dl(i j:Int):Prop:=0<=j/\j<=1000000/\i.natAbs < 2^64
def wY(i j:Int):Prop:=(-(2^64) < i/\i < 2^64)\/(-(2^64) < j/\j < 2^64)
theorem wY.ok{i j:Int}(h:wY i j):IntMulOk i j:=by
 rcases h with⟨h1,h2⟩|⟨h1,h2⟩
 .exact .of_left (intBits_le_64 h1 h2)
 .exact .of_right (intBits_le_64 h1 h2)
theorem lI:bL X (ϊ .Add) (km λi j=>.int<|i+j):=U3 λ_ _ _ _ _ _ _ q=>add_int q
theorem tK:bL X (ϊ .Sub) (km λi j=>.int<|i - j):=U3 λ_ _ _ _ _ _ _ q=>sub_int q
theorem mz:bL X (ϊ .Mult) (rI wY λi j=>.int<|i * j):=yf λ_ _ _ _ _ _ _ hc q=>mul_int q hc.ok
theorem pW:bL X (ϊ .Mod) (rI (λ_ j=>0 < j) λi j=>.int<|i % j):=yf λi j _ _ _ _ _ hc q=>by
 have h1:(0:Int) < j:=hc;exact mod_int' (by omega) (by rw[Int.fmod_eq_emod_of_nonneg i (by omega)];exact q)
theorem X7:bL X (ϊ .Pow) (rI Dl λi j=>.int<|i^j.toNat):=yf λ_ _ _ _ _ _ _ hc q=>pow_int_small hc.1 hc.2.1 hc.2.2 q
theorem unI{f:Qc->Sem Qc}{g:Int->Int}
  (rule:∀(i:Int) (t:Tok) (s:Qd) (Q:Qc->Qd->Prop) (E:Qc->Qd->Prop),Q (.int (g i) s.toks) {s with toks:=s.toks+1}->ĩ (Ĭ X.prog X.w) X.A (f<|.int i t) Q E s):
  Gb X f (rU λi=>.int<|g i):=by
 intro pins s σ H x v Q I rx h;have(i,rfl,q):=h;have(t,rfl):=rx;exact rule i t s _ _ ⟨.int<|g i,H,I.tok _,⟨_,rfl⟩,q⟩
theorem vh:Gb X (unaryOp .USub) (rU λi=>.int (-i)):=unI λ_ _ _ _ _ q=>neg_int q
end
noncomputable def Gz:V->V->Bool
 |.int _,.int _=>ż |.str _,.str _=>ż
 |_,_=>Ż
def Vq:R2:=λx y H Q=>Gz x y=ż/\Q (.bl<|decide<|x=y) H
def Vp:R2:=λx y H Q=>Gz x y=ż/\Q (.bl (!decide (x=y))) H
theorem P0{i j:Int}:decide (V.int i=V.int j)=(i==j):=by
 rw[ο];simp
theorem PZ{i j:Str}:decide (V.str i=V.str j)=(i==j):=by
 rw[ο];simp
section
variable{X:Cx}{a b c:ĺ}{ta tb tc:TE}{pos:Pos}
theorem rH{pins:Qa (Qg×Obj)}{σ:St}{H:Hp}{s:Qd}{Q:VK}{k k':Bool}(I:Inv X pins σ H s)(q:Q (.bl k) H)(e:k=k'):EP X pins σ Q (.bool k') s:=by
 subst e;exact⟨.bl k,H,I,rfl,q⟩
theorem j3:bL X (Ň .Eq) Vq:=by
 intro pins s σ H x y v u Q I rx ry h;have(hs,q):=h;cases x with
 |int i=>
  have(t,rfl):=rx;cases y with
  |int j=>have(t',rfl):=ry;exact eq_int<|rH I q P0
  |_=>exact absurd (show Ż=ż from hs) qg
 |str i=>
  have(t,rfl):=rx;cases y with
  |str j=>have(t',rfl):=ry;exact eq_str<|rH I q PZ
  |_=>exact absurd (show Ż=ż from hs) qg
 |_=>cases y<;>exact absurd (show Ż=ż from hs) qg
theorem mf:bL X (Ň .NotEq) Vp:=by
 intro pins s σ H x y v u Q I rx ry h;have(hs,q):=h;cases x with
 |int i=>
  have(t,rfl):=rx;cases y with
  |int j=>have(t',rfl):=ry;exact ne_int<|rH I q<|congrArg not P0
  |_=>exact absurd (show Ż=ż from hs) qg
 |str i=>
  have(t,rfl):=rx;cases y with
  |str j=>have(t',rfl):=ry;exact ne_str<|rH I q<|congrArg not PZ
  |_=>exact absurd (show Ż=ż from hs) qg
 |_=>cases y<;>exact absurd (show Ż=ż from hs) qg
theorem Hr:bL X (Ň .Lt) (km λi j=>.bl<|decide<|i < j):=Dm λ_ _ _ _ _ _ _ q=>lt_int q
theorem Hq:bL X (Ň .LtE) (km λi j=>.bl<|decide<|i<=j):=Dm λ_ _ _ _ _ _ _ q=>le_int q
theorem yW:bL X (Ň .Gt) (km λi j=>.bl<|decide<|j < i):=Dm λ_ _ _ _ _ _ _ q=>gt_int q
theorem Ho:bL X (Ň .GtE) (km λi j=>.bl<|decide<|j<=i):=Dm λ_ _ _ _ _ _ _ q=>ge_int q
theorem X6:bL X (Ň .Is) (λx y H Q=>y=.aM/\Q (.bl<|decide<|x=.aM) H):=by
 intro pins s σ H x y v u Q I rx ry h;have(rfl,q):=h;cases ry;refine is_none_gen<|rH I q ?_;cases x<;>first
  | (cases rx;rfl)
  | (have(t,rfl):=rx;rfl)
theorem zvY:bL X (Ň .IsNot) (λx y H Q=>y=.aM/\Q (.bl (!decide (x=.aM))) H):=by
 intro pins s σ H x y v u Q I rx ry h;have(rfl,q):=h;cases ry;refine isnot_none_gen<|rH I q ?_;cases x<;>first
  | (cases rx;rfl)
  | (have(t,rfl):=rx;rfl)
theorem X5(b:ĺ){op:a2T}(h:autoParam (op≠.In) ă)(h2:autoParam (op≠.NotIn) ă):ů op b=Ż:=by
 have e1:(op==CmpOp.In)=Ż:=by cases op<;>first|rfl|exact absurd rfl h
 have e2:(op==CmpOp.NotIn)=Ż:=by cases op<;>first|rfl|exact absurd rfl h2
 cases b<;>simp[ů,e1,e2]
theorem zvZ{op:a2T}{r:R2}(ho:bL X (Ň op) r)(ha:PE X a ta)(hb:PE X b tb)(hm:ů op b=Ż):PE X (.Compare a [op] [b] pos) (qE r ta tb):=by
 intro pins s σ H Q I h;exact wpAny_Compare1 (GA ha hb I h λv u s2 x y H2 I2 rx ry q=>ho pins s2 σ H2 x y v u Q I2 rx ry q) hm
def yV(t:TE):TT:=λσ H Q=>t σ H λx H'=>∃k,x=.bl k/\Q k H'
theorem zv0{op:a2T}{r:R2}(ho:bL X (Ň op) r)(ha:PE X a ta)(hb:PE X b tb)(hm:ů op b=Ż):PT X (.Compare a [op] [b] pos) (yV<|qE r ta tb):=by
 intro pins s σ H Q I h;refine a5f (az (ha pins s σ H _ I h) λv s1 hZ=>?_) hm;have(x,H1,I1,r1,q1):=hZ;refine az (hb pins s1 σ H1 _ I1 q1) λu s2 hZ=>?_;have(y,H2,I2,r2,q2):=hZ;refine az (ho pins s2 σ H2 x y v u _ I2 r1 r2 q2) λc s3 hZ=>?_;have(z,H3,I3,r3,k,e,q3):=hZ;subst e;cases r3;exact Ř ⟨H3,I3,q3⟩
def Ah(r r':R2)(ta tb tc:TE):TE:=λσ H Q=>ta σ H λx H1=>tb σ H1 λy H2=>r x y H2 λz H3=>∃k,z=.bl k/\
 (if k=ż then tc σ H3 λw' H4=>r' y w' H4 Q else Q (.bl Ż) H3)
theorem U2{p:Prop}(h:p:=by with_unfolding_all rfl):p:=h
theorem Ċ(h:True:=by exact U2):True:=h
abbrev ċ:=Ċ._auto_1
theorem zrQ{op kr:a2T}{r r':R2}(ho:bL X (Ň op) r)(eR:bL X (Ň kr) r')(ha:PE X a ta)(hb:PE X b tb)(hc:PE X c tc)
  (hm:autoParam (a4G [op,kr] [b,c]=Ż) ċ):PE X (.Compare a [op,kr] [b,c] pos) (Ah r r' ta tb tc):=by
 intro pins s σ H Q I h;refine Compare_chain (az (ha pins s σ H _ I h) λv s1 hZ=>?_) hm;have(x,H1,I1,r1,q1):=hZ;refine chain_link<|az (hb pins s1 σ H1 _ I1 q1) λu s2 hZ=>?_;have(y,H2,I2,r2,q2):=hZ;refine az (ho pins s2 σ H2 x y v u _ I2 r1 r2 q2) λd s3 hZ=>?_;have(z,H3,I3,r3,k,e,q3):=hZ;subst e;cases r3;refine Ř ?_;cases k with
 |false=>exact ite_ff ⟨.bl Ż,H3,I3,rfl,q3⟩
 |true=>
  refine ite_tt<|chain_last<|az (hc pins s3 σ H3 _ I3 q3) λw' s4 hZ=>?_;have(z',H4,I4,r4,q4):=hZ;exact eR pins s4 σ H4 y z' u w' Q I4 r2 r4 q4
theorem zrR{op kr:a2T}{r r':R2}(ho:bL X (Ň op) r)(eR:bL X (Ň kr) r')(ha:PE X a ta)(hb:PE X b tb)(hc:PE X c tc)
  (hm:autoParam (a4G [op,kr] [b,c]=Ż) ċ):PT X (.Compare a [op,kr] [b,c] pos) (yV<|Ah r r' ta tb tc):=by
 intro pins s σ H Q I h;refine isTrue_chain (az (ha pins s σ H _ I h) λv s1 hZ=>?_) hm;have(x,H1,I1,r1,q1):=hZ;refine test_link<|az (hb pins s1 σ H1 _ I1 q1) λu s2 hZ=>?_;have(y,H2,I2,r2,q2):=hZ;refine az (ho pins s2 σ H2 x y v u _ I2 r1 r2 q2) λd s3 hZ=>?_;have(z,H3,I3,r3,k,e,q3):=hZ;subst e;cases r3;refine Ř ?_;cases k with
 |false=>
  have(k',e',q'):=q3;cases e';exact ite_ff ⟨H3,I3,q'⟩
 |true=>
  refine ite_tt<|test_last<|az (hc pins s3 σ H3 _ I3 q3) λw' s4 hZ=>?_;have(z',H4,I4,r4,q4):=hZ;refine az (eR pins s4 σ H4 y z' u w' _ I4 r2 r4 q4) λd' s5 hZ=>?_;have(z2,H5,I5,r5,k2,e2,q5):=hZ;subst e2;cases r5;exact Ř ⟨H5,I5,q5⟩
def Gy(K:qc)(x:V)(H:Hp)(k:Bool):Prop :=
 match x with
 |.aM=>k=Ż
 |.bl b=>k=b
 |.int i=>k=(i != 0)
 |.str y=>y.length<=ħ/\k=((y.length:Int) != 0)
 |.yF y=>y.size<=ħ/\k=((y.size:Int) != 0)
 |.ref p=>(∃xs,bu K H p xs/\k=!xs.isEmpty)\/(∃xs,cH K H p xs/\k=!xs.isEmpty)\/∃kvs,H p=ž (.dK kvs)/\k=!kvs.isEmpty
 |_=>False
theorem znb{κ:Type}{kvs:Qa (κ×V)}{vs:Qa (κ×Qc)}(r:KV kvs vs):(!vs.isEmpty)=!kvs.isEmpty:=by
 cases r<;>rfl
theorem RW{xs:Qa V}{ah:Qa Qc}(r:zJ xs ah):(!ah.toArray.isEmpty)=!xs.isEmpty:=by
 cases r<;>simp
theorem vg:(ħ:Nat) < 2^63:=by rw[ş];decide
theorem X4:zES X (λx H Q=>∃k,Gy X.K x H k/\Q k H):=by
 intro pins s σ H x v Q I rx h;have(k,e,q):=h;have hl:=vg;have hs:ħ=16777216:=ş;cases x with
 |aM=>
  cases rx;have e':k=Ż:=e;subst e';exact truthy_none ⟨H,I,q⟩
 |bl b=>
  cases rx;have e':k=b:=e;subst e';exact Ř ⟨H,I,q⟩
 |int i=>
  have(t,rfl):=rx;have e':k=(i != 0):=e;subst e';exact PySem.P.truthy_int ⟨H,I,q⟩
 |str y=>
  have(t,rfl):=rx;obtain⟨hy,e'⟩:y.length<=ħ/\k=((y.length:Int) != 0):=e;subst e';exact PySem.P.truthy_str (by omega) ⟨H,I.tok _,q⟩
 |yF y=>
  have(t,rfl):=rx;obtain⟨hy,e'⟩:y.size<=ħ/\k=((y.size:Int) != 0):=e;subst e';exact PySem.W.truthy_bytes (by omega) ⟨H,I.tok _,q⟩
 |ref p=>
  cases rx;have e':(∃xs,bu X.K H p xs/\k=!xs.isEmpty)\/(∃xs,cH X.K H p xs/\k=!xs.isEmpty)\/∃kvs,H p=ž (.dK kvs)/\k=!kvs.isEmpty:=e;rcases e' with⟨xs,hx,e'⟩|⟨xs,hx,e'⟩|⟨kvs,hx,e'⟩
  .subst e'
   have(ah,r,pl,hz):=I.list hx;have hlen:=r.length;exact wpAny_truthy_list pl.isList (by simp only[ī];omega) ⟨H,I.tok _,by rw[RW r];exact q⟩
  .subst e'
   have(ah,r,pl,hz):=I.tuple hx;have hlen:=r.length;exact truthy_tuple pl (by simp only[ī];omega) ⟨H,I.tok _,by rw[RW r];exact q⟩
  .subst e'
   obtain⟨hz,hS,vs,r,m⟩:kvs.length<=ħ/\(p==Œ)=Ż/\∃vs,KV kvs vs/\s.heap.DictOf (zH X.prog X.w) p vs:=I.aw p _ hx;have hlen:kvs.length=vs.length:=ų r;exact wpAny_truthy_dict hS m (by omega) ⟨H,I.tok _,by rw[znb r];exact q⟩
 |_=>exact(show False from e).elim
theorem zrS(ha:PE X a ta)(he:∀whole,a3b a X.env whole=(do let v <-whole;Χ a.pos;Ϟ [v] (truthy v))):
  PT X a (λσ H Q=>ta σ H λx H'=>∃k,Gy X.K x H' k/\Q k H'):=by
 intro pins s σ H Q I h;exact isTrue_plain (az (ha pins s σ H _ I h) λv s1 ⟨x,H1,I1,r1,q1⟩=>X4 pins s1 σ H1 x v Q I1 r1 q1)<|he _
theorem nv{x:V}{us:Qa Qc}(r:zJ [x] us):∃u,us=[u]/\zE x u:=by
 cases r with
 |cons r1 r2=>cases r2;exact⟨_,rfl,r1⟩
theorem NS{x y:V}{us:Qa Qc}(r:zJ [x,y] us):∃u w',us=[u,w']/\zE x u/\zE y w':=by
 cases r with
 |cons r1 r2=>
  cases r2 with
  |cons r3 r4=>cases r4;exact⟨_,_,rfl,r1,r3⟩
theorem Jj:fV X (.builtin "abs") (λxs H Q=>∃i,xs=[.int i]/\Q (.int (if i < 0 then -i else i)) H):=by
 intro pins s σ H xs us Q I r h;have(i,rfl,q):=h;have(u,rfl,t,rfl):=nv r;exact call_abs_int λu tk=>⟨.int (if i < 0 then -i else i),H,I.tok _,⟨_,rfl⟩,q⟩
theorem RF:fV X (.type "int") (λxs H Q=>(∃i,xs=[.int i]/\Q (.int i) H)\/∃k,xs=[.bl k]/\Q (.int (if k then 1 else 0)) H):=by
 intro pins s σ H xs us Q I r h;rcases h with⟨i,rfl,q⟩|⟨k,rfl,q⟩
 .have(u,rfl,t,rfl):=nv r
  exact call_int_int ⟨.int i,H,I,⟨_,rfl⟩,q⟩
 .have(u,rfl,r1):=nv r
  cases r1;exact call_int_bool ⟨.int (if k then 1 else 0),H,I.tok _,⟨_,rfl⟩,q⟩
end
structure kS (h:Ļ) (x dx C:Qg) (mA:Str->Qb Qc):Prop where
 obj:h.get? x=ž (ź C dx)
 ns:h.Ns1 dx mA
 ne:dx≠x
theorem zqF{h:Ļ}{dx:Qg}{mA:Str->Qb Qc}(n:h.Ns1 dx mA):∃od,h.get? dx=ž od/\∀name,a1b name od=ž (mA name):=by
 have(o,es,ep,ho,hd,hk,_,hm):=n;refine⟨o,ho,λname=>?_⟩;have e:=hm name;unfold nsFind findBy at e;rw[<-Array.find?_toList]at e;unfold a1b;rw[hd];dsimp only;split
 .rename_i y q
  rw[q]at e;exact congrArg ž e
 .rename_i q
  rw[q]at e;have a:es.toList.any (·.refKey)=Ż:=by
   rw[List.any_eq_false];intro y hy;have(z,t,oZ):=hk y (Array.mem_toList_iff.mp hy);simp[DictEntry.refKey,oZ]
  have a':¬es.toList.any (·.refKey)=ż:=by rw[a];exact qg
  rw[a5F a'];exact congrArg ž e
theorem kS.look{h:Ļ}{x dx C:Qg}{mA:Str->Qb Qc}(I:kS h x dx C mA):∃od,PySem.W.InstAt h x (ź C dx) C (ž od)/\∀name,a1b name od=ž (mA name):=
 let ⟨od,ho,hl⟩:=zqF I.ns
 ⟨od,⟨I.obj,rfl,rfl,ho⟩,hl⟩
section
variable{prog:Qe}{w:Qh}{A:Qf}{E:Qc->Qd->Prop}{s:Qd}{K:qc}{x dx C f:Qg}{mA:Str->Qb Qc}{name:Str}{v:Qc}
theorem zv1{expr:Bool}{Q:Qc->Qd->Prop}(X:K.In s.heap)(I:kS s.heap x dx C mA)(hg:Ϥ K C name=ż)(hh:ϻ K C=ż)
  (ha:Ņ K (.ref C) name=ž Ž) (hv:mA name=ž v) (hv':a4w v=ż) (h:Q v {s with toks:=s.toks+1}):
  ĩ (Ĭ prog w) A (getAttr (.ref x) name expr) Q E s:=by
 have(od,J,hl):=I.look;exact PySem.W.get_value X J (a1j hg).1 (PySem.W.findObj_own hh ha rfl (by rw[hl,hv])) hv' h
theorem zrT{pl:Sem Bool}{Q:Qc×Qa Qc->Qd->Prop}(X:K.In s.heap)(I:kS s.heap x dx C mA)(hg:Ϥ K C name=ż)
  (hf:Ņ K (.ref C) name=ž (ž<|.ref f)) (ht:a0H K (.ref f)=ż) (hv:mA name=Ž) (h:Q (.ref f,[.ref x]) s):
  ĩ (Ĭ prog w) A (getMethod (.ref x) name pl) Q E s:=by
 have(od,J,hl):=I.look;exact PySem.W.method_fn X J (a1j hg).1 (a1j hg).2 hf (beq_iff_eq.mp ht) (by show(a1b name od).map (·.isSome)=ž Ż;rw[hl,hv];rfl) h
theorem zv2{ns:Qa Str}{Q:Unit->Qd->Prop}(X:K.In s.heap)(I:kS s.heap x dx C mA)
  (hs:Ņ K (.ref C) "__setattr__"=ž (ž<|.builtin "object.__setattr__")) (hp:a0f K C=ż) (ht:a1Y K C name=ž Ž) (hh:ϻ K C=ż)
  (hw:a3s mA ns) (hsz:ns.length<=ħ)
  (h:∀h',kS h' x dx C (λy=>if y=name then ž v else mA y)->ύ dx s.heap h'->Q () {s with heap:=h',toks:=s.toks+2}):
  ĩ (Ĭ prog w) A (setAttr (.ref x) name v) Q E s:=by
 have(od,J,hl):=I.look;refine PySem.W.set_plain X J hs<|PySem.W.osa_open (s:={s with toks:=s.toks+1}) (r:=Ž) X J hp ht λb=>?_;have(cd,hc,qS):=PySem.W.any_some hh;have hx:s.heap.get? x=ž ⟨.ref C,ž dx,.plain,#[]⟩:=I.obj;refine qa<|qb<|qa<|qa<|wpAny_loadPart hx<|qa<|PySem.W.Looks.here (s:={s with toks:=s.toks+1}) (PySem.W.looks_clsIn X hc) ?_;rw[qS];refine qb (a:=ž dx)<|qa<|qb<|qa ?_;refine wpAny_nsSet1 (s:={s with toks:=s.toks+1}) I.ns λh' FK qO=>?_;have(oD,esD,epD,hoD,hdD,hcD):=FK.count (PySem.Within.cons name v hw);refine qa<|wpAny_lookBehind hoD (by rw[hdD];exact pastItsLine_dict<|qA hcD (by rw[qv];omega)) ?_;exact qb<|h _ ⟨(qO.2 _<|ň I.ne).trans I.obj,FK,I.ne⟩ qO
theorem zrU{R:Ϻ->Qd->Prop}{vs:Qa Qc}{kw:Qa (Str×Qc)}(X:K.In s.heap)(hm:a1Z K C=ż)
  (hi:Ņ K (.ref C) "__init__"=ž (ž<|.ref f)) (hf:PySem.W.typeIn K (.ref f)=ž (.type "function"))
  (h:Ŵ (Ĭ prog w) (A.under<|.builtin "type.__call__" ⟨.ref C::vs,kw⟩) (.call (.ref f) ⟨.ref (s.heap.objs.size+1)::vs,kw⟩) (PySem.W.InitBack (s.heap.objs.size+1) R)
   {s with heap:=(s.heap.push Ŧ).push (ź C s.heap.objs.size)}):
  Ŵ (Ĭ prog w) A (.call (.ref C) ⟨vs,kw⟩) R s:=by
 have(hh,g,d,t,os):=s;exact PySem.W.make_core (PySem.W.makes_of X hm) (PySem.W.looks_findIn X hi) (λself=>PySem.W.bind_fn X self hf) (.inl rfl) h
end
noncomputable def jb(f:Str)(v:V):Qa (Str×V)->Qa (Str×V)
 |[]=>[(f,v)]
 | (g,x)::r=>if g=f then(g,v)::r else(g,x)::jb f v r
theorem SQ(f g:Str)(v:V):∀fs:Qa (Str×V),(jb f v fs).lookup g=if g=f then ž v else fs.lookup g
 |[]=>by
  show Ũ g [(f,v)]=_
  by_cases h:g=f
  .have hb:(g==f)=ż:=beq_iff_eq.mpr h
   simp only[Ũ,hb,a5E h]
  .have hb:(g==f)=Ż:=beq_eq_false_iff_ne.mpr h
   simp only[Ũ,hb,a5F h]
 | (k,x)::r=>by
  have ih:=SQ f g v r;rw[show jb f v ((k,x)::r)=(if k=f then(k,v)::r else(k,x)::jb f v r) from rfl]
  by_cases hk:k=f
  .rw[a5E hk]
   by_cases h:g=k
   .have hb:(g==k)=ż:=beq_iff_eq.mpr h
    simp only[Ũ,hb,a5E<|h.trans hk]
   .have hb:(g==k)=Ż:=beq_eq_false_iff_ne.mpr h
    simp only[Ũ,hb,a5F (λe:g=f=>h<|e.trans hk.symm)]
  .rw[a5F hk]
   by_cases h:g=k
   .have hb:(g==k)=ż:=beq_iff_eq.mpr h
    simp only[Ũ,hb,a5F (λe:g=f=>hk<|h.symm.trans e)]
   .have hb:(g==k)=Ż:=beq_eq_false_iff_ne.mpr h
    simp only[Ũ,hb];exact ih
theorem Js(f:Str)(v:V):∀fs:Qa (Str×V),f∈(jb f v fs).map (·.1)/\∀g,g∈fs.map (·.1)->g∈(jb f v fs).map (·.1)
 |[]=>⟨by simp[jb],λg h=>by simp at h⟩
 | (k,x)::r=>by
  have(i1,i2):=Js f v r;rw[show jb f v ((k,x)::r)=(if k=f then(k,v)::r else(k,x)::jb f v r) from rfl]
  by_cases hk:k=f
  .rw[a5E hk]
   subst hk;exact⟨by simp,λg h=>by simpa using h⟩
  .rw[a5F hk]
   refine⟨?_,λg h=>?_⟩
   .rw[Ī]
    exact qp _ i1
   .rw[Ī]at h ⊢
    rcases qw.mp h with e|e
    .exact qw.mpr (.inl e)
    .exact qp _ (i2 g e)
theorem SO(f:Str)(v:V):∀fs:Qa (Str×V),(jb f v fs).length<=fs.length+1
 |[]=>by simp[jb]
 | (k,x)::r=>by
  have ih:=SO f v r;rw[show jb f v ((k,x)::r)=(if k=f then(k,v)::r else(k,x)::jb f v r) from rfl]
  by_cases hk:k=f
  .rw[a5E hk,qv,qv];omega
  .rw[a5F hk,qv,qv];omega
theorem ix.some_of{v:V}{o:Qb Qc}(r:ix (ž v) o):∃u,o=ž u/\zE v u:=by
 cases o with
 |none=>exact(show False from r).elim
 |some u=>exact⟨u,rfl,r⟩
theorem ix.none_of{o:Qb Qc}(r:ix Ž o):o=Ž:=by
 cases o with
 |none=>rfl
 |some u=>exact(show False from r).elim
theorem zqG{v:V}{u:Qc}(r:zE v u):a4w u=ż:=by
 cases v with
 |aM=>cases(show u=ł from r);rfl
 |bl b=>cases(show u=a0Q b from r);rfl
 |int i=>have(t,e):=(show ∃t,u=a0G i t from r);cases e;rfl
 |str x=>have(t,e):=(show ∃t,u=a1X x t from r);cases e;rfl
 |yF b=>have(t,e):=(show ∃t,u=Value.bytes b t from r);cases e;rfl
 |wy b=>have(t,e):=(show ∃t,u=a3K b t from r);cases e;rfl
 |ref a=>cases(show u=Į a from r);rfl
 |ty n=>cases(show u=ϣ n from r);rfl
section
variable{P:Qe}{w:Qh}{K:qc}{H H':Hp}{h h':Ļ}{a C dx:Qg}{fs fs':Qa (Str×V)}
theorem Ek(aw:b9 P w K H h)(e:H a=ž (.ins C dx fs)):∃mA,kS h a dx C mA/\(∀f,ix (fs.lookup f)<|mA f)/\a3s mA (fs.map (·.1))/\fs.length<=1000/\H dx=ž (.own a):=by
 have(d,z,ne,ob,mA,n,r,q):=(show zP P w K H h a (.ins C dx fs) from aw a _ e);exact⟨mA,⟨ob,n,ne⟩,r,q,z,d⟩
end
structure gX (K:qc) (C:Qg):Prop where
 pg:Ϥ K C a3v=ż
 hd:ϻ K C=ż
 po:a0f K C=ż
 sa:Ņ K (.ref C) "__setattr__"=ž (ž<|.builtin "object.__setattr__")
theorem gX.get{K:qc}{C:Qg}(c:gX K C)(f:Str):Ϥ K C f=ż:=c.pg
def iP(K:qc)(C:Qg)(f:Str):Prop:=Ņ K (.ref C) f=ž Ž
theorem iP.AV{K:qc}{C:Qg}{f:Str}(n:iP K C f):a1Y K C f=ž Ž:=by
 unfold a1Y;rw[show Ņ K (.ref C) f=ž Ž from n];rfl
structure wK (K:qc) (C:Qg) (m:Str) (f:Qg):Prop where
 at_:Ņ K (.ref C) m=ž (ž<|.ref f)
 fn:a0H K (.ref f)=ż
 kp:ť K (.ref f)=ż
section
variable{X:Cx}{pins:Qa (Qg×Obj)}{σ:St}{H:Hp}{s:Qd}{a C dx:Qg}{fs:Qa (Str×V)}{f:Str}{v:V}{A:Qf}{E:Qc->Qd->Prop}
theorem znc{b:Bool}{Q:Qc->Qd->Prop}(I:Inv X pins σ H s)(e:H a=ž (.ins C dx fs))(c:gX X.K C)(n:iP X.K C f)(l:fs.lookup f=ž v)
  (h:∀u s',Inv X pins σ H s'->zE v u->Q u s'):ĩ (Ĭ X.prog X.w) A (getAttr (.ref a) f b) Q E s:=by
 have(mA,O,r,_,_,_):=Ek I.aw e;have(u,hu,ru):=ix.some_of (v:=v) (o:=mA f) (by rw[<-l];exact r f);exact zv1 I.aZ O (c.get f) c.hd n hu (zqG ru)<|h u _ (I.tok _) ru
theorem znd{m:Str}{g:Qg}{pl:Sem Bool}{Q:Qc×Qa Qc->Qd->Prop}(I:Inv X pins σ H s)(e:H a=ž (.ins C dx fs))(c:gX X.K C)(k:wK X.K C m g)(l:fs.lookup m=Ž)
  (h:Q (.ref g,[.ref a]) s):ĩ (Ĭ X.prog X.w) A (getMethod (.ref a) m pl) Q E s:=by
 have(mA,O,r,_,_,_):=Ek I.aw e;have hn:mA m=Ž:=ix.none_of (by rw[<-l];exact r m);exact zrT I.aZ O (c.get m) k.at_ k.fn hn h
theorem zne{y:V}{u:Qc}{Q:Unit->Qd->Prop}(I:Inv X pins σ H s)(e:H a=ž (.ins C dx fs))(c:gX X.K C)(n:iP X.K C f)(hl:fs.length < 1000)(ry:zE y u)
  (h:∀s',Inv X pins σ (upd H a<|.ins C dx<|jb f y fs) s'->Q () s'):ĩ (Ĭ X.prog X.w) A (setAttr (.ref a) f u) Q E s:=by
 have(mA,O,r,wi,_,ho):=Ek I.aw e;have hz:(fs.map (·.1)).length<=ħ:=by rw[Ħ,ş];omega
 refine zv2 I.aZ O c.sa c.po n.AV c.hd wi hz λh' O' sb=>h _ ?_;have hd:∃o,h'.get? dx=ž o:=let ⟨o,_,_,e',_⟩:=O'.ns;⟨o,e'⟩;refine I.write (x:=a) (e:=dx) (by rw[e];exact ŧ) (.inr ho) (λb q hb z=>(sb.2 b hb).trans z) hd ?_;refine⟨by rw[zu O.ne];exact ho,?_,O.ne,O'.obj,_,O'.ns,λg=>?_,λg hg=>?_⟩
 .have:=SO f y fs;omega
 .show ix ((jb f y fs).lookup g) (if g=f then ž u else mA g)
  rw[SQ]
  by_cases q:g=f
  .rw[a5E q,a5E q];exact ry
  .rw[a5F q,a5F q];exact r g
 .by_cases q:g=f
  .rw[q];exact(Js f y fs).1
  .refine(Js f y fs).2 g (wi g λz=>hg ?_)
   show(if g=f then ž u else mA g)=Ž;rw[a5F q];exact z
theorem Inv.made(I:Inv X pins σ H s):Inv X pins σ (upd (upd H s.heap.objs.size<|.own<|s.heap.objs.size+1) (s.heap.objs.size+1)<|.ins C s.heap.objs.size [])
  {s with heap:=(s.heap.push Ŧ).push (ź C s.heap.objs.size)}:=by
 have e1:(s.heap.push Ŧ).get? s.heap.objs.size=ž Ŧ:=qh s.heap rfl;have e2:((s.heap.push Ŧ).push<|ź C s.heap.objs.size).get? (s.heap.objs.size+1)=ž (ź C s.heap.objs.size):=by
  have:=qh (s.heap.push Ŧ) (o:=ź C s.heap.objs.size) rfl
  rwa[ŝ]at this
 have e3:(s.heap.push Ŧ).Ns s.heap.objs.size (λ_=>Ž):=⟨Ŧ,#[],_,e1,rfl,(λe he=>absurd he (by simp)),λ_=>rfl⟩;have I1:=I.laid (a:=s.heap.objs.size) (o:=.own (s.heap.objs.size+1)) (h':=s.heap.push Ŧ) (t':=s.toks) (λb u q=>qd _ q) (qf _) ⟨_,e1⟩;refine I1.laid (a:=s.heap.objs.size+1) (o:=.ins C s.heap.objs.size []) (t':=s.toks) (λb u q=>qd _ q) (ñ<|û _ _) ?_;have ne:s.heap.objs.size≠s.heap.objs.size+1:=qk (à _);refine⟨by rw[zu ne,zq],Ç _,ne,e2,λ_=>Ž,(Heap.Ns1.of_empty e3).at λo q=>qd _ q,λ_=>ŧ,λy hy=>absurd rfl hy⟩
theorem zv3{prog:Qe}{w:Qh}{env:Env}{e:ĺ}{f:Str}{pos:Pos}{s:Qd}{Q:Qc->Qd->Prop}(hb:Ű e f env (Ť e env)=Ť e env)
  (h:ĩ (Ĭ prog w) A (Ť e env) (λo aB=>ĩ (Ĭ prog w) A (getAttr o f ż) Q E aB) E s):ĩ (Ĭ prog w) A (Ť (.Attribute e f pos) env) Q E s :=
 Attribute_any_ h (by rw[arm_eval_Attribute,hb])
end
def U1(K:qc)(ta:TE)(f:Str):TE:=λσ H Q=>ta σ H λx H1=>∃a C dx fs v,x=.ref a/\H1 a=ž (.ins C dx fs)/\gX K C/\iP K C f/\fs.lookup f=ž v/\Q v H1
def yQ(K:qc)(ta tv:TE)(f:Str):TS:=λD σ H=>tv σ H λy H1=>ta σ H1 λx H2=>∃a C dx fs,x=.ref a/\H2 a=ž (.ins C dx fs)/\gX K C/\iP K C f/\fs.length < 1000/\
 D.nx σ (upd H2 a<|.ins C dx<|jb f y fs)
section
variable{X:Cx}{o e value:ĺ}{f:Str}{pos pos' jw:Pos}{ta tv:TE}
theorem X3(he:PE X e ta)(hb:Ű e f X.env (Ť e X.env)=Ť e X.env):PE X (.Attribute e f pos) (U1 X.K ta f):=by
 intro pins s σ H Q I h;refine zv3 hb<|az (he pins s σ H _ I h) λu s1 hZ=>?_;have(x,H1,I1,rx,a,C,dx,fs,v,ex,ea,c,n,l,q):=hZ;subst ex;obtain rfl:u=Į a:=rx;exact znc I1 ea c n l λu' s2 I2 ru=>⟨v,H1,I2,ru,q⟩
theorem X2(ha:PE X o ta)(hv:PE X value tv)(hs:Ο value (ž<|.Attribute o f pos') pos.line X.env=pure Ż):PS X (.Assign [.Attribute o f pos'] value pos) (yQ X.K ta tv f):=by
 intro pins s σ H D I h;refine plainObj_wpAny_Assign_Attribute (az (hv pins s σ H _ I h) λu s1 ⟨y,H1,I1,ry,q⟩=>az (ha pins s1 σ H1 _ I1 q) λov s2 hZ=>?_) hs;have(x,H2,I2,rx,a,C,dx,fs,ex,ea,c,n,l,q2):=hZ;subst ex;obtain rfl:ov=Į a:=rx;exact zne I2 ea c n l ry λs3 I3=>⟨σ,_,I3,q2⟩
end
section
variable{X:Cx}{pins:Qa (Qg×Obj)}{σ:St}{H:Hp}{s:Qd}{A:Qf}{E:Qc->Qd->Prop}{Q:Qc->Qd->Prop}{c:Qc}{b:Bool}
inductive d6 (K:qc) (H:Hp):V->Qc->Prop where
 |aM:d6 K H .aM (.type "NoneType")
 |bl (x:Bool):d6 K H (.bl x) (.type "bool")
 |int (i:Int):d6 K H (.int i) (.type "int")
 |str (x:Str):d6 K H (.str x) (.type "str")
 |wy (x:UInt64):d6 K H (.wy x) (.type "float")
 |lst {a:Qg} {xs:Qa V} (e:H a=ž (.lst xs)):d6 K H (.ref a) (.type "list")
 |be {a:Qg} {o:Obj} {xs:Qa V} (e:H a=ž (.be o<|.lst xs)):d6 K H (.ref a) (.type "list")
 |tup {a:Qg} {xs:Qa V} (e:aJ K H a xs):d6 K H (.ref a) (.type "tuple")
 |dK {a:Qg} {kvs:Qa (Key×V)} (e:H a=ž (.dK kvs)):d6 K H (.ref a) (.type "dict")
 |dT {a:Qg} {kvs:Qa (Qa Key×V)} (e:H a=ž (.dT kvs)):d6 K H (.ref a) (.type "dict")
 |ins {a C dx:Qg} {fs:Qa (Str×V)} (e:H a=ž (.ins C dx fs)) (cl:gX K C) (ha:Ņ K (.ref C) "__class__"=ž (ž<|.builtin "object.__class__"))
   (hn:PySem.W.specialIn K (.builtin "object.__class__") "__get__"=ž (ž<|.builtin "getset_descriptor.__get__")) (VP:PySem.W.takesIn K (.builtin "object.__class__")=ž ż)
   (hm:PySem.W.mroIn K C (.type "object")=ž ż):d6 K H (.ref a) (.ref C)
theorem zqH{x:V}{u t:Qc}(I:Inv X pins σ H s)(rx:zE x u)(ty:d6 X.K H x t)(e:a1c X.K t c=ž b)(h:∀tk,Q (.bool b) {s with toks:=tk}):
  ĩ (Ĭ X.prog X.w) A (a1P (.builtin "isinstance") [u,c]) Q E s:=by
 cases ty with
 |aM=>cases(show u=ł from rx);exact Ó PySem.W.kitx_none I.aZ ŧ e (λz=>nomatch z) h
 |bl y=>cases(show u=a0Q y from rx);exact Ó PySem.W.kitx_bool I.aZ ŧ e (λz=>nomatch z) h
 |int i=>have(t,q):=(show ∃t,u=a0G i t from rx);cases q;exact Ó PySem.W.kitx_int I.aZ ŧ e (λz=>nomatch z) h
 |str y=>have(t,q):=(show ∃t,u=a1X y t from rx);cases q;exact Ó PySem.W.kitx_str I.aZ ŧ e (λz=>nomatch z) h
 |wy y=>have(t,q):=(show ∃t,u=a3K y t from rx);cases q;exact Ó PySem.W.kitx_float I.aZ ŧ e (λz=>nomatch z) h
 | @lst a xs ea=>
  cases(show u=Į a from rx);have(_,_,n,_,h1):=(show zP X.prog X.w X.K H s.heap a (.lst xs) from I.aw a _ ea);exact Ó a4b I.aZ ⟨_,h1,rfl⟩ e (λz=>nomatch z) h
 | @be a ob xs ea=>
  cases(show u=Į a from rx);have(_,_,_,n,_,h1):=(show zP X.prog X.w X.K H s.heap a (.be ob<|.lst xs) from I.aw a _ ea);exact Ó a4b I.aZ ⟨_,h1,rfl⟩ e (λz=>nomatch z) h
 | @tup a xs ea=>
  cases(show u=Į a from rx);rcases ea with ea|⟨o,ah,n,hk,hc,_⟩
  case inr=>exact Ó a3N I.aZ ⟨o,I.aZ a o hk,hc⟩ e (λz=>nomatch z) h
  have(_,_,_,p):=(show zP X.prog X.w X.K H s.heap a (.tup xs) from I.aw a _ ea);have(o,h1,h2,_):=p;exact Ó a3N I.aZ ⟨o,h1,h2⟩ e (λz=>nomatch z) h
 | @dK a kvs ea=>
  cases(show u=Į a from rx);have(_,_,vs,_,p):=(show zP X.prog X.w X.K H s.heap a (.dK kvs) from I.aw a _ ea);have(o,es,ep,h1,h2,_):=p;exact Ó a4c I.aZ ⟨o,h1,h2.1⟩ e (λz=>nomatch z) h
 | @dT a kvs ea=>
  cases(show u=Į a from rx);have(_,_,xs,_,o,es,ep,h1,h2,_):=(show zP X.prog X.w X.K H s.heap a (.dT kvs) from I.aw a _ ea);exact Ó a4c I.aZ ⟨o,h1,h2.1⟩ e (λz=>nomatch z) h
 | @ins a C dx fs ea cl ha hn VP hm=>
  cases(show u=Į a from rx);have(mA,O,_):=Ek I.aw ea;have(od,J,_):=O.look;exact Ó (PySem.W.kitx_own (cl.get _) cl.hd ha hn VP hm) I.aZ J e (λz=>nomatch z) h
end
structure aE (k:Nat) (A:Qf):Prop where
 hd:A.handled=Ž
 dp:A.depth+3 * k+5 < recursionLimit
 un:A.units+16 * k+200 < Ŷ
 gd:A.guards=ž []
theorem aE.mono{j k:Nat}{A:Qf}(r:aE k A)(h:j<=k):aE j A:=⟨r.hd,by have:=r.dp;omega,by have:=r.un;omega,r.gd⟩
theorem aE.deeper{k:Nat}{A:Qf}(r:aE (k+1) A)(env:Env):aE k (A.deeper env):=
 ⟨r.hd,by have:=r.dp;show A.depth+1+3 * k+5 < _;omega,by have:=r.un;show A.units+3+16 * k+200 < _;omega,r.gd⟩
theorem znf{A:Qf}{C:Qg}{us:Qa Qc}{kw:Qa (Str×Qc)}:(A.under<|.builtin "type.__call__" ⟨.ref C::us,kw⟩).depth=A.depth+1:=by
 first|rfl|simp[a1N,Code.weight,Code.isCreation,Code.isGuard,Code.isCaller,Code.frames,a3A,guardIds]
theorem zng{A:Qf}{C:Qg}{us:Qa Qc}{kw:Qa (Str×Qc)}:(A.under<|.builtin "type.__call__" ⟨.ref C::us,kw⟩).units=A.units+1:=by
 first|rfl|simp[a1N,Code.cUnits,Code.frames,a3A]
theorem aE.make{k:Nat}{A:Qf}(r:aE (k+1) A)(C:Qg)(us:Qa Qc)(kw:Qa (Str×Qc)):aE k (A.under<|.builtin "type.__call__" ⟨.ref C::us,kw⟩):=
 ⟨r.hd,by have:=r.dp;rw[znf];omega,by have:=r.un;rw[zng];omega,by have:=r.gd;first|exact this|simpa [a1N,Code.isGuard,guardIds] using this⟩
theorem aE.depth{k:Nat}{A:Qf}(r:aE k A):A.depth < recursionLimit:=by have:=r.dp;omega
theorem aE.units{k:Nat}{A:Qf}(r:aE k A):A.units+64 < Ŷ:=by have:=r.un;omega
def jZ:TA:=λ_ H Q=>Q [] H
def j0(ta:TE)(tr:TA):TA:=λσ H Q=>ta σ H λx H1=>tr σ H1 λxs H2=>Q (x::xs) H2
section
variable{X:Cx}{e:ĺ}{es:Qa ĺ}{te:TE}{t:TA}{pos:Pos}
theorem zAa:PA X [] jZ:=λ_ _ _ _ H Q I h=>a1U ⟨[],H,I,.nil,h⟩
theorem zv4(ha:PE X e te)(hr:PA X es t)(hs:autoParam (ŏ (e::es) X.env=(Ż,Ť e X.env)::ŏ es X.env) ć):PA X (e::es) (j0 te t):=by
 intro pos pins s σ H Q I h;rw[hs];show ĩ _ _ (spliced<|(Ż,Ť e X.env)::Ω pos (ŏ es X.env)) _ _ s;refine í<|az (ha pins s σ H _ I h) λu s1 hZ=>?_;have(x,H1,I1,r1,q1):=hZ;exact az (hr pos pins s1 σ H1 _ I1 q1) λus s2 ⟨xs,H2,I2,r2,q2⟩=>⟨x::xs,H2,I2,.cons r1 r2,q2⟩
def KC(t:TA):TE:=λσ H Q=>t σ H λxs H1=>xs.length<=ħ/\∀p,H1 p=Ž->Q (.ref p) (upd H1 p<|.tup xs)
def Dt(t:TA):TE:=λσ H Q=>t σ H λxs H1=>xs.length<=ħ/\∀p,H1 p=Ž->Q (.ref p) (upd H1 p<|.lst xs)
theorem zAc{x1}(h:PA X es t):PE X (.Tuple es x1 pos) (KC t):=by
 intro pins s σ H Q I hq;refine wpAny_Tuple_spliced<|az (h pos pins s σ H _ I hq) λus s1 ⟨xs,H1,I1,r,z,q⟩=>⟨by rw[<-r.length];exact z,?_⟩;have hf:H1 s1.heap.objs.size=Ž:=I1.aw.fresh (qf _);refine⟨.ref s1.heap.objs.size,upd H1 s1.heap.objs.size<|.tup xs,I1.laid (t':=s1.toks) (λb u e=>qd _ e) (qf _) ?_,rfl,q _ hf⟩;exact⟨z,us,r,⟨_,qh _ rfl,rfl,⟨_,rfl⟩,.inl rfl⟩⟩
theorem zAd(h:PA X es t):PE X (.List es pos) (Dt t):=by
 intro pins s σ H Q I hq;refine wpAny_List_spliced<|az (h pos pins s σ H _ I hq) λus s1 ⟨xs,H1,I1,r,z,q⟩=>⟨by rw[<-r.length];exact z,?_⟩;have hf:H1 s1.heap.objs.size=Ž:=I1.aw.fresh (qf _);refine⟨.ref s1.heap.objs.size,upd H1 s1.heap.objs.size<|.lst xs,I1.laid (t':=s1.toks) (λb u e=>qd _ e) (qf _) ?_,rfl,q _ hf⟩;exact⟨z,us,0,r,qh _ rfl⟩
end
abbrev Sp:=Qa V->Hp->VK->XK->Prop
abbrev lT:=Qa Env->Hp->Qd->XK->Qc->Qd->Prop
structure kY (P:Qe) (w:Qh) (K:qc) (mg:Str->Qb Qc) (base:Ļ) (A:Qf) (outer:Qa Env) (s:Qd) (H:Hp):Prop where
 frames:A.frames=ž outer
 mod:Mod K mg base
 bs:∀b o,base.get? b=ž o->s.heap.get? b=ž o/\H b=Ž
 qY:base.objs.size<=s.heap.objs.size
 eX:s.heap.FunFrames base outer
 uF:∀b∈m6 outer,H b=Ž
 aw:b9 P w K H s.heap
 bare:a0W s.gens
def CE(outer:Qa Env)(P:Qe)(w:Qh)(K:qc)(H:Hp)(s:Qd)(Q:VK)(u:Qc)(s':Qd):Prop :=
 ∃v H',s'.os=s.os/\a0W s'.gens/\Un (m6 outer) [] H H' s.heap s'.heap/\b9 P w K H' s'.heap/\zE v u/\Q v H'
def CR(CX:lT)(outer:Qa Env)(P:Qe)(w:Qh)(K:qc)(H:Hp)(s:Qd)(Q:VK)(E:XK)(r:Ϻ)(s':Qd):Prop :=
 match r with
 |.ok (.ret u)=>CE outer P w K H s Q u s'
 |.ok _=>False
 |.error e=>CX outer H s E e s'
structure cD (P:Qe) (w:Qh) (K:qc) (mg:Str->Qb Qc) (base:Ļ) (CX:lT) (k:Nat) (f:Qg) (fd:ϋ) (ps:Qa Str) (sp:Sp):Prop where
 len:∀vs H Q E,sp vs H Q E->vs.length=ps.length
 run:∀(A:Qf) (outer:Qa Env) (s:Qd) (H:Hp) (args:Args) (us:Qa Qc) (vs:Qa V) (Q:VK) (E:XK),aE k A->kY P w K mg base A outer s H->a3B s fd args (ps.zip us)->zJ vs us->sp vs H Q E->
  Ŵ (Ĭ P w) A (.call (.ref f) args) (CR CX outer P w K H s Q E) s
theorem kY.make{P:Qe}{w:Qh}{K:qc}{mg:Str->Qb Qc}{base:Ļ}{A:Qf}{outer:Qa Env}{s:Qd}{H:Hp}(e:kY P w K mg base A outer s H)(C:Qg)(us:Qa Qc)(kw:Qa (Str×Qc)):
  kY P w K mg base (A.under<|.builtin "type.__call__" ⟨.ref C::us,kw⟩) outer s H:=⟨by first|exact e.frames | (simpa [a1N,Code.envs,a3A,pushEnvs] using e.frames),e.mod,e.bs,e.qY,e.eX,e.uF,e.aw,e.bare⟩
section
variable{X:Cx}{pins:Qa (Qg×Obj)}{σ:St}{H:Hp}{s s':Qd}
theorem Inv.Cr(I:Inv X pins σ H s):kY X.prog X.w X.K X.mg X.base X.A X.stack s H :=
 ⟨I.ok.frames,I.ok.mod,I.bs,qA I.ok.qY I.sz,I.stack,I.lM,I.aw,I.bare⟩
theorem Inv.after{Q:VK}{u:Qc}(I:Inv X pins σ H s)(h:CE X.stack X.prog X.w X.K H s Q u s'):EP X pins σ Q u s':=by
 have(v,H',os,bare,un,aw,r,q):=h;have(hh,g,d,t,ye):=s';obtain rfl:ye=s.os:=os;exact⟨v,H',I.call (h':=hh) (g':=g) (d':=d) (t':=t) (ch:=[]) un aw bare (λb z=>absurd z (by simp)),r,q⟩
end
def zCI(sp:Sp)(dvs:Qa V)(E:XK)(t:TA):TE:=λσ H Q=>t σ H λvs H1=>sp (vs++dvs) H1 Q E
def NR(C:Qg)(sp:Sp)(dvs:Qa V)(E:XK)(t:TA):TE:=λσ H Q=>t σ H λvs H1=>∀x dx,H1 x=Ž->H1 dx=Ž->dx≠x->
 sp (.ref x::(vs++dvs)) (upd (upd H1 dx<|.own x) x<|.ins C dx []) (λv H2=>v=.aM/\Q (.ref x) H2) E
def n9(K:qc)(fd:ϋ)(ps:Qa Str)(ds:Qa Qc):Prop :=
 ∀(s:Qd) (us:Qa Qc),K.In s.heap->(us++ds).length=ps.length->a3B s fd ⟨us,[]⟩ (ps.zip<|us++ds)
theorem n9.all{K:qc}{fd:ϋ}{ps:Qa Str}(h:∀us:Qa Qc,us.length=ps.length->a3I fd ⟨us,[]⟩=pure (ps.zip us)):n9 K fd ps []:=λs us _ hl=>by
 rw[ń]at hl ⊢;exact .of_eq<|h us hl
def Ag(CX:lT)(X:Cx)(E:XK):Prop:=∀(pins:Qa (Qg×Obj)) (σ:St) (H:Hp) (s:Qd) (e:Qc) (s':Qd),Inv X pins σ H s->CX X.stack H s E e s'->X.xe e s'
section
variable{X:Cx}{CX:lT}{k:Nat}{f C:Qg}{fd:ϋ}{ps:Qa Str}{sp:Sp}{dvs:Qa V}{ds:Qa Qc}{E:XK}{x m:Str}{p pos apos:Pos}{e o:ĺ}{es:Qa ĺ}{ta:TE}{t:TA}
theorem OR{pins:Qa (Qg×Obj)}{σ:St}{H:Hp}{s:Qd}{Q:VK}{us:Qa Qc}{vs:Qa V}(F:cD X.prog X.w X.K X.mg X.base CX k f fd ps sp)(hr:aE k X.A)(hb:n9 X.K fd ps ds)(hd:zJ dvs ds)(hx:Ag CX X E)
  (I:Inv X pins σ H s) (r:zJ vs us) (h:sp (vs++dvs) H Q E):ĩ (Ĭ X.prog X.w) X.A (a1P (.ref f) us) (EP X pins σ Q) X.xe s:=by
 have r2:zJ (vs++dvs) (us++ds):=r.append hd;have hl:(us++ds).length=ps.length:=by rw[<-r2.length];exact F.len _ _ _ _ h
 refine wpAny_call<|Ψ (F.run X.A X.stack s H ⟨us,[]⟩ (us++ds) (vs++dvs) Q E hr I.Cr (hb s us I.aZ hl) r2 h) λr s' hq=>?_;cases r with
 |error e=>exact hx pins σ H s e s' I hq
 |ok fl=>
  cases fl with
  |ret u=>exact I.after hq
  |next=>exact ŷ hq
  |brk=>exact ŷ hq
  |cont=>exact ŷ hq
theorem zv6(F:cD X.prog X.w X.K X.mg X.base CX k f fd ps sp)(hr:aE k X.A)(hg:Gl X x)(hm:X.mg x=ž (.ref f))(hk:ť X.K (.ref f)=ż)(hb:n9 X.K fd ps ds)(hd:zJ dvs ds)(hx:Ag CX X E)
  (ha:PA X (e::es) t) (gJ:autoParam ((x==("__debug__":Str))=Ż) ă) (he:autoParam (ŏ (e::es) X.env=(Ż,Ť e X.env)::ŏ es X.env) ć) (dN:autoParam ((Ω pos<|ŏ es X.env).any (·.1)=Ż) ć):
  PE X (.Call (.Name x p) (e::es) [] pos) (zCI sp dvs E t):=by
 intro pins s σ H Q I h;refine a0F<|IJ I hg hm ?_ gJ;refine a3O (h₀:=X.base) I.ok.mod.fJ hk (az (ha pos pins s σ H _ I h) λus s1 ⟨vs,H1,I1,r,q⟩=>⟨I1.aZ,?_⟩) he dN;exact OR F hr hb hd hx I1 r q
structure Mk (K:qc) (C f:Qg):Prop where
 makes:a1Z K C=ż
 init:Ņ K (.ref C) "__init__"=ž (ž<|.ref f)
 fn:a0H K (.ref f)=ż
 kp:ť K (.ref C)=ż
theorem zrX{pins:Qa (Qg×Obj)}{σ:St}{H:Hp}{s:Qd}{Q:VK}{us:Qa Qc}{vs:Qa V}(M:Mk X.K C f)(F:cD X.prog X.w X.K X.mg X.base CX k f fd ps sp)(hr:aE (k+1) X.A)(hb:n9 X.K fd ps ds)(hd:zJ dvs ds)
  (hx:Ag CX X E) (I:Inv X pins σ H s) (r:zJ vs us)
  (h:∀x dx,H x=Ž->H dx=Ž->dx≠x->sp (.ref x::(vs++dvs)) (upd (upd H dx<|.own x) x<|.ins C dx []) (λv H2=>v=.aM/\Q (.ref x) H2) E):
  ĩ (Ĭ X.prog X.w) X.A (a1P (.ref C) us) (EP X pins σ Q) X.xe s:=by
 have hq:=h (s.heap.objs.size+1) s.heap.objs.size (I.aw.fresh<|é _) (I.aw.fresh<|qf _) (qk<|à _);have I2:=Inv.made (C:=C) I;have r2:zJ (V.ref (s.heap.objs.size+1)::(vs++dvs)) (Į (s.heap.objs.size+1)::(us++ds)):=.cons rfl (r.append hd);have hl:(Į (s.heap.objs.size+1)::us++ds).length=ps.length:=by
  have e:=r2.length;rw[F.len _ _ _ _ hq]at e;exact e.symm
 refine wpAny_call<|zrU (f:=f) I.aZ M.makes M.init (beq_iff_eq.mp M.fn)<|Ψ (F.run _ X.stack _ _ ⟨Į (s.heap.objs.size+1)::us,[]⟩ (Į (s.heap.objs.size+1)::(us++ds)) _ _ E (hr.make C us [])
  (I2.Cr.make C us []) (hb _ (Į (s.heap.objs.size+1)::us) I2.aZ hl) r2 hq) λr s' v9=>?_
 cases r with
 |error e=>exact hx pins σ _ _ e s' I2 v9
 |ok fl=>
  cases fl with
  |ret u=>
   have(v,H',I3,rv,ev,q3):=I2.after v9;subst ev;exact⟨rv,⟨V.ref<|s.heap.objs.size+1,H',I3,rfl,q3⟩⟩
  |next=>exact ŷ v9
  |brk=>exact ŷ v9
  |cont=>exact ŷ v9
theorem zrY(M:Mk X.K C f)(F:cD X.prog X.w X.K X.mg X.base CX k f fd ps sp)(hr:aE (k+1) X.A)(hg:Gl X x)(hm:X.mg x=ž (.ref C))(hb:n9 X.K fd ps ds)(hd:zJ dvs ds)(hx:Ag CX X E)
  (gJ:autoParam ((x==("__debug__":Str))=Ż) ă):PE X (.Call (.Name x p) [] [] pos) (NR C sp dvs E jZ):=by
 intro pins s σ H Q I h;refine a0F<|IJ I hg hm ?_ gJ;exact PySem.W.callWith_K0 I.aZ M.kp<|zrX (us:=[]) M F hr hb hd hx I .nil h
end
structure bE (N P:Qa Str) (sc:a1z):Prop where
 kind:sc.kind=.function
 co:sc.isCoroutine=Ż
 gen:sc.isGenerator=Ż
 nd:N.Nodup
 pre:N.take P.length=P
 par:∀x∈P,sc.names.lookup x=ž .local\/sc.names.lookup x=ž .cell
 vQ:∀y∈sc.names,y.2≠.free
theorem RE{a0n:Str->Qb δ}{x:Str}:∀{binds:Qa (Str×Qc)} {m:Str->Qb Qc},(∀v,(x,v)∉binds)->bindL a0n binds m x=m x
 |[],_,_=>rfl
 | (n,v)::r,m,h=>by
  unfold bindL;rw[RE λw hw=>h w<|qp _ hw];split
  .have:x≠n:=by rintro rfl;exact h v qq
   simp[this]
  .rfl
theorem RD{a0n:Str->Qb δ}{x:Str}:∀{binds:Qa (Str×Qc)} {m:Str->Qb Qc},(∀v,(x,v)∉binds)->bindC a0n binds m x=m x
 |[],_,_=>rfl
 | (n,v)::r,m,h=>by
  unfold bindC;rw[RD λw hw=>h w<|qp _ hw];split
  .rfl
  .have:x≠n:=by rintro rfl;exact h v qq
   simp[this]
theorem RC{a0n:Str->Qb δ}{x:Str}{v:Qc}:∀{P:Qa Str} {vs:Qa Qc} {i:Nat} {m:Str->Qb Qc},P.Nodup->P[i]?=ž x->vs[i]?=ž v->a0n x=ž .local->
  bindL a0n (P.zip vs) m x=ž v
 |[],_,_,_,_,h,_,_=>by simp at h
 |_::_,[],_,_,_,_,h,_=>by simp at h
 |p::P,w::vs,0,m,nd,h1,h2,hk=>by
  simp at h1 h2;subst h1;subst h2;show bindL a0n ((p,w)::P.zip vs) m p=_;unfold bindL;rw[RE λv hv=>(List.nodup_cons.mp nd).1 (a2C hv).1,a5E hk];simp
 |p::P,w::vs,i+1,m,nd,h1,h2,hk=>by
  show bindL a0n ((p,w)::P.zip vs) m x=_;unfold bindL;exact RC (i:=i) (ø.mp nd).2 (by simpa using h1) (by simpa using h2) hk
theorem RB{a0n:Str->Qb δ}{x:Str}{v:Qc}:∀{P:Qa Str} {vs:Qa Qc} {i:Nat} {m:Str->Qb Qc},P.Nodup->P[i]?=ž x->vs[i]?=ž v->a0n x≠ž .local->
  bindC a0n (P.zip vs) m x=ž v
 |[],_,_,_,_,h,_,_=>by simp at h
 |_::_,[],_,_,_,_,h,_=>by simp at h
 |p::P,w::vs,0,m,nd,h1,h2,hk=>by
  simp at h1 h2;subst h1;subst h2;show bindC a0n ((p,w)::P.zip vs) m p=_;unfold bindC;rw[RD λv hv=>(List.nodup_cons.mp nd).1 (a2C hv).1,a5F hk];simp
 |p::P,w::vs,i+1,m,nd,h1,h2,hk=>by
  show bindC a0n ((p,w)::P.zip vs) m x=_;unfold bindC;exact RB (i:=i) (ø.mp nd).2 (by simpa using h1) (by simpa using h2) hk
noncomputable def iA(N:Qa Str)(vs:Qa V):St:=vs.map ž++Ĩ (N.length - vs.length) Ž
noncomputable def pM(CX:lT)(P:Qe)(w:Qh)(K:qc)(mg:Str->Qb Qc)(base:Ļ)(N:Qa Str)(qual:Str)(scope:a1z)(f:Qg)(cd:Qc)(A:Qf)(outer:Qa Env)(s:Qd)(H:Hp)(E:XK):Cx where
 prog:=P
 w:=w
 K:=K
 mg:=mg
 base:=base
 A:=A.deeper (a0X qual scope s.heap.objs.size f cd)
 N:=N
 bf:=s
 H₀:=H
 env:=a0X qual scope s.heap.objs.size f cd
 outer:=outer
 stack:=a0X qual scope s.heap.objs.size f cd::outer
 ex:=[]
 calm:=ż
 fn:=λ_=>ż
 pn:=[]
 xe:=λe s'=>ĩ (Ĭ P w) (A.deeper<|a0X qual scope s.heap.objs.size f cd) (leaving (a0X qual scope s.heap.objs.size f cd) e) (λ_ Fk=>CX outer H s E e Fk) (λe' Fk=>CX outer H s E e' Fk) s'
theorem QZ{sc:a1z}{n:Nat}{x:Str}(h:sc.names.lookup x=ž .cell):∃c,(Ľ n sc.names []).lookup x=ž c:=by
 have q:=a3c sc.names n [] (.inl h);exact Option.isSome_iff_exists.mp q
theorem zqI{CX:lT}{P:Qe}{w:Qh}{K:qc}{mg:Str->Qb Qc}{base:Ļ}{N ps:Qa Str}{qual:Str}{scope:a1z}{f:Qg}{cd:Qc}{A:Qf}{outer:Qa Env}{s s1:Qd}{H:Hp}{E:XK}{us:Qa Qc}{vs:Qa V}
  (S:bE N ps scope) (hd:A.handled=Ž) (e0:kY P w K mg base A outer s H) (hl:vs.length=ps.length) (r:zJ vs us)
  (x:InCallC s s.heap.objs.size (bindL (a0X qual scope s.heap.objs.size f cd).kindOf (ps.zip us) λ_=>Ž) (Ľ (s.heap.objs.size+1) scope.names []) (bindC (a0X qual scope s.heap.objs.size f cd).kindOf (ps.zip us) λ_=>Ž) s1):
  Inv (pM CX P w K mg base N qual scope f cd A outer s H E) [] (iA N vs) H s1:=by
 have dN:ps.length<=N.length:=by have:=congrArg ϥ S.pre;rw[a0L]at this;omega
 have(h1,tk,rfl,hk):=x.done;have Bb:∀b:Qg,b∉(pM CX P w K mg base N qual scope f cd A outer s H E).ex:=λb z=>absurd (show b∈([]:Qa Qg) from z) (by simp);refine⟨⟨e0.mod,S.kind,rfl,rfl,qf _,λy z c h1 h2=>?_,λy hy=>?_,λy c _ h=>?_,λ_=>hd,Around.frames_deeper e0.frames,.inr ⟨rfl,rfl⟩,λb z=>absurd z<|Bb b,e0.bs,e0.qY,λb _ _=>Bb b,λb z=>absurd z<|Bb b,e0.eX,e0.uF⟩,
  rfl,e0.bare,Un.kept hk,⟨_,x.toInCall.ns,λi y v h1 h2 h3=>?_⟩,λy c h=>⟨_,x.cell y c h⟩,e0.aw.fresh<|qf _,λy c h=>?_,λp hp=>absurd (show p∈([]:Qa (Qg×Obj)) from hp) (by simp),e0.aw.kept hk,?_⟩
 .exact name_of_addr x.apart (ë h1) (ë h2)
 .have hy:scope.names.lookup y=ž .cell\/scope.names.lookup y=ž .free:=hy
  rcases hy with hy|hy
  .exact QZ hy
  .exact absurd rfl (S.vQ _<|ë hy)
 .exact a2d (x.above y c<|ë h)
 .have hi:i < vs.length:=by
   unfold iA at h2
   by_cases hi:i < vs.length
   .exact hi
   .rw[ı (by simpa using hi)]at h2
    rw[ŗ]at h2;split at h2<;>cases h2
  have ha:vs[i]?=ž v:=by
   unfold iA at h2;rw[ĳ (by simpa using hi),ĭ]at h2;cases e:vs[i]? with
   |none=>rw[e]at h2;cases h2
   |some a=>rw[e]at h2;cases h2;rfl
  have(u,hu,rv):=r.get ha;have hp:ps[i]?=ž y:=by
   rw[<-S.pre,List.getElem?_take_of_lt (by omega)];exact h1
  have Vx:ps.Nodup:=by rw[<-S.pre];exact S.nd.sublist<|a4X _ _
  refine⟨u,rv,?_⟩;rcases S.par y (Ä hp)with k|k
  .exact .inl ⟨k,RC Vx hp hu k⟩
  .have(c,e):=QZ (n:=s.heap.objs.size+1) k
   refine .inr ⟨.inl k,c,e,?_⟩;have q:=x.cell y c e;rw[RB Vx hp hu (by show scope.names.lookup y≠_;rw[k];decide)]at q;exact q
 .exact e0.aw.fresh (a2d<|x.above y c<|ë h)
 .unfold iA
  show _=N.length;rw[qu,Ħ,Ĺ];omega
theorem zCJ{CX:lT}{P:Qe}{w:Qh}{K:qc}{mg:Str->Qb Qc}{base:Ļ}{k:Nat}{f:Qg}{name qual:Str}{params:Arguments}{body:Qa Ś}{scope:a1z}{dV kV doc pm bq ct oc:Qc}{an od:Qb Qg}
  {nH:Array (Qb Qc)} {N ps:Qa Str} {sp:Sp} (lk:K.lookup f=ž ⟨oc,od,.func<|Ū name qual params body scope dV kV doc pm an bq ct,nH⟩) (mW:Α K bq qual=ż) (S:bE N ps scope)
  (len:∀vs H Q E,sp vs H Q E->vs.length=ps.length)
  (bZ:∀(A:Qf) (outer:Qa Env) (s:Qd) (H:Hp) (vs:Qa V) (Q:VK) (E:XK),aE k (A.deeper<|a0X qual scope s.heap.objs.size f bq)->sp vs H Q E->
   ∃t,fN (pM CX P w K mg base N qual scope f bq A outer s H E) body t/\t {nx:=λ_ H'=>Q .aM H',rt:=Q} (iA N vs) H):
  cD P w K mg base CX (k+1) f (Ū name qual params body scope dV kV doc pm an bq ct) ps sp:=by
 refine⟨len,λA outer s H args us vs Q E hr e0 hb r ui=>?_⟩;have hl:=len _ _ _ _ ui;have KX:K.In s.heap:=e0.mod.fJ.keeps λb o e=>(e0.bs b o e).1;have lim:s.heap.NoLimit:=e0.mod.nolimit.keeps λb o e=>(e0.bs b o e).1;have BV:∀y∈ps.zip us,scope.names.lookup y.1=ž .local\/(scope.names.lookup y.1=ž .cell/\((Ľ (s.heap.objs.size+1) scope.names []).lookup y.1).isSome=ż):=λ⟨n,v⟩ hy=>by
  rcases S.par n (ß hy).1 with q|q
  .exact .inl q
  .exact .inr ⟨q,a3c _ _ _<|.inl q⟩
 refine codeAny_call_function hr.depth (KX _ _ lk) rfl S.co S.gen rfl (PySem.W.codeRec_of KX mW)<|hb _ _ _ _ ?_;refine wpAny_newFunctionEnv_cells S.kind BV λenv he s1 x=>?_;subst he;refine⟨lim.keeps x.toInCall.keep,codeAny_func ?_⟩;have(t,ht,hq):=bZ A outer s H vs Q E (hr.deeper _) ui;have I:Inv (pM CX P w K mg base N qual scope f bq A outer s H E) [] (iA N vs) H s1:=zqI S hr.hd e0 hl r x;refine ļ (ht [] s1 (iA N vs) H _ I hq) (λfl s' hs=>?_) λe s' hs=>hs;have fin:∀{aF:St} {H':Hp} {v:V} {u:Qc},Inv (pM CX P w K mg base N qual scope f bq A outer s H E) [] aF H' s'->zE v u->Q v H'->CE outer P w K H s Q u s' :=
  λ{aF H' v u} J rv q=>⟨v,H',J.os,J.bare,J.base,J.aw,rv,q⟩
 cases fl with
 |ret u=>
  have(v,aF,H',J,rv,q):=hs;exact fin J rv q
 |next=>
  have(aF,H',J,q):=hs;exact fin (v:=V.aM) (u:=ł) J rfl q
 |brk=>
  have(_,_,_,q):=hs;exact ŷ q
 |cont=>
  have(_,_,_,q):=hs;exact ŷ q
section
variable{X:Cx}{x:Str}{p pos:Pos}{e:ĺ}{es:Qa ĺ}{t:TA}{id T:String}{r:Qa V->Hp->VK->Prop}
def mF(r:Qa V->Hp->VK->Prop)(t:TA):TE:=λσ H Q=>t σ H λvs H1=>r vs H1 Q
theorem zrZ(hc:fV X (.builtin id) r)(hg:Gl X x)(hm:X.mg x=Ž)(hv:Ÿ x=ž (.builtin id))(ha:PA X (e::es) t)(hn:autoParam (x ≠ "__name__") ă)(gJ:autoParam ((x==("__debug__":Str))=Ż) ă)
  (he:autoParam (ŏ (e::es) X.env=(Ż,Ť e X.env)::ŏ es X.env) ć) (dN:autoParam ((Ω pos<|ŏ es X.env).any (·.1)=Ż) ć):PE X (.Call (.Name x p) (e::es) [] pos) (mF r t):=by
 intro pins s σ H Q I h;refine a0F<|vi I hg hm hv ?_ hn gJ;exact PyProof.Rows.callWith_builtin1 (az (ha pos pins s σ H _ I h) λus s1 ⟨vs,H1,I1,r1,q1⟩=>hc pins s1 σ H1 vs us Q I1 r1 q1) he dN
theorem zqJ(hc:fV X (.type T) r)(hg:Gl X x)(hm:X.mg x=Ž)(hv:Ÿ x=ž (.type T))(ha:PA X (e::es) t)(hn:autoParam (x ≠ "__name__") ă)(gJ:autoParam ((x==("__debug__":Str))=Ż) ă)
  (he:autoParam (ŏ (e::es) X.env=(Ż,Ť e X.env)::ŏ es X.env) ć) (dN:autoParam ((Ω pos<|ŏ es X.env).any (·.1)=Ż) ć):PE X (.Call (.Name x p) (e::es) [] pos) (mF r t):=by
 intro pins s σ H Q I h;refine a0F<|vi I hg hm hv ?_ hn gJ;exact Þ (az (ha pos pins s σ H _ I h) λus s1 ⟨vs,H1,I1,r1,q1⟩=>hc pins s1 σ H1 vs us Q I1 r1 q1) he dN
end
end Internal
variable{E:Internal.Qc->Internal.Qd->Prop}{K:Internal.qc}{H:Internal.Hp}{pins:Internal.Qa (Internal.Qg×Obj)}{i:Nat}{w:Internal.Qh}{α:Type}{A:Internal.Qf}{Q:Internal.Qc->Internal.Qd->Prop}{σ:Internal.St}{vs:Internal.Qa (Internal.Qa Int)}{n:Nat}{a:Internal.Qg}{kvs:Internal.Qa (Internal.Qa Internal.Key×Internal.V)}{pn:Internal.Qa Nat}{prog:Internal.Qe}{js:Internal.Qa Nat}{v:Internal.Qa Int}{e:ĺ}{nt:Nat}{es:Array Ů}{H':Internal.Hp}{x:Str}{l:Internal.Qa Int}{j:Nat}{te:Internal.TE}{h:Ļ}{cl:Internal.Qa (Str×Internal.Qg)}{f:Str}{b:Internal.Qg}{r:Internal.Qa Internal.V->Internal.Hp->Internal.VK->Prop}{P:Internal.Qe}{fd:ϋ}{p:Pos}{o:ĺ}{c:Str}{tg:ĺ}{st:Ś}{mg:Str->Internal.Qb Internal.Qc}{u:Internal.Qc}{β:Type}{ws:Internal.Qa (Internal.Qa Internal.Key×Internal.V)}{tv ta:Internal.TE}{elts:Internal.Qa ĺ}{sg:Internal.Qa Int}{scope:a1z}{ep:Nat}{a₀:Array a0y}{ns:Internal.Qa Int}{it:Internal.Qg}{g:Internal.TG}{T:String}{apos:Pos}{N:Internal.Qa Str}{td:Internal.TE}{sp:Internal.Sp}{d:Internal.Qg}{y:Internal.V}{κ:SortKind}{aL jw:Pos}{ty:Internal.TE}{dx:Internal.Qg}{tk:Internal.TE}{m:Nat}{us:Internal.Qa Internal.Qc}{h':Ļ}{iter:ĺ}{H₀:Internal.Hp}{tab:Internal.Qa (Str×Internal.Qa Str)}{tn:Nat->Ļ->Prop}{h8:a3L}{tb:Internal.TE}{aj:Internal.St}{aq:Internal.Hp}{ys:Internal.Qa Internal.V}{pos':Pos}{nH:Array (Internal.Qb Internal.Qc)}{B:Nat}{rows:Internal.Qa Nat}{env:Env}{ifs:Internal.Qa ĺ}{tt:Internal.TT}{wi:Internal.TI}{key:Internal.Qa Internal.K3}{cmp:Nat->Nat->(Bool->Internal.Qd->Prop)->Internal.Qd->Prop}{G:Array a1T->Array a1T->Prop}{qual:Str}{value:ĺ}{H1:Internal.Hp}{as:Internal.Qa α}{J:Type}{kx vx t2 i2:ĺ}{Z:Internal.Hp->Prop}{ah:Internal.Qa Internal.Qc}{op:a2T}
namespace HT
open PySem PyProof.Rows
section
variable{prog:Program} {w:World} {A:Around} {E:a0v->a1a->Prop} {s:a1a}
theorem sL{t b:Addr}{vs ws:List a0v}{Q:a0v->a1a->Prop}(ht:a1R s.heap t vs.toArray)(hb:a1R s.heap b ws.toArray)(hv:vs≠[])
  (h1:ws=[]->Q (.ref t) s) (h2:ws≠[]->Q (.ref s.heap.objs.size) {s with heap:=s.heap.push {cls:=.type "tuple",data:=.seq (vs++ws).toArray}})
  (hsz:vs.length+ws.length<=ħ):ĩ (Ĭ prog w) A (ϊ .Add (.ref t)<|.ref b) Q E s:=by
 obtain⟨⟨cls,dd,data,sl⟩,ho,hc,n,hd⟩:=id ht;obtain⟨⟨Cz,wF,data2,qI⟩,qQ,B6,n2,hd2⟩:=id hb;simp only at hc hd B6 hd2;subst hc hd B6 hd2;have e:vs.toArray++ws.toArray=(vs++ws).toArray:=by simp
 by_cases hw:ws=[]
 .exact a2M ⟨_,ho,rfl⟩ ⟨_,qQ,rfl⟩ a3a a4o a0I a0z (a0p _ _)
   (tuple_addW1 t b vs.toArray ws.toArray n n2 dd wF sl qI (by simpa using hv) (by simp[hw])) ⟨ho,qQ,h1 hw⟩
 .refine a2M ⟨_,ho,rfl⟩ ⟨_,qQ,rfl⟩ a3a a4o a0I a0z (a0p _ _)
   (tuple_addW2 t b vs.toArray ws.toArray n n2 dd wF sl qI (by simpa using hv) (by simpa using hw) (by rw[ī,ī];exact hsz)) ⟨ho,qQ,?_⟩
  rw[e];exact h2 hw
noncomputable def aY(n d:Nat):Option Int->Nat
 |none=>d
 |some v=>if v < 0 then(v+(n:Int)).toNat else min v.toNat n
theorem jx(n d:Nat):aY n d Ž=d:=rfl
theorem lO(n d k:Nat):aY n d (ž (k:Int))=min k n:=by
 show(if(k:Int) < 0 then((k:Int)+(n:Int)).toNat else min (k:Int).toNat n)=min k n;rw[a5F (by omega),Ŀ]
theorem zAe(n d:Nat)(hd:d<=n)(o:Option Int):aY n d o<=n:=by
 cases o with
 |none=>exact hd
 |some v=>
  show(if v < 0 then(v+(n:Int)).toNat else min v.toNat n)<=n
  by_cases hv:v < 0
  .rw[a5E hv];omega
  .rw[a5F hv];exact Nat.min_le_right _ _
theorem i8(v:Int)(n d:Nat):(if v < 0 then max (v+(n:Int)) 0 else min v (n:Int))=((aY n d (ž v):Nat):Int):=by
 show(if v < 0 then max (v+(n:Int)) 0 else min v (n:Int))=(((if v < 0 then(v+(n:Int)).toNat else min v.toNat n):Nat):Int)
 by_cases hv:v < 0
 .simp only[a5E hv];omega
 .simp only[a5F hv];omega
theorem znh(lo hi:Option Int)(n:Nat):ζ lo hi 1 (n:Int)=(((aY n 0 lo:Nat):Int),((aY n n hi:Nat):Int)):=by
 have h1:¬((1:Int) < 0):=by omega
 unfold ζ;simp only[h1,if_false];refine Prod.ext ?_ ?_
 .cases lo with
  |none=>rfl
  |some v=>exact i8 v n 0
 .cases hi with
  |none=>rfl
  |some v=>exact i8 v n n
theorem zni(i j:Nat):Ϛ (i:Int) (j:Int) 1=j - i:=by
 unfold Ϛ;have h1:(1:Int) > 0:=by omega
 simp only[h1,if_true,Int.ediv_one];split<;>omega
theorem RU{v:a0v}{o:Option Int}{Q:Option Int->a1a->Prop}(p:a3f v o)(h:Q o s):ĩ (Ĭ prog w) A (Builtin.Slice.slicePartIndex v) Q E s:=by
 cases p with
 |none=>exact slicePart_none h
 |int i t=>exact slicePart_int h
theorem zgz{sl:Addr}{vl vu:a0v}{lo hi:Option Int}{n:Nat}{Q:Int×Int×Nat->a1a->Prop}(hs:s.heap.IsSliceOf sl vl vu .none)(pl:a3f vl lo)(pu:a3f vu hi)
  (h:Q (((aY n 0 lo:Nat):Int),1,aY n n hi - aY n 0 lo) s):ĩ (Ĭ prog w) A (a1H (.ref sl)<|pure (n:Int)) Q E s:=by
 have(os,BO,V8,FT):=id hs;unfold a1H Builtin.Slice.sliceFields;refine ř<|ř<|Ş BO FT (x:=vl) rfl<|ř<|Ş BO FT (x:=vu) rfl<|ř<|Ş BO FT (x:=.none) rfl<|Ϯ ?_;refine ř<|slicePart_none ?_;show ĩ _ _ (if((1:Int)==0)=ż then _ else _) _ _ s;rw[a5F (by decide)];refine ř<|RU pl<|ř<|RU pu<|ř<|Ϯ ?_;show ĩ _ _ (match ζ lo hi 1 (n:Int)with | (lo,hi)=>pure (lo,(1:Int),Ϛ lo hi 1)) _ _ s;rw[znh lo hi n];show ĩ _ _ (pure (((aY n 0 lo:Nat):Int),(1:Int),Ϛ ((aY n 0 lo:Nat):Int) ((aY n n hi:Nat):Int) 1)) _ _ s;rw[zni];exact Ϯ h
theorem zr0(xs:Array a0v)(i k:Nat):((Ń k).filterMap λ(m:Nat)=>xs[((i:Int)+(m:Int) * 1).toNat]?).toArray=((xs.toList.drop i).take k).toArray:=by
 have e:(λ(m:Nat)=>xs[((i:Int)+(m:Int) * 1).toNat]?)=λm=>xs[i+m]?:=by
  funext m
  have:((i:Int)+(m:Int) * 1).toNat=i+m:=by omega
  rw[this]
 rw[e];have:=pick_run xs i k;rw[List.filterMap_map]at this;have e2:((λx=>xs[x]?) ∘ λx=>i+x)=λm=>xs[i+m]?:=rfl;rw[e2]at this;rw[this]
theorem eW{t sl:Addr}{items:Array a0v}{vl vu:a0v}{lo hi:Option Int}{Q:a0v->a1a->Prop}(ht:a1R s.heap t items)(hs:s.heap.IsSliceOf sl vl vu .none)(pl:a3f vl lo)(pu:a3f vu hi)
  (hq:(aY items.size 0 lo=0/\aY items.size items.size hi=items.size)->Q (.ref t) s)
  (h:¬(aY items.size 0 lo=0/\aY items.size items.size hi=items.size)->Q (.ref s.heap.objs.size) {s with heap:=s.heap.push {cls:=.type "tuple",data:=.seq ((items.toList.drop<|aY items.size 0 lo).take<|aY items.size items.size hi - aY items.size 0 lo).toArray}})
  (hsz:items.size<=ħ):ĩ (Ĭ prog w) A (a0U (.ref t)<|.ref sl) Q E s:=by
 have Bt:sizeOk (.seq ((items.toList.drop<|aY items.size 0 lo).take<|aY items.size items.size hi - aY items.size 0 lo).toArray):=by
  show((items.toList.drop<|aY items.size 0 lo).take<|aY items.size items.size hi - aY items.size 0 lo).toArray.size<=ħ;rw[ī];exact a3S (a4h _ _) (by rw[a0M];exact a3S (Nat.sub_le _ _) hsz)
 have hj:aY items.size items.size hi<=items.size:=zAe _ _ (Nat.le_refl _) hi;have(os,BO,V8,FT):=id hs;have hTs:s.TypeIs (.ref sl) "slice":=⟨os,BO,V8⟩;unfold a0U
 try with_reducible refine Ő ?_
 first|refine ř (Ϯ ?_) |skip
 refine ř<|wpAny_sequenceKey ht.typeIs (by decide) ?_;refine ř (ϗ (name:=a0Z "__getitem__") ht.typeIs a1k
  (Ŏ a1k ht.typeIs entry_tuple_getitem ?_<|args_tuple_getitem _ _))
 show ĩ _ _ (a1G (.ref t) >>= _) _ _ s;refine ř<|tupleItemsOf_ ht ?_;refine ř<|a1r hTs ?_;rw[a5E (by decide)];refine ř<|zgz hs pl pu ?_;show ĩ _ _ (if(((aY items.size 0 lo:Nat):Int)==0 && (1:Int)==1 && (aY items.size items.size hi - aY items.size 0 lo)==items.size)=ż then _ else _) _ _ s
 by_cases hw:aY items.size 0 lo=0/\aY items.size items.size hi=items.size
 .rw[a5E (by rw[hw.1,hw.2];simp)]
  refine ř (m:=Builtin.Tuple.tupleIsExact _)<|ř<|a1r ht.typeIs<|Ϯ ?_;rw[a5E (by decide)];exact ř<|ϝ<|Ϯ ⟨_,rfl,Ϯ<|hq hw⟩
 .rw[a5F (λq=>by
   rw[Ŕ,Ŕ]at q;have q1:((aY items.size 0 lo:Nat):Int)=0:=eq_of_beq q.1.1;have q2:aY items.size items.size hi - aY items.size 0 lo=items.size:=eq_of_beq q.2;exact hw ⟨by omega,by omega⟩),zr0]
  exact ř (m:=Builtin.Tuple.tupleExact _)<|wpAny_newObj_type (Ϯ ⟨_,rfl,Ϯ<|h hw⟩) Bt
end
end HT
namespace Internal
open PySem PySem.Spec PyProof.Rows
abbrev TO:=St->Hp->(Qb Int->Hp->Prop)->Prop
def PO(X:Cx)(e:Qb ĺ)(t:TO):Prop :=
 ∀(pins:Qa (Qg×Obj)) (s:Qd) (σ:St) (H:Hp) (Q:Qb Int->Hp->Prop),Inv X pins σ H s->t σ H Q->
  ĩ (Ĭ X.prog X.w) X.A (evalPart e X.env) (λu s'=>∃o H',Inv X pins σ H' s'/\a3f u o/\Q o H') X.xe s
def II:TO:=λ_ H Q=>Q Ž H
def HD(t:TE):TO:=λσ H Q=>t σ H λx H1=>∃i,x=.int i/\Q (ž i) H1
theorem znj:∀{us:Qa Qc},zJ (ns.map V.int) us->Ι us ns:=by
 induction ns with
 |nil=>intro us r;rw[ŵ]at r;cases r;exact .nil
 |cons n ns ih=>
  intro us r;rw[Ī]at r;cases r with
  |cons r1 r2=>
   have(t,e):=r1;subst e;exact .cons n t<|ih r2
section
variable{X:Cx}{lo hi:Qb ĺ}{tl th:TO}{pos p2:Pos}
theorem zv7:PO X Ž II:=by
 intro pins s σ H Q I h;rw[evalPart_none];exact qb ⟨Ž,H,I,.none,h⟩
theorem zv8(h:PE X e te):PO X (ž e) (HD te):=by
 intro pins s σ H Q I hw;rw[evalPart_some];refine az (h pins s σ H _ I hw) λu s1 hZ=>?_;have(x,H1,I1,r1,q1):=hZ;have(i,rfl,q):=q1;have(t,rfl):=r1;exact⟨ž i,H1,I1,.int i t,q⟩
def yH(X:Cx)(r:V->Qb Int->Qb Int->Hp->VK->Prop):Prop :=
 ∀(pins:Qa (Qg×Obj)) (s:Qd) (σ:St) (H:Hp) (x:V) (v vl vu:Qc) (lo hi:Qb Int) (sl:Qg) (Q:VK),Inv X pins σ H s->zE x v->s.heap.IsSliceOf sl vl vu .none->a3f vl lo->a3f vu hi->r x lo hi H Q->
  ∃T id,typeLookup (.type T) "__getitem__"=pure (ž<|.builtin id)/\s.TypeIs v T/\ĩ (Ĭ X.prog X.w) X.A (a0U v<|.ref sl) (EP X pins σ Q) X.xe s
def K0(r:V->Qb Int->Qb Int->Hp->VK->Prop)(te:TE)(tl th:TO):TE:=λσ H Q=>te σ H λx H1=>tl σ H1 λl H2=>th σ H2 λu H3=>r x l u H3 Q
theorem zr2{r:V->Qb Int->Qb Int->Hp->VK->Prop}(hr:yH X r)(he:PE X e te)(hl:PO X lo tl)(hu:PO X hi th):PE X (.Subscript e (.Slice lo hi Ž p2) pos) (K0 r te tl th):=by
 intro pins s σ H Q I h;refine Subscript_<|az (he pins s σ H _ I h) λv s1 hZ=>?_;have(x,H1,I1,r1,q1):=hZ;refine wpAny_Slice<|az (hl pins s1 σ H1 _ I1 q1) λvl s2 ⟨l,H2,I2,pl,q2⟩=>az (hu pins s2 σ H2 _ I2 q2) λvu s3 hZ=>?_;have(u,H3,I3,pu,q3):=hZ;rw[evalPart_none];refine qb ?_;have I4:Inv X pins σ H3 {s3 with heap:=s3.heap.push {cls:=.type "slice",data:=.fields #[vl,vu,.none]}}:=I3.kept (t':=s3.toks) λb ob q=>qd _ q;have(T,id,hT,ht,hg):=hr pins {s3 with heap:=s3.heap.push {cls:=.type "slice",data:=.fields #[vl,vu,.none]}} σ H3 x v vl vu l u s3.heap.objs.size Q I4 r1 (Heap.IsSliceOf.new ..) pl pu q3;show ĩ (Ĭ X.prog X.w) X.A (a4n e (.Slice lo hi Ž p2) v<|.ref s3.heap.objs.size) (EP X pins σ Q) X.xe {s3 with heap:=s3.heap.push {cls:=.type "slice",data:=.fields #[vl,vu,.none]}};exact tail_any (ops:=[.ref s3.heap.objs.size,v]) ht hT hg (by with_unfolding_all rfl)
def nR(xs:Qa V)(lo hi:Qb Int):Qa V:=(xs.drop<|HT.aY xs.length 0 lo).take (HT.aY xs.length xs.length hi - HT.aY xs.length 0 lo)
theorem SF(xs:Qa V)(lo hi:Qb Int):(nR xs lo hi).length<=xs.length :=
 qA (a4h _ _) (by rw[a0M];exact Nat.sub_le _ _)
def zET(K:qc):V->Qb Int->Qb Int->Hp->VK->Prop:=λx lo hi H Q=>∃a xs,x=.ref a/\cH K H a xs/\((HT.aY xs.length 0 lo=0/\HT.aY xs.length xs.length hi=xs.length)->Q (.ref a) H)/\
 (¬(HT.aY xs.length 0 lo=0/\HT.aY xs.length xs.length hi=xs.length)->∀p,H p=Ž->Q (.ref p) (upd H p<|.tup<|nR xs lo hi))
theorem zAf:yH X (zET X.K):=by
 intro pins s σ H x v vl vu lo hi sl Q I rx hs pl pu h;have(a,xs,rfl,hx,hq,q):=h;cases rx;have(ah,r,ht,hz):=I.tuple hx;have hlen:ah.toArray.size=xs.length:=by rw[ī];exact r.length.symm
 refine⟨"tuple",_,PyProof.Rows.slot_tuple_getitem.lookup,ht.typeIs,?_⟩;refine HT.eW ht hs pl pu (λhw=>⟨.ref a,H,I,rfl,hq (by rw[<-hlen];exact hw)⟩) (λhw=>?_) (by rw[hlen];exact hz);rw[hlen]at hw ⊢;refine⟨.ref s.heap.objs.size,_,I.laid (t':=s.toks) (o:=.tup (nR xs lo hi)) (λb ob q=>qd _ q) (qf _) ?_,rfl,q hw _<|I.aw.fresh<|qf _⟩;exact⟨qA (SF xs lo hi) hz,_,(r.drop<|HT.aY xs.length 0 lo).take<|HT.aY xs.length xs.length hi - HT.aY xs.length 0 lo,om.new _ _⟩
def HC(K:qc):R2:=λx y H Q=>∃a b xs ys,x=.ref a/\y=.ref b/\cH K H a xs/\cH K H b ys/\xs≠[]/\xs.length+ys.length<=ħ/\
 (ys=[]->Q (.ref a) H)/\(ys≠[]->∀p,H p=Ž->Q (.ref p) (upd H p<|.tup<|xs++ys))
theorem zJ.iW{xs:Qa V}(r:zJ xs us):us=[]↔xs=[]:=by
 cases r with
 |nil=>simp
 |cons _ _=>simp
theorem zv9:bL X (ϊ .Add) (HC X.K):=by
 intro pins s σ H x y v u Q I rx ry h;have(a,b,xs,ys,rfl,rfl,ha,hb,hx,hz,q1,q2):=h;cases rx;cases ry;have(ah,r1,p1,_):=I.tuple ha;have(i3,r2,p2,_):=I.tuple hb;refine HT.sL p1 p2 (λz=>hx<|r1.iW.mp z) (λz=>⟨.ref a,H,I,rfl,q1<|r2.iW.mp z⟩) (λz=>?_) (by rw[<-r1.length,<-r2.length];exact hz);refine⟨.ref s.heap.objs.size,_,I.laid (t':=s.toks) (o:=.tup (xs++ys)) (λb ob q=>qd _ q) (qf _) ?_,rfl,q2 (λw=>z<|r2.iW.mpr w) _<|I.aw.fresh<|qf _⟩;exact⟨by rw[qu];exact hz,_,r1.append r2,om.new _ _⟩
end
noncomputable def dM(n:Nat)(i:Int):Qb Nat:=if 0<=i then(if i < n then ž i.toNat else Ž)else if -(n:Int)<=i then ž (i+n).toNat else Ž
def bt(xs:Qa α)(i:Int):Qb α:=(dM xs.length i).bind λj=>xs[j]?
theorem PY{i:Int}(h:dM n i=ž j):seqIndex? i n=ž j/\j < n/\-(n:Int)<=i/\i < n:=by
 unfold dM at h
 by_cases h0:0<=i
 .rw[a5E h0]at h
  by_cases h1:i < n
  .rw[a5E h1]at h
   have e:i.toNat=j:=qy h;exact⟨by rw[a3j h0 h1,e],by omega,by omega,h1⟩
  .rw[a5F h1]at h;cases h
 .rw[a5F h0]at h
  by_cases h1:-(n:Int)<=i
  .rw[a5E h1]at h
   have e:(i+n).toNat=j:=qy h;exact⟨by rw[a4Q (by omega) h1,e],by omega,h1,by omega⟩
  .rw[a5F h1]at h;cases h
theorem IH{xs:Qa α}{i:Int}{v:α}(h:bt xs i=ž v):∃j,seqIndex? i xs.length=ž j/\xs[j]?=ž v/\j < xs.length/\-(xs.length:Int)<=i/\i < xs.length:=by
 unfold bt at h;cases e:dM xs.length i with
 |none=>rw[e]at h;cases h
 |some j=>
  rw[e]at h;have(h1,h2,h3,h4):=PY e;exact⟨j,h1,h,h2,h3,h4⟩
theorem PV{xs:Qa α}{v:α}(h:xs[j]?=ž v):bt xs (j:Int)=ž v:=by
 have hj:j < xs.length:=(qm.mp h).1;have e:dM xs.length (j:Int)=ž j:=by
  unfold dM;rw[a5E (by omega),a5E (by omega)];simp
 unfold bt;rw[e];exact h
def PR(b:ĺ):Prop:=∀o i,a3i b Ż o i=operate [o,i] (a0U o i)
def yI(X:Cx)(r:R2):Prop :=
 ∀(value slice:ĺ) (pins:Qa (Qg×Obj)) (s:Qd) (σ:St) (H:Hp) (x y:V) (v u:Qc) (Q:VK),Inv X pins σ H s->zE x v->zE y u->r x y H Q->
  a3i slice Ż v u=operate [v,u] (a0U v u)->ĩ (Ĭ X.prog X.w) X.A (a4n value slice v u) (EP X pins σ Q) X.xe s
def Xh(X:Cx)(id:String)(r:V->Qa V->Hp->VK->Prop):Prop :=
 ∀(pins:Qa (Qg×Obj)) (s:Qd) (σ:St) (H:Hp) (x:V) (xs:Qa V) (v:Qc) (us:Qa Qc) (Q:VK),Inv X pins σ H s->zE x v->zJ xs us->r x xs H Q->
  ĩ (Ĭ X.prog X.w) X.A (a1P (.builtin id)<|v::us) (EP X pins σ Q) X.xe s
section
variable{X:Cx}{a b:ĺ}{pos:Pos}
theorem zCK{r:R2}(hr:yI X r)(ha:PE X a ta)(hb:PE X b tb)(hs:PR b):PE X (.Subscript a b pos) (qE r ta tb):=by
 intro pins s σ H Q I h;exact Subscript_<|GA ha hb I h λv u s2 x y H2 I2 rx ry q=>hr a b pins s2 σ H2 x y v u Q I2 rx ry q<|hs _ _
def KA(K:qc):R2:=λx y H Q=>∃p xs i v,x=.ref p/\y=.int i/\bu K H p xs/\bt xs i=ž v/\Q v H
def Kz(K:qc):R2:=λx y H Q=>∃p xs i v,x=.ref p/\y=.int i/\cH K H p xs/\bt xs i=ž v/\Q v H
theorem ZV:yI X (KA X.K):=by
 intro value slice pins s σ H x y v u Q I rx ry h hs;have(p,xs,i,z,rfl,rfl,hq,he,q):=h;cases rx;have(t,rfl):=ry;have(ah,r,pl,hz):=I.list hq;have(j,h1,h2,h3,h4,h5):=IH he;have(w,ew,ig):=r.get h2;have hl:=r.length;have hn:=vg;have fin:EP X pins σ Q w s:=⟨z,H,I,ig,q⟩
 by_cases h0:0<=i
 .have hj:i.toNat=j:=by
   rw[a3j h0 h5]at h1;exact qy h1
  exact item_listR pl.isList h0 (by omega) (by rw[hj];simpa using ew) fin hs
 .have hj:(i+(ah.toArray.size:Int)).toNat=j:=by
   rw[a4Q (by omega) h4]at h1;rw[ī,<-hl];exact qy h1
  exact a4P (x:=w) pl.isList.typeIs slot_list_getitem.lookup
   (wpAny_getItem_list_neg (Q:=λr s'=>r=w/\EP X pins σ Q r s') pl.isList (by omega) (by rw[ī]<;>omega) (by omega) (by rw[hj];simpa using ew) ⟨rfl,fin⟩) hs
theorem zAi:yI X (Kz X.K):=by
 intro value slice pins s σ H x y v u Q I rx ry h hs;have(p,xs,i,z,rfl,rfl,hq,he,q):=h;cases rx;have(t,rfl):=ry;have(ah,r,pl,hz):=I.tuple hq;have(j,h1,h2,h3,h4,h5):=IH he;have(w,ew,ig):=r.get h2;have hl:=r.length;have hn:=vg;have fin:EP X pins σ Q w s:=⟨z,H,I,ig,q⟩;exact a4P (x:=w) pl.typeIs slot_tuple_getitem.lookup
  (getItem_tuple (j:=j) (Q:=λr s'=>r=w/\EP X pins σ Q r s') pl (by omega) (by omega) (by rw[ī,<-hl];exact h1) (by simpa using ew) ⟨rfl,fin⟩) hs
theorem znk(ah:Qa Qc)(n j:Nat)(u:Qc):ņ (·.setIfInBounds j u) {cls:=.type "list",data:=.seq ah.toArray n}={cls:=.type "list",data:=.seq (ah.set j u).toArray n}:=by
 simp[ņ]
theorem Inv.lst{s:Qd}{p:Qg}{xs:Qa V}(I:Inv X pins σ H s)(h:H p=ž (.lst xs)):
  ∃(ah:Qa Qc) (n:Nat),zJ xs ah/\s.heap.get? p=ž {cls:=.type "list",data:=.seq ah.toArray n}/\xs.length<=ħ:=by
 have(z,ah,n,r,e):=I.aw p _ h;exact⟨ah,n,r,e,z⟩
theorem Inv.vV{s:Qd}{p:Qg}{xs:Qa V}{its':Qa Qc}{n':Nat}{f:Obj->Obj}(I:Inv X pins σ H s)(h:H p=ž (.lst xs))
  (ho:s.heap.get? p=ž {cls:=.type "list",data:=.seq ah.toArray n}) (hf:f {cls:=.type "list",data:=.seq ah.toArray n}={cls:=.type "list",data:=.seq its'.toArray n'}) (r:zJ ys its') (hz:ys.length<=ħ) (t:Nat):
  Inv X pins σ (upd H p<|.lst ys) {s with heap:=s.heap.update p f,toks:=t}:=by
 have e:(s.heap.update p f).get? p=ž {cls:=.type "list",data:=.seq its'.toArray n'}:=by
  rw[Heap.get?_update_self f ho (by rw[hf]<;>rfl),hf]
 refine I.write (x:=p) (e:=p) (by rw[h];trivial) (.inl rfl) (λb u hb q=>(Î _ _<|ň hb).trans q) ⟨_,e⟩ ?_;exact⟨hz,its',n',r,e⟩
def DM:V->V->V->Hp->(Hp->Prop)->Prop:=λo i v H Q=>∃p xs k j,o=.ref p/\i=.int k/\H p=ž (.lst xs)/\dM xs.length k=ž j/\Q (upd H p<|.lst<|xs.set j v)
theorem vA:Dq X DM:=by
 intro pins s σ H o i v ov iv u Q I ro ri rv h;have(p,xs,k,j,rfl,rfl,hp,hj,q):=h;cases ro;have(t,rfl):=ri;have(ah,n,r,ho,hz):=I.lst hp;have(h1,h2,h3,h4):=PY hj;have hl:=r.length;have hn:=vg;have I':Inv X pins σ (upd H p<|.lst<|xs.set j v) {s with heap:=s.heap.update p (ņ (·.setIfInBounds j u))}:=
  I.vV hp ho (znk ah n j u) (r.set rv j) (by rw[ŀ];exact hz) s.toks
 by_cases h0:0<=k
 .have hk:k.toNat=j:=by
   rw[a3j h0 h4]at h1;exact qy h1
  exact PySem.W.ki_setAt ho h0 (by omega) (by rw[ī,<-hl];exact h4) (by rw[hk];exact⟨_,I',q⟩)
 .have hk:(k+(ah.toArray.size:Int)).toNat=j:=by
   rw[a4Q (by omega) h3]at h1;rw[ī,<-hl];exact qy h1
  exact PySem.W.ki_setBack ho (by omega) (by rw[ī,<-hl];exact h3) (by omega) (by rw[hk];exact⟨_,I',q⟩)
theorem zki(lo hi:Qb Int)(n:Nat):(a0e lo hi Ž n).1=((HT.aY n 0 lo:Nat):Int)/\(a0e lo hi Ž n).2.1=((HT.aY n n hi:Nat):Int)/\(a0e lo hi Ž n).2.2=1:=by
 have sb:∀(i:Int) (d:Nat),max 0 (min (if i < 0 then i+(n:Int)else i) n)=((HT.aY n d (ž i):Nat):Int):=λi d=>by
  rw[<-HT.i8]
  by_cases h:i < 0
  .rw[a5E h,a5E h]
   have hx:i+(n:Int)<=n:=by omega
   generalize i+(n:Int)=x at hx ⊢;rw[Int.min_eq_left hx,Int.max_comm]
  .rw[a5F h,a5F h]
   exact Int.max_eq_right (by omega)
 refine⟨?_,?_,rfl⟩
 .cases lo with
  |none=>simp[a0e,HT.aY]
  |some i=>have:=sb i 0;simpa [a0e] using this
 .cases hi with
  |none=>simp[a0e,HT.aY]
  |some i=>have:=sb i n;simpa [a0e] using this
theorem zjk(ah:Qa Qc)(lo hi:Qb Int):slicePick ah.toArray lo hi Ž=((ah.drop<|HT.aY ah.length 0 lo).take<|HT.aY ah.length ah.length hi - HT.aY ah.length 0 lo).toArray:=by
 have(h1,h2,h3):=zki lo hi ah.toArray.size;unfold slicePick;rw[h1,h2,h3];simp only[sliceRange_one,pick_run,ī]<;>rfl
def Ky(K:qc):V->Qb Int->Qb Int->Hp->VK->Prop:=λx lo hi H Q=>∃a xs,x=.ref a/\bu K H a xs/\∀p,H p=Ž->Q (.ref p) (upd H p<|.lst<|nR xs lo hi)
theorem ZU:yH X (Ky X.K):=by
 intro pins s σ H x v vl vu lo hi sl Q I rx hs pl pu h;have(a,xs,rfl,hx,q):=h;cases rx;have(ah,r,ht,hz):=I.list hx;have hlen:=r.length;refine⟨"list",_,slot_list_getitem.lookup,ht.isList.typeIs,?_⟩;refine wpAny_getItem_list_slice ht.isList hs pl pu .none (by simp) ?_ (by rw[ī]<;>omega);rw[zjk,<-hlen];refine⟨.ref s.heap.objs.size,_,I.laid (t':=s.toks) (o:=.lst (nR xs lo hi)) (λb ob q=>qd _ q) (qf _) ?_,rfl,q _<|I.aw.fresh<|qf _⟩;exact⟨qA (SF xs lo hi) hz,_,0,(r.drop<|HT.aY xs.length 0 lo).take<|HT.aY xs.length xs.length hi - HT.aY xs.length 0 lo,qh _ rfl⟩
noncomputable def nu:V->Bool
 |.aM=>ż
 |.bl _=>ż
 |.int _=>ż
 |.str _=>ż
 |_=>Ż
def uG:V->V->Bool
 |.aM,.aM=>ż
 |.bl a,.bl b=>a==b
 |.bl a,.int b=>(if a then 1 else 0)==b
 |.int a,.bl b=>a==(if b then 1 else 0)
 |.int a,.int b=>a==b
 |.str a,.str b=>a==b
 |_,_=>Ż
theorem zAk{s:Qd}{x:V}{v:Qc}(ry:zE y u)(rx:zE x v)(fy:nu y=ż)(fx:nu x=ż):SeqAt.EqAt A s u v (uG y x):=by
 cases y with
 |aM=>
  cases ry;cases x with
  |aM=>cases rx;exact a3M _
  |bl b=>cases rx;exact SeqAt.EqAt.none_bool b
  |int b=>have(t,rfl):=rx;exact SeqAt.EqAt.none_int b t
  |str b=>have(t,rfl):=rx;exact SeqAt.EqAt.none_str b t
  |_=>exact absurd (show Ż=ż from fx) qg
 |bl a=>
  cases ry;cases x with
  |aM=>cases rx;exact SeqAt.EqAt.bool_none a
  |bl b=>cases rx;exact SeqAt.EqAt.bool_bool a b
  |int b=>have(t,rfl):=rx;exact SeqAt.EqAt.bool_int a b t
  |str b=>have(t,rfl):=rx;exact SeqAt.EqAt.bool_str a b t
  |_=>exact absurd (show Ż=ż from fx) qg
 |int a=>
  have(t',rfl):=ry;cases x with
  |aM=>cases rx;exact SeqAt.EqAt.int_none a t'
  |bl b=>cases rx;exact SeqAt.EqAt.int_bool a t' b
  |int b=>have(t,rfl):=rx;exact SeqAt.EqAt.int_int a t' b t
  |str b=>have(t,rfl):=rx;exact a3l a t' b t
  |_=>exact absurd (show Ż=ż from fx) qg
 |str a=>
  have(t',rfl):=ry;cases x with
  |aM=>cases rx;exact SeqAt.EqAt.str_none a t'
  |bl b=>cases rx;exact SeqAt.EqAt.str_bool a t' b
  |int b=>have(t,rfl):=rx;exact a3k a t' b t
  |str b=>have(t,rfl):=rx;exact SeqAt.EqAt.str_str a t' b t
  |_=>exact absurd (show Ż=ż from fx) qg
 |_=>exact absurd (show Ż=ż from fy) qg
def kK(x:V)(u:Qc):Bool:=match u with
 |.none=>uG .aM x
 |.bool b=>uG (.bl b) x
 |.int i _=>uG (.int i) x
 |.str z _=>uG (.str z) x
 |_=>Ż
theorem OT{x:V}(r:zE y u)(f:nu y=ż):kK x u=uG y x:=by
 cases y with
 |aM=>cases r;rfl
 |bl b=>cases r;rfl
 |int i=>have(t,rfl):=r;rfl
 |str z=>have(t,rfl):=r;rfl
 |_=>exact absurd (show Ż=ż from f) qg
theorem Ej{x:V}{xs:Qa V}(h:zJ xs us):xs.all nu=ż->us.any (kK x)=xs.any λy=>uG y x:=by
 induction h with
 |nil=>exact λ_=>rfl
 |cons r _ ih=>
  intro f;rw[Ϝ,Ŕ]at f;rw[ŭ,ŭ,OT r f.1,ih f.2]
theorem AE{s:Qd}{x:V}{v:Qc}(rx:zE x v)(fx:nu x=ż):∀{xs:Qa V} {us:Qa Qc},zJ xs us->xs.all nu=ż->∀u∈us,SeqAt.EqAt A s u v<|kK x u
 |_,_,.nil,_=>λu hu=>by cases hu
 |y::xs,u::us,.cons r t,f=>λu' hu=>by
  rw[Ϝ,Ŕ]at f;rcases qw.mp hu with rfl|hu
  .rw[OT r f.1];exact zAk r rx f.1 fx
  .exact AE rx fx t f.2 u' hu
def Bp(x:V)(xs:Qa V):Bool:=xs.any λy=>uG y x
def vL(K:qc)(neg:Bool):R2:=λx y H Q=>∃p xs,y=.ref p/\(bu K H p xs\/cH K H p xs)/\nu x=ż/\xs.all nu=ż/\Q (.bl (if neg then !Bp x xs else Bp x xs)) H
theorem zqK:bL X (Ň .In) (vL X.K Ż):=by
 intro pins s σ H x y v u Q I rx ry h;have(p,xs,rfl,hq,fx,fs,q):=h;cases ry;rcases hq with hq|hq
 .have(ah,r,pl,hz):=I.list hq
  refine SeqAt.in_listAt (kK x) pl.isList (λw hw=>AE rx fx r fs w (by simpa using hw)) ⟨.bl _,H,I,rfl,?_⟩;rw[show ah.toArray.any (kK x)=ah.any (kK x) by simp,Ej r fs];exact q
 .have(ah,r,pl,hz):=I.tuple hq
  refine a4S (kK x) pl (λw hw=>AE rx fx r fs w (by simpa using hw)) ⟨.bl _,H,I,rfl,?_⟩;rw[show ah.toArray.any (kK x)=ah.any (kK x) by simp,Ej r fs];exact q
theorem zkj:bL X (Ň .NotIn) (vL X.K ż):=by
 intro pins s σ H x y v u Q I rx ry h;have(p,xs,rfl,hq,fx,fs,q):=h;cases ry;rcases hq with hq|hq
 .have(ah,r,pl,hz):=I.list hq
  refine SeqAt.notIn_listAt (kK x) pl.isList (λw hw=>AE rx fx r fs w (by simpa using hw)) ⟨.bl _,H,I,rfl,?_⟩;rw[show ah.toArray.any (kK x)=ah.any (kK x) by simp,Ej r fs];exact q
 .have(ah,r,pl,hz):=I.tuple hq
  refine SeqAt.notIn_tupleAt (kK x) pl (λw hw=>AE rx fx r fs w (by simpa using hw)) ⟨.bl _,H,I,rfl,?_⟩;rw[show ah.toArray.any (kK x)=ah.any (kK x) by simp,Ej r fs];exact q
theorem zkk:fV X (.builtin "len") (λxs H Q=>∃p ys,xs=[.ref p]/\(bu X.K H p ys\/cH X.K H p ys)/\Q (.int ys.length) H):=by
 intro pins s σ H xs us Q I r h;have(p,ys,rfl,hq,q):=h;have(u,rfl,rx):=nv r;cases rx;have hn:=vg;rcases hq with hq|hq
 .have(ah,r',pl,hz):=I.list hq
  have hlen:=r'.length;exact Calls.call_len_list pl.isList (by simp only[ī]<;>omega) ⟨.int ys.length,H,I.tok _,⟨s.toks+1,by rw[ī,hlen]⟩,q⟩
 .have(ah,r',pl,hz):=I.tuple hq
  have hlen:=r'.length;exact len_tuple pl (by simp only[ī]<;>omega) ⟨.int ys.length,H,I.tok _,⟨s.toks+1,by rw[ī,hlen]⟩,q⟩
theorem zkl:fV X (.builtin "len") (λxs H Q=>∃z,xs=[.str z]/\z.length<=ħ/\Q (.int z.length) H):=by
 intro pins s σ H xs us Q I r h;have(z,rfl,hz,q):=h;have(u,rfl,t,rfl):=nv r;have hn:=vg;exact len_str (by omega) ⟨.int z.length,H,I.tok _,⟨_,rfl⟩,q⟩
theorem zjl:fV X (.type "tuple") (λxs H Q=>∃p ys,xs=[.ref p]/\((bu X.K H p ys/\∀l,H l=Ž->Q (.ref l) (upd H l<|.tup ys))\/(cH X.K H p ys/\Q (.ref p) H))):=by
 intro pins s σ H xs us Q I r h;have(p,ys,rfl,h):=h;have(u,rfl,rx):=nv r;cases rx;rcases h with⟨hq,q⟩|⟨hq,q⟩
 .have(ah,r',pl,hz):=I.list hq
  have hlen:=r'.length;refine call_tuple_list pl.isList (λh' kp=>?_) (by simp only[ī]<;>omega);have I1:Inv X pins σ H {s with heap:=h'}:=I.kept (t':=s.toks) kp;have I2:Inv X pins σ (upd H h'.objs.size<|.tup ys) {s with heap:=h'.push {cls:=.type "tuple",data:=.seq ah.toArray}}:=
   I1.laid (t':=s.toks) (λb o e=>qd _ e) (qf _) (show zP X.prog X.w X.K _ _ _ (.tup ys) from⟨hz,ah,r',om.new _ _⟩)
  exact⟨.ref h'.objs.size,_,I2,rfl,q _<|I1.aw.fresh<|qf _⟩
 .have(ah,r',pl,hz):=I.tuple hq
  exact call_tuple_same pl ⟨.ref p,H,I,rfl,q⟩
def Ff(K:qc)(T:String)(x:V)(H:Hp):Prop:=match x with
 |.str _=>T = "str"
 |.int _=>T = "int"
 |.ref p=>(T = "list"/\∃xs,bu K H p xs)\/(T = "tuple"/\∃o,K.lookup p=ž o/\o.cls=.type "tuple"/\o.dict=Ž)\/
   (T = "dict"/\((∃kvs,H p=ž (.dK kvs))\/∃kvs,H p=ž (.dT kvs)))\/(T = "set"/\∃S n,H p=ž (.set S n))
 |_=>False
theorem HX{s:Qd}{x:V}{v:Qc}(I:Inv X pins σ H s)(r:zE x v)(ty:Ff X.K T x H):
  s.TypeIs v T/\∀a,v=.ref a->∃ob,s.heap.get? a=ž ob/\ob.dict=Ž:=by
 cases x with
 |str z=>
  have(t,rfl):=r;cases(show T = "str" from ty);exact⟨typeIs_str s z t,λ_ e=>nomatch e⟩
 |int i=>
  have(t,rfl):=r;cases(show T = "int" from ty);exact⟨a2q s i t,λ_ e=>nomatch e⟩
 |ref p=>
  cases r;rcases ty with⟨rfl,xs,hq⟩|⟨rfl,o,hk,hc,hd⟩|⟨rfl,hk⟩|⟨rfl,S,n,hk⟩
  .have(ah,_,pl,_):=I.list hq
   refine⟨pl.isList.typeIs,λa e=>?_⟩;cases e;have(o,n,e,c,hd,_):=pl;exact⟨o,e,hd⟩
  .refine⟨⟨o,I.aZ p o hk,hc⟩,λa e=>?_⟩
   cases e;exact⟨o,I.aZ _ o hk,hd⟩
  .have z:∃o,s.heap.get? p=ž o/\o.ExactDict:=by
    rcases hk with⟨kvs,hk⟩|⟨kvs,hk⟩
    .have(_,_,_,_,o,_,_,e,ex,_):=I.aw p _ hk
     exact⟨o,e,ex⟩
    .have(_,_,_,_,o,_,_,e,ex,_):=I.aw p _ hk
     exact⟨o,e,ex⟩
   have(o,e,ex):=z;refine⟨⟨o,e,ex.1⟩,λa e2=>?_⟩;cases e2;exact⟨o,e,ex.2.1⟩
  .have(o,_,_,_,e,ex,_):=I.aw p _ hk
   refine⟨⟨o,e,ex.1⟩,λa e2=>?_⟩;cases e2;exact⟨o,e,ex.2.1⟩
 |_=>exact ŷ ty
def Kx(K:qc)(T:String)(r:V->Qa V->Hp->VK->Prop)(to:TE):TE:=λσ H Q=>to σ H λx H1=>Ff K T x H1/\r x [] H1 Q
def K8(K:qc)(T:String)(r:V->Qa V->Hp->VK->Prop)(to:TE)(t:TA):TE:=λσ H Q=>to σ H λx H1=>Ff K T x H1/\t σ H1 λxs H2=>r x xs H2 Q
variable{es:Qa ĺ}{to:TE}{t:TA}{name:Str}{id:String}{r:V->Qa V->Hp->VK->Prop}
theorem zAm(pa:a2u T)(slot:Slot T name id)(sA:typeOf (.builtin id)=pure (.type "method_descriptor"))(hm:Xh X id r)(ho:PE X o to)
  (b6:autoParam (Ű o name X.env (Ť o X.env)=Ť o X.env) ć) (bY:autoParam ((apos.endLine==aL.line)=ż) ć):PE X (.Call (.Attribute o name apos) [] [] aL) (Kx X.K T r to):=by
 intro pins s σ H Q I h;refine a1i b6 bY<|az (ho pins s σ H _ I h) λv s1 hZ=>?_;have(x,H1,I1,r1,ty,q1):=hZ;have(h1,h2):=HX I1 r1 ty;exact⟨T,id,pa,slot,sA,h1,h2,Ù rfl<|a1u<|hm pins s1 σ H1 x [] v [] Q I1 r1 .nil q1⟩
theorem zCL(pa:a2u T)(slot:Slot T name id)(sA:typeOf (.builtin id)=pure (.type "method_descriptor"))(hm:Xh X id r)(ho:PE X o to)(ha:PA X (e::es) t)
  (b6:autoParam (Ű o name X.env (Ť o X.env)=Ť o X.env) ć)
  (pd:autoParam (((Ω aL<|ŏ (e::es) X.env).all (λx=>!x.1) && (a3J aL<|a1O [] X.env).all (λx=>x.1.isSome)
   && decide ((e::es).length+([]:Qa a1w).length+(if([]:Qa a1w).isEmpty then 0 else 1) < 30))=ż) ć)
  (bY:autoParam ((apos.endLine==aL.line)=ż) ć) (hs:autoParam (ŏ (e::es) X.env=(Ż,Ť e X.env)::ŏ es X.env) ć) (wd:autoParam ((Ω aL<|ŏ es X.env).any (·.1)=Ż) ć):
  PE X (.Call (.Attribute o name apos) (e::es) [] aL) (K8 X.K T r to t):=by
 intro pins s σ H Q I h;refine a4N b6 pd bY rfl<|az (ho pins s σ H _ I h) λv s1 hZ=>?_;have(x,H1,I1,r1,ty,q1):=hZ;have(h1,h2):=HX I1 r1 ty;refine⟨T,id,pa,slot,sA,h1,h2,?_⟩;have hA:=ha aL pins s1 σ H1 _ I1 q1;rw[hs]at hA ⊢;refine Ù (by show(Ż || (Ω aL<|ŏ es X.env).any (·.1))=Ż;rw[wd]<;>rfl)<|ô ?_;exact az hA λus s2 ⟨vs,H2,I2,r2,q2⟩=>hm pins s2 σ H2 x vs v us Q I2 r1 r2 q2
end
def sP(X:Cx)(id:String)(r:V->Qa V->Hp->VK->Prop):Prop :=
 ∀(pins:Qa (Qg×Obj)) (s:Qd) (σ:St) (H:Hp) (x:V) (xs:Qa V) (v:Qc) (us:Qa Qc) (Q:VK),Inv X pins σ H s->zE x v->zJ xs us->r x xs H Q->
  ĩ (Ĭ X.prog X.w) X.A (a1P (.builtin id)<|v::us) (EP X pins σ Q) X.xe s
theorem zJ.one{x:V}(h:zJ [x] us):∃u,us=[u]/\zE x u:=by
 cases h with
 |cons r t=>cases t;exact⟨_,rfl,r⟩
theorem zJ.two{x:V}(h:zJ [x,y] us):∃u v,us=[u,v]/\zE x u/\zE y v:=by
 cases h with
 |cons r t=>
  have(v,rfl,q):=zJ.one t;exact⟨_,v,rfl,r,q⟩
theorem zJ.rep{xs:Qa V}(h:zJ xs us):∀k:Nat,zJ (Ĩ k xs).flatten (Ĩ k us).flatten
 |0=>.nil
 |k+1=>by
  rw[ŕ,ŕ,ű,ű];exact zJ.append h<|zJ.rep h k
theorem Jx(ah:Qa Qc):∀(k:Nat) (acc:Qa Qc),
  a0i (λx1 x2=>x1++x2) acc.toArray (Ĩ k ah.toArray)=(acc++(Ĩ k ah).flatten).toArray
 |0,acc=>by simp
 |k+1,acc=>by
  have e:acc.toArray++ah.toArray=(acc++ah).toArray:=by simp
  have e2:(acc++ah)++(Ĩ k ah).flatten=acc++(Ĩ (k+1) ah).flatten:=by
   rw[ŕ,ű,ĸ]
  rw[<-e2,<-Jx ah k (acc++ah),<-e,ŕ,ν]
section
variable{X:Cx}{s:Qd}{l:Qg}{xs zs:Qa V}
theorem Inv.LG{its':Qa Qc}{f:Array Qc->Array Qc}{t':Nat}(I:Inv X pins σ H s)(hH:H l=ž (.lst xs))
  (e:s.heap.get? l=ž {cls:=.type "list",data:=.seq ah.toArray n}) (hf:f ah.toArray=its'.toArray) (hv:zJ ys its') (hz:ys.length<=ħ):
  Inv X pins σ (upd H l<|.lst ys) {s with heap:=s.heap.update l (ņ f),toks:=t'}:=by
 have q:=a3P e f;rw[hf]at q;refine I.write (x:=l) (e:=l) (by rw[hH];exact trivial) (.inl rfl) (λb' u hb hu=>(Î s.heap (ņ f)<|ň hb).trans hu) ⟨_,q⟩ ?_;exact⟨hz,its',_,hv,q⟩
theorem Inv.Bi{t':Nat}(I:Inv X pins σ H s)(hv:zJ ys ah)(hz:ys.length<=ħ):
  Inv X pins σ (upd H s.heap.objs.size<|.lst ys) {s with heap:=s.heap.push {cls:=.type "list",data:=.seq ah.toArray},toks:=t'}:=
 I.laid (λ_ _ q=>qd _ q) (qf _) ⟨hz,ah,0,hv,qh _ rfl⟩
theorem Inv.fresh(I:Inv X pins σ H s):H s.heap.objs.size=Ž:=I.aw.fresh (qf _)
theorem Inv.Bh(I:Inv X pins σ H s)(hH:H l=ž (.lst xs)):xs.length<=ħ/\∃(ah:Qa Qc) (n:Nat),zJ xs ah/\xs.length=ah.length/\s.heap.get? l=ž {cls:=.type "list",data:=.seq ah.toArray n}:=by
 have(z,ah,n,r,e):=I.aw l _ hH;exact⟨z,ah,n,r,r.length,e⟩
theorem zr5(h:n<=ħ):ξ n=Ż:=by
 unfold ξ;exact a5H (by omega)
end
section
variable{X:Cx}
def IG:V->Qa V->Hp->VK->Prop:=λx vs H Q=>∃l xs y,x=.ref l/\vs=[y]/\H l=ž (.lst xs)/\xs.length < ħ/\Q .aM (upd H l<|.lst<|xs++[y])
theorem p7:sP X "list.append" IG:=by
 intro pins s σ H x vs v us Q I rx rv h;have(l,xs,y,rfl,rfl,hH,hz,q):=h;cases rx;have(u,rfl,ru):=rv.one;have(z,ah,n,r,hl,e):=I.Bh hH;refine υ a5A ⟨_,e,rfl⟩ a5q (a5d _ _) (a4I l ah.toArray n u (by rw[ī];omega)) ⟨e,?_⟩;refine⟨.aM,_,I.LG (its':=ah++[u]) hH e (by simp) (r.append<|.cons ru .nil) ?_,rfl,q⟩;rw[qu,Ŝ];omega
def U0:R2:=λx y H Q=>∃l k xs,x=.ref l/\y=.int k/\H l=ž (.lst xs)/\-(2^63)<=k/\k < 2^63/\xs.length * k.toNat<=ħ/\
 ∀p,H p=Ž->Q (.ref p) (upd H p<|.lst (Ĩ k.toNat xs).flatten)
theorem IF(xs:Qa α)(k:Nat):(Ĩ k xs).flatten.length=k * xs.length:=by
 induction k with
 |zero=>simp
 |succ k ih=>rw[ŕ,ű,qu,ih,a3Q,a3U]
theorem DY:bL X (ϊ .Mult) U0:=by
 intro pins s σ H x y v u Q I rx ry h;have(l,k,xs,rfl,rfl,hH,h1,h2,hz,q):=h;cases rx;have(t,rfl):=ry;have(z,ah,n,r,hl,e):=I.Bh hH;have hlen:ah.toArray.size * k.toNat<=ħ:=by rw[ī,<-hl];exact hz
 have Mp:¬ah.toArray.size * k.toNat > (2^63 - 1) / 8:=by
  have:(ħ:Nat)<=(2^63 - 1) / 8:=by decide
  omega
 have Mj:¬(!Builtin.List.listFitsIndex k)=ż:=by
  rw[fitsIndex_both h1 h2];exact qg
 have BU:¬ξ (ah.toArray.size * k.toNat)=ż:=by
  rw[zr5 hlen];exact qg
 have Me:a0i (λx1 x2=>x1++x2) #[] (Ĩ (if ah.toArray.isEmpty=ż then 0 else k.toNat) ah.toArray)=(Ĩ k.toNat ah).flatten.toArray:=by
  have f0:∀m:Nat,a0i (λx1 x2=>x1++x2) #[] (Ĩ m ah.toArray)=(Ĩ m ah).flatten.toArray:=λm=>by
   have:=Jx ah m [];rw[ϵ]at this;exact this
  rw[f0];cases ah with
  |nil=>simp
  |cons a r'=>rw[a5F (by simp)]
 refine a3Z (T := "list") (U := "int") (by decide) ⟨_,e,rfl⟩ (λs'=>a2q s' k t) noFill_list_mul F.fills_int_mul a1o repeat_list F.slot_int_index.lookup
  (υ a1o (a2q s k t) F.entry_int_rmul (F.args_int_rmul_2 _ _) (int___rmul___int_list k t l ah.toArray n)
   ⟨e,rfl,⟨_,e,rfl⟩,υ F.slot_list_mul ⟨_,e,rfl⟩ F.entry_list_mul (F.args_list_mul_2 _ _) (AutoListH.list___mul___list_int_3 l ah.toArray n k t Mj Mp BU) ⟨e,?_⟩⟩)
 rw[Me];exact⟨.ref _,_,I.Bi (t':=s.toks) (r.rep k.toNat) (by rw[IF,a3R];exact hz),rfl,q _ I.fresh⟩
end
section
variable{κ:Type}[DecidableEq κ]
noncomputable def eL(kvs:Qa (κ×V))(k:κ):Qb V:=(kvs.find? λkv=>decide<|kv.1=k).map (·.2)
noncomputable def dY(kvs:Qa (κ×V))(k:κ)(v:V):Qa (κ×V):=
 if(kvs.any λkv=>decide<|kv.1=k)=ż then kvs.map (λkv=>if kv.1=k then(kv.1,v)else kv)else kvs++[(k,v)]
theorem EA{p:κ×V}{r:Qa (κ×V)}{k:κ}(e:p.1=k):eL (p::r) k=ž p.2:=by simp[eL,ķ,e]
theorem Ez{p:κ×V}{r:Qa (κ×V)}{k:κ}(e:¬p.1=k):eL (p::r) k=eL r k:=by simp[eL,ķ,e]
theorem Ji(k:κ):∀kvs:Qa (κ×V),(kvs.any λkv=>decide<|kv.1=k)=(eL kvs k).isSome
 |[]=>rfl
 |p::r=>by
  rw[ŭ]
  by_cases e:p.1=k
  .simp only[EA e,a5G e,Bool.true_or,ϓ]
  .rw[Ez e,a5H e,a0E];exact Ji k r
theorem AH(kvs:Qa (κ×V))(k:κ)(v:V):(dY kvs k v).length<=kvs.length+1:=by
 unfold dY;split
 .rw[Ħ];omega
 .rw[qu,qv,š];omega
theorem ix.bX{o:Qb V}{u:Qb Qc}(r:ix o u):o.isSome=u.isSome:=by
 cases o with
 |none=>cases u with
  |none=>rfl
  |some _=>exact(show False from r).elim
 |some _=>cases u with
  |none=>exact(show False from r).elim
  |some _=>rfl
theorem ix.getD{o:Qb V}{u:Qb Qc}{d:V}{d':Qc}(r:ix o u)(rd:zE d d'):zE (o.getD d) (u.getD d'):=by
 cases o with
 |none=>cases u with
  |none=>exact rd
  |some _=>exact(show False from r).elim
 |some _=>cases u with
  |none=>exact(show False from r).elim
  |some _=>exact r
theorem KV.val{kvs:Qa (κ×V)}{vs:Qa (κ×Qc)}(r:KV kvs vs)(k:κ):ix (eL kvs k) (a2K vs k):=by
 unfold KV at r
 induction r with
 |nil=>exact ŧ
 | @cons p q ps qs h t ih=>
  have(h1,h2):=h
  by_cases e:p.1=k
  .have e':q.1=k:=h1.symm.trans e
   have b:a2K (q::qs) k=ž q.2:=by simp[a2K,ķ,e']
   rw[EA e,b];exact h2
  .have e':¬q.1=k:=λz=>e<|h1.trans z
   have b:a2K (q::qs) k=a2K qs k:=by simp[a2K,ķ,e']
   rw[Ez e,b];exact ih
theorem KV.any{kvs:Qa (κ×V)}{vs:Qa (κ×Qc)}(r:KV kvs vs)(k:κ):(kvs.any λkv=>decide<|kv.1=k)=vs.any λkv=>decide (kv.1=k):=by
 unfold KV at r
 induction r with
 |nil=>rfl
 |cons h t ih=>rw[ŭ,ŭ,ih,h.1]
theorem KV.kl{kvs:Qa (κ×V)}{vs:Qa (κ×Qc)}(r:KV kvs vs)(k:κ)(ry:zE y u):
  KV (kvs.map λkv=>if kv.1=k then(kv.1,y)else kv) (vs.map λkv=>if kv.1=k then(kv.1,u)else kv):=by
 unfold KV at r ⊢
 induction r with
 |nil=>exact .nil
 | @cons p q ps qs h t ih=>
  rw[Ī,Ī];refine .cons ?_ ih;have(h1,h2):=h
  by_cases e:p.1=k
  .rw[a5E e,a5E<|h1.symm.trans e];exact⟨h1,ry⟩
  .rw[a5F e,a5F λz=>e<|h1.trans z];exact⟨h1,h2⟩
theorem KV.put{kvs:Qa (κ×V)}{vs:Qa (κ×Qc)}(r:KV kvs vs)(k:κ)(ry:zE y u):KV (dY kvs k y) (stored vs k u):=by
 unfold dY stored;rw[r.any k]
 by_cases e:(vs.any λkv=>decide<|kv.1=k)=ż
 .rw[a5E e,a5E e];exact r.kl k ry
 .rw[a5F e,a5F e];exact a2c r ⟨rfl,ry⟩
theorem KV.length{kvs:Qa (κ×V)}{vs:Qa (κ×Qc)}(r:KV kvs vs):kvs.length=vs.length:=ų r
end
theorem uY{k:Key}(r:zE (kV k) u):(zH P w).is k u=ż:=by
 cases k with
 |inl i=>have(t,e):=(show ∃t,u=a0G i t from r);subst e;exact zlk P w i t
 |inr x=>have(t,e):=(show ∃t,u=a1X x t from r);subst e;exact zll P w x t
theorem Jw:∀{ks:Qa Key} {us:Qa Qc},zJ (ks.map kV) us->ItemsAre (zH P w) ks us
 |[],_,r=>by rw[ŵ]at r;cases r;exact .nil
 |k::ks,_,r=>by
  rw[Ī]at r;cases r with
  |cons h t=>exact .cons (uY h)<|Jw t
abbrev KT(K:qc)(H:Hp):Qa (Qa Key×V)->Qa (Qa Key×Qg×Qc)->Prop:=Μ λp q=>p.1=q.1/\aJ K H q.2.1 (p.1.map kV)/\zE p.2 q.2.2
theorem KT.val{xs:Qa (Qa Key×Qg×Qc)}(r:KT K H kvs xs)(k:Qa Key):ix (eL kvs k) ((μ xs k).map (·.2)):=by
 induction r with
 |nil=>exact ŧ
 | @cons p q ps qs h t ih=>
  have(h1,_,h2):=h
  by_cases e:p.1=k
  .have e':q.1=k:=h1.symm.trans e
   have b:μ (q::qs) k=ž q.2:=by simp[μ,ķ,e']
   rw[EA e,b];exact h2
  .have e':¬q.1=k:=λz=>e<|h1.trans z
   have b:μ (q::qs) k=μ qs k:=by simp[μ,ķ,e']
   rw[Ez e,b];exact ih
theorem KT.kl{xs:Qa (Qa Key×Qg×Qc)}(r:KT K H kvs xs)(k:Qa Key)(ry:zE y u):
  KT K H (kvs.map λkv=>if kv.1=k then(kv.1,y)else kv) (xs.map<|putAt k u):=by
 induction r with
 |nil=>exact .nil
 | @cons p q ps qs h t ih=>
  rw[Ī,Ī];refine .cons ?_ ih;have(h1,h2,h3):=h;unfold putAt
  by_cases e:p.1=k
  .rw[a5E e,a5E<|h1.symm.trans e];exact⟨h1,h2,ry⟩
  .rw[a5F e,a5F λz=>e<|h1.trans z];exact⟨h1,h2,h3⟩
theorem KT.put{xs:Qa (Qa Key×Qg×Qc)}(r:KT K H kvs xs)(k:Qa Key)(hb:aJ K H b (k.map kV))(ry:zE y u):
  KT K H (dY kvs k y) (storedH xs k b u):=by
 have e:(kvs.any λkv=>decide<|kv.1=k)=(μ xs k).isSome:=by
  rw[Ji,(r.val k).bX,a0s]
 unfold dY storedH;rw[e]
 by_cases q:(μ xs k).isSome=ż
 .rw[a5E q,a5E q];exact r.kl k ry
 .rw[a5F q,a5F q];exact a2c r ⟨rfl,hb,ry⟩
theorem KT.keeps{xs:Qa (Qa Key×Qg×Qc)}(r:KT K H kvs xs)(ht:∀b ys,H b=ž (.tup ys)->H' b=ž (.tup ys)):KT K H' kvs xs :=
 Paired.iX r λ_ _ z=>⟨z.1,z.2.1.keeps ht,z.2.2⟩
section
theorem DL{u:HO}(ok:b9 P w K H h)(e:Rd H a u):zP P w K H h a u:=e.ok ok
theorem xp{kvs:Qa (Key×V)}(ok:b9 P w K H h)(e:Rd H a (.dK kvs)):kvs.length<=ħ/\(a==Œ)=Ż/\∃vs,KV kvs vs/\h.DictOf (zH P w) a vs :=
 show zP P w K H h a (.dK kvs) from DL ok e
theorem zCN{kvs:Qa (Key×V)}(ok:b9 P w K H h)(e:H a=ž (.dK kvs)):kvs.length<=ħ/\(a==Œ)=Ż/\∃vs,KV kvs vs/\h.DictOf (zH P w) a vs:=xp ok (.inl e)
theorem rG{ks:Qa Key}(fJ:K.In h)(ok:b9 P w K H h)(e:aJ K H a (ks.map kV)):(τ<|zH P w).is h ks a:=by
 rcases e with e|⟨o,ah,n,hk,hc,hs,_,r,_⟩
 case inr=>exact⟨o,ah,n,fJ a o hk,hc,hs,by simpa using Jw r⟩
 obtain⟨_,ah,r,o,h1,h2,⟨n,h3⟩,_⟩:=(show zP P w K H h a (.tup<|ks.map kV) from ok a _ e);exact⟨o,ah.toArray,n,h1,h2,h3,by simpa using Jw r⟩
theorem uX(fJ:K.In h)(ok:b9 P w K H h)(e:Rd H a (.dT kvs)):kvs.length<=ħ/\(a==Œ)=Ż/\
  ∃xs,KT K H kvs xs/\h.DictOfH (τ<|zH P w) a xs:=by
 have(z,y,xs,r,o,es,ep,h1,h2,h3,h4,h5):=(show zP P w K H h a (.dT kvs) from DL ok e);refine⟨z,y,xs,r,o,es,ep,h1,h2,h3,h4,λx hx=>?_,h5⟩;have all:∀{l:Qa (Qa Key×V)} {m:Qa (Qa Key×Qg×Qc)},KT K H l m->∀x∈m,(τ<|zH P w).is h x.1 x.2.1:=by
  intro l m q
  induction q with
  |nil=>intro x hx;exact nomatch hx
  | @cons p q ps qs hq t ih=>
   intro x hx;rcases qw.mp hx with e|hx
   .subst e
    exact rG fJ ok (by rw[<-hq.1];exact hq.2.1)
   .exact ih x hx
 exact all r x hx
theorem DK(fJ:K.In h)(ok:b9 P w K H h)(e:H a=ž (.dT kvs)):kvs.length<=ħ/\(a==Œ)=Ż/\
  ∃xs,KT K H kvs xs/\h.DictOfH (τ<|zH P w) a xs:=uX fJ ok (.inl e)
end
def rh(K:qc)(H:Hp)(a:Qg)(y:V)(r:Qb V):Prop :=
 (∃kvs k,Rd H a (.dK kvs)/\y=kV k/\r=eL kvs k)\/∃kvs k b,Rd H a (.dT kvs)/\y=.ref b/\aJ K H b (k.map kV)/\r=eL kvs k
def sS(K:qc)(H:Hp)(a:Qg)(y v:V)(H':Hp):Prop :=
 (∃kvs k,H a=ž (.dK kvs)/\y=kV k/\kvs.length < ħ/\H'=upd H a (.dK<|dY kvs k v))\/
 ∃kvs k b,H a=ž (.dT kvs)/\y=.ref b/\aJ K H b (k.map kV)/\kvs.length < ħ/\H'=upd H a (.dT<|dY kvs k v)
theorem sS.k{kvs:Qa (Key×V)}{k:Key}{v:V}(e:H a=ž (.dK kvs))(hl:kvs.length < ħ):sS K H a (kV k) v (upd H a<|.dK<|dY kvs k v):=.inl ⟨kvs,k,e,rfl,hl,rfl⟩
theorem sS.t{k:Qa Key}{v:V}(e:H a=ž (.dT kvs))(eb:aJ K H b (k.map kV))(hl:kvs.length < ħ):
  sS K H a (.ref b) v (upd H a<|.dT<|dY kvs k v):=.inr ⟨kvs,k,b,e,rfl,eb,hl,rfl⟩
section
variable{X:Cx}{s:Qd}{v:V}{r:Qc}{o:Qb V}
theorem Inv.CC(I:Inv X pins σ H s):Œ < s.heap.objs.size:=by
 have h:İ < s.heap.objs.size:=(I.mod.glob.keeps I.bk).lt;exact ú (by decide) h
theorem zqL(hu:A.units+1 < Ŷ)(I:Inv X pins σ H s)(g:rh X.K H a y (ž v))(ry:zE y u)(h:∀w' s',Inv X pins σ H s'->zE v w'->Q w' s'):
  ĩ (Ĭ X.prog X.w) A (a0U (.ref a) u) Q E s:=by
 rcases g with⟨kvs,k,e,ey,l⟩|⟨kvs,k,b,e,ey,eb,l⟩
 .subst ey
  have(z,hd,vs,rel,dd):=xp I.aw e;have(w',hw,ig):=ix.some_of (v:=v) (o:=a2K vs k) (by rw[l];exact rel.val k);exact wpAny_getItem_of (uY ry) dd.mapOf hw<|h w' _ (I.tok _) ig
 .subst ey
  cases(show u=Į b from ry);have(z,hd,xs,rel,dd):=uX I.aZ I.aw e;have(w',hw,ig):=ix.some_of (v:=v) (o:=(μ xs k).map (·.2)) (by rw[l];exact rel.val k);have(p,hp,sE):=qt.mp hw;refine wpAny_getItem_heap (Κ hu) (rG I.aZ I.aw eb) dd hp ?_;rw[sE];exact h w' _ (I.tok _) ig
theorem zEU(hu:A.units+1 < Ŷ)(I:Inv X pins σ H s)(g:rh X.K H a y o)(ry:zE y u)(h:∀s',Inv X pins σ H s'->Q (.bool o.isSome) s'):
  ĩ (Ĭ X.prog X.w) A (Ň .In u<|.ref a) Q E s:=by
 rcases g with⟨kvs,k,e,ey,l⟩|⟨kvs,k,b,e,ey,eb,l⟩
 .subst ey
  have(z,hd,vs,rel,dd):=xp I.aw e;refine wpAny_in_of (uY ry) hd dd.mapOf ?_;rw[<-(rel.val k).bX,<-l];exact h _<|I.tok _
 .subst ey
  cases(show u=Į b from ry);have(z,hd,xs,rel,dd):=uX I.aZ I.aw e;refine wpAny_in_heap (Κ hu) (rG I.aZ I.aw eb) hd dd ?_;have q:=(rel.val k).bX;rw[a0s]at q;rw[<-q,<-l];exact h _<|I.tok _
theorem xR{t':Nat}{ob:HO}(I:Inv X pins σ H s)(mu:CH (H a))(hs:ύ a s.heap h')(he:∃q,h'.get? a=ž q)(new:zP X.prog X.w X.K (upd H a ob) h' a ob):
  Inv X pins σ (upd H a ob) {s with heap:=h',toks:=t'}:=
 I.write (x:=a) (e:=a) mu (.inl rfl) (λb q hb z=>(hs.2 b hb).trans z) he new
theorem zAn{kvs:Qa (Key×V)}{vs:Qa (Key×Qc)}(z:kvs.length<=ħ)(hd:(a==Œ)=Ż)(rel:KV kvs vs)(dd:h'.DictOf (zH P w) a vs):
  zP P w K H' h' a (.dK kvs):=⟨z,hd,vs,rel,dd⟩
theorem zqM{Q:Unit->Qd->Prop}(hu:A.units+1 < Ŷ)(I:Inv X pins σ H s)(g:sS X.K H a y v H')(ry:zE y u)(rv:zE v r)(h:∀s',Inv X pins σ H' s'->Q () s'):
  ĩ (Ĭ X.prog X.w) A (a2L (.ref a) u r) Q E s:=by
 rcases g with⟨kvs,k,e,ey,l,eH⟩|⟨kvs,k,b,e,ey,eb,l,eH⟩
 .subst ey eH
  have(z,hd,vs,rel,dd):=zCN I.aw e;have hz:vs.length<=ħ:=by rw[<-rel.length];exact z
  have hl:(dY kvs k v).length<=ħ:=by have:=AH kvs k v;omega
  refine wpAny_setItem_pairs (hsz:=hz) (uY ry) dd λh' nK hs=>h _ ?_;have he:∃q,h'.get? a=ž q:=let ⟨q,_,_,hq,_⟩:=nK;⟨q,hq⟩;exact xR I (by rw[e];exact ŧ) hs he<|zAn hl hd (rel.put k rv) nK
 .subst ey eH
  cases(show u=Į b from ry);have(z,hd,xs,rel,dd):=DK I.aZ I.aw e;have hz:xs.length<=ħ:=by rw[<-ų rel];exact z
  have hl:(dY kvs k v).length<=ħ:=by have:=AH kvs k v;omega
  refine wpAny_setItem_heap (hsz:=hz) (Κ hu) (rG I.aZ I.aw eb) dd λh' nK hs=>h _ ?_;have(q,es,ep,hq,h2,h3,h4,_,h5):=nK;refine xR I (by rw[e];exact ŧ) hs ⟨q,hq⟩ ⟨hl,hd,_,(rel.put k eb rv).keeps λc ys ec=>?_,q,es,ep,hq,h2,h3,h4,h5⟩;rw[zu (tI ec e (λz=>nomatch z))];exact ec
end
def CZ(i:ĺ):Prop:=∀ov iv,a3i i Ż ov iv=operate [ov,iv] (a0U ov iv)
theorem PQ{s:Qd}{slice:ĺ}{pos:Pos}{id:String}
  (hl:typeLookup (.type T) "__getitem__"=pure (ž<|.builtin id)) (hs:CZ slice)
  (h:ĩ (Ĭ prog w) A (Ť value env) (λo aB=>ĩ (Ĭ prog w) A (Ť slice env) (λi fG=>fG.TypeIs o T/\ĩ (Ĭ prog w) A (a0U o i) Q E fG) E aB) E s):
  ĩ (Ĭ prog w) A (Ť (.Subscript value slice pos) env) Q E s:=by
 refine Subscript_<|ļ h (λo aB vX=>ļ vX (λi fG vW=>?_) λ_ _ x=>x) λ_ _ x=>x;have(hT,vW):=vW;unfold a4n;refine qa ?_;rw[getitemInPython_of_ne hT.not_modules];refine qa<|ϡ hT hl ?_;have fin:ĩ (Ĭ prog w) A (a3i slice Ż o i) (λr AW=>ĩ (Ĭ prog w) A (letTemporaryGo value o r >>= λ_=>pure r) Q E AW) E fG:=by
  rw[hs o i];exact wpAny_operating (ļ vW (λr AW LU=>qa<|wpAny_letTemporaryGo<|qb LU) λ_ _ x=>x)
 first
  |exact qb<|qa fin
  |exact qa<|qb<|qa fin
  |exact qa fin
theorem zlv{X:Cx}{s:Qd}{o:Qb V}(I:Inv X pins σ H s)(g:rh X.K H a y o):s.TypeIs (.ref a) "dict":=by
 rcases g with⟨kvs,k,e,_,_⟩|⟨kvs,k,b,e,_,_,_⟩
 .have(_,_,vs,_,dd):=xp I.aw e
  exact dd.typeIs
 .have(_,_,xs,_,dd):=uX I.aZ I.aw e
  exact dd.typeIs
def HB(K:qc)(td ty:TE):TE:=λσ H Q=>td σ H λx H1=>ty σ H1 λy H2=>∃a v,x=.ref a/\rh K H2 a y (ž v)/\Q v H2
def Kw(K:qc)(ty td:TE):TE:=λσ H Q=>ty σ H λy H1=>td σ H1 λx H2=>∃a o,x=.ref a/\rh K H2 a y o/\Q (.bl o.isSome) H2
def HA(K:qc)(td ty tv:TE):TS:=λD σ H=>tv σ H λv H1=>td σ H1 λx H2=>ty σ H2 λy H3=>∃a H4,x=.ref a/\sS K H3 a y v H4/\D.nx σ H4
section
variable{X:Cx}{i:ĺ}{pos:Pos}
theorem ZT(hu:X.A.units+1 < Ŷ)(ho:PE X o td)(hi:PE X i ty)(hs:CZ i):PE X (.Subscript o i pos) (HB X.K td ty):=by
 intro pins s σ H Q I h;refine PQ PySem.F.slot_dict_getitem.lookup hs<|az (ho pins s σ H _ I h) λu s1 ⟨x,H1,I1,rx,q1⟩=>az (hi pins s1 σ H1 _ I1 q1) λiv s2 hZ=>?_;have(y,H2,I2,ry,a,v,ex,g,q2):=hZ;subst ex;obtain rfl:u=Į a:=rx;exact⟨zlv I2 g,zqL hu I2 g ry λw' s3 I3 ig=>⟨v,H2,I3,ig,q2⟩⟩
theorem zAp(hu:X.A.units+1 < Ŷ)(hi:PE X i ty)(ho:PE X o td):PC X .In i o (Kw X.K ty td):=by
 intro pins s σ H Q I h;refine az (hi pins s σ H _ I h) λiv s1 ⟨y,H1,I1,ry,q1⟩=>az (ho pins s1 σ H1 _ I1 q1) λu s2 hZ=>?_;have(x,H2,I2,rx,a,ov,ex,g,q2):=hZ;subst ex;obtain rfl:u=Į a:=rx;exact zEU hu I2 g ry λs3 I3=>⟨.bl ov.isSome,H2,I3,rfl,q2⟩
theorem ZS(hu:X.A.units+1 < Ŷ)(ho:PE X o td)(hi:PE X i ty)(hv:PE X value tv)(hs:Ο value (ž<|.Subscript o i pos') pos.line X.env=pure Ż):
  PS X (.Assign [.Subscript o i pos'] value pos) (HA X.K td ty tv):=by
 intro pins s σ H D I h;refine a4O (az (hv pins s σ H _ I h) λr s1 hZ=>?_) hs;have(v,H1,I1,rv,q1):=hZ;refine az (ho pins s1 σ H1 _ I1 q1) λu s2 hZ=>?_;have(x,H2,I2,rx,q2):=hZ;refine az (hi pins s2 σ H2 _ I2 q2) λiv s3 hZ=>?_;have(y,H3,I3,ry,a,H4,ex,g,q3):=hZ;subst ex;obtain rfl:u=Į a:=rx;exact zqM hu I3 g ry rv λs4 I4=>⟨σ,H4,I4,q3⟩
end
theorem zr8(h:Ļ)(hb:Œ < h.objs.size):zP P w K H (h.push {cls:=.type "dict",data:=.dict #[]}) h.objs.size (.dK []):=
 ⟨Ç _,beq_eq_false_iff_ne.mpr<|ň<|qk hb,[],.nil,Heap.DictOf.new h⟩
theorem Jh(h:Ļ)(hb:Œ < h.objs.size):zP P w K H (h.push {cls:=.type "dict",data:=.dict #[]}) h.objs.size (.dT []):=
 ⟨Ç _,beq_eq_false_iff_ne.mpr<|ň<|qk hb,[],.nil,_,#[],0,qh _ rfl,⟨rfl,rfl,rfl⟩,rfl,rfl,a2X⟩
def HW:TE:=λ_ H Q=>∀p,H p=Ž->Q (.ref p) (upd H p<|.dK [])
def DX:TE:=λ_ H Q=>∀p,H p=Ž->Q (.ref p) (upd H p<|.dT [])
section
variable{X:Cx}{pos:Pos}
theorem zr9:PE X (.Dict [] [] pos) HW:=λpins s σ H Q I h=>
 wpAny_Dict_empty ⟨.ref s.heap.objs.size,_,I.laid (a:=s.heap.objs.size) (o:=.dK []) (t':=s.toks) (λ_ _ q=>qd _ q) (qf _)<|zr8 s.heap I.CC,rfl,h _<|I.aw.fresh<|qf _⟩
theorem zsa:PE X (.Dict [] [] pos) DX:=λpins s σ H Q I h=>
 wpAny_Dict_empty ⟨.ref s.heap.objs.size,_,I.laid (a:=s.heap.objs.size) (o:=.dT []) (t':=s.toks) (λ_ _ q=>qd _ q) (qf _)<|Jh s.heap I.CC,rfl,h _<|I.aw.fresh<|qf _⟩
end
structure M2 (X:Cx) (o:ĺ) (m:Str) (apos:Pos) (e f:ĺ) (aL:Pos):Prop where
 base:Ű o m X.env (Ť o X.env)=Ť o X.env
 Wn:((Ω aL<|ŏ [e,f] X.env).all (λx=>!x.1) && (a3J aL<|a1O [] X.env).all (λx=>x.1.isSome)
  && decide (([e,f]:Qa ĺ).length+([]:Qa a1w).length+(if([]:Qa a1w).isEmpty then 0 else 1) < 30))=ż
 line:(apos.endLine==aL.line)=ż
 trees:Ω aL (ŏ [e,f] X.env)=[(Ż,Ť e X.env),(Ż,Ť f X.env)]
def Gi(H:Hp)(a:Qg):Prop:=(∃kvs,Rd H a<|.dK kvs)\/∃kvs,Rd H a<|.dT kvs
theorem OM{X:Cx}{s:Qd}(I:Inv X pins σ H s)(d:Gi H a):
  s.TypeIs (.ref a) "dict"/\(∀b,Į a=.ref b->∃ob,s.heap.get? b=ž ob/\ob.dict=Ž)/\(a==Œ)=Ż:=by
 rcases d with⟨kvs,e⟩|⟨kvs,e⟩
 .have(_,hd,vs,_,dd):=xp I.aw e
  refine⟨dd.typeIs,λb q=>?_,hd⟩;cases q;have(ob,_,_,h1,h2,_):=dd;exact⟨ob,h1,h2.2.1⟩
 .have(_,hd,xs,_,dd):=uX I.aZ I.aw e
  refine⟨dd.typeIs,λb q=>?_,hd⟩;cases q;have(ob,_,_,h1,h2,_):=dd;exact⟨ob,h1,h2.2.1⟩
section
variable{X:Cx}{s:Qd}{d:V}{r:Qc}{o:Qb V}
theorem zAq(hu:A.units+1 < Ŷ)(I:Inv X pins σ H s)(g:rh X.K H a y o)(ry:zE y u)(rd:zE d r)(h:∀w' s',Inv X pins σ H s'->zE (o.getD d) w'->Q w' s'):
  ĩ (Ĭ X.prog X.w) A (a1P (.builtin "dict.get") [.ref a,u,r]) Q E s:=by
 rcases g with⟨kvs,k,e,ey,l⟩|⟨kvs,k,b,e,ey,eb,l⟩
 .subst ey
  have(z,hd,vs,rel,dd):=xp I.aw e;refine call_meetsIn a0R dd.typeIs a3d (a2W _ _ _) (meets_dict_get_default (zH X.prog X.w) a (uY ry) hd r) ⟨_,dd.mapOf,h _ _ (I.tok _) ?_⟩;rw[l];exact(rel.val k).getD rd
 .subst ey
  cases(show u=Į b from ry);have(z,hd,xs,rel,dd):=uX I.aZ I.aw e;refine call_meetsIn a0R dd.typeIs a3d (a2W _ _ _) (meetsH_dict_get_default (τ<|zH X.prog X.w) a b hd r) ⟨Κ hu,k,xs,rG I.aZ I.aw eb,dd,h _ _ (I.tok _) ?_⟩;rw[l];exact(rel.val k).getD rd
end
def HV(K:qc)(td ty tx:TE):TE:=λσ H Q=>td σ H λx H1=>∃a,x=.ref a/\Gi H1 a/\ty σ H1 λy H2=>tx σ H2 λz H3=>∃o,rh K H3 a y o/\Q (o.getD z) H3
section
variable{X:Cx}{f:ĺ}{tx:TE}
theorem zsc(hu:X.A.units+1 < Ŷ)(ho:PE X o td)(he:PE X e ty)(hf:PE X f tx)(m:M2 X o "get" apos e f aL):PE X (.Call (.Attribute o "get" apos) [e,f] [] aL) (HV X.K td ty tx):=by
 intro pins s σ H Q I h;refine wpAny_Call_method m.base m.Wn m.line a2V a0R PySem.F.type_dict_get<|az (ho pins s σ H _ I h) λu s1 hZ=>?_;have(x,H1,I1,rx,a,ex,d,q1):=hZ;subst ex;obtain rfl:u=Į a:=rx;have(t1,t2,_):=OM I1 d;refine⟨t1,t2,?_⟩;rw[m.trees];refine Ù rfl<|ô<|í<|az (he pins s1 σ H1 _ I1 q1) λiv s2 hZ=>?_;have(y,H2,I2,ry,q2):=hZ;refine í<|az (hf pins s2 σ H2 _ I2 q2) λfv s3 hZ=>?_;have(z,H3,I3,rz,ov,g,q3):=hZ;refine a1U ?_;exact zAq hu I3 g ry rz λw' s4 I4 ig=>⟨_,H3,I4,ig,q3⟩
end
end Internal
namespace Xw
open PySem PySem.W PySem.Calls PyProof.Rows
theorem zhD{P:Params}{h:Ļ}:∀(ns:List Int) (vs:List a0v),WellAll P h vs (ns.map WData.int)->Ι vs ns:=by
 intro ns
 induction ns with
 |nil=>
  intro vs w;rw[ŵ]at w;cases w;exact .nil
 |cons n ns ih=>
  intro vs w;rw[Ī]at w;cases w with
  |cons a b=>
   cases a;exact .cons _ _<|ih _ b
theorem zqN{l:OpenLaw}{n:Nat}(hn:l.most=ž n){P:Params}{h:Ļ}{args:List WData}{vals:List a0v}
  (sD:l.row.toRowW.claim.pre args=ż) (LZ:WellAll P h vals args):
  ∃a vs ns,vals=[Į a]/\args=[WData.list<|ns.map WData.int]/\h.get? a=ž {cls:=.type "list",data:=.seq vs.toArray}/\Ι vs ns/\ns.length<=n:=by
 have hsh:WShape.hasAll [] args [.list .int]=ż:=(pre_splitW sD).1;have hc:l.pre.holds [] {args:=args}=ż:=(pre_splitW sD).2;have(d,r,rfl,h1,h2):=hasAllW_cons hsh;obtain rfl:=hasAllW_nil h2;have(xs,rfl,h3):=hasW_list h1;have(ns,rfl):=items_int h3;have hlen:ns.length<=n:=by
  unfold OpenLaw.pre at hc;have h4:(WTm.not<|.lt (.lit<|.int (n:Int))<|.len<|.arg 0).holds [] {args:=[.list<|ns.map .int]}=ż:=by
   have h4:=(holds_andW hc).1;rw[hn]at h4;exact h4
  have h5:=condW_of h4 (w_not<|w_lt w_lit<|w_len_list<|w_arg rfl);rw[Ħ]at h5;refine Nat.le_of_not_lt λq=>?_;have q':(n:Int) < ((ns.length:Nat):Int):=by omega
  first
   | (rw[a5G q']at h5;exact absurd h5 (by decide))
   | (simp at h5;omega)
 cases LZ with
 |cons w1 w2=>
  cases w2;cases w1 with
  |list ho wq=>exact⟨_,_,ns,rfl,rfl,ho,zhD ns _ wq,hlen⟩
theorem zqO(l:OpenLaw)(args:List WData):l.row.toRowW.claim.post args (.bool ż) args=ż :=
 postW_of (r:=l.row.toRowW) (X:=(ż==ż))
  (show WShape.has [] (.bool ż) .bool=ż by first|rfl|decide|simp[WShape.has,WShape.arms,WShape.armsAll])
  (show(WTm.eq .res<|.lit<|.bool ż).value [] {args:=args,res:=ž (.bool ż),after:=args}=ž (.bool<|true==ż) from w_eq_bool (w_res rfl) w_lit) rfl
theorem jH{l:OpenLaw}{n:Nat}{q:Program}{loose:List Str}{XP:(Str->Option a0v)->Ļ->Prop}{YP:World->Ļ->Prop}{d:DefRec}
  (hn:l.most=ž n) (BZ:d.params.defaults=[])
  (a1P:∀(w:World) (bf aB:a1a) (mg mb:Str->Option a0v) (fa:Addr) (o:Obj) (pm cd doc:a0v) (a:Addr) (vs:List a0v) (ns:List Int),
   Ground q loose [] XP w bf mg mb aB.heap->YP w aB.heap->
   aB.heap.get? fa=ž o->o.data=.func (docDef d.name d.params d.body d.scope pm cd doc)->aB.heap.CodeRec cd d.name->mg d.name=ž (.ref fa)->
   aB.heap.get? a=ž {cls:=.type "list",data:=.seq vs.toArray}->Ι vs ns->ns.length<=n->aB.gens=#[]->
   Ŵ (Ĭ l.prog w) a2N (.call (.ref fa) ⟨[.ref a],[]⟩) (λr s'=>r=.ok (.ret<|.bool ż)/\OldK aB.heap s'.heap/\s'.os=aB.os/\a0W s'.gens) aB):
  WalkO q loose XP YP l.row.toRowW d [] (λf vs=>a4v f vs):=by
 intro w bf aB mg mb G Y fa o pm cd doc dV kV ho hd mW hD BS hg args vals as sD hlay hrd LZ hlo;obtain rfl:dV=.none:=Dflts.none hD BZ;obtain rfl:kV=.none:=Dflts.noKw hD;have(a,vs,ns,rfl,rfl,we,hints,hlen):=zqN hn sD LZ;refine enter_call<|Ψ (a1P w bf aB mg mb fa o pm cd doc a vs ns G Y ho (fd_plain hd) mW BS we hints hlen hg) λr s' hq=>?_;have(rfl,h2,h3,h4):=hq;exact⟨.inl ⟨.bool ż,.bool ż,[],rfl,λ_=>rfl,.bool ż,zqO l _,λ_=>⟨a1g,λ_ hm=>(nomatch hm)⟩⟩,h2,h3,h4⟩
end Xw
namespace Internal
open PySem PySem.Spec PyProof.Rows
theorem zqP{vs:Qa Qc}(h:Ι vs ns):zJ (ns.map V.int) vs:=by
 induction h with
 |nil=>exact .nil
 |cons n t _ ih=>exact .cons ⟨t,rfl⟩ ih
def CY(H:Hp):Prop:=∀b,H b=Ž\/∃o xs,H b=ž (.be o<|.lst xs)
theorem zsd{mb:Str->Qb Qc}{CX:lT}{k:Nat}{fa:Qg}{aB:Qd}{vs:Qa Qc}
  (KX:K.In aB.heap) (VY:aB.heap.Ns İ mg) (hb:aB.heap.Ns builtinsNs mb) (hbb:∀x:Str,x ≠ "__name__"->mb x=Ÿ x) (Mg:aB.heap.NoLimit) (hg:aB.gens=#[])
  (ha:aB.heap.get? a=ž {cls:=.type "list",data:=.seq vs.toArray}) (hi:Ι vs ns) (hl:ns.length<=ħ) (hr:aE k a2N)
  (F:∀base:Ļ,K.In base->base.Ns İ mg->cD P w K mg base CX k fa fd [x] sp) (B8:∀(s:Qd) (u:Qc),a3B s fd ⟨[u],[]⟩ [(x,u)])
  (ui:∀H:Hp,CY H->bu K H a (ns.map V.int)->sp [.ref a] H (λv _=>v=.bl ż) λ_ _ _=>False)
  (Mu:∀H e s',CX [] H aB (λ_ _ _=>False) e s'->False):
  Ŵ (Ĭ P w) a2N (.call (.ref fa) ⟨[.ref a],[]⟩) (λr s'=>r=.ok (.ret<|.bool ż)/\OldK aB.heap s'.heap/\s'.os=aB.os/\a0W s'.gens) aB:=by
 have rv:=zqP hi;have LH:=hi.length;have core:∀H:Hp,CY H->bu K H a (ns.map V.int)->b9 P w K H aB.heap->(∀b,H b≠Ž->b=a)->(H a≠Ž->K.lookup a=Ž)->
   Ŵ (Ĭ P w) a2N (.call (.ref fa) ⟨[.ref a],[]⟩) (λr s'=>r=.ok (.ret<|.bool ż)/\OldK aB.heap s'.heap/\s'.os=aB.os/\a0W s'.gens) aB:=by
  intro H hO hS aw hA hK;have lR:∀{b:Qg} {o:Obj},aB.heap.get? b=ž o->H b=Ž->(rl aB.heap H).get? b=ž o:=λe n=>zry e n;have Bb:∀{b:Qg} {o:Obj} {es:Array Ů} {ep:Nat},aB.heap.get? b=ž o->o.data=.dict es ep->H b=Ž:=λ{b o es ep} e d=>by
   cases q:H b with
   |none=>rfl
   |some u=>
    have e':b=a:=hA b (by rw[q];simp);subst e';rw[ha]at e;cases e;have d':a4j vs.toArray _=Data.dict es ep:=d;cases d'
  have Fs:∀{b:Qg} {m:Str->Qb Qc},aB.heap.Ns b m->(rl aB.heap H).Ns b m:=λ{b m} ⟨o,es,ep,e,d,r⟩=>⟨o,es,ep,lR e<|Bb e d,d,r⟩;have Wf:K.In (rl aB.heap H):=λb o e=>lR (KX b o e) (by
   cases q:H b with
   |none=>rfl
   |some u=>
    have e':b=a:=hA b (by rw[q];simp);subst e';rw[hK (by rw[q];simp)]at e;cases e)
  have hM:Mod K mg (rl aB.heap H):=⟨Wf,Fs VY,⟨mb,Fs hb,hbb⟩,let ⟨mc,h1,h2⟩:=Mg;⟨mc,Fs h1,h2⟩⟩;have e0:kY P w K mg (rl aB.heap H) a2N [] aB H:=⟨rfl,hM,λb o e=>zvF e,ñ<|zqy _ _,trivial,λb hb=>absurd (show b∈([]:Qa Qg) from hb) (by simp),aw,.of_eq hg⟩;refine Ψ ((F _ Wf<|Fs VY).run a2N [] aB H ⟨[.ref a],[]⟩ [.ref a] [.ref a] _ _ hr e0 (B8 aB<|.ref a) (.cons rfl .nil)<|ui H hO hS) λr s' h=>?_;cases r with
  |error e=>exact(Mu H e s' h).elim
  |ok fl=>
   cases fl with
   |next=>exact ŷ h
   |brk=>exact ŷ h
   |cont=>exact ŷ h
   |ret u=>
    have(v,H',os,bare,un,Ma,r',q):=h;have q':v=.bl ż:=q;subst q';obtain rfl:u=a0Q ż:=r';refine⟨rfl,OldK.of_keep λb o e=>?_,os,bare⟩;cases q:H b with
    |none=>exact un.keep b o e q (by intro z;exact absurd (show b∈([]:Qa Qg) from z) (by simp)) (by simp)
    |some u=>
     rcases hO b with z|⟨ob,xs,z⟩
     .rw[q]at z;cases z
     .have z2:=un.fL b ob _ z
      have(e1,_):=aw b _ z;have(e2,_):=Ma b _ z2;rw[e]at e1;cases e1;exact e2
 cases hk:K.lookup a with
 |some o=>
  have e:=KX a o hk;rw[ha]at e;cases e;refine core (λ_=>Ž) (λ_=>.inl rfl) (.inr ⟨_,vs.toArray,_,hk,rfl,rfl,rfl,by rw[ī,LH];exact hl,by simpa using rv⟩) (λb u z=>by have z':(Ž:Qb HO)=ž u:=z;cases z') (λb z=>absurd rfl z) λz=>absurd rfl z
 |none=>
  refine core (λb=>if b=a then ž (.be {cls:=.type "list",data:=.seq vs.toArray}<|.lst<|ns.map V.int)else Ž) (λb=>?_) (.inl<|.inr ⟨{cls:=.type "list",data:=.seq vs.toArray},a5E rfl⟩) (λb u z=>?_) (λb z=>?_) λ_=>hk
  .by_cases hb:b=a
   .exact .inr ⟨_,_,a5E hb⟩
   .exact .inl (a5F hb)
  .by_cases hb:b=a
   .have z':=(a5E hb).symm.trans z
    cases z';subst hb;exact⟨ha,by rw[Ħ];exact hl,vs,_,rv,ha⟩
   .have z':=(a5F hb).symm.trans z
    cases z'
  .by_cases hb:b=a
   .exact hb
   .exact absurd (a5F hb) z
theorem rQ{l:a2a}{k:Nat}{q:Qe}{loose:Qa Str}{XP:(Str->Qb Qc)->Ļ->Prop}{YP:Qh->Ļ->Prop}{d:DefRec}{K:Params->qc}{CX:Qh->lT}{sp:Qh->Sp}
  (hn:l.most=ž n) (FK:n<=ħ) (BZ:d.params.defaults=[]) (hr:aE k a2N)
  (hY:∀(w:Qh) (h:Ļ),YP w h->(K w.params).In h)
  (F:∀(w:Qh) (mg:Str->Qb Qc) (fa:Qg) (h:Ļ),(K w.params).In h->h.Ns İ mg->mg d.name=ž (.ref fa)->
   ∃fd:ϋ,(∀(s:Qd) (u:Qc),a3B s fd ⟨[u],[]⟩ [(x,u)])/\
    ∀base:Ļ,(K w.params).In base->base.Ns İ mg->cD l.prog w (K w.params) mg base (CX w) k fa fd [x] (sp w))
  (ui:∀(w:Qh) (H:Hp) (a:Qg) (ns:Qa Int),ns.length<=n->CY H->bu (K w.params) H a (ns.map V.int)->sp w [.ref a] H (λv _=>v=.bl ż) λ_ _ _=>False)
  (Mu:∀(w:Qh) (H:Hp) (s:Qd) (e:Qc) (s':Qd),CX w [] H s (λ_ _ _=>False) e s'->False):
  a5i q loose XP YP l.row.toRowW d [] (λf vs=>a4v f vs):=by
 refine Xw.jH hn BZ λw bf aB mg mb fa o pm cd doc a vs ns G Y ho hd mW BS we hints hlen hg=>?_;have KX:=hY w _ Y;have(fd,hb,hF):=F w mg fa _ KX G.T.g BS;exact zsd KX G.T.g G.T.b G.T.builtins G.T.nolimit hg we hints (qA hlen FK) hr hF hb (λH hO hS=>ui w H a ns hlen hO hS) λH e s'=>Mu w H aB e s'
noncomputable def p6(s:Ś):Arguments:=match s with
 |.FunctionDef _ a _ _ _ _ _ _ _ _=>a
 |_=>{posonlyargs:=[],args:=[],vararg:=Ž,kwonlyargs:=[],kw_defaults:=[],kwarg:=Ž,defaults:=[]}
def j6(s:Ś):Qa Ś:=match s with
 |.FunctionDef _ _ b _ _ _ _ _ _ _=>b
 |_=>[]
def zT(s:Ś):a1z:=match s with
 |.FunctionDef _ _ _ _ _ _ sc _ _ _=>sc
 |_=>{kind:=.function,names:=[],isGenerator:=Ż,isCoroutine:=Ż}
abbrev jK:lT:=λ_ _ _ _ _ _=>False
abbrev E0:XK:=λ_ _ _=>False
theorem Hj{X:Cx}:Ag jK X E0:=λ_ _ _ _ _ _ _ h=>h.elim
structure kU (K:qc) (x qual:Str) (st:Ś) (f:Qg) (fd:ϋ):Prop where
 ex:∃(oc:Qc) (od:Qb Qg) (kV doc pm:Qc) (an:Qb Qg) (bq ct:Qc) (nH:Array (Qb Qc)),
  fd=Ū x qual (p6 st) (j6 st) (zT st) .none kV doc pm an bq ct/\K.lookup f=ž ⟨oc,od,.func fd,nH⟩/\Α K bq qual=ż
 kp:ť K (.ref f)=ż
section
variable{base:Ļ}
theorem kU.ok{f:Qg}{ps:Qa Str}{k:Nat}(F:kU K x qual st f fd)(S:bE N ps (zT st))(len:∀vs H Q E,sp vs H Q E->vs.length=ps.length)
  (bZ:∀(bq:Qc) (A:Qf) (outer:Qa Env) (s:Qd) (H:Hp) (vs:Qa V) (Q:VK) (E:XK),aE k (A.deeper<|a0X qual (zT st) s.heap.objs.size f bq)->sp vs H Q E->
   ∃t,fN (pM jK P w K mg base N qual (zT st) f bq A outer s H E).uc (j6 st) t/\t {nx:=λ_ H'=>Q .aM H',rt:=Q} (iA N vs) H):cD P w K mg base jK (k+1) f fd ps sp:=by
 have(oc,od,kV,doc,pm,an,bq,ct,nH,rfl,lk,mW):=F.ex;refine zCJ lk mW S len λA outer s H vs Q E hr ui=>?_;have(t,h,q):=bZ bq A outer s H vs Q E hr ui;exact⟨t,h.uc,q⟩
theorem kU.binds{f:Qg}{ps:Qa Str}(F:kU K x qual st f fd)
  (h:∀(kV doc pm:Qc) (an:Qb Qg) (bq ct:Qc) (us:Qa Qc),us.length=ps.length->a3I (Ū x qual (p6 st) (j6 st) (zT st) .none kV doc pm an bq ct) ⟨us,[]⟩=pure (ps.zip us)):n9 K fd ps []:=by
 have(oc,od,kV,doc,pm,an,bq,ct,nH,rfl,lk,mW):=F.ex;exact .all<|h kV doc pm an bq ct
theorem HU{f:Qg}{oc:Qc}{od an:Qb Qg}{kV doc pm bq ct:Qc}(l:K.lookup f=ž ⟨oc,od,.func<|Ū x qual (p6 st) (j6 st) (zT st) .none kV doc pm an bq ct,nH⟩)
  (c:Α K bq qual=ż) (k:ť K (.ref f)=ż):kU K x qual st f (Ū x qual (p6 st) (j6 st) (zT st) .none kV doc pm an bq ct):=⟨⟨oc,od,kV,doc,pm,an,bq,ct,nH,rfl,l,c⟩,k⟩
end
theorem uW{k:Nat}(hr:aE k A):A.units+1 < Ŷ:=Ô (Nat.add_le_add_left (by decide:1<=64) _) hr.units
section
variable{X:Cx}
theorem UZ{p:Prop}(h:p:=by first|exact Or.inl rfl|exact a4e (Or.inl rfl) |exact a4e<|a4e rfl):p:=h
theorem Č(h:True:=by exact UZ):True:=h
abbrev č:=Č._auto_1
theorem pv(i:Nat){pos:Pos}(hN:autoParam (X.N[i]?=ž x) ć)(hv:autoParam (F9 X.env.scope x) č)(hd:autoParam ((x==("__debug__":Str))=Ż) ă)
  (mW:autoParam ((x==("__classdict__":Str))=Ż) ă):PE X (.Name x pos) (fQ i):=X1 hN hv hd mW
end
def dJ(H H':Hp):Prop:=∀b o,H b=ž o->H' b=ž o
theorem dJ.refl(H:Hp):dJ H H:=λ_ _ h=>h
end Internal
set_option maxHeartbeats 4000000
namespace Internal
open PySem PySem.Spec PyProof.Rows
inductive bC (X:Cx):Qa (Str×Qg)->Qa Str->Qa Nat->Prop where
 |nil:bC X [] [] []
 |cons {x:Str} {c:Qg} {j:Nat} {cl:Qa (Str×Qg)} {xs:Qa Str} {js:Qa Nat} (hN:X.N[j]?=ž x) (hk:X.env.scope.names.lookup x=ž .cell\/X.env.scope.names.lookup x=ž .free)
   (hc:X.env.cells.lookup x=ž c) (t:bC X cl xs js):bC X ((x,c)::cl) (x::xs) (j::js)
noncomputable def zN(X:Cx)(scope:a1z)(cl:Qa (Str×Qg))(Nc:Qa Str)(C:Qg)(s:Qd)(H:Hp)(ex:Qa Qg):Cx :=
 {X with bf:=s,H₀:=H,env:=compEnvC scope (Ľ (C+1) scope.names cl) C X.env,N:=Nc,outer:=X.stack,stack:=X.stack,ex:=ex,fn:=λx=>scope.names.lookup x==ž .cell,pn:=[],xe:=λ_ _=>False}
noncomputable def c0(nt:Nat)(js:Qa Nat)(σ:St):St:=Ĩ nt Ž++js.map λj=>σ.getD j Ž
def Wk(a b:St):Prop:=a.length=b.length/\∀(i:Nat) (v:V),a[i]?=ž (ž v)->b[i]?=ž (ž v)
theorem OL{a:St}{x:Qb V}(h:a[i]?=ž Ž):Wk a (a.set i x):=by
 refine⟨by simp,λj v e=>?_⟩;have ne:i≠j:=by intro z;rw[z,e]at h;cases h
 rw[qD ne];exact e
theorem Ei(h:i < nt):(c0 nt js σ)[i]?=ž Ž:=by
 unfold c0;rw[ĳ (by simpa using h),ŗ,a5E h]
theorem t6{X:Cx}{xs:Qa Str}(f:bC X cl xs js):∀x c,cl.lookup x=ž c->X.env.cells.lookup x=ž c:=by
 induction f with
 |nil=>intro x c e;cases e
 | @cons y d j cl xs js hN hk hc t ih=>
  intro x c e;rw[Ķ]at e
  by_cases q:x=y
  .subst q
   rw[a5J]at e;injection e with e1;rw[<-e1];exact hc
  .rw[beq_eq_false_iff_ne.mpr q]at e
   exact ih x c e
theorem RA{X:Cx}{xs:Qa Str}(f:bC X cl xs js):∀x,x∈xs->∃c,cl.lookup x=ž c:=by
 induction f with
 |nil=>intro x m;cases m
 | @cons y d j cl xs js hN hk hc t ih=>
  intro x m;rw[Ķ]
  by_cases q:x=y
  .subst q
   rw[a5J];exact⟨d,rfl⟩
  .rw[beq_eq_false_iff_ne.mpr q]
   rcases qw.mp m with z|z
   .exact absurd z q
   .exact ih x z
theorem zsg{X:Cx}{xs:Qa Str}(f:bC X cl xs js):∀(i:Nat) (x:Str) (σ:St) (v:V),xs[i]?=ž x->(js.map λj=>σ.getD j Ž)[i]?=ž (ž v)->
  ∃j:Nat,X.N[j]?=ž x/\σ[j]?=ž (ž v)/\(X.env.scope.names.lookup x=ž .cell\/X.env.scope.names.lookup x=ž .free)/\(∃c,X.env.cells.lookup x=ž c):=by
 induction f with
 |nil=>intro i x σ v e;simp at e
 | @cons y d j cl xs js hN hk hc t ih=>
  intro i x σ v e1 e2;cases i with
  |zero=>
   simp only[Ε,a3n]at e1;subst e1;refine⟨j,hN,?_,hk,d,hc⟩;simp only[Ī,Ε,a3n]at e2;rw[qC]at e2;cases q:σ[j]? with
   |none=>rw[q]at e2;cases e2
   |some o=>rw[q]at e2;simp at e2;rw[e2]
  |succ i=>
   exact ih i x σ v (by simpa using e1) (by simpa using e2)
theorem JM:∀{names:Qa (Str×δ)} {x:Str} {k:δ},
  (names.map λ(n,k)=>if(k==Ϫ && env.scope.kind==.function && env.kindOf n==ž .cell)then(n,Ų)else(n,k)).lookup x=ž k->
  ∃k0,names.lookup x=ž k0/\(x,k0)∈names/\(k=k0\/(k0=.free/\k=.cell)):=by
 intro names
 induction names with
 |nil=>intro x k e;cases e
 |cons p r ih=>
  intro x k e;have(n,kn):=p
  by_cases q:x=n
  .subst q
   refine⟨kn,by rw[Ķ,a5J],qq,?_⟩;rw[Ī]at e;change Ũ x ((if(kn==Ϫ && env.scope.kind==.function && env.kindOf x==ž .cell)=ż then(x,Ų)else(x,kn))::_)=_ at e
   by_cases hh:(kn==Ϫ && env.scope.kind==.function && env.kindOf x==ž .cell)=ż
   .rw[a5E hh,Ķ,a5J]at e
    injection e with e1;refine .inr ⟨?_,e1.symm⟩;simp only[Ŕ]at hh;exact by simpa using hh.1.1
   .rw[a5F hh,Ķ,a5J]at e
    injection e with e1;exact .inl e1.symm
  .rw[Ī]at e
   change Ũ x ((if(kn==Ϫ && env.scope.kind==.function && env.kindOf n==ž .cell)=ż then(n,Ų)else(n,kn))::_)=_ at e;have e':(r.map λ(n,k)=>if(k==Ϫ && env.scope.kind==.function && env.kindOf n==ž .cell)then(n,Ų)else(n,k)).lookup x=ž k:=by
    by_cases hh:(kn==Ϫ && env.scope.kind==.function && env.kindOf n==ž .cell)=ż
    .rw[a5E hh,Ķ,beq_eq_false_iff_ne.mpr q]at e
     exact e
    .rw[a5F hh,Ķ,beq_eq_false_iff_ne.mpr q]at e
     exact e
   have(k0,h1,h2,h3):=ih e';refine⟨k0,by rw[Ķ,beq_eq_false_iff_ne.mpr q];exact h1,qp _ h2,h3⟩
theorem zqQ{X:Cx}{xs:Qa Str}(f:bC X cl xs js):js.length=xs.length:=by
 induction f with
 |nil=>rfl
 |cons _ _ _ _ ih=>simp[ih]
structure sM (scope:a1z) (xs:Qa Str):Prop where
 kind:scope.kind=.function
 cell:∀y∈scope.names,y.2=.cell->scope.names.lookup y.1=ž .cell
 names:∀y∈scope.names,y.2=.local->scope.names.lookup y.1=ž .local
 free:∀y∈scope.names,y.2=.free->y.1∈xs
 fk:∀x∈xs,scope.names.lookup x=ž .free
theorem pU:∀(ns:Qa (Str×δ)) (n:Nat) (acc:Qa (Str×Qg)),Ľ n ns acc=Ľ n ns []++acc
 |[],_,_=>rfl
 | (x,k)::r,n,acc=>by
  unfold Ľ;split
  .rw[pU r (n+1)<|(x,n)::acc,pU r (n+1) [(x,n)],ĸ]
   rfl
  .exact pU r n acc
theorem HS:∀(ns:Qa (Str×δ)) (n:Nat) {x:Str} {c:Qg},(x,c)∈Ľ n ns []->(x,Ų)∈ns
 |[],_,_,_,h=>by cases h
 | (y,k)::r,n,x,c,h=>by
  unfold Ľ at h;split at h
  .rename_i hk
   rw[pU,a5x]at h;rcases h with h|h
   .exact qp _ (HS r _ h)
   .cases qr.mp h
    cases eq_of_beq hk;exact qq
  .exact qp _ (HS r _ h)
theorem DW:∀(ns:Qa (Str×δ)) (n:Nat) {x:Str},(x,Ų)∈ns->∃c,(Ľ n ns []).lookup x=ž c
 |[],_,_,h=>by cases h
 | (y,k)::r,n,x,h=>by
  unfold Ľ;rcases qw.mp h with e|h'
  .cases e
   rw[a5E (by rfl:(Ų==Ų)=ż),pU,ϔ];cases(Ľ (n+1) r []).lookup y with
   |none=>exact⟨n,by rw[Ķ,a5J];rfl⟩
   |some c=>exact⟨c,rfl⟩
  .split
   .have(c,e):=DW r (n+1) h'
    rw[pU,ϔ,e];exact⟨c,rfl⟩
   .exact DW r n h'
theorem xQ{ns:Qa (Str×δ)}{acc:Qa (Str×Qg)}{c:Qg}(h:(Ľ n ns acc).lookup x=ž c):(Ľ n ns []).lookup x=ž c\/(acc.lookup x=ž c/\(Ľ n ns []).lookup x=Ž):=by
 rw[pU,ϔ]at h;cases e:(Ľ n ns []).lookup x with
 |none=>rw[e]at h;exact .inr ⟨h,rfl⟩
 |some d=>rw[e]at h;exact .inl h
theorem NQ{ns:Qa (Str×δ)}{acc:Qa (Str×Qg)}{c:Qg}(h:(Ľ n ns []).lookup x=ž c):(Ľ n ns acc).lookup x=ž c:=by
 rw[pU,ϔ,h];rfl
theorem QY{M:Model}{s:Qd}{globals:Qg}{bs:Qg}{Q:Env->Qd->Prop}
  (hQ:∀h1,h1.Ns s.heap.objs.size (λ_=>Ž)->(∀b o,s.heap.get? b=ž o->h1.get? b=ž o)->CellsOk h1 (s.heap.objs.size+1) (Ľ (s.heap.objs.size+1) scope.names [])->
   Q (newEnv scope s.heap.objs.size globals (Ľ (s.heap.objs.size+1) scope.names cl) qual Ž .none (ž env) bs) {s with heap:=h1}):
  ĩ M A (a3E scope globals cl [] qual Ž .none (ž env) bs) Q E s:=by
 simp only[a3E,ϓ,if_true];refine qa<|wpAny_alloc ?_;refine qa<|wpAny_layCells _ (λname kind cells=>by cases hkc:kind==Ų<;>simp[hkc]) _ _ _ _ ?_;have ok:=cellsFrom_ok scope.names (s.heap.push {cls:=.type "dict",data:=.dict #[]}) (s.heap.objs.size+1) [] ⟨λ_ _ hm=>(nomatch hm),a1g⟩ (by rw[ŝ];exact qf _);rw[ŝ]at ok;rw[show({s with heap:=s.heap.push {cls:=.type "dict",data:=.dict #[]}}:Qd).heap.objs.size=s.heap.objs.size+1 from û ..];rw[a1m];exact qa<|qb<|qb<|hQ _ ((Heap.Ns.new s.heap<|.type "dict").keeps<|pushCells_keeps _ _) (λb o e=>pushCells_keeps _ _ b o<|qd _ e) ok
section
variable{X:Cx}{s:Qd}{xs:Qa Str}{ts:Qa Str}{fp:Qa Qg}{C:Qg}
theorem PN{hx:Ļ}(I:Inv X pins σ H s)(S:sM scope xs)(f:bC X cl xs js)(ck:CellsOk hx (C+1) (Ľ (C+1) scope.names []))(hC:s.heap.objs.size<=C)(hf:∀b∈fp,cK X pins H b)(hl:∀b∈fp,b < s.heap.objs.size):
  (zN X scope cl (ts++xs) C s H fp).Ok where
 mod:=I.ok.mod
 kind:=S.kind
 glob:=I.ok.glob
 blt:=I.ok.blt
 above:=hC
 inj:=λx y c e1 e2=>by
  have no:∀{x y:Str},(Ľ (C+1) scope.names []).lookup x=ž c->cl.lookup y=ž c->False:=λz1 z2=>by
   have(v,o,q,_):=I.cell _ c (t6 f _ c z2);have q1:=qi q;have q2:=(ck.empty _ _<|mem_of_lookup z1).2;exact Ò _<|qj q1<|qA hC<|qA (é C) q2
  rcases xQ e1 with z1|⟨z1,_⟩<;>rcases xQ e2 with z2|⟨z2,_⟩
  .exact name_of_addr ck.apart (mem_of_lookup z1) (mem_of_lookup z2)
  .exact(no z1 z2).elim
  .exact(no z2 z1).elim
  .exact I.ok.inj x y c (t6 f x c z1) (t6 f y c z2)
 has:=λx h=>by
  have z:∃k0,scope.names.lookup x=ž k0/\(x,k0)∈scope.names/\(k0=Ϫ\/k0=Ų):=by
   rcases h with h|h
   .have(k0,h1,h2,h3):=JM (env:=X.env) (names:=scope.names) h
    rcases h3 with h3|h3
    .exact⟨k0,h1,h2,.inr h3.symm⟩
    .exact⟨k0,h1,h2,.inl h3.1⟩
   .have(k0,h1,h2,h3):=JM (env:=X.env) (names:=scope.names) h
    rcases h3 with h3|h3
    .exact⟨k0,h1,h2,.inl h3.symm⟩
    .cases h3.2
  have(k0,_,h2,h3):=z;show ∃c,(Ľ (C+1) scope.names cl).lookup x=ž c;rcases h3 with h3|h3
  .have(c,e):=RA f x (S.free _ h2 h3)
   rw[pU,ϔ,e];cases(Ľ (C+1) scope.names []).lookup x with
   |none=>exact⟨c,rfl⟩
   |some d=>exact⟨d,rfl⟩
  .subst h3
   have(c,e):=DW scope.names (C+1) h2;exact⟨c,NQ e⟩
 yE:=λx c h e=>by
  have(d,q):=DW scope.names (C+1) (mem_of_lookup<|eq_of_beq h);have e':(Ľ (C+1) scope.names cl).lookup x=ž c:=e;rw[NQ q]at e';cases e';have:=(ck.empty _ _<|mem_of_lookup q).2;show s.heap.objs.size<=c;omega
 hd:=I.ok.hd
 frames:=I.ok.frames
 AY:=.inl rfl
 F0:=λb hb=>⟨qk<|qj (hl b hb) hC,λx c e=>by
  rcases xQ e with z|⟨z,_⟩
  .have q1:=(ck.empty _ _<|mem_of_lookup z).2
   exact a1e<|qj (hl b hb)<|qA hC<|qA (é C) q1
  .exact(hf b hb).2.2.2.2.1 x c (t6 f x c z)⟩
 bs:=I.bs
 qY:=qA I.ok.qY I.sz
 mQ:=λb o e hb=>by
  rcases(hf b hb).2.2.2.1 with z|z
  .exact I.ok.mQ b o e z
  .exact absurd (qj (qi (I.ok.bs b o e).1) z) (Ò _)
 pq:=λb hb z=>by
  rcases qw.mp (I.iT b z)with q|q
  .exact(hf b hb).2.1 q
  .exact(hf b hb).2.2.1 q
 eX:=I.stack
 uF:=I.lM
theorem PM{hx:Ļ}{pl:Qa (Qg×Obj)}(I:Inv X pins σ H s)(S:sM scope xs)(f:bC X cl xs js)(ck:CellsOk hx (C+1) (Ľ (C+1) scope.names []))(hC:s.heap.objs.size<=C)(hf:∀b∈fp,cK X pins H b)(hl:∀b∈fp,b < s.heap.objs.size)
  (hn:∀b∈fp,H' b=Ž) (hp:∀b∈fp,∀p∈pl,p.1≠b):∀b∈fp,cK (zN X scope cl (ts++xs) C s H fp) pl H' b:=λb hb=>by
 refine⟨hn b hb,qk<|qj (hl b hb) hC,λz=>?_,.inl hb,λx c e=>((PN I S f ck hC hf hl (ts:=ts)).F0 b hb).2 x c e,λp wa=>hp b hb p wa⟩;rcases qw.mp (I.iT b z)with q|q
 .exact(hf b hb).2.1 q
 .exact(hf b hb).2.2.1 q
theorem Inv.above(I:Inv X pins σ H s)(hC:s.heap.objs.size<=C):C≠X.env.locals/\(X.bf.heap.objs.size<=C)/\(∀x c,X.env.cells.lookup x=ž c->c≠C)/\∀p∈X.pn++pins,p.1≠C:=by
 refine⟨λz=>absurd I.lt (by rw[<-z];exact Nat.not_lt.mpr hC),qA I.sz hC,λx c e z=>?_,λp hp z=>?_⟩
 .have(v,ob,q,_):=I.cell x c e
  exact absurd (qi q) (by rw[z];exact Nat.not_lt.mpr hC)
 .have q:=(I.pin p hp).1
  exact absurd (qi q) (by rw[z];exact Nat.not_lt.mpr hC)
theorem QW(hf:∀b∈fp,cK X pins H b):∀b∈fp,(b∈X.ex\/X.bf.heap.objs.size<=b)/\b≠X.env.locals/\(∀x c,X.env.cells.lookup x=ž c->c≠b)/\∀p∈X.pn++pins,p.1≠b:=λb hb=>⟨(hf b hb).2.2.2.1,(hf b hb).2.1,(hf b hb).2.2.2.2⟩
theorem QV{m:Str->Qb Qc}{h1:Ļ}{tk:Nat}(I:Inv X pins σ H s)(S:sM scope xs)(f:bC X cl xs js)(iq:ts.length=nt)(hC:s.heap.objs.size<=C)(hf:∀b∈fp,cK X pins H b)(hl:∀b∈fp,b < s.heap.objs.size)
  (hk:∀b o,s.heap.get? b=ž o->h1.get? b=ž o) (hn:h1.Ns C m) (ck:CellsOk h1 (C+1) (Ľ (C+1) scope.names [])):Inv (zN X scope cl (ts++xs) C s H fp) [] (c0 nt js σ) H {s with heap:=h1,toks:=tk} where
 ok:=PN I S f ck hC hf hl
 os:=rfl
 bare:=I.bare
 base:=Un.kept hk
 loc:=by
  refine⟨m,hn,λi x v e1 e2 e3=>?_⟩;have hi:nt<=i:=by
   rcases Nat.lt_or_ge i nt with z|z
   .rw[Ei z]at e2;cases e2
   .exact z
  have F3:xs[i - nt]?=ž x:=by
   have z:(ts++xs)[i]?=ž x:=e1;rw[ı (by omega),iq]at z;exact z
  have e2':(js.map λj=>σ.getD j Ž)[i - nt]?=ž (ž v):=by
   unfold c0 at e2;rw[ı (by simpa using hi),Ĺ]at e2;exact e2
  have(j,hN,hσ,V2,c,hc):=zsg f (i - nt) x σ v F3 e2';have(m0,_,yw):=I.loc;have(u,r,lk):=yw j x v hN hσ (.inr V2);refine⟨u,r,.inr ⟨?_,?_⟩⟩
  .rcases e3 with z|z|z
   .have hx:x∈xs:=Ä F3
    have(k0,h1,h2,h3):=JM (env:=X.env) (names:=scope.names) z;have q:=S.fk x hx;rw[h1]at q;cases q;rcases h3 with h3|h3
    .cases h3
    .cases h3.2
   .exact .inl z
   .exact .inr z
  .have(c',mX):=RA f x (Ä F3)
   have no:(Ľ (C+1) scope.names []).lookup x=Ž:=by
    cases e:(Ľ (C+1) scope.names []).lookup x with
    |none=>rfl
    |some d=>
     have z:=S.cell _ (HS _ _<|mem_of_lookup e) rfl;rw[S.fk x<|List.mem_of_getElem? F3]at z;cases z
   refine⟨c',?_,?_⟩
   .show(Ľ (C+1) scope.names cl).lookup x=ž c'
    rw[pU,ϔ,no,mX];rfl
   have q:=t6 f x c' mX;rcases lk with⟨l1,_⟩|⟨_,c'',l2,l3⟩
   .exfalso
    have VD:X.env.scope.names.lookup x=ž .local:=l1;rcases V2 with z|z<;>rw[z]at VD<;>cases VD
   .rw[q]at l2
    cases l2;exact l3.keeps hk
 cell:=λx c e=>by
  rcases xQ e with z|⟨z,_⟩
  .exact⟨_,(ck.empty _ _<|mem_of_lookup z).1⟩
  .have(v,z):=I.cell x c (t6 f x c z)
   exact⟨v,z.keeps hk⟩
 free:=I.aw.fresh hC
 b7:=λx c e=>by
  rcases xQ e with z|⟨z,_⟩
  .exact I.aw.fresh (by have:=(ck.empty _ _<|mem_of_lookup z).2;omega)
  .exact I.b7 x c (t6 f x c z)
 pin:=λp hp=>by cases hp
 aw:=I.aw.kept hk
 len:=by
  show(c0 nt js σ).length=(ts++xs).length;unfold c0;rw[qu,qu,Ĺ,Ħ,iq];rw[zqQ f]
theorem Rz{o:HO}(x:b9 P w K H h)(hn:H a=Ž)(new:zP P w K (upd H a o) h a o):b9 P w K (upd H a o) h:=λb u e=>by
 by_cases hb:b=a
 .subst hb;rw[zq]at e;cases e;exact new
 .rw[zu hb]at e
  exact(x b u e).dZ (λ_ _ _ q=>q) (λc q=>(zu<|lK q hn).trans q) λc ys q=>(zu<|lK q hn).trans q
theorem QU{fs ex:Qa Qg}{h1:Ļ}{o:HO}(u:Un fs ex H H1 h h1)(hn:H1 a=Ž)(ha:h.objs.size<=a):Un fs ex H (upd H1 a o) h h1 where
 keep:=u.keep
 slot:=u.slot
 free:=λb ob q n hx=>(zu<|qk<|qj (qi q) ha).trans (u.free b ob q n hx)
 there:=u.there
 gD:=λb ys q=>(zu<|lK (u.gD b ys q) hn).trans (u.gD b ys q)
 fL:=λb ob ys q=>(zu<|lK (u.fL b ob ys q) hn).trans (u.fL b ob ys q)
 hX:=λb ps q=>by
  have(more,e):=u.hX b ps q;exact⟨more,(zu<|lK e hn).trans e⟩
def uT(X:Cx)(ifs:Qa ĺ)(t:TT):Prop :=
 ∀(pins:Qa (Qg×Obj)) (s:Qd) (σ:St) (H:Hp) (Q:Bool->Hp->Prop),Inv X pins σ H s->t σ H Q->
  ĩ (Ĭ X.prog X.w) X.A (forIn ifs ż λc r=>if r=ż then do let ok <-a3b c X.env (Ť c X.env);pure (a0D ok)else pure (a0D r)) (TP X pins σ Q) X.xe s
def Kv:TT:=λ_ H Q=>Q ż H
theorem zsh{X:Cx}:uT X [] Kv:=λ_ _ _ H _ I h=>wpAny_tests_nil ⟨H,I,h⟩
theorem zsi{X:Cx}{c:ĺ}{t:TT}(h:PT X c t):uT X [c] t:=λpins s σ H Q I q=>wpAny_tests_one<|h pins s σ H Q I q
theorem wX{t:Sem α}{Q Q':α->Qd->Prop}{M:Model}{s:Qd}(h:ĩ M A t Q (λ_ _=>False) s)(hQ:∀a s,Q a s->Q' a s):ĩ M A t Q' E s:=ļ h hQ λ_ _ x=>x.elim
theorem znr{R:Ϻ->Qd->Prop}{s:Qd}{elt target:ĺ}{pos:Pos}{it acc:Qc}(I:Nat->Qd->Prop)
  (turn:∀n s,I n s->∀E,ĩ (Ĭ prog w) A (ϱ it) (λr s1=>match r with
   |none=>R (.ok .next) s1
   |some v=>ĩ (Ĭ prog w) A (Ϗ target it v) (λ_ s2=>ĩ (Ĭ prog w) A (χ target env v) (λ_ s3=>
     ĩ (Ĭ prog w) A (forIn ifs ż λc r=>if r=ż then do let ok <-a3b c env (Ť c env);pure (a0D ok)else pure (a0D r)) (λok s4=>
      (ok=ż->ĩ (Ĭ prog w) A (Ť elt env) (λx s5=>ĩ (Ĭ prog w) A (a1P (.builtin "list.append") [acc,x]) (λ_ s6=>∃m,m < n/\I m s6) E s5) E s4)/\
      (ok=Ż->∃m,m < n/\I m s4)) E s3) E s2) E s1) E s)
  (n:Nat) (h:I n s):Ŵ (Ĭ prog w) A (.compLoop (.ListComp elt [⟨target,iter,ifs,0⟩] scope pos) 0 it acc env) R s:=by
 refine a4R rfl I (λn s hI=>?_) n h;show ĩ _ A ((a3H _ 0 it acc env).onRaise (λx=>do a4F x env;a3r x)) _ _ s;refine wpAny_noted ?_;rw[compTurn_list];refine qa<|Ź<|qa<|ļ (turn n s hI _) (λr s1 h1=>?_) λ_ _ z=>z;cases r with
 |none=>exact qb h1
 |some v=>
  refine qa<|ļ h1 (λ_ s2 h2=>?_) λ_ _ z=>z;refine qa<|ļ h2 (λ_ s3 h3=>?_) λ_ _ z=>z;refine qa<|ļ h3 (λok s4 h4=>?_) λ_ _ z=>z;cases ok with
  |false=>exact qb ⟨rfl,h4.2 rfl⟩
  |true=>
   refine qa<|qa<|ļ (h4.1 rfl) (λx s5 h5=>?_) λ_ _ z=>z;exact qa<|ļ h5 (λ_ s6 h6=>qb<|qb ⟨rfl,h6⟩) λ_ _ z=>z
def UY(J:It)(hU:St)(g:TG)(tt:TT)(te:TE)(Z:Qa V->Hp->Prop)(H1:Hp):Prop :=
 ∃W:Nat->Nat->Qa V->Hp->Prop,(∃m,W 0 m [] H1)/\∀i m ys H,W i m ys H->
  (J.stop i H/\Z ys H)\/(J.go i H/\ys.length < ħ/\∃N:Qa V->Hp->Prop,(∀j8 H',N j8 H'->∃m',m' < m/\W (i+1) m' j8 H')/\
   ∀x H',J.vG i H x H'->g x hU H' λfB H2=>tt fB H2 λb H3=>if b=ż then te fB H3 λy H4=>N (ys++[y]) H4 else N ys H3)
def GW(hU:St)(g:TG):Prop:=∀x H (Q:St->Hp->Prop),g x hU H Q->g x hU H λfB H2=>Wk hU fB/\Q fB H2
def CB(X:Cx)(scope:a1z)(cl:Qa (Str×Qg))(e tg:ĺ)(mk:Sem Qc)(tC:It->St->Hp->(V->Hp->Prop)->Prop):Prop :=
 ∀(pins:Qa (Qg×Obj)) (s:Qd) (σ:St) (H:Hp) (J:It) (it:Qg) (fp:Qa Qg) (tn:Nat->Ļ->Prop) (Q:V->Hp->Prop) (RR:Qc->Qg->Ϻ->Qd->Prop) (E:Qc->Qd->Prop),
  Inv X pins σ H s->Turn X.prog X.w X.K tg J fp it tn->tn 0 s.heap->(∀b∈fp,cK X pins H b)->tC J σ H Q->
  (∀(D C:Qg) (m:Str->Qb Qc) (s':Qd) (H':Hp),Q (.ref D) H'->Inv X pins σ H' s'->s'.heap.Ns C m->H' C=Ž->s.heap.objs.size<=C->RR (.ref D) C (.ok .next) s')->
  ĩ (Ĭ X.prog X.w) X.A mk (λacc s3=>ĩ (Ĭ X.prog X.w) X.A (a3E scope X.env.globals cl [] X.env.qual Ž .none<|some X.env) (λCA s4=>
   Ŵ (Ĭ X.prog X.w) X.A (.compStart e 0 (.ref it) acc {CA with scope:=relabel scope X.env}) (RR acc CA.locals) s4) E s3) E s
theorem RT{elt:ĺ}{pos:Pos}
  (hc:X.calm=ż) (S:sM scope xs) (f:bC X cl xs js) (iq:ts.length=nt) (hg:∀C s H ex,PG (zN X scope cl (ts++xs) C s H ex) tg g) (ht:∀C s H ex,uT (zN X scope cl (ts++xs) C s H ex) ifs tt) (he:∀C s H ex,PE (zN X scope cl (ts++xs) C s H ex) elt te)
  (gw:∀σ:St,GW (c0 nt js σ) g):CB X scope cl (.ListComp elt [⟨tg,iter,ifs,0⟩] scope pos) tg (newList []) λJ σ H Q=>UY J (c0 nt js σ) g tt te (λys H2=>∀D,H2 D=Ž->Q (.ref D) (upd H2 D<|.lst ys)) H:=by
 intro pins s σ H J it fp tn Q RR E I T st hf h Ms;refine qB<|QY λh1 uA kH ck=>?_;dsimp only at uA kH ck ⊢;generalize Mt:s.heap.push {cls:=.type "list",dict:=Ž,data:=.seq ([]:Qa Qc).toArray}=G at uA kH ck ⊢;have yA:G.objs.size=s.heap.objs.size+1:=by rw[<-Mt,ŝ]
 have hC:s.heap.objs.size<=G.objs.size:=by rw[yA];exact é _
 have Wg:s.heap.objs.size≠G.objs.size:=by rw[yA];exact qk<|à _
 have hl:∀b∈fp,b < s.heap.objs.size:=λb hb=>by
  have(o,e,_):=T.obj _ _ st b hb;exact qi e
 have old:∀b o,s.heap.get? b=ž o->h1.get? b=ž o:=λb o e=>
  kH b o (Mt▸qd _ e)
 have hD1:h1.get? s.heap.objs.size=ž {cls:=.type "list",data:=.seq ([]:Qa Qc).toArray}:=kH _ _ (Mt▸qh _ rfl);have J0:Inv (zN X scope cl (ts++xs) G.objs.size s H fp) [] (c0 nt js σ) H {s with heap:=h1}:=QV (tk:=s.toks) I S f iq hC hf hl old uA ck;obtain⟨W,⟨m0,w0⟩,turn⟩:=h;have oM:tn 0 h1:=T.keep _ _ _ st λb hb o e=>old b o e;have hDn:H s.heap.objs.size=Ž:=I.aw.fresh (qf _);have CJ:∀b∈fp,s.heap.objs.size≠b:=λb hb z=>absurd (hl b hb) (by rw[<-z];exact Ò _);have pj:∀{H':Hp} {pl:Qa (Qg×Obj)},(∀b∈fp,H' b=Ž)->(∀p∈pl,p.1=s.heap.objs.size)->∀b∈fp,cK (zN X scope cl (ts++xs) G.objs.size s H fp) pl H' b:=λ{H' pl} hn hp=>PM I S f ck hC hf hl hn λb hb p wa z=>CJ b hb<|(hp p wa).symm.trans z;have loop:Ŵ (Ĭ X.prog X.w) X.A (.compLoop (.ListComp elt [⟨tg,iter,ifs,0⟩] scope pos) 0 (.ref it) (.ref s.heap.objs.size)<|compEnvC scope (Ľ (G.objs.size+1) scope.names cl) G.objs.size X.env) (RR (.ref s.heap.objs.size) G.objs.size)
   {s with heap:=h1}:=by
  refine znr (λn s'=>∃i ys ah nn H',Inv (zN X scope cl (ts++xs) G.objs.size s H fp) [] (c0 nt js σ) H' s'/\tn i s'.heap/\(∀b∈fp,H' b=Ž)/\H' s.heap.objs.size=Ž/\
   s'.heap.get? s.heap.objs.size=ž {cls:=.type "list",data:=.seq (a1V ah) nn}/\zJ ys ah/\ys.length<=ħ/\W i n ys H') ?_ m0
   ⟨0,[],[],0,H,J0,oM,λb hb=>(hf b hb).1,hDn,hD1,.nil,Ç _,w0⟩
  rintro n s3 ⟨i,ys,ah,nn,H3,I3,oK,ph,d3,o3,r3,z3,w3⟩ E';have qX:s.heap.objs.size≠(zN X scope cl (ts++xs) G.objs.size s H fp).env.locals:=Wg;have Xn:Inv (zN X scope cl (ts++xs) G.objs.size s H fp) [(s.heap.objs.size,{cls:=.type "list",data:=.seq ah.toArray nn})] (c0 nt js σ) H3 s3:=I3.cL λp hp=>by
   have e:p=(s.heap.objs.size,{cls:=.type "list",data:=.seq ah.toArray nn}):=by simpa using hp
   subst e;refine⟨o3,d3,qX,λz=>?_,λv z=>by cases z⟩;have(_,ob,e,_):=I.stack.mem z;exact absurd (qi e)<|Ò _
  have Lu:∀p∈[(s.heap.objs.size,({cls:=.type "list",data:=.seq ah.toArray nn}:Obj))],p.1=s.heap.objs.size:=λp hp=>by
   have e:p=(s.heap.objs.size,{cls:=.type "list",data:=.seq ah.toArray nn}):=by simpa using hp
   rw[e]
  rcases turn i n ys H3 w3 with⟨stop,qz⟩|⟨go,hsz,N,hN,step⟩
  .refine az (T.done (zN X scope cl (ts++xs) G.objs.size s H fp) rfl rfl rfl hc i _ s3 _ H3 E' Xn (pj ph Lu) oK stop) λr s4 hZ=>?_
   have(hr,I4):=hZ;subst hr;have o4:s4.heap.get? s.heap.objs.size=ž {cls:=.type "list",data:=.seq ah.toArray nn}:=(I4.pin _<|qx _ qq).1;have(m4,n4,_):=I4.loc;have hk4:b9 X.prog X.w X.K (upd H3 s.heap.objs.size<|.lst ys) s4.heap:=Rz I4.aw d3 ⟨z3,ah,nn,r3,o4⟩;have un4:Un (m6 X.stack) fp H (upd H3 s.heap.objs.size<|.lst ys) s.heap s4.heap:=QU I4.base d3 (qf _);exact Ms _ _ m4 s4 _ (qz _ d3) (I.uJ I4.os un4 hk4 I4.bare<|QW hf) n4 (by rw[zu<|ň Wg];exact I4.free) hC
  .refine az (T.item (zN X scope cl (ts++xs) G.objs.size s H fp) rfl rfl rfl hc i _ s3 _ H3 E' Xn (pj ph Lu) oK go) λr s4 hZ=>?_
   have(u,hr,h4):=hZ;subst hr;refine az h4 λ_ s5 hZ=>?_;have(x,H5,I5,r5,y5,kf,wu):=hZ;have wM:=I5.pinned (pj wu Lu) (T.obj _ _ kf);refine wX (hg _ _ _ _ _ s5 _ H5 x u _ wM r5<|gw _ _ _ _<|step x H5 y5) λ_ s6 hZ=>?_;have(k7,H6,I6,rP,q6):=hZ;refine wX (ht _ _ _ _ _ s6 k7 H6 _ I6 q6) λok s7 hZ=>?_;have(H7,I7,q7):=hZ;have after:∀{H8:Hp} {s8:Qd},Inv (zN X scope cl (ts++xs) G.objs.size s H fp) ([(s.heap.objs.size,({cls:=.type "list",data:=.seq ah.toArray nn}:Obj))]++An fp s5.heap) k7 H8 s8->
     tn (i+1) s8.heap/\(∀b∈fp,H8 b=Ž)/\H8 s.heap.objs.size=Ž/\s8.heap.get? s.heap.objs.size=ž {cls:=.type "list",data:=.seq ah.toArray nn}/\
      Inv (zN X scope cl (ts++xs) G.objs.size s H fp) [] (c0 nt js σ) H8 s8:=λ{H8 s8} I8=>by
    have dd:=I8.pin (s.heap.objs.size,({cls:=.type "list",data:=.seq ah.toArray nn}:Obj)) (qx _<|Í _ qq);refine⟨T.keep _ _ _ kf λb hb o e=>(I8.pin (b,o)<|qx _<|qx _<|t7 hb e).1,λb hb=>?_,dd.2.1,dd.1,?_⟩
    .have(o,e,d):=T.obj _ _ kf b hb
     exact(I8.pin (b,o)<|qx _<|qx _<|t7 hb e).2.1
    .exact(I8.weak rP.1 rP.2).cL λp hp=>by cases hp
   refine⟨λaw=>?_,λaw=>?_⟩
   .subst aw
    rw[a5E rfl]at q7;refine wX (he _ _ _ _ _ s7 k7 H7 _ I7 q7) λv s8 hZ=>?_;have(y,H8,I8,ry,q8):=hZ;have(La,fr8,d8,o8,I8'):=after I8;have(m',hm,w8):=hN _ _ q8;refine υ a5A ⟨_,o8,rfl⟩ a5q (a5d _ _) (a4I s.heap.objs.size ah.toArray nn v (by rw[ī,<-r3.length];omega)) ⟨o8,?_⟩;have(_,f1,_,f3,f4,_):=(⟨d8,qX,trivial,.inr<|qf _,λx c e=>by
     rcases xQ e with z|⟨z,_⟩
     .exact a1e (qj (Ô hC<|à _) (ck.empty _ _<|mem_of_lookup z).2)
     .have(v0,ob,q,_):=I.cell x c (t6 f x c z)
      exact a1e (qi q) |>.symm,trivial⟩:H8 s.heap.objs.size=Ž/\s.heap.objs.size≠(zN X scope cl (ts++xs) G.objs.size s H fp).env.locals/\True/\(s.heap.objs.size∈fp\/s.heap.objs.size<=s.heap.objs.size)/\
      (∀x c,(Ľ (G.objs.size+1) scope.names cl).lookup x=ž c->c≠s.heap.objs.size)/\True)
    have q:=a3P o8 (λx=>x.push v);have hp:ah.toArray.push v=(ah++[v]).toArray:=by simp
    rw[hp]at q;refine⟨m',hm,i+1,ys++[y],ah++[v],_,H8,I8'.turned (t':=s8.toks) (it:=s.heap.objs.size) (λb o hb e=>(Î s8.heap _<|ň hb).trans e) d8 f1 f3 f4 (λp hp=>by cases hp),?_,fr8,d8,q,r3.append<|.cons ry .nil,?_,w8⟩
    .exact T.keep _ _ _ La λb hb o e=>(Î s8.heap _<|CJ b hb).trans e
    .rw[qu,Ŝ]
     omega
   .subst aw
    rw[a5F qg]at q7;have(st7,fr7,d7,o7,I7'):=after I7;have(m',hm,w7):=hN _ _ q7;exact⟨m',hm,i+1,ys,ah,nn,H7,I7',st7,fr7,d7,o7,r3,z3,w7⟩
 exact codeAny_compStart_list loop<|T.self _ _ _ _ _ oM loop
def Fi(wi:TI)(nt:Nat)(js:Qa Nat)(g:TG)(tt:TT)(te:TE):TE:=λσ H Q=>wi σ H λJ H1=>
 UY J (c0 nt js σ) g tt te (λys H2=>∀D,H2 D=Ž->Q (.ref D) (upd H2 D<|.lst ys)) H1
theorem ZR{mk:Sem Qc}{g:a2n}{gs:Qa a2n}{tC:It->St->Hp->(V->Hp->Prop)->Prop}{ip:Pos}(hB:CB X scope cl e tg mk tC)(S:sM scope xs)(pe:closureFor scope X.env=pure cl)(hi:PI X tg g.iter wi)
  (B5:clausesOf e=g::gs) (hs:∀x,Š g.iter X.env x=pure x) (Mm:Ť e X.env=comprehension e scope X.env ip mk Ż (Ť g.iter X.env)):PE X e λσ H Q=>wi σ H λJ H1=>tC J σ H1 Q:=by
 intro pins s σ H Q I h;rw[Mm];refine a4l (use:=Ž) B5 hs pe S.kind S.names<|az (hi pins s σ H _ I h) λv s1 h1=>az h1 λFF s2 h2=>?_;have(it,fp,tn,J,H2,rfl,I2,T,qG,f2,q):=h2;refine hB pins s2 σ H2 J it fp tn Q (λacc C=>compPost (Ĭ X.prog X.w) X.A X.xe Ž (EP X pins σ Q) acc C) X.xe I2 T qG f2 q λD C m s' H' z I' hn Ce hC=>?_;have(FW,yA,yB):=I2.above hC;exact⟨m,hn,λh' qP=>⟨.ref D,_,I'.turned (it:=C) (λb o hb e=>qP.extBut b o hb e) Ce FW (.inr yA) yB.1 yB.2,rfl,z⟩⟩
end
section
variable{X:Cx}
def Ac(_ j:Int):Prop:=0 < j/\j.natAbs.log2 < 9000
theorem Rf:bL X (ϊ .FloorDiv) (rI Ac λi j=>.int<|i / j):=yf λi j _ _ _ _ _ hc q=>by
 have h1:(0:Int) < j:=hc.1;exact floordiv_int (by omega) (by rw[a0t i (by omega)];exact q)<|.inl<|a0q hc.2
def xo(_ j:Int):Prop:=j≠0/\j.natAbs.log2 < 9000
theorem Rc:bL X (ϊ .FloorDiv) (rI xo λi j=>.int<|i.fdiv j):=yf λi j _ _ _ _ _ hc q=>
 floordiv_int hc.1 q (.inl<|a0q hc.2)
theorem JF{k:Nat}(hk:0 < k)(h:n < 2^k):n.log2 < k:=by
 by_cases hn:n=0
 .subst hn;exact hk
 .exact(a4A hn).mpr h
theorem ZQ{i j:Int}(h:0 < j)(h2:j<=2^128):Ac i j:=⟨h,ú (JF (k:=129) (by decide) (by omega)) (by decide)⟩
def Ku(K:qc):Qa V->Hp->VK->Prop:=λxs H Q=>∃x t T b,xs=[x,.ty T]/\d6 K H x t/\a1c K t (.type T)=ž b/\Q (.bl b) H
theorem zsj:fV X (.builtin "isinstance") (Ku X.K):=by
 intro pins s σ H xs us Q I r h;have(x,t,T,b,rfl,ty,e,q):=h;have(u,u',rfl,rx,rt):=NS r;cases rt;exact zqH I rx ty e λtk=>⟨.bl b,H,I.tok tk,rfl,q⟩
end
theorem ZP(h:i < nt):∀σ:St,GW (c0 nt js σ) (iO i):=λσ x H Q q=>⟨OL<|Ei h,q⟩
def SameBut(p:Qg)(H H':Hp):Prop:=∀b o,b≠p->H b=ž o->H' b=ž o
theorem zF{p:Qg}(h:H p=Ž)(o:HO):dJ H (upd H p o):=λb u q=>by rw[zu<|lK q h];exact q
def Bl(mg:Str->Qb Qc)(xs:Qa Str):Prop:=∀x,x∈xs->mg x=Ž
theorem Bl.nil:Bl mg []:=λ_ h=>by cases h
theorem Bl.cons{xs:Qa Str}(h:mg x=Ž)(t:Bl mg xs):Bl mg (x::xs):=λy m=>by
 rcases qw.mp m with e|e
 .rw[e];exact h
 .exact t y e
noncomputable def zV:ĺ->Bool
 |.Starred _ _=>Ż
 |_=>ż
theorem nF{es:Qa ĺ}(h:zV e=ż):ŏ (e::es) env=(Ż,Ť e env)::ŏ es env:=by
 cases e<;>first|rfl|cases h
theorem rO{pos:Pos}:∀{es:Qa ĺ},es.all zV=ż->(Ω pos<|ŏ es env).any (·.1)=Ż
 |[],_=>rfl
 |e::es,h=>by
  rw[Ϝ,Ŕ]at h;rw[nF h.1];show(Ż || (Ω pos<|ŏ es env).any (·.1))=Ż;rw[a0E];exact rO h.2
section
variable{X:Cx}{es:Qa ĺ}{t:TA}{id:String}{pos:Pos}
theorem zEV(ha:PE X e te)(hr:PA X es t)(hs:autoParam (zV e=ż) ć):PA X (e::es) (j0 te t):=zv4 ha hr (nF hs)
theorem zCQ(hc:fV X (.builtin id) r)(hg:Gl X x)(hm:X.mg x=Ž)(hv:Ÿ x=ž (.builtin id))(ha:PA X (e::es) t)(hn:autoParam (x ≠ "__name__") ă)(gJ:autoParam ((x==("__debug__":Str))=Ż) ă)
  (he:autoParam (zV e=ż) ć) (dN:autoParam (es.all zV=ż) ć):PE X (.Call (.Name x p) (e::es) [] pos) (mF r t):=zrZ hc hg hm hv ha hn gJ (nF he) (rO dN)
theorem zCR(hc:fV X (.type T) r)(hg:Gl X x)(hm:X.mg x=Ž)(hv:Ÿ x=ž (.type T))(ha:PA X (e::es) t)(hn:autoParam (x ≠ "__name__") ă)(gJ:autoParam ((x==("__debug__":Str))=Ż) ă)
  (he:autoParam (zV e=ż) ć) (dN:autoParam (es.all zV=ż) ć):PE X (.Call (.Name x p) (e::es) [] pos) (mF r t):=zqJ hc hg hm hv ha hn gJ (nF he) (rO dN)
end
structure M0 (P:Qe) (w:Qh) (K:qc) (mg:Str->Qb Qc) (base:Ļ) (x:Str) (k:Nat) (ps:Qa Str) (sp:Sp):Prop where
 ex:∃(f:Qg) (fd:ϋ),cD P w K mg base jK k f fd ps sp/\n9 K fd ps []/\ť K (.ref f)=ż/\mg x=ž (.ref f)
def Kt(sp:Sp)(t:TA):TE:=λσ H Q=>t σ H λvs H1=>sp vs H1 Q E0
section
variable{X:Cx}{k:Nat}{ps:Qa Str}{pos:Pos}{es:Qa ĺ}{t:TA}
theorem zAu(C:M0 X.prog X.w X.K X.mg X.base x k ps sp)(hr:aE k X.A)(hg:Gl X x)(ha:PA X (e::es) t)(gJ:autoParam ((x==("__debug__":Str))=Ż) ă)
  (he:autoParam (zV e=ż) ć) (dN:autoParam (es.all zV=ż) ć):PE X (.Call (.Name x p) (e::es) [] pos) (Kt sp t):=by
 have(f,fd,F,hb,hk,hm):=C.ex;intro pins s σ H Q I h;refine zv6 (dvs:=[]) (E:=E0) F hr hg hm hk hb .nil Hj ha gJ (nF he) (rO dN) pins s σ H Q I ?_;show t σ H λvs H1=>sp (vs++[]) H1 Q E0;have z:(λ(vs:Qa V) (H1:Hp)=>sp (vs++[]) H1 Q E0)=λvs H1=>sp vs H1 Q E0:=by
  funext vs H1
  rw[ń]
 rw[z];exact h
end
def Hi(t:TS):TS:=λD σ H=>∃J:St->Hp->Prop,t {D with nx:=J} σ H/\∀aF H',J aF H'->D.nx aF H'
theorem ZO{X:Cx}{t:TS}(h:PS X st t):PS X st (Hi t):=by
 intro pins s σ H D I ⟨J,q,z⟩;refine az (h pins s σ H _ I q) λf s' r=>?_;cases f with
 |next=>have(aF,H',I',j):=r;exact⟨aF,H',I',z _ _ j⟩
 |brk=>exact r
 |cont=>exact r
 |ret u=>exact r
theorem Rb(x y:Int)(hx:0<=x)(hy:0 < y):œ y (x % y)=œ x y:=by
 have(a,rfl):=a3z hx;have(b,rfl):=a3z (Ξ hy);rw[<-Int.natCast_emod];show Nat.gcd b (a % b)=Nat.gcd a b;rw[Nat.gcd_comm a b,Nat.gcd_comm b<|a % b];exact(Nat.gcd_rec b a).symm
theorem ZN(x y:Int):œ (if x < 0 then -x else x) y=œ x y:=by
 split
 .exact Int.neg_gcd
 .rfl
structure Wr (p:Prop):Prop where
 run:p
theorem zCS{xs:Qa Str}(h:Bl mg xs)(m:x∈xs):mg x=Ž:=h x m
theorem PK{X:Cx}{C:Qg}{s:Qd}{ex:Qa Qg}(h:decide N.Nodup=ż):(zN X scope cl N C s H ex).N.Nodup:=a5I h
noncomputable def lg(X:Cx)(js:Qa Nat):Qa Str:=js.map λj=>X.N.getD j ""
def l8(X:Cx)(js:Qa Nat):Qa (Str×Qg):=(lg X js).map λx=>(x,(X.env.cells.lookup x).getD 0)
noncomputable def iF:ĺ->Qa Str
 |.Name x _=>[x]
 |.Tuple es _ _=>es.flatMap λe=>match e with
  |.Name x _=>[x]
  |.Tuple fs _ _=>fs.filterMap λe=>match e with
   |.Name x _=>ž x
   |_=>Ž
  |_=>[]
 |_=>[]
def Gk(nt:Nat)(g:TG):Prop:=∀(js:Qa Nat) (σ fO:St),Wk (c0 nt js σ) fO->∀x H (Q:St->Hp->Prop),g x fO H Q->g x fO H λfB H2=>Wk (c0 nt js σ) fB/\Q fB H2
def wW(nt:Nat)(g:jW):Prop:=∀(js:Qa Nat) (σ fO:St),Wk (c0 nt js σ) fO->∀x H (Q:St->Hp->Prop),g x fO H Q->g x fO H λfB H2=>Wk (c0 nt js σ) fB/\Q fB H2
theorem zsl(h:i < nt):Gk nt (iO i):=by
 intro js σ fO w x H Q q;refine⟨⟨by rw[ŀ];exact w.1,λj v e=>?_⟩,q⟩;have ne:i≠j:=by
  rintro rfl;rw[Ei h]at e;cases e
 rw[qD ne];exact w.2 j v e
theorem zsm:wW nt Dp:=λjs σ fO w x H Q q=>⟨q.1,w,q.2⟩
theorem zqT{gs:jW}(h1:Gk nt g)(h2:wW nt gs)(mono:∀v σ H (Q Q':St->Hp->Prop),(∀aF H',Q aF H'->Q' aF H')->g v σ H Q->g v σ H Q'):wW nt (yY g gs):=by
 intro js σ fO w x H Q q;have(v,r,e,k):=q;refine⟨v,r,e,mono _ _ _ _ _ (λaF H' hZ=>?_)<|h1 js σ fO w v H _ k⟩;have(w',q'):=hZ;exact h2 js σ aF w' r H' Q q'
theorem ZM{gs:jW}(h:wW nt gs):Gk nt (Dn K n gs):=by
 intro js σ fO w x H Q q;have(a,xs,e,s,l,k):=q;exact⟨a,xs,e,s,l,h js σ fO w xs H Q k⟩
theorem zCT(h:Gk nt g):∀σ:St,GW (c0 nt js σ) g:=λσ x H Q q=>h js σ _ ⟨rfl,λ_ _ e=>e⟩ x H Q q
theorem zqU:∀v σ H (Q Q':St->Hp->Prop),(∀aF H',Q aF H'->Q' aF H')->iO i v σ H Q->iO i v σ H Q':=λv σ H Q Q' h q=>h _ _ q
theorem zqV{gs:jW}(h:i < nt)(h2:wW nt gs):wW nt (yY (iO i) gs):=zqT (zsl h) h2 zqU
section
variable{X:Cx}{pos:Pos}{a b c:ĺ}{es rest:Qa ĺ}{t:TA}{rd:R2}{id:String}{tA qF:TT}{K9 body:Qa Ś}{ts us:TS}{gs:jW}
theorem aa(hN:autoParam (X.N[i]?=ž x) ć)(hv:autoParam (F9 X.env.scope x) č)(hd:autoParam ((x==("__debug__":Str))=Ż) ă)
  (mW:autoParam ((x==("__classdict__":Str))=Ż) ă):Wr (PE X (.Name x pos)<|fQ i):=⟨pv i hN hv hd mW⟩
theorem zm{n:Int}:Wr (PE X (.Constant (.int n) j pos)<|tC<|.int n):=⟨X0⟩
theorem lr{n:Bool}:Wr (PE X (.Constant (.bool n) j pos)<|tC<|.bl n):=⟨zCz⟩
theorem pR:Wr (PE X (.Constant .none j pos)<|tC .aM):=⟨XZ⟩
theorem iz{n:Str}:Wr (PE X (.Constant (.str n) j pos)<|tC<|.str n):=⟨XY⟩
theorem uS{p:Prop}(h:p:=by exact zCS ‹Bl _ _› (by decide)):p:=h
theorem Đ(h:True:=by exact uS):True:=h
abbrev đ:=Đ._auto_1
theorem oh{v:V}(hv:Ÿ x=ž u)(r:zE v u)(hg:autoParam (Gl X x) ď)(hm:autoParam (X.mg x=Ž) đ)(hn:autoParam (x ≠ "__name__") ă)(hd:autoParam ((x==("__debug__":Str))=Ż) ă):Wr (PE X (.Name x pos)<|tC v):=⟨zvI hg hm hv r hn hd⟩
theorem zY{op:Operator}(ho:bL X (ϊ op) rd)(ha:Wr (PE X a ta))(hb:Wr (PE X b tb)):Wr (PE X (.BinOp a op b pos)<|qE rd ta tb):=⟨zCD ho ha.run hb.run⟩
theorem uR{op:UnaryOp}{r:V->Hp->VK->Prop}(ho:Gb X (unaryOp op) r)(ha:Wr (PE X a ta)):Wr (PE X (.UnaryOp op a pos)<|KZ r ta):=⟨zCE ho ha.run⟩
theorem w_not(ha:Wr (PE X a ta)):Wr (PE X (.UnaryOp .Not a pos)<|Hy ta):=⟨XQ ha.run⟩
theorem UX{p:Prop}(h:p:=by first|exact X5 _|rfl):p:=h
theorem Ē(h:True:=by exact UX):True:=h
abbrev ē:=Ē._auto_1
theorem nj(ho:bL X (Ň op) rd)(ha:Wr (PE X a ta))(hb:Wr (PE X b tb))(hm:autoParam (ů op b=Ż) ē):Wr (PE X (.Compare a [op] [b] pos)<|qE rd ta tb):=⟨zvZ ho ha.run hb.run hm⟩
theorem zQ(ho:bL X (Ň op) rd)(ha:Wr (PE X a ta))(hb:Wr (PE X b tb))(hm:autoParam (ů op b=Ż) ē):Wr (PT X (.Compare a [op] [b] pos)<|yV<|qE rd ta tb):=⟨zv0 ho ha.run hb.run hm⟩
theorem ZL{kr:a2T}{Vo:R2}{tc:TE}(ho:bL X (Ň op) rd)(eR:bL X (Ň kr) Vo)(ha:Wr (PE X a ta))(hb:Wr (PE X b tb))(hc:Wr (PE X c tc))(hm:autoParam (a4G [op,kr] [b,c]=Ż) ć):
  Wr (PE X (.Compare a [op,kr] [b,c] pos)<|Ah rd Vo ta tb tc):=⟨zrQ ho eR ha.run hb.run hc.run hm⟩
theorem tG{op}(h:Wr (PE X a te)):Wr (PE X (.BoolOp op [a] pos) te):=⟨XS h.run⟩
theorem n8(ha:Wr (PE X a ta))(hb:Wr (PE X (.BoolOp .And (b::rest) pos) tb)):Wr (PE X (.BoolOp .And (a::b::rest) pos)<|Hz ta tb):=⟨XR ha.run hb.run⟩
theorem ZK(ha:Wr (PT X a tA)):Wr (PW X (.BoolOp .And [a] pos) tA):=⟨zvJ ha.run⟩
theorem nC(ha:Wr (PT X a tA)):Wr (PW X (.BoolOp .Or [a] pos) tA):=⟨XW ha.run⟩
theorem HR(ha:Wr (PT X a tA))(hb:Wr (PW X (.BoolOp .And (b::rest) pos) qF)):Wr (PW X (.BoolOp .And (a::b::rest) pos)<|Gx tA qF):=⟨XU ha.run hb.run⟩
theorem jO(ha:Wr (PT X a tA))(hb:Wr (PW X (.BoolOp .Or (b::rest) pos) qF)):Wr (PW X (.BoolOp .Or (a::b::rest) pos)<|K5 tA qF):=⟨zCA ha.run hb.run⟩
theorem l7(h:Wr (PW X e tA)):Wr (PT X e tA):=⟨h.run.pt⟩
theorem lH(ha:Wr (PT X a tA)):Wr (PT X (.UnaryOp .Not a pos)<|Gw tA):=⟨XT ha.run⟩
theorem jd(h:Wr (PE X e te))(he:autoParam (∀whole,a3b e X.env whole=(do let v <-whole;Χ e.pos;Ϟ [v] (truthy v))) ą):Wr (PT X e<|tB te):=⟨XX h.run he⟩
def UW(K:qc)(ta:TE):TT:=λσ H Q=>ta σ H λx H'=>∃k,Gy K x H' k/\Q k H'
theorem DJ(hc:Wr (PT X c tA))(ha:Wr (PE X a ta))(hb:Wr (PE X b tb)):Wr (PE X (.IfExp c a b pos)<|K6 tA ta tb):=⟨zrD hc.run ha.run hb.run⟩
theorem zf:Wr (PA X [] jZ):=⟨zAa⟩
theorem ae(ha:Wr (PE X e te))(hr:Wr (PA X es t))(hs:autoParam (zV e=ż) ć):Wr (PA X (e::es)<|j0 te t):=⟨zEV ha.run hr.run hs⟩
theorem cm{x1}(h:Wr (PA X es t)):Wr (PE X (.Tuple es x1 pos)<|KC t):=⟨zAc h.run⟩
theorem fF(h:Wr (PA X es t)):Wr (PE X (.List es pos)<|Dt t):=⟨zAd h.run⟩
theorem bN(hc:fV X (.builtin id) r)(hv:Ÿ x=ž (.builtin id))(ha:Wr (PA X (e::es) t))(hg:autoParam (Gl X x) ď)(hm:autoParam (X.mg x=Ž) đ)(hn:autoParam (x ≠ "__name__") ă)(gJ:autoParam ((x==("__debug__":Str))=Ż) ă)
  (he:autoParam (zV e=ż) ć) (dN:autoParam (es.all zV=ż) ć):Wr (PE X (.Call (.Name x p) (e::es) [] pos)<|mF r t):=⟨zCQ hc hg hm hv ha.run hn gJ he dN⟩
theorem l6(hc:fV X (.type T) r)(hv:Ÿ x=ž (.type T))(ha:Wr (PA X (e::es) t))(hg:autoParam (Gl X x) ď)(hm:autoParam (X.mg x=Ž) đ)(hn:autoParam (x ≠ "__name__") ă)(gJ:autoParam ((x==("__debug__":Str))=Ż) ă)
  (he:autoParam (zV e=ż) ć) (dN:autoParam (es.all zV=ż) ć):Wr (PE X (.Call (.Name x p) (e::es) [] pos)<|mF r t):=⟨zCR hc hg hm hv ha.run hn gJ he dN⟩
theorem Ks{p:Prop}(h:p:=by exact aE.mono ‹aE _ _› (by decide)):p:=h
theorem Ĕ(h:True:=by exact Ks):True:=h
abbrev ĕ:=Ĕ._auto_1
theorem zL{k:Nat}{ps:Qa Str}(ha:Wr (PA X (e::es) t))(C:M0 X.prog X.w X.K X.mg X.base x k ps sp:=by assumption)(hr:autoParam (aE k X.A) ĕ)(hg:autoParam (Gl X x) ď)(gJ:autoParam ((x==("__debug__":Str))=Ż) ă)
  (he:autoParam (zV e=ż) ć) (dN:autoParam (es.all zV=ż) ć):Wr (PE X (.Call (.Name x p) (e::es) [] pos)<|Kt sp t):=⟨zAu C hr hg ha.run gJ he dN⟩
theorem zR(hr:yI X rd)(ha:Wr (PE X a ta))(hb:Wr (PE X b tb))(hs:PR b:=by exact λ_ _=>rfl):Wr (PE X (.Subscript a b pos)<|qE rd ta tb):=⟨zCK hr ha.run hb.run hs⟩
theorem PJ:Wr (PO X Ž II):=⟨zv7⟩
theorem PH(h:Wr (PE X e te)):Wr (PO X (ž e)<|HD te):=⟨zv8 h.run⟩
theorem PF{r:V->Qb Int->Qb Int->Hp->VK->Prop}{lo hi:Qb ĺ}{tl th:TO}{p2:Pos}(hr:yH X r)(he:Wr (PE X e te))(hl:Wr (PO X lo tl))(hu:Wr (PO X hi th)):Wr (PE X (.Subscript e (.Slice lo hi Ž p2) pos)<|K0 r te tl th):=⟨zr2 hr he.run hl.run hu.run⟩
theorem vz{ta:TA}(ha:Wr (PA X [a] ta))(hg:autoParam (Gl X "range") ď)(hm:autoParam (X.mg "range"=Ž) đ)(hs:autoParam (zV a=ż) ć):Wr (PI X tg (.Call (.Name "range" p) [a] [] pos)<|Hs ta):=⟨zqC hg hm ha.run<|nF hs⟩
theorem Kr{p:Prop}(h:p:=by first|assumption|exact PK rfl):p:=h
theorem UU{p:Prop}(h:p:=by first|exact Or.inl rfl|exact a4e rfl):p:=h
theorem Ė(h:True:=by exact Kr):True:=h
abbrev ė:=Ė._auto_1
theorem Ę(h:True:=by exact UU):True:=h
abbrev ę:=Ę._auto_1
theorem zr(hN:autoParam X.N.Nodup ė)(hi:autoParam (X.N[i]?=ž x) ć)(hx:autoParam (Loc X.env.scope x) ę)(hf:autoParam (X.fn x=ż\/X.env.scope.names.lookup x=ž .local) ā):Wr (PG X (.Name x pos)<|iO i):=⟨zvQ hN hi hx hf⟩
theorem gu:Wr (uL X [] Dp):=⟨zvS⟩
theorem bI(h1:Wr (PG X e g))(h2:Wr (uL X es gs))(hs:autoParam ((ϟ (e::es) X.env).map (·.2)=χ e X.env::(ϟ es X.env).map (·.2)) ć):Wr (uL X (e::es)<|yY g gs):=⟨zrH h1.run h2.run hs⟩
theorem xI{ti:TE}{j9:wZ}(ho:Wr (PE X o ta))(hi:Wr (PE X e ti))(hs:Dq X j9)
  (hh:autoParam (∀v,χ (.Subscript o e pos) X.env v=(do
   let ov <-Ϟ [v] (Ť o X.env)
   let iv <-Ϟ [v,ov] (Ť e X.env)
   Χ pos
   Ϟ [v,ov,iv] (a2L ov iv v)
   release [v,ov,iv] [])) ą):Wr (PG X (.Subscript o e pos)<|Gu ta ti j9):=⟨XJ ho.run hi.run hs hh⟩
theorem tS:Wr (uT X [] Kv):=⟨zsh⟩
theorem xH(h:Wr (PT X c tA)):Wr (uT X [c] tA):=⟨zsi h.run⟩
structure wQ (X:Cx) (scope:a1z) (iter:ĺ) (js:Qa Nat) (ts:Qa Str) (nt:Nat) (g:TG):Prop where
 f:bC X (l8 X js) (lg X js) js
 wG:closureFor scope X.env=pure (l8 X js)
 S:sM scope (lg X js)
 iq:ts.length=nt
 hc:X.calm=ż
 gw:∀σ:St,GW (c0 nt js σ) g
 hs:∀x,Š iter X.env x=pure x
theorem Kq{p:Prop}(h:p:=by exact⟨by repeat (first|exact bC.nil|refine bC.cons rfl (by first|exact Or.inl rfl|exact a4e rfl) rfl ?_),rfl,⟨rfl,a5I rfl,a5I rfl,a5I rfl,a5I rfl⟩,rfl,rfl,by first|exact ZP (by decide) |exact zCT<|ZM (by repeat (first|exact zsm|refine zqV (by decide) ?_)),λ_=>rfl⟩):p:=h
theorem Ě(h:True:=by exact Kq):True:=h
abbrev ě:=Ě._auto_1
theorem ni{elt:ĺ}(hi:Wr (PI X tg iter wi))(hg:∀{C s H ex},Wr<|PG (zN X scope (l8 X js) (iF tg++lg X js) C s H ex) tg g)(ht:∀{C s H ex},Wr<|uT (zN X scope (l8 X js) (iF tg++lg X js) C s H ex) ifs tt)
  (he:∀{C s H ex},Wr<|PE (zN X scope (l8 X js) (iF tg++lg X js) C s H ex) elt te) (c:autoParam (wQ X scope iter js (iF tg) nt g) ě):
  Wr (PE X (.ListComp elt [⟨tg,iter,ifs,0⟩] scope pos)<|Fi wi nt js g tt te):=⟨ZR (RT c.hc c.S c.f c.iq (λC s H ex=>hg.run) (λC s H ex=>ht.run) (λC s H ex=>he.run) c.gw) c.S c.wG hi.run rfl c.hs rfl⟩
def Ko(K:qc):Qa V->Hp->VK->Prop:=λxs H Q=>∃p ys,xs=[.ref p]/\(bu K H p ys\/cH K H p ys)/\Q (.int ys.length) H
def Jg(K:qc):Qa V->Hp->VK->Prop:=λxs H Q=>∃p ys,xs=[.ref p]/\((bu K H p ys/\∀l,H l=Ž->Q (.ref l) (upd H l<|.tup ys))\/(cH K H p ys/\Q (.ref p) H))
theorem n6(hK:autoParam (X.K=K) ć):fV X (.builtin "isinstance") (Ku K):=hK▸zsj
theorem fU(hK:autoParam (X.K=K) ć):fV X (.builtin "len") (Ko K):=hK▸zkk
theorem t4(hK:autoParam (X.K=K) ć):fV X (.type "tuple") (Jg K):=hK▸zjl
theorem fu(hK:autoParam (X.K=K) ć):yI X (KA K):=hK▸ZV
theorem zO(hK:autoParam (X.K=K) ć):yI X (Kz K):=hK▸zAi
theorem ZJ(hK:autoParam (X.K=K) ć):bL X (Ň .NotIn) (vL K ż):=hK▸zkj
theorem zCX(hK:autoParam (X.K=K) ć):yH X (Ky K):=hK▸ZU
theorem tZ{l:ĺ}{tl:TE}(hl:Wr (PE X l tl))(hK:autoParam (X.K=K) ć):Wr (PI X tg l<|Ht K tl):=hK▸⟨zvV hl.run⟩
theorem tR{l:ĺ}{tl:TE}(hl:Wr (PE X l tl))(hK:autoParam (X.K=K) ć):Wr (PI X tg l<|Gq K tl):=hK▸⟨XE hl.run⟩
theorem gr{k:Nat}(h:Wr (uL X es gs))(hK:autoParam (X.K=K) ć)(hc:autoParam (X.calm=ż) ć)(hn:autoParam ((ϟ es X.env).length=n) ć)(yr:autoParam ((ϟ es X.env).findIdx? (·.1)=Ž) ć):Wr (PG X (.Tuple es k pos)<|Dn K n gs):=hK▸⟨XM hc h.run hn yr⟩
theorem Hh(ha:Wr (PE X a ta))(hK:autoParam (X.K=K) ć)(he:autoParam (∀whole,a3b a X.env whole=(do let v <-whole;Χ a.pos;Ϟ [v] (truthy v))) ą):Wr (PT X a<|UW K ta):=hK▸⟨zrS ha.run he⟩
theorem dA:Wr (fN X [] Hw):=⟨zvL⟩
theorem aC(h1:Wr (PS X st ts))(h2:Wr (fN X K9 us)):Wr (fN X (st::K9)<|Ds ts us):=⟨zrF h1.run h2.run⟩
theorem zB(h1:Wr (PS X st ts)):Wr (fN X [st] ts):=⟨zvM h1.run⟩
theorem mw(he:Wr (PE X e te))(hs:autoParam (Ο e Ž pos.line X.env=pure Ż) ć):Wr (PS X (.Expr e pos)<|Hv te):=⟨zvN he.run hs⟩
theorem zG(he:Wr (PE X e te)):Wr (PS X (.Return (ž e) pos)<|Dr te):=⟨XO he.run⟩
theorem cG{sa sb:Qa Ś}(hc:Wr (PT X c tA))(ha:Wr (fN X sa ts))(hb:Wr (fN X sb us)):Wr (PS X (.If c sa sb pos)<|Gv tA ts us):=⟨zCB hc.run ha.run hb.run⟩
theorem HQ(h:Wr (PS X st ts)):Wr (PS X st<|Hi ts):=⟨ZO h.run⟩
theorem UT{p:Prop}(h:p:=by first|exact PassesOwn.never|exact PassesOwn.leaving):p:=h
theorem Ĝ(h:True:=by exact UT):True:=h
abbrev ĝ:=Ĝ._auto_1
theorem PD(hc:Wr (PT X c tA))(hb:Wr (fN X body ts))(hp:autoParam (a4J (Ĭ X.prog X.w) X.A X.env X.xe) ĝ):Wr (PS X (.While c body [] pos)<|Iw tA ts):=⟨zrJ hp hc.run hb.run⟩
theorem ft(hi:Wr (PI X tg iter wi))(hg:Wr (PG X tg g))(hb:Wr (fN X body ts))(hp:autoParam (a4J (Ĭ X.prog X.w) X.A X.env X.xe) ĝ)(hc:autoParam (X.calm=ż) ć)(hs:autoParam (∀x,Š iter X.env x=pure x) ą):
  Wr (PS X (.For tg iter body [] pos)<|Gp wi g ts):=⟨X8 hp hc hi.run hg.run hb.run hs⟩
theorem zU(he:Wr (PE X e te))(hN:autoParam X.N.Nodup ė)(hi:autoParam (X.N[i]?=ž x) ć)(hx:autoParam (Loc X.env.scope x) ę)(hs:autoParam (Ο e (ž<|.Name x pos') pos.line X.env=pure Ż) ć)(hf:autoParam (X.fn x=ż\/X.env.scope.names.lookup x=ž .local) ā):
  Wr (PS X (.Assign [.Name x pos'] e pos)<|pN te<|iO i):=⟨XH hN hi hx he.run hs hf⟩
theorem nZ(he:Wr (PE X e te))(hg:Wr (PG X tg g))(hs:autoParam (a2g [tg] e pos.line X.env=pure Ż) ć)(hw:autoParam (a2h [tg] e X.env=pure Ž) ć)(h1:autoParam ((ϟ [tg] X.env).map (·.2)=[χ tg X.env]) ć):
  Wr (PS X (.Assign [tg] e pos)<|pN te g):=⟨XI he.run hg.run hs hw h1⟩
theorem NP{y:Str}{ta:TA}{px py pt:Pos}{kt k2 vM}(ha:Wr (PA X [a,b] ta))(hc:autoParam (X.calm=ż) ć)(hN:autoParam X.N.Nodup ė)(hi:autoParam (X.N[i]?=ž x) ć)(hj:autoParam (X.N[j]?=ž y) ć)(qR:autoParam (i≠j) ă)
  (hx:autoParam (X.env.scope.names.lookup x=ž .local) ć) (hy:autoParam (X.env.scope.names.lookup y=ž .local) ć)
  (hw:autoParam (a2h [.Tuple [.Name x px,.Name y py] kt pt] (.Tuple [a,b] k2 vM) X.env=pure (ž [x,y])) ć)
  (hs:autoParam (a2g [.Tuple [.Name x px,.Name y py] kt pt] (.Tuple [a,b] k2 vM) pos.line X.env=pure Ż) ć):
  Wr (PS X (.Assign [.Tuple [.Name x px,.Name y py] kt pt] (.Tuple [a,b] k2 vM) pos)<|Gs i j ta):=⟨XG hc hN hi hj qR hx hy ha.run hw hs⟩
end
theorem kU.Vt{base:Ļ}{f:Qg}{ps:Qa Str}{k:Nat}(F:kU K x qual st f fd)(S:bE N ps (zT st))(len:∀vs H Q E,sp vs H Q E->vs.length=ps.length)
  (bZ:∀(bq:Qc) (A:Qf) (outer:Qa Env) (s:Qd) (H:Hp) (vs:Qa V) (Q:VK) (E:XK),aE k (A.deeper<|a0X qual (zT st) s.heap.objs.size f bq)->sp vs H Q E->
   ∃t,Wr (fN (pM jK P w K mg base N qual (zT st) f bq A outer s H E).uc (j6 st) t)/\t {nx:=λ_ H'=>Q .aM H',rt:=Q} (iA N vs) H):cD P w K mg base jK (k+1) f fd ps sp :=
 F.ok S len λbq A outer s H vs Q E hr h=>let ⟨t,w,q⟩:=bZ bq A outer s H vs Q E hr h;⟨t,w.run,q⟩
mutual
inductive DV (K:qc) (H:Hp):V->Β->Prop
 |aM:DV K H .aM .none
 |bl (b:Bool):DV K H (.bl b) (.bool b)
 |int (i:Int):DV K H (.int i) (.int i)
 |str (x:Str):DV K H (.str x) (.str x)
 |lst {a:Qg} {xs:Qa V} {ds:Qa Β} (h:bu K H a xs) (t:nM K H xs ds):DV K H (.ref a) (.list ds)
 |tup {a:Qg} {xs:Qa V} {ds:Qa Β} (h:cH K H a xs) (t:nM K H xs ds):DV K H (.ref a) (.tuple ds)
inductive nM (K:qc) (H:Hp):Qa V->Qa Β->Prop
 |nil:nM K H [] []
 |cons {v:V} {d:Β} {vs:Qa V} {ds:Qa Β} (h:DV K H v d) (t:nM K H vs ds):nM K H (v::vs) (d::ds)
end
section
variable{X:Cx}{s:Qd}
theorem nM.reads(I:Inv X pins σ H s){v:Qa V}{d:Qa Β}{u:Qa Qc}(h:nM X.K H v d)(r:zJ v u):∃as,ReadsAll s.heap u d as:=by
 refine nM.rec (motive_1:=λv d _=>∀{u:Qc},zE v u->∃as,Reads s.heap u d as) (motive_2:=λv d _=>∀{u:Qa Qc},zJ v u->∃as,ReadsAll s.heap u d as) (λ{u} r=>?_) (λb {u} r=>?_) (λi {u} r=>?_) (λx {u} r=>?_) (λ{a xs ds} h _ t {u} r=>?_) (λ{a xs ds} h _ t {u} r=>?_) (λ{u} r=>?_) (λ{v d vs ds} _ _ a b {u} r=>?_) h r
 .cases r;exact⟨_,.none⟩
 .cases r;exact⟨_,.bool b⟩
 .have(t,rfl):=r;exact⟨_,.int i t⟩
 .have(t,rfl):=r;exact⟨_,.str x t⟩
 .cases r
  obtain⟨ah,rv,⟨o,n,e1,e2,e3,e4⟩,hz⟩:=I.list h;have(as,q):=t rv;exact⟨_,.list e1 e2 e4 q⟩
 .cases r
  obtain⟨ah,rv,⟨o,e1,e2,n,e4⟩,hz⟩:=I.tuple h;have(as,q):=t rv;exact⟨_,.tuple e1 e2 e4 q⟩
 .cases r;exact⟨_,.nil⟩
 .cases r with
  |cons r1 r2=>
   have(a1,q1):=a r1;have(a2,q2):=b r2;exact⟨_,.cons q1 q2⟩
theorem DV.reads(I:Inv X pins σ H s){v:V}{d:Β}(h:DV X.K H v d)(r:zE v u):∃as,Reads s.heap u d as:=by
 have(_,q):=nM.reads I (.cons h .nil) (.cons r .nil);cases q;exact⟨_,‹_›⟩
end
section
variable{X:Cx}{pos:Pos}{a b c:ĺ}{es rest:Qa ĺ}{t:TA}{rd:R2}{id:String}{tA qF:TT}{K9 body:Qa Ś}{ts us:TS}{gs:jW}
structure wR (X:Cx) (i:Nat) (y:Str) (py:Pos) (e:ĺ) (h9:Pos):Prop where
 hN:X.N.Nodup
 hi:X.N[i]?=ž y
 hy:Loc X.env.scope y
 sw:Ο e (ž<|.Name y py) h9.line X.env=pure ż
 hf:X.fn y=ż\/X.env.scope.names.lookup y=ž .local
theorem Pz{y:Str}{py h9 ip:Pos}{mk:Sem Qc}{gc:a2n}{gs:Qa a2n}{xs:Qa Str}{tC:It->St->Hp->(V->Hp->Prop)->Prop}(hB:CB X scope cl e tg mk tC)(S:sM scope xs)(pe:closureFor scope X.env=pure cl)(hi:PI X tg gc.iter wi)
  (B5:clausesOf e=gc::gs) (hs:∀x,Š gc.iter X.env x=pure x) (c:wR X i y py e h9) (Mm:∀k,evalThenUse e X.env k=do let _ <-comprehension e scope X.env ip mk Ż (Ť gc.iter X.env) (ž k)):
  PS X (.Assign [.Name y py] e h9) (pN (λσ H Q=>wi σ H λJ H1=>tC J σ H1 Q)<|iO i):=by
 intro pins s σ H D I h;rw[exec_Assign_Name_used _ _ _ _ c.sw];refine qa<|Ź<|qa ?_;rw[Mm];refine qa<|ļ (a4l (use:=ž (χ (.Name y py) X.env)) (Q:=λ_ s'=>SP X pins D .next s') B5 hs pe S.kind S.names
  (az (hi pins s σ H _ I h) λv s1 h1=>az h1 λFF s2 h2=>?_)) (λ_ s' hq=>qb<|qb hq) λ_ _ e=>e
 have(it,fp,tn,J,H2,rfl,I2,T,qG,f2,q):=h2;refine hB pins s2 σ H2 J it fp tn _ (λacc C=>compPost (Ĭ X.prog X.w) X.A X.xe (ž<|χ (.Name y py) X.env) (λ_ s'=>SP X pins D .next s') acc C) X.xe I2 T qG f2 q λD' C m s' H' z I' hn Ce hC=>?_;have(FW,yA,yB):=I2.above hC;show ĩ _ _ (χ (.Name y py) X.env<|.ref D') _ _ _;refine wpAny_assign_Name<|RG (v:=.ref D') I' c.hN c.hi c.hy rfl (λFk I'' hZ=>?_) c.hf;have(a,sb,ha):=hZ;have ne:C≠a:=by
  rcases ha with rfl|ha
  .exact FW
  .exact(yB.1 _ _ ha).symm
 exact⟨m,hn.sameBut sb ne,λh' qP=>⟨_,_,I''.turned (it:=C) (λb o hb e=>qP.extBut b o hb e) Ce FW (.inr yA) yB.1 yB.2,z⟩⟩
theorem US{p:Prop}(h:p:=by exact⟨by first|assumption|exact PK rfl,rfl,by first|exact Or.inl rfl|exact a4e rfl,rfl,by first|exact .inl rfl|exact .inr rfl|assumption⟩):p:=h
theorem Ğ(h:True:=by exact US):True:=h
abbrev ğ:=Ğ._auto_1
theorem NO{y:Str}{py h9:Pos}{elt:ĺ}(hi:Wr (PI X tg iter wi))(hg:∀{C s H ex},Wr<|PG (zN X scope (l8 X js) (iF tg++lg X js) C s H ex) tg g)(ht:∀{C s H ex},Wr<|uT (zN X scope (l8 X js) (iF tg++lg X js) C s H ex) ifs tt)
  (he:∀{C s H ex},Wr<|PE (zN X scope (l8 X js) (iF tg++lg X js) C s H ex) elt te) (c:autoParam (wQ X scope iter js (iF tg) nt g) ě) (d:autoParam (wR X i y py (.ListComp elt [⟨tg,iter,ifs,0⟩] scope pos) h9) ğ):
  Wr (PS X (.Assign [.Name y py] (.ListComp elt [⟨tg,iter,ifs,0⟩] scope pos) h9)<|pN (Fi wi nt js g tt te)<|iO i):=⟨Pz (RT c.hc c.S c.f c.iq (λC s H ex=>hg.run) (λC s H ex=>ht.run) (λC s H ex=>he.run) c.gw) c.S c.wG hi.run rfl c.hs d λ_=>rfl⟩
theorem sW{name:Str}{r:V->Qa V->Hp->VK->Prop}(K:qc)(hK:X.K=K)(pa:a2u T)(slot:Slot T name id)(sA:typeOf (.builtin id)=pure (.type "method_descriptor"))(hm:sP X id r)(ho:Wr (PE X o te))(ha:Wr (PA X (e::es) t))
  (b6:autoParam (Ű o name X.env (Ť o X.env)=Ť o X.env) ć)
  (pd:autoParam (((Ω aL<|ŏ (e::es) X.env).all (λx=>!x.1) && (a3J aL<|a1O [] X.env).all (λx=>x.1.isSome)
   && decide ((e::es).length+([]:Qa a1w).length+(if([]:Qa a1w).isEmpty then 0 else 1) < 30))=ż) ć)
  (bY:autoParam ((apos.endLine==aL.line)=ż) ć) (hs:autoParam (zV e=ż) ć) (dN:autoParam (es.all zV=ż) ć):
  Wr (PE X (.Call (.Attribute o name apos) (e::es) [] aL)<|K8 K T r te t):=hK▸⟨zCL pa slot sA hm ho.run ha.run b6 pd bY (nF hs)<|rO dN⟩
theorem Hg{name:Str}{r:V->Qa V->Hp->VK->Prop}(K:qc)(hK:X.K=K)(pa:a2u T)(slot:Slot T name id)(sA:typeOf (.builtin id)=pure (.type "method_descriptor"))(hm:sP X id r)(ho:Wr (PE X o te))
  (b6:autoParam (Ű o name X.env (Ť o X.env)=Ť o X.env) ć) (bY:autoParam ((apos.endLine==aL.line)=ż) ć):
  Wr (PE X (.Call (.Attribute o name apos) [] [] aL)<|Kx K T r te):=hK▸⟨zAm pa slot sA hm ho.run b6 bY⟩
theorem j5{v:V}(hg:Gl X x)(hm:X.mg x=ž u)(r:zE v u)(hd:autoParam ((x==("__debug__":Str))=Ż) ă):Wr (PE X (.Name x pos)<|tC v):=⟨zvH hg hm r hd⟩
noncomputable def zEW(x:Str)(n:Int):Str:=if n < 1 then a3v else if(n==1 || x.length==0)=ż then x else⟨(Ĩ n.toNat x.cps).foldl (·++·) #[]⟩
end
structure Kp (H H':Hp):Prop where
 tup:∀b xs,H b=ž (.tup xs)->H' b=ž (.tup xs)
 be:∀b o u,H b=ž (.be o u)->H' b=ž (.be o u)
 own:∀b x,H b=ž (.own x)->H' b=ž (.own x)
theorem Kp.refl(H:Hp):Kp H H:=⟨λ_ _ h=>h,λ_ _ _ h=>h,λ_ _ h=>h⟩
theorem Kp.trans{H2:Hp}(a:Kp H H1)(b:Kp H1 H2):Kp H H2:=⟨λx y h=>b.tup x y<|a.tup x y h,λx y z h=>b.be x y z<|a.be x y z h,λx y h=>b.own x y<|a.own x y h⟩
theorem dJ.kp(s:dJ H H'):Kp H H':=⟨λ_ _ h=>s _ _ h,λ_ _ _ h=>s _ _ h,λ_ _ h=>s _ _ h⟩
theorem Kp.Lh{xs:Qa V}(e:Kp H H')(h:cH K H a xs):cH K H' a xs:=by
 rcases h with (h|⟨o,h⟩) |h
 .exact .inl (.inl<|e.tup _ _ h)
 .exact .inl (.inr ⟨o,e.be _ _ _ h⟩)
 .exact .inr h
mutual
inductive DT (K:qc) (H:Hp):V->Β->Prop
 |aM:DT K H .aM .none
 |bl (b:Bool):DT K H (.bl b) (.bool b)
 |int (i:Int):DT K H (.int i) (.int i)
 |str (x:Str):DT K H (.str x) (.str x)
 |tup {a:Qg} {xs:Qa V} {ds:Qa Β} (h:cH K H a xs) (t:m9 K H xs ds):DT K H (.ref a) (.tuple ds)
inductive m9 (K:qc) (H:Hp):Qa V->Qa Β->Prop
 |nil:m9 K H [] []
 |cons {v:V} {d:Β} {vs:Qa V} {ds:Qa Β} (h:DT K H v d) (t:m9 K H vs ds):m9 K H (v::vs) (d::ds)
end
mutual
theorem DT.kp(e:Kp H H'):∀{v:V} {d:Β},DT K H v d->DT K H' v d
 |_,_,.aM=>.aM
 |_,_,.bl b=>.bl b
 |_,_,.int i=>.int i
 |_,_,.str x=>.str x
 |_,_,.tup h t=>.tup (e.Lh h)<|m9.kp e t
theorem m9.kp(e:Kp H H'):∀{v:Qa V} {d:Qa Β},m9 K H v d->m9 K H' v d
 |_,_,.nil=>.nil
 |_,_,.cons h t=>.cons (DT.kp e h)<|m9.kp e t
end
mutual
theorem DT.dv:∀{v:V} {d:Β},DT K H v d->DV K H v d
 |_,_,.aM=>.aM
 |_,_,.bl b=>.bl b
 |_,_,.int i=>.int i
 |_,_,.str x=>.str x
 |_,_,.tup h t=>.tup h<|m9.dv t
theorem m9.dv:∀{v:Qa V} {d:Qa Β},m9 K H v d->nM K H v d
 |_,_,.nil=>.nil
 |_,_,.cons h t=>.cons (DT.dv h)<|m9.dv t
end
noncomputable def MV(hi:Int)(n:Nat):It:=⟨λi _=>i < n,λi H x H'=>H'=H/\x=.int (hi - i),λi _=>n<=i⟩
theorem zqW(it:Qg)(hi:Int)(n:Nat):Turn P w K tg (MV hi n) [it] it (λi h=>a3o h it (hi+(i:Nat) * (-1)) ((n:Int) - (i:Nat)) (-1)) where
 mem:=by simp
 obj:=λi h st b hb=>by
  have e:b=it:=by simpa using hb
  subst e;exact⟨_,st,λv z=>by
   have z':a1p _=a0P v:=z;cases z'⟩
 keep:=λi h h' st k=>k it (by simp) _ st
 item:=by
  intro X hP hw hK hc i pins s σ H E I hf st hg;subst hP hw hK;have(f0,f1,f2,f3,f4,f5):=hf it (by simp);have W:=Walks.range (prog:=X.prog) (w:=X.w) (I.ok.hd hc) it hi (-1) n;refine W.item i s _ _ hg st λv h' tk hv h8 kk=>?_;have(t,rfl):=hv;have I1:Inv X pins σ H {s with heap:=h',toks:=tk}:=I.turned (λb o hb e=>kk b o (by simpa using hb) e) f0 f1 f3 f4 f5;refine⟨_,rfl,yX (s:={s with heap:=h',toks:=tk}) (n := "range_iterator") h8 rfl rfl (by decide) ⟨.int<|hi - i,H,I1,⟨t,?_⟩,⟨rfl,rfl⟩,h8,λb hb=>(hf b hb).1⟩⟩;rw[a0C,Int.mul_one];rfl
 done:=by
  intro X hP hw hK hc i pins s σ H E I hf st hg;subst hP hw hK;have(f0,f1,f2,f3,f4,f5):=hf it (by simp);exact a4L (I.ok.hd hc) st (by have:n<=i:=hg;omega) λh' eb=>⟨rfl,I.turned (t':=s.toks) (λb o hb e=>eb b o hb e) f0 f1 f3 f4 f5⟩
 self:=λ_ _ _ _ _ st h=>a4M st h
theorem Tv(a b:Int):Ϧ a b (-1)=if b < a then a - b else 0:=by
 unfold Ϧ;rw[a5F (by decide)];have e:(-(-1:Int))=1:=by decide
 rw[e,Int.ediv_one];split<;>omega
theorem znw{a b:Int}(ha:-(2^62)<=a)(ha':a < 2^62)(hb:-(2^62)<=b)(eS:b < 2^62):a2G a b (-1)=ż:=by
 unfold a2G;rw[Tv];simp only[Builtin.Range.rangeFitsLong,Ŕ,Bool.or_eq_true,decide_eq_true_eq,beq_iff_eq,show ¬((-1:Int) > 0) by decide,if_false];split<;>omega
section
variable{X:Cx}
theorem ZI{s:Qd}{R:It->Hp->Prop}{lo hi:Int}{t u v:Tok}{tk:Nat}(I:Inv X pins σ H s)(h1:-(2^62)<=lo)(h2:lo < 2^62)(h3:-(2^62)<=hi)(h4:hi < 2^62)
  (q:R (MV hi (hi - lo).toNat) H):ĩ (Ĭ X.prog X.w) X.A (a0m<|.ref s.heap.objs.size) (CF X pins σ tg R) E {s with heap:=s.heap.push {cls:=.type "range",data:=.fields #[.int hi t,.int lo u,.int (-1) v]},toks:=tk}:=by
 refine wpAny_pyIter_range (IsRange.new ..) (znw h3 h4 h1 h2) ?_;have I1:Inv X pins σ H {s with heap:=s.heap.push {cls:=.type "range",data:=.fields #[.int hi t,.int lo u,.int (-1) v]},toks:=tk}:=I.kept λb o e=>qd _ e;refine⟨(s.heap.push {cls:=.type "range",data:=.fields #[.int hi t,.int lo u,.int (-1) v]}).objs.size,[(s.heap.push {cls:=.type "range",data:=.fields #[.int hi t,.int lo u,.int (-1) v]}).objs.size],_,_,H,rfl,
  I1.kept (t':=tk) λb o e=>qd _ e,zqW _ hi (hi - lo).toNat,?_,λb hb=>?_,q⟩
 .have e1:hi+((0:Nat):Int) * (-1)=hi:=by simp
  have e2:(((hi - lo).toNat:Nat):Int) - ((0:Nat):Int)=Ϧ hi lo (-1):=by rw[Tv];split<;>omega
  show a3o _ _ (hi+((0:Nat):Int) * (-1)) ((((hi - lo).toNat:Nat):Int) - ((0:Nat):Int)) (-1);rw[e1,e2];exact qh _ rfl
 .have e:b=(s.heap.push {cls:=.type "range",data:=.fields #[.int hi t,.int lo u,.int (-1) v]}).objs.size:=by simpa using hb
  subst e;exact I1.eY (qf _)<|I1.aw.fresh<|qf _
def NN(ta:TA):TI:=λσ H R=>ta σ H λvs H1=>∃i j:Int,vs=[.int i,.int j,.int (-1)]/\(-(2^62)<=i/\i < 2^62/\-(2^62)<=j/\j < 2^62)/\R (MV i (i - j).toNat) H1
theorem zAz{a b c:ĺ}{ta:TA}{pos:Pos}(ha:Wr (PA X [a,b,c] ta))(hg:autoParam (Gl X "range") ď)(hm:autoParam (X.mg "range"=Ž) đ)(h1:autoParam (zV a=ż) ć)(h2:autoParam (zV b=ż) ć)(h3:autoParam (zV c=ż) ć):
  Wr (PI X tg (.Call (.Name "range" p) [a,b,c] [] pos)<|NN ta):=by
 refine⟨?_⟩;intro pins s σ H R I h;refine Call_<|vi I hg hm boot_range<|Þ (az (ha.run pos pins s σ H _ I h) λus s1 hZ=>?_) (nF h1)<|rO (by rw[Ϝ,Ϝ,h2,h3];rfl);have(vs,H1,I1,r1,q1):=hZ;obtain⟨i,j,e,⟨q1,q2,q3,q4⟩,q⟩:=q1;subst e;cases r1 with
 |cons r rr=>
  cases rr with
  |cons r' rr'=>
   cases rr' with
   |cons r2 rr2=>
    cases rr2;have(t,rfl):=r;have(t',rfl):=r';have(t2,rfl):=r2;exact call_range_3 (by decide) (ZI I1 q3 q4 q1 q2 q)<|.inl<|a0q (by decide +kernel)
end
section
variable{X:Cx}
theorem zJ.at{xs:Qa V}(h:zJ xs us)(e:us[i]?=ž u):∃x,xs[i]?=ž x/\zE x u:=by
 induction h generalizing i with
 |nil=>simp at e
 |cons r _ ih=>cases i with
  |zero=>cases(show ž _=ž _ from e);exact⟨_,rfl,r⟩
  |succ i=>exact ih e
theorem Ra{s:Qd}{p:Qg}{xs:Qa V}(I:Inv X pins σ H s)(hh:A.handled=Ž)(hq:bu X.K H p xs\/cH X.K H p xs)
  (h:∀(it:Qg) (fp wr:Qa Qg) (n:Nat) (P:Nat->Qc->Prop) (St:Nat->Ļ->Prop) (s2:Qd),Walks X.prog X.w A it fp wr n P St->St 0 s2.heap->(∀b∈fp,b < s2.heap.objs.size)->n=xs.length->(∀i v,P i v->∃x,xs[i]?=ž x/\zE x v)->
   (∀h' tk,(∀b o,b∉wr->s2.heap.get? b=ž o->h'.get? b=ž o)->Inv X pins σ H {s2 with heap:=h',toks:=tk})->Q (.ref it) s2):
  ĩ (Ĭ X.prog X.w) A (a0m<|.ref p) Q E s:=by
 rcases hq with hq|hq
 .have(ah,r,pl,hz):=I.list hq
  have hp:p < s.heap.objs.size:=by
   have(o,n,e,_):=pl;exact qi e
  have ne:p≠s.heap.objs.size:=qk hp;refine a2J pl.isList<|h s.heap.objs.size [s.heap.objs.size,p] [s.heap.objs.size] ah.toArray.size _ _ _ (Walks.list hh _ p ne ah.toArray) ⟨⟨_,qh _ rfl,rfl,rfl⟩,?_⟩ (λb hb=>?_) (by rw[ī];exact r.length.symm) (λi v e=>zJ.at r (by simpa using e)) λh' tk hk=>?_
  .have(o,n,e,c,d,f):=pl
   exact⟨o,qd _ e,c,n,f⟩
  .rw[ŝ]
   rcases qw.mp hb with z|z
   .rw[z];exact à _
   .rw[qr.mp z];exact Ú hp
  .exact I.kept λb u e=>hk b u (λz=>absurd (qi e) (by rw[qr.mp z];exact Ò _))<|qd _ e
 .have(ah,r,pl,hz):=I.tuple hq
  have hp:p < s.heap.objs.size:=by
   have(o,e,_):=pl;exact qi e
  have ne:p≠s.heap.objs.size:=qk hp;refine ſ (show s.heap.IsTuple p ah.toArray from pl)<|h s.heap.objs.size [s.heap.objs.size,p] [s.heap.objs.size] ah.toArray.size _ _ _ (Walks.tuple hh _ p ne ah.toArray) ⟨⟨_,qh _ rfl,rfl,rfl⟩,?_⟩ (λb hb=>?_) (by rw[ī];exact r.length.symm) (λi v e=>zJ.at r (by simpa using e)) λh' tk hk=>?_
  .have(o,e,c,n,f):=pl
   exact⟨o,qd _ e,c,n,f⟩
  .rw[ŝ]
   rcases qw.mp hb with z|z
   .rw[z];exact à _
   .rw[qr.mp z];exact Ú hp
  .exact I.kept λb u e=>hk b u (λz=>absurd (qi e) (by rw[qr.mp z];exact Ò _))<|qd _ e
theorem zqX(bs:Qa Bool):(Ń bs.length).all (λi=>bs.getD i Ż)=bs.all id:=by
 rw[ο,a0O,a0O];constructor
 .intro h b hb
  have(i,hi,e):=a1B hb;have:=h i (Ø.mpr hi);rw[qC,qo hi,e]at this;exact this
 .intro h i hi
  have fK:=Ø.mp hi;rw[qC,qo fK];exact h _<|õ fK
def U8(K:qc):Qa V->Hp->VK->Prop:=λxs H Q=>∃(p:Qg) (bs:Qa Bool),xs=[.ref p]/\(bu K H p (bs.map V.bl)\/cH K H p (bs.map V.bl))/\Q (.bl<|bs.all id) H
theorem NM(K:qc)(hK:X.K=K)(hc:X.calm=ż):fV X (.builtin "all") (U8 K):=by
 subst hK;intro pins s σ H xs us Q I r h;have(p,bs,rfl,hq,q):=h;have(u,rfl,ru):=nv r;cases ru;refine call_all_walk<|Ra I (I.ok.hd hc) hq λit fp wr n P St s2 W st V6 hn hP hI=>⟨it,fp,wr,n,P,St,λi=>bs.getD i Ż,rfl,W,st,?_,λh' tk hk=>?_⟩
 .intro i v s' Q' E' hv hQ'
  have(x,ex,rx):=hP i v hv;rw[ĭ]at ex;cases eb:bs[i]? with
  |none=>rw[eb]at ex;cases ex
  |some b=>
   rw[eb]at ex;cases ex;cases rx;have ew:bs.getD i Ż=b:=by rw[qC,eb];rfl
   have Wa:Q' (bs.getD i Ż) s':=hQ';rw[ew]at Wa;exact Ř Wa
 .rw[hn,Ħ,zqX]
  exact⟨.bl _,H,hI h' tk hk,rfl,q⟩
theorem znx(ns:Qa Int):preSum (λi=>ns.getD i 0) ns.length=ns.sum:=by
 have key:∀k,k<=ns.length->preSum (λi=>ns.getD i 0) k=(ns.take k).sum:=by
  intro k
  induction k with
  |zero=>intro _;rfl
  |succ k ih=>
   intro hk;have dq:k < ns.length:=hk;show preSum (λi=>ns.getD i 0) k+ns.getD k 0=_;rw[ih (by omega),Η,qo dq,a2B,qC,qo dq];simp
 rw[key ns.length<|qf _,ő<|qf _]
def U7(K:qc):Qa V->Hp->VK->Prop:=λxs H Q=>∃(p:Qg) (ns:Qa Int),xs=[.ref p]/\(bu K H p (ns.map V.int)\/cH K H p (ns.map V.int))/\Q (.int ns.sum) H
theorem zC2(K:qc)(hK:X.K=K)(hc:X.calm=ż):fV X (.builtin "sum") (U7 K):=by
 subst hK;intro pins s σ H xs us Q I r h;have(p,ns,rfl,hq,q):=h;have(u,rfl,ru):=nv r;cases ru;refine call_sum_walkG<|Ra I (I.ok.hd hc) hq λit fp wr n P St s2 W st V6 hn hP hI=>⟨it,fp,wr,n,P,St,λi=>ns.getD i 0,rfl,W,st,V6,?_,λh' tk t' hk=>?_⟩
 .intro i v hv
  have(x,ex,rx):=hP i v hv;rw[ĭ]at ex;cases eb:ns[i]? with
  |none=>rw[eb]at ex;cases ex
  |some b=>
   rw[eb]at ex;cases ex;have(t,rfl):=rx;have ew:ns.getD i 0=b:=by rw[qC,eb];rfl
   refine⟨t,?_⟩;show a0G b t=a0G (ns.getD i 0) t;rw[ew]
 .rw[hn,Ħ,znx]
  exact⟨.int _,H,hI h' tk hk,⟨t',rfl⟩,q⟩
end
section
variable{s:Qd}
theorem Jf{B:Qf}{Q:α->Qd->Prop}(hh:B.handled=Ž)
  (q:∀h' e,(∀b o,s.heap.get? b=ž o->h'.get? b=ž o)->(∃o,h'.get? e=ž o/\o.cls=.type "StopIteration")->E (.ref e) {s with heap:=h'}):ĩ (Ĭ prog w) B (newExc (.type "StopIteration") [] >>= raiseNew) Q E s:=by
 refine qa ?_;simp only[newExc,newTuple];refine qa<|qB ?_ (by show(0:Nat)<=ħ;exact Ç _);refine qa (m:=firstArgMember _ _)<|wpAny_of_eq (a:=ł) (by first|rfl | (simp only[firstArgMember];rfl)) ?_;refine qB ?_ (by first|trivial|size_fits);simp only[raiseNew];refine qa<|wpAny_handled ?_;rw[hh];exact qa<|qb<|wpAny_throw<|q _ _ (λb o e=>qd _<|qd _ e) ⟨_,qh _ rfl,rfl⟩
theorem NX{t:Qg}{items:Array Qc}(hi:s.heap.IsTupleIter it t i)(ht:s.heap.IsTuple t items)(hh:items[i]?=Ž->A.handled=Ž)
  (q:∀x h',items[i]?=ž x->h'.IsTupleIter it t (i+1)->ύ it s.heap h'->Q x {s with heap:=h'})
  (qe:items[i]?=Ž->∀h' e,a1n it s.heap h'->(∃o,h'.get? e=ž o/\o.cls=.type "StopIteration")->E (.ref e) {s with heap:=h'}):ĩ (Ĭ prog w) A (ϒ<|.ref it) Q E s:=by
 have(oi,e1,e2,e3):=id hi;have(ot,f1,f2,nt,f3):=ht;unfold ϒ;refine qa (ϗ (name:=a0Z "__next__") hi.typeIs slot_tupleiter_next
  (Ŏ slot_tupleiter_next hi.typeIs entry_tupleiter_next ?_<|args_tupleiter_next _))
 show ĩ _ _ (field (.ref it) 0 >>= _) _ _ s;refine qa<|Ş e1 e3 (x:=.ref t) rfl ?_;show ĩ _ _ (if(Į t==ł)=ż then _ else _) _ _ s;rw[a5F (show ¬((Į t==ł)=ż) from qg)];show ĩ _ _ (field (.ref it) 1 >>= _) _ _ s;refine qa<|Ş e1 e3 (x:=.int i 0) rfl ?_;show ĩ _ _ (seqItems? (.ref t) >>= _) _ _ s;refine qa<|ϭ f1 f3 ?_;cases hx:items[i]? with
 |some x=>
  simp only[Ŀ,hx];refine qa<|Φ e1 e3 (by simp)<|qb ⟨x,rfl,qb<|q x _ hx ?_<|Ï ..⟩;refine⟨_,Ð _ e1<|a1l<|Δ e3 _,(a5k ..).trans e2,?_⟩;rw[Δ e3];simp[ϰ]
 |none=>
  simp only[Ŀ,hx];exact qa<|ϝ<|qa<|Φ e1 e3 (by simp)<|Jf (hh hx) λh' e k he=>qe hx h' e (λb o hb z=>k b o<|((Ï ..).2 b hb).trans z) he
end
theorem zlG(hh:A.handled=Ž)(it t:Qg)(ne:t≠it)(items:Array Qc):
  Draws prog w A it [it,t] items.size (λi v=>items[i]?=ž v) (λi h=>h.IsTupleIter it t i/\h.IsTuple t items) where
 live:=λ_ _ st=>let ⟨o,ho,_⟩:=st.1;⟨o,ho⟩
 frame:=λ_ _ _ st hk=>by
  obtain⟨⟨o,a1,a2,a3⟩,⟨o2,b1,b2⟩⟩:=st;exact⟨⟨o,hk it (by simp) o a1,a2,a3⟩,⟨o2,hk t (by simp) o2 b1,b2⟩⟩
 item:=λi s Q E hi st q=>by
  refine NX st.1 st.2 (λ_=>hh) (λx h' hx Mh qP=>?_) λz=>absurd hi (by simpa using z);exact q _ h' s.toks hx ⟨Mh,st.2.extBut qP.extBut ne⟩ qP
 done:=λs Q E st q=>NX st.1 st.2 (λ_=>hh) (λx _ z=>by simp at z) λ_=>q
theorem zqY(t:Qg)(items:Array Qc)(n:Nat)(kM:Qb Qg)(sl:Array (Qb Qc)):
  Meets (Builtin.«enumerate.__new__» ⟨[.type "enumerate",.ref t],[]⟩) (λ_ R s=>s.heap.get? t=ž {cls:=.type "tuple",dict:=kM,data:=.seq items n,slots:=sl}/\
   R (.ok<|.ret<|.ref (s.heap.push {cls:=.type "tuple_iterator",data:=.fields #[.ref t,.int 0 0]}).objs.size)
    {s with heap:=(s.heap.push {cls:=.type "tuple_iterator",data:=.fields #[.ref t,.int 0 0]}).push {cls:=.type "enumerate",data:=.fields #[.none,.bool Ż,.ref s.heap.objs.size,ϰ 0,.none,.none]}}):=
 .of_wp λprog w A R s h=>by
  have(hp,g,d,tk,os):=s;have(hl,h):=h;have L7:=sub_enumerate;have hT:Heap.IsTuple (Shared.heap ⟨hp,g,d,tk,os⟩) t items:=⟨_,hl,rfl,n,rfl⟩
  wp_walk using Ŗ hl
  refine wpAny_stack_any λst=>qb ?_;split
  .rename_i c _ _ _ _ _
   cases(c==ϣ "enumerate")
   .wp_walk using Ŗ hl,ſ hT
    exact⟨_,rfl,h⟩
   .wp_walk using Ŗ hl,ſ hT
    exact⟨_,rfl,h⟩
  .wp_walk using Ŗ hl,ſ hT
   exact⟨_,rfl,h⟩
section
variable{s:Qd}
theorem zny{t:Qg}{items:Array Qc}(hT:s.heap.IsTuple t items)
  (h:∀h',IsEnum h' (s.heap.objs.size+1) s.heap.objs.size 0 .none->h'.IsTupleIter s.heap.objs.size t 0->(∀b o,s.heap.get? b=ž o->h'.get? b=ž o)->Q (.ref<|s.heap.objs.size+1) {s with heap:=h'}):
  ĩ (Ĭ prog w) A (a1P (.type "enumerate") [.ref t]) Q E s:=by
 obtain⟨⟨c,kM,dt,sl⟩,hl,hc,n,hd⟩:=hT;replace hc:c=.type "tuple":=hc;replace hd:dt=.seq items n:=hd;subst hc hd;refine callType_new F.called_enumerate (by decide) (F.typeCall_enumerate_1 _) (F.newCall_enumerate_1 _) (λobj=>F.args_object_init_2 obj _) F.entry_enumerate_new
  (zqY t items n kM sl) ⟨hl,?_⟩
 have hz:(s.heap.push {cls:=.type "tuple_iterator",data:=.fields #[.ref t,.int 0 0]}).objs.size=s.heap.objs.size+1:=û ..;show _/\_;rw[hz];have he:IsEnum ((s.heap.push {cls:=.type "tuple_iterator",data:=.fields #[.ref t,.int 0 0]}).push
   {cls:=.type "enumerate",data:=.fields #[.none,.bool Ż,.ref s.heap.objs.size,ϰ 0,.none,.none]}) (s.heap.objs.size+1) s.heap.objs.size 0 .none:=by
  have z:=qh (s.heap.push {cls:=.type "tuple_iterator",data:=.fields #[.ref t,.int 0 0]})
   (o:={cls:=.type "enumerate",data:=.fields #[.none,.bool Ż,.ref s.heap.objs.size,ϰ 0,.none,.none]}) rfl
  rw[hz]at z;exact z
 exact⟨⟨_,he,rfl⟩,h _ he ⟨_,qd _<|qh _ rfl,rfl,rfl⟩ λb o x=>qd _<|qd _ x⟩
end
section
variable{X:Cx}{s:Qd}
theorem Inv.bO{t':Nat}{wr:Qa Qg}(I:Inv X pins σ H s)(k:∀b o,b∉wr->s.heap.get? b=ž o->h'.get? b=ž o)(hf:∀b∈wr,cK X pins H b):Inv X pins σ H {s with heap:=h',toks:=t'}:=
 I.lL k λb hb=>⟨(hf b hb).1,(hf b hb).2.1,(hf b hb).2.2.2⟩
theorem Inv.oI{o:HO}(I:Inv X pins σ H s)(f:cK X pins H a)(ha:X.bf.heap.objs.size<=a)(new:zP X.prog X.w X.K (upd H a o) s.heap a o):Inv X pins σ (upd H a o) s:=by
 have(f0,f1,f2,f3,f4,f5):=f;refine⟨I.ok,I.os,I.bare,QU I.base f0 ha,I.loc,I.cell,?_,λx c e=>?_,λp hp=>?_,Rz I.aw f0 new,I.len⟩
 .rw[zu<|ň f1]
  exact I.free
 .rw[zu<|f4 x c e]
  exact I.b7 x c e
 .have(p1,p2,p3):=I.pin p hp
  refine⟨p1,?_,p3⟩;rw[zu<|f5 p hp];exact p2
theorem Inv.pair{fp:Qa Qg}{T:Qg}{x:V}{v:Qc}{t':Nat}(I:Inv X pins σ H s)(hf:∀b∈fp,cK X pins H b)(hT:s.heap.objs.size<=T)(ob:∀b∈fp,∃o,s.heap.get? b=ž o)
  (k:∀b o,b∉fp->s.heap.get? b=ž o->h'.get? b=ž o) (jV:om h' T #[u,v]) (ru:zE x u) (rv:zE y v):
  Inv X pins σ (upd H T<|.tup [x,y]) {s with heap:=h',toks:=t'}/\H T=Ž/\∀b∈fp,upd H T (.tup [x,y]) b=Ž:=by
 refine⟨Inv.oI (s:={s with heap:=h',toks:=t'}) (I.bO k hf) (I.eY hT<|I.aw.fresh hT) (qA I.sz hT) ⟨by show 2<=ħ;decide,[u,v],.cons ru<|.cons rv .nil,jV⟩,I.aw.fresh hT,λb hb=>?_⟩;have(o,e):=ob b hb;rw[zu<|qk<|qj (qi e) hT];exact(hf b hb).1
end
def ja:Bool->qc->Hp->Qg->Qa V->Prop
 |true=>bu
 |false=>cH
def hJ:Bool->Ļ->Qg->Qg->Nat->Prop
 |true=>Heap.IsListIter
 |false=>Heap.IsTupleIter
def jk:Bool->Ļ->Qg->Array Qc->Prop
 |true=>Heap.IsList
 |false=>Heap.IsTuple
noncomputable def Bo(q:Bool)(a:Qg):Obj:={cls:=.type (cond q "list_iterator" "tuple_iterator"),data:=.fields #[.ref a,.int 0 0]}
section
variable{X:Cx}{s:Qd}{q:Bool}{xs:Qa V}{items:Array Qc}
theorem ja.vals(I:Inv X pins σ H s)(hq:ja q X.K H a xs):∃ah:Qa Qc,zJ xs ah/\jk q s.heap a ah.toArray:=by
 cases q
 .have(ah,rv,p,_):=I.tuple hq
  exact⟨ah,rv,p⟩
 .have(ah,rv,p,_):=I.list hq
  exact⟨ah,rv,p.isList⟩
theorem ja.inj(I:Inv X pins σ H s)(h1:ja q X.K H a xs)(h2:ja q X.K H a ys):xs=ys:=by
 cases q
 .exact I.iE h1 h2
 .exact I.jC h1 h2
theorem jk.kept(x:jk q h a items)(k:∀o,h.get? a=ž o->h'.get? a=ž o):jk q h' a items:=by
 cases q<;>exact let ⟨o,e,r⟩:=x;⟨o,k o e,r⟩
theorem jk.lt(x:jk q h a items):a < h.objs.size:=by
 cases q<;>exact let ⟨_,e,_⟩:=x;qi e
theorem hJ.kept(x:hJ q h it a i)(k:∀o,h.get? it=ž o->h'.get? it=ž o):hJ q h' it a i:=by
 cases q<;>exact let ⟨o,e,r⟩:=x;⟨o,k o e,r⟩
theorem hJ.obj(x:hJ q h it a i):∃o,h.get? it=ž o/\∀v,o.data≠.cell v:=by
 cases q<;>exact let ⟨o,e,_,d⟩:=x;⟨o,e,λv z=>by rw[d]at z;cases z⟩
theorem AA(hh:A.handled=Ž)(ne:a≠it):Draws prog w A it [it,a] items.size (λi v=>items[i]?=ž v) (λi h=>hJ q h it a i/\jk q h a items):=by
 cases q
 .exact zlG hh it a ne items
 .exact Draws.list hh it a ne items
theorem hJ.new(e:h.get? it=ž (Bo q a)):hJ q h it a 0:=by
 cases q<;>exact⟨_,e,rfl,rfl⟩
theorem Q9(hq:jk q s.heap a items)(k:Q (.ref s.heap.objs.size) {s with heap:=s.heap.push (Bo q a)}):ĩ (Ĭ prog w) A (a0m<|.ref a) Q E s:=by
 cases q
 .exact ſ hq k
 .exact a2J hq k
theorem znz(hq:jk q s.heap a items)
  (k:∀h',IsEnum h' (s.heap.objs.size+1) s.heap.objs.size 0 .none->hJ q h' s.heap.objs.size a 0->(∀b o,s.heap.get? b=ž o->h'.get? b=ž o)->Q (.ref<|s.heap.objs.size+1) {s with heap:=h'}):ĩ (Ĭ prog w) A (a1P (.type "enumerate") [.ref a]) Q E s:=by
 cases q
 .exact zny hq k
 .exact call_enumerate_list hq λh' a b _ c=>k h' a b c
theorem IE(rv:zJ xs ah){x:V}(hx:xs[i]?=ž x)(hu:ah.toArray[i]?=ž u):zE x u:=by
 have(u',eu,r):=rv.get hx;have z:ah[i]?=ž u:=by simpa using hu
 rw[eu]at z;exact qy z▸r
end
def Xk(q:Bool)(K:qc)(a:Qg):It :=
 ⟨λi H=>∃xs x,ja q K H a xs/\xs[i]?=ž x,λi H x H'=>∃T,H T=Ž/\x=.ref T/\∀xs v,ja q K H a xs->xs[i]?=ž v->H'=upd H T (.tup [.int i,v]),λi H=>∃xs,ja q K H a xs/\xs.length=i⟩
theorem zqZ{k:Nat}{pos:Pos}{q:Bool}(e it t:Qg)(FR:e≠it)(VV:t≠e)(VR:t≠it):
  Turn P w K (.Tuple elts k pos) (Xk q K t) [e,it] e (λi h=>(∃old,IsEnum h e it i old)/\hJ q h it t i) where
 mem:=by simp
 obj:=λi h st b hb=>by
  obtain⟨⟨old,he⟩,st⟩:=st;rcases qw.mp hb with z|z
  .subst z
   exact⟨_,he,λv q=>by
    have q':a1p _=a0P v:=q;cases q'⟩
  .rw[qr.mp z]
   exact st.obj
 keep:=λi h h' st kk=>by
  obtain⟨⟨old,he⟩,st⟩:=st;exact⟨⟨old,kk e (by simp) _ he⟩,st.kept λo=>kk it (by simp) o⟩
 item:=by
  intro X hP hw hK hc i pins s σ H E I hf st hg;subst hP hw hK;have(xs,x,hq,hx):=hg;have(ah,rv,ht):=hq.vals I;have hi:i < ah.toArray.size:=by
   rw[ī,<-rv.length];exact(qm.mp hx).1
  have W:=a4r (AA (prog:=X.prog) (w:=X.w) (A:=X.A.in1) (q:=q) (items:=ah.toArray) (I.ok.hd hc) VR) e FR (by simp[FR,ň VV]) (by simp);refine W.item i s _ _ hi ⟨st.1,st.2,ht⟩ λT vals h1 tk hP hT jV mid kk=>?_;refine⟨_,rfl,W.go elts k pos i T {s with heap:=h1,toks:=tk} _ _ mid λh2 qG uf=>?_⟩;have(tt,u,hu,rfl):=hP;have(oT,g1,g2,nT):=jV;have(I3,fT,ff):=I.pair (t':=tk) hf hT (λb hb=>(qw.mp hb).elim (λz=>by rw[z];exact⟨_,st.1.choose_spec⟩) λz=>by rw[qr.mp z];have(o,e,_):=st.2.obj;exact⟨o,e⟩) (λb o hb q=>uf b o hb<|kk b o hb q) ⟨oT,uf T oT (W.apart _ _ _ mid) g1,g2,nT,.inr ⟨_,_,_,rfl⟩⟩ (show zE (.int i) (.int i tt) from⟨tt,rfl⟩) (IE rv hx hu);exact⟨.ref T,_,I3,rfl,⟨T,fT,rfl,λje v v9 hv=>by
   cases hq.inj I v9;cases hx.symm.trans hv;rfl⟩,⟨qG.1,qG.2.1⟩,ff⟩
 done:=by
  intro X hP hw hK hc i pins s σ H E I hf st hg;subst hP hw hK;have(xs,hq,hl):=hg;have(ah,rv,ht):=hq.vals I;have hi:i=ah.toArray.size:=by
   rw[ī,<-rv.length];exact hl.symm
  subst hi;exact(a4r (AA (prog:=X.prog) (w:=X.w) (A:=X.A.in1) (q:=q) (items:=ah.toArray) (I.ok.hd hc) VR) e FR (by simp[FR,ň VV]) (by simp)).done s _ _ ⟨st.1,st.2,ht⟩ λh1 tk kk=>⟨rfl,I.bO (wr:=[e,it]) kk hf⟩
 self:=λ_ _ _ _ _ st h=>by
  obtain⟨⟨old,he⟩,_⟩:=st;exact wpAny_pyIter_enum he h
section
variable{X:Cx}{k:Nat}{q:Bool}
def Ip(q:Bool)(K:qc)(ta:TA):TI:=λσ H R=>ta σ H λvs H1=>∃a,vs=[.ref a]/\(∃xs,ja q K H1 a xs)/\R (Xk q K a) H1
abbrev zC3:=Ip Ż
theorem Az{a:ĺ}{ta:TA}{pos:Pos}(ha:Wr (PA X [a] ta))(hK:autoParam (X.K=K) ć)(hg:autoParam (Gl X "enumerate") ď)(hm:autoParam (X.mg "enumerate"=Ž) đ)(hs:autoParam (zV a=ż) ć):
  Wr (PI X (.Tuple elts k jw) (.Call (.Name "enumerate" p) [a] [] pos)<|Ip q K ta):=by
 subst hK;refine⟨?_⟩;intro pins s σ H R I h;refine Call_<|vi I hg hm boot_enumerate<|Þ (az (ha.run pos pins s σ H _ I h) λus s1 hZ=>?_) (nF hs) rfl;have(vs,H1,I1,r1,q1):=hZ;obtain⟨t,e,⟨xs,hq⟩,q⟩:=q1;subst e;have(u,rfl,ru):=nv r1;cases ru;have(ah,rv,ht):=hq.vals I1;have tl:=ht.lt;refine znz ht λh' he hit kk=>?_;refine wpAny_pyIter_enum he ?_;refine⟨s1.heap.objs.size+1,[s1.heap.objs.size+1,s1.heap.objs.size],_,_,H1,rfl,I1.kept (t':=s1.toks) kk,zqZ (s1.heap.objs.size+1) s1.heap.objs.size t (Nat.succ_ne_self _) (qk<|Ú tl)<|qk tl,⟨⟨_,he⟩,hit⟩,λb hb=>?_,q⟩;rcases qw.mp hb with z|z
 .subst z
  exact I1.eY (é _)<|I1.aw.fresh<|é _
 .rw[qr.mp z]
  exact I1.eY (qf _)<|I1.aw.fresh<|qf _
end
section
variable{X:Cx}{pos:Pos}{i v:ĺ}{k:Nat}
theorem ZH:Wr (PE X (.Dict [] [] pos) HW):=⟨zr9⟩
theorem xP:Wr (PE X (.Dict [] [] pos) DX):=⟨zsa⟩
theorem Ġ(h:True:=by intro _ _;rfl):True:=h
abbrev ġ:=Ġ._auto_1
theorem lG(hr:aE k X.A)(ho:Wr (PE X o td))(hi:Wr (PE X i ty))(hs:autoParam (CZ i) ġ):Wr (PE X (.Subscript o i pos)<|HB X.K td ty):=⟨ZT (uW hr) ho.run hi.run hs⟩
theorem Io(hr:aE k X.A)(hi:Wr (PE X i ty))(ho:Wr (PE X o td))(h1:autoParam (ů .In o=Ż) ć):Wr (PT X (.Compare i [.In] [o] pos)<|tB<|Kw X.K ty td):=⟨OS (zAp (uW hr) hi.run ho.run) h1⟩
theorem Af(hr:aE k X.A)(ho:Wr (PE X o td))(hi:Wr (PE X i ty))(hv:Wr (PE X v tv))(hs:autoParam (Ο v (ž<|.Subscript o i pos') pos.line X.env=pure Ż) ć):
  Wr (PS X (.Assign [.Subscript o i pos'] v pos)<|HA X.K td ty tv):=⟨ZS (uW hr) ho.run hi.run hv.run hs⟩
end
end Internal
namespace Internal
open PySem PySem.W PyProof.Rows
section
def rg(lt:Nat->Nat->Bool)(n:Nat):KasT α->(α->Prop)->Prop
 |.ret a,Q=>Q a
 |.ask i j k,Q=>i < n/\j < n/\rg lt n (k<|lt i j) Q
theorem rg.wp{lt:Nat->Nat->Bool}{Q:α->Prop}{Q':α->Qd->Prop}{s:Qd}(hc:∀i j (C:Bool->Qd->Prop),i < n->j < n->C (lt i j) s->cmp i j C s)(hQ:∀a,Q a->Q' a s):
  ∀{t:KasT α},rg lt n t Q->t.kasWp cmp Q' s
 |.ret _,h=>hQ _ h
 |.ask i j k,⟨h1,h2,h3⟩=>hc i j _ h1 h2<|rg.wp hc hQ h3
end
section
variable{rk:Nat->Int}
noncomputable def KR(rk:Nat->Int)(p:Array Nat)(i:Nat):Int:=rk (p.getD i 0)
noncomputable def r6(rk:Nat->Int)(i j:Nat):Bool:=decide (rk i < rk j)
def Pm(n:Nat)(p:Array Nat):Prop:=p.Perm (Ń n).toArray
theorem Pm.size{p:Array Nat}(h:Pm n p):p.size=n:=by
 have:=h.size_eq;simpa using this
def Up(rk:Nat->Int)(p:Array Nat)(m:Nat):Prop:=∀i j,i<=j->j < m->KR rk p i<=KR rk p j
theorem ltT(c:rk i < rk j):r6 rk i j=ż:=a5G c
theorem ltF(c:¬rk i < rk j):r6 rk i j=Ż:=a5H c
noncomputable def Lq(E:Qa (Nat×Nat)):Nat->Nat->Nat->Bool
 |0,i,j=>i==j
 |f+1,i,j=>i==j || E.any λe=>e.1==i && Lq E f e.2 j
def F5(n:Nat):KasT (Array Nat)->Qa (Nat×Nat)->Bool
 |.ret p,E=>p.toList.isPerm (Ń n) && (Ń n).all λj=>(Ń j).all λi=>Lq E 5 (p.getD i 0)<|p.getD j 0
 |.ask i j k,E=>decide (i < n) && decide (j < n) && F5 n (k ż) ((i,j)::E) && F5 n (k Ż) ((j,i)::E)
theorem OK{E:Qa (Nat×Nat)}(h:∀e∈E,rk e.1<=rk e.2):∀{f i j:Nat},Lq E f i j=ż->rk i<=rk j
 |0,i,j,e=>by rw[eq_of_beq e];exact a2F _
 |f+1,i,j,e=>by
  rcases Bool.or_eq_true_iff.mp e with e|e
  .rw[eq_of_beq e];exact a2F _
  .have(x,hx,e):=á.mp e
   have(e1,e2):=ç.mp e;exact Int.le_trans (eq_of_beq e1▸h x hx)<|OK h e2
theorem Im{Q:Array Nat->Prop}(h:∀p,Pm n p->Up rk p n->Q p):∀{t:KasT (Array Nat)} {E:Qa (Nat×Nat)},F5 n t E=ż->(∀e∈E,rk e.1<=rk e.2)->rg (r6 rk) n t Q
 |.ret p,E,c,hE=>by
  have(c1,c2):=ç.mp c;refine h p (Array.Perm.of_toList_perm<|List.isPerm_iff.mp c1) λi j qR hj=>?_;rcases Nat.lt_or_ge i j with l|l
  .exact OK hE (List.all_eq_true.mp (List.all_eq_true.mp c2 j<|Ø.mpr hj) i<|Ø.mpr l)
  .rw[Nat.le_antisymm qR l];exact a2F _
 |.ask i j k,E,c,hE=>by
  simp only[F5,Ŕ,decide_eq_true_eq]at c;obtain⟨⟨⟨hi,hj⟩,ct⟩,cf⟩:=c;refine⟨hi,hj,?_⟩
  by_cases l:rk i < rk j
  .rw[ltT l]
   exact Im h ct λe he=>(qw.mp he).elim (λz=>z▸Ξ l)<|hE e
  .rw[ltF l]
   exact Im h cf λe he=>(qw.mp he).elim (λz=>z▸Int.not_lt.mp l)<|hE e
theorem znD(h1:1<=n)(h6:n < 6){Q:Array Nat->Prop}(h:∀p,Pm n p->Up rk p n->Q p):rg (r6 rk) n (kas_sort n) Q :=
 Im h (E:=[]) (by
  rcases(show n=1\/n=2\/n=3\/n=4\/n=5 by omega)with rfl|rfl|rfl|rfl|rfl<;>decide +kernel) λe he=>by cases he
noncomputable def xc:Nat:=6
theorem ZG:xc<=64:=by decide
theorem ZF:5 < xc:=by decide
theorem znE(h1:1<=n)(hl:n < xc){Q:Array Nat->Prop}(h:∀p,Pm n p->Up rk p n->Q p):rg (r6 rk) n (kas_sort n) Q:=znD h1 hl h
end
end Internal
namespace Internal
open PySem PySem.Spec PyProof.Rows
open PySem.AutoSeq1 (wpAny_loadPart')
open MeetsSeq MeetsSeq2 MeetsSeq3 SeqRoads2
noncomputable def dW:Qa Int->Qa Int->Bool
 |[],[]=>Ż
 |[],_::_=>ż
 |_::_,[]=>Ż
 |a::as,b::bs=>if a=b then dW as bs else decide (a < b)
theorem zq1{s:Qd}{a b:Int}{t u:Tok}(h:Q (.bool<|decide<|a < b) s):ĩ (Ĭ prog w) A (richCompare .Lt (.int a t)<|.int b u) Q E s:=wpAny_lt_int h
theorem znF(l b:Qg)(items aU:Array Qc)(n n2:Nat)(dd wF:Qb Qg)(sl qI:Array (Qb Qc))(xs ys:Qa Int):
  Meets (Builtin.«tuple.__lt__» ⟨[.ref l,.ref b],[]⟩)
   (λA R s=>s.heap.get? l=ž {cls:=.type "tuple",dict:=dd,data:=.seq items n,slots:=sl}/\s.heap.get? b=ž {cls:=.type "tuple",dict:=wF,data:=.seq aU n2,slots:=qI}/\
    Ι items.toList xs/\Ι aU.toList ys/\R (.ok<|.ret<|.bool<|dW xs ys) s):=
 .of_wp λprog w A R s h=>by
  have(hp,g,d,tk,os):=s;have(hl,hb,i1,i2,h):=h;have f2:=AutoSeq1.sub_tuple_tuple
  wp_walk using wpAny_loadPart' hl,wpAny_loadPart' hb,ς _ (λrest b s'=>b.1=Ž/\s'=⟨hp,g,d,tk,os⟩/\∃(vs us:Qa Qc) (as bs:Qa Int),rest=vs.zip us/\Ι vs as/\Ι us bs/\(items.size < aU.size↔as.length < bs.length)/\
   R (.ok<|.ret<|.bool<|dW as bs) ⟨hp,g,d,tk,os⟩) _
  case turn=>
   rintro⟨y,x⟩ rest b s' ⟨eS,rfl,vs,us,as,bs,hz,j1,j2,hn,hR⟩;cases j1 with
   |nil=>cases hz
   | @cons a t vs as j1=>
    cases j2 with
    |nil=>cases hz
    | @cons c u us bs j2=>
     rw[a1M]at hz;injection hz with hyx Bv;injection hyx with e1 e2;subst e1 e2;refine qa<|wpAny_eqBool_int ?_
     by_cases e:a=c
     .subst e
      rw[a5J]
      wp_walk
      refine⟨rfl,rfl,vs,us,as,bs,Bv,j1,j2,?_,?_⟩
      .rw[hn,qv,qv]
       omega
      .simpa [dW] using hR
     .rw[beq_eq_false_iff_ne.mpr e]
      wp_walk using zq1
      exact⟨_,rfl,by simpa [dW,e] using hR⟩
  case fin=>
   rintro⟨b1,b2⟩ s' ⟨eS,rfl,vs,us,as,bs,hz,j1,j2,hn,hR⟩;simp only at eS;subst eS
   wp_walk
   refine⟨_,rfl,?_⟩;have e:decide (items.size < aU.size)=dW as bs:=by
    cases j1 with
    |nil=>
     cases j2 with
     |nil=>exact a5H λz=>absurd (hn.mp z)<|Ò _
     |cons c u j2=>exact a5G<|hn.mpr<|Nat.zero_lt_succ _
    |cons a t j1=>
     cases j2 with
     |nil=>exact a5H λz=>absurd (hn.mp z)<|Nat.not_lt_zero _
     |cons c u j2=>cases hz
   show R (Except.ok<|Flow.ret<|a0Q<|decide<|items.size < aU.size) _;rw[e];exact hR
  case h=>
   refine⟨rfl,rfl,items.toList,aU.toList,xs,ys,rfl,i1,i2,?_,h⟩;rw[<-a5b i1,<-a5b i2,ś,ś]
theorem znG{s:Qd}{l:Qg}{items aU:Array Qc}{xs ys:Qa Int}(hl:s.heap.IsTuple l items)(hb:s.heap.IsTuple b aU)(i1:Ι items.toList xs)(i2:Ι aU.toList ys)(hu:A.units < Ŷ)
  (h:Q (.bool<|dW xs ys) s):ĩ (Ĭ prog w) A (Ň .Lt (.ref l)<|.ref b) Q E s:=by
 obtain⟨⟨cls,dd,data,sl⟩,ho,hc,n,hd⟩:=id hl;obtain⟨⟨Cz,wF,data2,qI⟩,qQ,B6,n2,hd2⟩:=id hb;simp only at hc hd B6 hd2;subst hc hd B6 hd2;exact richCompare_meets_room (op:=.Lt) ⟨_,ho,rfl⟩ ⟨_,qQ,rfl⟩ F.slot_tuple_lt F.entry_tuple_lt (F.args_tuple_lt_2 _ _) (znF l b items aU n n2 dd wF sl qI xs ys) ⟨ho,qQ,i1,i2,⟨(λx=>nomatch x),h⟩⟩ hu
end Internal
namespace Internal
open PySem PySem.Spec PySem.W PyProof.Rows
section
variable{s:Qd}
def zEX(prog:Qe)(w:Qh)(A:Qf)(rk:Nat->Int)(vs:Qa Qc)(κ:SortKind)(s:Qd):Prop :=
 ∀i j (C:Bool->Qd->Prop),i < vs.length->j < vs.length->C (r6 rk i j) s->ĩ (Ĭ prog w) A (keyLt' κ (vs.getD i ł)<|vs.getD j ł) C (λ_ _=>False) s
theorem zku{rk:Nat->Int}{vs:Qa Qc}{P:PySem.Fin->Qd->Prop}(ho:s.heap.get? a=ž (a0l "list" vs.toArray n))(Wh:vs.length < 64)(hg:1<=vs.length->∀{Q:Array Nat->Prop},(∀p,Pm vs.length p->Up rk p vs.length->Q p)->rg (r6 rk) vs.length (kas_sort vs.length) Q)
  (hk:2<=vs.length->∀h':Ļ,(∀b o,b≠a->s.heap.get? b=ž o->h'.get? b=ž o)->∀Q:SortKind->Qd->Prop,(∀κ,zEX prog w A rk vs κ {s with heap:=h'}->Q κ {s with heap:=h'})->ĩ (Ĭ prog w) A (keyKind' vs.toArray) Q (λ_ _=>False) {s with heap:=h'})
  (h:∀p:Array Nat,Pm vs.length p->Up rk p vs.length->P (.done<|.ret .none) {s with heap:=sortedHeap s.heap a vs (a1V<|p.toList.map λi=>vs.getD i ł)}):
  ĩ (Ĭ prog w) A (Builtin.«list.sort» ⟨[.ref a],[]⟩) P E s:=by
 have line:(64:Nat)<=ħ:=by decide
 have ha:a < s.heap.objs.size:=qi ho;obtain⟨e1,VX⟩:∃e1,(s.heap.update a<|ņ λ_=>#[]).get? a=ž (a0l "list" #[] e1):=⟨_,get?_update_seq ho λ_=>#[]⟩;have old:∀b o,(s.heap.update a<|ņ λ_=>#[]).get? b=ž o->(((s.heap.update a<|ņ λ_=>#[]).push<|a0l "tuple" vs.toArray 0).push<|a0l "list" #[] 0).get? b=ž o :=
  λb o e=>qd _<|qd _ e
 have FJ:=old _ _ VX;have keep:∀b o,b≠a->s.heap.get? b=ž o->(((s.heap.update a<|ņ λ_=>#[]).push<|a0l "tuple" vs.toArray 0).push<|a0l "list" #[] 0).get? b=ž o :=
  λb o ne e=>old b o (by rw[a4C _ _ _ _ ne];exact e)
 rw[list_sort_plain];refine qa<|listItems_at ho rfl<|qa<|a4p ho rfl (qa<|seqEpoch_at VX rfl<|qa<|wpAny_newTuple (qa<|wpAny_newList (Ő ?_) ?_) ?_) ?_ ?_
 case refine_2=>exact Ç _
 case refine_3=>show vs.length<=_;omega
 case refine_4=>show vs.toArray.size<=_;rw[ī];omega
 case refine_5=>exact Ç _
 show ĩ (Ĭ prog w) A _ P E {s with heap:=((s.heap.update a<|ņ λ_=>#[]).push<|a0l "tuple" vs.toArray 0).push (a0l "list" #[] 0)};dsimp only;generalize hH:((s.heap.update a<|ņ λ_=>#[]).push<|a0l "tuple" vs.toArray 0).push (a0l "list" #[] 0)=h6 at *;have hsz:vs.toArray.size=vs.length:=by simp
 have fin:∀p:Array Nat,Pm vs.length p->Up rk p vs.length->P (.done<|.ret .none) {s with heap:=h6.update a (ņ λ_=>a1V<|p.toList.map λi=>vs.getD i ł)}:=λp a1 a2=>by
  have:=h p a1 a2;unfold sortedHeap at this;rw[hH]at this;exact this
 by_cases h2:vs.toArray.size < 2
 .rw[a5E h2,a5E h2]
  refine qa<|qb ?_;rw[StateT.run_pure];refine qa<|qb ?_;dsimp only;have hz:(vs.toArray.zip vs.toArray).size=vs.length:=by simp
  have Mq:arrOf (SortSt.mk' general' (vs.toArray.zip vs.toArray) #[] 7 Ž)=(Ń vs.length).toArray.map (kas_item<|vs.toArray.zip vs.toArray):=by
   have:=kas_range (vs.toArray.zip vs.toArray);rw[hz]at this;exact this.symm
  have e:=kat_snds (ks:=vs) (vs:=vs) rfl Mq;rw[e];refine qa<|seqEpoch_at FJ rfl<|qa<|a4p FJ rfl ?_ ?_ ?_
  .show ĩ _ _ (if(e1 != e1)=ż then _ else _) _ _ _
   rw[bne_self_eq_false,a5F qg];refine qb<|fin _ (Array.Perm.refl _) λi j qR hj=>?_;have:i=j:=by omega
   subst this;exact a2F _
  .exact Ç _
  .rw[ī,Ħ]
   simp;omega
 .rw[a5F h2,a5F h2]
  have mY:2<=vs.length:=by omega
  refine qa<|ļ (hk mY h6 keep _ λκ ask=>?_) (λ_ _ x=>x) λ_ _ x=>x.elim;refine qa<|ļ (kat_run (ks:=vs) (Q:=λh8 s'=>s'={s with heap:=h6}/\∃p:Array Nat,Pm vs.length p/\Up rk p vs.length/\arrOf h8=p.map (kas_item<|vs.toArray.zip vs.toArray)/\failedOf h8=Ž) (G:=λp s'=>s'={s with heap:=h6}/\Pm vs.length p/\Up rk p vs.length) rfl mY Wh
   (λp h8 s' _ a2 a3 a4=>⟨a4.1,p,a4.2.1,a4.2.2,a2,a3⟩) (rg.wp (lt:=r6 rk) (n:=vs.length) ask (λp hp=>⟨rfl,hp⟩)<|hg (by omega) λp a1 a2=>⟨a1,a2⟩)) ?_ λ_ _ x=>x
  rintro⟨⟨⟩,h8⟩ s' ⟨rfl,p,a1,a2,Mq,hf⟩;dsimp only;have e:=kat_snds (ks:=vs) (vs:=vs) rfl Mq;rw[e,hf];refine qa<|seqEpoch_at FJ rfl<|qa<|a4p FJ rfl ?_ ?_ ?_
  .show ĩ _ _ (if(e1 != e1)=ż then _ else _) _ _ _
   rw[bne_self_eq_false,a5F qg];exact qb<|fin p a1 a2
  .exact Ç _
  .rw[ī,Ħ,ś,a1.size]
   omega
end
theorem vo:∀a:Qa Int,dW a a=Ż
 |[]=>rfl
 |a::as=>by unfold dW;rw[a5E rfl];exact vo as
theorem xW:∀{a b c:Qa Int},dW a b=ż->dW b c=ż->dW a c=ż
 |[],[],_,h,_=>by cases h
 |[],_::_,[],_,h=>by cases h
 |[],_::_,_::_,_,_=>rfl
 |_::_,[],_,h,_=>by cases h
 |_::_,_::_,[],_,h=>by cases h
 |a::as,b::bs,c::cs,h1,h2=>by
  unfold dW at h1 h2 ⊢
  by_cases e1:a=b
  .subst e1
   rw[a5E rfl]at h1
   by_cases e2:a=c
   .rw[a5E e2]at h2 ⊢
    exact xW h1 h2
   .rw[a5F e2]at h2 ⊢
    exact h2
  .rw[a5F e1]at h1
   have l1:=a5I h1
   by_cases e2:b=c
   .subst e2
    rw[a5F e1];exact h1
   .rw[a5F e2]at h2
    have l2:=a5I h2;rw[a5F (by omega)];exact a5G (by omega)
theorem AG:∀{a b:Qa Int},a≠b->dW a b=ż\/dW b a=ż
 |[],[],h=>absurd rfl h
 |[],_::_,_=>.inl rfl
 |_::_,[],_=>.inr rfl
 |a::as,b::bs,h=>by
  unfold dW
  by_cases e:a=b
  .subst e
   rw[a5E rfl,a5E rfl];exact AG λz=>h (by rw[z])
  .rw[a5F e,a5F λz=>e z.symm]
   rcases(by omega:a < b\/b < a)with z|z
   .exact .inl (a5G z)
   .exact .inr (a5G z)
theorem Q8{p q:α->Bool}:∀{l:Qa α} {x:α},(∀y∈l,p y=ż->q y=ż)->x∈l->q x=ż->p x=Ż->l.countP p < l.countP q
 |y::l,x,h,m,hq,hp=>by
  rw[a5o,a5o];have le:l.countP p<=l.countP q:=List.countP_mono_left λz hz=>h z<|qp _ hz;rcases qw.mp m with e|m
  .subst e
   rw[hp,hq];simp;omega
  .have:=Q8 (λz hz=>h z<|qp _ hz) m hq hp
   by_cases c:p y=ż
   .rw[c,h y qq c]
    simp;omega
   .rw[a5F c]
    split<;>omega
def sU(ps:Qa (Qa Int))(i:Nat):Int:=((Ń ps.length).countP λk=>dW (ps.getD k []) (ps.getD i []):Nat)
theorem Je{ps:Qa (Qa Int)}(hi:i < ps.length)(h:dW (ps.getD i []) (ps.getD j [])=ż):sU ps i < sU ps j:=by
 unfold sU;have:=Q8 (p:=λk=>dW (ps.getD k [])<|ps.getD i []) (q:=λk=>dW (ps.getD k [])<|ps.getD j []) (l:=Ń ps.length) (x:=i) (λy _ hy=>xW hy h) (Ø.mpr hi) h (vo _);omega
theorem JE{ps:Qa (Qa Int)}(h:ps.Nodup)(hi:i < ps.length)(hj:j < ps.length)(ne:i≠j):ps.getD i []≠ps.getD j []:=by
 have e:∀k (hk:k < ps.length),ps.getD k []=ps[k]:=λk hk=>by simp[hk]
 rw[e i hi,e j hj];intro z;rcases Nat.lt_or_gt_of_ne ne with l|l
 .exact è.mp h i j hi hj l z
 .exact è.mp h j i hj hi l z.symm
theorem ZE{ps:Qa (Qa Int)}(h:ps.Nodup)(hi:i < ps.length)(hj:j < ps.length):r6 (sU ps) i j=dW (ps.getD i []) (ps.getD j []):=by
 cases c:dW (ps.getD i []) (ps.getD j [])with
 |true=>exact a5G<|Je hi c
 |false=>
  refine a5H λz=>?_
  by_cases e:i=j
  .subst e;omega
  .rcases AG (JE h hi hj e)with y|y
   .rw[c]at y;cases y
   .have:=Je hj y
    omega
theorem Pm.list{p:Array Nat}(h:Pm n p):p.toList.Perm (Ń n):=by
 have:=h.toList;simpa using this
theorem zAA{ps:Qa (Qa Int)}(h:ps.Nodup){p:Array Nat}(hp:Pm ps.length p)(hu:Up (sU ps) p ps.length):(p.toList.map λi=>ps.getD i []).Pairwise λa b=>dW a b=ż:=by
 have hs:=hp.size;have hl:=hp.list;have nd:p.toList.Nodup:=hl.nodup_iff.mpr List.nodup_range;refine List.pairwise_map.mpr<|è.mpr λi j hi hj qR=>?_;have e:∀k (hk:k < p.toList.length),KR (sU ps) p k=sU ps p.toList[k]:=λk hk=>by
  unfold KR;have i5:k < p.size:=by simpa using hk
  congr 1;simp[Array.getD,i5]
 have m:∀k (hk:k < p.toList.length),p.toList[k] < ps.length:=λk hk=>Ø.mp<|hl.mem_iff.mp<|õ hk;have le:=hu i j (by omega) (by rw[ś]at hj;omega);rw[e i hi,e j hj]at le;have ne:p.toList[i]≠p.toList[j]:=è.mp nd i j hi hj qR;rcases AG (JE h (m i hi) (m j hj) ne)with z|z
 .exact z
 .have:=Je (m j hj) z
  omega
def sT(h:Ļ)(v:Qc)(ns:Qa Int):Prop:=∃(a b:Qg) (u:Qc) (ah:Array Qc),v=.ref a/\a1R h a #[.ref b,u]/\a1R h b ah/\Ι ah.toList ns
theorem Q7{ah:Array Qc}(t:a1R h a ah)(k:∀o,h.get? a=ž o->h'.get? a=ž o):a1R h' a ah:=by
 have(o,e,r):=t;exact⟨o,k o e,r⟩
theorem JD:∀{vs:Qa Qc} {ns:Qa Int},Ι vs ns->ItemsAre (zH prog w) (ns.map λn=>(Λ n:Key)) vs
 |_,_,.nil=>.nil
 |_,_,.cons n t h=>.cons (show a2j n (.int n t)=ż by simp[a2j])<|JD h
theorem ID{ms:Qa Int}:(ns.map λn=>(Λ n:Key))=(ms.map λn=>(Λ n:Key))↔ns=ms:=by
 constructor
 .intro h
  have:=congrArg (List.map λk:Key=>match k with |.inl n=>n |.inr _=>0) h;rw[Ł,Ł]at this;simpa [Function.comp_def] using this
 .rintro rfl;rfl
section
variable{s:Qd}
theorem zC4{v v':Qc}{Ft:Qa Int}{C:Bool->Qd->Prop}(hu:A.units < Ŷ)(p:sT s.heap v ns)(p':sT s.heap v' Ft)(ne:v=v'\/ns≠Ft)(h:C (dW ns Ft) s):ĩ (Ĭ prog w) A (keyLt' (tuples' Ż) v v') C (λ_ _=>False) s:=by
 obtain⟨a,b,u,ah,rfl,⟨oa,ea,ca,na,da⟩,tb,ib⟩:=p;obtain⟨a',b',u',its',rfl,⟨oa',jF,ca',LD,MH⟩,Vg,VJ⟩:=p';refine kat_lt ea da jF MH ?_;show KatLex prog w A Ż _ C [(.ref b,.ref b'),(u,u')] 0 s;have(ob,eb,cb,nb,db):=id tb;have(ob',eb',cb',nb',db'):=id Vg;refine kat_cons<|wpAny_eqBool_tuple (knd:=zH prog w) hu ⟨ob,ah,nb,eb,cb,db,JD ib⟩ ⟨ob',its',nb',eb',cb',db',JD VJ⟩ ?_
 by_cases e:ns=Ft
 .rw[a5G<|ID.mpr e]
  rcases ne with z|z
  .cases z
   rw[ea]at jF;cases jF;rw[da]at MH;injection MH with d1 d2;have d3:=congrArg a3u d1;have e1:Į b=.ref b'/\u=u':=by simpa using d3
   have(_,rfl):=e1;refine kat_yes<|kat_cons<|a3M u prog w _ _<|kat_yes<|kat_nil ?_;subst e;rw[vo]at h;exact h
  .exact absurd e z
 .rw[a5H λz=>e<|ID.mp z]
  refine kat_no<|kat_one _ _<|znG tb Vg ib VJ hu ?_;exact h
end
theorem sT.kept{v:Qc}(p:sT h v ns)(k:∀b o,h.get? b=ž o->h'.get? b=ž o):sT h' v ns:=by
 have(a,b,u,ah,e,ta,tb,i):=p;exact⟨a,b,u,ah,e,Q7 ta<|k a,Q7 tb<|k b,i⟩
theorem Ry:∀{vs:Qa Qc},(∀v∈vs,∃ns,sT h v ns)->∃fs,KatTups h vs fs/\fs.length=vs.length/\∀f∈fs,∃(b:Qg) (ah:Array Qc),f=.ref b/\a1R h b ah
 |[],_=>⟨[],.nil,rfl,λf hf=>by cases hf⟩
 |v::vs,hv=>by
  have(fs,k,l,q):=Ry (vs:=vs) λx hx=>hv x<|qp _ hx;obtain⟨ns,a,b,u,ah,rfl,⟨o,eo,co,n,dO⟩,tb,_⟩:=hv v qq;refine⟨.ref b::fs,.cons eo co dO rfl k,by rw[qv,qv,l],λf hf=>?_⟩;rcases qw.mp hf with e|hf
  .exact⟨b,ah,e,tb⟩
  .exact q f hf
def ZD(K:qc)(H:Hp)(vs:Qa V)(ps:Qa (Qa Int)):Prop:=vs.length=ps.length/\∀i v,vs[i]?=ž v->∃(a b:Qg) (y:V),v=.ref a/\cH K H a [.ref b,y]/\cH K H b ((ps.getD i []).map V.int)
def OJ(K:qc):Qa V->Hp->VK->Prop:=λxs H Q=>∃(l:Qg) (vs:Qa V) (ps:Qa (Qa Int)),xs=[.ref l]/\bu K H l vs/\vs.length < xc/\ZD K H vs ps/\ps.Nodup/\
 ∀(is:Qa Nat) r,is.Perm (Ń vs.length)->(is.map λi=>ps.getD i []).Pairwise (λa b=>dW a b=ż)->H r=Ž->Q (.ref r) (upd H r<|.lst<|is.map λi=>vs.getD i .aM)
theorem Rx{vs:Qa V}(r:zJ vs us):∀is:Qa Nat,(∀i∈is,i < vs.length)->zJ (is.map λi=>vs.getD i .aM) (is.map λi=>us.getD i ł)
 |[],_=>.nil
 |i::is,h=>by
  have hi:=h i qq;have(u,e,ru):=r.get (qo hi);refine .cons ?_<|Rx r is λj hj=>h j<|qp _ hj;show zE (vs.getD i .aM) (us.getD i ł);rw[qC,qC,qo hi,e];exact ru
section
variable{X:Cx}
theorem znH(K:qc)(hK:X.K=K){k:Nat}(hr:aE k X.A):fV X (.builtin "sorted") (OJ K):=by
 subst hK;intro pins s σ H xs us Q I r h;obtain⟨l,vs,ps,rfl,hl,hs,⟨lp,hp⟩,nd,q⟩:=h;have(u,rfl,ru):=nv r;cases ru;obtain⟨ah,rv,⟨o,n,eo,co,_,dO⟩,_⟩:=I.list hl;have line:(64:Nat)<=ħ:=by decide
 have Wh:=qj hs ZG;have lv:ah.length=vs.length:=rv.length.symm;have pr:∀i,i < ah.length->sT s.heap (ah.getD i ł) (ps.getD i []):=λi hi=>by
  have fK:i < vs.length:=by omega
  have(a,b,y,ev,ha,hb):=hp i _ (qo fK);have(u,eu,ru):=rv.get (qo fK);rw[ev]at ru;cases ru;have(ia,ra,ta,_):=I.tuple ha;have(u1,u2,rfl,r1,r2):=ra.two;cases r1;have(ib,rb,tb,_):=I.tuple hb;refine⟨a,b,u2,ib.toArray,?_,ta,tb,znj rb⟩;rw[qC,eu];rfl
 refine Calls.call_function_entry kind_sorted plain_sorted entry_sorted (args_sorted1 _) ?_;unfold Builtin.«sorted»;refine qa (m:=checkCount "sorted" 1 1 _)<|qb ?_;refine qa<|collect_list (vs:=ah) ⟨o,eo,co,n,dO⟩ (qa<|wpAny_newList ?_ ?_) (by omega)
 case refine_2=>omega
 generalize hH:(s.heap.push<|a0l "list" #[] 0).update s.heap.objs.size (ņ (·++ah.toArray))=h1 at *;have hsz:h1.objs.size=s.heap.objs.size+1:=by rw[<-hH,a2m,size_push']
 have ug:∀b o,s.heap.get? b=ž o->h1.get? b=ž o:=λb o e=>by
  have dq:b < s.heap.objs.size:=qi e;rw[<-hH,a4C _ _ _ _<|qk dq,Heap.get?_push_ne _ _ _<|qk dq];exact e
 have I1:Inv X pins σ H {s with heap:=h1,toks:=s.toks}:=I.kept ug;have BP:(h1.push<|a0l "list" ah.toArray 0).get? h1.objs.size=ž (a0l "list" ah.toArray 0):=qh _ rfl;have hu:X.A.units+64 < Ŷ:=hr.units;refine qa<|Ő<|Ŏ slot_list_sort ⟨_,BP,rfl⟩ entry_list_sort (zku (rk:=sU ps) (s:={s with heap:=h1.push (a0l "list" ah.toArray 0)}) BP (by omega) (λh1=>znE h1<|lv▸hs) (λh2 h' kp Q' hQ=>?_) λp a1 a2=>⟨_,rfl,?_⟩)<|args_list_sort _
 .have Bm:∀b o,s.heap.get? b=ž o->h'.get? b=ž o:=λb o e=>by
   have dq:b < s.heap.objs.size:=qi e;exact kp b o (qk (by rw[hsz];exact Ú dq))<|qd _<|ug b o e
  have Ls:∀i,i < ah.length->sT h' (ah.getD i ł) (ps.getD i []):=λi hi=>(pr i hi).kept Bm;have(fs,kt,lf,tf):=Ry (h:=h') (vs:=ah) λv hv=>by
   have(i,hi,e):=a1B hv;have:=Ls i hi;rw[show ah.getD i ł=v by simp[hi,e]]at this;exact⟨_,this⟩
  refine kat_kind (fs:=fs) (T:=.type "tuple") kt (by omega) (λv hv=>?_) (by decide) ?_
  .have(b,ib,rfl,o,eo,co,_):=tf v hv
   rw[<-co];exact(Looks.ld eo).andThen .now
  .refine hQ _ λi j C hi hj hc=>?_
   rw[ZE nd (by omega) (by omega)]at hc;refine zC4 (by show X.A.units+1+1 < Ŷ;omega) (Ls i hi) (Ls j hj) ?_ hc
   by_cases e:i=j
   .exact .inl (by rw[e])
   .exact .inr (JE nd (by omega) (by omega) e)
 .refine qb ⟨_,rfl,?_⟩
  have(en,ho):=sortedHeap_at (vs:=ah) (out:=a1V (p.toList.map λi=>ah.getD i ł)) BP;have fresh:H h1.objs.size=Ž:=I1.aw.fresh (qf _);have perm:p.toList.Perm (Ń vs.length):=by
   have:=a1.list;rw[lv]at this;exact this
  have mem:∀i∈p.toList,i < vs.length:=λi hi=>Ø.mp<|perm.mem_iff.mp hi;have lm:p.toList.length=vs.length:=by
   have:=perm.length_eq;simpa using this
  rw[lv,lp]at a1 a2;refine⟨.ref h1.objs.size,_,I1.laid (t':=s.toks) (a:=h1.objs.size) (o:=.lst (p.toList.map λi=>vs.getD i .aM)) (λb o e=>?_) (qf _) ⟨by rw[Ħ];omega,p.toList.map λi=>ah.getD i ł,en,Rx rv p.toList mem,by simpa using ho⟩,rfl,q p.toList _ perm (zAA nd a1 a2) fresh⟩;have hb:b < h1.objs.size:=qi e;rw[sortedHeap_old (qk hb) (by rw[ŝ];exact Ú hb)];exact qd _ e
end
end Internal
namespace Internal
open PySem PySem.Spec PyProof.Rows
def nh(h:Ļ)(d:Qg)(es:Array Ů)(ep:Nat):Prop:=∃o,h.get? d=ž o/\o.ExactDict/\o.data=.dict es ep
theorem nh.typeIs{s:Qd}(r:nh s.heap d es ep):s.TypeIs (.ref d) "dict":=by
 have(o,e,x,_):=r;exact⟨o,e,x.1⟩
section
variable{s:Qd}
theorem zsr(hd:(d==Œ)=Ż)(r:nh s.heap d es ep)
  (q:∀h':Ļ,h'.IsKeyIter s.heap.objs.size d 0 es.size ep->(∀b o,s.heap.get? b=ž o->h'.get? b=ž o)->Q (.ref s.heap.objs.size) {s with heap:=h'}):ĩ (Ĭ prog w) A (a0m<|.ref d) Q E s:=by
 have hT:=r.typeIs;have(o,e,_,dat):=r;refine a2I hT F.slot_dict_iter<|Ŏ F.slot_dict_iter hT F.entry_dict_iter ?_<|F.args_dict_iter_1 _;unfold Builtin.«dict.__iter__»;refine qa ?_;unfold Builtin.Dict.dictSlotNone;refine qa<|ι hT<|qb ?_;show ĩ _ _ (Ϲ d >>= _) _ _ s;unfold Ϲ;rw[hd,a5F qg];refine qa<|qb<|qa<|ũ e dat<|qa<|a0k e dat<|qa<|qB<|qb ⟨_,rfl, "dict_keyiterator",_,⟨_,qh _ rfl,rfl⟩,ò.lookup,?_⟩;exact q _ ⟨_,qh _ rfl,rfl,by simp[ϰ]⟩ λb o z=>qd _ z
theorem Q6{Q:Qb Qc->Qd->Prop}(k:s.heap.IsKeyIter it d i es.size ep)(r:nh s.heap d es ep)(hh:es[i]?=Ž->A.handled=Ž)
  (q:∀x h',es[i]?=ž x->h'.IsKeyIter it d (i+1) es.size ep->ύ it s.heap h'->Q (ž x.key) {s with heap:=h'}) (qe:es[i]?=Ž->∀h':Ļ,a1n it s.heap h'->Q Ž {s with heap:=h'}):ĩ (Ĭ prog w) A (ϱ<|.ref it) Q E s:=by
 have kT:=k.typeIs;have(oi,ei,ci,fi):=id k;have(o,e,_,dat):=r;unfold ϱ;refine qa<|a4m (ϗ (name:=a0Z "__next__") kT ò
  (Ŏ ò kT F.entry_dict_keyiterator_next ?_<|F.args_dict_keyiterator_next_1 _))
 refine qa<|qb<|qa<|qa ?_;refine qa<|a0d kT<|qb<|qa<|wpAny_fieldsOf ei fi ?_;simp only[show ϳ "dict_keyiterator"=Ż by decide,Ŋ,if_false];show ĩ _ _ (if(Į d==ł)=ż then _ else _) _ _ s;rw[a5F (show ¬((Į d==ł)=ż) from qg)];refine qa<|qb<|qa<|ũ e dat ?_;rw[a5F (by simp)];refine qa<|qb<|qa<|a0k e dat ?_;rw[a5F (by simp)];refine qb ?_;cases hx:es[i]? with
 |some x=>
  simp only[show ¬((i:Int) < 0) from by omega,if_false,Ŀ,hx];refine qa<|qa<|a0d kT<|qb<|qa<|a5g kT ?_;show ĩ _ _ (ϯ (.ref it) 1 (ϰ<|(i:Int)+1) >>= _) _ _ s;refine qa<|Φ ei fi (by simp) ?_;have k':(s.heap.update it<|Obj.mapFields (·.setIfInBounds 1 (ϰ<|(i:Int)+1))).IsKeyIter it d (i+1) es.size ep :=
   ⟨_,Ð _ ei<|a1l<|Δ fi _,(a5k ..).trans ci,by rw[Δ fi];simp[ϰ]⟩
  refine qa<|Ő<|qa<|a5g (s:={s with heap:=s.heap.update it (Obj.mapFields (·.setIfInBounds 1 (ϰ<|(i:Int)+1)))}) k'.typeIs ?_;show ĩ _ _ (pure x.key) _ _ _;exact qb<|qb ⟨_,rfl,qb<|q x _ hx k'<|Ï ..⟩
 |none=>
  simp only[show ¬((i:Int) < 0) from by omega,if_false,Ŀ,hx];refine qa<|qa<|a0d kT<|qb ?_;show ĩ _ _ (ϯ (.ref it) 0 .none >>= _) _ _ s;exact qa<|Φ ei fi (by simp)<|Jf (hh hx) λh' e k he=>qa<|ϖ (T := "StopIteration") (b:=ż) he a3F<|qb<|qe hx _ λb o hb z=>k b o<|((Ï ..).2 b hb).trans z
end
theorem znI{R:α->β->Prop}{xs:Qa α}{ys:Qa β}(h:Μ R xs ys):∀(i:Nat) (x:α),xs[i]?=ž x->∃y,ys[i]?=ž y/\R x y:=by
 induction h with
 |nil=>intro i x h;simp at h
 |cons r _ ih=>intro i x h;cases i with
  |zero=>cases(show ž _=ž x from h);exact⟨_,rfl,r⟩
  |succ i=>exact ih i x h
theorem RS{R:α->β->Prop}{xs:Qa α}{ys:Qa β}(h:Μ R xs ys):xs.length=ys.length:=by
 induction h with
 |nil=>rfl
 |cons _ _ ih=>rw[qv,qv,ih]
theorem OI{X:Cx}(ok:zP X.prog X.w X.K H h a (.dT kvs)):
  (a==Œ)=Ż/\kvs.length<=ħ/\∃(o:Obj) (es:Array Ů) (ep:Nat),h.get? a=ž o/\o.ExactDict/\o.data=.dict es ep/\es.size=kvs.length/\∀(i:Nat) (k:Qa Key) (v:V),kvs[i]?=ž (k,v)->∃(b:Qg) (x:Ů),es[i]?=ž x/\x.key=.ref b/\aJ X.K H b (k.map kV)/\zE v x.val:=by
 have(z,y,xs,r,o',es,ep,h1,h2,h3,h4,h5):=ok;refine⟨y,z,o',es,ep,h1,h2,h3,?_,λi k v hi=>?_⟩
 .have:=congrArg ϥ h4
  rw[ś,Ħ,<-RS r]at this;exact this
 .have(q,hq,r1,r2,r3):=znI r i (k,v) hi
  refine⟨q.2.1,a2r (τ<|zH X.prog X.w) q,?_,rfl,r2,r3⟩;have:es.toList[i]?=ž (a2r (τ<|zH X.prog X.w) q):=by rw[h4,ĭ,hq];rfl
  simpa using this
theorem IC{X:Cx}{s:Qd}{o:Obj}(I:Inv X pins σ H s)(e:H a=ž (.be o<|.dT kvs)):
  (a==Œ)=Ż/\∃(es:Array Ů) (ep:Nat),s.heap.get? a=ž o/\o.ExactDict/\o.data=.dict es ep/\es.size=kvs.length/\∀(i:Nat) (k:Qa Key) (v:V),kvs[i]?=ž (k,v)->∃(b:Qg) (x:Ů),es[i]?=ž x/\x.key=.ref b/\aJ X.K H b (k.map kV)/\zE v x.val:=by
 have(ea,ok):=(show zP X.prog X.w X.K H s.heap a (.be o<|.dT kvs) from I.aw a _ e);have(y,_,o',es,ep,h1,r):=OI ok;rw[ea]at h1;cases h1;exact⟨y,es,ep,ea,r⟩
theorem DU{X:Cx}{s:Qd}{o:Obj}(wm:∃es,o.data=.dict es ep)(I:Inv X pins σ H s)(e:H a=ž (.be o<|.dT kvs)):
  ∃es:Array Ů,nh s.heap a es ep/\es.size=kvs.length/\∀(i:Nat) (k:Qa Key) (v:V),kvs[i]?=ž (k,v)->∃(b:Qg) (x:Ů),es[i]?=ž x/\x.key=.ref b/\aJ X.K H b (k.map kV)/\zE v x.val:=by
 have(_,es,pw,ea,xd,dat,r):=IC I e;have(yD,z):=wm;rw[dat]at z;injection z with _ z;subst z;exact⟨es,⟨o,ea,xd,dat⟩,r⟩
def Gh(K:qc)(a:Qg)(o:Obj)(kvs:Qa (Qa Key×V)):It :=
 ⟨λi H=>H a=ž (.be o<|.dT kvs)/\i < kvs.length,λi H x H'=>H'=H/\∀k v,kvs[i]?=ž (k,v)->∃b,x=.ref b/\aJ K H b (k.map kV),λi H=>H a=ž (.be o<|.dT kvs)/\kvs.length<=i⟩
theorem znJ(a it:Qg)(o:Obj)(kvs:Qa (Qa Key×V))(ep:Nat)(wm:∃es,o.data=.dict es ep):Turn P w K tg (Gh K a o kvs) [it] it (λi h=>h.IsKeyIter it a i kvs.length ep) where
 mem:=by simp
 obj:=λi h st b hb=>by
  have e:b=it:=by simpa using hb
  subst e;have(oi,e,c,d):=st;exact⟨oi,e,λv z=>by rw[d]at z;cases z⟩
 keep:=λi h h' st k=>st.at λoi e=>k it (by simp) oi e
 item:=by
  intro X hP hw hK hc i pins s σ H E I hf st hg;subst hP hw hK;have(e,hi):=hg;have(es,rd,hsz,ent):=DU wm I e;have(b,x,ex,kx,hb,_):=ent i kvs[i].1 kvs[i].2 (qo hi);refine Q6 (es:=es) (by rw[hsz];exact st) rd (λ_=>I.ok.hd hc) (λx' h' yC h8 sb=>?_) λz=>by rw[ex]at z;cases z
  cases ex.symm.trans yC;have I1:Inv X pins σ H {s with heap:=h'}:=I.bO (t':=s.toks) (λb o hb e=>(sb.2 b (by simpa using hb)).trans e) hf;have(oi,e',c',d'):=id h8;rw[kx];refine⟨.ref b,rfl,yX (s:={s with heap:=h'}) e' c' d' (by decide) ⟨.ref b,H,I1,rfl,⟨rfl,λk v wk=>⟨b,rfl,?_⟩⟩,by rw[hsz]at h8;exact h8,λb hb=>(hf b hb).1⟩⟩;rw[qo hi]at wk;rw[qy wk]at hb;exact hb
 done:=by
  intro X hP hw hK hc i pins s σ H E I hf st hg;subst hP hw hK;have(e,hi):=hg;have(es,rd,hsz,ent):=DU wm I e;exact Q6 (es:=es) (by rw[hsz];exact st) rd (λ_=>I.ok.hd hc) (λx h' ex=>by rw[a0T (by omega)]at ex;cases ex) λ_ h' eb=>⟨rfl,I.bO (t':=s.toks) (λb o hb e=>eb b o (by simpa using hb) e) hf⟩
 self:=λ_ _ _ _ _ st h=>wpAny_pyIter_keyiter st h
section
variable{X:Cx}
theorem Inv.freeze{s:Qd}(I:Inv X pins σ H s)(e:H a=ž (.dT kvs)):∃o,s.heap.get? a=ž o/\Inv X pins σ (upd H a<|.be o<|.dT kvs) s:=by
 have ok:=(show zP X.prog X.w X.K H s.heap a (.dT kvs) from I.aw a _ e);have(z,y,xs,r,o,es,ep,h1,h2):=id ok;refine⟨o,h1,?_⟩;have Ly:zP X.prog X.w X.K (upd H a<|.be o<|.dT kvs) s.heap a (.dT kvs):=ok.dZ (λ_ _ _ q=>q) (λb q=>by rw[zu<|tI q e (by intro z;cases z)];exact q) λb ys q=>by rw[zu<|tI q e (by intro z;cases z)];exact q
 exact I.write (t':=s.toks) (h':=s.heap) (by rw[e];trivial) (.inl rfl) (λ_ _ _ q=>q) ⟨o,h1⟩ ⟨h1,Ly⟩
def OH(K:qc)(td:TE):TI:=λσ H R=>td σ H λx H1=>∃a kvs,x=.ref a/\((H1 a=ž (.dT kvs)/\∀o,R (Gh K a o kvs)<|upd H1 a<|.be o<|.dT kvs)\/∃o,H1 a=ž (.be o<|.dT kvs)/\R (Gh K a o kvs) H1)
theorem xU{d:ĺ}(hd:Wr (PE X d td)):Wr (PI X tg d<|OH X.K td):=by
 refine⟨?_⟩;intro pins s σ H R I h;refine az (hd.run pins s σ H _ I h) λv s1 hZ=>?_;have(x,H1,I1,r1,q1):=hZ;have(a,kvs,e,q):=q1;subst e;cases r1;have key:∀(H2:Hp) (o:Obj),Inv X pins σ H2 s1->H2 a=ž (.be o<|.dT kvs)->R (Gh X.K a o kvs) H2->ĩ (Ĭ X.prog X.w) X.A (a0m<|.ref a) (CF X pins σ tg R) X.xe s1:=λH2 o I2 e2 q2=>by
  have(sC,es,ep,ea,xd,dat,hsz,_):=IC I2 e2;refine zsr (es:=es) sC ⟨o,ea,xd,dat⟩ λh' hit kk=>?_;refine⟨s1.heap.objs.size,[s1.heap.objs.size],_,_,H2,rfl,I2.kept (t':=s1.toks) kk,znJ a s1.heap.objs.size o kvs ep ⟨es,dat⟩,by rw[<-hsz];exact hit,λb hb=>?_,q2⟩;have e:b=s1.heap.objs.size:=by simpa using hb
  subst e;exact I2.eY (qf _)<|I2.aw.fresh<|qf _
 rcases q with⟨e1,q⟩|⟨o,e1,q⟩
 .have(o,_,I2):=I1.freeze e1
  exact key _ o I2 zq<|q o
 .exact key H1 o I1 e1 q
end
open PySem.W (Looks)
noncomputable def zEY(C p:Qg):Obj:={cls:=.ref C,data:=.fields #[.ref p,.none,.none,.none,.bool Ż,.none]}
end Internal
namespace Internal
open PySem PySem.Spec PyProof.Rows
open PySem.W (Looks InstAt)
end Internal
namespace Internal
open PySem PySem.Spec PyProof.Rows
open PySem.W (Looks InstAt)
end Internal
namespace Internal
open PySem PySem.Spec PyProof.Rows
open PySem.W (Looks InstAt)
def XV(H:Hp)(a C:Qg)(fs:Qa (Str×V)):Prop:=∃ox,H a=ž (.be ox<|.own 0)/\ox.cls=.ref C/\PySem.W.notCls ox=ż/\
 ((fs=[]/\ox.dict=Ž)\/∃od dx,ox.dict=ž dx/\H dx=ž (.be od<|.xd fs))
end Internal
namespace Internal
open PySem PySem.Spec PyProof.Rows
open PySem.W (Looks InstAt)
end Internal
namespace Internal
open PySem PySem.Spec PyProof.Rows
open PySem.W (Looks InstAt)
def zEZ(a C:Qg)(d tb:Qb Qg)(h:Ļ):Prop:=∃oe vs,h.get? a=ž oe/\oe.cls=.ref C/\oe.dict=d/\oe.data=.fields vs/\vs[1]?=ž (tb.elim .none .ref)/\(tb=Ž->∃p,oe={zEY C p with dict:=d})
def pTb(T:Qg)(h:Ļ):Prop:=∃oT ts,h.get? T=ž oT/\oT.data=.fields ts/\ts[3]?=ž .none
def zE0(a C:Qg)(d tb:Qb Qg):HO:=.ext (zEZ a C d tb)
noncomputable def xTb(T:Qg):HO:=.ext (pTb T)
def zE1(H:Hp)(a C:Qg)(fs:Qa (Str×V)):Prop:=∃d tb,H a=ž (zE0 a C d tb)/\(∀T,tb=ž T->H T=ž (xTb T)/\T≠a)/\
 ((fs=[]/\d=Ž)\/∃od dx,d=ž dx/\H dx=ž (.be od<|.xd fs))
end Internal
namespace Internal
open PySem PySem.Spec PyProof.Rows
open PySem.W (Looks InstAt)
abbrev fZ:=St->Qg->Hp->Prop
def CXv(P:Qe)(w:Qh)(K:qc):lT:=λouter H s E e s'=>∃a H',e=.ref a/\s'.os=s.os/\a0W s'.gens/\Un (m6 outer) [] H H' s.heap s'.heap/\b9 P w K H' s'.heap/\E e Ž H'
end Internal
namespace Internal
open PySem PySem.Spec PyProof.Rows
open PySem.W (Looks InstAt)
noncomputable abbrev Cx.body(X:Cx)(pn:Qa (Qg×Obj))(E:Qc->Qd->Prop):Cx:={X with pn:=pn,xe:=E}
end Internal
namespace Internal
open PySem PySem.Spec PyProof.Rows
abbrev D:=Β
noncomputable def Bn:Key->D
 |.inl i=>.int i
 |.inr x=>.str x
def iG(ks:Qa Key):D:=.tuple (ks.map Bn)
def PL(K:qc)(H:Hp)(a:Qg)(xs:Qa V):Prop :=
 (∃o,H a=ž (.be o<|.lst xs))\/∃(o:Obj) (ah:Array Qc) (n:Nat),K.lookup a=ž o/\o.cls=.type "list"/\o.dict=Ž/\o.data=.seq ah n/\ah.size<=ħ/\zJ xs ah.toList
def XN(K:qc)(n:Str)(C:Qg):Prop:=Ĳ K İ n=ž (ž<|.ref C)
noncomputable def mR:Qa (D×D)->Bool
 | (.none,_)::_=>Ż
 | (.bool _,_)::_=>Ż
 |_=>ż
theorem aJ.sq{xs:Qa V}(h:aJ K H a xs):cH K H a xs:=by
 rcases h with h|⟨o,i,n,a,b,c,d,e,_⟩
 .exact .inl (.inl h)
 .exact .inr ⟨o,i,n,a,b,c,d,e⟩
theorem aJ.kp{xs:Qa V}(e:Kp H H')(h:aJ K H a xs):aJ K H' a xs:=h.keeps e.tup
mutual
inductive DF (K:qc) (H:Hp):V->D->Prop
 |aM:DF K H .aM .none
 |bl (b:Bool):DF K H (.bl b) (.bool b)
 |int (i:Int):DF K H (.int i) (.int i)
 |str (x:Str):DF K H (.str x) (.str x)
 |tup {a:Qg} {xs:Qa V} {ds:Qa D} (h:aJ K H a xs) (t:aI K H xs ds):DF K H (.ref a) (.tuple ds)
 |lst {a:Qg} {xs:Qa V} {ds:Qa D} (h:PL K H a xs) (t:aI K H xs ds):DF K H (.ref a) (.list ds)
 |kM {a:Qg} {o:Obj} {ws:Qa (Qa Key×V)} {kvs:Qa (D×D)} (h:H a=ž (.be o<|.dT ws)) (t:jJ K H ws kvs):DF K H (.ref a) (.dict kvs)
 |exc {a C:Qg} {n:Str} {fs:Qa (Str×V)} {ds:Qa (D×D)} (h:XV H a C fs) (e:XN K n C) (t:wO K H fs ds):DF K H (.ref a) (.dict<|(.none,.str n)::ds)
 |obj {a C dx:Qg} {o:Obj} {n:Str} {fs:Qa (Str×V)} {ds:Qa (D×D)} (h:H a=ž (.be o<|.ins C dx fs)) (e:XN K n C) (t:wO K H fs ds):DF K H (.ref a) (.dict<|(.bool ż,.str n)::ds)
inductive aI (K:qc) (H:Hp):Qa V->Qa D->Prop
 |nil:aI K H [] []
 |cons {v:V} {d:D} {vs:Qa V} {ds:Qa D} (h:DF K H v d) (t:aI K H vs ds):aI K H (v::vs) (d::ds)
inductive jJ (K:qc) (H:Hp):Qa (Qa Key×V)->Qa (D×D)->Prop
 |nil:jJ K H [] []
 |cons {k:Qa Key} {v:V} {d:D} {vs:Qa (Qa Key×V)} {ds:Qa (D×D)} (h:DF K H v d) (t:jJ K H vs ds):jJ K H ((k,v)::vs) ((iG k,d)::ds)
inductive wO (K:qc) (H:Hp):Qa (Str×V)->Qa (D×D)->Prop
 |nil:wO K H [] []
 |cons {k:Str} {v:V} {d:D} {vs:Qa (Str×V)} {ds:Qa (D×D)} (h:DF K H v d) (t:wO K H vs ds):wO K H ((k,v)::vs) ((.str k,d)::ds)
end
theorem XV.kp{C:Qg}{fs:Qa (Str×V)}(e:Kp H H')(h:XV H a C fs):XV H' a C fs:=by
 have(ox,h1,h2,h3,h4):=h;refine⟨ox,e.be _ _ _ h1,h2,h3,?_⟩;rcases h4 with h4|⟨od,dx,h5,h6⟩
 .exact .inl h4
 .exact .inr ⟨od,dx,h5,e.be _ _ _ h6⟩
theorem PL.kp{xs:Qa V}(e:Kp H H')(h:PL K H a xs):PL K H' a xs:=by
 rcases h with⟨o,h⟩|h
 .exact .inl ⟨o,e.be _ _ _ h⟩
 .exact .inr h
theorem PL.sq{xs:Qa V}(h:PL K H a xs):bu K H a xs:=by
 rcases h with⟨o,h⟩|h
 .exact .inl (.inr ⟨o,h⟩)
 .exact .inr h
theorem aI.kp(e:Kp H H'){v:Qa V}{d:Qa D}(h:aI K H v d):aI K H' v d :=
 aI.rec (motive_1:=λv d _=>DF K H' v d) (motive_2:=λv d _=>aI K H' v d) (motive_3:=λv d _=>jJ K H' v d) (motive_4:=λv d _=>wO K H' v d)
  .aM .bl .int .str (λh _ t=>.tup (h.keeps e.tup) t) (λh _ t=>.lst (h.kp e) t) (λh _ t=>.kM (e.be _ _ _ h) t) (λh n _ t=>.exc (h.kp e) n t) (λh n _ t=>.obj (e.be _ _ _ h) n t)
  .nil (λ_ _ a b=>.cons a b) .nil (λ_ _ a b=>.cons a b) .nil (λ_ _ a b=>.cons a b) h
theorem DF.kp(e:Kp H H'){v:V}{d:D}(h:DF K H v d):DF K H' v d:=by
 cases aI.kp e (.cons h .nil);assumption
section
theorem aI.ind{P:Qa V->Qa D->Prop}(n:P [] [])(c:∀{v d vs ds},DF K H v d->aI K H vs ds->P vs ds->P (v::vs) (d::ds)){vs:Qa V}{ds:Qa D}(h:aI K H vs ds):P vs ds :=
 aI.rec (motive_1:=λ_ _ _=>True) (motive_2:=λv d _=>P v d) (motive_3:=λ_ _ _=>True) (motive_4:=λ_ _ _=>True) trivial (λ_=>trivial) (λ_=>trivial) (λ_=>trivial) (λ_ _ _=>trivial) (λ_ _ _=>trivial) (λ_ _ _=>trivial) (λ_ _ _ _=>trivial) (λ_ _ _ _=>trivial) n (λh t _ q=>c h t q) trivial (λ_ _ _ _=>trivial) trivial (λ_ _ _ _=>trivial) h
theorem jJ.ind{P:Qa (Qa Key×V)->Qa (D×D)->Prop}(n:P [] [])(c:∀{k v d vs ds},DF K H v d->jJ K H vs ds->P vs ds->P ((k,v)::vs) ((iG k,d)::ds)){vs:Qa (Qa Key×V)}{ds:Qa (D×D)}(h:jJ K H vs ds):P vs ds :=
 jJ.rec (motive_1:=λ_ _ _=>True) (motive_2:=λ_ _ _=>True) (motive_3:=λv d _=>P v d) (motive_4:=λ_ _ _=>True) trivial (λ_=>trivial) (λ_=>trivial) (λ_=>trivial) (λ_ _ _=>trivial) (λ_ _ _=>trivial) (λ_ _ _=>trivial) (λ_ _ _ _=>trivial) (λ_ _ _ _=>trivial) trivial (λ_ _ _ _=>trivial) n (λh t _ q=>c h t q) trivial (λ_ _ _ _=>trivial) h
theorem aI.app{vs ws:Qa V}{ds es:Qa D}(h:aI K H vs ds)(q:aI K H ws es):aI K H (vs++ws) (ds++es):=
 h.ind (P:=λvs ds=>aI K H (vs++ws)<|ds++es) q λa _ t=>.cons a t
theorem aI.snoc{v:V}{d:D}(h:DF K H v d){vs:Qa V}{ds:Qa D}(t:aI K H vs ds):aI K H (vs++[v]) (ds++[d]):=t.app (.cons h .nil)
theorem aI.len:∀{vs:Qa V} {ds:Qa D},aI K H vs ds->vs.length=ds.length
 |_,_,.nil=>rfl
 |_,_,.cons _ t=>congrArg (·+1)<|aI.len t
theorem aI.get{vs:Qa V}{ds:Qa D}{d:D}(h:aI K H vs ds)(e:ds[i]?=ž d):∃v,vs[i]?=ž v/\DF K H v d:=by
 refine h.ind (P:=λvs ds=>∀i:Nat,ds[i]?=ž d->∃v,vs[i]?=ž v/\DF K H v d) (λi e=>?_) (λh _ t i e=>?_) i e
 .simp at e
 .cases i with
  |zero=>cases(show ž _=ž _ from e);exact⟨_,rfl,h⟩
  |succ i=>exact t i e
theorem aI.get'{vs:Qa V}{ds:Qa D}{v:V}(h:aI K H vs ds)(e:vs[i]?=ž v):∃d,ds[i]?=ž d/\DF K H v d:=by
 refine h.ind (P:=λvs ds=>∀i:Nat,vs[i]?=ž v->∃d,ds[i]?=ž d/\DF K H v d) (λi e=>?_) (λh _ t i e=>?_) i e
 .simp at e
 .cases i with
  |zero=>cases(show ž _=ž _ from e);exact⟨_,rfl,h⟩
  |succ i=>exact t i e
theorem aI.take:∀{vs:Qa V} {ds:Qa D} (n:Nat),aI K H vs ds->aI K H (vs.take n) (ds.take n)
 |_,_,0,_=>by simpa using aI.nil
 |_,_,n+1,.nil=>by simpa using aI.nil
 |_,_,n+1,.cons h t=>.cons h<|aI.take n t
theorem aI.drop:∀{vs:Qa V} {ds:Qa D} (n:Nat),aI K H vs ds->aI K H (vs.drop n) (ds.drop n)
 |_,_,0,q=>q
 |_,_,n+1,.nil=>by simpa using aI.nil
 |_,_,n+1,.cons h t=>aI.drop n t
theorem aI.set{v:V}{d:D}(h:DF K H v d):∀{vs:Qa V} {ds:Qa D} (n:Nat),aI K H vs ds->aI K H (vs.set n v) (ds.set n d)
 |_,_,_,.nil=>.nil
 |_,_,0,.cons _ t=>.cons h t
 |_,_,n+1,.cons a t=>.cons a<|aI.set h n t
end
inductive PU where
 |d (x:D) |l (xs:Qa D) |t (kvs:Qa (Qa Key×D)) |x (kvs:Qa (Qa K3×D))
inductive U where
 |d (x:D)
 |l (xs:Qa D) |t (kvs:Qa (Qa Key×D)) |k (kvs:Qa (Key×D))
 |o (c:Str) (fs:Qa (Str×PU))
noncomputable def U.own:U->Bool
 |.d _=>Ż
 |_=>ż
def cS{κ:Type}(K:qc)(H:Hp):Qa (κ×V)->Qa (κ×D)->Prop:=Μ λp q=>p.1=q.1/\DF K H p.2 q.2
noncomputable def fM(C dx:Qg)(vs:Qa (Str×V)):Qa (Qg×HO)->HO
 |[]=>.ins C dx vs
 | (b,p)::r=>.sub b p<|fM C dx vs r
inductive FO (K:qc) (H:Hp):Qa (Str×V)->Qa (Qg×HO)->Qa (Str×PU)->Prop
 |nil:FO K H [] [] []
 |d {n:Str} {v:V} {x:D} {vs:Qa (Str×V)} {ps:Qa (Qg×HO)} {fs:Qa (Str×PU)} (h:DF K H v x) (t:FO K H vs ps fs):FO K H ((n,v)::vs) ps ((n,.d x)::fs)
 |l {n:Str} {b:Qg} {us:Qa V} {xs:Qa D} {vs:Qa (Str×V)} {ps:Qa (Qg×HO)} {fs:Qa (Str×PU)} (h:aI K H us xs) (t:FO K H vs ps fs):FO K H ((n,.ref b)::vs) ((b,.lst us)::ps) ((n,.l xs)::fs)
 |t {n:Str} {b:Qg} {us:Qa (Qa Key×V)} {xs:Qa (Qa Key×D)} {vs:Qa (Str×V)} {ps:Qa (Qg×HO)} {fs:Qa (Str×PU)} (h:cS K H us xs) (t:FO K H vs ps fs):FO K H ((n,.ref b)::vs) ((b,.dT us)::ps) ((n,.t xs)::fs)
 |x {n:Str} {b:Qg} {us:Qa (Qa K3×V)} {xs:Qa (Qa K3×D)} {vs:Qa (Str×V)} {ps:Qa (Qg×HO)} {fs:Qa (Str×PU)} (h:cS K H us xs) (t:FO K H vs ps fs):FO K H ((n,.ref b)::vs) ((b,.dX us)::ps) ((n,.x xs)::fs)
def Rp(K:qc)(H:Hp)(v:V):U->Prop
 |.d x=>DF K H v x
 |.l xs=>∃a us,v=.ref a/\H a=ž (.lst us)/\aI K H us xs
 |.t kvs=>∃a ws,v=.ref a/\H a=ž (.dT ws)/\cS K H ws kvs
 |.k kvs=>∃a ws,v=.ref a/\H a=ž (.dK ws)/\cS K H ws kvs
 |.o c fs=>∃a C dx vs ps,v=.ref a/\H a=ž (fM C dx vs ps)/\ps≠[]/\XN K c C/\(ps.map (·.1)).Nodup/\FO K H vs ps fs/\dx∉ps.map (·.1)/\∀q∈ps,H q.1=ž (.own a)
def Mo:HO->Prop
 |.lst _=>True
 |.dT _=>True
 |.dK _=>True
 |.sub _ _ _=>True
 |_=>False
theorem Mo.fM{C:Qg}{vs:Qa (Str×V)}{ps:Qa (Qg×HO)}(h:ps≠[]):Mo (fM C dx vs ps):=by
 cases ps with
 |nil=>exact absurd rfl h
 |cons p r=>trivial
theorem Rp.own{v:V}{u:U}(h:Rp K H v u)(o:u.own=ż):∃a c,v=.ref a/\H a=ž c/\Mo c:=by
 cases u with
 |d x=>cases o
 |l xs=>have(a,us,e,q,_):=h;exact⟨a,_,e,q,trivial⟩
 |t xs=>have(a,us,e,q,_):=h;exact⟨a,_,e,q,trivial⟩
 |k xs=>have(a,us,e,q,_):=h;exact⟨a,_,e,q,trivial⟩
 |o c fs=>have(a,C,dx,vs,ps,e,q,n,_):=h;exact⟨a,_,e,q,Mo.fM n⟩
theorem cS.kp{κ:Type}(e:Kp H H'){ws:Qa (κ×V)}{kvs:Qa (κ×D)}(h:cS K H ws kvs):cS K H' ws kvs:=Paired.iX h λ_ _ z=>⟨z.1,z.2.kp e⟩
theorem FO.kp(e:Kp H H'){vs:Qa (Str×V)}{ps:Qa (Qg×HO)}{fs:Qa (Str×PU)}(h:FO K H vs ps fs):FO K H' vs ps fs:=by
 induction h with
 |nil=>exact .nil
 |d h _ ih=>exact .d (h.kp e) ih
 |l h _ ih=>exact .l (h.kp e) ih
 |t h _ ih=>exact .t (h.kp e) ih
 |x h _ ih=>exact .x (h.kp e) ih
theorem Rp.kp{v:V}{u:U}(h:Rp K H v u)(e:Kp H H')(o:u.own=ż->∀a c,v=.ref a->H a=ž c->H' a=ž c):Rp K H' v u:=by
 cases u with
 |d x=>exact DF.kp e h
 |l xs=>have(a,us,ev,q,t):=h;exact⟨a,us,ev,o rfl a _ ev q,t.kp e⟩
 |t xs=>have(a,us,ev,q,t):=h;exact⟨a,us,ev,o rfl a _ ev q,t.kp e⟩
 |k xs=>have(a,us,ev,q,t):=h;exact⟨a,us,ev,o rfl a _ ev q,t.kp e⟩
 |o c fs=>have(a,C,dx,vs,ps,ev,q,n,x,nd,t,d,w):=h;exact⟨a,C,dx,vs,ps,ev,o rfl a _ ev q,n,x,nd,t.kp e,d,λz hz=>e.own _ _<|w z hz⟩
abbrev En:=Qa (Qb U)
def Ow(ρ:En)(σ:St)(a:Qg):Prop:=∃(i:Nat) (u:U),ρ[i]?=ž (ž u)/\u.own=ż/\σ[i]?=ž (ž<|.ref a)
structure Rs (K:qc) (ρ:En) (σ:St) (H:Hp):Prop where
 len:ρ.length=σ.length
 rep:∀(i:Nat) (u:U),ρ[i]?=ž (ž u)->∃v,σ[i]?=ž (ž v)/\Rp K H v u
 apart:∀(i j:Nat) (u w:U),ρ[i]?=ž (ž u)->ρ[j]?=ž (ž w)->u.own=ż->w.own=ż->σ[i]?=σ[j]?->i=j
def yJ(A:Qg->Prop)(H H':Hp):Prop:=∀a o,H a=ž o->¬A a->H' a=ž o
structure eJ (ρ ai:En):Prop where
 len:ai.length=ρ.length
 own:∀(i:Nat) (u:U),ai[i]?=ž (ž u)->u.own=ż->∃w,ρ[i]?=ž (ž w)/\w.own=ż
 live:∀(i:Nat) (u:U),ρ[i]?=ž (ž u)->∃w,ai[i]?=ž (ž w)
def Nw(H:Hp)(v:V)(u:U):Prop:=u.own=ż->∃a,v=.ref a/\H a=Ž
structure Go (K:qc) (ρ:En) (σ:St) (H:Hp) (ai:En) (H':Hp):Prop where
 rs:Rs K ai σ H'
 fr:yJ (Ow ρ σ) H H'
 shr:eJ ρ ai
 dm:∀a,H' a=Ž->H a=Ž
section
variable{ρ ai cV:En}{uO:Hp}
theorem Rs.ow(r:Rs K ρ σ H)(o:Ow ρ σ a):∃c,H a=ž c/\Mo c:=by
 have(i,u,e,ou,es):=o;have(v,ev,p):=r.rep i u e;rw[es]at ev;cases ev;have(b,c,eb,q,m):=p.own ou;cases eb;exact⟨c,q,m⟩
theorem yJ.kp(r:Rs K ρ σ H)(f:yJ (Ow ρ σ) H H'):Kp H H':=by
 refine⟨λb xs h=>f b _ h λo=>?_,λb ob u h=>f b _ h λo=>?_,λb x h=>f b _ h λo=>?_⟩
 all_goals
  have(c,q,m):=r.ow o;rw[h]at q;cases q;exact m
theorem eJ.refl(ρ:En):eJ ρ ρ:=⟨rfl,λi u e o=>⟨u,e,o⟩,λi u e=>⟨u,e⟩⟩
theorem eJ.trans(a:eJ ρ ai)(b:eJ ai cV):eJ ρ cV:=⟨b.1.trans a.1,λi u e o=>let ⟨w,e',o'⟩:=b.2 i u e o;a.2 i w e' o',λi u e=>let ⟨w,e'⟩:=a.3 i u e;b.3 i w e'⟩
theorem eJ.ow(s:eJ ρ ai)(o:Ow ai σ a):Ow ρ σ a:=by
 have(i,u,e,ou,es):=o;have(w,e',o'):=s.2 i u e ou;exact⟨i,w,e',o',es⟩
theorem Go.refl(r:Rs K ρ σ H):Go K ρ σ H ρ H:=⟨r,λ_ _ h _=>h,eJ.refl _,λ_ h=>h⟩
theorem Go.trans(a:Go K ρ σ H ai H')(b:Go K ai σ H' cV uO):Go K ρ σ H cV uO :=
 ⟨b.rs,λc o h n=>b.fr c o (a.fr c o h n) λz=>n<|a.shr.ow z,a.shr.trans b.shr,λc h=>a.dm c<|b.dm c h⟩
theorem Go.kp(r:Rs K ρ σ H)(g:Go K ρ σ H ai H'):Kp H H':=g.fr.kp r
theorem Go.dZ{v:V}{u:U}(r:Rs K ρ σ H)(g:Go K ρ σ H ai H')(h:Rp K H v u)(n:u.own=ż->∃a,v=.ref a/\¬Ow ρ σ a):Rp K H' v u:=by
 refine h.kp (g.kp r) λo a c ev q=>?_;have(b,eb,nb):=n o;cases ev;cases eb;exact g.fr _ _ q nb
theorem Nw.out{v:V}{u:U}(r:Rs K ρ σ H)(n:Nw H v u):u.own=ż->∃a,v=.ref a/\¬Ow ρ σ a:=λo=>by
 have(a,e,h):=n o;refine⟨a,e,λz=>?_⟩;have(c,q,_):=r.ow z;rw[h]at q;cases q
theorem dJ.dm(s:dJ H H'):∀a,H' a=Ž->H a=Ž:=λa h=>by
 cases e:H a with
 |none=>rfl
 |some o=>rw[s a o e]at h;cases h
theorem Go.grow(r:Rs K ρ σ H)(s:dJ H H'):Go K ρ σ H ρ H' :=
 ⟨⟨r.len,λi u e=>let ⟨v,ev,p⟩:=r.rep i u e;⟨v,ev,p.kp s.kp λ_ a c _ q=>s a c q⟩,r.apart⟩,λa o h _=>s a o h,eJ.refl _,s.dm⟩
end
inductive Ar where
 |s (i:Nat) |u (x:U)
noncomputable def Ar.get(ρ:En):Ar->Qb U
 |.s i=>(ρ[i]?).join
 |.u x=>ž x
def nQ(K:qc)(ρ:En)(σ:St)(H H':Hp)(v:V):Ar->Prop
 |.s i=>σ[i]?=ž (ž v)/\∃u,ρ[i]?=ž (ž u)
 |.u x=>Rp K H' v x/\Nw H v x
abbrev ME:=En->Qb (Ar×En)
abbrev MA:=En->Qb (Qa Ar×En)
abbrev MT:=En->Qb (Bool×En)
def VE(K:qc)(t:TE)(m:ME):Prop :=
 ∀(ρ:En) (σ:St) (H:Hp) (a:Ar) (ai:En) (Q:VK),Rs K ρ σ H->m ρ=ž (a,ai)->(∀v H',Go K ρ σ H ai H'->nQ K ai σ H H' v a->Q v H')->t σ H Q
def VT(K:qc)(t:TT)(m:MT):Prop :=
 ∀(ρ:En) (σ:St) (H:Hp) (b:Bool) (ai:En) (Q:Bool->Hp->Prop),Rs K ρ σ H->m ρ=ž (b,ai)->(∀H',Go K ρ σ H ai H'->Q b H')->t σ H Q
structure Gn (K:qc) (ρ:En) (σ:St) (H H':Hp) (vs:Qa V) (as:Qa Ar):Prop where
 len:vs.length=as.length
 ar:∀(i:Nat) (a:Ar),as[i]?=ž a->∃v,vs[i]?=ž v/\nQ K ρ σ H H' v a
 ap:∀(i j:Nat) (x y:U),as[i]?=ž (.u x)->as[j]?=ž (.u y)->x.own=ż->y.own=ż->vs[i]?=vs[j]?->i=j
def lS(K:qc)(t:TA)(m:MA):Prop :=
 ∀(ρ:En) (σ:St) (H:Hp) (as:Qa Ar) (ai:En) (Q:Qa V->Hp->Prop),Rs K ρ σ H->m ρ=ž (as,ai)->(∀vs H',Go K ρ σ H ai H'->Gn K ai σ H H' vs as->Q vs H')->t σ H Q
section
variable{ρ ai cV:En}{uO:Hp}{v:V}{a:Ar}{u:U}
theorem Nw.mono(n:Nw H' v u)(h:∀a,H' a=Ž->H a=Ž):Nw H v u:=λo=>let ⟨a,e,q⟩:=n o;⟨a,e,h a q⟩
theorem Nw.rW(r:Rs K ρ σ H)(g:Go K ρ σ H ai H')(n:Nw H v u):u.own=ż->∃a,v=.ref a/\¬Ow ai σ a:=λo=>by
 have(b,e,q):=n.out r o;exact⟨b,e,λz=>q<|g.shr.ow z⟩
theorem nQ.later(r:Rs K ρ σ H)(g1:Go K ρ σ H ai H')(g2:Go K ai σ H' cV uO)(h:nQ K ai σ H H' v a)(e:a.get cV=ž u):Rp K uO v u:=by
 cases a with
 |s i=>
  have(es,_):=h;have e':cV[i]?=ž (ž u):=by
   cases q:cV[i]? with
   |none=>rw[show Ar.get cV (.s i)=(cV[i]?).join from rfl,q]at e;cases e
   |some o=>
    rw[show Ar.get cV (.s i)=(cV[i]?).join from rfl,q]at e;cases o with
    |none=>cases e
    |some x=>cases e;rfl
  have(w,ew,p):=g2.rs.rep i u e';rw[es]at ew;cases ew;exact p
 |u x=>
  cases(show ž x=ž u from e);exact g2.dZ g1.rs h.1<|h.2.rW r g1
theorem nQ.now(r:Rs K ρ σ H)(g1:Go K ρ σ H ai H')(h:nQ K ai σ H H' v a)(e:a.get ai=ž u):Rp K H' v u:=h.later r g1 (Go.refl g1.rs) e
theorem Nw.data{x:D}:Nw H v (.d x):=λo=>by cases o
noncomputable def zi(i:Nat):ME:=λρ=>match ρ[i]? with
 |some (ž _)=>ž (.s i,ρ)
 |_=>Ž
theorem zd:VE K (fQ i) (zi i):=by
 intro ρ σ H a ai Q r e q;unfold zi at e;split at e
 .rename_i u eu
  cases e;have(v,ev,p):=r.rep i u eu;exact⟨v,ev,q v H (Go.refl r) ⟨ev,u,eu⟩⟩
 .cases e
noncomputable def mC(x:D):ME:=λρ=>ž (.u<|.d x,ρ)
theorem Fe{c:V}{x:D}(h:∀H,DF K H c x):VE K (tC c) (mC x):=by
 intro ρ σ H a ai Q r e q;cases e;exact q _ _ (Go.refl r) ⟨h H,Nw.data⟩
theorem zk{n:Int}:VE K (tC<|.int n) (mC<|.int n):=Fe λ_=>.int n
theorem iy{n:Str}:VE K (tC<|.str n) (mC<|.str n):=Fe λ_=>.str n
theorem lh{n:Bool}:VE K (tC<|.bl n) (mC<|.bool n):=Fe λ_=>.bl n
theorem rF:VE K (tC .aM) (mC .none):=Fe λ_=>.aM
def VO(K:qc)(r:R2)(f:U->U->Qb U):Prop :=
 ∀(x y:V) (a b u:U) (H:Hp) (Q:VK),Rp K H x a->Rp K H y b->f a b=ž u->(∀v H',dJ H H'->Rp K H' v u->Nw H v u->Q v H')->r x y H Q
def ao(f:U->U->Qb U)(ma mb:ME):ME:=λρ=>(ma ρ).bind λp=>(mb p.2).bind λq=>(p.1.get q.2).bind λx=>(q.1.get q.2).bind λy=>(f x y).bind λu=>ž (.u u,q.2)
theorem bQ{o:Qb α}{f:α->Qb β}{b:β}(h:o.bind f=ž b):∃a,o=ž a/\f a=ž b:=Option.bind_eq_some_iff.mp h
theorem zo{r:R2}{f:U->U->Qb U}{ma mb:ME}(h:VO K r f)(ha:VE K ta ma)(hb:VE K tb mb):VE K (qE r ta tb) (ao f ma mb):=by
 intro ρ σ H a ai Q rs e q;obtain⟨⟨a1,ρ1⟩,e1,e⟩:=bQ e;obtain⟨⟨b1,au⟩,e2,e⟩:=bQ e;have(x,ex,e):=bQ e;have(y,ey,e):=bQ e;have(u,eu,e):=bQ e;cases e;refine ha ρ σ H a1 ρ1 _ rs e1 λv1 H1 g1 k1=>hb ρ1 σ H1 b1 au _ g1.rs e2 λv2 H2 g2 k2=>?_;refine h _ _ x y u H2 _ (k1.later rs g1 g2 ex) (k2.now g1.rs g2 ey) eu λv H3 s p n=>?_;exact q v H3 ((g1.trans g2).trans<|Go.grow g2.rs s) ⟨p,n.mono (g1.trans g2).dm⟩
def VU(K:qc)(r:V->Hp->VK->Prop)(f:U->Qb U):Prop :=
 ∀(x:V) (a u:U) (H:Hp) (Q:VK),Rp K H x a->f a=ž u->(∀v H',dJ H H'->Rp K H' v u->Nw H v u->Q v H')->r x H Q
def cX(f:U->Qb U)(ma:ME):ME:=λρ=>(ma ρ).bind λp=>(p.1.get p.2).bind λx=>(f x).bind λu=>ž (.u u,p.2)
theorem uU{r:V->Hp->VK->Prop}{f:U->Qb U}{ma:ME}(h:VU K r f)(ha:VE K ta ma):VE K (KZ r ta) (cX f ma):=by
 intro ρ σ H a ai Q rs e q;obtain⟨⟨a1,ρ1⟩,e1,e⟩:=bQ e;have(x,ex,e):=bQ e;have(u,eu,e):=bQ e;cases e;refine ha ρ σ H a1 ρ1 _ rs e1 λv1 H1 g1 k1=>?_;refine h _ x u H1 _ (k1.now rs g1 ex) eu λv H3 s p n=>?_;exact q v H3 (g1.trans<|Go.grow g1.rs s) ⟨p,n.mono g1.dm⟩
noncomputable def zp:MA:=λρ=>ž ([],ρ)
noncomputable def ze(me:ME)(ma:MA):MA:=λρ=>(me ρ).bind λp=>(ma p.2).bind λq=>ž (p.1::q.1,q.2)
theorem zj:lS K jZ zp:=by
 intro ρ σ H as ai Q r e q;cases e;exact q [] H (Go.refl r) ⟨rfl,λi a e=>by simp at e,λi j x y e=>by simp at e⟩
theorem zb{t:TA}{me:ME}{ma:MA}(he:VE K te me)(ha:lS K t ma):lS K (j0 te t) (ze me ma):=by
 intro ρ σ H as ai Q r e q;obtain⟨⟨a1,ρ1⟩,e1,e⟩:=bQ e;obtain⟨⟨F8,au⟩,e2,e⟩:=bQ e;cases e;refine he ρ σ H a1 ρ1 _ r e1 λv1 H1 g1 k1=>ha ρ1 σ H1 F8 _ _ g1.rs e2 λvs H2 g2 s2=>?_;have Lv:∀x,a1=.u x->x.own=ż->∃b c,v1=.ref b/\H1 b=ž c:=λx ea o=>by
  subst ea;have(b,c,eb,hb,_):=k1.1.own o;exact⟨b,c,eb,hb⟩
 have rY:∀(j:Nat) (y:U),F8[j]?=ž (.u y)->y.own=ż->∃b,vs[j]?=ž (.ref b)/\H1 b=Ž:=λj y ej o=>by
  have(v,ev,k):=s2.ar j _ ej;have(b,eb,hb):=k.2 o;subst eb;exact⟨b,ev,hb⟩
 have ne:∀(x:U) (j:Nat) (y:U),a1=.u x->x.own=ż->F8[j]?=ž (.u y)->y.own=ż->ž v1≠vs[j]?:=λx j y ea ox ej oy z=>by
  have(b,c,e1,h1):=Lv x ea ox;have(b',e2,h2):=rY j y ej oy;rw[e2,e1]at z;cases z;rw[h1]at h2;cases h2
 refine q (v1::vs) H2 (g1.trans g2) ⟨by simp[s2.len],λi a ei=>?_,λi j x y ei ej ox oy ev=>?_⟩
 .cases i with
  |zero=>
   cases(show ž a1=ž a from ei);refine⟨v1,rfl,?_⟩;cases a1 with
   |s k=>
    have(es,w,ew):=k1;exact⟨es,g2.shr.live k w ew⟩
   |u x=>exact⟨g2.dZ g1.rs k1.1<|k1.2.rW r g1,k1.2⟩
  |succ i=>
   have(v,ev,k):=s2.ar i a ei;refine⟨v,ev,?_⟩;cases a with
   |s k'=>exact k
   |u x=>exact⟨k.1,k.2.mono g1.dm⟩
 .cases i with
  |zero=>
   cases j with
   |zero=>rfl
   |succ j=>exact absurd ev<|ne x j y (qy ei) ox ej oy
  |succ i=>
   cases j with
   |zero=>exact absurd ev.symm<|ne y i x (qy ej) oy ei ox
   |succ j=>exact congrArg (·+1)<|s2.ap i j x y ei ej ox oy ev
end
open Classical in
def qU(c:Int->Int->Prop)(g:Int->Int->D):U->U->Qb U
 |.d (.int i),.d (.int j)=>if c i j then ž (.d<|g i j)else Ž
 |_,_=>Ž
noncomputable def fI(g:Int->Int->D):U->U->Qb U
 |.d (.int i),.d (.int j)=>ž<|.d<|g i j
 |_,_=>Ž
section
theorem DF.int_inv{v:V}{i:Int}(h:DF K H v (.int i)):v=.int i:=by cases h;rfl
theorem DF.str_inv{v:V}(h:DF K H v (.str x)):v=.str x:=by cases h;rfl
theorem DF.bT{v:V}{b:Bool}(h:DF K H v (.bool b)):v=.bl b:=by cases h;rfl
theorem DF.aD{v:V}{ds:Qa D}(h:DF K H v (.tuple ds)):∃a xs,v=.ref a/\aJ K H a xs/\aI K H xs ds:=by cases h with|tup h t=>exact⟨_,_,rfl,h,t⟩
theorem DF.lst_inv{v:V}{ds:Qa D}(h:DF K H v (.list ds)):∃a xs,v=.ref a/\PL K H a xs/\aI K H xs ds:=by cases h with|lst h t=>exact⟨_,_,rfl,h,t⟩
theorem DF.cQ{v:V}{ds:Qa (D×D)}(h:DF K H v (.dict ds))(nx:mR ds=ż):∃a o ws,v=.ref a/\H a=ž (.be o<|.dT ws)/\jJ K H ws ds:=by
 cases h with
 |kM h t=>exact⟨_,_,_,rfl,h,t⟩
 |exc h n t=>cases nx
 |obj h n t=>cases nx
theorem xm{c:Int->Int->Prop}{g:Int->Int->V}{gd:Int->Int->D}(h:∀i j H,DF K H (g i j)<|gd i j):VO K (rI c g) (qU c gd):=by
 intro x y a b u H Q ha hb e q;unfold qU at e;split at e
 .rename_i i j
  split at e
  .rename_i hc
   cases e;exact⟨i,j,DF.int_inv ha,DF.int_inv hb,hc,q _ _ (λ_ _ z=>z) (h i j H) Nw.data⟩
  .cases e
 .cases e
theorem xb{g:Int->Int->V}{gd:Int->Int->D}(h:∀i j H,DF K H (g i j)<|gd i j):VO K (km g) (fI gd):=by
 intro x y a b u H Q ha hb e q;unfold fI at e;split at e
 .rename_i i j
  cases e;exact⟨i,j,DF.int_inv ha,DF.int_inv hb,q _ _ (λ_ _ z=>z) (h i j H) Nw.data⟩
 .cases e
def jN:=fI λi j=>.int<|i+j
def pL:=fI λi j=>.int<|i - j
def jq:=qU wY λi j=>.int<|i * j
def lZ:=qU (λ_ j=>0 < j) λi j=>.int<|i % j
def Ab:=qU Ac λi j=>.int<|i / j
def DI:=qU xo λi j=>.int<|i.fdiv j
def CW:=qU Dl λi j=>.int<|i^j.toNat
def Ck:=fI λi j=>.bool<|decide<|i < j
def Cm:=fI λi j=>.bool<|decide<|i<=j
def wA:=fI λi j=>.bool<|decide<|j < i
def Cn:=fI λi j=>.bool<|decide<|j<=i
theorem lF:VO K (km λi j=>.int<|i+j) jN:=xb λi j H=>.int _
theorem tQ:VO K (km λi j=>.int<|i - j) pL:=xb λi j H=>.int _
theorem mr:VO K (rI wY λi j=>.int<|i * j) jq:=xm λi j H=>.int _
theorem pT:VO K (rI (λ_ j=>0 < j) λi j=>.int<|i % j) lZ:=xm λi j H=>.int _
theorem Py:VO K (rI Ac λi j=>.int<|i / j) Ab:=xm λi j H=>.int _
theorem Px:VO K (rI xo λi j=>.int<|i.fdiv j) DI:=xm λi j H=>.int _
theorem zAB:VO K (rI Dl λi j=>.int<|i^j.toNat) CW:=xm λi j H=>.int _
theorem Hf:VO K (km λi j=>.bl<|decide<|i < j) Ck:=xb λi j H=>.bl _
theorem He:VO K (km λi j=>.bl<|decide<|i<=j) Cm:=xb λi j H=>.bl _
theorem Aa:VO K (km λi j=>.bl<|decide<|j < i) wA:=xb λi j H=>.bl _
theorem Hd:VO K (km λi j=>.bl<|decide<|j<=i) Cn:=xb λi j H=>.bl _
noncomputable def pK:U->Qb U
 |.d (.int i)=>ž<|.d<|.int (-i)
 |_=>Ž
theorem vf:VU K (rU λi=>.int (-i)) pK:=by
 intro x a u H Q ha e q;unfold pK at e;split at e
 .rename_i i
  cases e;exact⟨i,DF.int_inv ha,q _ _ (λ_ _ z=>z) (.int _) Nw.data⟩
 .cases e
noncomputable def U.py:U->Qb D
 |.d x=>ž x
 |.l xs=>ž<|.list xs
 |_=>Ž
theorem aI.dv{v:Qa V}{d:Qa D}(h:aI K H v d):ϛ d=Ż->nM K H v d :=
 aI.rec (motive_1:=λv d _=>d.hasDict=Ż->DV K H v d) (motive_2:=λv d _=>ϛ d=Ż->nM K H v d) (motive_3:=λ_ _ _=>True) (motive_4:=λ_ _ _=>True)
  (λ_=>.aM) (λb _=>.bl b) (λi _=>.int i) (λx _=>.str x) (λh _ t q=>.tup (aJ.sq h)<|t (by simpa [ϐ] using q)) (λh _ t q=>.lst h.sq<|t (by simpa [ϐ] using q))
  (λ_ _ _ q=>by simp[ϐ]at q) (λ_ _ _ _ q=>by simp[ϐ]at q) (λ_ _ _ _ q=>by simp[ϐ]at q)
  (λ_=>.nil) (λ_ _ a b q=>by
   simp only[ϛ,a4k]at q;exact .cons (a q.1)<|b q.2) trivial (λ_ _ _ _=>trivial) trivial (λ_ _ _ _=>trivial) h
theorem DF.dv{v:V}{d:D}(h:DF K H v d)(q:d.hasDict=Ż):DV K H v d:=by
 cases aI.dv (.cons h .nil) (by simp[ϛ,q]);assumption
theorem Rp.dv{v:V}{u:U}{x:D}(h:Rp K H v u)(e:u.py=ž x)(q:x.hasDict=Ż):DV K H v x:=by
 cases u with
 |d y=>cases e;exact DF.dv h q
 |l xs=>
  cases e;have(a,us,rfl,h1,h2):=h;exact .lst (bu.of h1)<|aI.dv h2 (by simpa [ϐ] using q)
 |t=>cases e
 |k=>cases e
 |o=>cases e
mutual
theorem EO:∀(x:D),x.canLay0=ż->x.hasDict=Ż
 |.none,_=>rfl
 |.bool _,_=>rfl
 |.int _,_=>rfl
 |.str _,_=>rfl
 |.list xs,h=>by simp only[ϐ];exact bR xs (by simpa [a2A] using h)
 |.tuple xs,h=>by simp only[ϐ];exact bR xs (by simpa [a2A] using h)
 |.dict _,h=>by simp[a2A]at h
theorem bR:∀(xs:Qa D),a0r xs=ż->ϛ xs=Ż
 |[],_=>rfl
 |x::xs,h=>by
  simp only[a0r,Ŕ]at h;simp only[ϛ,EO x h.1,bR xs h.2];rfl
end
def KG(K:qc)(neg:Bool):R2:=λx y H Q=>∃a b,DV K H x a/\DV K H y b/\Ϩ a=ż/\Ϩ b=ż/\Q (.bl (if neg=ż then !PyData.eqv a b else a0b a b)) H
theorem xG{X:Cx}(K:qc)(hK:X.K=K){k:Nat}(hr:aE k X.A):bL X (Ň .Eq) (KG K Ż):=by
 subst hK;intro pins s σ H x y v u Q I rx ry h;have(a,b,da,db,sa,sb,q):=h;have(as,ra):=DV.reads I da rx;have(bs,rb):=DV.reads I db ry;exact SeqAt.compareEq_shaped ra rb sa sb hr.units ⟨.bl _,H,I,rfl,q⟩
theorem OG{X:Cx}(K:qc)(hK:X.K=K){k:Nat}(hr:aE k X.A):bL X (Ň .NotEq) (KG K ż):=by
 subst hK;intro pins s σ H x y v u Q I rx ry h;have(a,b,da,db,sa,sb,q):=h;have(as,ra):=DV.reads I da rx;have(bs,rb):=DV.reads I db ry;exact SeqAt.compareNe_shaped ra rb sa sb hr.units ⟨.bl _,H,I,rfl,q⟩
def fE(neg:Bool)(a b:U):Qb U:=a.py.bind λx=>b.py.bind λy=>if Ϩ x=ż/\Ϩ y=ż then ž (.d<|.bool (if neg=ż then !PyData.eqv x y else a0b x y))else Ž
theorem tP(neg:Bool):VO K (KG K neg) (fE neg):=by
 intro x y a b u H Q ha hb e q;have(dx,ex,e):=bQ e;have(dy,ey,e):=bQ e;split at e
 .rename_i hs
  cases e;exact⟨dx,dy,ha.dv ex<|EO _<|ï hs.1,hb.dv ey<|EO _<|ï hs.2,hs.1,hs.2,q _ _ (λ_ _ z=>z) (.bl _) Nw.data⟩
 .cases e
theorem aI.bt{xs:Qa V}{ds:Qa D}{i:Int}{d:D}(h:aI K H xs ds)(e:Internal.bt ds i=ž d):∃v,Internal.bt xs i=ž v/\DF K H v d:=by
 unfold Internal.bt at e ⊢;have(j,ej,e):=bQ e;have(v,ev,k):=h.get e;refine⟨v,?_,k⟩;rw[h.len,ej];exact ev
def du:U->U->Qb U
 |.l ds,.d (.int i)=>(bt ds i).map .d
 |.d (.list ds),.d (.int i)=>(bt ds i).map .d
 |_,_=>Ž
def aT:U->U->Qb U
 |.d (.tuple ds),.d (.int i)=>(bt ds i).map .d
 |_,_=>Ž
theorem fj:VO K (KA K) du:=by
 intro x y a b u H Q ha hb e q;unfold du at e;split at e
 .rename_i ds i
  have(d,ed,rfl):=qt.mp e;have(p,us,rfl,h1,h2):=ha;have(v,ev,k):=h2.bt ed;exact⟨p,us,i,v,rfl,DF.int_inv hb,bu.of h1,ev,q _ _ (λ_ _ z=>z) k Nw.data⟩
 .rename_i ds i
  have(d,ed,rfl):=qt.mp e;have(p,us,rfl,h1,h2):=DF.lst_inv ha;have(v,ev,k):=h2.bt ed;exact⟨p,us,i,v,rfl,DF.int_inv hb,h1.sq,ev,q _ _ (λ_ _ z=>z) k Nw.data⟩
 .cases e
theorem zA:VO K (Kz K) aT:=by
 intro x y a b u H Q ha hb e q;unfold aT at e;split at e
 .rename_i ds i
  have(d,ed,rfl):=qt.mp e;have(p,us,rfl,h1,h2):=DF.aD ha;have(v,ev,k):=h2.bt ed;exact⟨p,us,i,v,rfl,DF.int_inv hb,(aJ.sq h1),ev,q _ _ (λ_ _ z=>z) k Nw.data⟩
 .cases e
end
section
variable{ρ ai:En}
theorem jS{c:HO}(h:H a=ž c)(m:Mo c)(o:HO):Kp H (upd H a o):=by
 refine⟨λb xs e=>?_,λb ob u e=>?_,λb x e=>?_⟩
 all_goals
  rw[zu<|tI e h (by rintro rfl;exact m)];exact e
theorem Go.own{u u':U}{o:HO}(r:Rs K ρ σ H)(e:ρ[i]?=ž (ž u))(ou:u.own=ż)(es:σ[i]?=ž (ž<|.ref a))(p:Rp K (upd H a o) (.ref a) u'):Go K ρ σ H (ρ.set i<|some u') (upd H a o):=by
 have hi:i < ρ.length:=(qm.mp e).1;have(c,hc,mc):=r.ow ⟨i,u,e,ou,es⟩;have kp:=jS hc mc o;refine⟨⟨by rw[ŀ];exact r.len,λj w ej=>?_,λj k w w' ej ek oj ok yD=>?_⟩,λb ob hb n=>?_,⟨ù,λj w ej oj=>?_,λj w ej=>?_⟩,λb hb=>?_⟩
 .by_cases hj:i=j
  .subst hj
   rw[ŉ hi]at ej;cases ej;exact⟨_,es,p⟩
  .rw[qD hj]at ej
   have(v,ev,q):=r.rep j w ej;refine⟨v,ev,q.kp kp λow b c' eb hb=>?_⟩;have ne:b≠a:=by
    rintro rfl;exact hj<|r.apart i j u w e ej ou ow (by rw[es,ev,eb])
   rw[zu ne];exact hb
 .have own:∀(j:Nat) (w:U),(ρ.set i<|some u')[j]?=ž (ž w)->w.own=ż->∃w',ρ[j]?=ž (ž w')/\w'.own=ż:=λj w ej oj=>by
   by_cases hj:i=j
   .subst hj;exact⟨u,e,ou⟩
   .rw[qD hj]at ej;exact⟨w,ej,oj⟩
  have(x,ex,ox):=own j w ej oj;have(y,ey,oy):=own k w' ek ok;exact r.apart j k x y ex ey ox oy yD
 .have ne:b≠a:=by
   rintro rfl;exact n ⟨i,u,e,ou,es⟩
  rw[zu ne];exact hb
 .by_cases hj:i=j
  .subst hj;exact⟨u,e,ou⟩
  .rw[qD hj]at ej;exact⟨w,ej,oj⟩
 .by_cases hj:i=j
  .subst hj;exact⟨u',å hi⟩
  .exact⟨w,by rw[qD hj];exact ej⟩
 .by_cases eS:b=a
  .subst eS;rw[zq]at hb;cases hb
  .rw[zu eS]at hb;exact hb
theorem Rp.lP{v:V}{u:U}(h:Rp K H v u)(o:u.own=ż):∃a,v=.ref a:=let ⟨a,_,e,_⟩:=h.own o;⟨a,e⟩
def Fz(K:qc)(H:Hp)(v:V)(H':Hp):Prop :=
 (∃a xs o,v=.ref a/\K.lookup a=Ž/\H a=ž (.lst xs)/\H'=upd H a (.be o<|.lst xs))\/(∃a xs o,v=.ref a/\K.lookup a=Ž/\H a=ž (.dT xs)/\H'=upd H a (.be o<|.dT xs))\/
  ((∀a,v=.ref a->(∀xs,H a≠ž (.lst xs))/\∀xs,H a≠ž (.dT xs))/\H'=H)
def K7(K:qc)(t:TE):TE:=λσ H Q=>t σ H λv H1=>∀H2,Fz K H1 v H2->Q v H2
theorem Inv.sI{X:Cx}{s:Qd}{xs:Qa V}(I:Inv X pins σ H s)(e:H a=ž (.lst xs)):∃o,s.heap.get? a=ž o/\Inv X pins σ (upd H a<|.be o<|.lst xs) s:=by
 have ok:=(show zP X.prog X.w X.K H s.heap a (.lst xs) from I.aw a _ e);have(z,ah,n,r,h1):=id ok;refine⟨_,h1,?_⟩;have Ly:zP X.prog X.w X.K (upd H a<|.be {cls:=.type "list",data:=.seq ah.toArray n}<|.lst xs) s.heap a (.lst xs):=⟨z,ah,n,r,h1⟩;exact I.write (t':=s.toks) (h':=s.heap) (by rw[e];trivial) (.inl rfl) (λ_ _ _ q=>q) ⟨_,h1⟩ ⟨h1,Ly⟩
theorem zC5{X:Cx}{t:TE}(h:PE X e t):PE X e (K7 X.K t):=by
 intro pins s σ H Q I q;refine az (h pins s σ H _ I q) λu s1 hZ=>?_;have(v,H1,I1,r,k):=hZ;have nk:∀a c,H1 a=ž c->X.K.lookup a=Ž:=λa c ea=>by
  cases q:X.K.lookup a with
  |none=>rfl
  |some o=>rw[(I1.bs a o<|I1.ok.mod.fJ a o q).2]at ea;cases ea
 by_cases c1:∃a xs,v=.ref a/\H1 a=ž (.lst xs)
 .have(a,xs,ev,ea):=c1
  have(o,_,I2):=I1.sI ea;exact⟨v,_,I2,r,k _<|.inl ⟨a,xs,o,ev,nk a _ ea,ea,rfl⟩⟩
 .by_cases c2:∃a xs,v=.ref a/\H1 a=ž (.dT xs)
  .have(a,xs,ev,ea):=c2
   have(o,_,I2):=I1.freeze ea;exact⟨v,_,I2,r,k _<|.inr<|.inl ⟨a,xs,o,ev,nk a _ ea,ea,rfl⟩⟩
  .exact⟨v,H1,I1,r,k _<|.inr<|.inr ⟨λa ev=>⟨λxs z=>c1 ⟨a,xs,ev,z⟩,λxs z=>c2 ⟨a,xs,ev,z⟩⟩,rfl⟩⟩
theorem eG{X:Cx}{t:TE}(h:Wr (PE X e t))(hK:autoParam (X.K=K) ć):Wr (PE X e<|K7 K t):=hK▸⟨zC5 h.run⟩
def U.fz:U->Qb D
 |.d x=>ž x
 |.l xs=>ž<|.list xs
 |.t kvs=>ž<|.dict<|kvs.map λp=>(iG p.1,p.2)
 |.k _=>Ž
 |.o _ _=>Ž
def dh(me:ME):ME:=λρ=>(me ρ).bind λp=>(p.1.get p.2).bind λu=>u.fz.bind λx=>ž (.u<|.d x,match p.1 with |.s i=>p.2.set i (ž<|.d x) |.u _=>p.2)
theorem zAD{kvs:Qa (Qa Key×D)}(h:cS K H ws kvs):jJ K H ws (kvs.map λp=>(iG p.1,p.2)):=by
 induction h with
 |nil=>exact .nil
 | @cons p q ps qs hq t ih=>
  have(k,v):=p;have(k',d):=q;have(e,hd):=hq;cases(show k=k' from e);exact .cons hd ih
theorem Fz.rp{v:V}{u:U}{x:D}(h:Fz K H v H')(p:Rp K H v u)(e:u.fz=ž x):DF K H' v x/\(u.own=Ż->H'=H)/\(u.own=ż->∃a o,v=.ref a/\H'=upd H a o):=by
 cases u with
 |d y=>
  cases e;have k:H'=H:=by
   rcases h with⟨a,xs,o,rfl,nk,ea,_⟩|⟨a,xs,o,rfl,nk,ea,_⟩|⟨_,rfl⟩
   .exfalso
    cases(show DF K H _ _ from p)with
    |tup h _=>
     rcases h with h|⟨ob,ah,n,hk,_⟩
     .rw[ea]at h;cases h
     .rw[nk]at hk;cases hk
    |lst h _=>
     rcases h with⟨o,h⟩|⟨ob,ah,n,hk,_⟩
     .rw[ea]at h;cases h
     .rw[nk]at hk;cases hk
    |kM h _=>rw[ea]at h;cases h
    |exc h _ _=>have(_,h,_):=h;rw[ea]at h;cases h
    |obj h _ _=>rw[ea]at h;cases h
   .exfalso
    cases(show DF K H _ _ from p)with
    |tup h _=>
     rcases h with h|⟨ob,ah,n,hk,_⟩
     .rw[ea]at h;cases h
     .rw[nk]at hk;cases hk
    |lst h _=>
     rcases h with⟨o,h⟩|⟨ob,ah,n,hk,_⟩
     .rw[ea]at h;cases h
     .rw[nk]at hk;cases hk
    |kM h _=>rw[ea]at h;cases h
    |exc h _ _=>have(_,h,_):=h;rw[ea]at h;cases h
    |obj h _ _=>rw[ea]at h;cases h
   .rfl
  subst k;exact⟨p,λ_=>rfl,λz=>by cases z⟩
 |l xs=>
  cases e;have(a,us,rfl,ea,ds):=p;rcases h with⟨a',je,o,ev,_,jF,rfl⟩|⟨a',je,o,ev,_,jF,_⟩|⟨z,_⟩
  .cases ev
   rw[ea]at jF;cases jF;exact⟨.lst (.inl ⟨o,zq⟩)<|ds.kp<|jS ea trivial _,(λz=>by cases z),λ_=>⟨a,_,rfl,rfl⟩⟩
  .cases ev
   rw[ea]at jF;cases jF
  .exact absurd ea ((z a rfl).1 us)
 |t xs=>
  cases e;have(a,us,rfl,ea,ds):=p;rcases h with⟨a',je,o,ev,_,jF,_⟩|⟨a',je,o,ev,_,jF,rfl⟩|⟨z,_⟩
  .cases ev
   rw[ea]at jF;cases jF
  .cases ev
   rw[ea]at jF;cases jF;exact⟨.kM zq<|zAD<|ds.kp<|jS ea trivial _,(λz=>by cases z),λ_=>⟨a,_,rfl,rfl⟩⟩
  .exact absurd ea ((z a rfl).2 us)
 |k xs=>cases e
 |o=>cases e
theorem eF{t:TE}{m:ME}(h:VE K t m):VE K (K7 K t) (dh m):=by
 intro ρ σ H a ai Q r e q;obtain⟨⟨b,ρ1⟩,e1,e⟩:=bQ e;have(u,eu,e):=bQ e;have(x,ex,e):=bQ e;cases e;refine h ρ σ H b ρ1 _ r e1 λv H1 g1 k1=>λH2 fz=>?_;have p:=k1.now r g1 eu;have(d,f1,f2):=fz.rp p ex;cases b with
 |s i=>
  have ei:ρ1[i]?=ž (ž u):=by
   have z:(ρ1[i]?).join=ž u:=eu;cases q:ρ1[i]? with
   |none=>rw[q]at z;cases z
   |some o=>rw[q]at z;cases o with
    |none=>cases z
    |some w=>cases z;rfl
  have hi:i < ρ1.length:=(qm.mp ei).1
  by_cases ou:u.own=ż
  .have(a,o,rfl,rfl):=f2 ou
   exact q _ _ (g1.trans<|Go.own (u':=.d x) g1.rs ei ou k1.1 d) ⟨d,Nw.data⟩
  .have rX:u.own=Ż:=by simpa using ou
   cases f1 rX;cases u with
   |d y=>
    cases ex;have es:ρ1.set i (ž<|.d x)=ρ1:=by
     apply a5a;intro j
     by_cases hj:i=j
     .subst hj;rw[ŉ hi,ei]
     .rw[qD hj]
    show Q v H1;refine q v H1 ?_ ⟨d,Nw.data⟩;show Go K ρ σ H (ρ1.set i<|some<|.d x) H1;rw[es];exact g1
   |l=>cases rX
   |t=>cases rX
   |k=>cases rX
   |o=>cases rX
 |u w=>
  cases(show ž w=ž u from eu)
  by_cases ou:u.own=ż
  .have(a,o,rfl,rfl):=f2 ou
   have(a',jF,LD):=k1.2 ou;cases jF;obtain⟨c,hc,mc⟩:∃c,H1 a=ž c/\Mo c:=by
    have(b,c,eb,hb,m):=p.own ou;cases eb;exact⟨c,hb,m⟩
   have nw:¬Ow ρ1 σ a:=by
    have(b,eb,nb):=k1.2.rW r g1 ou;cases eb;exact nb
   have kp:=jS hc mc o;refine q _ _ ⟨⟨g1.rs.len,λj y ej=>?_,g1.rs.apart⟩,λb ob hb n=>?_,g1.shr,λb hb=>?_⟩ ⟨d,Nw.data⟩
   .have(v,ev,p'):=g1.rs.rep j y ej
    refine⟨v,ev,p'.kp kp λoy b c' eb hb=>?_⟩;have ne:b≠a:=by
     rintro rfl;subst eb;exact nw ⟨j,y,ej,oy,ev⟩
    rw[zu ne];exact hb
   .have ne:b≠a:=by
     rintro rfl;rw[LD]at hb;cases hb
    rw[zu ne];exact g1.fr b ob hb n
   .by_cases eS:b=a
    .subst eS;exact LD
    .rw[zu eS]at hb;exact g1.dm b hb
  .have rX:u.own=Ż:=by simpa using ou
   cases f1 rX;exact q v H1 g1 ⟨d,Nw.data⟩
end
section
variable{ρ ai:En}
def bJ(ρ:En):Qa Ar->Qb (Qa U)
 |[]=>ž []
 |a::as=>(a.get ρ).bind λu=>(bJ ρ as).bind λus=>ž<|u::us
noncomputable def l9:Qa U->Qb (Qa D)
 |[]=>ž []
 |.d x::us=>(l9 us).bind λxs=>ž<|x::xs
 |_::_=>Ž
def Ge(K:qc)(H:Hp):Qa V->Qa U->Prop:=Μ λv u=>Rp K H v u
theorem zAE{vs:Qa V}{as:Qa Ar}{us:Qa U}(len:vs.length=as.length)(h:∀(i:Nat) (a:Ar),as[i]?=ž a->∃v,vs[i]?=ž v/\∀u,a.get ρ=ž u->Rp K H v u)(e:bJ ρ as=ž us):Ge K H vs us:=by
 induction as generalizing vs us with
 |nil=>
  cases e;cases vs with
  |nil=>exact .nil
  |cons=>simp at len
 |cons a as ih=>
  have(u,eu,e):=bQ e;have(g9,Cq,e):=bQ e;cases e;cases vs with
  |nil=>simp at len
  |cons v vs=>
   have(v',ev,k):=h 0 a rfl;cases(show ž v=ž v' from ev);exact .cons (k u eu)<|ih (by simpa using len) (λi b eb=>h (i+1) b eb) Cq
theorem Gn.qJ{vs:Qa V}{as:Qa Ar}{us:Qa U}(r:Rs K ρ σ H)(g:Go K ρ σ H ai H')(s:Gn K ai σ H H' vs as)(e:bJ ai as=ž us):Ge K H' vs us :=
 zAE s.len (λi a ea=>let ⟨v,ev,k⟩:=s.ar i a ea;⟨v,ev,λu eu=>k.now r g eu⟩) e
theorem OF{vs:Qa V}{us:Qa U}{ds:Qa D}(h:Ge K H vs us)(e:l9 us=ž ds):aI K H vs ds:=by
 induction h generalizing ds with
 |nil=>cases e;exact .nil
 | @cons v u vs us hv t ih=>
  cases u with
  |d x=>
   have(xs,ex,e):=bQ (show(l9 us).bind (λxs=>ž<|x::xs)=ž ds from e);cases e;exact .cons hv<|ih ex
  |l=>cases e
  |t=>cases e
  |k=>cases e
  |o=>cases e
def bM(ma:MA):ME:=λρ=>(ma ρ).bind λp=>(bJ p.2 p.1).bind λus=>(l9 us).bind λds=>if ds.length<=ħ then ž (.u<|.d<|.tuple ds,p.2)else Ž
def fe(ma:MA):ME:=λρ=>(ma ρ).bind λp=>(bJ p.2 p.1).bind λus=>(l9 us).bind λds=>if ds.length<=ħ then ž (.u<|.l ds,p.2)else Ž
theorem cg{t:TA}{m:MA}(h:lS K t m):VE K (KC t) (bM m):=by
 intro ρ σ H a ai Q r e q;obtain⟨⟨as,ρ1⟩,e1,e⟩:=bQ e;have(us,eu,e):=bQ e;have(ds,ed,e):=bQ e;split at e
 .rename_i hz
  cases e;refine h ρ σ H as _ _ r e1 λvs H1 g1 s1=>?_;have dd:=OF (s1.qJ r g1 eu) ed;refine⟨by rw[dd.len];exact hz,λp hp=>?_⟩;have sm:=zF hp (.tup vs);exact q _ _ (g1.trans<|Go.grow g1.rs sm) ⟨.tup (.inl zq)<|dd.kp sm.kp,Nw.data⟩
 .cases e
theorem gg{t:TA}{m:MA}(h:lS K t m):VE K (Dt t) (fe m):=by
 intro ρ σ H a ai Q r e q;obtain⟨⟨as,ρ1⟩,e1,e⟩:=bQ e;have(us,eu,e):=bQ e;have(ds,ed,e):=bQ e;split at e
 .rename_i hz
  cases e;refine h ρ σ H as _ _ r e1 λvs H1 g1 s1=>?_;have dd:=OF (s1.qJ r g1 eu) ed;refine⟨by rw[dd.len];exact hz,λp hp=>?_⟩;have sm:=zF hp (.lst vs);exact q _ _ (g1.trans<|Go.grow g1.rs sm) ⟨⟨p,_,rfl,zq,dd.kp sm.kp⟩,λ_=>⟨p,rfl,g1.dm p hp⟩⟩
 .cases e
def VC(K:qc)(r:Qa V->Hp->VK->Prop)(f:Qa U->Qb U):Prop :=
 ∀(vs:Qa V) (us:Qa U) (u:U) (H:Hp) (Q:VK),Ge K H vs us->f us=ž u->(∀v H',dJ H H'->Rp K H' v u->Nw H v u->Q v H')->r vs H Q
def bK(f:Qa U->Qb U)(ma:MA):ME:=λρ=>(ma ρ).bind λp=>(bJ p.2 p.1).bind λus=>(f us).bind λu=>ž (.u u,p.2)
theorem bW{f:Qa U->Qb U}{t:TA}{m:MA}(hc:VC K r f)(h:lS K t m):VE K (mF r t) (bK f m):=by
 intro ρ σ H a ai Q rs e q;obtain⟨⟨as,ρ1⟩,e1,e⟩:=bQ e;have(us,eu,e):=bQ e;have(u,ef,e):=bQ e;cases e;refine h ρ σ H as _ _ rs e1 λvs H1 g1 s1=>hc vs us u H1 _ (s1.qJ rs g1 eu) ef λv H2 s p n=>?_;exact q v H2 (g1.trans<|Go.grow g1.rs s) ⟨p,n.mono g1.dm⟩
noncomputable def f1(f:U->Qb U):Qa U->Qb U
 |[u]=>f u
 |_=>Ž
theorem rf{f:U->Qb U}(h:∀(v:V) (a u:U) (H:Hp) (Q:VK),Rp K H v a->f a=ž u->(∀v H',dJ H H'->Rp K H' v u->Nw H v u->Q v H')->r [v] H Q):VC K r (f1 f):=by
 intro vs us u H Q hr e q;cases hr with
 |nil=>cases e
 |cons h1 t=>
  cases t with
  |nil=>exact h _ _ _ _ _ h1 e q
  |cons=>cases e
noncomputable def U.items:U->Qb (Qa D)
 |.d (.tuple xs)=>ž xs
 |.d (.list xs)=>ž xs
 |.l xs=>ž xs
 |_=>Ž
theorem Rp.items{v:V}{u:U}{xs:Qa D}(h:Rp K H v u)(e:u.items=ž xs):∃p ys,v=.ref p/\(bu K H p ys\/cH K H p ys)/\aI K H ys xs:=by
 cases u with
 |d x=>
  cases x with
  |tuple ds=>cases e;have(a,ys,rfl,h1,h2):=DF.aD h;exact⟨a,ys,rfl,.inr<|(aJ.sq h1),h2⟩
  |list ds=>cases e;have(a,ys,rfl,h1,h2):=DF.lst_inv h;exact⟨a,ys,rfl,.inl h1.sq,h2⟩
  |_=>cases e
 |l ds=>cases e;have(a,ys,rfl,h1,h2):=h;exact⟨a,ys,rfl,.inl<|bu.of h1,h2⟩
 |t=>cases e
 |k=>cases e
 |o=>cases e
def eE(u:U):Qb U:=u.items.map λxs=>.d<|.int xs.length
theorem gq:VC K (Ko K) (f1 eE):=rf λv a u H Q h e q=>by
 have(xs,ex,rfl):=qt.mp e;have(p,ys,rfl,s,d):=h.items ex;exact⟨p,ys,rfl,s,q _ _ (λ_ _ z=>z) (by rw[d.len];exact .int _) Nw.data⟩
def rK(u:U):Qb U:=u.items.map λxs=>.d<|.tuple xs
theorem vq:VC K (Jg K) (f1 rK):=rf λv a u H Q h e q=>by
 have(xs,ex,rfl):=qt.mp e;cases a with
 |d x=>
  cases x with
  |tuple ds=>
   cases ex;have(a,ys,rfl,h1,h2):=DF.aD h;exact⟨a,ys,rfl,.inr ⟨(aJ.sq h1),q _ _ (λ_ _ z=>z) (.tup h1 h2) Nw.data⟩⟩
  |list ds=>
   cases ex;have(a,ys,rfl,h1,h2):=DF.lst_inv h;refine⟨a,ys,rfl,.inl ⟨h1.sq,λl hl=>?_⟩⟩;have sm:=zF hl (.tup ys);exact q _ _ sm (.tup (.inl zq)<|h2.kp sm.kp) Nw.data
  |_=>cases ex
 |l ds=>
  cases ex;have(a,ys,rfl,h1,h2):=h;refine⟨a,ys,rfl,.inl ⟨bu.of h1,λl hl=>?_⟩⟩;have sm:=zF hl (.tup ys);exact q _ _ sm (.tup (.inl zq)<|h2.kp sm.kp) Nw.data
 |t=>cases ex
 |k=>cases ex
 |o=>cases ex
def xa:U->Qb U
 |.d (.int i)=>ž<|.d<|.int (if i < 0 then -i else i)
 |_=>Ž
theorem Il:VC K (λxs H Q=>∃i,xs=[.int i]/\Q (.int (if i < 0 then -i else i)) H) (f1 xa):=rf λv a u H Q h e q=>by
 unfold xa at e;split at e
 .rename_i i
  cases e;cases DF.int_inv h;exact⟨i,rfl,q _ _ (λ_ _ z=>z) (.int _) Nw.data⟩
 .cases e
def y9:U->Qb U
 |.d (.int i)=>ž<|.d<|.int i
 |.d (.bool k)=>ž<|.d<|.int (if k then 1 else 0)
 |_=>Ž
theorem Pw:VC K (λxs H Q=>(∃i,xs=[.int i]/\Q (.int i) H)\/∃k,xs=[.bl k]/\Q (.int (if k then 1 else 0)) H) (f1 y9):=rf λv a u H Q h e q=>by
 unfold y9 at e;split at e
 .rename_i i
  cases e;cases DF.int_inv h;exact .inl ⟨i,rfl,q _ _ (λ_ _ z=>z) (.int _) Nw.data⟩
 .rename_i i
  cases e;cases DF.bT h;exact .inr ⟨i,rfl,q _ _ (λ_ _ z=>z) (.int _) Nw.data⟩
 .cases e
def tF:Qa D->Qb (Qa Int)
 |[]=>ž []
 |.int i::xs=>(tF xs).bind λis=>ž<|i::is
 |_::_=>Ž
theorem Q5{xs:Qa D}(h:aI K H ys xs)(e:tF xs=ž ns):ys=ns.map V.int:=by
 induction xs generalizing ys ns with
 |nil=>cases e;cases h;rfl
 |cons x xs ih=>
  cases h with
  |cons h1 t=>
   cases x with
   |int i=>
    have(is,ei,e):=bQ (show(tF xs).bind (λis=>ž<|i::is)=ž ns from e);cases e;rw[ih t ei,DF.int_inv h1];rfl
   |_=>cases e
def KE(u:U):Qb U:=u.items.bind λxs=>(tF xs).map λns=>.d<|.int ns.sum
theorem zAG:VC K (U7 K) (f1 KE):=rf λv a u H Q h e q=>by
 have(xs,ex,e):=bQ e;have(ns,en,rfl):=qt.mp e;have(p,ys,rfl,s,d):=h.items ex;cases Q5 d en;exact⟨p,ns,rfl,s,q _ _ (λ_ _ z=>z) (.int _) Nw.data⟩
def mB(me:ME):MT:=λρ=>(me ρ).bind λp=>(p.1.get p.2).bind λu=>match u with |.d (.bool b)=>ž (b,p.2) |_=>Ž
theorem fD{t:TE}{m:ME}(h:VE K t m):VT K (tB t) (mB m):=by
 intro ρ σ H b ai Q r e q;obtain⟨⟨a,ρ1⟩,e1,e⟩:=bQ e;have(u,eu,e):=bQ e;split at e
 .cases e
  refine h ρ σ H a _ _ r e1 λv H1 g1 k1=>?_;exact⟨_,DF.bT<|k1.now r g1 eu,q _ g1⟩
 .cases e
theorem zD{t:TE}{m:ME}(h:VE K t m):VT K (yV t) (mB m):=fD h
noncomputable def w9(ma mb:MT):MT:=λρ=>(ma ρ).bind λp=>if p.1=ż then mb p.2 else ž (Ż,p.2)
noncomputable def iY(ma mb:MT):MT:=λρ=>(ma ρ).bind λp=>if p.1=ż then ž (ż,p.2)else mb p.2
noncomputable def jo(ma:MT):MT:=λρ=>(ma ρ).bind λp=>ž (!p.1,p.2)
theorem Ik{ta tb:TT}{ma mb:MT}(ha:VT K ta ma)(hb:VT K tb mb):VT K (Gx ta tb) (w9 ma mb):=by
 intro ρ σ H b ai Q r e q;obtain⟨⟨c,ρ1⟩,e1,e⟩:=bQ e;refine ha ρ σ H c ρ1 _ r e1 λH1 g1=>?_;dsimp only at e;split at e
 .rename_i hc
  rw[a5E hc];exact hb ρ1 σ H1 b ai _ g1.rs e λH2 g2=>q H2<|g1.trans g2
 .rename_i hc
  rw[a5F hc];cases e;exact q H1 g1
theorem jQ{ta tb:TT}{ma mb:MT}(ha:VT K ta ma)(hb:VT K tb mb):VT K (K5 ta tb) (iY ma mb):=by
 intro ρ σ H b ai Q r e q;obtain⟨⟨c,ρ1⟩,e1,e⟩:=bQ e;refine ha ρ σ H c ρ1 _ r e1 λH1 g1=>?_;dsimp only at e;split at e
 .rename_i hc
  rw[a5E hc];cases e;exact q H1 g1
 .rename_i hc
  rw[a5F hc];exact hb ρ1 σ H1 b ai _ g1.rs e λH2 g2=>q H2<|g1.trans g2
theorem lE{ta:TT}{ma:MT}(ha:VT K ta ma):VT K (Gw ta) (jo ma):=by
 intro ρ σ H b ai Q r e q;obtain⟨⟨c,ρ1⟩,e1,e⟩:=bQ e;cases e;exact ha ρ σ H c _ _ r e1 λH1 g1=>q H1 g1
def lB(ma mb:ME):ME:=λρ=>(mB ma ρ).bind λp=>if p.1=ż then mb p.2 else ž (.u<|.d<|.bool Ż,p.2)
theorem KD{a:Ar}{v:V}{H2:Hp}{ρ1 au:En}(g1:Go K ρ σ H ρ1 H1)(h:nQ K au σ H1 H2 v a):nQ K au σ H H2 v a:=by
 cases a with
 |s i=>exact h
 |u x=>exact⟨h.1,h.2.mono g1.dm⟩
theorem og{ma mb:ME}(ha:VE K ta ma)(hb:VE K tb mb):VE K (Hz ta tb) (lB ma mb):=by
 intro ρ σ H a ai Q r e q;obtain⟨⟨c,ρ1⟩,e1,e⟩:=bQ e;refine fD ha ρ σ H c ρ1 (λc H1=>if c=ż then tb σ H1 Q else Q (.bl Ż) H1) r e1 λH1 g1=>?_;dsimp only at e;split at e
 .rename_i hc
  rw[a5E hc];exact hb ρ1 σ H1 a ai _ g1.rs e λv H2 g2 k=>q v H2 (g1.trans g2)<|KD g1 k
 .rename_i hc
  rw[a5F hc];cases e;exact q _ H1 g1 ⟨.bl _,Nw.data⟩
def DH(ma:ME):ME:=λρ=>(mB ma ρ).bind λp=>ž (.u<|.d<|.bool (!p.1),p.2)
theorem zAI{ma:ME}(ha:VE K ta ma):VE K (Hy ta) (DH ma):=by
 intro ρ σ H a ai Q r e q;obtain⟨⟨c,ρ1⟩,e1,e⟩:=bQ e;cases e;exact fD ha ρ σ H c _ (λc H1=>Q (.bl (!c)) H1) r e1 λH1 g1=>q _ H1 g1 ⟨.bl _,Nw.data⟩
noncomputable def vU(mt:MT)(ma mb:ME):ME:=λρ=>(mt ρ).bind λp=>if p.1=ż then ma p.2 else mb p.2
theorem CV{mt:MT}{ma mb:ME}(ht:VT K tt mt)(ha:VE K ta ma)(hb:VE K tb mb):VE K (K6 tt ta tb) (vU mt ma mb):=by
 intro ρ σ H a ai Q r e q;obtain⟨⟨c,ρ1⟩,e1,e⟩:=bQ e;refine ht ρ σ H c ρ1 _ r e1 λH1 g1=>?_;dsimp only at e;split at e
 .rename_i hc
  rw[a5E hc];exact ha ρ1 σ H1 a ai _ g1.rs e λv H2 g2 k=>q v H2 (g1.trans g2)<|KD g1 k
 .rename_i hc
  rw[a5F hc];exact hb ρ1 σ H1 a ai _ g1.rs e λv H2 g2 k=>q v H2 (g1.trans g2)<|KD g1 k
def U.rR:U->Qb Bool
 |.d .none=>ž Ż
 |.d (.bool b)=>ž b
 |.d (.int i)=>ž<|i != 0
 |.d (.str x)=>if x.length<=ħ then ž ((x.length:Int) != 0)else Ž
 |.d (.tuple xs)=>ž (!xs.isEmpty)
 |.d (.list xs)=>ž (!xs.isEmpty)
 |.l xs=>ž (!xs.isEmpty)
 |_=>Ž
theorem JK{xs:Qa D}(h:aI K H ys xs):(!xs.isEmpty)=!ys.isEmpty:=by cases h<;>rfl
def w6(ma:ME):MT:=λρ=>(ma ρ).bind λp=>(p.1.get p.2).bind λu=>u.rR.bind λb=>ž (b,p.2)
theorem Ij{ma:ME}(ha:VE K ta ma):VT K (UW K ta) (w6 ma):=by
 intro ρ σ H b ai Q r e q;obtain⟨⟨a,ρ1⟩,e1,e⟩:=bQ e;have(u,eu,e):=bQ e;have(c,ec,e):=bQ e;cases e;refine ha ρ σ H a _ _ r e1 λv H1 g1 k1=>⟨_,?_,q _ g1⟩;have p:=k1.now r g1 eu;cases u with
 |d x=>
  cases(show DF K H1 v x from p)with
  |aM=>cases ec;rfl
  |bl=>cases ec;rfl
  |int=>cases ec;rfl
  |str x=>
   unfold U.rR at ec;dsimp only at ec;split at ec
   .cases ec;exact⟨by assumption,rfl⟩
   .cases ec
  |tup h t=>cases ec;exact .inr<|.inl ⟨_,(aJ.sq h),JK t⟩
  |lst h t=>cases ec;exact .inl ⟨_,h.sq,JK t⟩
  |kM=>cases ec
  |exc=>cases ec
  |obj=>cases ec
 |l xs=>cases ec;have(a,us,rfl,h1,h2):=p;exact .inl ⟨_,bu.of h1,JK h2⟩
 |t=>cases ec
 |k=>cases ec
 |o=>cases ec
end
section
variable{ρ ai:En}
abbrev FD:=Qa U->Qb (U×Qa U)
noncomputable def sm(xs:Qa U):En:=xs.map ž
noncomputable def fH(vs:Qa V):St:=vs.map ž
def qH(K:qc)(n:Nat)(f:FD):Sp:=λvs H Q _=>∃us r outs,us.length=n/\Rs K (sm us) (fH vs) H/\f us=ž (r,outs)/\
 ∀v H',Go K (sm us) (fH vs) H (sm outs) H'->Rp K H' v r->Nw H v r->Q v H'
noncomputable def wb:En->Qa Ar->Qa U->En
 |ρ,.s j::as,o::os=>wb (ρ.set j<|some o) as os
 |ρ,.u _::as,_::os=>wb ρ as os
 |ρ,_,_=>ρ
def gY(ρ:En):Qa Ar->Bool
 |[]=>ż
 |.s j::as=>(match ρ[j]? with|some (ž u)=>!u.own || !(as.any λa=>match a with |.s k=>decide (k=j) |_=>Ż) |_=>ż) && gY ρ as
 |.u _::as=>gY ρ as
def aO(f:FD)(ma:MA):ME:=λρ=>(ma ρ).bind λp=>if gY p.2 p.1=ż then(bJ p.2 p.1).bind λus=>(f us).bind λo=>ž (.u o.1,wb p.2 p.1 o.2)else Ž
theorem EE:∀{as:Qa Ar} {us:Qa U},bJ ρ as=ž us->us.length=as.length
 |[],us,e=>by cases e;rfl
 |a::as,us,e=>by
  have(u,eu,e):=bQ e;have(g9,Cq,e):=bQ e;cases e;simp[EE Cq]
theorem Pu:∀{as:Qa Ar} {us:Qa U} {i:Nat} {a:Ar},bJ ρ as=ž us->as[i]?=ž a->∃u,us[i]?=ž u/\a.get ρ=ž u
 |[],us,i,a,e,ea=>by simp at ea
 |b::as,us,i,a,e,ea=>by
  have(u,eu,e):=bQ e;have(g9,Cq,e):=bQ e;cases e;cases i with
  |zero=>cases(show ž b=ž a from ea);exact⟨u,rfl,eu⟩
  |succ i=>exact Pu (i:=i) Cq ea
theorem Jd:∀{as:Qa Ar} {us:Qa U} {i:Nat} {u:U},bJ ρ as=ž us->us[i]?=ž u->∃a,as[i]?=ž a/\a.get ρ=ž u:=λ{as us i u} e eu=>by
 have hi:i < as.length:=by rw[<-EE e];exact(qm.mp eu).1
 have(u',e1,e2):=Pu e (qo hi);rw[eu]at e1;cases e1;exact⟨_,qo hi,e2⟩
theorem NW{u:U}(e:Ar.get ρ (.s j)=ž u):ρ[j]?=ž (ž u):=by
 have z:(ρ[j]?).join=ž u:=e;cases q:ρ[j]? with
 |none=>rw[q]at z;cases z
 |some o=>
  rw[q]at z;cases o with
  |none=>cases z
  |some w=>cases z;rfl
theorem Pr:∀{as:Qa Ar} {p q j:Nat} {u:U},gY ρ as=ż->as[p]?=ž (.s j)->as[q]?=ž (.s j)->ρ[j]?=ž (ž u)->u.own=ż->p=q
 |[],p,q,j,u,_,e,_,_,_=>by simp at e
 |a::as,p,q,j,u,d,ep,eq,ej,ou=>by
  have dd:gY ρ as=ż:=by
   cases a with
   |s k=>unfold gY at d;rw[Ŕ]at d;exact d.2
   |u=>exact d
  have A9:∀{q':Nat},a=.s j->as[q']?=ž (.s j)->False:=λ{q'} ea F2=>by
   subst ea;unfold gY at d;rw[Ŕ,ej]at d;have d1:=d.1;dsimp only at d1;rw[ou]at d1;have m:(as.any λa=>match a with |.s k=>decide (k=j) |_=>Ż)=ż:=á.mpr ⟨.s j,Ä F2,by simp⟩;rw[m]at d1;cases d1
  cases p with
  |zero=>
   cases q with
   |zero=>rfl
   |succ q=>exact(A9 (qy ep) eq).elim
  |succ p=>
   cases q with
   |zero=>exact(A9 (qy eq) ep).elim
   |succ q=>exact congrArg (·+1)<|Pr dd ep eq ej ou
theorem g8{us:Qa U}{u:U}:(sm us)[i]?=ž (ž u)↔us[i]?=ž u:=by
 unfold sm;rw[ĭ];cases us[i]?<;>simp
theorem xF{vs:Qa V}{v:V}:(fH vs)[i]?=ž (ž v)↔vs[i]?=ž v:=by
 unfold fH;rw[ĭ];cases vs[i]?<;>simp
theorem DO:∀{as:Qa Ar} {os:Qa U} {ρ:En} {j:Nat} {w:U},(wb ρ as os)[j]?=ž (ž w)->as.length=os.length->(∃p:Nat,as[p]?=ž (Ar.s j)/\os[p]?=ž w)\/(ρ[j]?=ž (ž w)/\∀p:Nat,as[p]?≠ž (Ar.s j))
 |[],os,ρ,j,w,e,_=>.inr ⟨by cases os<;>exact e,λp z=>by simp at z⟩
 |a::as,[],ρ,j,w,e,l=>by simp at l
 |.u x::as,o::os,ρ,j,w,e,l=>by
  rcases DO (as:=as) (os:=os) (ρ:=ρ) (show(wb ρ as os)[j]?=ž (ž w) from e) (by simpa using l)with⟨p,h1,h2⟩|⟨h1,h2⟩
  .exact .inl ⟨p+1,h1,h2⟩
  .refine .inr ⟨h1,λp z=>?_⟩
   cases p with
   |zero=>cases(show ž (Ar.u x)=ž (.s j) from z)
   |succ p=>exact h2 p z
 |.s k::as,o::os,ρ,j,w,e,l=>by
  rcases DO (as:=as) (os:=os) (ρ:=ρ.set k (ž o)) (show(wb (ρ.set k<|some o) as os)[j]?=ž (ž w) from e) (by simpa using l)with⟨p,h1,h2⟩|⟨h1,h2⟩
  .exact .inl ⟨p+1,h1,h2⟩
  .by_cases hk:k=j
   .subst hk
    have hl:k < (ρ.set k<|some o).length:=(qm.mp h1).1;rw[ŀ]at hl;rw[ŉ hl]at h1;exact .inl ⟨0,rfl,by cases h1;rfl⟩
   .rw[qD hk]at h1
    refine .inr ⟨h1,λp z=>?_⟩;cases p with
    |zero=>cases(show ž (Ar.s k)=ž (.s j) from z);exact hk rfl
    |succ p=>exact h2 p z
theorem DS:∀(ρ:En) (as:Qa Ar) (os:Qa U),(wb ρ as os).length=ρ.length
 |ρ,[],os=>by cases os<;>rfl
 |ρ,.s k::as,[]=>rfl
 |ρ,.u k::as,[]=>rfl
 |ρ,.s k::as,o::os=>by show(wb (ρ.set k<|some o) as os).length=_;rw[DS];exact ù
 |ρ,.u k::as,o::os=>DS ρ as os
theorem Eh:∀{as:Qa Ar} {os:Qa U} {ρ:En} {j:Nat} {w:U},ρ[j]?=ž (ž w)->∃w',(wb ρ as os)[j]?=ž (ž w')
 |[],os,ρ,j,w,e=>⟨w,by cases os<;>exact e⟩
 |.s k::as,[],ρ,j,w,e=>⟨w,e⟩
 |.u k::as,[],ρ,j,w,e=>⟨w,e⟩
 |.u k::as,o::os,ρ,j,w,e=>Eh (as:=as) (os:=os) e
 |.s k::as,o::os,ρ,j,w,e=>by
  by_cases hk:k=j
  .subst hk
   exact Eh (as:=as) (os:=os) (w:=o)<|å (qm.mp e).1
  .exact Eh (as:=as) (os:=os) (w:=w) (by rw[qD hk];exact e)
theorem zAJ{as:Qa Ar}{us:Qa U}{vs:Qa V}{ρ1:En}(rs:Rs K ρ σ H)(g1:Go K ρ σ H ρ1 H1)(s1:Gn K ρ1 σ H H1 vs as)(dj:gY ρ1 as=ż)(eu:bJ ρ1 as=ž us):
  Rs K (sm us) (fH vs) H1/\∀(outs:Qa U) (H2:Hp),Go K (sm us) (fH vs) H1 (sm outs) H2->Go K ρ σ H (wb ρ1 as outs) H2:=by
 have rp:=s1.qJ rs g1 eu;have lus:=EE eu;have lvs:=s1.len;have adr:∀(i:Nat) (u:U),us[i]?=ž u->u.own=ż->∃b,vs[i]?=ž (.ref b)/\((∃j,as[i]?=ž (.s j)/\σ[j]?=ž (ž<|.ref b)/\ρ1[j]?=ž (ž u))\/(as[i]?=ž (.u u)/\H b=Ž)):=λi u ei ou=>by
  have(a,ea,eg):=Jd eu ei;have(v,ev,k):=s1.ar i a ea;have p:=k.now rs g1 eg;have(b,rfl):=p.lP ou;refine⟨b,ev,?_⟩;cases a with
  |s j=>exact .inl ⟨j,ea,k.1,NW eg⟩
  |u x=>
   cases(show ž x=ž u from eg);have(b',eb,hb):=k.2 ou;cases eb;exact .inr ⟨ea,hb⟩
 have apart:∀(i j:Nat) (u w:U),us[i]?=ž u->us[j]?=ž w->u.own=ż->w.own=ż->vs[i]?=vs[j]?->i=j:=λi j u w ei ej ou ow ev=>by
  have(b,vb,hb):=adr i u ei ou;have(c,vc,hc):=adr j w ej ow;have bc:b=c:=by rw[vb,vc]at ev;cases ev;rfl
  subst bc;rcases hb with⟨x,ax,sx,rx⟩|⟨ax,nx⟩
  .rcases hc with⟨y,ay,sy,ry⟩|⟨ay,ny⟩
   .have xy:x=y:=g1.rs.apart x y u w rx ry ou ow (by rw[sx,sy])
    subst xy;exact Pr dj ax ay rx ou
   .exfalso
    have(w',dP,vN):=g1.shr.own x u rx ou;have(c',mX,_):=rs.ow ⟨x,w',dP,vN,sx⟩;rw[ny]at mX;cases mX
  .rcases hc with⟨y,ay,sy,ry⟩|⟨ay,ny⟩
   .exfalso
    have(w',dP,vN):=g1.shr.own y w ry ow;have(c',mX,_):=rs.ow ⟨y,w',dP,vN,sy⟩;rw[nx]at mX;cases mX
   .exact s1.ap i j u w ax ay ou ow ev
 have Fn:Rs K (sm us) (fH vs) H1:=by
  refine⟨by unfold sm fH;rw[Ħ,Ħ];omega,λi u ei=>?_,λi j u w ei ej ou ow ev=>?_⟩
  .have uI:=g8.mp ei
   have(a,ea,eg):=Jd eu uI;have(v,ev,k):=s1.ar i a ea;exact⟨v,xF.mpr ev,k.now rs g1 eg⟩
  .have uI:=g8.mp ei
   have pA:=g8.mp ej;refine apart i j u w uI pA ou ow ?_;have(b,vb,_):=adr i u uI ou;have(c,vc,_):=adr j w pA ow;rw[xF.mpr vb,xF.mpr vc]at ev;rw[vb,vc];exact qy ev
 refine⟨Fn,λouts H2 g2=>?_⟩;have lo:outs.length=us.length:=by have:=g2.shr.len;unfold sm at this;simpa using this
 have kp2:=g2.kp Fn;have owA:∀b,Ow (sm us) (fH vs) b->Ow ρ1 σ b\/H b=Ž:=λb ⟨i,u,ei,ou,es⟩=>by
  have(c,vc,hc):=adr i u (g8.mp ei) ou;rw[xF.mp es]at vc;cases vc;rcases hc with⟨j,_,sj,rj⟩|⟨_,nb⟩
  .exact .inl ⟨j,u,rj,ou,sj⟩
  .exact .inr nb
 have vO:∀(i:Nat) (w:U),outs[i]?=ž w->∃x,vs[i]?=ž x/\Rp K H2 x w:=λi w ei=>by
  have(x,ex,px):=g2.rs.rep i w (g8.mpr ei);exact⟨x,xF.mp ex,px⟩
 have VB:as.length=outs.length:=by omega
 have iV:∀(j:Nat) (w:U),(wb ρ1 as outs)[j]?=ž (ž w)->w.own=ż->∃w',ρ1[j]?=ž (ž w')/\w'.own=ż:=λj w ej ow=>by
  rcases DO ej VB with⟨p,ap,op⟩|⟨h1,_⟩
  .have(w',dP,vN):=g2.shr.own p w (g8.mpr op) ow
   have(a,ea,eg):=Jd eu (g8.mp dP);rw[ap]at ea;cases ea;exact⟨w',NW eg,vN⟩
  .exact⟨w,h1,ow⟩
 refine⟨⟨by rw[DS];exact g1.rs.len,λj w ej=>?_,λi j u w ei ej ou ow es=>?_⟩,λb ob hb nb=>?_,?_,λb hb=>g1.dm b<|g2.dm b hb⟩
 .rcases DO ej VB with⟨p,ap,op⟩|⟨h1,h2⟩
  .have(x,vx,px):=vO p w op
   have(v',qV,k'):=s1.ar p _ ap;rw[vx]at qV;cases qV;exact⟨x,k'.1,px⟩
  .have(x,ex,px):=g1.rs.rep j w h1
   refine⟨x,ex,px.kp kp2 λow b c eb hb=>?_⟩;refine g2.fr b c hb λ⟨i,u,ei,ou,es⟩=>?_;have(c',Vd,mX):=adr i u (g8.mp ei) ou;rw[xF.mp es]at Vd;cases Vd;subst eb;rcases mX with⟨k,ak,sk,rk⟩|⟨_,nb⟩
   .have:k=j:=g1.rs.apart k j u w rk h1 ou ow (by rw[sk,ex])
    subst this;exact h2 i ak
   .have(w',dP,vN):=g1.shr.own j w h1 ow
    have(c'',B7,_):=rs.ow ⟨j,w',dP,vN,ex⟩;rw[nb]at B7;cases B7
 .have(x,ex,ox):=iV i u ei ou
  have(y,ey,oy):=iV j w ej ow;exact g1.rs.apart i j x y ex ey ox oy es
 .refine g2.fr b ob (g1.fr b ob hb nb) λz=>?_
  rcases owA b z with z|z
  .exact nb (g1.shr.ow z)
  .rw[z]at hb;cases hb
 .refine⟨by rw[DS];exact g1.shr.len,λj w ej ow=>?_,λj w ej=>?_⟩
  .have(x,ex,ox):=iV j w ej ow
   exact g1.shr.own j x ex ox
  .have(x,ex):=g1.shr.live j w ej
   exact Eh ex
theorem zC6:∀ρ as ai,zp ρ=ž (as,ai)->as.length=0:=λρ as ai e=>by cases e;rfl
theorem zAK{me:ME}{ma:MA}(h:∀ρ as ai,ma ρ=ž (as,ai)->as.length=n):∀ρ as ai,ze me ma ρ=ž (as,ai)->as.length=n+1:=λρ as ai e=>by
 obtain⟨⟨a1,ρ1⟩,e1,e⟩:=bQ e;obtain⟨⟨F8,au⟩,e2,e⟩:=bQ e;cases e;simp[h _ _ _ e2]
theorem U6{p:Prop}(h:p:=by repeat (first|exact zC6|refine zAK ?_)):p:=h
theorem Ģ(h:True:=by exact U6):True:=h
abbrev ģ:=Ģ._auto_1
theorem zK{f:FD}{t:TA}{m:MA}(n:Nat)(h:lS K t m)(hn:autoParam (∀ρ as ai,m ρ=ž (as,ai)->as.length=n) ģ):VE K (Kt (qH K n f) t) (aO f m):=by
 intro ρ σ H a ai Q rs e q;obtain⟨⟨as,ρ1⟩,e1,e⟩:=bQ e;dsimp only at e;split at e
 .rename_i dj
  have(us,eu,e):=bQ e;obtain⟨⟨r,outs⟩,ef,e⟩:=bQ e;cases e;refine h ρ σ H as ρ1 _ rs e1 λvs H1 g1 s1=>?_;have(Fn,back):=zAJ rs g1 s1 dj eu;exact⟨us,r,outs,by rw[EE eu];exact hn _ _ _ e1,Fn,ef,λv H2 g2 p n2=>q v H2 (back outs H2 g2) ⟨p,n2.mono g1.dm⟩⟩
 .cases e
end
inductive Fl where
 |nx (ρ:En) |bk (ρ:En) |ct (ρ:En) |rt (u:U) (ρ:En) |ex (x:D) (ρ:En)
def U5(K:qc)(H:Hp)(a:Qg)(x:D):Prop:=∃n C fs ds,x=.dict ((.none,.str n)::ds)/\zE1 H a C fs/\XN K n C/\wO K H fs ds
structure Sn (K:qc) (pn:Qa Nat) (aj:St) (A:Qg->Prop) (H₀ aq:Hp) (ρ:En) (σ:St) (H:Hp):Prop where
 rs:Rs K ρ σ H
 fr:yJ A H₀ H
 ow:∀(i:Nat) (u:U) (a:Qg),ρ[i]?=ž (ž u)->u.own=ż->σ[i]?=ž (ž<|.ref a)->(i∈pn/\A a)\/H₀ a=Ž
 pin:∀i∈pn,σ[i]?=aj[i]?
 dm:∀a,H a=Ž->H₀ a=Ž
 kp:Kp aq H
def Xo:fZ:=λ_ _ _=>False
def zE2(K:qc)(pn:Qa Nat)(EX:fZ)(aj:St)(A:Qg->Prop)(H₀ aq:Hp)(D:Ends):Fl->Prop
 |.nx ρ=>∀σ H,Sn K pn aj A H₀ aq ρ σ H->D.nx σ H
 |.bk ρ=>∀σ H,Sn K pn aj A H₀ aq ρ σ H->D.bk σ H
 |.ct ρ=>∀σ H,Sn K pn aj A H₀ aq ρ σ H->D.ct σ H
 |.rt u ρ=>∀v σ H,Sn K pn aj A H₀ aq ρ σ H->Rp K H v u->Nw H₀ v u->D.rt v H
 |.ex x ρ=>∀a σ H,Sn K pn aj A H₀ aq ρ σ H->H₀ a=Ž->U5 K H a x->EX σ a H
abbrev MS:=En->Qb Fl
def VS(K:qc)(pn:Qa Nat)(EX:fZ)(t:TS)(m:MS):Prop :=
 ∀(aj:St) (A:Qg->Prop) (H₀ aq:Hp) (ρ:En) (σ:St) (H:Hp) (f:Fl) (D:Ends),Sn K pn aj A H₀ aq ρ σ H->m ρ=ž f->zE2 K pn EX aj A H₀ aq D f->t D σ H
section
variable{EX:fZ}{A:Qg->Prop}{m7:Hp}{ρ ai:En}
theorem Sn.go(s:Sn K pn aj A H₀ aq ρ σ H)(g:Go K ρ σ H ai H'):Sn K pn aj A H₀ aq ai σ H':=by
 refine⟨g.rs,λa o h n=>g.fr a o (s.fr a o h n) λ⟨i,u,e,ou,es⟩=>?_,λi u a e o es=>?_,s.pin,λa h=>s.dm a<|g.dm a h,s.kp.trans<|g.kp s.rs⟩
 .rcases s.ow i u a e ou es with z|z
  .exact n z.2
  .rw[z]at h;cases h
 .have(w,e',o'):=g.shr.own i u e o
  exact s.ow i w a e' o' es
theorem Sn.re(s:Sn K pn aj A H₀ m7 ρ σ H)(k:Kp aq m7):Sn K pn aj A H₀ aq ρ σ H:=⟨s.rs,s.fr,s.ow,s.pin,s.dm,k.trans s.kp⟩
theorem Sn.at(s:Sn K pn aj A H₀ aq ρ σ H):Sn K pn aj A H₀ H ρ σ H:=⟨s.rs,s.fr,s.ow,s.pin,s.dm,Kp.refl H⟩
theorem Sn.set{v:V}{u:U}(s:Sn K pn aj A H₀ aq ρ σ H)(hi:i∉pn)(p:Rp K H v u)(n:u.own=ż->∃a,v=.ref a/\H₀ a=Ž/\¬Ow ρ σ a):Sn K pn aj A H₀ aq (ρ.set i<|some u) (σ.set i<|some v) H:=by
 have ll:=s.rs.len;have inv:∀(j:Nat) (w:U),(ρ.set i<|some u)[j]?=ž (ž w)->(j=i/\w=u/\i < ρ.length)\/(j≠i/\ρ[j]?=ž (ž w)):=λj w e=>by
  by_cases hj:i=j
  .subst hj
   have hl:=(qm.mp e).1;rw[ŀ]at hl;rw[ŉ hl]at e;cases e;exact .inl ⟨rfl,rfl,hl⟩
  .rw[qD hj]at e
   exact .inr ⟨ň hj,e⟩
 have sat:∀j,j≠i->(σ.set i<|some v)[j]?=σ[j]?:=λj h=>qD<|ň h;have lN:i < ρ.length->(σ.set i<|some v)[i]?=ž (ž v):=λh=>å (by omega);refine⟨⟨by rw[ŀ,ŀ];exact ll,λj w e=>?_,λj k x y ej ek ox oy es=>?_⟩,s.fr,λj w a e o es=>?_,λj hj=>?_,s.dm,s.kp⟩
 .rcases inv j w e with⟨rfl,rfl,hl⟩|⟨hj,e'⟩
  .exact⟨v,lN hl,p⟩
  .rw[sat j hj]
   exact s.rs.rep j w e'
 .rcases inv j x ej with⟨rfl,rfl,hl⟩|⟨hj,pA⟩
  .rcases inv k y ek with⟨rfl,rfl,_⟩|⟨hk,Mz⟩
   .rfl
   .exfalso
    have(a,rfl,_,na):=n ox;rw[lN hl,sat k hk]at es;exact na ⟨k,y,Mz,oy,es.symm⟩
  .rcases inv k y ek with⟨rfl,rfl,hl⟩|⟨hk,Mz⟩
   .exfalso
    have(a,rfl,_,na):=n oy;rw[lN hl,sat j hj]at es;exact na ⟨j,x,pA,ox,es⟩
   .rw[sat j hj,sat k hk]at es
    exact s.rs.apart j k x y pA Mz ox oy es
 .rcases inv j w e with⟨rfl,rfl,hl⟩|⟨hj,e'⟩
  .rw[lN hl]at es
   cases es;have(b,eb,hb,_):=n o;cases eb;exact .inr hb
  .rw[sat j hj]at es
   exact s.ow j w a e' o es
 .rw[sat j λz=>hi<|z▸hj]
  exact s.pin j hj
theorem nQ.own{a:Ar}{v:V}{u:U}(r:Rs K ρ σ H)(g:Go K ρ σ H ai H')(k:nQ K ai σ H H' v a)(e:a.get ai=ž u)(nc:∀j,a=.s j->u.own=Ż):Nw H v u/\(u.own=ż->∃b,v=.ref b/\¬Ow ai σ b):=by
 cases a with
 |s j=>exact⟨(λo=>by rw[nc j rfl]at o;cases o),λo=>by rw[nc j rfl]at o;cases o⟩
 |u x=>
  cases(show ž x=ž u from e);exact⟨k.2,k.2.rW r g⟩
noncomputable def put(p:Ar×En):Qb (U×En):=match p.1 with
 |.s i=>match p.2[i]? with
  |some (ž<|.d x)=>ž (.d x,p.2)
  |_=>Ž
 |.u u=>ž (u,p.2)
theorem OE{a:Ar}{u:U}{ρ1 au:En}(e:put (a,ρ1)=ž (u,au)):au=ρ1/\a.get ρ1=ž u/\∀j,a=.s j->u.own=Ż:=by
 cases a with
 |s i=>
  unfold put at e;dsimp only at e;split at e
  .rename_i x ex
   cases e;refine⟨rfl,?_,λ_ _=>rfl⟩;show(ρ1[i]?).join=_;rw[ex];rfl
  .cases e
 |u x=>
  cases e;exact⟨rfl,rfl,λj z=>by cases z⟩
def aV(i:Nat)(me:ME):MS:=λρ=>(me ρ).bind λp=>(put p).bind λq=>ž<|.nx<|q.2.set i<|some q.1
theorem zS{me:ME}(h:VE K te me)(hi:autoParam (i∉pn) ă):VS K pn EX (pN te<|iO i) (aV i me):=by
 intro aj A H₀ aq ρ σ H f D s e k;obtain⟨⟨a,ρ1⟩,e1,e⟩:=bQ e;obtain⟨⟨u,au⟩,e2,e3⟩:=bQ e;clear e;have(rfl,eg,nc):=OE e2;cases e3;refine h ρ σ H a au _ s.rs e1 λv H1 g1 k1=>?_;have(n1,n2):=k1.own s.rs g1 eg nc;have s1:=s.go g1;refine k _ _<|s1.set hi (k1.now s.rs g1 eg) λo=>?_;have(b,rfl,hb):=n2 o;have(b',eb,eS):=n1 o;cases eb;exact⟨b,rfl,s.dm b eS,hb⟩
noncomputable def zC(m1 m2:MS):MS:=λρ=>(m1 ρ).bind λf=>match f with
 |.nx ai=>m2 ai
 |f=>ž f
theorem zw{t1 t2:TS}{m1 m2:MS}(h1:VS K pn EX t1 m1)(h2:VS K pn EX t2 m2):VS K pn EX (Ds t1 t2) (zC m1 m2):=by
 intro aj A H₀ aq ρ σ H f D s e k;have(f1,e1,e):=bQ e;refine h1 aj A H₀ aq ρ σ H f1 _ s e1 ?_;cases f1 with
 |nx ρ1=>exact λfO H1 s1=>h2 aj A H₀ aq ρ1 fO H1 f D s1 e k
 |bk ρ1=>cases e;exact k
 |ct ρ1=>cases e;exact k
 |rt u ρ1=>cases e;exact k
 |ex x ρ1=>cases e;exact k
noncomputable def cF:MS:=λρ=>ž<|.nx ρ
theorem dz:VS K pn EX Hw cF:=λaj A H₀ aq ρ σ H f D s e k=>by cases e;exact k σ H s
noncomputable def bV(mt:MT)(m1 m2:MS):MS:=λρ=>(mt ρ).bind λp=>if p.1=ż then m1 p.2 else m2 p.2
theorem cE{t1 t2:TS}{mt:MT}{m1 m2:MS}(ht:VT K tt mt)(h1:VS K pn EX t1 m1)(h2:VS K pn EX t2 m2):VS K pn EX (Gv tt t1 t2) (bV mt m1 m2):=by
 intro aj A H₀ aq ρ σ H f D s e k;obtain⟨⟨c,ρ1⟩,e1,e⟩:=bQ e;refine ht ρ σ H c ρ1 _ s.rs e1 λH1 g1=>?_;dsimp only at e;split at e
 .rename_i hc
  rw[a5E hc];exact h1 aj A H₀ aq ρ1 σ H1 f D (s.go g1) e k
 .rename_i hc
  rw[a5F hc];exact h2 aj A H₀ aq ρ1 σ H1 f D (s.go g1) e k
theorem Ii{t:TS}{m:MS}(h:VS K pn EX t m):VS K pn EX (Hi t) m:=by
 intro aj A H₀ aq ρ σ H f D s e k;cases f with
 |nx ρ1=>exact⟨λaF H'=>Sn K pn aj A H₀ aq ρ1 aF H',h aj A H₀ aq ρ σ H _ _ s e λaF H' s'=>s',λaF H' s'=>k aF H' s'⟩
 |bk ρ1=>exact⟨D.nx,h aj A H₀ aq ρ σ H _ _ s e k,λ_ _ z=>z⟩
 |ct ρ1=>exact⟨D.nx,h aj A H₀ aq ρ σ H _ _ s e k,λ_ _ z=>z⟩
 |rt u ρ1=>exact⟨D.nx,h aj A H₀ aq ρ σ H _ _ s e k,λ_ _ z=>z⟩
 |ex x ρ1=>exact⟨D.nx,h aj A H₀ aq ρ σ H _ _ s e k,λ_ _ z=>z⟩
noncomputable def jc(me:ME):MS:=λρ=>(me ρ).bind λp=>ž<|.nx p.2
theorem mn{me:ME}(h:VE K te me):VS K pn EX (Hv te) (jc me):=by
 intro aj A H₀ aq ρ σ H f D s e k;obtain⟨⟨a,ρ1⟩,e1,e⟩:=bQ e;cases e;exact h ρ σ H a _ _ s.rs e1 λv H1 g1 k1=>k σ H1<|s.go g1
def aS(me:ME):MS:=λρ=>(me ρ).bind λp=>(put p).bind λq=>ž<|.rt q.1 q.2
theorem zM{me:ME}(h:VE K te me):VS K pn EX (Dr te) (aS me):=by
 intro aj A H₀ aq ρ σ H f D s e k;obtain⟨⟨a,ρ1⟩,e1,e⟩:=bQ e;obtain⟨⟨u,au⟩,e2,e3⟩:=bQ e;clear e;have(rfl,eg,nc):=OE e2;cases e3;refine h ρ σ H a _ _ s.rs e1 λv H1 g1 k1=>?_;have(n1,n2):=k1.own s.rs g1 eg nc;exact k v σ H1 (s.go g1) (k1.now s.rs g1 eg)<|n1.mono s.dm
def nY(pn:Qa Nat)(i:Nat):MS:=λρ=>if i∈pn then Ž else(match ρ[i]? with
 |some (ž u)=>ž<|.rt u<|ρ.set i Ž
 |_=>Ž)
theorem xE:VS K pn EX (Dr<|fQ i) (nY pn i):=by
 intro aj A H₀ aq ρ σ H f D s e k;unfold nY at e;split at e
 .cases e
 rename_i hi;split at e
 .rename_i u eu
  cases e;have(v,ev,p):=s.rs.rep i u eu;have back:∀(j:Nat) (w:U),(ρ.set i Ž)[j]?=ž (ž w)->ρ[j]?=ž (ž w):=λj w e=>by
   by_cases hj:i=j
   .subst hj
    have hl:=(qm.mp e).1;rw[ŀ]at hl;rw[ŉ hl]at e;cases e
   .rw[qD hj]at e
    exact e
  refine⟨v,ev,k v σ H ⟨⟨by rw[ŀ];exact s.rs.len,λj w e=>s.rs.rep j w<|back j w e,λa b x y ea eb=>s.rs.apart a b x y (back a x ea)<|back b y eb⟩,s.fr,λj w a e=>s.ow j w a<|back j w e,s.pin,s.dm,s.kp⟩ p λo=>?_⟩;have(a,rfl):=p.lP o;rcases s.ow i u a eu o ev with z|z
  .exact absurd z.1 hi
  .exact⟨a,rfl,z⟩
 .cases e
end
section
variable{EX:fZ}{A:Qg->Prop}{m7:Hp}{ρ ai:En}
def Ih(K:qc)(J:It)(aq:Hp)(ds:Qa D):Prop:=∀H,Kp aq H->∀i:Nat,(∀d,ds[i]?=ž d->J.go i H/\∀x H',J.vG i H x H'->dJ H H'/\DF K H' x d)/\(i=ds.length->J.stop i H)
abbrev MI:=En->Qb (Qa D×En)
def VI(K:qc)(wi:TI)(mi:MI):Prop :=
 ∀(ρ:En) (σ:St) (H:Hp) (ds:Qa D) (ai:En) (R:It->Hp->Prop),Rs K ρ σ H->mi ρ=ž (ds,ai)->(∀J H',Go K ρ σ H ai H'->Ih K J H' ds->R J H')->wi σ H R
noncomputable def nP:U->Qb (Qa D)
 |.d (.list xs)=>ž xs
 |_=>Ž
def nO:U->Qb (Qa D)
 |.d (.tuple xs)=>ž xs
 |_=>Ž
def dg(f:U->Qb (Qa D))(me:ME):MI:=λρ=>(me ρ).bind λp=>(p.1.get p.2).bind λu=>(f u).bind λds=>ž (ds,p.2)
theorem tY{me:ME}(h:VE K te me):VI K (Ht K te) (dg nP me):=by
 intro ρ σ H ds ai R r e q;obtain⟨⟨a,ρ1⟩,e1,e⟩:=bQ e;have(u,eu,e):=bQ e;have(xs,ex,e):=bQ e;cases e;refine h ρ σ H a _ _ r e1 λv H1 g1 k1=>?_;have p:=k1.now r g1 eu;unfold nP at ex;split at ex
 .cases ex
  have(b,ys,rfl,h1,h2):=DF.lst_inv p;refine⟨b,rfl,⟨ys,h1.sq⟩,q _ _ g1 λH2 k i=>⟨λd ed=>?_,λei=>?_⟩⟩
  .have(v,ev,dv):=(h2.kp k).get ed
   refine⟨⟨ys,v,(h1.kp k).sq,ev⟩,λx H' y=>?_⟩;have(rfl,y):=y;have:=y ys (h1.kp k).sq;rw[ev]at this;cases this;exact⟨λ_ _ z=>z,dv⟩
  .exact⟨ys,(h1.kp k).sq,by rw[h2.len];omega⟩
 .cases ex
theorem tO{me:ME}(h:VE K te me):VI K (Gq K te) (dg nO me):=by
 intro ρ σ H ds ai R r e q;obtain⟨⟨a,ρ1⟩,e1,e⟩:=bQ e;have(u,eu,e):=bQ e;have(xs,ex,e):=bQ e;cases e;refine h ρ σ H a _ _ r e1 λv H1 g1 k1=>?_;have p:=k1.now r g1 eu;unfold nO at ex;split at ex
 .cases ex
  have(b,ys,rfl,h1,h2):=DF.aD p;refine⟨b,rfl,⟨ys,(aJ.sq h1)⟩,q _ _ g1 λH2 k i=>⟨λd ed=>?_,λei=>?_⟩⟩
  .have(v,ev,dv):=(h2.kp k).get ed
   refine⟨⟨ys,v,(aJ.kp k h1).sq,ev⟩,λx H' y=>?_⟩;have(rfl,y):=y;have:=y ys ((aJ.kp k h1).sq);rw[ev]at this;cases this;exact⟨λ_ _ z=>z,dv⟩
  .exact⟨ys,(aJ.kp k h1).sq,by rw[h2.len];omega⟩
 .cases ex
noncomputable def jR(lo:Int)(n:Nat):Qa D:=(Ń n).map λi=>.int<|lo+(i:Nat)
theorem RQ(lo:Int)(n:Nat):(jR lo n).length=n:=by simp[jR]
theorem Rv{lo:Int}{d:D}(h:(jR lo n)[i]?=ž d):i < n/\d=.int (lo+(i:Nat)):=by
 have hl:=(qm.mp h).1;rw[RQ]at hl;refine⟨hl,?_⟩;unfold jR at h;rw[ĭ,a1C hl]at h;cases h;rfl
theorem znQ{lo:Int}:Ih K (Gg lo n) aq (jR lo n):=λH k i=>⟨λd ed=>by
  have(hi,rfl):=Rv ed;refine⟨hi,λx H' y=>?_⟩;have(rfl,rfl):=y;exact⟨λ_ _ z=>z,.int _⟩,λei=>by rw[RQ]at ei;exact ñ ei.symm⟩
def pQ(ma:MA):MI:=λρ=>(ma ρ).bind λp=>(bJ p.2 p.1).bind λus=>match us with
 |[.d<|.int j]=>if -(2^62)<=j/\j < 2^62 then ž (jR 0 j.toNat,p.2)else Ž
 |_=>Ž
theorem vn{ta:TA}{ma:MA}(h:lS K ta ma):VI K (Hs ta) (pQ ma):=by
 intro ρ σ H ds ai R r e q;obtain⟨⟨as,ρ1⟩,e1,e⟩:=bQ e;have(us,eu,e):=bQ e;refine h ρ σ H as ρ1 _ r e1 λvs H1 g1 s1=>?_;have rp:=s1.qJ r g1 eu;dsimp only at e;split at e
 .split at e
  .rename_i j hc
   cases e;cases rp with
   |cons h1 t=>
    cases t;cases DF.int_inv h1;exact⟨j,rfl,hc.1,hc.2,q _ _ g1 znQ⟩
  .cases e
 .cases e
noncomputable def oB:Nat->Qa D->Qa D
 |_,[]=>[]
 |i,d::ds=>.tuple [.int (i:Nat),d]::oB (i+1) ds
theorem vC:∀{ds:Qa D} {n i:Nat} {d:D},(oB n ds)[i]?=ž d->∃x,ds[i]?=ž x/\d=.tuple [.int ((n+i:Nat):Int),x]
 |[],n,i,d,h=>by simp[oB]at h
 |x::ds,n,0,d,h=>by cases h;exact⟨x,rfl,rfl⟩
 |x::ds,n,i+1,d,h=>by
  have(y,ey,ed):=vC (ds:=ds) (n:=n+1) (i:=i) h;exact⟨y,ey,by rw[ed];congr 3;omega⟩
theorem vF:∀(ds:Qa D) (n:Nat),(oB n ds).length=ds.length
 |[],_=>rfl
 |_::ds,n=>congrArg (·+1)<|vF ds<|n+1
def uV(ma:MA):MI:=λρ=>(ma ρ).bind λp=>(bJ p.2 p.1).bind λus=>match us with
 |[.d<|.tuple ds]=>ž (oB 0 ds,p.2)
 |_=>Ž
theorem Eg{ta:TA}{ma:MA}(h:lS K ta ma):VI K (zC3 K ta) (uV ma):=by
 intro ρ σ H ds ai R r e q;obtain⟨⟨as,ρ1⟩,e1,e⟩:=bQ e;have(us,eu,e):=bQ e;refine h ρ σ H as ρ1 _ r e1 λvs H1 g1 s1=>?_;have rp:=s1.qJ r g1 eu;dsimp only at e;split at e
 .rename_i xs
  cases e;cases rp with
  |cons h1 t=>
   cases t;have(b,ys,rfl,h1,h2):=DF.aD h1;refine⟨b,rfl,⟨ys,(aJ.sq h1)⟩,q _ _ g1 λH2 k i=>⟨λd ed=>?_,λei=>?_⟩⟩
   .have(x,ex,rfl):=vC ed
    have(v,ev,dv):=(h2.kp k).get ex;refine⟨⟨ys,v,(aJ.kp k h1).sq,ev⟩,λx H' y=>?_⟩;have(T,nT,rfl,y):=y;cases y ys v ((aJ.kp k h1).sq) ev;have sm:=zF nT (.tup [.int i,v]);refine⟨sm,.tup (.inl zq)<|.cons ?_<|.cons (dv.kp sm.kp) .nil⟩;rw[Ţ];exact .int _
   .exact⟨ys,(aJ.kp k h1).sq,by rw[vF]at ei;rw[h2.len];exact ei.symm⟩
 .cases e
abbrev MG:=D->En->Qb En
def zE3(pn:Qa Nat)(mg:MG):Prop:=∀d ρ ai,mg d ρ=ž ai->ai.length=ρ.length/\∀i∈pn,ai[i]?=ρ[i]?
def zC9(pn:Qa Nat)(mg:Qa D->En->Qb En):Prop:=∀ds ρ ai,mg ds ρ=ž ai->ai.length=ρ.length/\∀i∈pn,ai[i]?=ρ[i]?
structure uK (K:qc) (pn:Qa Nat) (g:TG) (mg:MG):Prop where
 run:∀(aj:St) (A:Qg->Prop) (H₀ aq:Hp) (ρ:En) (σ:St) (H:Hp) (v:V) (d:D) (ai:En) (Q:St->Hp->Prop),Sn K pn aj A H₀ aq ρ σ H->DF K H v d->mg d ρ=ž ai->(∀aF,Sn K pn aj A H₀ aq ai aF H->Q aF H)->g v σ H Q
 ok:zE3 pn mg
structure Ga (K:qc) (pn:Qa Nat) (g:jW) (mg:Qa D->En->Qb En):Prop where
 run:∀(aj:St) (A:Qg->Prop) (H₀ aq:Hp) (ρ:En) (σ:St) (H:Hp) (vs:Qa V) (ds:Qa D) (ai:En) (Q:St->Hp->Prop),Sn K pn aj A H₀ aq ρ σ H->aI K H vs ds->mg ds ρ=ž ai->(∀aF,Sn K pn aj A H₀ aq ai aF H->Q aF H)->g vs σ H Q
 ok:zC9 pn mg
noncomputable def zx(i:Nat):MG:=λd ρ=>ž<|ρ.set i<|some<|.d d
theorem zt(hi:autoParam (i∉pn) ă):uK K pn (iO i) (zx i) where
 run:=by
  intro aj A H₀ aq ρ σ H v d ai Q s h e q;cases e;exact q _ (s.set hi (u:=.d d) h λo=>by cases o)
 ok:=λd ρ ai e=>by
  cases e;exact⟨ù,λj hj=>qD (by rintro rfl;exact hi hj)⟩
def fq:Qa D->En->Qb En:=λds ρ=>match ds with |[]=>ž ρ|_=>Ž
noncomputable def zI(g:MG)(gs:Qa D->En->Qb En):Qa D->En->Qb En:=λds ρ=>match ds with
 |d::ds=>(g d ρ).bind λρ1=>gs ds ρ1
 |[]=>Ž
theorem gk:Ga K pn Dp fq where
 run:=by
  intro aj A H₀ aq ρ σ H vs ds ai Q s h e q;cases h with
  |nil=>cases e;exact⟨rfl,q σ s⟩
  |cons=>cases e
 ok:=λds ρ ai e=>by
  cases ds with
  |nil=>cases e;exact⟨rfl,λ_ _=>rfl⟩
  |cons=>cases e
theorem zy{gs:jW}{mg:MG}{vS:Qa D->En->Qb En}(h1:uK K pn g mg)(h2:Ga K pn gs vS):Ga K pn (yY g gs) (zI mg vS) where
 run:=by
  intro aj A H₀ aq ρ σ H vs ds ai Q s h e q;cases h with
  |nil=>cases e
  | @cons v d vs ds hv t=>
   have(ρ1,e1,e):=bQ (show(mg d ρ).bind (λρ1=>vS ds ρ1)=ž ai from e);exact⟨v,vs,rfl,h1.run aj A H₀ aq ρ σ H v d ρ1 _ s hv e1 λfO s1=>h2.run aj A H₀ aq ρ1 fO H vs ds ai Q s1 t e q⟩
 ok:=λds ρ ai e=>by
  cases ds with
  |nil=>cases e
  |cons d ds=>
   have(ρ1,e1,e):=bQ (show(mg d ρ).bind (λρ1=>vS ds ρ1)=ž ai from e);have(a1,a2):=h1.ok d ρ ρ1 e1;have(b1,b2):=h2.ok ds ρ1 ai e;exact⟨b1.trans a1,λi hi=>(b2 i hi).trans<|a2 i hi⟩
def eI(n:Nat)(gs:Qa D->En->Qb En):MG:=λd ρ=>match d with
 |.tuple ds=>if ds.length=n then gs ds ρ else Ž
 |_=>Ž
theorem gh{gs:jW}{vS:Qa D->En->Qb En}(h:Ga K pn gs vS):uK K pn (Dn K n gs) (eI n vS) where
 run:=by
  intro aj A H₀ aq ρ σ H v d ai Q s hd e q;unfold eI at e;split at e
  .split at e
   .rename_i ds hl
    have(a,xs,rfl,h1,h2):=DF.aD hd;exact⟨a,xs,rfl,(aJ.sq h1),by rw[h2.len];exact hl,h.run aj A H₀ aq ρ σ H xs ds ai Q s h2 e q⟩
   .cases e
  .cases e
 ok:=λd ρ ai e=>by
  unfold eI at e;split at e
  .split at e
   .exact h.ok _ _ _ e
   .cases e
  .cases e
def rC(me:ME)(mg:MG):MS:=λρ=>(me ρ).bind λp=>(p.1.get p.2).bind λu=>match u with
 |.d d=>(mg d p.2).bind λai=>ž<|.nx ai
 |_=>Ž
theorem y8{me:ME}{mg:MG}(h:VE K te me)(hg:uK K pn g mg):VS K pn EX (pN te g) (rC me mg):=by
 intro aj A H₀ aq ρ σ H f D s e k;obtain⟨⟨a,ρ1⟩,e1,e⟩:=bQ e;have(u,eu,e):=bQ e;refine h ρ σ H a ρ1 _ s.rs e1 λv H1 g1 k1=>?_;have p:=k1.now s.rs g1 eu;dsimp only at e;split at e
 .have(au,e2,e3):=bQ e
  cases e3;exact hg.run aj A H₀ aq ρ1 σ H1 v _ au _ (s.go g1) p e2 λaF s'=>k aF H1 s'
 .cases e
def yP(i j:Nat)(ma:MA):MS:=λρ=>(ma ρ).bind λp=>(bJ p.2 p.1).bind λus=>match us with
 |[.d x,.d y]=>ž<|.nx<|(p.2.set i<|some<|.d x).set j<|some<|.d y
 |_=>Ž
theorem NV{ta:TA}{ma:MA}(h:lS K ta ma)(hi:autoParam (i∉pn) ă)(hj:autoParam (j∉pn) ă):VS K pn EX (Gs i j ta) (yP i j ma):=by
 intro aj A H₀ aq ρ σ H f D s e k;obtain⟨⟨as,ρ1⟩,e1,e⟩:=bQ e;have(us,eu,e):=bQ e;refine h ρ σ H as ρ1 _ s.rs e1 λvs H1 g1 s1=>?_;have rp:=s1.qJ s.rs g1 eu;dsimp only at e;split at e
 .rename_i x y
  cases e;cases rp with
  | @cons v _ vs _ h1 t=>
   cases t with
   | @cons w _ _ _ h2 t=>
    cases t;have sn:=(s.go g1).set hi (u:=.d x) h1 λo=>by cases o
    exact⟨v,w,rfl,k _ _ (sn.set hj (u:=.d y) h2 λo=>by cases o)⟩
 .cases e
noncomputable def iM(mg:MG)(mb:MS):Qa D->En->Qb Fl
 |[],ρ=>ž<|.nx ρ
 |d::ds,ρ=>(mg d ρ).bind λρ1=>(mb ρ1).bind λf=>match f with
  |.nx au=>iM mg mb ds au
  |.ct au=>iM mg mb ds au
  |.bk au=>ž<|.nx au
  |.rt u au=>ž<|.rt u au
  |.ex x au=>ž<|.ex x au
def dU(mi:MI)(mg:MG)(mb:MS):MS:=λρ=>(mi ρ).bind λp=>iM mg mb p.1 p.2
theorem fm{tb:TS}{mi:MI}{mg:MG}{mb:MS}(hi:VI K wi mi)(hg:uK K pn g mg)(hb:VS K pn EX tb mb):VS K pn EX (Gp wi g tb) (dU mi mg mb):=by
 intro aj A H₀ aq ρ σ H f D s e k;obtain⟨⟨ds,ρ1⟩,e1,e⟩:=bQ e;refine hi ρ σ H ds ρ1 _ s.rs e1 λJ H1 g1 run=>?_;have s1:=(s.go g1).at;have sf:Kp aq H1:=(s.go g1).kp;refine⟨λi m aF H'=>m=ds.length - i/\i<=ds.length/\∃ai,Sn K pn aj A H₀ H1 ai aF H'/\iM mg mb (ds.drop i) ai=ž f,⟨ds.length,by simp,Ç _,ρ1,s1,e⟩,?_⟩;rintro i m aF H' ⟨rfl,fK,ai,s',el⟩
 by_cases dq:i < ds.length
 .rw[Ϭ dq]at el
  have(au,e2,el):=bQ (show(mg ds[i] ai).bind _=ž f from el);have(fb,eb,el):=bQ el;have(go,yl):=(run H' s'.kp i).1 ds[i] (qo dq);refine .inr ⟨go,λeB H3=>∃jL,Sn K pn aj A H₀ H1 jL eB H3/\iM mg mb (ds.drop<|i+1) jL=ž f,λeB H3 ⟨jL,s3,e3⟩=>⟨ds.length - (i+1),by omega,rfl,dq,jL,s3,e3⟩,λx H2 y=>?_⟩;have(sm,dx):=yl x H2 y;have s2:=s'.go (Go.grow s'.rs sm);refine hg.run aj A H₀ H1 ai aF H2 x ds[i] au _ s2 dx e2 λeB s3=>?_;refine hb aj A H₀ H1 au eB H2 fb _ s3 eb ?_;cases fb with
  |nx dR=>exact λjX H4 s4=>⟨dR,s4,el⟩
  |ct dR=>exact λjX H4 s4=>⟨dR,s4,el⟩
  |bk dR=>cases el;exact λjX H4 s4=>k jX H4<|s4.re sf
  |rt u dR=>cases el;exact λv jX H4 s4 p n=>k v jX H4 (s4.re sf) p n
  |ex x dR=>cases el;exact λa jX H4 s4 p n=>k a jX H4 (s4.re sf) p n
 .have ei:i=ds.length:=by omega
  subst ei;rw[a0N]at el;cases el;exact .inl ⟨(run H' s'.kp _).2 rfl,k aF H'<|s'.re sf⟩
def ju(mt:MT)(mb:MS):Nat->En->Qb Fl
 |0,_=>Ž
 |n+1,ρ=>(mt ρ).bind λp=>if p.1=ż then(mb p.2).bind λf=>match f with
  |.nx au=>ju mt mb n au
  |.ct au=>ju mt mb n au
  |.bk au=>ž<|.nx au
  |.rt u au=>ž<|.rt u au
  |.ex x au=>ž (.ex x au)else ž (.nx p.2)
open Classical in
def ve(mt:MT)(mb:MS):MS:=λρ=>if h:∃n,(ju mt mb n ρ).isSome=ż then ju mt mb h.choose ρ else Ž
theorem P8{tb:TS}{mt:MT}{mb:MS}(ht:VT K tt mt)(hb:VS K pn EX tb mb):VS K pn EX (Iw tt tb) (ve mt mb):=by
 intro aj A H₀ aq ρ σ H f D s e k;unfold ve at e;split at e
 .rename_i hn
  generalize hn.choose=n at e;refine⟨λm aF H'=>∃ai,Sn K pn aj A H₀ aq ai aF H'/\ju mt mb m ai=ž f,⟨n,ρ,s,e⟩,?_⟩;rintro m aF H' ⟨ai,s',el⟩;cases m with
  |zero=>cases el
  |succ m=>
   obtain⟨⟨b,ρ1⟩,e1,el⟩:=bQ (show(mt ai).bind _=ž f from el);refine ht ai aF H' b ρ1 _ s'.rs e1 λH1 g1=>?_;dsimp only at el;split at el
   .rename_i hc
    rw[a5E hc];have(fb,eb,el):=bQ el;refine⟨λfB H2=>∃au,Sn K pn aj A H₀ aq au fB H2/\ju mt mb m au=ž f,λfB H2 ⟨au,s2,e2⟩=>⟨m,à m,au,s2,e2⟩,?_⟩;refine hb aj A H₀ aq ρ1 aF H1 fb _ (s'.go g1) eb ?_;cases fb with
    |nx dR=>exact λjX H4 s4=>⟨dR,s4,el⟩
    |ct dR=>exact λjX H4 s4=>⟨dR,s4,el⟩
    |bk dR=>cases el;exact λjX H4 s4=>k jX H4 s4
    |rt u dR=>cases el;exact λv jX H4 s4 p n=>k v jX H4 s4 p n
    |ex x dR=>cases el;exact λa jX H4 s4 p n=>k a jX H4 s4 p n
   .rename_i hc
    rw[a5F hc];cases el;exact k aF H1<|s'.go g1
 .cases e
theorem EU{mt:MT}{mb:MS}:∀{n:Nat} {ρ:En} {f:Fl},ju mt mb n ρ=ž f->∀k,ju mt mb (n+k) ρ=ž f
 |0,_,_,e,_=>by cases e
 |n+1,ρ,f,e,k=>by
  rw[show n+1+k=(n+k)+1 by omega];obtain⟨⟨b,ρ1⟩,e1,e⟩:=bQ (show(mt ρ).bind _=ž f from e);show(mt ρ).bind _=ž f;rw[e1];show(if b=ż then _ else _)=_;dsimp only at e;split at e
  .rename_i hc
   rw[a5E hc];have(fb,eb,e):=bQ e;rw[eb];cases fb with
   |nx au=>exact EU (n:=n) e k
   |ct au=>exact EU (n:=n) e k
   |bk au=>exact e
   |rt u au=>exact e
   |ex x au=>exact e
  .rename_i hc
   rw[a5F hc];exact e
theorem zsB{mt:MT}{mb:MS}{ρ:En}{f:Fl}(e:ju mt mb n ρ=ž f):ve mt mb ρ=ž f:=by
 have h:∃n,(ju mt mb n ρ).isSome=ż:=⟨n,by rw[e];rfl⟩;unfold ve;rw[dif_pos h];have(f',Ww):=Option.isSome_iff_exists.mp h.choose_spec;rw[Ww];have a:=EU e h.choose;have b:=EU Ww n;rw[a3U,b]at a;exact a
end
section
variable{A:Qg->Prop}{m7:Hp}{ρ ai:En}
noncomputable def e9(nt:Nat)(js:Qa Nat)(ρ:En):En:=Ĩ nt Ž++js.map λj=>ρ.getD j Ž
noncomputable def reset(nt:Nat)(ρ:En):En:=Ĩ nt Ž++ρ.drop nt
noncomputable def back:Qa Nat->Qa (Qb U)->En->En
 |j::js,ž u::us,ρ=>back js us<|ρ.set j<|some u
 |_::js,Ž::us,ρ=>back js us ρ
 |_,_,ρ=>ρ
def kD(nt:Nat)(mg:MG)(mt:MT)(me:ME):Qa D->En->Qa D->Qb (Qa D×En)
 |[],ρ,ys=>ž (ys,ρ)
 |d::ds,ρ,ys=>if ys.length < ħ then(mg d ρ).bind λρ1=>(mt ρ1).bind λb=>if b.1=ż then(me b.2).bind λp=>(p.1.get p.2).bind λu=>(match u with
   |.d y=>kD nt mg mt me ds (reset nt p.2)<|ys++[y]
   |_=>Ž)else kD nt mg mt me ds (reset nt b.2) ys else Ž
def jj(mi:MI)(nt:Nat)(js:Qa Nat)(mg:MG)(mt:MT)(me:ME):ME:=λρ=>(mi ρ).bind λp=>(kD nt mg mt me p.1 (e9 nt js p.2) []).bind λq=>ž (.u<|.l q.1,back js (q.2.drop nt) p.2)
noncomputable def fP(nt n:Nat):Qa Nat:=(Ń n).map (nt+·)
theorem tX:i∈fP nt n↔nt<=i/\i < nt+n:=by
 unfold fP;rw[List.mem_map];constructor
 .rintro⟨a,ha,rfl⟩
  have:=Ø.mp ha;omega
 .intro h
  exact⟨i - nt,Ø.mpr (by omega),by omega⟩
theorem xC{u:U}(h:(e9 nt js ρ)[i]?=ž (ž u)):∃p j,i=nt+p/\js[p]?=ž j/\ρ[j]?=ž (ž u):=by
 unfold e9 at h
 by_cases hi:i < nt
 .rw[ĳ (by simpa using hi),ŗ,a5E hi]at h
  cases h
 .rw[ı (by simp;omega),Ĺ,ĭ]at h
  have(j,ej,e):=qt.mp h;refine⟨i - nt,j,by omega,ej,?_⟩;rw[qC]at e;cases q:ρ[j]? with
  |none=>rw[q]at e;cases e
  |some o=>rw[q]at e;exact congrArg ž e
theorem Hn{p:Nat}(h:js[p]?=ž j):(c0 nt js σ)[nt+p]?=ž (σ.getD j Ž):=by
 unfold c0;rw[ı (by simp),Ĺ,a3x,ĭ,h];rfl
theorem Ig:(c0 nt js σ).length=nt+js.length:=by unfold c0;simp
theorem Ay:(e9 nt js ρ).length=nt+js.length:=by unfold e9;simp
def lY(ρ:En)(σ:St)(js:Qa Nat)(a:Qg):Prop:=∃(p j:Nat) (u:U),js[p]?=ž j/\ρ[j]?=ž (ž u)/\u.own=ż/\σ[j]?=ž (ž<|.ref a)
theorem P7(r:Rs K ρ σ H)(nd:js.Nodup):Sn K (fP nt js.length) (c0 nt js σ) (lY ρ σ js) H H (e9 nt js ρ) (c0 nt js σ) H:=by
 have sat:∀{p j:Nat} {v:V},js[p]?=ž j->σ[j]?=ž (ž v)->(c0 nt js σ)[nt+p]?=ž (ž v):=λ{p j v} hp hv=>by
  rw[Hn hp,qC,hv];rfl
 refine⟨⟨by rw[Ay,Ig],λi u e=>?_,λi k u w ei ek ou ow es=>?_⟩,λ_ _ h _=>h,λi u a e o es=>?_,λ_ _=>rfl,λ_ h=>h,Kp.refl H⟩
 .have(p,j,rfl,hj,hr):=xC e
  have(v,ev,q):=r.rep j u hr;exact⟨v,sat hj ev,q⟩
 .have(p,j,rfl,hj,hr):=xC ei
  have(p',j',rfl,sF,um):=xC ek;have(v,ev,_):=r.rep j u hr;have(v',qV,_):=r.rep j' w um;rw[sat hj ev,sat sF qV]at es;have:j=j':=r.apart j j' u w hr um ou ow (by rw[ev,qV];exact es);subst this;have l1:=(qm.mp hj);have l2:=(qm.mp sF);have(h1,e1):=l1;have(h2,e2):=l2;have:=(a5n nd).mp (e1.trans e2.symm);omega
 .have(p,j,rfl,hj,hr):=xC e
  have(v,ev,_):=r.rep j u hr;rw[sat hj ev]at es;cases es;exact .inl ⟨tX.mpr ⟨by omega,by have:=(qm.mp hj).1;omega⟩,p,j,u,hj,hr,o,ev⟩
theorem Sn.reset{hU:St}{au:En}{fB:St}(s:Sn K (fP nt n) hU A H₀ aq au fB H)(l1:au.length=nt+n)(l2:hU.length=nt+n):Sn K (fP nt n) hU A H₀ aq (Internal.reset nt au) hU H:=by
 have bk:∀(i:Nat) (u:U),(Internal.reset nt au)[i]?=ž (ž u)->nt<=i/\i < nt+n/\au[i]?=ž (ž u):=λi u e=>by
  unfold Internal.reset at e
  by_cases hi:i < nt
  .rw[ĳ (by simpa using hi),ŗ,a5E hi]at e
   cases e
  .rw[ı (by simp;omega),Ĺ,a0h,show nt+(i - nt)=i by omega]at e
   have:=(qm.mp e).1;exact⟨by omega,by omega,e⟩
 have pin:∀i,nt<=i->i < nt+n->hU[i]?=fB[i]?:=λi h1 h2=>(s.pin i<|tX.mpr ⟨h1,h2⟩).symm;have ll:(Internal.reset nt au).length=nt+n:=by unfold Internal.reset;simp;omega
 refine⟨⟨by omega,λi u e=>?_,λi j u w ei ej ou ow es=>?_⟩,s.fr,λi u a e o es=>?_,λ_ _=>rfl,s.dm,s.kp⟩
 .have(h1,h2,e'):=bk i u e
  rw[pin i h1 h2];exact s.rs.rep i u e'
 .have(h1,h2,uI):=bk i u ei
  have(h3,h4,pA):=bk j w ej;rw[pin i h1 h2,pin j h3 h4]at es;exact s.rs.apart i j u w uI pA ou ow es
 .have(h1,h2,e'):=bk i u e
  rw[pin i h1 h2]at es;exact s.ow i u a e' o es
theorem Ef:∀{js:Qa Nat} {us:Qa (Qb U)} {ρ:En} {j:Nat} {w:U},(back js us ρ)[j]?=ž (ž w)->(∃p:Nat,js[p]?=ž j/\us[p]?=ž (ž w))\/(ρ[j]?=ž (ž w)/\∀p:Nat,js[p]?=ž j->∀x,us[p]?≠ž (ž x))
 |[],us,ρ,j,w,e=>.inr ⟨by cases us<;>exact e,λp z=>by simp at z⟩
 |k::js,[],ρ,j,w,e=>.inr ⟨e,λp z x=>by simp⟩
 |k::js,Ž::us,ρ,j,w,e=>by
  rcases Ef (js:=js) (us:=us) (ρ:=ρ) (show(back js us ρ)[j]?=ž (ž w) from e)with⟨p,h1,h2⟩|⟨h1,h2⟩
  .exact .inl ⟨p+1,h1,h2⟩
  .refine .inr ⟨h1,λp z x=>?_⟩
   cases p with
   |zero=>intro q;cases q
   |succ p=>exact h2 p z x
 |k::js,ž u::us,ρ,j,w,e=>by
  rcases Ef (js:=js) (us:=us) (ρ:=ρ.set k (ž u)) (show(back js us<|ρ.set k<|some u)[j]?=ž (ž w) from e)with⟨p,h1,h2⟩|⟨h1,h2⟩
  .exact .inl ⟨p+1,h1,h2⟩
  .by_cases hk:k=j
   .subst hk
    have hl:k < (ρ.set k<|some u).length:=(qm.mp h1).1;rw[ŀ]at hl;rw[ŉ hl]at h1;exact .inl ⟨0,rfl,by cases h1;rfl⟩
   .rw[qD hk]at h1
    refine .inr ⟨h1,λp z x=>?_⟩;cases p with
    |zero=>cases(show ž k=ž j from z);exact absurd rfl hk
    |succ p=>exact h2 p z x
theorem ED:∀(js:Qa Nat) (us:Qa (Qb U)) (ρ:En),(back js us ρ).length=ρ.length
 |[],us,ρ=>by cases us<;>rfl
 |_::js,[],ρ=>rfl
 |_::js,Ž::us,ρ=>ED js us ρ
 |j::js,ž u::us,ρ=>by show(back js us<|ρ.set j<|some u).length=_;rw[ED];exact ù
theorem EJ:∀{js:Qa Nat} {us:Qa (Qb U)} {ρ:En} {j:Nat} {w:U},ρ[j]?=ž (ž w)->∃w',(back js us ρ)[j]?=ž (ž w')
 |[],us,ρ,j,w,e=>⟨w,by cases us<;>exact e⟩
 |_::js,[],ρ,j,w,e=>⟨w,e⟩
 |_::js,Ž::us,ρ,j,w,e=>EJ (js:=js) (us:=us) e
 |k::js,ž u::us,ρ,j,w,e=>by
  by_cases hk:k=j
  .subst hk
   exact EJ (js:=js) (us:=us) (w:=u)<|å (qm.mp e).1
  .exact EJ (js:=js) (us:=us) (w:=w) (by rw[qD hk];exact e)
theorem Sn.comp_back{au:En}(r:Rs K ρ σ H)(s:Sn K (fP nt js.length) (c0 nt js σ) (lY ρ σ js) H aq au (c0 nt js σ) H')(l:au.length=nt+js.length)(sh:eJ (e9 nt js ρ) au):
  Go K ρ σ H (back js (au.drop nt) ρ) H':=by
 have AU:∀(p:Nat) (w:U),(au.drop nt)[p]?=ž (ž w)->au[nt+p]?=ž (ž w):=λp w e=>by rw[a0h]at e;exact e
 have kp:Kp H H':=by
  refine⟨λb xs h=>s.fr b _ h λ⟨p,j,u,hj,hr,ou,es⟩=>?_,λb ob u h=>s.fr b _ h λ⟨p,j,u,hj,hr,ou,es⟩=>?_,λb x h=>s.fr b _ h λ⟨p,j,u,hj,hr,ou,es⟩=>?_⟩
  all_goals
   have(c,q,m):=r.ow ⟨j,u,hr,ou,es⟩;rw[h]at q;cases q;exact m
 have Lw:∀(p j:Nat) (w:U),js[p]?=ž j->(au.drop nt)[p]?=ž (ž w)->w.own=ż->∃x,ρ[j]?=ž (ž x)/\x.own=ż:=λp j w hj e o=>by
  have(x,ex,ox):=sh.own (nt+p) w (AU p w e) o;have(p',j',ep,sF,hr):=xC ex;have:p'=p:=by omega
  subst this;rw[hj]at sF;cases sF;exact⟨x,hr,ox⟩
 have own:∀(j:Nat) (w:U),(back js (au.drop nt) ρ)[j]?=ž (ž w)->w.own=ż->∃x,ρ[j]?=ž (ž x)/\x.own=ż:=λj w e o=>by
  rcases Ef e with⟨p,hj,hu⟩|⟨h1,_⟩
  .exact Lw p j w hj hu o
  .exact⟨w,h1,o⟩
 refine⟨⟨by rw[ED];exact r.len,λj w e=>?_,λi j u w ei ej ou ow es=>?_⟩,λa o h n=>s.fr a o h λ⟨p,j,u,hj,hr,ou,es⟩=>n ⟨j,u,hr,ou,es⟩,⟨ED _ _ _,own,λj w e=>EJ e⟩,s.dm⟩
 .rcases Ef e with⟨p,hj,hu⟩|⟨h1,h2⟩
  .have(v,ev,q):=s.rs.rep (nt+p) w (AU p w hu)
   rw[Hn hj]at ev;refine⟨v,?_,q⟩;rw[qC]at ev;cases z:σ[j]? with
   |none=>rw[z]at ev;cases ev
   |some o=>rw[z]at ev;exact congrArg ž<|qy ev
  .have(v,ev,q):=r.rep j w h1
   refine⟨v,ev,q.kp kp λow a c ea hc=>s.fr a c hc λ⟨p,j',u,hj,hr,ou,es⟩=>?_⟩;subst ea;have:j'=j:=r.apart j' j u w hr h1 ou ow (by rw[es,ev]);subst this;have e1:(e9 nt js ρ)[nt+p]?=ž (ž u):=by
    unfold e9;rw[ı (by simp),Ĺ,a3x,ĭ,hj];show ž (ρ.getD j' Ž)=_;rw[qC,hr];rfl
   have(w',dP):=sh.live _ _ e1;exact h2 p hj w' (by rw[a0h];exact dP)
 .have(x,ex,ox):=own i u ei ou
  have(y,ey,oy):=own j w ej ow;exact r.apart i j x y ex ey ox oy es
theorem eJ.kj{cU ρ1:En}(l:cU.length=nt+n)(h0:∀i,i < nt->cU[i]?=ž Ž)(l1:ρ1.length=nt+n)(own:∀(i:Nat) (u:U),nt<=i->ρ1[i]?=ž (ž u)->u.own=ż->∃w,cU[i]?=ž (ž w)/\w.own=ż)(live:∀(i:Nat) (u:U),nt<=i->cU[i]?=ž (ž u)->∃w,ρ1[i]?=ž (ž w)):eJ cU (Internal.reset nt ρ1):=by
 have at':∀i,nt<=i->(Internal.reset nt ρ1)[i]?=ρ1[i]?:=λi hi=>by
  unfold Internal.reset;rw[ı (by simp;omega),Ĺ,a0h,show nt+(i - nt)=i by omega]
 have lo:∀i,i < nt->(Internal.reset nt ρ1)[i]?=ž Ž:=λi hi=>by
  unfold Internal.reset;rw[ĳ (by simpa using hi),ŗ,a5E hi]
 refine⟨by unfold Internal.reset;simp;omega,λi u e o=>?_,λi u e=>?_⟩
 .by_cases hi:i < nt
  .rw[lo i hi]at e;cases e
  .rw[at' i (by omega)]at e
   exact own i u (by omega) e o
 .by_cases hi:i < nt
  .rw[h0 i hi]at e;cases e
  .rw[at' i (by omega)]
   exact live i u (by omega) e
theorem Jc{ρ1:En}(h:i < nt):(Internal.reset nt ρ1)[i]?=ž Ž:=by
 unfold Internal.reset;rw[ĳ (by simpa using h),ŗ,a5E h]
theorem Ie(h:i < nt):(e9 nt js ρ)[i]?=ž Ž:=by
 unfold e9;rw[ĳ (by simpa using h),ŗ,a5E h]
def Xf(K:qc)(js:Qa Nat)(wi:TI)(mi:MI):Prop :=
 ∀(ρ:En) (σ:St) (H:Hp) (ds:Qa D) (ai:En) (R:It->Hp->Prop),Rs K ρ σ H->mi ρ=ž (ds,ai)->(∀J H',Go K ρ σ H ai H'->(∀H2,Kp H' H2->yJ (lY ai σ js) H' H2->∀i:Nat,(∀d,ds[i]?=ž d->J.go i H2/\∀x H3,J.vG i H2 x H3->dJ H2 H3/\DF K H3 x d)/\(i=ds.length->J.stop i H2))->R J H')->wi σ H R
theorem NU{mi:MI}{mg:MG}{mt:MT}{me:ME}(hi:Xf K js wi mi)(hg:uK K (fP nt js.length) g mg)(ht:VT K tt mt)(he:VE K te me)(nd:autoParam js.Nodup ă):
  VE K (Fi wi nt js g tt te) (jj mi nt js mg mt me):=by
 intro ρ σ H a ai Q r e q;obtain⟨⟨ds,ρ1⟩,e1,e⟩:=bQ e;obtain⟨⟨zs,lU⟩,e2,e⟩:=bQ e;cases e;refine hi ρ σ H ds ρ1 _ r e1 λJ H1 g1 run=>?_;have s1:=P7 (nt:=nt) (js:=js) g1.rs nd;refine⟨λi m ys H'=>m=ds.length - i/\i<=ds.length/\∃cU yd,Sn K (fP nt js.length) (c0 nt js σ) (lY ρ1 σ js) H1 H1 cU (c0 nt js σ) H'/\eJ (e9 nt js ρ1) cU/\(∀k,k < nt->cU[k]?=ž Ž)/\aI K H' ys yd/\kD nt mg mt me (ds.drop i) cU yd=ž (zs,lU),
  ⟨ds.length,by simp,Ç _,_,[],s1,eJ.refl _,λk hk=>Ie hk,.nil,e2⟩,?_⟩
 rintro i m ys H' ⟨rfl,fK,cU,yd,s',sh,lo,dy,el⟩;have lc:cU.length=nt+js.length:=by rw[sh.len,Ay]
 by_cases dq:i < ds.length
 .rw[Ϭ dq]at el
  unfold kD at el;split at el
  .rename_i hz
   have(au,e3,el):=bQ el;obtain⟨⟨b,jL⟩,e4,el⟩:=bQ el;have(l2,p2):=hg.ok _ _ _ e3;have(go,yl):=(run H' s'.kp s'.fr i).1 ds[i] (qo dq);refine .inr ⟨go,by rw[dy.len];exact hz,λj8 H2=>∃eK Fd,Sn K (fP nt js.length) (c0 nt js σ) (lY ρ1 σ js) H1 H1 eK (c0 nt js σ) H2/\eJ (e9 nt js ρ1) eK/\(∀k,k < nt->eK[k]?=ž Ž)/\aI K H2 j8 Fd/\kD nt mg mt me (ds.drop<|i+1) eK Fd=ž (zs,lU),
    λj8 H2 ⟨eK,Fd,z⟩=>⟨ds.length - (i+1),by omega,rfl,dq,eK,Fd,z⟩,λx H2 y=>?_⟩
   have(sm,dx):=yl x H2 y;have s2:=s'.go (Go.grow s'.rs sm);refine hg.run _ _ _ _ cU _ H2 x ds[i] au _ s2 dx e3 λeB s3=>?_;have toEnd:∀{dR:En} {H4:Hp},Go K au eB H2 dR H4->Sn K (fP nt js.length) (c0 nt js σ) (lY ρ1 σ js) H1 H1 (Internal.reset nt dR) (c0 nt js σ) H4/\eJ (e9 nt js ρ1) (Internal.reset nt dR):=λ{dR H4} g4=>by
    have l4:dR.length=nt+js.length:=by rw[g4.shr.len,l2,lc]
    refine⟨(s3.go g4).reset l4 Ig,sh.trans<|eJ.kj lc lo l4 (λk u hk ek ou=>?_) λk u hk ek=>?_⟩
    .have(w,ew,ow):=g4.shr.own k u ek ou
     have lk:k < nt+js.length:=by rw[<-l2.trans lc];exact(qm.mp ew).1
     rw[p2 k<|tX.mpr ⟨hk,lk⟩]at ew;exact⟨w,ew,ow⟩
    .have lk:k < nt+js.length:=by rw[<-lc];exact(qm.mp ek).1
     rw[<-p2 k (tX.mpr ⟨hk,lk⟩)]at ek;exact g4.shr.live k u ek
   refine ht au eB H2 b jL _ s3.rs e4 λH3 g3=>?_;dsimp only at el;split at el
   .rename_i hb
    rw[a5E hb];obtain⟨⟨a4,dR⟩,e5,el⟩:=bQ el;have(u,e6,el):=bQ el;refine he jL eB H3 a4 dR _ g3.rs e5 λv H4 g4 k4=>?_;have pv:=k4.now g3.rs g4 e6;dsimp only at el;split at el
    .rename_i yv
     have(sn,sr):=toEnd (g3.trans g4);exact⟨_,_,sn,sr,λk hk=>Jc hk,((dy.kp sm.kp).kp<|(g3.trans g4).kp s3.rs).snoc pv,el⟩
    .cases el
   .rename_i hb
    rw[a5F hb];have(sn,sr):=toEnd g3;exact⟨_,_,sn,sr,λk hk=>Jc hk,(dy.kp sm.kp).kp<|g3.kp s3.rs,el⟩
  .cases el
 .have ei:i=ds.length:=by omega
  subst ei;rw[a0N]at el;cases el;refine .inl ⟨(run H' s'.kp s'.fr _).2 rfl,λDa hD=>?_⟩;have gb:=Sn.comp_back g1.rs s' lc sh;have sm:=zF hD (.lst ys);exact q _ _ ((g1.trans gb).trans<|Go.grow gb.rs sm) ⟨⟨Da,ys,rfl,zq,dy.kp sm.kp⟩,λ_=>⟨Da,rfl,(g1.trans gb).dm _ hD⟩⟩
theorem lX{mi:MI}{mg:MG}{mt:MT}{me:ME}(hi:VI K wi mi)(hg:uK K (fP nt js.length) g mg)(ht:VT K tt mt)(he:VE K te me)(nd:autoParam js.Nodup ă):
  VE K (Fi wi nt js g tt te) (jj mi nt js mg mt me):=NU (λρ σ H ds ai R r e q=>hi ρ σ H ds ai R r e λJ H' g run=>q J H' g λH2 k _=>run H2 k) hg ht he nd
end
section
variable{EX:fZ}{A:Qg->Prop}{m7:Hp}{ρ ai:En}
def iC(pn:Qa Nat)(ρ:En):Nat->Qa U->Qb (Qa U)
 |_,[]=>ž []
 |i,u::us=>(if i∈pn then(ρ[i]?).join.bind λo=>if o.own=ż/\u.own=Ż then Ž else ž o else if u.own=ż then Ž else ž u).bind λo=>(iC pn ρ (i+1) us).bind λos=>ž<|o::os
def bA(n:Nat)(pn:Qa Nat)(m:MS):FD:=λus=>(m<|sm us++Ĩ (n - us.length) Ž).bind λf=>match f with
 |.rt u ρ=>(iC pn ρ 0 us).bind λos=>ž (u,os)
 |.nx ρ=>(iC pn ρ 0 us).bind λos=>ž (.d .none,os)
 |_=>Ž
theorem Q4:∀{us os:Qa U} {i:Nat},iC pn ρ i us=ž os->os.length=us.length
 |[],os,i,e=>by cases e;rfl
 |u::us,os,i,e=>by
  have(o,e1,e):=bQ e;have(ye,e2,e):=bQ e;cases e;simp[Q4 e2]
theorem Ax:∀{us os:Qa U} {i p:Nat} {o:U},iC pn ρ i us=ž os->os[p]?=ž o->∃u,us[p]?=ž u/\((i+p∈pn/\ρ[i+p]?=ž (ž o)/\(o.own=ż->u.own=ż))\/(i+p∉pn/\o=u/\u.own=Ż))
 |[],os,i,p,o,e,ep=>by cases e;simp at ep
 |u::us,os,i,p,o,e,ep=>by
  have(o1,e1,e):=bQ e;have(ye,e2,e):=bQ e;cases e;cases p with
  |zero=>
   cases(show ž o1=ž o from ep);refine⟨u,rfl,?_⟩;rw[Ν];split at e1
   .rename_i hi
    have(o2,e3,e1):=bQ e1;split at e1
    .cases e1
    .rename_i hc
     cases e1;refine .inl ⟨hi,?_,λoo=>?_⟩
     .cases q:ρ[i]? with
      |none=>rw[q]at e3;cases e3
      |some x=>rw[q]at e3;cases x with
       |none=>cases e3
       |some y=>cases e3;rfl
     .cases hu:u.own with
      |true=>rfl
      |false=>exact absurd ⟨oo,hu⟩ hc
   .rename_i hi
    split at e1
    .cases e1
    .rename_i hc
     cases e1;exact .inr ⟨hi,rfl,by simpa using hc⟩
  |succ p=>
   have(u',eu,h):=Ax (i:=i+1) (p:=p) e2 ep;refine⟨u',eu,?_⟩;rw[show i+(p+1)=i+1+p by omega];exact h
theorem Q3:∀{us os:Qa U} {i p:Nat} {u:U},iC pn ρ i us=ž os->us[p]?=ž u->u.own=ż->i+p∈pn
 |[],os,i,p,u,e,ep,_=>by simp at ep
 |u::us,os,i,p,u',e,ep,o=>by
  have(o1,e1,e):=bQ e;have(ye,e2,e):=bQ e;cases p with
  |zero=>
   cases(show ž u=ž u' from ep);rw[Ν];split at e1
   .assumption
   .first|cases e1 | (rw[a5E o]at e1;cases e1)
  |succ p=>
   rw[show i+(p+1)=i+1+p by omega];exact Q3 (i:=i+1) (p:=p) e2 ep o
theorem AD{vs:Qa V}(h:i < vs.length):(iA N vs)[i]?=(fH vs)[i]?:=by
 unfold iA fH;rw[ĳ (by simpa using h)]
theorem zsD{us os:Qa U}{vs:Qa V}{qZ:En}(r:Rs K (sm us) (fH vs) H)(hl:us.length<=N.length)(ho:iC pn qZ 0 us=ž os):
  Sn K pn (iA N vs) (Ow (sm us)<|fH vs) H H (sm us++Ĩ (N.length - us.length) Ž) (iA N vs) H:=by
 have lv:us.length=vs.length:=by have:=r.len;unfold sm fH at this;simpa using this
 have inv:∀(i:Nat) (u:U),(sm us++Ĩ (N.length - us.length) Ž)[i]?=ž (ž u)->i < us.length/\(sm us)[i]?=ž (ž u):=λi u e=>by
  by_cases hi:i < us.length
  .rw[ĳ (by unfold sm;simpa using hi)]at e
   exact⟨hi,e⟩
  .rw[ı (by unfold sm;simp;omega),ŗ]at e
   split at e<;>cases e
 refine⟨⟨?_,λi u e=>?_,λi j u w ei ej ou ow es=>?_⟩,λ_ _ h _=>h,λi u a e o es=>?_,λ_ _=>rfl,λ_ h=>h,Kp.refl H⟩
 .unfold iA sm;simp;omega
 .have(hi,e'):=inv i u e
  rw[AD (by omega)];exact r.rep i u e'
 .have(hi,uI):=inv i u ei
  have(hj,pA):=inv j w ej;rw[AD (by omega),AD (by omega)]at es;exact r.apart i j u w uI pA ou ow es
 .have(hi,e'):=inv i u e
  rw[AD (by omega)]at es;have:=Q3 ho (g8.mp e') o;rw[Ţ]at this;exact .inl ⟨this,i,u,e',o,es⟩
theorem OP{us os:Qa U}{vs:Qa V}{aF:St}(r:Rs K (sm us) (fH vs) H)(s:Sn K pn (iA N vs) (Ow (sm us)<|fH vs) H H ai aF H')(ho:iC pn ai 0 us=ž os):Go K (sm us) (fH vs) H (sm os) H':=by
 have lv:us.length=vs.length:=by have:=r.len;unfold sm fH at this;simpa using this
 have lo:=Q4 ho;have yG:∀{p:Nat} {o:U},os[p]?=ž o->p < vs.length:=λ{p o} e=>by have:=(qm.mp e).1;omega
 have pin:∀{p:Nat} {o:U},os[p]?=ž o->p∈pn->aF[p]?=(fH vs)[p]?:=λ{p o} e hp=>by rw[s.pin p hp,AD<|yG e]
 refine⟨⟨by unfold sm fH;simp;omega,λp o e=>?_,λp q o o' ep eq oo Lx es=>?_⟩,s.fr,⟨by unfold sm;simp;omega,λp o e oo=>?_,λp u e=>?_⟩,s.dm⟩
 .have e':=g8.mp e
  have(u,eu,h):=Ax ho e';rw[Ţ]at h;rcases h with⟨hp,hr,_⟩|⟨_,rfl,ou⟩
  .have(v,ev,q):=s.rs.rep p o hr
   rw[pin e' hp]at ev;exact⟨v,ev,q⟩
  .have(v,ev,q):=r.rep p o (g8.mpr eu)
   exact⟨v,ev,q.kp s.kp λoo=>by rw[ou]at oo;cases oo⟩
 .have pw:=g8.mp ep
  have F2:=g8.mp eq;have(u,eu,h):=Ax ho pw;have(u',Wv,h'):=Ax ho F2;rw[Ţ]at h h';rcases h with⟨hp,hr,_⟩|⟨_,rfl,ou⟩
  .rcases h' with⟨hq,um,_⟩|⟨_,rfl,rX⟩
   .rw[<-pin pw hp,<-pin F2 hq]at es
    exact s.rs.apart p q o o' hr um oo Lx es
   .rw[rX]at Lx;cases Lx
  .rw[ou]at oo;cases oo
 .have e':=g8.mp e
  have(u,eu,h):=Ax ho e';rcases h with⟨_,_,h⟩|⟨_,rfl,ou⟩
  .exact⟨u,g8.mpr eu,h oo⟩
  .rw[ou]at oo;cases oo
 .have e':=g8.mp e
  have hp:p < os.length:=by have:=(qm.mp e').1;omega
  exact⟨os[p],g8.mpr<|qo hp⟩
theorem kU.Vu{base:Ļ}{f:Qg}{ps:Qa Str}{k nn:Nat}{m:MS}(F:kU K x qual st f fd)(S:bE N ps (zT st))(yt:ps.length=n)(hN:N.length=nn)(yu:n<=nn)
  (bZ:∀(bq:Qc) (A:Qf) (outer:Qa Env) (s:Qd) (H:Hp) (E:XK),aE k (A.deeper<|a0X qual (zT st) s.heap.objs.size f bq)->
   ∃t,Wr (fN (pM jK P w K mg base N qual (zT st) f bq A outer s H E).uc (j6 st) t)/\VS K pn Xo t m):cD P w K mg base jK (k+1) f fd ps (qH K n<|bA nn pn m):=by
 refine F.Vt S (λvs H Q E h=>?_) λbq A outer s H vs Q E hr h=>?_
 .have(us,r,outs,hl,rs,_):=h
  have:=rs.len;unfold sm fH at this;simp at this;omega
 have(us,r,outs,hl,rs,ef,q):=h;have(t,wt,vt):=bZ bq A outer s H E hr;refine⟨t,wt,?_⟩;have(fl,em,ef):=bQ ef;have go:∀(ai:En),iC pn ai 0 us=ž outs->Sn K pn (iA N vs) (Ow (sm us)<|fH vs) H H (sm us++Ĩ (N.length - us.length) Ž) (iA N vs) H:=λai ho=>zsD rs (by omega) ho;subst hN;cases fl with
 |nx ai=>
  have(os,eo,ef):=bQ (show(iC pn ai 0 us).bind _=_ from ef);cases ef;refine vt _ _ _ _ _ _ _ (.nx ai) _ (go ai eo) em λaF H' s'=>?_;exact q _ _ (OP rs s' eo) .aM Nw.data
 |rt u ai=>
  have(os,eo,ef):=bQ (show(iC pn ai 0 us).bind _=_ from ef);cases ef;refine vt _ _ _ _ _ _ _ (.rt r ai) _ (go ai eo) em λv aF H' s' p n'=>?_;exact q _ _ (OP rs s' eo) p n'
 |bk=>cases ef
 |ct=>cases ef
 |ex=>cases ef
end
section
variable{EX:fZ}{ρ ai:En}
def lW(i:Nat)(me:ME):ME:=λρ=>match ρ[i]? with
 |some (ž<|.l _)=>(me ρ).bind λp=>(p.1.get p.2).bind λu=>match u,p.2[i]? with
  |.d x,ž (ž<|.l xs)=>if xs.length < ħ then ž (.u<|.d .none,p.2.set i<|some<|.l<|xs++[x])else Ž
  |_,_=>Ž
 |_=>Ž
theorem tE{me:ME}(h:VE K te me):VE K (K8 K "list" IG (fQ i)<|j0 te jZ) (lW i me):=by
 intro ρ σ H a ai Q r e q;unfold lW at e;split at e
 .rename_i xs0 e0
  obtain⟨⟨b,ρ1⟩,e1,e⟩:=bQ e;have(u,eu,e):=bQ e;have(v0,dQ,p0):=r.rep i _ e0;have(l,us0,rfl,yw,_):=p0;refine⟨_,dQ,.inl ⟨rfl,us0,bu.of yw⟩,?_⟩;refine h ρ σ H b ρ1 _ r e1 λv H1 g1 k1=>?_;have pv:=k1.now r g1 eu;dsimp only at e;split at e
  .rename_i x xs ex
   split at e
   .rename_i hz
    cases e;have(w,ew,p1):=g1.rs.rep i _ ex;have(l',us,rfl,hl,ds):=p1;rw[dQ]at ew;cases ew;refine⟨l,us,v,rfl,rfl,hl,by rw[ds.len];exact hz,q _ _ (g1.trans<|Go.own (u':=.l (xs++[x])) g1.rs ex rfl dQ ?_) ⟨.aM,Nw.data⟩⟩;have kp:=jS hl trivial (.lst<|us++[v]);exact⟨l,_,rfl,zq,(ds.kp kp).snoc<|DF.kp kp pv⟩
   .cases e
  .cases e
 .cases e
theorem lJ{o:Qb (Qb U)}{u:U}(e:o.join=ž u):o=ž (ž u):=by
 cases o with
 |none=>cases e
 |some x=>cases x with
  |none=>cases e
  |some y=>cases e;rfl
def pZ(i:Nat)(me mi:ME):MS:=λρ=>(ρ[i]?).join.bind λ_=>(me ρ).bind λp=>(mi p.2).bind λq=>(p.1.get q.2).bind λu=>(q.1.get q.2).bind λw=>match u,w,q.2[i]? with
 |.d x,.d<|.int k,ž (ž<|.l xs)=>(dM xs.length k).bind λj=>ž<|.nx<|q.2.set i<|some<|.l<|xs.set j x
 |_,_,_=>Ž
theorem xO{ti:TE}{me mi:ME}(h:VE K te me)(hi:VE K ti mi):VS K pn EX (pN te<|Gu (fQ i) ti DM) (pZ i me mi):=by
 intro aj A H₀ aq ρ σ H f D s e k;replace e:=bQ e;have(w0,e0,e):=e;replace e:=bQ e;obtain⟨⟨a,ρ1⟩,e1,e⟩:=e;replace e:=bQ e;obtain⟨⟨b,au⟩,e2,e⟩:=e;replace e:=bQ e;have(u,eu,e):=e;replace e:=bQ e;have(w,ew,e):=e;have(v0,dQ,_):=s.rs.rep i w0 (lJ e0);refine h ρ σ H a ρ1 _ s.rs e1 λv H1 g1 k1=>⟨v0,dQ,?_⟩;refine hi ρ1 σ H1 b au _ g1.rs e2 λy H2 g2 k2=>?_;have pv:=k1.later s.rs g1 g2 eu;have py:=k2.now g1.rs g2 ew;dsimp only at e;split at e
 .rename_i x n xs ex
  replace e:=bQ e;have(j,ej,e):=e;cases e;have(w',dP,p1):=g2.rs.rep i _ ex;have(l,us,rfl,hl,ds):=p1;rw[dQ]at dP;cases dP;refine⟨l,us,n,j,rfl,DF.int_inv py,hl,by rw[ds.len];exact ej,k _ _<|(s.go<|g1.trans g2).go<|Go.own (u':=.l (xs.set j x)) g2.rs ex rfl dQ ?_⟩;have kp:=jS hl trivial (.lst<|us.set j v);exact⟨l,_,rfl,zq,(ds.kp kp).set (DF.kp kp pv) j⟩
 .cases e
noncomputable def rB:Qa D->Qb (Qa Key)
 |[]=>ž []
 |.int i::ds=>(rB ds).bind λks=>ž<|.inl i::ks
 |.str x::ds=>(rB ds).bind λks=>ž<|.inr x::ks
 |_::_=>Ž
def cW:D->Qb (Qa Key)
 |.tuple ds=>rB ds
 |_=>Ž
def pJ:D->Qb Key
 |.int i=>ž<|.inl i
 |.str x=>ž<|.inr x
 |_=>Ž
theorem IW:∀ks:Qa Key,rB (ks.map Bn)=ž ks
 |[]=>rfl
 |.inl i::ks=>by show(rB<|ks.map Bn).bind _=_;rw[IW ks];rfl
 |.inr x::ks=>by show(rB<|ks.map Bn).bind _=_;rw[IW ks];rfl
theorem EC(ks:Qa Key):cW (iG ks)=ž ks:=IW ks
theorem Ic:∀{ds:Qa D} {ks:Qa Key} {xs:Qa V},aI K H xs ds->rB ds=ž ks->xs=ks.map kV
 |[],ks,xs,h,e=>by cases e;cases h;rfl
 |d::ds,ks,xs,h,e=>by
  cases h with
  |cons h1 t=>
   cases d with
   |int i=>
    have(oW,e1,e):=bQ (show(rB ds).bind (λks=>ž<|Λ i::ks)=ž ks from e);cases e;rw[Ic t e1,DF.int_inv h1];rfl
   |str x=>
    have(oW,e1,e):=bQ (show(rB ds).bind (λks=>ž<|a0Y x::ks)=ž ks from e);cases e;rw[Ic t e1,DF.str_inv h1];rfl
   |_=>cases e
theorem vm{d:D}{ks:Qa Key}{v:V}(h:DF K H v d)(e:cW d=ž ks):∃b,v=.ref b/\aJ K H b (ks.map kV):=by
 cases d with
 |tuple ds=>
  have(b,xs,rfl,h1,h2):=DF.aD h;exact⟨b,rfl,by rw[<-Ic h2 e];exact h1⟩
 |_=>cases e
theorem Ib{d:D}{k:Key}{v:V}(h:DF K H v d)(e:pJ d=ž k):v=kV k:=by
 cases d with
 |int i=>cases e;exact DF.int_inv h
 |str x=>cases e;exact DF.str_inv h
 |_=>cases e
theorem Aw:∀{ks:Qa Key},aI K H (ks.map kV)<|ks.map Bn
 |[]=>.nil
 |.inl i::ks=>.cons (.int i) Aw
 |.inr x::ks=>.cons (.str x) Aw
section
variable{κ:Type}[DecidableEq κ]
noncomputable def f9(kvs:Qa (κ×D))(k:κ):Qb D:=(kvs.find? λkv=>decide<|kv.1=k).map (·.2)
noncomputable def eC(kvs:Qa (κ×D))(k:κ)(d:D):Qa (κ×D):=if(kvs.any λkv=>decide<|kv.1=k)=ż then kvs.map (λkv=>if kv.1=k then(kv.1,d)else kv)else kvs++[(k,d)]
theorem cS.val{ws:Qa (κ×V)}{kvs:Qa (κ×D)}(h:cS K H ws kvs)(k:κ):(∃v d,eL ws k=ž v/\f9 kvs k=ž d/\DF K H v d)\/(eL ws k=Ž/\f9 kvs k=Ž):=by
 induction h with
 |nil=>exact .inr ⟨rfl,rfl⟩
 | @cons p q ps qs hq t ih=>
  unfold eL f9 at ih ⊢;rw[ķ,ķ]
  by_cases hk:p.1=k
  .have i5:q.1=k:=hq.1▸hk
   rw[a5G hk,a5G i5];exact .inl ⟨_,_,rfl,rfl,hq.2⟩
  .have i5:¬q.1=k:=λz=>hk<|hq.1.trans z
   rw[a5H hk,a5H i5];exact ih
theorem cS.any{ws:Qa (κ×V)}{kvs:Qa (κ×D)}(h:cS K H ws kvs)(k:κ):(ws.any λkv=>decide<|kv.1=k)=(kvs.any λkv=>decide<|kv.1=k):=by
 induction h with
 |nil=>rfl
 | @cons p q ps qs hq t ih=>rw[ŭ,ŭ,ih,hq.1]
theorem cS.kl{ws:Qa (κ×V)}{kvs:Qa (κ×D)}(h:cS K H ws kvs)(k:κ){v:V}{d:D}(hd:DF K H v d):cS K H (ws.map λkv=>if kv.1=k then(kv.1,v)else kv) (kvs.map λkv=>if kv.1=k then(kv.1,d)else kv):=by
 induction h with
 |nil=>exact .nil
 | @cons p q ps qs hq t ih=>
  refine .cons ?_ ih;dsimp only
  by_cases hk:p.1=k
  .have i5:q.1=k:=hq.1▸hk
   rw[a5E hk,a5E i5];exact⟨hq.1,hd⟩
  .have i5:¬q.1=k:=λz=>hk<|hq.1.trans z
   rw[a5F hk,a5F i5];exact hq
theorem cS.put{ws:Qa (κ×V)}{kvs:Qa (κ×D)}(h:cS K H ws kvs)(k:κ){v:V}{d:D}(hd:DF K H v d):cS K H (dY ws k v) (eC kvs k d):=by
 unfold dY eC;rw[h.any k];split
 .exact h.kl k hd
 .exact a2c h ⟨rfl,hd⟩
theorem cS.len{ws:Qa (κ×V)}{kvs:Qa (κ×D)}(h:cS K H ws kvs):ws.length=kvs.length:=ų h
end
def xl(kvs:Qa (D×D))(k:Qa Key):Qb D:=(kvs.find? λkv=>decide<|cW kv.1=ž k).map (·.2)
theorem jJ.val{kvs:Qa (D×D)}(h:jJ K H ws kvs)(k:Qa Key):(∃v d,eL ws k=ž v/\xl kvs k=ž d/\DF K H v d)\/(eL ws k=Ž/\xl kvs k=Ž):=by
 induction ws generalizing kvs with
 |nil=>cases h;exact .inr ⟨rfl,rfl⟩
 |cons p ws ih=>
  cases h with
  | @cons k' v d _ ds hv t=>
   unfold eL xl at ih ⊢;rw[ķ,ķ]
   by_cases hk:k'=k
   .have i5:cW (iG k')=ž k:=by rw[EC,hk]
    rw[a5G hk,a5G i5];exact .inl ⟨_,_,rfl,rfl,hv⟩
   .have i5:¬cW (iG k')=ž k:=by rw[EC];exact λz=>hk<|qy z
    rw[a5H hk,a5H i5];exact ih t
def k9(u y:U):Qb (Qb D):=match u,y with
 |.t kvs,.d y=>(cW y).map λk=>f9 kvs k
 |.k kvs,.d y=>(pJ y).map λk=>f9 kvs k
 |.d (.dict kvs),.d y=>if mR kvs=ż then(cW y).map λk=>xl kvs k else Ž
 |_,_=>Ž
theorem IV{u y:U}{o:Qb D}{x v:V}(hu:Rp K H x u)(hy:Rp K H v y)(e:k9 u y=ž o):∃a,x=.ref a/\((∃w d,o=ž d/\rh K H a v (ž w)/\DF K H w d)\/(o=Ž/\rh K H a v Ž)):=by
 unfold k9 at e;split at e
 .rename_i kvs y
  have(k,ek,rfl):=qt.mp e;have(a,ws,rfl,h1,h2):=hu;have(b,rfl,hb):=vm hy ek;refine⟨a,rfl,?_⟩;rcases h2.val k with⟨w,d,e1,e2,p⟩|⟨e1,e2⟩
  .exact .inl ⟨w,d,e2,.inr ⟨ws,k,b,.inl h1,rfl,hb,e1.symm⟩,p⟩
  .exact .inr ⟨e2,.inr ⟨ws,k,b,.inl h1,rfl,hb,e1.symm⟩⟩
 .rename_i kvs y
  have(k,ek,rfl):=qt.mp e;have(a,ws,rfl,h1,h2):=hu;cases Ib hy ek;refine⟨a,rfl,?_⟩;rcases h2.val k with⟨w,d,e1,e2,p⟩|⟨e1,e2⟩
  .exact .inl ⟨w,d,e2,.inl ⟨ws,k,.inl h1,rfl,e1.symm⟩,p⟩
  .exact .inr ⟨e2,.inl ⟨ws,k,.inl h1,rfl,e1.symm⟩⟩
 .rename_i kvs y
  split at e
  rotate_left
  .cases e
  rename_i nx;have(k,ek,rfl):=qt.mp e;have(a,ob,ws,rfl,h1,h2):=DF.cQ hu nx;have(b,rfl,hb):=vm hy ek;refine⟨a,rfl,?_⟩;rcases h2.val k with⟨w,d,e1,e2,p⟩|⟨e1,e2⟩
  .exact .inl ⟨w,d,e2,.inr ⟨ws,k,b,.inr ⟨ob,h1⟩,rfl,hb,e1.symm⟩,p⟩
  .exact .inr ⟨e2,.inr ⟨ws,k,b,.inr ⟨ob,h1⟩,rfl,hb,e1.symm⟩⟩
 .cases e
def iL(md my:ME):ME:=λρ=>(md ρ).bind λp=>(my p.2).bind λq=>(p.1.get q.2).bind λu=>(q.1.get q.2).bind λy=>(k9 u y).bind λo=>o.bind λd=>ž (.u<|.d d,q.2)
theorem lC{md my:ME}(hd:VE K td md)(hy:VE K ty my):VE K (HB K td ty) (iL md my):=by
 intro ρ σ H a ai Q r e q;obtain⟨⟨a1,ρ1⟩,e1,e⟩:=bQ e;obtain⟨⟨b1,au⟩,e2,e⟩:=bQ e;have(u,eu,e):=bQ e;have(y,ey,e):=bQ e;have(o,eo,e):=bQ e;have(d,ed,e):=bQ e;cases e;refine hd ρ σ H a1 ρ1 _ r e1 λv1 H1 g1 k1=>hy ρ1 σ H1 b1 _ _ g1.rs e2 λv2 H2 g2 k2=>?_;have(b,rfl,h):=IV (k1.later r g1 g2 eu) (k2.now g1.rs g2 ey) eo;rcases h with⟨w,d',rfl,g,p⟩|⟨rfl,_⟩
 .cases ed
  exact⟨b,w,rfl,g,q w H2 (g1.trans g2) ⟨p,Nw.data⟩⟩
 .cases ed
def w5(neg:Bool)(my md:ME):ME:=λρ=>(my ρ).bind λq=>(md q.2).bind λp=>(p.1.get p.2).bind λu=>(q.1.get p.2).bind λy=>(k9 u y).bind λo=>ž (.u<|.d<|.bool (if neg=ż then !o.isSome else o.isSome),p.2)
theorem Hm{md my:ME}(hy:VE K ty my)(hd:VE K td md):VE K (Kw K ty td) (w5 Ż my md):=by
 intro ρ σ H a ai Q r e q;obtain⟨⟨b1,ρ1⟩,e1,e⟩:=bQ e;obtain⟨⟨a1,au⟩,e2,e⟩:=bQ e;have(u,eu,e):=bQ e;have(y,ey,e):=bQ e;have(o,eo,e):=bQ e;cases e;refine hy ρ σ H b1 ρ1 _ r e1 λv1 H1 g1 k1=>hd ρ1 σ H1 a1 _ _ g1.rs e2 λv2 H2 g2 k2=>?_;have(b,rfl,h):=IV (k2.now g1.rs g2 eu) (k1.later r g1 g2 ey) eo;rcases h with⟨w,d',rfl,g,p⟩|⟨rfl,g⟩
 .exact⟨b,_,rfl,g,q _ H2 (g1.trans g2) ⟨.bl _,Nw.data⟩⟩
 .exact⟨b,_,rfl,g,q _ H2 (g1.trans g2) ⟨.bl _,Nw.data⟩⟩
noncomputable def tN:ME:=λρ=>ž (.u<|.t [],ρ)
noncomputable def Ia:ME:=λρ=>ž (.u<|.k [],ρ)
theorem Av:VE K DX tN:=by
 intro ρ σ H a ai Q r e q;cases e;intro p hp;have sm:=zF hp (.dT []);exact q _ _ (Go.grow r sm) ⟨⟨p,[],rfl,zq,.nil⟩,λ_=>⟨p,rfl,hp⟩⟩
theorem ZC:VE K HW Ia:=by
 intro ρ σ H a ai Q r e q;cases e;intro p hp;have sm:=zF hp (.dK []);exact q _ _ (Go.grow r sm) ⟨⟨p,[],rfl,zq,.nil⟩,λ_=>⟨p,rfl,hp⟩⟩
def pP(i:Nat)(my mv:ME):MS:=λρ=>(ρ[i]?).join.bind λ_=>(mv ρ).bind λp=>(my p.2).bind λq=>(p.1.get q.2).bind λx=>(q.1.get q.2).bind λy=>match x,y,q.2[i]? with
 |.d x,.d y,ž (ž<|.t kvs)=>(cW y).bind λk=>if kvs.length < ħ then ž (.nx<|q.2.set i<|some<|.t<|eC kvs k x)else Ž
 |.d x,.d y,ž (ž<|.k kvs)=>(pJ y).bind λk=>if kvs.length < ħ then ž (.nx<|q.2.set i<|some<|.k<|eC kvs k x)else Ž
 |_,_,_=>Ž
theorem Ae{my mv:ME}(hy:VE K ty my)(hv:VE K tv mv):VS K pn EX (HA K (fQ i) ty tv) (pP i my mv):=by
 intro aj A H₀ aq ρ σ H f D s e k;replace e:=bQ e;have(w0,e0,e):=e;replace e:=bQ e;obtain⟨⟨a,ρ1⟩,e1,e⟩:=e;replace e:=bQ e;obtain⟨⟨b,au⟩,e2,e⟩:=e;replace e:=bQ e;have(u,eu,e):=e;replace e:=bQ e;have(w,ew,e):=e;have(v0,dQ,_):=s.rs.rep i w0 (lJ e0);refine hv ρ σ H a ρ1 _ s.rs e1 λv H1 g1 k1=>⟨v0,dQ,?_⟩;refine hy ρ1 σ H1 b au _ g1.rs e2 λy H2 g2 k2=>?_;have pv:=k1.later s.rs g1 g2 eu;have py:=k2.now g1.rs g2 ew;dsimp only at e;split at e
 .rename_i x yd kvs ex
  replace e:=bQ e;have(ks,ek,e):=e;split at e
  .rename_i hz
   cases e;have(w',dP,p1):=g2.rs.rep i _ ex;have(l,us,rfl,hl,ds):=p1;rw[dQ]at dP;cases dP;have(kb,rfl,o9):=vm py ek;refine⟨l,_,rfl,sS.t hl o9 (by rw[ds.len];exact hz),k _ _<|(s.go<|g1.trans g2).go<|Go.own (u':=.t (eC kvs ks x)) g2.rs ex rfl dQ ?_⟩;have kp:=jS hl trivial (.dT<|dY us ks v);exact⟨l,_,rfl,zq,(ds.kp kp).put ks<|DF.kp kp pv⟩
  .cases e
 .rename_i x yd kvs ex
  replace e:=bQ e;have(ks,ek,e):=e;split at e
  .rename_i hz
   cases e;have(w',dP,p1):=g2.rs.rep i _ ex;have(l,us,rfl,hl,ds):=p1;rw[dQ]at dP;cases dP;cases Ib py ek;refine⟨l,_,rfl,sS.k hl (by rw[ds.len];exact hz),k _ _<|(s.go<|g1.trans g2).go<|Go.own (u':=.k (eC kvs ks x)) g2.rs ex rfl dQ ?_⟩;have kp:=jS hl trivial (.dK<|dY us ks v);exact⟨l,_,rfl,zq,(ds.kp kp).put ks<|DF.kp kp pv⟩
  .cases e
 .cases e
def rE:U->Qb (Qa D)
 |.d (.dict kvs)=>if mR kvs=ż then ž (kvs.map (·.1))else Ž
 |_=>Ž
theorem zsG{kvs:Qa (D×D)}(h:jJ K H ws kvs):kvs.map (·.1)=ws.map λp=>iG p.1 :=
 h.ind (P:=λws kvs=>kvs.map (·.1)=ws.map λp=>iG p.1) rfl λ_ _ t=>by rw[Ī,Ī,t]
theorem xN{me:ME}(h:VE K te me):VI K (OH K te) (dg rE me):=by
 intro ρ σ H ds ai R r e q;obtain⟨⟨a,ρ1⟩,e1,e⟩:=bQ e;have(u,eu,e):=bQ e;have(xs,ex,e):=bQ e;cases e;refine h ρ σ H a _ _ r e1 λv H1 g1 k1=>?_;have p:=k1.now r g1 eu;unfold rE at ex;split at ex
 .split at ex
  rotate_left
  .cases ex
  rename_i nx;cases ex;have(b,o,ws,rfl,h1,h2):=DF.cQ p nx;refine⟨b,ws,rfl,.inr ⟨o,h1,q _ _ g1 λH2 k i=>?_⟩⟩;rw[zsG h2];have kI:=k.be _ _ _ h1;refine⟨λd ed=>?_,λei=>?_⟩
  .rw[ĭ]at ed
   obtain⟨⟨ks,w⟩,ew,rfl⟩:=qt.mp ed;refine⟨⟨kI,(qm.mp ew).1⟩,λx H' y=>?_⟩;have(rfl,y):=y;have(kb,rfl,o9):=y ks w ew;exact⟨λ_ _ z=>z,.tup o9 Aw⟩
  .rw[Ħ]at ei
   exact⟨kI,ñ ei.symm⟩
 .cases ex
end
section
variable{ρ ai:En}
abbrev MO:=En->Qb (Qb Int×En)
def CU(K:qc)(t:TO)(m:MO):Prop :=
 ∀(ρ:En) (σ:St) (H:Hp) (o:Qb Int) (ai:En) (Q:Qb Int->Hp->Prop),Rs K ρ σ H->m ρ=ž (o,ai)->(∀H',Go K ρ σ H ai H'->Q o H')->t σ H Q
noncomputable def Au:MO:=λρ=>ž (Ž,ρ)
def y7(me:ME):MO:=λρ=>(me ρ).bind λp=>(p.1.get p.2).bind λu=>match u with |.d (.int i)=>ž (ž i,p.2) |_=>Ž
theorem P6:CU K II Au:=λρ σ H o ai Q r e q=>by cases e;exact q H<|Go.refl r
theorem P5{me:ME}(h:VE K te me):CU K (HD te) (y7 me):=by
 intro ρ σ H o ai Q r e q;replace e:=bQ e;obtain⟨⟨a,ρ1⟩,e1,e⟩:=e;replace e:=bQ e;have(u,eu,e):=e;refine h ρ σ H a ρ1 _ r e1 λv H1 g1 k1=>?_;have p:=k1.now r g1 eu;dsimp only at e;split at e
 .rename_i i
  cases e;exact⟨i,DF.int_inv p,q _ g1⟩
 .cases e
def lV(xs:Qa D)(lo hi:Qb Int):Qa D:=(xs.drop<|HT.aY xs.length 0 lo).take (HT.aY xs.length xs.length hi - HT.aY xs.length 0 lo)
theorem aI.cut{xs:Qa V}{ds:Qa D}(h:aI K H xs ds)(lo hi:Qb Int):aI K H (nR xs lo hi) (lV ds lo hi):=by
 unfold nR lV;rw[h.len];exact(h.drop _).take _
def MN(K:qc)(r:V->Qb Int->Qb Int->Hp->VK->Prop)(f:U->Qb Int->Qb Int->Qb U):Prop :=
 ∀(x:V) (a u:U) (lo hi:Qb Int) (H:Hp) (Q:VK),Rp K H x a->f a lo hi=ž u->(∀v H',dJ H H'->Rp K H' v u->Nw H v u->Q v H')->r x lo hi H Q
def Bf(f:U->Qb Int->Qb Int->Qb U)(me:ME)(ml mh:MO):ME:=λρ=>(me ρ).bind λp=>(ml p.2).bind λl=>(mh l.2).bind λh=>(p.1.get h.2).bind λx=>(f x l.1 h.1).bind λu=>ž (.u u,h.2)
theorem UH{r:V->Qb Int->Qb Int->Hp->VK->Prop}{f:U->Qb Int->Qb Int->Qb U}{tl th:TO}{me:ME}{ml mh:MO}(hs:MN K r f)(he:VE K te me)(hl:CU K tl ml)(hh:CU K th mh):VE K (K0 r te tl th) (Bf f me ml mh):=by
 intro ρ σ H a ai Q rs e q;obtain⟨⟨a1,ρ1⟩,e1,e⟩:=bQ e;obtain⟨⟨lo,au⟩,e2,e⟩:=bQ e;obtain⟨⟨hi,jL⟩,e3,e⟩:=bQ e;have(x,ex,e):=bQ e;have(u,eu,e):=bQ e;cases e;refine he ρ σ H a1 ρ1 _ rs e1 λv1 H1 g1 k1=>hl ρ1 σ H1 lo au _ g1.rs e2 λH2 g2=>hh au σ H2 hi _ _ g2.rs e3 λH3 g3=>?_;refine hs _ x u lo hi H3 _ (k1.later rs g1 (g2.trans g3) ex) eu λv H4 s p n=>?_;have g:=g1.trans (g2.trans g3);exact q v H4 (g.trans<|Go.grow g.rs s) ⟨p,n.mono g.dm⟩
def CT(u:U)(lo hi:Qb Int):Qb U:=match u with
 |.l xs=>ž<|.l<|lV xs lo hi
 |.d (.list xs)=>ž<|.l<|lV xs lo hi
 |_=>Ž
theorem zwA:MN K (Ky K) CT:=by
 intro x a u lo hi H Q p e q;unfold CT at e;split at e
 .cases e
  have(b,us,rfl,h1,h2):=p;refine⟨b,us,rfl,bu.of h1,λl hl=>?_⟩;have sm:=zF hl (.lst<|nR us lo hi);exact q _ _ sm ⟨l,_,rfl,zq,(h2.cut lo hi).kp sm.kp⟩ λ_=>⟨l,rfl,hl⟩
 .cases e
  have(b,us,rfl,h1,h2):=DF.lst_inv p;refine⟨b,us,rfl,h1.sq,λl hl=>?_⟩;have sm:=zF hl (.lst<|nR us lo hi);exact q _ _ sm ⟨l,_,rfl,zq,(h2.cut lo hi).kp sm.kp⟩ λ_=>⟨l,rfl,hl⟩
 .cases e
def UG(K:qc):V->Qb Int->Qb Int->Hp->VK->Prop:=λx lo hi H Q=>∃a xs,x=.ref a/\aJ K H a xs/\∀p H',dJ H H'->aJ K H' p (nR xs lo hi)->Q (.ref p) H'
theorem zE4{X:Cx}:yH X (UG X.K):=by
 intro pins s σ H x v vl vu lo hi sl Q I rx hs pl pu h;have(a,xs,rfl,mU,q):=h;exact zAf pins s σ H _ v vl vu lo hi sl Q I rx hs pl pu ⟨a,xs,rfl,mU.sq,λhw=>q a H (dJ.refl _) (by
  unfold nR;rw[hw.1,hw.2];simpa using mU),λ_ p hp=>q p _ (zF hp _)<|.inl zq⟩
def Di(u:U)(lo hi:Qb Int):Qb U:=match u with
 |.d (.tuple xs)=>ž<|.d<|.tuple<|lV xs lo hi
 |_=>Ž
theorem zAL:MN K (UG K) Di:=by
 intro x a u lo hi H Q p e q;unfold Di at e;split at e
 .cases e
  have(b,us,rfl,h1,h2):=DF.aD p;exact⟨b,us,rfl,h1,λl H' sm hl=>q _ _ sm (.tup hl<|(h2.cut lo hi).kp sm.kp) Nw.data⟩
 .cases e
def y6:U->U->Qb U
 |.d (.tuple xs),.d (.tuple ys)=>if xs≠[]/\xs.length+ys.length<=ħ then ž (.d<|.tuple<|xs++ys)else Ž
 |_,_=>Ž
theorem zwC:VO K (HC K) y6:=by
 intro x y a b u H Q ha hb e q;unfold y6 at e;split at e
 .split at e
  .rename_i xs ys hc
   cases e;have(p,us,rfl,h1,h2):=DF.aD ha;have(p',g9,rfl,kI,mY):=DF.aD hb;refine⟨p,p',us,g9,rfl,rfl,(aJ.sq h1),(aJ.sq kI),?_,by rw[h2.len,mY.len];exact hc.2,λz=>?_,λ_ r hr=>?_⟩
   .rintro rfl
    cases h2;exact hc.1 rfl
   .subst z
    cases mY;exact q _ _ (λ_ _ z=>z) (by rw[ń];exact .tup h1 h2) Nw.data
   .have s:=zF hr (.tup<|us++g9)
    exact q _ _ s (.tup (.inl zq)<|(h2.app mY).kp s.kp) Nw.data
  .cases e
 .cases e
noncomputable def zDc:Qa Int->Int->Int
 |[],d=>d
 |n::ns,_=>ns.foldl (λa b=>if a < b then b else a) n
def zFn:Qa U->Qa U->Qb U
 |[u],[.d<|.int d]=>u.items.bind λxs=>(tF xs).map λns=>.d<|.int<|zDc ns d
 |_,_=>Ž
theorem SE{r:α->α->Prop}(as:∀a b,r a b->¬r b a):∀{L M:Qa α},L.Perm M->L.Pairwise r->M.Pairwise r->L=M
 |[],M,p,_,_=>(List.nil_perm.mp p).symm▸rfl
 |a::L,[],p,_,_=>by have:=p.length_eq;simp at this
 |a::L,b::M,p,h1,h2=>by
  have(a1,a2):=Û.mp h1;have(b1,b2):=Û.mp h2;have e:a=b:=by
   rcases qw.mp (p.mem_iff.mp<|qq (a:=a) (l:=L))with z|z
   .exact z
   .rcases qw.mp (p.mem_iff.mpr<|qq (a:=b) (l:=M))with y|y
    .exact y.symm
    .exact absurd (b1 a z) (as a b<|a1 b y)
  subst e;rw[SE as p.cons_inv a2 b2]
def pk:D->Qb (Qa Int)
 |.tuple [.tuple ks,_]=>tF ks
 |_=>Ž
def yc:Qa D->Qb (Qa<|Qa Int)
 |[]=>ž []
 |d::ds=>(pk d).bind λk=>(yc ds).bind λks=>ž<|k::ks
def uN(a b:D):Prop:=∃k m,pk a=ž k/\pk b=ž m/\dW k m=ż
theorem uN.MM(a b:D)(h:uN a b):¬uN b a:=by
 rintro⟨k',m',e1,e2,h'⟩;have(k,m,e3,e4,h):=h;rw[e3]at e2;rw[e4]at e1;cases e1;cases e2;have:=xW h h';rw[vo]at this;cases this
open Classical in
def DN(xs:Qa D):Qa D:=if h:∃L,L.Perm xs/\L.Pairwise uN then h.choose else []
theorem Q2{xs L:Qa D}(p:L.Perm xs)(s:L.Pairwise uN):DN xs=L:=by
 have h:∃L:Qa D,L.Perm xs/\L.Pairwise uN:=⟨L,p,s⟩;unfold DN;rw[dif_pos h];exact SE uN.MM (h.choose_spec.1.trans p.symm) h.choose_spec.2 s
def U.lst:U->Qb (Qa D)
 |.l xs=>ž xs
 |.d (.list xs)=>ž xs
 |_=>Ž
theorem Rp.lst{v:V}{u:U}{xs:Qa D}(h:Rp K H v u)(e:u.lst=ž xs):∃p ys,v=.ref p/\bu K H p ys/\aI K H ys xs:=by
 cases u with
 |d x=>
  cases x with
  |list ds=>cases e;have(a,ys,rfl,h1,h2):=DF.lst_inv h;exact⟨a,ys,rfl,h1.sq,h2⟩
  |_=>cases e
 |l ds=>cases e;have(a,ys,rfl,h1,h2):=h;exact⟨a,ys,rfl,bu.of h1,h2⟩
 |t=>cases e
 |k=>cases e
 |o=>cases e
def HZ(u:U):Qb U:=u.lst.bind λxs=>(yc xs).bind λks=>if xs.length < xc/\ks.Nodup then ž (.l<|DN xs)else Ž
theorem P4:∀{xs:Qa D} {ks:Qa (Qa Int)},yc xs=ž ks->ks.length=xs.length
 |[],ks,e=>by cases e;rfl
 |x::xs,ks,e=>by
  have(k,e1,e):=bQ e;have(oW,e2,e):=bQ e;cases e;simp[P4 e2]
theorem D5:∀{xs:Qa D} {ks:Qa (Qa Int)} {i:Nat} {x:D},yc xs=ž ks->xs[i]?=ž x->pk x=ž (ks.getD i [])
 |[],ks,i,x,e,ex=>by simp at ex
 |y::xs,ks,i,x,e,ex=>by
  have(k,e1,e):=bQ e;have(oW,e2,e):=bQ e;cases e;cases i with
  |zero=>cases(show ž y=ž x from ex);exact e1
  |succ i=>exact D5 (i:=i) e2 ex
theorem zsH:VC K (OJ K) (f1 HZ):=rf λv a u H Q h e q=>by
 have(xs,ex,e):=bQ e;have(ks,ek,e):=bQ e;split at e
 .rename_i hc
  cases e;have(p,ys,rfl,sq,ds):=h.lst ex;have ly:=ds.len;have lk:=P4 ek;refine⟨p,ys,ks,rfl,sq,by omega,⟨by omega,λi v ev=>?_⟩,hc.2,λis r hp hs hr=>?_⟩
  .have(d,ed,dv):=ds.get' ev
   have kd:=D5 ek ed;unfold pk at kd;split at kd
   .rename_i kk y
    have(a,zs,rfl,h1,h2):=DF.aD dv;cases h2 with
    | @cons z1 _ _ _ h3 t=>
     cases t with
     | @cons z2 _ _ _ h4 t=>
      cases t;have(b,ns,rfl,h5,h6):=DF.aD h3;exact⟨a,b,z2,rfl,(aJ.sq h1),by rw[<-Q5 h6 kd];exact(aJ.sq h5)⟩
   .cases kd
  .have sm:=zF hr (.lst<|is.map λi=>ys.getD i .aM)
   have lt:∀i∈is,i < xs.length:=λi hi=>by
    have:=Ø.mp (hp.mem_iff.mp hi);omega
   have ext:(Ń xs.length).map (λi=>xs.getD i .none)=xs:=by
    apply a5a;intro j;rw[ĭ]
    by_cases hj:j < xs.length
    .rw[a1C hj,ϲ,qC,qo hj]
     rfl
    .rw[a3W (by simpa using hj),a3W (by omega)]
     rfl
   have ur:(is.map λi=>xs.getD i .none).Perm xs:=by
    have:=hp.map λi=>xs.getD i .none;rw[ly,ext]at this;exact this
   have uj:(is.map λi=>xs.getD i .none).Pairwise uN:=by
    rw[List.pairwise_map]at hs ⊢;refine hs.imp_of_mem λ{i j} hi hj qR=>?_;have gi:=qo (lt i hi);have gj:=qo (lt j hj);refine⟨_,_,?_,?_,qR⟩
    .rw[qC,gi]
     exact D5 ek gi
    .rw[qC,gj]
     exact D5 ek gj
   rw[Q2 ur uj]at q;refine q _ _ sm ⟨r,_,rfl,zq,?_⟩ λ_=>⟨r,rfl,hr⟩;refine aI.kp sm.kp ?_;clear hs hp ur uj q sm
   induction is with
   |nil=>exact .nil
   |cons i is ih=>
    refine .cons ?_<|ih λj hj=>lt j<|qp _ hj;have gi:=qo (lt i qq);have(v,ev,dv):=ds.get gi;dsimp only;rw[qC,qC,gi,ev];exact dv
 .cases e
end
section
variable{ρ ai:En}
def zDd(ma:MA):ME:=λρ=>(ma ρ).bind λp=>(bJ p.2 p.1).bind λus=>match us with
 |[.d<|.int j]=>if(-(2^62)<=j/\j < 2^62)/\j.toNat<=ħ then ž (.u<|.l<|jR 0 j.toNat,p.2)else Ž
 |_=>Ž
noncomputable def nW:MT:=λρ=>ž (ż,ρ)
theorem tM:VT K Kv nW:=λρ σ H b ai Q r e q=>by cases e;exact q H<|Go.refl r
noncomputable def sV:D->Qb V
 |.none=>ž .aM
 |.bool b=>ž<|.bl b
 |.int i=>ž<|.int i
 |.str x=>ž<|.str x
 |_=>Ž
theorem Dh{x:D}{v w:V}(h:DF K H v x)(e:sV x=ž w):v=w:=by
 cases h<;>cases e<;>rfl
def cp(neg:Bool):U->U->Qb U
 |.d x,.d y=>(sV x).bind λv=>(sV y).bind λw=>if Gz v w=ż then ž (.d<|.bool (if neg=ż then !decide (v=w)else decide (v=w)))else Ž
 |_,_=>Ž
theorem j4:VO K Vq (cp Ż):=by
 intro x y a b u H Q ha hb e q;unfold cp at e;split at e
 .have(v,ev,e):=bQ e
  have(w,ew,e):=bQ e;split at e
  .rename_i hs
   cases e;cases Dh ha ev;cases Dh hb ew;exact⟨hs,q _ _ (λ_ _ z=>z) (.bl _) Nw.data⟩
  .cases e
 .cases e
theorem mm:VO K Vp (cp ż):=by
 intro x y a b u H Q ha hb e q;unfold cp at e;split at e
 .have(v,ev,e):=bQ e
  have(w,ew,e):=bQ e;split at e
  .rename_i hs
   cases e;cases Dh ha ev;cases Dh hb ew;exact⟨hs,q _ _ (λ_ _ z=>z) (.bl _) Nw.data⟩
  .cases e
 .cases e
def tD:U->Bool
 |.d .none=>ż
 |_=>Ż
def pI(neg:Bool):U->U->Qb U
 |a,.d .none=>ž<|.d<|.bool (if neg=ż then !tD a else tD a)
 |_,_=>Ž
theorem P2{a:U}{v:V}(h:Rp K H v a):decide (v=.aM)=tD a:=by
 cases a with
 |d x=>cases(show DF K H v x from h)<;>simp[tD]
 |l=>have(_,_,rfl,_):=h;simp[tD]
 |t=>have(_,_,rfl,_):=h;simp[tD]
 |k=>have(_,_,rfl,_):=h;simp[tD]
 |o=>have(_,_,_,_,_,rfl,_):=h;simp[tD]
theorem zAM:VO K (λx y H Q=>y=.aM/\Q (.bl<|decide<|x=.aM) H) (pI Ż):=by
 intro x y a b u H Q ha hb e q;unfold pI at e;split at e
 .cases e
  refine⟨by cases hb;rfl,?_⟩;rw[P2 ha];exact q _ _ (λ_ _ z=>z) (.bl _) Nw.data
 .cases e
theorem zwE:VO K (λx y H Q=>y=.aM/\Q (.bl (!decide (x=.aM))) H) (pI ż):=by
 intro x y a b u H Q ha hb e q;unfold pI at e;split at e
 .cases e
  refine⟨by cases hb;rfl,?_⟩;rw[P2 ha];exact q _ _ (λ_ _ z=>z) (.bl _) Nw.data
 .cases e
theorem zAN{F:FD}{E:XK}(hO:CY H)(hS:bu K H a (ns.map V.int))(h:∃outs,F [.d<|.list<|ns.map .int]=ž (.d<|.bool ż,outs)):qH K 1 F [.ref a] H (λv _=>v=.bl ż) E:=by
 have(outs,ho):=h;have pl:PL K H a (ns.map V.int):=by
  rcases hS with (h|⟨o,h⟩) |h
  .rcases hO a with z|⟨o,xs,z⟩
   .rw[z]at h;cases h
   .rw[z]at h;cases h
  .exact .inl ⟨o,h⟩
  .exact .inr h
 have dd:aI K H (ns.map V.int) (ns.map į):=by
  clear ho hS pl
  induction ns with
  |nil=>exact .nil
  |cons n ns ih=>exact .cons (.int n) ih
 refine⟨[.d<|.list<|ns.map .int],.d<|.bool ż,outs,rfl,⟨rfl,λi u e=>?_,λi j u w ei ej ou ow es=>?_⟩,ho,λv H' g p n=>DF.bT p⟩
 .have e':=g8.mp e
  cases i with
  |zero=>cases e';exact⟨.ref a,rfl,DF.lst pl dd⟩
  |succ i=>simp at e'
 .have e':=g8.mp ei
  cases i with
  |zero=>cases e';cases ou
  |succ i=>simp at e'
end
section
variable{ρ:En}{me ma mb mk mi md my mv:ME}{mA mK:MA}{mt mu:MT}{m1 m2:MS}{u:U}{x:D}{f:U->U->Qb U}
theorem bd{a:α}{f:α->Qb β}:(ž a).bind f=f a:=rfl
theorem ZA{u:U}:Ar.get ρ (.u u)=ž u:=rfl
theorem zsI:Ar.get ρ (.s i)=(ρ[i]?).join:=rfl
theorem zo8{u:U}:(ž<|some u).join=ž u:=rfl
theorem zAO:zi i ρ=(ρ[i]?).join.bind λ_=>ž (.s i,ρ):=by
 unfold zi;cases ρ[i]? with
 |none=>rfl
 |some o=>cases o<;>rfl
theorem zE5:mC x ρ=ž (.u<|.d x,ρ):=rfl
theorem zDe:ao f ma mb ρ=(ma ρ).bind λp=>(mb p.2).bind λq=>(p.1.get q.2).bind λx=>(q.1.get q.2).bind λy=>(f x y).bind λu=>ž (.u u,q.2):=rfl
theorem zDf{f:U->Qb U}:cX f ma ρ=(ma ρ).bind λp=>(p.1.get p.2).bind λx=>(f x).bind λu=>ž (.u u,p.2):=rfl
theorem zAP:zp ρ=ž ([],ρ):=rfl
theorem zwF:ze me mA ρ=(me ρ).bind λp=>(mA p.2).bind λq=>ž (p.1::q.1,q.2):=rfl
theorem zlX:bJ ρ []=ž []:=rfl
theorem SN{a:Ar}{as:Qa Ar}:bJ ρ (a::as)=(a.get ρ).bind λu=>(bJ ρ as).bind λus=>ž (u::us):=rfl
theorem zjT:l9 []=ž []:=rfl
theorem ziB{us:Qa U}:l9 (.d x::us)=(l9 us).bind λxs=>ž (x::xs):=rfl
theorem zAQ:bM mA ρ=(mA ρ).bind λp=>(bJ p.2 p.1).bind λus=>(l9 us).bind λds=>if ds.length<=ħ then ž (.u<|.d<|.tuple ds,p.2)else Ž:=rfl
theorem zAR:fe mA ρ=(mA ρ).bind λp=>(bJ p.2 p.1).bind λus=>(l9 us).bind λds=>if ds.length<=ħ then ž (.u<|.l ds,p.2)else Ž:=rfl
theorem zDg{f:Qa U->Qb U}:bK f mA ρ=(mA ρ).bind λp=>(bJ p.2 p.1).bind λus=>(f us).bind λu=>ž (.u u,p.2):=rfl
theorem zAS{f:FD}:aO f mA ρ=(mA ρ).bind λp=>if gY p.2 p.1=ż then(bJ p.2 p.1).bind λus=>(f us).bind λo=>ž (.u o.1,wb p.2 p.1 o.2)else Ž:=rfl
theorem zlY:gY ρ []=ż:=rfl
theorem zsJ{as:Qa Ar}:gY ρ (.u u::as)=gY ρ as:=rfl
theorem zAT{as:Qa Ar}:gY ρ (.s j::as)=((match ρ[j]? with|some (ž u)=>!u.own || !(as.any λa=>match a with |.s k=>decide (k=j) |_=>Ż) |_=>ż) && gY ρ as):=rfl
theorem zDh{as:Qa Ar}{o:U}{os:Qa U}:wb ρ (.s j::as) (o::os)=wb (ρ.set j<|some o) as os:=rfl
theorem zDi{as:Qa Ar}{o:U}{os:Qa U}:wb ρ (.u u::as) (o::os)=wb ρ as os:=rfl
theorem zsK:wb ρ [] []=ρ:=rfl
noncomputable def nV(m2:MS):Fl->Qb Fl
 |.nx ai=>m2 ai
 |f=>ž f
theorem bind_fn{o:Qb α}{f g:α->Qb β}(h:∀a,f a=g a):o.bind f=o.bind g:=by cases o with|none=>rfl|some a=>exact h a
theorem zAU:zC m1 m2 ρ=(m1 ρ).bind (nV m2):=bind_fn λf=>by cases f<;>rfl
theorem zo9:nV m2 (.nx ρ)=m2 ρ:=rfl
theorem zpa:nV m2 (.rt u ρ)=ž (.rt u ρ):=rfl
noncomputable def U.dat:U->Qb U
 |.d x=>ž<|.d x
 |_=>Ž
theorem Zz:U.dat (.d x)=ž (.d x):=rfl
theorem Zy:put (.s i,ρ)=(ρ[i]?).join.bind λu=>u.dat.bind λd=>ž (d,ρ):=by
 unfold put;dsimp only;cases ρ[i]? with
 |none=>rfl
 |some o=>
  cases o with
  |none=>rfl
  |some u=>cases u<;>rfl
theorem Zx:put (.u u,ρ)=ž (u,ρ):=rfl
theorem zAV:aV i me ρ=(me ρ).bind λp=>(put p).bind λq=>ž (.nx<|q.2.set i<|some q.1):=rfl
theorem zAW:aS me ρ=(me ρ).bind λp=>(put p).bind λq=>ž (.rt q.1 q.2):=rfl
theorem zwG:nY pn i ρ=if i∈pn then Ž else(ρ[i]?).join.bind λu=>ž (.rt u<|ρ.set i Ž):=by
 unfold nY;split
 .rfl
 .cases ρ[i]? with
  |none=>rfl
  |some o=>cases o<;>rfl
theorem zwH:cF ρ=ž (.nx ρ):=rfl
theorem O8:jc me ρ=(me ρ).bind λp=>ž (.nx p.2):=rfl
theorem zAX:bV mt m1 m2 ρ=(mt ρ).bind λp=>if p.1=ż then m1 p.2 else m2 p.2:=rfl
theorem zDj:vU mt ma mb ρ=(mt ρ).bind λp=>if p.1=ż then ma p.2 else mb p.2:=rfl
def U.wH:U->Qb Bool
 |.d (.bool b)=>ž b
 |_=>Ž
theorem Zw{b:Bool}:U.wH (.d<|.bool b)=ž b:=rfl
theorem zE6:mB me ρ=(me ρ).bind λp=>(p.1.get p.2).bind λu=>u.wH.bind λb=>ž (b,p.2):=by
 unfold mB;congr 1
 funext p
 congr 1
 funext u
 cases u with
 |d x=>cases x<;>rfl
 |l=>rfl
 |t=>rfl
 |k=>rfl
 |o=>rfl
theorem zAY:w9 mt mu ρ=(mt ρ).bind λp=>if p.1=ż then mu p.2 else ž (Ż,p.2):=rfl
theorem zDk:iY mt mu ρ=(mt ρ).bind λp=>if p.1=ż then ž (ż,p.2)else mu p.2:=rfl
theorem zAZ:jo mt ρ=(mt ρ).bind λp=>ž (!p.1,p.2):=rfl
theorem Z9:lB ma mb ρ=(mB ma ρ).bind λp=>if p.1=ż then mb p.2 else ž (.u<|.d<|.bool Ż,p.2):=rfl
theorem Z8:DH ma ρ=(mB ma ρ).bind λp=>ž (.u<|.d<|.bool (!p.1),p.2):=rfl
theorem zA0:w6 ma ρ=(ma ρ).bind λp=>(p.1.get p.2).bind λu=>u.rR.bind λb=>ž (b,p.2):=rfl
theorem zpc{n:Int}:U.rR (.d<|.int n)=ž (n != 0):=rfl
theorem zA1:nW ρ=ž (ż,ρ):=rfl
noncomputable def U.lo:U->Qb (Qa D)
 |.l xs=>ž xs
 |_=>Ž
theorem zDl{xs:Qa D}:U.lo (.l xs)=ž xs:=rfl
def U.da:U->Qb D
 |.d x=>ž x
 |_=>Ž
theorem zDm:U.da (.d x)=ž x:=rfl
def U.num:U->Qb Int
 |.d (.int i)=>ž i
 |_=>Ž
theorem Zv{n:Int}:U.num (.d<|.int n)=ž n:=rfl
theorem zA2:lW i me ρ=(ρ[i]?).join.bind λw=>w.lo.bind λ_=>(me ρ).bind λp=>(p.1.get p.2).bind λu=>u.da.bind λx=>(p.2[i]?).join.bind λw=>w.lo.bind λxs=>if xs.length < ħ then ž (.u<|.d .none,p.2.set i<|some<|.l<|xs++[x])else Ž:=by
 unfold lW;cases ρ[i]? with
 |none=>rfl
 |some o=>
  cases o with
  |none=>rfl
  |some w=>
   cases w with
   |l xs0=>
    show((me ρ).bind _)=((me ρ).bind _);congr 1
    funext p
    congr 1
    funext u
    cases u with
    |d x=>
     show(match U.d x,p.2[i]? with |.d x,ž (ž<|.l xs)=>_|_,_=>Ž)=((p.2[i]?).join.bind _);cases p.2[i]? with
     |none=>rfl
     |some o=>
      cases o with
      |none=>rfl
      |some w=>cases w<;>rfl
    |l=>rfl
    |t=>rfl
    |k=>rfl
    |o=>rfl
   |d=>rfl
   |t=>rfl
   |k=>rfl
   |o=>rfl
theorem zsL:pZ i me mi ρ=(ρ[i]?).join.bind λ_=>(me ρ).bind λp=>(mi p.2).bind λq=>(p.1.get q.2).bind λu=>(q.1.get q.2).bind λw=>u.da.bind λx=>w.num.bind λk=>(q.2[i]?).join.bind λz=>z.lo.bind λxs=>(dM xs.length k).bind λj=>ž (.nx<|q.2.set i<|some<|.l<|xs.set j x):=by
 unfold pZ;congr 1;funext _;congr 1;funext p;congr 1;funext q;congr 1;funext u;congr 1;funext w;cases u with
 |d x=>
  cases w with
  |d y=>
   cases y with
   |int k=>
    show(match U.d x,U.d<|.int k,q.2[i]? with |.d x,.d<|.int k,ž (ž<|.l xs)=>_|_,_,_=>Ž)=((q.2[i]?).join.bind _);cases q.2[i]? with
    |none=>rfl
    |some o=>
     cases o with
     |none=>rfl
     |some w=>cases w<;>rfl
   |_=>rfl
  |l=>rfl
  |t=>rfl
  |k=>rfl
  |o=>rfl
 |l=>rfl
 |t=>rfl
 |k=>rfl
 |o=>rfl
theorem Z7:iL md my ρ=(md ρ).bind λp=>(my p.2).bind λq=>(p.1.get q.2).bind λu=>(q.1.get q.2).bind λy=>(k9 u y).bind λo=>o.bind λd=>ž (.u<|.d d,q.2):=rfl
theorem zA3{neg:Bool}:w5 neg my md ρ=(my ρ).bind λq=>(md q.2).bind λp=>(p.1.get p.2).bind λu=>(q.1.get p.2).bind λy=>(k9 u y).bind λo=>ž (.u<|.d<|.bool (if neg=ż then !o.isSome else o.isSome),p.2):=rfl
theorem zsM:tN ρ=ž (.u<|.t [],ρ):=rfl
noncomputable def FE(x:D):Ar×En->En
 | (.s i,ρ)=>ρ.set i<|some<|.d x
 | (.u _,ρ)=>ρ
theorem zDn:dh me ρ=(me ρ).bind λp=>(p.1.get p.2).bind λu=>u.fz.bind λx=>ž (.u<|.d x,FE x p):=by
 unfold dh;congr 1;funext p;congr 1;funext u;congr 1;funext x;have(a,ρ1):=p;cases a<;>rfl
theorem Yu:FE x (.s i,ρ)=ρ.set i (ž<|.d x):=rfl
theorem Yt:FE x (.u u,ρ)=ρ:=rfl
theorem zDo:U.fz (.d x)=ž x:=rfl
theorem zDp{xs:Qa D}:U.fz (.l xs)=ž (.list xs):=rfl
theorem zDq{kvs:Qa (Qa Key×D)}:U.fz (.t kvs)=ž (.dict<|kvs.map λp=>(iG p.1,p.2)):=rfl
theorem zDr{g:U->Qb (Qa D)}:dg g me ρ=(me ρ).bind λp=>(p.1.get p.2).bind λu=>(g u).bind λds=>ž (ds,p.2):=rfl
theorem zsN{xs:Qa D}:nP (.d<|.list xs)=ž xs:=rfl
theorem zsO{xs:Qa D}:nO (.d<|.tuple xs)=ž xs:=rfl
theorem zpd{kvs:Qa (D×D)}:rE (.d<|.dict kvs)=if mR kvs=ż then ž (kvs.map (·.1))else Ž:=rfl
def Df:Qa U->Qb (Qa D)
 |[.d<|.int j]=>if -(2^62)<=j/\j < 2^62 then ž (jR 0 j.toNat)else Ž
 |_=>Ž
theorem zA4{n:Int}:Df [.d<|.int n]=if -(2^62)<=n/\n < 2^62 then ž (jR 0 n.toNat)else Ž:=rfl
theorem Z6:pQ mA ρ=(mA ρ).bind λp=>(bJ p.2 p.1).bind λus=>(Df us).bind λds=>ž (ds,p.2):=bind_fn λp=>bind_fn λus=>match us with
 |[]=>rfl
 |[.d<|.int j]=>by
  show(if _ then _ else _)=(if _ then _ else _:Qb (Qa D)).bind _;split<;>rfl
 |[.d .none]=>rfl
 |[.d<|.bool _]=>rfl
 |[.d<|.str _]=>rfl
 |[.d<|.list _]=>rfl
 |[.d<|.tuple _]=>rfl
 |[.d<|.dict _]=>rfl
 |[.l _]=>rfl
 |[.t _]=>rfl
 |[.k _]=>rfl
 |[.o _ _]=>rfl
 |.d x::b::us=>by cases x<;>rfl
 |.l x::b::us=>rfl
 |.t x::b::us=>rfl
 |.k x::b::us=>rfl
 |.o x y::b::us=>rfl
theorem zA5{mI:MI}{mg:MG}:dU mI mg m1 ρ=(mI ρ).bind λp=>iM mg m1 p.1 p.2:=rfl
theorem zDs{mI:MI}{mg:MG}:jj mI nt js mg mt me ρ=(mI ρ).bind λp=>(kD nt mg mt me p.1 (e9 nt js p.2) []).bind λq=>ž (.u<|.l q.1,back js (q.2.drop nt) p.2):=rfl
theorem zDt{f:U->Qb Int->Qb Int->Qb U}{ml mh:MO}:Bf f me ml mh ρ=(me ρ).bind λp=>(ml p.2).bind λl=>(mh l.2).bind λh=>(p.1.get h.2).bind λx=>(f x l.1 h.1).bind λu=>ž (.u u,h.2):=rfl
theorem zq7:Au ρ=ž (Ž,ρ):=rfl
theorem Z5:y7 me ρ=(me ρ).bind λp=>(p.1.get p.2).bind λu=>u.num.bind λi=>ž (ž i,p.2):=bind_fn λp=>bind_fn λu=>by
 cases u with
 |d x=>cases x<;>rfl
 |l=>rfl
 |t=>rfl
 |k=>rfl
 |o=>rfl
def KH:Qa U->Qb (D×D)
 |[.d x,.d y]=>ž (x,y)
 |_=>Ž
theorem zsP{y:D}:KH [.d x,.d y]=ž (x,y):=rfl
theorem zA7:yP i j mA ρ=(mA ρ).bind λp=>(bJ p.2 p.1).bind λus=>(KH us).bind λz=>ž (.nx<|(p.2.set i<|some<|.d z.1).set j<|some<|.d z.2):=by
 refine bind_fn λp=>bind_fn λus=>?_
 match us with
 |[]=>rfl
 |[a]=>cases a<;>rfl
 |[.d x,.d y]=>rfl
 |[.d x,.l y]=>rfl
 |[.d x,.t y]=>rfl
 |[.d x,.k y]=>rfl
 |[.d x,.o _ _]=>rfl
 |[.l x,b]=>rfl
 |[.t x,b]=>rfl
 |[.k x,b]=>rfl
 |[.o _ _,b]=>rfl
 |a::b::c::us=>cases a<;>(try rfl)<;>(cases b<;>rfl)
theorem zA8{mg:MG}:rC me mg ρ=(me ρ).bind λp=>(p.1.get p.2).bind λu=>u.da.bind λd=>(mg d p.2).bind λai=>ž (.nx ai):=by
 unfold rC;congr 1;funext p;congr 1;funext u;cases u<;>rfl
theorem zsQ:zx i x ρ=ž (ρ.set i<|some<|.d x):=rfl
theorem Z4{gs:Qa D->En->Qb En}{ds:Qa D}:eI n gs (.tuple ds) ρ=if ds.length=n then gs ds ρ else Ž:=rfl
theorem zsR{g:MG}{gs:Qa D->En->Qb En}{ds:Qa D}:zI g gs (x::ds) ρ=(g x ρ).bind λρ1=>gs ds ρ1:=rfl
theorem Z3:fq [] ρ=ž ρ:=rfl
theorem xk{c:Int->Int->Prop}{g:Int->Int->D}{a b:Int}(h:c a b):qU c g (.d<|.int a) (.d<|.int b)=ž (.d<|g a b):=by
 unfold qU;dsimp only;rw[a5E h]
theorem Ys{a b:Int}:jN (.d<|.int a) (.d<|.int b)=ž (.d<|.int<|a+b):=rfl
theorem Yr{a b:Int}:pL (.d<|.int a) (.d<|.int b)=ž (.d<|.int<|a - b):=rfl
theorem Nx{a b:Int}(h:wY a b):jq (.d<|.int a) (.d<|.int b)=ž (.d<|.int<|a * b):=xk h
theorem zDu{a b:Int}(h:0 < b):lZ (.d<|.int a) (.d<|.int b)=ž (.d<|.int<|a % b):=xk (c:=λ_ j=>0 < j) h
theorem zA9{a b:Int}(h:Ac a b):Ab (.d<|.int a) (.d<|.int b)=ž (.d<|.int<|a / b):=xk h
theorem D4{a b:Int}(h:xo a b):DI (.d<|.int a) (.d<|.int b)=ž (.d<|.int<|a.fdiv b):=xk h
theorem zDv{a b:Int}(h:Dl a b):CW (.d<|.int a) (.d<|.int b)=ž (.d<|.int<|a^b.toNat):=xk h
theorem zDw{a b:Int}:Ck (.d<|.int a) (.d<|.int b)=ž (.d<|.bool<|decide<|a < b):=rfl
theorem zDx{a b:Int}:Cm (.d<|.int a) (.d<|.int b)=ž (.d<|.bool<|decide<|a<=b):=rfl
theorem zDy{a b:Int}:wA (.d<|.int a) (.d<|.int b)=ž (.d<|.bool<|decide<|b < a):=rfl
theorem zDz{a b:Int}:Cn (.d<|.int a) (.d<|.int b)=ž (.d<|.bool<|decide<|b<=a):=rfl
theorem Yq{a:Int}:pK (.d<|.int a)=ž (.d<|.int (-a)):=rfl
theorem Yp{a:Int}:xa (.d<|.int a)=ž (.d<|.int (if a < 0 then -a else a)):=rfl
theorem zsS{b:Bool}:y9 (.d<|.bool b)=ž (.d<|.int (if b then 1 else 0)):=rfl
theorem zDA{f:U->Qb U}:f1 f [u]=f u:=rfl
theorem Yo{xs:Qa D}:eE (.l xs)=ž (.d<|.int xs.length):=rfl
theorem Yn{xs:Qa D}:eE (.d<|.tuple xs)=ž (.d<|.int xs.length):=rfl
theorem Ym{xs:Qa D}:eE (.d<|.list xs)=ž (.d<|.int xs.length):=rfl
theorem zpe{xs:Qa D}:rK (.l xs)=ž (.d<|.tuple xs):=rfl
theorem Yl{xs:Qa D}{k:Int}:du (.l xs) (.d<|.int k)=(bt xs k).map .d:=rfl
theorem Yk{xs:Qa D}{k:Int}:du (.d<|.list xs) (.d<|.int k)=(bt xs k).map .d:=rfl
theorem Yj{xs:Qa D}{k:Int}:aT (.d<|.tuple xs) (.d<|.int k)=(bt xs k).map .d:=rfl
theorem Yi{xs:Qa D}{lo hi:Qb Int}:CT (.l xs) lo hi=ž (.l<|lV xs lo hi):=rfl
theorem Yh{a b:Int}:cp Ż (.d<|.int a) (.d<|.int b)=ž (.d<|.bool<|decide<|a=b):=by
 show ž (U.d<|.bool<|decide<|V.int a=V.int b)=_;congr 3;exact decide_eq_decide.mpr ⟨λh=>by cases h;rfl,λh=>by rw[h]⟩
theorem Yg{a b:Int}:cp ż (.d<|.int a) (.d<|.int b)=ž (.d<|.bool (!decide (a=b))):=by
 show ž (U.d<|.bool (!decide (V.int a=V.int b)))=_;congr 4;exact decide_eq_decide.mpr ⟨λh=>by cases h;rfl,λh=>by rw[h]⟩
theorem Yf{a b:Str}:cp Ż (.d<|.str a) (.d<|.str b)=ž (.d<|.bool<|decide<|a=b):=by
 show ž (U.d<|.bool<|decide<|V.str a=V.str b)=_;congr 3;exact decide_eq_decide.mpr ⟨λh=>by cases h;rfl,λh=>by rw[h]⟩
def De(pn:Qa Nat)(us:Qa U):Fl->Qb (U×Qa U)
 |.rt u ρ=>(iC pn ρ 0 us).bind λos=>ž (u,os)
 |.nx ρ=>(iC pn ρ 0 us).bind λos=>ž (.d .none,os)
 |_=>Ž
theorem zBa{us:Qa U}:bA n pn m1 us=(m1<|sm us++Ĩ (n - us.length) Ž).bind (De pn us):=by
 exact bind_fn λf=>by cases f<;>rfl
theorem zpf{us:Qa U}:De pn us (.rt u ρ)=(iC pn ρ 0 us).bind λos=>ž (u,os):=rfl
theorem zlZ:iC pn ρ n []=ž []:=rfl
theorem zjV{us:Qa U}:iC pn ρ n (u::us)=(if n∈pn then(ρ[n]?).join.bind λo=>if o.own=ż/\u.own=Ż then Ž else ž o else if u.own=ż then Ž else ž u).bind λo=>(iC pn ρ (n+1) us).bind λos=>ž (o::os):=rfl
theorem Ye:U.own (.d x)=Ż:=rfl
theorem Yd{xs:Qa D}:U.own (.l xs)=ż:=rfl
theorem zsT:sm []=[]:=rfl
theorem zpg{us:Qa U}:sm (u::us)=ž u::sm us:=rfl
theorem zDB{a:α}{xs:Qa α}:bt (a::xs) 0=ž a:=by
 unfold bt dM;rw[a5E (by decide),a5E (by simp only[qv];omega)];rfl
theorem zDC{a b:α}{xs:Qa α}:bt (a::b::xs) 1=ž b:=by
 unfold bt dM;rw[a5E (by decide),a5E (by simp only[qv];omega)];rfl
theorem zDD{a b c:α}{xs:Qa α}:bt (a::b::c::xs) 2=ž c:=by
 unfold bt dM;rw[a5E (by decide),a5E (by simp only[qv];omega)];rfl
theorem Va:dM (n+1) 0=ž 0:=by
 unfold dM;rw[a5E (by decide),a5E (by omega)];rfl
theorem zDE:dM (n+1+1) 1=ž 1:=by
 unfold dM;rw[a5E (by decide),a5E (by omega)];rfl
theorem zDF{a b:Int}(h:b.natAbs < 18446744073709551616):jq (.d<|.int a) (.d<|.int b)=ž (.d<|.int<|a * b):=Nx (.inr ⟨by omega,by omega⟩)
theorem zDG{a b:Int}(h:a.natAbs < 18446744073709551616):jq (.d<|.int a) (.d<|.int b)=ž (.d<|.int<|a * b):=Nx (.inl ⟨by omega,by omega⟩)
theorem zDH{a b:Int}(h:0 < b):lZ (.d<|.int a) (.d<|.int b)=ž (.d<|.int<|a % b):=zDu h
theorem zDI{a b:Int}(h:0 < b)(h2:b<=340282366920938463463374607431768211456):Ab (.d<|.int a) (.d<|.int b)=ž (.d<|.int<|a / b):=zA9 (ZQ h (by omega))
theorem zDJ{a b:Int}(h:0<=b)(h2:b<=1000000)(h3:a.natAbs < 18446744073709551616):CW (.d<|.int a) (.d<|.int b)=ž (.d<|.int<|a^b.toNat):=zDv ⟨h,h2,by omega⟩
theorem zl:ħ=16777216:=rfl
theorem zph:reset nt ρ=Ĩ nt Ž++ρ.drop nt:=rfl
theorem Yc:e9 nt js ρ=Ĩ nt Ž++js.map λj=>ρ.getD j Ž:=rfl
noncomputable def yg(j:Nat):Qa Ar->Bool
 |[]=>ż
 |.u _::as=>yg j as
 |.s k::as=>!decide (k=j) && yg j as
theorem HY:∀{as:Qa Ar},yg j as=!(as.any λa=>match a with |.s k=>decide (k=j) |_=>Ż)
 |[]=>rfl
 |.u _::as=>by rw[ŭ];exact HY (as:=as)
 |.s k::as=>by
  unfold yg;rw[ŭ,HY (as:=as),Bool.not_or]
def Cv:Qb U->Bool
 |some u=>!u.own
 |none=>ż
theorem Yb:Cv (ž<|.d x)=ż:=rfl
theorem zpi:yg j []=ż:=rfl
theorem zpj{as:Qa Ar}:gY ρ (.s j::as)=((yg j as || Cv (ρ[j]?).join) && gY ρ as):=by
 rw[zAT,HY];congr 1;cases ρ[j]? with
 |none=>simp[Cv]
 |some o=>
  cases o with
  |none=>simp[Cv]
  |some u=>simp[Cv,Bool.or_comm]
theorem zsU{us:Qa (Qb U)}:back (j::js) (ž u::us) ρ=back js us (ρ.set j<|some u):=rfl
theorem zsV{us:Qa (Qb U)}:back [] us ρ=ρ:=by cases us<;>rfl
theorem Jv:∀ks:Qa Int,tF (ks.map į)=ž ks
 |[]=>rfl
 |k::ks=>by show(tF<|ks.map į).bind _=_;rw[Jv ks];rfl
theorem OO{ks:Qa Int}:KE (.l<|ks.map į)=ž (.d<|.int ks.sum):=by
 show(ž _).bind _=_;rw[bd,Jv];rfl
end
section
noncomputable def Ci:D->Qb V
 |.none=>ž .aM
 |.bool b=>ž<|.bl b
 |.int i=>ž<|.int i
 |.str x=>ž<|.str x
 |_=>Ž
theorem IU{v w:V}{d:D}(h:DF K H v d)(e:Ci d=ž w):v=w/\nu w=ż:=by
 cases d with
 |none=>cases e;cases h;exact⟨rfl,rfl⟩
 |bool b=>cases e;cases DF.bT h;exact⟨rfl,rfl⟩
 |int i=>cases e;cases DF.int_inv h;exact⟨rfl,rfl⟩
 |str x=>cases e;cases DF.str_inv h;exact⟨rfl,rfl⟩
 |_=>cases e
theorem O7:∀{us:Qa V} {ds:Qa D} {ws:Qa V},aI K H us ds->ds.mapM Ci=ž ws->us=ws/\ws.all nu=ż
 |_,_,ws,.nil,e=>by cases e;exact⟨rfl,rfl⟩
 |_,_,ws,.cons h t,e=>by
  rw[a0g]at e;have(y,e1,e):=bQ e;have(j8,e2,e):=bQ e;cases e;have(rfl,f1):=IU h e1;have(rfl,f2):=O7 t e2;exact⟨rfl,by rw[Ϝ,f1,f2];rfl⟩
end
abbrev RX(α:Type):=(α×En) ⊕ (D×En)
abbrev MX:=En->Qb (RX Ar)
abbrev MR:=En->Qb (RX<|Qa Ar)
noncomputable def Bk{α:Type}(m:En->Qb (RX α)):En->Qb (α×En):=λρ=>(m ρ).bind λr=>match r with |.inl p=>ž p |.inr _=>Ž
section
variable{EX:fZ}{ρ ai:En}{A:Qg->Prop}
noncomputable def zE7(me:MX)(ma:MR):MR:=λρ=>(me ρ).bind λr=>match r with
 |.inl p=>(ma p.2).bind λr'=>match r' with
  |.inl q=>ž<|.inl (p.1::q.1,q.2)
  |.inr z=>ž<|.inr z
 |.inr z=>ž<|.inr z
def J6(mS:ME->MS)(m:MX):MS:=λρ=>(m ρ).bind λr=>match r with
 |.inl _=>mS (Bk m) ρ
 |.inr z=>ž<|.ex z.1 z.2
noncomputable def zBd(m:En->Qb (D×En)):MS:=λρ=>(m ρ).bind λp=>ž<|.ex p.1 p.2
def mXR(n f:Str)(ma:MA):En->Qb (D×En):=λρ=>(ma ρ).bind λp=>(bJ p.2 p.1).bind λus=>(l9 us).bind λds=>match ds with
 |[x]=>ž (.dict [(.none,.str n),(.str f,x)],p.2)
 |_=>Ž
noncomputable def zE8(n:Str):En->Qb (D×En):=λρ=>ž (.dict [(.none,.str n)],ρ)
def under(tab:Qa (Str×Qa Str))(c:Str):D->Bool
 |.dict ((.none,.str n)::_)=>match tab.lookup n with|some ups=>ups.contains c|none=>Ż
 |_=>Ż
end
abbrev FX:=Qa U->Qb ((U×Qa U) ⊕ (D×Qa U))
def spX(K:qc)(n:Nat)(f:FX):Sp:=λvs H Q E=>∃us r,us.length=n/\Rs K (sm us) (fH vs) H/\f us=ž r/\match r with
 |.inl o=>∀v H',Go K (sm us) (fH vs) H (sm o.2) H'->Rp K H' v o.1->Nw H v o.1->Q v H'
 |.inr o=>∀a H',Go K (sm us) (fH vs) H (sm o.2) H'->H a=Ž->U5 K H' a o.1->E (.ref a) Ž H'
structure MZ (P:Qe) (w:Qh) (K:qc) (mg:Str->Qb Qc) (base:Ļ) (x:Str) (k:Nat) (ps:Qa Str) (sp:Sp):Prop where
 ex:∃(f:Qg) (fd:ϋ),cD P w K mg base (CXv P w K) k f fd ps sp/\n9 K fd ps []/\ť K (.ref f)=ż/\mg x=ž (.ref f)
section
variable{EX:fZ}{ρ ai:En}{A:Qg->Prop}
def UL(ρ:En)(as:Qa Ar):(U×Qa U) ⊕ (D×Qa U)->RX Ar
 |.inl o=>.inl (.u o.1,wb ρ as o.2)
 |.inr o=>.inr (o.1,wb ρ as o.2)
def zDL(f:FX)(ma:MA):MX:=λρ=>(ma ρ).bind λp=>if gY p.2 p.1=ż then(bJ p.2 p.1).bind λus=>(f us).bind λo=>ž (UL p.2 p.1 o)else Ž
def Nv(pn:Qa Nat)(us:Qa U):Fl->Qb ((U×Qa U) ⊕ (D×Qa U))
 |.rt u ρ=>(iC pn ρ 0 us).bind λos=>ž<|.inl (u,os)
 |.nx ρ=>(iC pn ρ 0 us).bind λos=>ž<|.inl (.d .none,os)
 |.ex x ρ=>(iC pn ρ 0 us).bind λos=>ž<|.inr (x,os)
 |_=>Ž
def zE9(n:Nat)(pn:Qa Nat)(m:MS):FX:=λus=>(m<|sm us++Ĩ (n - us.length) Ž).bind<|Nv pn us
end
noncomputable def tyD:D->Qb String
 |.none=>ž "NoneType"
 |.bool _=>ž "bool"
 |.int _=>ž "int"
 |.str _=>ž "str"
 |.tuple _=>ž "tuple"
 |_=>Ž
def Ve:U->Qb String
 |.d x=>tyD x
 |.l _=>ž "list"
 |_=>Ž
noncomputable def jV(t T:String):Bool:=t==T || (t == "bool" && T == "int")
noncomputable def Hl:Qa String:=["NoneType", "bool", "int", "str", "tuple", "list"]
theorem Z2(K:qc):∀t∈Hl,∀T∈["int", "bool", "str", "tuple", "list"],a1c K (.type t) (.type T)=ž (jV t T):=by
 have hm:∀T∈["int", "bool", "str", "tuple", "list"],PySem.W.kitMeta T=ż:=by decide +kernel
 have hs:∀t∈Hl,∀T∈["int", "bool", "str", "tuple", "list"],(PySem.fastBuiltinMro t).map (·.contains (ϣ T))=ž (jV t T):=by decide +kernel
 intro t ht T hT;unfold a1c;split
 .rename_i q
  have e:t=T:=a4a (beq_iff_eq.mp q);subst e;unfold jV;simp
 .unfold PySem.W.kitCls PySem.W.subIn
  simp only[hm T hT,if_true];exact hs t ht T hT
def iK(T:String)(u:U):Qb U:=(Ve u).bind λt=>if t∈Hl/\T∈["int", "bool", "str", "tuple", "list"]then ž (.d<|.bool<|jV t T)else Ž
section
theorem zBe{v:V}{u:U}{t:String}(h:Rp K H v u)(e:Ve u=ž t):d6 K H v (.type t):=by
 cases u with
 |d x=>
  cases x with
  |none=>cases e;cases h;exact .aM
  |bool b=>cases e;cases DF.bT h;exact .bl _
  |int i=>cases e;cases DF.int_inv h;exact .int _
  |str x=>cases e;cases DF.str_inv h;exact .str _
  |tuple ds=>cases e;have(a,ys,rfl,h1,_):=DF.aD h;exact .tup h1
  |list ds=>cases e
  |dict ds=>cases e
 |l xs=>cases e;have(a,us,rfl,h1,_):=h;exact .lst h1
 |t kvs=>cases e
 |k kvs=>cases e
 |o=>cases e
theorem nX{me:ME}(h:VE K te me):VE K (mF (Ku K)<|j0 te<|j0 (tC<|.ty T) jZ) (cX (iK T) me):=by
 intro ρ σ H a ai Q rs e q;obtain⟨⟨a1,ρ1⟩,e1,e⟩:=bQ e;have(x,ex,e):=bQ e;have(u,eu,e):=bQ e;cases e;refine h ρ σ H a1 _ _ rs e1 λv1 H1 g1 k1=>?_;have p:=k1.now rs g1 ex;unfold iK at eu;have(t,et,eu):=bQ eu;split at eu
 .rename_i hc
  cases eu;exact⟨v1,.type t,T,_,rfl,zBe p et,Z2 K t hc.1 T hc.2,q _ _ g1 ⟨DF.bl _,Nw.data⟩⟩
 .cases eu
def zFa(x:D)(ds:Qa D):Qb Bool:=(Ci x).bind λw=>(ds.mapM Ci).bind λws=>ž<|Bp w ws
def Mw(neg:Bool)(a b:U):Qb U:=match a with
 |.d x=>b.items.bind λds=>(zFa x ds).bind λr=>ž<|.d<|.bool (if neg=ż then !r else r)
 |_=>Ž
theorem zDM(neg:Bool):VO K (vL K neg) (Mw neg):=by
 intro x y a b u H Q ha hb e q;cases a with
 |d d=>
  have(ds,e1,e):=bQ (show b.items.bind _=ž u from e);have(r,e2,e):=bQ e;have(w,e3,e2):=bQ e2;have(ws,e4,e2):=bQ e2;cases e2;cases e;have(p,ys,rfl,sq,df):=hb.items e1;have(rfl,f1):=IU ha e3;have(rfl,f2):=O7 df e4;exact⟨p,_,rfl,sq,f1,f2,q _ _ (dJ.refl H) (by cases neg<;>exact DF.bl _) Nw.data⟩
 |_=>cases e
noncomputable def F7:D->Qb Bool
 |.bool b=>ž b
 |_=>Ž
theorem O6:∀{us:Qa V} {ds:Qa D} {bs:Qa Bool},aI K H us ds->ds.mapM F7=ž bs->us=bs.map V.bl
 |_,_,bs,.nil,e=>by cases e;rfl
 |_,_,bs,.cons (d:=d) h t,e=>by
  rw[a0g]at e;have(y,e1,e):=bQ e;have(j8,e2,e):=bQ e;cases e;cases d with
  |bool x=>cases e1;cases DF.bT h;rw[O6 t e2];rfl
  |_=>cases e1
def w4(u:U):Qb U:=u.items.bind λds=>(ds.mapM F7).bind λbs=>ž<|.d<|.bool<|bs.all id
theorem ON:VC K (U8 K) (f1 w4):=rf λv a u H Q h e q=>by
 have(ds,ex,e):=bQ e;have(bs,eb,e):=bQ e;cases e;have(p,ys,rfl,s,d):=h.items ex;cases O6 d eb;exact⟨p,bs,rfl,s,q _ _ (λ_ _ z=>z) (.bl _) Nw.data⟩
def Am(f f':U->U->Qb U)(ma mb mc:ME):ME:=λρ=>(ma ρ).bind λp=>(mb p.2).bind λq=>(p.1.get q.2).bind λx=>(q.1.get q.2).bind λy=>(f x y).bind λr=>match r with
 |.d (.bool ż)=>(mc q.2).bind λs=>(q.1.get s.2).bind λy'=>(s.1.get s.2).bind λz=>(f' y' z).bind λu=>ž (.u u,s.2)
 |.d (.bool Ż)=>ž (.u<|.d<|.bool Ż,q.2)
 |_=>Ž
theorem O5{r r':R2}{f f':U->U->Qb U}{tc:TE}{ma mb mc:ME}(h:VO K r f)(h':VO K r' f')(ha:VE K ta ma)(hb:VE K tb mb)(hc:VE K tc mc):VE K (Ah r r' ta tb tc) (Am f f' ma mb mc):=by
 intro ρ σ H a ai Q rs e q;obtain⟨⟨a1,ρ1⟩,e1,e⟩:=bQ e;obtain⟨⟨b1,au⟩,e2,e⟩:=bQ e;have(x,ex,e):=bQ e;have(y,ey,e):=bQ e;have(rr,er,e):=bQ e;refine ha ρ σ H a1 ρ1 _ rs e1 λv1 H1 g1 k1=>hb ρ1 σ H1 b1 au _ g1.rs e2 λv2 H2 g2 k2=>?_;refine h _ _ x y rr H2 _ (k1.later rs g1 g2 ex) (k2.now g1.rs g2 ey) er λv H3 s p n=>?_;have g3:=Go.grow g2.rs s;split at e
 .cases DF.bT p
  refine⟨ż,rfl,?_⟩;rw[a5E rfl];obtain⟨⟨c1,jL⟩,e3,e⟩:=bQ e;have(y',ey',e):=bQ e;have(z,ez,e):=bQ e;have(u,eu,e):=bQ e;cases e;refine hc au σ H3 c1 _ _ g3.rs e3 λv3 H4 g4 k4=>?_;refine h' _ _ y' z u H4 _ (k2.later g1.rs g2 (g3.trans g4) ey') (k4.now g3.rs g4 ez) eu λw H5 s5 p5 n5=>?_;exact q w H5 ((((g1.trans g2).trans g3).trans g4).trans<|Go.grow g4.rs s5) ⟨p5,n5.mono λb hb=>(g1.trans g2).dm b<|g3.dm b<|g4.dm b hb⟩
 .cases DF.bT p
  cases e;refine⟨Ż,rfl,?_⟩;rw[a5F (by decide)];exact q _ H3 ((g1.trans g2).trans g3) ⟨DF.bl _,Nw.data⟩
 .cases e
def zFo:U->U->Qb U
 |.d (.str z),.d (.int n)=>if 0<=n/\n<=1 then ž (.d<|.str<|zEW z n)else Ž
 |_,_=>Ž
def xj:U->Qb U
 |.d (.str z)=>if z.length<=ħ then ž (.d<|.int z.length)else Ž
 |_=>Ž
theorem Z1:VC K (λxs H Q=>∃z,xs=[.str z]/\z.length<=ħ/\Q (.int z.length) H) (f1 xj):=rf λv a u H Q h e q=>by
 unfold xj at e;split at e
 .split at e
  .rename_i z hc
   cases e;exact⟨z,by rw[DF.str_inv h],hc,q _ _ (dJ.refl H) (DF.int _) Nw.data⟩
  .cases e
 .cases e
def FZ(g:Str->Bool):U->Qb U
 |.d (.str z)=>ž<|.d<|.bool<|g z
 |_=>Ž
def Bg(g:Str->Bool)(mo:ME):ME:=cX (FZ g) mo
def Fo(g:Str->Bool):V->Qa V->Hp->VK->Prop:=λx xs H Q=>∃z,x=.str z/\xs=[]/\Q (.bl<|g z) H
theorem J5{g:Str->Bool}{to:TE}{mo:ME}(h:VE K to mo):VE K (Kx K "str" (Fo g) to) (Bg g mo):=by
 intro ρ σ H a ai Q rs e q;obtain⟨⟨a1,ρ1⟩,e1,e⟩:=bQ e;have(x,ex,e):=bQ e;have(u,eu,e):=bQ e;cases e;refine h ρ σ H a1 _ _ rs e1 λv1 H1 g1 k1=>?_;have p:=k1.now rs g1 ex;unfold FZ at eu;split at eu
 .rename_i z
  cases eu;cases DF.str_inv p;exact⟨rfl,z,rfl,rfl,q _ _ g1 ⟨DF.bl _,Nw.data⟩⟩
 .cases eu
end
section
variable{X:Cx}
theorem znY:sP X "str.isascii" (Fo a4t):=by
 intro pins s σ H x xs v us Q I rx rv h;have(z,rfl,rfl,q):=h;have(t,rfl):=rx;cases rv;exact PySem.SC.isascii<|rH I q rfl
theorem znZ:sP X "str.isalpha" (Fo a4u):=by
 intro pins s σ H x xs v us Q I rx rv h;have(z,rfl,rfl,q):=h;have(t,rfl):=rx;cases rv;exact PySem.SC.isalpha<|rH I q rfl
theorem zn0:sP X "str.islower" (Fo a4s):=by
 intro pins s σ H x xs v us Q I rx rv h;have(z,rfl,rfl,q):=h;have(t,rfl):=rx;cases rv;exact PySem.SC.islower<|rH I q rfl
def uP(K:qc)(g:Qg)(ws:Qa Str):Prop:=∃(o:Obj) (ah:Array Qc) (n:Nat),K.lookup g=ž o/\o.cls=.type "tuple"/\o.data=.seq ah n/\ah.size<=ħ/\zJ (ws.map V.str) ah.toList
theorem uP.sq{g:Qg}{ws:Qa Str}(h:uP K g ws):cH K H g (ws.map V.str):=.inr h
def UK(K:qc)(ws:Qa Str):R2:=λx y H Q=>∃g,y=.ref g/\uP K g ws/\((nu x=ż/\Q (.bl<|Bp x<|ws.map V.str) H)\/∃ds,DV K H x (.tuple ds)/\Ϩ (.tuple ds)=ż/\Q (.bl Ż) H)
theorem Iu(K:qc)(hK:X.K=K){k:Nat}(hr:aE k X.A)(ws:Qa Str)(hws:∀z∈ws,(a0K z).canLay0=ż):bL X (Ň .In) (UK K ws):=by
 subst hK;intro pins s σ H x y v u Q I rx ry h;have(g,rfl,gw,h):=h;rcases h with⟨fx,q⟩|⟨ds,dv,sh,q⟩
 .refine zqK pins s σ H x (.ref g) v u Q I rx ry ⟨g,_,rfl,.inr gw.sq,fx,?_,q⟩
  simp[nu]
 .cases ry
  have(ah,r,pl,hz):=I.tuple gw.sq;have(as,ra):=DV.reads I dv rx;refine a4S (λ_=>Ż) pl (λw hw=>?_) ⟨.bl _,H,I,rfl,?_⟩
  .have hw':w∈ah:=by simpa using hw
   have(j,hj,ej):=a1B hw';have hl:=r.length;have hj2:j < ws.length:=by rw[Ħ]at hl;omega
   have(u',e1,e2):=r.get (i:=j) (x:=.str (ws[j]'(by rw[Ħ]at hl;omega))) (by rw[ĭ,qo (by rw[Ħ]at hl;omega)];rfl);rw[qo hj,ej]at e1;cases e1;have(t,rfl):=e2;have z:=SeqAt.eqAt_reads (.str ws[j]) (.tuple ds) X.A.in1 s (.str ws[j] t) v [] as (Reads.str ..) ra (hws _<|õ _) (ï sh) (by
    have h1:=hr.units;have h2:min (a0K ws[j]).depth (Ĵ ds).depth<=(a0K ws[j]).depth:=Nat.min_le_left _ _;have h3:(a0K ws[j]).depth=0:=by simp[a1K]
    have h4:X.A.in1.units<=X.A.units+1:=by simp[Around.in1]
    omega)
   rw[show a0b (.str ws[j]) (.tuple ds)=Ż by simp[a0b]]at z;exact z
  .rw[show(ah.toArray.any λ_=>Ż)=Ż by simp];exact q
def rA(ws:Qa Str):U->Qb U
 |.d (.tuple ds)=>if Ϩ (.tuple ds)=ż then ž (.d<|.bool Ż)else Ž
 |.d x=>(Ci x).bind λw=>ž<|.d<|.bool<|Bp w<|ws.map V.str
 |_=>Ž
theorem Hk{g:Qg}{ws:Qa Str}{me:ME}(gw:uP K g ws)(h:VE K te me):VE K (qE (UK K ws) te<|tC<|.ref g) (cX (rA ws) me):=by
 intro ρ σ H a ai Q rs e q;obtain⟨⟨a1,ρ1⟩,e1,e⟩:=bQ e;have(x,ex,e):=bQ e;have(u,eu,e):=bQ e;cases e;refine h ρ σ H a1 _ _ rs e1 λv1 H1 g1 k1=>?_;have p:=k1.now rs g1 ex;refine⟨g,rfl,gw,?_⟩;unfold rA at eu;split at eu
 .rename_i ds
  split at eu
  .rename_i hc
   cases eu;exact .inr ⟨ds,Rp.dv (u:=.d (.tuple ds)) p rfl<|EO _<|ï hc,hc,q _ _ g1 ⟨DF.bl _,Nw.data⟩⟩
  .cases eu
 .have(w,ew,eu):=bQ eu
  cases eu;have(rfl,f1):=IU p ew;exact .inl ⟨f1,q _ _ g1 ⟨DF.bl _,Nw.data⟩⟩
 .cases eu
end
noncomputable def rn(ks:Qa Key)(i:Nat)(k:Key):Bool:=(ks.take i).any λx=>decide<|x=k
def jt(ks:Qa Key):Nat->Nat
 |0=>0
 |i+1=>match ks[i]? with
  |some k=>if rn ks i k=ż then jt ks i else jt ks i+1
  |none=>jt ks i
theorem IT(ks:Qa Key):∀i,jt ks i<=i
 |0=>qf _
 |i+1=>by
  have:=IT ks i;unfold jt;split
  .split<;>omega
  .omega
section
variable{R:Ϻ->Qd->Prop}{I:Qg}{fp wr:Qa Qg}{ks:Qa Key}{P:Nat->Qc->Prop}{St:Nat->Qd->Prop}
theorem Rh{kd:KeyKind prog w Key}{S:Key->Bool}(x:h.SetOf kd a S n)(k:∀o,h.get? a=ž o->h'.get? a=ž o):h'.SetOf kd a S n :=
 let ⟨o,es,ep,t,ho,r⟩:=x
 ⟨o,es,ep,t,k o ho,r⟩
theorem zs0{kd:KeyKind prog w Key}{S S':Key->Bool}{n':Nat}(x:h.SetOf kd a S n)(e:∀k,S k=S' k)(en:n=n'):h.SetOf kd a S' n':=by
 cases funext e;cases en;exact x
theorem zs1(W:WalksS prog w A.in1 I fp wr G ks.length P St)(S:Qg)(FU:S∉fp)(hv:∀i v,P i v->∃k,ks[i]?=ž k/\tJ k v=ż/\v.scannable=ż)(hb:ks.length+1 < a2Z):
  ∀(m i:Nat) (s:Qd),i+m=ks.length->St i s->s.heap.SetOf (zH prog w) S (rn ks i) (jt ks i)->
   (∀s',Moved (S::wr) G s s'->s'.heap.SetOf (zH prog w) S (rn ks ks.length) (jt ks ks.length)->R (.ok<|.ret .none) s')->Ŵ (Ĭ prog w) A (.builtin "set.update.loop" ⟨[.ref S,.ref I],[]⟩) R s:=by
 have nw:S∉wr:=λz=>FU<|W.sub _ z;have up:∀b∈wr,b∈S::wr:=λb=>qp _;intro m
 induction m with
 |zero=>
  intro i s hi st hS hR;cases(show i=ks.length by omega);refine a0o a0A ?_;rw[Υ Ϙ _];show ĩ _ A.in1 (ϱ (.ref I) >>= _) _ _ s;exact qa<|W.done s _ _ st λs1 mv=>qb<|hR s1 (mv.mono up)<|Rh hS λo e=>mv.heap S o nw e
 |succ m ih=>
  intro i s hi st hS hR;refine a0o a0A ?_;rw[Υ Ϙ _];show ĩ _ A.in1 (ϱ (.ref I) >>= _) _ _ s;refine qa<|W.item i s _ _ (by omega) st λv s1 hP oM mv=>?_;have(k,ek,kv,sc):=hv i v hP;have FV:=Rh hS λo e=>mv.heap S o nw e;show ĩ _ A.in1 (Ϟ [v] (setAdd S v) >>= _) _ _ s1;refine qa<|Ő ?_;unfold setAdd;refine Ő<|qa<|(zH prog w).pyHash (k:=k) kv ?_;have room:jt ks i+1 < a2Z:=by have:=IT ks i;omega
  refine wpAny_setAddHashed_of (knd:=zH prog w) (s:={s1 with toks:=s1.toks+1}) kv sc FV room λh2 sb Cc=>?_;have et:ks.take (i+1)=ks.take i++[k]:=by rw[List.take_add_one,ek];rfl
  have Cb:=zs0 (S':=rn ks (i+1)) (n':=jt ks (i+1)) Cc (λk'=>by
   unfold rn;rw[et,List.any_append];simp[eq_comm]) (by
   show _=(match ks[i]? with|some k=>if rn ks i k=ż then jt ks i else jt ks i+1|none=>jt ks i);rw[ek])
  refine qb ⟨a2i Ϙ _,ih (i+1) _ (by omega) (W.frame _ s1 _ _ oM (é _) λb hb o e=>?_) Cb λs2 mv2 Mr=>?_⟩
  .exact(sb.2 b λz:b=S=>FU<|z▸hb).trans e
  .refine hR s2 (Moved.trans W.gtrans ((mv.mono up).then_heap (é _) λb o hb e=>?_) mv2) Mr
   exact(sb.2 b λz:b=S=>hb<|z▸qq).trans e
end
section
variable{s:Qd}
theorem O4(b:String)(hb:b = "set"\/b = "frozenset"):isSubtype (.type "tuple") (.type b)=pure Ż:=by
 rcases hb with rfl|rfl<;>(rw[isSubtype_type];kernel_rfl)
noncomputable def pY(led:Bool):Obj:={cls:=.type "set",dict:=Ž,data:=.set #[] 0 (.fresh 0 0 led)}
theorem zkK{items:Array Qc}{ks:Qa Key}(hh:A.handled=Ž)(ht:a1R s.heap a items)(hk:∀(i:Nat) (v:Qc),items[i]?=ž v->∃k,ks[i]?=ž k/\tJ k v=ż/\v.scannable=ż)(hz:items.size=ks.length)(hb:ks.length+1 < a2Z)
  (h:∀(h':Ļ) (tk:Nat),h'.SetOf (zH prog w) s.heap.objs.size (rn ks ks.length) (jt ks ks.length)->(∀b o,s.heap.get? b=ž o->h'.get? b=ž o)->Q (.ref s.heap.objs.size) {s with heap:=h',toks:=tk}):
  ĩ (Ĭ prog w) A (a1P (.type "set") [.ref a]) Q E s:=by
 have(c,tl,hmro):=Ü.mro;have m1:=Ü.made;have m2:=Ü.sub;have m3:=Ü.notType;have m4:=Ü.canCreate;have m5:=PySem.F.typeCall_set_1 (.ref a);have L6:s.heap.IsTuple a items:=ht;obtain⟨⟨oc,od,odt,nH⟩,ho,hc,n,hd⟩:=id L6;have dq:a < s.heap.objs.size:=qi ho;refine wpAny_call<|codeAny_of_tree ?_;show ĩ _ _ (callAny (.type "set") _) _ _ _;refine qb ⟨Code.quiet_builtin _ (by decide +kernel),a0o PySem.F.entry_type_call ?_⟩;rw[Around.under_plain (weight_type_call_type "set" [.ref a] []) rfl]
 repeat (any_goals (first|assumption|wp_step))
 refine Ψ (code_set_new_1 (.ref a) (E:=E) (Q₁:=λobj s1=>∃led,obj=.ref s.heap.objs.size/\s1={s with heap:=s.heap.push (pY led)}) λled=>⟨led,rfl,rfl⟩) λr s1 hr=>?_;cases r with
 |error e=>exact hr
 |ok fl=>
 cases fl with
 |next=>exact hr.elim
 |brk=>exact hr.elim
 |cont=>exact hr.elim
 |ret obj=>
 have(led,rfl,rfl):=hr;have hS:(s.heap.push<|pY led).get? s.heap.objs.size=ž (pY led):=qh _ rfl;have hT:Τ {s with heap:=s.heap.push (pY led)} (.ref s.heap.objs.size) "set":=⟨_,hS,rfl⟩;have n1:=Ü.init.lookup;have n2:=Ü.init.bind (.ref s.heap.objs.size)
 repeat (any_goals (first|assumption|wp_step))
 refine Ψ (codeAny_call_builtin (R:=wants (λr s2=>r=.none/\∃h' tk,s2={s with heap:=h',toks:=tk}/\h'.SetOf (zH prog w) s.heap.objs.size (rn ks ks.length) (jt ks ks.length)/\(∀b o,s.heap.get? b=ž o->h'.get? b=ž o)) E) Ü.init.plain PySem.F.entry_set_init<|check_set_init_1 hT ?_) λr s2 hr=>?_
 rotate_left
 .cases r with
  |error e=>exact hr
  |ok fl=>
  cases fl with
  |next=>exact hr.elim
  |brk=>exact hr.elim
  |cont=>exact hr.elim
  |ret obj=>
  have(rfl,h',tk,rfl,Cd,i5):=hr
  repeat (any_goals (first|assumption|wp_step))
  exact h _ _ Cd i5
 .dsimp only at hc hd
  subst hc hd;have qQ:(s.heap.push<|pY led).get? a=ž ⟨.type "tuple",od,.seq items n,nH⟩:=qd _ ho;have gI:(s.heap.push<|pY led).IsTuple a items:=⟨_,qQ,rfl,n,rfl⟩;have s1:=O4 "set" (.inl rfl);have s2:=O4 "frozenset" (.inr rfl);have s3:(ϣ "tuple"==ϣ "dict")=Ż:=by decide
  unfold Builtin.«set.__init__» noKeywords a5B;generalize hPI:a0m=PI
  wp_walk
  subst hPI;refine ſ gI<|qa<|wpAny_runValue ?_;have hsz:(s.heap.push<|pY led).objs.size=s.heap.objs.size+1:=û ..;have ne:a≠(s.heap.push<|pY led).objs.size:=by rw[hsz];exact qk<|Ú dq
  have FU:s.heap.objs.size∉[(s.heap.push<|pY led).objs.size,a]:=by
   rw[hsz];simp only[qw,ľ,or_false,not_or];exact⟨qk<|à _,a1e dq⟩
  have hh3:A.in1.in1.in1.handled=Ž:=by simp[hh]
  have WT:=(Walks.tuple (prog:=prog) (w:=w) hh3 _ a ne items).toS;rw[hz]at WT;refine zs1 WT s.heap.objs.size FU hk hb ks.length 0 _ (Ţ _) ⟨⟨_,qh _ rfl,rfl,rfl⟩,?_⟩ ?_ ?_
  .exact⟨_,qd _ qQ,rfl,n,rfl⟩
  .exact⟨pY led,#[],0,_,qd _ hS,⟨rfl,rfl,rfl⟩,rfl,λe he=>by simp at he,λk=>by simp[rn],by show 0 < a2Z;omega,rfl,rfl⟩
  .intro s' mv Cd
   have(h',g',d',tk',ye):=s';cases(show g'=s.gens from mv.gens);cases(show d'=s.drawn from mv.drawn);cases(show ye=s.os from mv.os);refine qb<|qb ⟨rfl,h',tk',rfl,Cd,λb o e=>?_⟩;have V1:=qi e;refine mv.heap b o ?_<|qd _<|qd _ e;simp only[qw,ľ,or_false,not_or];rw[hsz];exact⟨qk V1,qk<|Ú V1⟩
end
def UJ(p:Qg)(n:Nat)(h:Ļ):Prop:=∃o es ep t,h.get? p=ž o/\o.ExactSet/\o.data=.set es ep t/\t.fits es.size=ż/\es.size=n
noncomputable def Dd(p:Qg)(n:Nat):HO:=.ext (UJ p n)
theorem Z0{p:Qg}(x:UJ p n h):zP P w K H h p (Dd p n):=by
 have(o,es,ep,t,h1,h2):=x;exact⟨⟨o,es,ep,t,h1,h2⟩,⟨o,h1⟩,λa b ⟨o,es,ep,t,z1,z2⟩ k=>⟨o,es,ep,t,k _ z1,z2⟩⟩
def Nu(K:qc):Qa V->Hp->VK->Prop:=λxs H Q=>∃(a:Qg) (ks:Qa Key),xs=[.ref a]/\cH K H a (ks.map kV)/\ks.length<=1000/\∀p,H p=Ž->Q (.ref p) (upd H p<|Dd p<|jt ks ks.length)
def Nt:Qa V->Hp->VK->Prop:=λxs H Q=>∃p n,xs=[.ref p]/\H p=ž (Dd p n)/\n<=1000/\Q (.int n) H
section
variable{X:Cx}
theorem zq9(K:qc)(hK:X.K=K)(hc:X.calm=ż):fV X (.type "set") (Nu K):=by
 subst hK;intro pins s σ H xs us Q I r h;have(a,ks,rfl,sq,hl,q):=h;have(u,rfl,ru):=r.one;cases(show u=Į a from ru);have(ah,rv,pl,hz):=I.tuple sq;have ll:=rv.length;rw[Ħ]at ll;refine zkK (ks:=ks) (I.ok.hd hc) pl (λi v e=>?_) (by simp[ll]) (by unfold a2Z;omega) λh' tk hS up=>?_
 .have e':ah[i]?=ž v:=by simpa using e
  have hi:i < ks.length:=by rw[ll];exact(qm.mp e').1
  have(u,e1,e2):=rv.get (i:=i) (x:=kV ks[i]) (by rw[ĭ,qo hi];rfl);rw[e']at e1;cases e1;refine⟨ks[i],qo hi,?_⟩;generalize ks[i]=k at e2;cases k with
  |inl n=>have(t,rfl):=e2;exact⟨RI n t,rfl⟩
  |inr z=>have(t,rfl):=e2;exact⟨RH z t,rfl⟩
 .have(o,es,ep,t,ho,hex,hd,_,_,_,hf,hn):=hS
  exact⟨.ref s.heap.objs.size,_,I.laid (t':=tk) up (qf _)<|Z0 ⟨o,es,ep,t,ho,hex,hd,hf,hn⟩,rfl,q _<|I.aw.fresh<|qf _⟩
theorem zra:fV X (.builtin "len") Nt:=by
 intro pins s σ H xs us Q I r h;have(p,n,rfl,hp,hn,q):=h;have(u,rfl,ru):=r.one;cases(show u=Į p from ru);obtain⟨⟨o,es,ep,t,ho,hex,hd,hf,rfl⟩,_⟩:=I.aw p _ hp;exact call_len_set ho hex hd hf (by omega) ⟨.int es.size,H,I.tok _,⟨_,rfl⟩,q⟩
def Ed:U->Qb U
 |.d (.tuple ds)=>(ds.mapM pJ).bind λks=>if ks.length<=1000 then ž (.d<|.int<|jt ks ks.length)else Ž
 |_=>Ž
theorem Rg:∀{us:Qa V} {ds:Qa D} {ks:Qa Key},aI K H us ds->ds.mapM pJ=ž ks->us=ks.map kV
 |_,_,ks,.nil,e=>by cases e;rfl
 |_,_,ks,.cons (d:=d) h t,e=>by
  rw[a0g]at e;have(y,e1,e):=bQ e;have(j8,e2,e):=bQ e;cases e;rw[Rg t e2];cases d with
  |int i=>cases e1;cases DF.int_inv h;rfl
  |str x=>cases e1;cases DF.str_inv h;rfl
  |_=>cases e1
theorem zs2{me:ME}(h:VE K te me):VE K (mF Nt<|j0 (mF (Nu K)<|j0 te jZ) jZ) (cX Ed me):=by
 intro ρ σ H a ai Q rs e q;obtain⟨⟨a1,ρ1⟩,e1,e⟩:=bQ e;have(x,ex,e):=bQ e;have(u,eu,e):=bQ e;cases e;refine h ρ σ H a1 _ _ rs e1 λv1 H1 g1 k1=>?_;have p:=k1.now rs g1 ex;unfold Ed at eu;split at eu
 .have(ks,ek,eu):=bQ eu
  split at eu
  .rename_i hl
   cases eu;have(b,ys,rfl,h1,h2):=DF.aD p;cases Rg h2 ek;refine⟨b,ks,rfl,(aJ.sq h1),hl,λpp hp=>⟨pp,_,rfl,zq,qA (IT ks _) hl,?_⟩⟩;have sm:dJ H1 (upd H1 pp<|Dd pp<|jt ks ks.length):=λb o hb=>by rw[zu<|lK hb hp];exact hb
   exact q _ _ (g1.trans<|Go.grow g1.rs sm) ⟨DF.int _,Nw.data⟩
  .cases eu
 .cases eu
theorem zs3{a b c:ĺ}{tc:TE}{pos:Pos}{kr:a2T}{r r':R2}(ho:bL X (Ň op) r)(eR:bL X (Ň kr) r')(ha:Wr (PE X a ta))(hb:Wr (PE X b tb))(hc:Wr (PE X c tc))(hm:autoParam (a4G [op,kr] [b,c]=Ż) ć):
  Wr (PT X (.Compare a [op,kr] [b,c] pos)<|yV<|Ah r r' ta tb tc):=⟨zrR ho eR ha.run hb.run hc.run hm⟩
def OQ(K:qc):R2:=λx y H Q=>HC K x y H Q\/∃a b,x=.ref a/\y=.ref b/\cH K H a []/\(∃ys,cH K H b ys)/\Q y H
end
section
variable{X:Cx}
theorem ZZ{s:Qd}{t:Qg}{ws:Qa Qc}(ht:a1R s.heap t #[])(hb:a1R s.heap b ws.toArray)(h:Q (.ref b) s):ĩ (Ĭ prog w) A (ϊ .Add (.ref t)<|.ref b) Q E s:=by
 obtain⟨⟨c1,d1,o1,s1⟩,h1,z1,n1,y1⟩:=id ht;obtain⟨⟨c2,d2,o2,s2⟩,h2,z2,n2,y2⟩:=id hb;cases(show c1=_ from z1);cases(show c2=_ from z2);cases(show o1=_ from y1);cases(show o2=_ from y2);have mt:=tuple_addW0 t b #[] ws.toArray n1 n2 d1 d2 s1 s2 rfl;exact a2M ⟨_,h1,rfl⟩ ⟨_,h2,rfl⟩ a3a a4o a0I a0z (a0p _ _) mt ⟨h1,h2,h⟩
theorem Ex(hK:autoParam (X.K=K) ć):bL X (ϊ .Add) (OQ K):=by
 subst hK;intro pins s σ H x y v u Q I rx ry h;rcases h with h|⟨a,b,rfl,rfl,ha,⟨ys,hb⟩,q⟩
 .exact zv9 pins s σ H x y v u Q I rx ry h
 .cases rx
  cases ry;have(ah,r1,p1,_):=I.tuple ha;have(i3,r2,p2,_):=I.tuple hb;cases r1;exact ZZ p1 p2 ⟨.ref b,H,I,rfl,q⟩
def rJ:U->U->Qb U
 |.d (.tuple []),.d (.tuple ys)=>ž<|.d<|.tuple ys
 |a,b=>y6 a b
theorem Ew:VO K (OQ K) rJ:=by
 intro x y a b u H Q ha hb e q;unfold rJ at e;split at e
 .cases e
  have(p,us,rfl,h1,h2):=DF.aD ha;have(p',g9,rfl,kI,mY):=DF.aD hb;cases h2;exact .inr ⟨p,p',rfl,rfl,(aJ.sq h1),⟨g9,(aJ.sq kI)⟩,q _ _ (dJ.refl H) hb Nw.data⟩
 .exact .inl (zwC x y _ _ u H Q ha hb e q)
end
def pC(K:qc)(g:Qg)(ns:Qa Int):Prop:=∃(o:Obj) (ah:Array Qc) (n:Nat),K.lookup g=ž o/\o.cls=.type "tuple"/\o.data=.seq ah n/\ah.size<=ħ/\zJ (ns.map V.int) ah.toList
theorem nr{α:Sort _}{a b:α}(h:a=b):a=b:=h
structure Ph {α:Type} (a:α):Type where
 n:Nat
def Wo(o:Qb α)(Q:α->Prop):Prop:=∃a,o=ž a/\Q a
def Co(f:α->Qb β)(t:Ph f)(Q:β->Prop)(a:α):Prop:=Wo (f a) Q
section
variable{a:α}{o:Qb α}{f:α->Qb β}{Q:α->Prop}{R:β->Prop}
theorem zZ:Wo (ž a) Q=Q a:=propext ⟨λ⟨_,e,h⟩=>(by cases e;exact h),λh=>⟨a,rfl,h⟩⟩
theorem zn:Wo (o.bind f) R=Wo o (Co f ⟨0⟩ R):=propext (by
 cases o with
 |none=>exact⟨λ⟨_,e,_⟩=>(by cases e),λ⟨_,e,_⟩=>(by cases e)⟩
 |some a=>rw[zZ];exact Iff.rfl)
theorem lA{t:Ph f}:Co f t R a=Wo (f a) R:=rfl
theorem Wo.mono(h:Wo o Q){Q':α->Prop}(k:∀a,Q a->Q' a):Wo o Q':=h.elim λa z=>⟨a,z.1,k a z.2⟩
theorem tz{c:Prop}[Decidable c]{x y:Qb α}(h:c->Wo x Q)(h':¬c->Wo y Q):Wo (if c then x else y) Q:=by
 split
 .exact h ‹_›
 .exact h' ‹_›
end
section
variable{ρ:En}{me ma mb mc mk mi md my mv mo:ME}{mA mK:MA}{mt mu:MT}{mI:MI}{mg:MG}{m1 m2:MS}{u:U}{x:D}{mx:MX}{mXA:MR}
variable{QE:Ar×En->Prop}{QA:Qa Ar×En->Prop}{QT:Bool×En->Prop}{QS:Fl->Prop}{QI:Qa D×En->Prop}{QO:Qb Int×En->Prop}{QG:En->Prop}{QX:RX Ar->Prop}{QXA:RX (Qa Ar)->Prop}{QR:D×En->Prop}{QF:U×Qa U->Prop}{MQ:(U×Qa U) ⊕ (D×Qa U)->Prop}
theorem Qi:Wo (zi i ρ) QE=Wo (ρ[i]?).join (Co (λ_=>ž (.s i,ρ)) ⟨0⟩ QE):=by rw[zAO,zn]
theorem U9:Wo (mC x ρ) QE=QE (.u<|.d x,ρ):=by rw[zE5,zZ]
def Dc(f:U->U->Qb U)(a:Ar)(q:Ar×En):Qb (Ar×En):=(a.get q.2).bind λx=>(q.1.get q.2).bind λy=>(f x y).bind λu=>ž (.u u,q.2)
def LL(f:U->U->Qb U)(mb:ME)(p:Ar×En):Qb (Ar×En):=(mb p.2).bind (Dc f p.1)
theorem Ya{f:U->U->Qb U}:Wo (ao f ma mb ρ) QE=Wo (ma ρ) (Co (LL f mb) ⟨0⟩ QE):=by rw[zDe,zn];rfl
theorem zs6{f:U->U->Qb U}{p:Ar×En}:Wo (LL f mb p) QE=Wo (mb p.2) (Co (Dc f p.1) ⟨0⟩ QE):=by unfold LL;rw[zn]
theorem zDP{f:U->Qb U}:Wo (cX f ma ρ) QE=Wo (ma ρ) (Co (λp=>(p.1.get p.2).bind λx=>(f x).bind λu=>ž (.u u,p.2)) ⟨0⟩ QE):=by rw[zDf,zn]
theorem X9{g:Str->Bool}:Wo (Bg g ma ρ) QE=Wo (cX (FZ g) ma ρ) QE:=rfl
theorem P9:Wo (zp ρ) QA=QA ([],ρ):=by rw[zAP,zZ]
theorem ZY:Wo (ze me mA ρ) QA=Wo (me ρ) (Co (λp=>(mA p.2).bind λq=>ž (p.1::q.1,q.2)) ⟨0⟩ QA):=by rw[zwF,zn]
theorem zs7:Wo (bM mA ρ) QE=Wo (mA ρ) (Co (λp=>(bJ p.2 p.1).bind λus=>(l9 us).bind λds=>if ds.length<=ħ then ž (.u<|.d<|.tuple ds,p.2)else Ž) ⟨0⟩ QE):=by rw[zAQ,zn]
theorem zs8:Wo (fe mA ρ) QE=Wo (mA ρ) (Co (λp=>(bJ p.2 p.1).bind λus=>(l9 us).bind λds=>if ds.length<=ħ then ž (.u<|.l ds,p.2)else Ž) ⟨0⟩ QE):=by rw[zAR,zn]
theorem zDQ{f:Qa U->Qb U}:Wo (bK f mA ρ) QE=Wo (mA ρ) (Co (λp=>(bJ p.2 p.1).bind λus=>(f us).bind λu=>ž (.u u,p.2)) ⟨0⟩ QE):=by rw[zDg,zn]
theorem zBh{f:FD}:Wo (aO f mA ρ) QE=Wo (mA ρ) (Co (λp=>if gY p.2 p.1=ż then(bJ p.2 p.1).bind λus=>(f us).bind λo=>ž (.u o.1,wb p.2 p.1 o.2)else Ž) ⟨0⟩ QE):=by rw[zAS,zn]
theorem zs9:Wo (zC m1 m2 ρ) QS=Wo (m1 ρ) (Co (nV m2) ⟨0⟩ QS):=by rw[zAU,zn]
theorem zBi:Wo (aV i me ρ) QS=Wo (me ρ) (Co (λp=>(put p).bind λq=>ž<|.nx<|q.2.set i<|some q.1) ⟨0⟩ QS):=by rw[zAV,zn]
theorem zta:Wo (aS me ρ) QS=Wo (me ρ) (Co (λp=>(put p).bind λq=>ž<|.rt q.1 q.2) ⟨0⟩ QS):=by rw[zAW,zn]
theorem zpo:Wo (nY pn i ρ) QS=Wo (if i∈pn then Ž else(ρ[i]?).join.bind λu=>ž<|.rt u<|ρ.set i Ž) QS:=by rw[zwG]
theorem Rm:Wo (cF ρ) QS=QS (.nx ρ):=by rw[zwH,zZ]
theorem ZX:Wo (jc me ρ) QS=Wo (me ρ) (Co (λp=>ž<|.nx p.2) ⟨0⟩ QS):=by rw[O8,zn]
theorem zBj:Wo (bV mt m1 m2 ρ) QS=Wo (mt ρ) (Co (λp=>if p.1=ż then m1 p.2 else m2 p.2) ⟨0⟩ QS):=by rw[zAX,zn]
theorem ztb:Wo (vU mt ma mb ρ) QE=Wo (mt ρ) (Co (λp=>if p.1=ż then ma p.2 else mb p.2) ⟨0⟩ QE):=by rw[zDj,zn]
theorem zFb:Wo (mB me ρ) QT=Wo (me ρ) (Co (λp=>(p.1.get p.2).bind λu=>u.wH.bind λb=>ž (b,p.2)) ⟨0⟩ QT):=by rw[zE6,zn]
theorem ztc:Wo (w9 mt mu ρ) QT=Wo (mt ρ) (Co (λp=>if p.1=ż then mu p.2 else ž (Ż,p.2)) ⟨0⟩ QT):=by rw[zAY,zn]
theorem YO:Wo (iY mt mu ρ) QT=Wo (mt ρ) (Co (λp=>if p.1=ż then ž (ż,p.2)else mu p.2) ⟨0⟩ QT):=by rw[zDk,zn]
theorem ztd:Wo (jo mt ρ) QT=Wo (mt ρ) (Co (λp=>ž (!p.1,p.2)) ⟨0⟩ QT):=by rw[zAZ,zn]
theorem zpp:Wo (lB ma mb ρ) QE=Wo (mB ma ρ) (Co (λp=>if p.1=ż then mb p.2 else ž (.u<|.d<|.bool Ż,p.2)) ⟨0⟩ QE):=by rw[Z9,zn]
theorem zpq:Wo (DH ma ρ) QE=Wo (mB ma ρ) (Co (λp=>ž (.u<|.d<|.bool (!p.1),p.2)) ⟨0⟩ QE):=by rw[Z8,zn]
theorem zte:Wo (w6 ma ρ) QT=Wo (ma ρ) (Co (λp=>(p.1.get p.2).bind λu=>u.rR.bind λb=>ž (b,p.2)) ⟨0⟩ QT):=by rw[zA0,zn]
theorem ztf:Wo (nW ρ) QT=QT (ż,ρ):=by rw[zA1,zZ]
theorem ztg:Wo (lW i me ρ) QE=Wo (ρ[i]?).join (Co (λw=>w.lo.bind λ_=>(me ρ).bind λp=>(p.1.get p.2).bind λu=>u.da.bind λx=>(p.2[i]?).join.bind λw=>w.lo.bind λxs=>if xs.length < ħ then ž (.u<|.d .none,p.2.set i<|some<|.l<|xs++[x])else Ž) ⟨0⟩ QE):=by rw[zA2,zn]
theorem zl2:Wo (pZ i me mi ρ) QS=Wo (ρ[i]?).join (Co (λ_=>(me ρ).bind λp=>(mi p.2).bind λq=>(p.1.get q.2).bind λu=>(q.1.get q.2).bind λw=>u.da.bind λx=>w.num.bind λk=>(q.2[i]?).join.bind λz=>z.lo.bind λxs=>(dM xs.length k).bind λj=>ž<|.nx<|q.2.set i<|some<|.l<|xs.set j x) ⟨0⟩ QS):=by rw[zsL,zn]
def Dy(w:U)(y x:D):Qb U:=match w with
 |.t kvs=>(cW y).bind λk=>if kvs.length < ħ then ž (.t<|eC kvs k x)else Ž
 |.k kvs=>(pJ y).bind λk=>if kvs.length < ħ then ž (.k<|eC kvs k x)else Ž
 |_=>Ž
theorem ZW:pP i my mv ρ=(ρ[i]?).join.bind λ_=>(mv ρ).bind λp=>(my p.2).bind λq=>(p.1.get q.2).bind λx=>(q.1.get q.2).bind λy=>x.da.bind λx=>y.da.bind λy=>(q.2[i]?).join.bind λw=>(Dy w y x).bind λz=>ž (.nx<|q.2.set i<|some z):=by
 unfold pP;refine bind_fn λ_=>bind_fn λp=>bind_fn λq=>bind_fn λx=>bind_fn λy=>?_;cases x with
 |l=>rfl
 |t=>rfl
 |k=>rfl
 |o=>rfl
 |d x=>
  cases y with
  |l=>rfl
  |t=>rfl
  |k=>rfl
  |o=>rfl
  |d y=>
   show _=((q.2[i]?).join.bind _);cases q.2[i]? with
   |none=>rfl
   |some o=>
    cases o with
    |none=>rfl
    |some w=>
     cases w with
     |l=>rfl
     |d=>rfl
     |o=>rfl
     |t kvs=>
      show(cW y).bind _=((cW y).bind _).bind _;cases cW y with
      |none=>rfl
      |some k=>
       show(if _ then _ else _)=(if _ then _ else _:Qb U).bind _;split<;>rfl
     |k kvs=>
      show(pJ y).bind _=((pJ y).bind _).bind _;cases pJ y with
      |none=>rfl
      |some k=>
       show(if _ then _ else _)=(if _ then _ else _:Qb U).bind _;split<;>rfl
theorem zps:Wo (pP i my mv ρ) QS=Wo (ρ[i]?).join (Co (λ_=>(mv ρ).bind λp=>(my p.2).bind λq=>(p.1.get q.2).bind λx=>(q.1.get q.2).bind λy=>x.da.bind λx=>y.da.bind λy=>(q.2[i]?).join.bind λw=>(Dy w y x).bind λz=>ž<|.nx<|q.2.set i<|some z) ⟨0⟩ QS):=by rw[ZW,zn]
theorem zpt:Wo (iL md my ρ) QE=Wo (md ρ) (Co (λp=>(my p.2).bind λq=>(p.1.get q.2).bind λu=>(q.1.get q.2).bind λy=>(k9 u y).bind λo=>o.bind λd=>ž (.u<|.d d,q.2)) ⟨0⟩ QE):=by rw[Z7,zn]
theorem zth{neg:Bool}:Wo (w5 neg my md ρ) QE=Wo (my ρ) (Co (λq=>(md q.2).bind λp=>(p.1.get p.2).bind λu=>(q.1.get p.2).bind λy=>(k9 u y).bind λo=>ž (.u<|.d<|.bool (if neg=ż then !o.isSome else o.isSome),p.2)) ⟨0⟩ QE):=by rw[zA3,zn]
theorem zl3:Wo (tN ρ) QE=QE (.u<|.t [],ρ):=by rw[zsM,zZ]
theorem zl4:Wo (Ia ρ) QE=QE (.u<|.k [],ρ):=by show Wo (ž _) QE=_;rw[zZ]
theorem YN:Wo (dh me ρ) QE=Wo (me ρ) (Co (λp=>(p.1.get p.2).bind λu=>u.fz.bind λx=>ž (.u<|.d x,FE x p)) ⟨0⟩ QE):=by rw[zDn,zn]
theorem YM{g:U->Qb (Qa D)}:Wo (dg g me ρ) QI=Wo (me ρ) (Co (λp=>(p.1.get p.2).bind λu=>(g u).bind λds=>ž (ds,p.2)) ⟨0⟩ QI):=by rw[zDr,zn]
theorem YL{n:Int}(h:-4611686018427387904<=n)(h2:n < 4611686018427387904):Df [.d<|.int n]=ž (jR 0 n.toNat):=by rw[zA4,a5E ⟨by omega,by omega⟩]
theorem zpu:Wo (pQ mA ρ) QI=Wo (mA ρ) (Co (λp=>(bJ p.2 p.1).bind λus=>(Df us).bind λds=>ž (ds,p.2)) ⟨0⟩ QI):=by rw[Z6,zn]
def zFp:Qa U->Qb (Qa D)
 |[.d<|.int i,.d<|.int j]=>if -(2^62)<=i/\i < 2^62/\-(2^62)<=j/\j < 2^62 then ž (jR i (j - i).toNat)else Ž
 |_=>Ž
def GV:Qa U->Qb (Qa D)
 |[.d<|.tuple ds]=>ž<|oB 0 ds
 |_=>Ž
theorem zpv{ds:Qa D}:GV [.d<|.tuple ds]=ž (oB 0 ds):=rfl
theorem zw0:uV mA ρ=(mA ρ).bind λp=>(bJ p.2 p.1).bind λus=>(GV us).bind λds=>ž (ds,p.2):=bind_fn λp=>bind_fn λus=>by
 match us with
 |[]=>rfl
 |[.d x]=>cases x<;>rfl
 |[.l _]=>rfl
 |[.t _]=>rfl
 |[.k _]=>rfl
 |[.o _ _]=>rfl
 |.d x::b::us=>cases x<;>rfl
 |.l x::b::us=>rfl
 |.t x::b::us=>rfl
 |.k x::b::us=>rfl
 |.o x y::b::us=>rfl
theorem zpw:Wo (uV mA ρ) QI=Wo (mA ρ) (Co (λp=>(bJ p.2 p.1).bind λus=>(GV us).bind λds=>ž (ds,p.2)) ⟨0⟩ QI):=by rw[zw0,zn]
theorem ztj:Wo (dU mI mg m1 ρ) QS=Wo (mI ρ) (Co (λp=>iM mg m1 p.1 p.2) ⟨0⟩ QS):=by rw[zA5,zn]
theorem ztk:Wo (jj mI nt js mg mt me ρ) QE=Wo (mI ρ) (Co (λp=>(kD nt mg mt me p.1 (e9 nt js p.2) []).bind λq=>ž (.u<|.l q.1,back js (q.2.drop nt) p.2)) ⟨0⟩ QE):=by rw[zDs,zn]
theorem YK{f:U->Qb Int->Qb Int->Qb U}{ml mh:MO}:Wo (Bf f me ml mh ρ) QE=Wo (me ρ) (Co (λp=>(ml p.2).bind λl=>(mh l.2).bind λh=>(p.1.get h.2).bind λx=>(f x l.1 h.1).bind λu=>ž (.u u,h.2)) ⟨0⟩ QE):=by rw[zDt,zn]
theorem zjX:Wo (Au ρ) QO=QO (Ž,ρ):=by rw[zq7,zZ]
theorem zpx:Wo (y7 me ρ) QO=Wo (me ρ) (Co (λp=>(p.1.get p.2).bind λu=>u.num.bind λi=>ž (ž i,p.2)) ⟨0⟩ QO):=by rw[Z5,zn]
theorem ztl:Wo (yP i j mA ρ) QS=Wo (mA ρ) (Co (λp=>(bJ p.2 p.1).bind λus=>(KH us).bind λz=>ž<|.nx<|(p.2.set i<|some<|.d z.1).set j<|some<|.d z.2) ⟨0⟩ QS):=by rw[zA7,zn]
theorem ztm:Wo (rC me mg ρ) QS=Wo (me ρ) (Co (λp=>(p.1.get p.2).bind λu=>u.da.bind λd=>(mg d p.2).bind λai=>ž<|.nx ai) ⟨0⟩ QS):=by rw[zA8,zn]
theorem zl5:Wo (zx i x ρ) QG=QG (ρ.set i<|some<|.d x):=by rw[zsQ,zZ]
theorem zpy{gs:Qa D->En->Qb En}{ds:Qa D}:Wo (eI n gs (.tuple ds) ρ) QG=Wo (if ds.length=n then gs ds ρ else Ž) QG:=by rw[Z4]
theorem zl6{g:MG}{gs:Qa D->En->Qb En}{ds:Qa D}:Wo (zI g gs (x::ds) ρ) QG=Wo (g x ρ) (Co (λρ1=>gs ds ρ1) ⟨0⟩ QG):=by rw[zsR,zn]
theorem zpz:Wo (fq [] ρ) QG=QG ρ:=by rw[Z3,zZ]
theorem ztn{f f':U->U->Qb U}:Am f f' ma mb mc ρ=(ma ρ).bind λp=>(mb p.2).bind λq=>(p.1.get q.2).bind λx=>(q.1.get q.2).bind λy=>(f x y).bind λr=>r.wH.bind λb=>if b=ż then(mc q.2).bind λs=>(q.1.get s.2).bind λy'=>(s.1.get s.2).bind λz=>(f' y' z).bind λu=>ž (.u u,s.2)else ž (.u<|.d<|.bool Ż,q.2):=by
 refine bind_fn λp=>bind_fn λq=>bind_fn λx=>bind_fn λy=>bind_fn λr=>?_;cases r with
 |d x=>cases x with
  |bool b=>cases b<;>rfl
  |_=>rfl
 |l=>rfl
 |t=>rfl
 |k=>rfl
 |o=>rfl
theorem zl7{f f':U->U->Qb U}:Wo (Am f f' ma mb mc ρ) QE=Wo (ma ρ) (Co (λp=>(mb p.2).bind λq=>(p.1.get q.2).bind λx=>(q.1.get q.2).bind λy=>(f x y).bind λr=>r.wH.bind λb=>if b=ż then(mc q.2).bind λs=>(q.1.get s.2).bind λy'=>(s.1.get s.2).bind λz=>(f' y' z).bind λu=>ž (.u u,s.2)else ž (.u<|.d<|.bool Ż,q.2)) ⟨0⟩ QE):=by rw[ztn,zn]
def x1:Qa D->Qb D
 |[x]=>ž x
 |_=>Ž
theorem zto{n:Str}:Wo (zE8 n ρ) QR=QR (.dict [(.none,.str n)],ρ):=by show Wo (ž _) QR=_;rw[zZ]
theorem zl8{m:En->Qb (D×En)}:Wo (zBd m ρ) QS=Wo (m ρ) (Co (λp=>ž<|.ex p.1 p.2) ⟨0⟩ QS):=by show Wo (ō _ _) QS=_;rw[zn]
theorem zpA{f:FX}:Wo (zDL f mA ρ) QX=Wo (mA ρ) (Co (λp=>if gY p.2 p.1=ż then(bJ p.2 p.1).bind λus=>(f us).bind λo=>ž (UL p.2 p.1 o)else Ž) ⟨0⟩ QX):=by show Wo (ō _ _) QX=_;rw[zn]
noncomputable def kX{α β:Type}(f:α×En->Qb β)(g:D×En->Qb β):RX α->Qb β
 |.inl p=>f p
 |.inr z=>g z
theorem zBk{m:En->Qb (RX α)}:Bk m ρ=(m ρ).bind (kX ž λ_=>Ž):=bind_fn λr=>by cases r<;>rfl
theorem ztp{m:En->Qb (RX α)}{Q:α×En->Prop}:Wo (Bk m ρ) Q=Wo (m ρ) (Co (kX ž λ_=>Ž) ⟨0⟩ Q):=by rw[zBk,zn]
theorem zw1{mS:ME->MS}{k:Ar×En->Qb Fl}(h:∀me:ME,mS me ρ=(me ρ).bind k):J6 mS mx ρ=(mx ρ).bind (kX k λz=>ž<|.ex z.1 z.2):=by
 unfold J6;rw[h<|Bk mx];unfold Bk;cases mx ρ with
 |none=>rfl
 |some r=>cases r<;>rfl
theorem zl9:Wo (J6 jc mx ρ) QS=Wo (mx ρ) (Co (kX (λp=>ž<|.nx p.2) λz=>ž<|.ex z.1 z.2) ⟨0⟩ QS):=by rw[zw1 λ_=>O8,zn]
theorem ztq{us:Qa U}:Wo (bA n pn m1 us) QF=Wo (m1<|sm us++Ĩ (n - us.length) Ž) (Co (De pn us) ⟨0⟩ QF):=by rw[zBa,zn]
theorem zpB{us:Qa U}:Wo (zE9 n pn m1 us) MQ=Wo (m1<|sm us++Ĩ (n - us.length) Ž) (Co (Nv pn us) ⟨0⟩ MQ):=by
 show Wo (ō _ _) MQ=_;exact zn
def tw(Q:Fl->Prop)(P:En->Prop):Fl->Prop
 |.nx ρ=>P ρ
 |.ct ρ=>P ρ
 |.bk ρ=>Q<|.nx ρ
 |.rt u ρ=>Q<|.rt u ρ
 |.ex x ρ=>Q<|.ex x ρ
theorem zma{Q:Fl->Prop}{P:En->Prop}:tw Q P (.nx ρ)=P ρ:=rfl
theorem zmb{Q:Fl->Prop}{P:En->Prop}:tw Q P (.rt u ρ)=Q (.rt u ρ):=rfl
theorem xM{Q:Fl->Prop}(P:Nat->En->Prop){ds:Qa D}(h0:P 0 ρ)(st:∀i d ρ,ds[i]?=ž d->P i ρ->Wo (mg d ρ) (Co m1 ⟨0⟩<|tw Q<|P<|i+1))(hQ:∀ρ,P ds.length ρ->Q (.nx ρ)):Wo (iM mg m1 ds ρ) Q:=by
 have main:∀(es:Qa D) (n:Nat) (ρ:En),n+es.length=ds.length->(∀i,es[i]?=ds[n+i]?)->P n ρ->Wo (iM mg m1 es ρ) Q:=by
  intro es
  induction es with
  |nil=>
   intro n ρ hn _ hp;show Wo (ž _) Q;rw[zZ];rw[š,Ν]at hn;exact hQ ρ<|hn▸hp
  |cons d es ih=>
   intro n ρ hn he hp;have e0:=he 0;rw[Ε,Ν]at e0;have(ρ1,e1,f,e2,k):=st n d ρ e0.symm hp;have oR:∀au,P (n+1) au->Wo (iM mg m1 es au) Q:=λau z=>ih (n+1) au (by rw[qv]at hn;omega) (λi=>by
    have:=he (i+1);rw[a3t]at this;rw[this,show n+(i+1)=n+1+i by omega]) z
   unfold iM;rw[zn];refine⟨ρ1,e1,?_⟩;rw[lA,zn];refine⟨f,e2,?_⟩;rw[lA];cases f with
   |nx au=>exact oR au k
   |ct au=>exact oR au k
   |bk au=>exact⟨_,rfl,k⟩
   |rt u au=>exact⟨_,rfl,k⟩
   |ex x au=>exact⟨_,rfl,k⟩
 exact main ds 0 ρ (by omega) (λi=>by rw[Ţ]) h0
theorem j7{g:α->D}{Q:Fl->Prop}(P:Qa α->Qa α->En->Prop)(h0:P [] as ρ)(st:∀bs a cs ρ,as=bs++a::cs->P bs (a::cs) ρ->Wo (mg (g a) ρ) (Co m1 ⟨0⟩<|tw Q<|P (bs++[a]) cs))(hQ:∀ρ,P as [] ρ->Q (.nx ρ)):Wo (iM mg m1 (as.map g) ρ) Q:=by
 have main:∀(cs bs:Qa α) (ρ:En),as=bs++cs->P bs cs ρ->Wo (iM mg m1 (cs.map g) ρ) Q:=by
  intro cs
  induction cs with
  |nil=>
   intro bs ρ e hp;rw[ń]at e;subst e;exact⟨_,rfl,hQ ρ hp⟩
  |cons a cs ih=>
   intro bs ρ e hp;have(ρ1,e1,f,e2,k):=st bs a cs ρ e hp;have oR:∀au,P (bs++[a]) cs au->Wo (iM mg m1 (cs.map g) au) Q:=λau z=>ih (bs++[a]) au (by rw[e,ĸ];rfl) z;rw[Ī];unfold iM;rw[zn];refine⟨ρ1,e1,?_⟩;rw[lA,zn];refine⟨f,e2,?_⟩;rw[lA];cases f with
   |nx au=>exact oR au k
   |ct au=>exact oR au k
   |bk au=>exact⟨_,rfl,k⟩
   |rt u au=>exact⟨_,rfl,k⟩
   |ex x au=>exact⟨_,rfl,k⟩
 exact main as [] ρ rfl h0
def ym(nt:Nat)(me:ME)(ys:Qa D)(P:En->Qa D->Prop)(p:Bool×En):Prop:=if p.1=ż then Wo (me p.2) (Co (λq=>(q.1.get q.2).bind λu=>u.da.bind λy=>ž (reset nt q.2,ys++[y])) ⟨0⟩ λz=>P z.1 z.2)else P (reset nt p.2) ys
theorem YJ{ys:Qa D}{P:En->Qa D->Prop}:ym nt me ys P (ż,ρ)=Wo (me ρ) (Co (λq=>(q.1.get q.2).bind λu=>u.da.bind λy=>ž (reset nt q.2,ys++[y])) ⟨0⟩ λz=>P z.1 z.2):=rfl
theorem YI{ys:Qa D}{P:En->Qa D->Prop}:ym nt me ys P (Ż,ρ)=P (reset nt ρ) ys:=rfl
theorem DC{Q:Qa D×En->Prop}(P:Nat->En->Qa D->Prop){ds:Qa D}(hz:ds.length<=ħ)(hP:∀i ρ ys,P i ρ ys->ys.length<=i)(h0:P 0 ρ [])(st:∀i d ρ ys,ds[i]?=ž d->P i ρ ys->Wo (mg d ρ) (Co mt ⟨0⟩<|ym nt me ys<|P<|i+1))(hQ:∀ρ ys,P ds.length ρ ys->Q (ys,ρ)):Wo (kD nt mg mt me ds ρ []) Q:=by
 have main:∀(es:Qa D) (n:Nat) (ρ:En) (ys:Qa D),n+es.length=ds.length->(∀i,es[i]?=ds[n+i]?)->P n ρ ys->Wo (kD nt mg mt me es ρ ys) Q:=by
  intro es
  induction es with
  |nil=>
   intro n ρ ys hn _ hp;rw[š,Ν]at hn;exact⟨_,rfl,hQ ρ ys<|hn▸hp⟩
  |cons d es ih=>
   intro n ρ ys hn he hp;have e0:=he 0;rw[Ε,Ν]at e0;obtain⟨ρ1,e1,⟨b,au⟩,e2,k⟩:=st n d ρ ys e0.symm hp;have hl:=hP _ _ _ hp;rw[qv]at hn;have oR:∀au Fc,P (n+1) au Fc->Wo (kD nt mg mt me es au Fc) Q:=λau Fc z=>ih (n+1) au Fc (by omega) (λi=>by
    have:=he (i+1);rw[a3t]at this;rw[this,show n+(i+1)=n+1+i by omega]) z
   unfold kD;rw[a5E (by omega),zn];refine⟨ρ1,e1,?_⟩;rw[lA,zn];refine⟨_,e2,?_⟩;rw[lA];cases b with
   |false=>rw[a5F qg];exact oR _ _ k
   |true=>
    rw[a5E rfl,zn];have(q,e3,k):=k;refine⟨q,e3,?_⟩;rw[lA,zn]at k ⊢;have(u,e4,k):=k;refine⟨u,e4,?_⟩;rw[lA,zn]at k;have(y,e5,z,e6,k):=k;cases u with
    |d y'=>cases e5;cases e6;exact oR _ _ k
    |l=>cases e5
    |t=>cases e5
    |k=>cases e5
    |o=>cases e5
 exact main ds 0 ρ [] (by omega) (λi=>by rw[Ţ]) h0
theorem Qw{Q:Fl->Prop}(P:Nat->En->Prop)(k:Nat)(h0:P k ρ)(st:∀k ρ,P k ρ->Wo (mt ρ) λp=>if p.1=ż then Wo (m1 p.2) (tw Q λai=>∃k',k' < k/\P k' ai)else Q (.nx p.2)):Wo (ve mt m1 ρ) Q:=by
 have main:∀(k:Nat) (ρ:En),P k ρ->∃n f,ju mt m1 n ρ=ž f/\Q f:=by
  intro k
  induction k using Nat.strongRecOn with
  |ind k ih=>
   intro ρ hp;obtain⟨⟨b,ρ1⟩,e1,z⟩:=st k ρ hp;cases b with
   |false=>
    rw[a5F qg]at z;exact⟨1,_,by unfold ju;rw[e1];rfl,z⟩
   |true=>
    rw[a5E rfl]at z;have(f,e2,z):=z;have oR:∀au,(∃k',k' < k/\P k' au)->f=.nx au\/f=.ct au->∃n f,ju mt m1 n ρ=ž f/\Q f:=by
     rintro au ⟨k',hk,uu⟩ hf;have(n,f',e3,q):=ih k' hk au uu;refine⟨n+1,f',?_,q⟩;unfold ju;rw[e1,bd,a5E rfl,e2,bd];rcases hf with rfl|rfl<;>exact e3
    cases f with
    |nx au=>exact oR au z<|.inl rfl
    |ct au=>exact oR au z<|.inr rfl
    |bk au=>exact⟨1,_,by unfold ju;rw[e1,bd,a5E rfl,e2];rfl,z⟩
    |rt u au=>exact⟨1,_,by unfold ju;rw[e1,bd,a5E rfl,e2];rfl,z⟩
    |ex u au=>exact⟨1,_,by unfold ju;rw[e1,bd,a5E rfl,e2];rfl,z⟩
 have(n,f,e,q):=main k ρ h0;exact⟨f,zsB e,q⟩
end
theorem iB{o:Qb α}{b:α}(h:Wo o (λa=>a=b)):o=ž b:=by
 have(a,e,rfl):=h;exact e
theorem xf:ħ=16777216:=Eq.trans zl (Eq.symm<|Eq.symm<|Ν _)
theorem ztr{dc:Decidable (n < 16777216)}{a b:Qb α}(h:n < 16777216):(if n < 16777216 then a else b)=a:=a5E h
theorem ND{lo:Int}{d:D}(h:(jR lo n)[i]?=ž d):i < n/\d=.int (lo+(i:Nat)):=Rv h
theorem Ir{lo:Int}:(jR lo n).length=n:=by
 unfold jR;rw[Ħ,a4Z]
theorem yR{ρ:En}{mg:MG}{m1:MS}{Q:Fl->Prop}(P:Nat->En->Prop)(h0:P 0 ρ)(st:∀i ρ,i < n->P i ρ->Wo (mg (.int<|0+(i:Nat)) ρ) (Co m1 ⟨0⟩<|tw Q<|P<|i+1))(hQ:∀ρ,P n ρ->Q (.nx ρ)):Wo (iM mg m1 (jR 0 n) ρ) Q :=
 xM P h0 (λi d ρ hd hp=>by
  have(hi,rfl):=ND hd;exact st i ρ hi hp) λρ hp=>hQ ρ (by rw[Ir]at hp;exact hp)
theorem Pl{ρ:En}{mg:MG}{mt:MT}{me:ME}{Q:Qa D×En->Prop}(P:Nat->En->Qa D->Prop)(hz:n<=ħ)(h0:P 0 ρ [])(hP:∀i ρ ys,P i ρ ys->ys.length<=i)(st:∀i ρ ys,i < n->P i ρ ys->Wo (mg (.int<|0+(i:Nat)) ρ) (Co mt ⟨0⟩<|ym nt me ys<|P<|i+1))(hQ:∀ρ ys,P n ρ ys->Q (ys,ρ)):Wo (kD nt mg mt me (jR 0 n) ρ []) Q :=
 DC P (by rw[Ir];exact hz) hP h0 (λi d ρ ys hd hp=>by
  have(hi,rfl):=ND hd;exact st i ρ ys hi hp) λρ ys hp=>hQ ρ ys (by rw[Ir]at hp;exact hp)
def kZ(n:Nat)(z:Str):Prop:=z.length<=n/\∀c∈z.cps.toList,c < 128
theorem zts{xs:Qa D}{lo hi:Qb Int}:Di (.d<|.tuple xs) lo hi=ž (.d<|.tuple<|lV xs lo hi):=rfl
theorem Rl{xs ys:Qa D}(h:xs.length+ys.length<=16777216):rJ (.d<|.tuple xs) (.d<|.tuple ys)=ž (.d<|.tuple<|xs++ys):=by
 cases xs with
 |nil=>rfl
 |cons x xs=>
  show y6 (.d<|.tuple<|x::xs) (.d<|.tuple ys)=_;unfold y6;dsimp only;rw[a5E ⟨by simp,by rw[zl];exact h⟩]
theorem zpE{z:Str}(h:z.length<=16777216):xj (.d<|.str z)=ž (.d<|.int z.length):=by
 unfold xj;dsimp only;rw[a5E (by rw[zl];exact h)]
theorem YH{i:Int}:iK "int" (.d<|.int i)=ž (.d<|.bool ż):=rfl
theorem YG{i:Int}:iK "bool" (.d<|.int i)=ž (.d<|.bool Ż):=rfl
theorem YF{z:Str}:iK "str" (.d<|.str z)=ž (.d<|.bool ż):=rfl
theorem YE{xs:Qa D}:iK "tuple" (.d<|.tuple xs)=ž (.d<|.bool ż):=rfl
theorem YD{g:Str->Bool}{z:Str}:FZ g (.d<|.str z)=ž (.d<|.bool<|g z):=rfl
theorem ztt{a b:String}:(θ a=θ b)=(a=b):=propext ⟨λh=>by
 rw[a1Q,a1Q]at h;have h1:=congrArg (λz:Str=>z.cps.toList) h;dsimp only at h1;exact String.toList_inj.mp<|List.map_inj_right (λx y e=>Char.ext<|UInt32.toNat_inj.mp e) |>.mp h1,λh=>by rw[h]⟩
theorem zFc{xs:Qa D}{k:Int}(h:0<=k):lV xs Ž (ž k)=xs.take k.toNat:=by
 have e:k=((k.toNat:Nat):Int):=by omega
 unfold lV;rw[e,HT.lO,HT.jx,List.drop_zero,Nat.sub_zero];rw[show((k.toNat:Nat):Int).toNat=k.toNat by omega];rw[Nat.min_def];split
 .rfl
 .rw[ő<|qf _,ő (by omega)]
theorem ztu{xs:Qa D}{k:Int}(h:0<=k):lV xs (ž k) Ž=xs.drop k.toNat:=by
 have e:k=((k.toNat:Nat):Int):=by omega
 unfold lV;rw[e,HT.lO,HT.jx];rw[show((k.toNat:Nat):Int).toNat=k.toNat by omega];rw[Nat.min_def];split
 .rw[ő (by rw[a0M];omega)]
 .rw[a3y (by omega),a3y (by omega),List.take_nil]
structure fA (k M:Nat) (d:D):Prop where
 lay:d.canLay0=ż
 jG:d.depth<=k
 shw:d.showable=ż
 len:d.shown.length<=M
theorem fA.mono{k M k' M':Nat}{d:D}(h:fA k M d)(h1:k<=k')(h2:M<=M'):fA k' M' d:=⟨h.lay,qA h.jG h1,h.shw,qA h.len h2⟩
theorem vk{i:Int}(h:i.natAbs < 10^n)(h0:autoParam (0 < n) ă)(h1:autoParam (n<=470) ă):fA 0 (n+1) (.int i):=by
 refine⟨rfl,by simp[a1K],?_,?_⟩
 .show decide (i.natAbs.log2 < 1920)=ż
  refine a5G ?_
  by_cases z:i.natAbs=0
  .rw[z];decide
  .have e1:10^n<=16^n:=Nat.pow_le_pow_left (by decide) n
   have e2:16^n=2^(4 * n):=by rw[Nat.pow_mul]
   have e3:i.natAbs < 2^(4 * n):=by rw[<-e2];exact qj h e1
   exact qj ((a4A z).mpr e3) (by omega)
 .show(θ<|toString i).length<=n+1
  rw[PySem.ofString_length];exact PySem.int_text_length_le10 h0 h
theorem oE{z:Str}(h:kZ n z):fA 0 (10 * n+2) (.str z):=by
 refine⟨?_,by simp[a1K],rfl,?_⟩
 .show z.cps.all (· < 0x110000)=ż
  rw[Array.all_eq_true'];intro c hc;have:=h.2 c (Array.mem_toList_iff.mpr hc);exact a5G (by omega)
 .have:=PySem.StrLaws.reprText_len z λc hc=>ú (h.2 c hc) (by decide)
  have:=h.1;show(reprText z).length<=_;omega
theorem Pk{k M:Nat}:∀{ds:Qa D},(∀d∈ds,fA k M d)->a0r ds=ż/\a2l ds<=k/\a4d ds=ż/\((η ds).map (·.length)).sum+2 * ds.length<=ds.length * (M+2)
 |[],_=>⟨rfl,by simp[a2l],rfl,by simp[η]⟩
 |d::ds,h=>by
  have(a0,a1,a2,a3):=Pk (ds:=ds) λx hx=>h x<|qp _ hx;have(b0,b1,b2,b3):=h d qq;refine⟨?_,?_,?_,?_⟩
  .show(d.canLay0 && a0r ds)=ż
   rw[a0,b0];rfl
  .simp only[a2l]
   omega
  .show(d.showable && a4d ds)=ż
   rw[a2,b2];rfl
  .show((d.shown::η ds).map (·.length)).sum+_<=_
   rw[Ī,ε,qv,a0B,a1v];omega
theorem jv{k M:Nat}{ds:Qa D}(h:∀d∈ds,fA k M d)(hn:ds.length<=n):fA (k+1) (n * (M+2)+3) (.tuple ds):=by
 have(a0,a1,a2,a3):=Pk h;refine⟨a0,?_,a2,?_⟩
 .simp only[a1K]
  omega
 .have:=tupleText_len_le (η ds)
  have e:=PyData.shownAll_length ds;have m:ds.length * (M+2)<=n * (M+2):=Ý _ hn;show(tupleText<|η ds).length<=_;omega
theorem fA.shaped{k M:Nat}{d:D}(h:fA k M d)(hk:k<=64):Ϩ d=ż:=by
 unfold Ϩ;rw[h.lay,Bool.true_and];exact a5G<|qA h.jG hk
theorem fA.uH{k M k' M':Nat}{a b:D}{neg:Bool}(ha:fA k M a)(hb:fA k' M' b)(hk:k<=64)(i5:k'<=64):fE neg (.d a) (.d b)=ž (.d<|.bool (if neg=ż then !PyData.eqv a b else a0b a b)):=by
 have ea:U.py (.d a)=ž a:=rfl;have eb:U.py (.d b)=ž b:=rfl;unfold fE;rw[ea,bd,eb,bd,a5E ⟨ha.shaped hk,hb.shaped i5⟩]
theorem zBl{a b:Str}:a0b (.str a) (.str b)=decide (a=b):=by
 simp only[a0b];rw[ο,beq_iff_eq,decide_eq_true_iff]
section
noncomputable def zFq:U->Qb U
 |.d (.int i)=>if i.natAbs.log2 < 1920 then ž (.d<|.str<|toString i)else Ž
 |.d (.str z)=>if z.length<=ħ then ž (.d<|.str z)else Ž
 |_=>Ž
abbrev MJ:=En->Str->Qb (Str×En)
def U.sr:U->Qb Str
 |.d (.str z)=>ž z
 |_=>Ž
end
end Internal
namespace Internal
open PySem PySem.Spec PyProof.Rows PySem.NumText
noncomputable abbrev ts(n:Int):Str:=θ (toString n)
end Internal
namespace Internal
open PySem PySem.Spec PyProof.Rows
section
variable{X:Cx}{f:ĺ}{tx:TE}{k:Nat}
theorem Pj(hr:aE k X.A)(ho:Wr (PE X o td))(he:Wr (PE X e ty))(hf:Wr (PE X f tx))(m:M2 X o "get" apos e f aL):Wr (PE X (.Call (.Attribute o "get" apos) [e,f] [] aL)<|HV X.K td ty tx):=⟨zsc (uW hr) ho.run he.run hf.run m⟩
end
section
def tu:U->Bool
 |.t _=>ż
 |.k _=>ż
 |.d (.dict kvs)=>mR kvs
 |_=>Ż
theorem Qv{x:V}{u:U}(h:Rp K H x u)(e:tu u=ż):∃a,x=.ref a/\Gi H a:=by
 unfold tu at e;split at e
 .have(a,ws,rfl,h1,_):=h
  exact⟨a,rfl,.inr ⟨_,.inl h1⟩⟩
 .have(a,ws,rfl,h1,_):=h
  exact⟨a,rfl,.inl ⟨_,.inl h1⟩⟩
 .have(a,ob,ws,rfl,h1,_):=DF.cQ h e
  exact⟨a,rfl,.inr ⟨_,.inr ⟨ob,h1⟩⟩⟩
 .cases e
def xB(md my mx:ME):ME:=λρ=>(md ρ).bind λp=>(p.1.get p.2).bind λu0=>if tu u0=ż then(my p.2).bind λq=>(mx q.2).bind λz=>(p.1.get z.2).bind λu=>(q.1.get z.2).bind λy=>(z.1.get z.2).bind λx=>(k9 u y).bind λo=>match x with
 |.d x=>ž (.u<|.d<|o.getD x,z.2)
 |_=>Ž else Ž
theorem Pg{tx:TE}{md my mx:ME}(hd:VE K td md)(hy:VE K ty my)(hx:VE K tx mx):VE K (HV K td ty tx) (xB md my mx):=by
 intro ρ σ H a ai Q r e q;obtain⟨⟨a1,ρ1⟩,e1,e⟩:=bQ e;have(u0,e0,e):=bQ e;split at e
 rotate_left
 .cases e
 rename_i hu0;obtain⟨⟨b1,au⟩,e2,e⟩:=bQ e;obtain⟨⟨c1,jL⟩,e3,e⟩:=bQ e;have(u,eu,e):=bQ e;have(y,ey,e):=bQ e;have(x,ex,e):=bQ e;have(o,eo,e):=bQ e;split at e
 rotate_left
 .cases e
 cases e;refine hd ρ σ H a1 ρ1 _ r e1 λv1 H1 g1 k1=>?_;have(b,rfl,hb):=Qv (k1.now r g1 e0) hu0;refine⟨b,rfl,hb,hy ρ1 σ H1 b1 _ _ g1.rs e2 λv2 H2 g2 k2=>hx au σ H2 c1 _ _ g2.rs e3 λv3 H3 g3 k3=>?_⟩;have(b',eb,h):=IV (k1.later r g1 (g2.trans g3) eu) (k2.later g1.rs g2 g3 ey) eo;cases eb;have p3:=k3.now g2.rs g3 ex;rcases h with⟨w,d',rfl,g,p⟩|⟨rfl,g⟩
 .exact⟨_,g,q w H3 ((g1.trans g2).trans g3) ⟨p,Nw.data⟩⟩
 .exact⟨_,g,q v3 H3 ((g1.trans g2).trans g3) ⟨p3,Nw.data⟩⟩
end
noncomputable abbrev wL(d i n ep:Nat)(x0 x1 ok ov:Qc):Obj:={cls:=.type "dict_itemiterator",dict:=Ž,data:=.fields #[x0,x1,.ref d,.int i 0,.int n 0,.int ep 0,ok,ov],slots:=#[]}
theorem ztv:Manifest.canonical (String.map (λc=>if(c.isAlphanum || c=='_' || c=='.')=ż then c else '_') "dict_itemiterator.__iter__") ++ "" = "dict_keyiterator.__iter__":=by decide +kernel
theorem ztw:entryFor table "dict_itemiterator.__iter__"=ž Builtin.«dict_keyiterator.__iter__»:=entryFor_alias (by kernel_rfl) (by kernel_rfl) ztv (by kernel_rfl)
section
variable{s:Qd}{ok ov:Qc}
theorem pO{T:Qc}{vs:Array Qc}{x:Qc}{Q:Unit->Qd->Prop}(e:s.heap.get? it=ž {cls:=T,data:=.fields vs})(hj:j < vs.size)
  (q:∀h':Ļ,h'.get? it=ž {cls:=T,data:=.fields (vs.setIfInBounds j x)}->h'.objs.size=s.heap.objs.size->(∀b o,b≠it->s.heap.get? b=ž o->h'.get? b=ž o)->Q () {s with heap:=h'}):ĩ (Ĭ prog w) A (ϯ (.ref it) j x) Q E s:=by
 refine Φ e rfl hj<|q _ ?_ ?_ λb o hb z=>?_
 .exact Ð _ e (a1l<|Δ rfl _)
 .exact a2m ..
 .exact((Ï ..).2 b hb).trans z
theorem R6{x0 x1:Qc}{Q:Qb Qc->Qd->Prop}(k:s.heap.get? it=ž (wL d i es.size ep x0 x1 ok ov))(r:nh s.heap d es ep)(hh:es[i]?=Ž->A.handled=Ž)
  (q:∀x h1,es[i]?=ž x->h1.get? it=ž (wL d (i+1) es.size ep x0 x1 ok ov)->h1.objs.size=s.heap.objs.size->(∀b o,b≠it->s.heap.get? b=ž o->h1.get? b=ž o)->
   ĩ (Ĭ prog w) A.in1 (Ϡ (.ref it) 6 x.key x.val) (λv s'=>Q (ž v) s') (λ_ _=>False) {s with heap:=h1})
  (qe:es[i]?=Ž->∀h':Ļ,a1n it s.heap h'->Q Ž {s with heap:=h'}):ĩ (Ĭ prog w) A (ϱ<|.ref it) Q E s:=by
 have kT:s.TypeIs (.ref it) "dict_itemiterator":=⟨_,k,rfl⟩;have(o,e,_,dat):=r;unfold ϱ;refine qa<|a4m (ϗ (name:=a0Z "__next__") kT ã
  (Ŏ ã kT F.entry_dict_itemiterator_next ?_<|F.args_dict_itemiterator_next_1 _))
 refine qa<|qb<|qa<|qa ?_;refine qa<|π kT<|qb<|qa<|wpAny_fieldsOf k rfl ?_;simp only[show ϳ "dict_itemiterator"=ż by decide,if_true];show ĩ _ _ (if(Į d==ł)=ż then _ else _) _ _ s;rw[a5F (show ¬((Į d==ł)=ż) from qg)];refine qa<|qb<|qa<|ũ e dat ?_;rw[a5F (by simp)];refine qa<|qb<|qa<|a0k e dat ?_;rw[a5F (by simp)];refine qb ?_;cases hx:es[i]? with
 |some x=>
  simp only[show ¬((i:Int) < 0) from by omega,if_false,Ŀ,hx];refine qa<|qa<|π kT<|qb<|qa<|a1s kT ?_;show ĩ _ _ (ϯ (.ref it) 3 (ϰ<|(i:Int)+1) >>= _) _ _ s;refine qa<|pO k (by simp) λh1 k1 z1 f1=>?_;refine qa<|Ő ?_;have VG:Τ {s with heap:=h1} (.ref it) "dict_itemiterator":=⟨_,k1,rfl⟩;refine qa<|a1s VG ?_;show ĩ _ _ (a5t (.ref it) _ >>= _) _ _ _;refine qa<|a1s VG ?_;exact ļ (q x h1 hx k1 z1 f1) (λv s' hz=>qb ⟨_,rfl,qb hz⟩) λ_ _ z=>z.elim
 |none=>
  simp only[show ¬((i:Int) < 0) from by omega,if_false,Ŀ,hx];refine qa<|qa<|π kT<|qb ?_;show ĩ _ _ (ϯ (.ref it) 2 .none >>= _) _ _ s;exact qa<|Φ k rfl (by simp)<|Jf (hh hx) λh' e k he=>qa<|ϖ (T := "StopIteration") (b:=ż) he a3F<|qb<|qe hx _ λb o hb z=>k b o<|((Ï ..).2 b hb).trans z
theorem Ru{B:Qf}{h0:Ļ}{x0 x1 key val:Qc}(k1:s.heap.get? it=ž (wL d i es.size ep x0 x1 ok ov))(z1:s.heap.objs.size=h0.objs.size)(yh:it < h0.objs.size)(f1:∀b o,b≠it->h0.get? b=ž o->s.heap.get? b=ž o)
  (q:∀h2:Ļ,h2.get? it=ž (wL d i es.size ep x0 x1 ok ov)->h2.get? h0.objs.size=ž {cls:=.type "tuple",data:=.seq #[key,val]}->(∀b o,b≠it->h0.get? b=ž o->h2.get? b=ž o)->
   (∀(Q':Qc->Qd->Prop) (E':Qc->Qd->Prop),(∀h',h'.get? it=ž (wL d i es.size ep (ϰ h0.objs.size) (.bool Ż) key val)->h'.get? h0.objs.size=ž {cls:=.type "tuple",data:=.seq #[key,val]}->(∀b o,b≠it->h0.get? b=ž o->h'.get? b=ž o)->Q' (.ref h0.objs.size) {s with heap:=h'})->
    ĩ (Ĭ prog w) B (do
     let old:=[<-field (.ref it) 6,<-field (.ref it) (6+1)]
     ϯ (.ref it) 6 key;ϯ (.ref it) (6+1) val
     ϯ (.ref it) 0 (ϰ h0.objs.size);ϯ (.ref it) 1 (.bool Ż)
     letGo old [.ref h0.objs.size]
     pure (Į h0.objs.size)) Q' E' {s with heap:=h2})->
   ĩ (Ĭ prog w) B (ϕ (.ref it) >>= λb=>if b=ż then(do
     let old:=[<-field (.ref it) 6,<-field (.ref it) (6+1)]
     ϯ (.ref it) 6 key;ϯ (.ref it) (6+1) val
     ϯ (.ref it) 0 (ϰ h0.objs.size);ϯ (.ref it) 1 (.bool Ż)
     letGo old [.ref h0.objs.size]
     pure (Į h0.objs.size))else pure (Į h0.objs.size)) Q E {s with heap:=h2}):ĩ (Ĭ prog w) B (Ϡ (.ref it) 6 key val) Q E s:=by
 unfold Ϡ;simp only[newTuple];refine qa<|qB ?_ (by show(2:Nat)<=ħ;decide);have k2:(s.heap.push {cls:=.type "tuple",data:=.seq #[key,val]}).get? it=ž (wL d i es.size ep x0 x1 ok ov):=qd _ k1;have t2:(s.heap.push {cls:=.type "tuple",data:=.seq #[key,val]}).get? s.heap.objs.size=_:=qh _ rfl;have f2:∀b o,b≠it->h0.get? b=ž o->(s.heap.push {cls:=.type "tuple",data:=.seq #[key,val]}).get? b=ž o:=λb o hb z=>qd _<|f1 b o hb z;rw[z1]at t2;show ĩ _ _ _ _ _ {s with heap:=s.heap.push {cls:=.type "tuple",data:=.seq #[key,val]}};generalize s.heap.push {cls:=.type "tuple",data:=.seq #[key,val]}=h2 at k2 t2 f2 ⊢;rw[z1];refine q h2 k2 t2 f2 λQ' E' hq=>?_;have ne:=ň (qk yh);refine qa<|Ş k2 rfl (x:=ok) rfl ?_;refine qa<|Ş k2 rfl (x:=ov) rfl ?_;refine qa<|pO k2 (by simp) λh3 k3 z3 f3=>?_;refine qa<|pO k3 (by simp) λh4 k4 z4 f4=>?_;refine qa<|pO k4 (by simp) λh5 k5 z5 f5=>?_;refine qa<|pO k5 (by simp) λh6 k6 z6 f6=>?_;refine qa<|a3h<|qb<|hq h6 ?_ ?_ λb o hb z=>?_
 .rw[k6]
  rfl
 .exact f6 _ _ ne (f5 _ _ ne<|f4 _ _ ne<|f3 _ _ ne t2)
 .exact f6 b o hb (f5 b o hb<|f4 b o hb<|f3 b o hb<|f2 b o hb z)
theorem Rt{Q:Qb Qc->Qd->Prop}(k:IsItemIter s.heap it d i es.size ep ok ov)(r:nh s.heap d es ep)(hh:es[i]?=Ž->A.handled=Ž)
  (q:∀x h',es[i]?=ž x->IsItemIterOut h' it d (i+1) es.size ep x.key x.val s.heap.objs.size->h'.get? s.heap.objs.size=ž {cls:=.type "tuple",data:=.seq #[x.key,x.val]}->(∀b o,b≠it->s.heap.get? b=ž o->h'.get? b=ž o)->Q (ž<|.ref s.heap.objs.size) {s with heap:=h'})
  (qe:es[i]?=Ž->∀h':Ļ,a1n it s.heap h'->Q Ž {s with heap:=h'}):ĩ (Ĭ prog w) A (ϱ<|.ref it) Q E s:=by
 refine R6 k r hh (λx h1 hx k1 z1 f1=>Ru (h0:=s.heap) (s:={s with heap:=h1}) k1 z1 (qi k) f1 λh2 k2 t2 f2 free=>?_) qe;unfold ϕ;refine qa<|qa<|Ş k2 rfl (x:=.none) rfl<|qb ?_;show ĩ _ _ (if ż=ż then _ else _) _ _ _;rw[a5E rfl];exact free _ _ λh' a b c=>q x h' hx a b c
theorem RP(hd:(d==Œ)=Ż)(r:nh s.heap d es ep)
  (q:Q (.ref s.heap.objs.size) {s with heap:=s.heap.push {cls:=.type "dict_items",data:=.fields #[.ref d]}}):ĩ (Ĭ prog w) A (a1P (.builtin "dict.items") [.ref d]) Q E s:=by
 have hT:=r.typeIs;have(o,e,_,dat):=r;refine Ŏ a2y hT F.entry_dict_items ?_<|F.args_dict_items_1 _;unfold Builtin.«dict.items» Builtin.Dict.noArgs;refine qa<|qa<|ι hT ?_;refine qa<|qb ?_;refine qa<|qb<|qb ?_;unfold Ϲ;rw[hd,a5F qg];refine qa<|qb ?_;unfold newFields;exact qa<|qB<|qb ⟨_,rfl,q⟩
theorem RN{v:Qg}(hv:s.heap.IsItemsView v d)(r:nh s.heap d es ep)
  (q:∀h':Ļ,IsItemIter h' s.heap.objs.size d 0 es.size ep .none .none->(∀b o,s.heap.get? b=ž o->h'.get? b=ž o)->Q (.ref s.heap.objs.size) {s with heap:=h'}):ĩ (Ĭ prog w) A (a0m<|.ref v) Q E s:=by
 have(o,e,_,dat):=r;have(o2,e2,c2,d2):=id hv;have hT:=hv.typeIs (s:=s);refine a2I hT a4D<|Ŏ a4D hT F.entry_dict_items_iter ?_<|F.args_dict_items_iter_1 _;unfold Builtin.«dict_items.__iter__»;refine qa<|qb ?_;unfold a5u;refine qa<|qa<|Ş e2 d2 (x:=.ref d) rfl<|qb ?_;unfold a5s;refine qa<|qa<|ũ e dat<|qa<|a0k e dat ?_;unfold newFields;refine qB (qb ⟨_,rfl, "dict_itemiterator",_,⟨_,qh _ rfl,rfl⟩,ã.lookup,?_⟩) (by rw[show ϳ "dict_itemiterator"=ż by decide,a5E rfl];show(8:Nat)<=ħ+2;decide);exact q _ (qh _ rfl) λb o z=>qd _ z
end
def Xm(K:qc)(a:Qg)(o:Obj)(kvs:Qa (Qa Key×V)):It :=
 ⟨λi H=>H a=ž (.be o<|.dT kvs)/\i < kvs.length,λi H x H'=>∃T,H T=Ž/\x=.ref T/\∀k v,kvs[i]?=ž (k,v)->∃b,aJ K H b (k.map kV)/\H'=upd H T (.tup [.ref b,v]),λi H=>H a=ž (.be o<|.dT kvs)/\kvs.length<=i⟩
theorem zn6{k:Nat}{pos:Pos}(a it:Qg)(o:Obj)(kvs:Qa (Qa Key×V))(ep:Nat)(wm:∃es,o.data=.dict es ep):Turn P w K (.Tuple elts k pos) (Xm K a o kvs) [it] it (λi h=>∃ok ov,IsItemIter h it a i kvs.length ep ok ov) where
 mem:=by simp
 obj:=λi h st b hb=>by
  have e:b=it:=by simpa using hb
  subst e;have(ok,ov,e):=st;exact⟨_,e,λv z=>by
   have z':a1p _=a0P v:=z;cases z'⟩
 keep:=λi h h' st k=>by
  have(ok,ov,e):=st;exact⟨ok,ov,k it (by simp) _ e⟩
 item:=by
  intro X hP hw hK hc i pins s σ H E I hf st hg;subst hP hw hK;have(e,hi):=hg;have(ok,ov,st):=st;have(es,rd,hsz,ent):=DU wm I e;have(b,x,ex,kx,hb,rv):=ent i kvs[i].1 kvs[i].2 (qo hi);refine Rt (es:=es) (by rw[hsz];exact st) rd (λ_=>I.ok.hd hc) (λx' h1 yC oM jV kk=>?_) λz=>by rw[ex]at z;cases z
  cases ex.symm.trans yC;refine⟨_,rfl,wpAny_letOwnedTupleGo_items (s:={s with heap:=h1}) oM λh2 qG sb=>?_⟩;rw[kx]at jV;have(I3,fT,ff):=I.pair (t':=s.toks) hf (qf _) (λb hb=>by rw[qr.mp hb];exact⟨_,st⟩) (λb o hb q=>(sb.2 b (by simpa using hb)).trans<|kk b o (by simpa using hb) q) ⟨_,(sb.2 _<|ň<|qk<|qi st).trans jV,rfl,⟨_,rfl⟩,.inl rfl⟩ (show zE (.ref b) (.ref b) from rfl) rv;refine⟨.ref s.heap.objs.size,_,I3,rfl,⟨_,fT,rfl,λk v wk=>⟨b,?_,?_⟩⟩,⟨_,_,by rw[<-hsz];exact qG⟩,ff⟩
  .rw[qo hi]at wk
   rw[qy wk]at hb;exact hb
  .rw[qo hi]at wk
   rw[qy wk]
 done:=by
  intro X hP hw hK hc i pins s σ H E I hf st hg;subst hP hw hK;have(e,hi):=hg;have(ok,ov,st):=st;have(es,rd,hsz,ent):=DU wm I e;exact Rt (es:=es) (by rw[hsz];exact st) rd (λ_=>I.ok.hd hc) (λx h' ex=>by rw[a0T (by omega)]at ex;cases ex) λ_ h' eb=>⟨rfl,I.bO (t':=s.toks) (λb o hb e=>eb b o (by simpa using hb) e) hf⟩
 self:=λ_ _ _ _ _ st h=>by
  have(ok,ov,st):=st;exact a2I ⟨_,st,rfl⟩ a2Y<|Ŏ a2Y ⟨_,st,rfl⟩ ztw (qb ⟨_,rfl, "dict_itemiterator",_,⟨_,st,rfl⟩,ã.lookup,h⟩)<|F.args_dict_itemiterator_iter_1 _
section
variable{X:Cx}{kk:Nat}
def Ot(K:qc)(td:TE):TI:=λσ H R=>td σ H λx H1=>∃a o kvs,x=.ref a/\H1 a=ž (.be o<|.dT kvs)/\R (Xm K a o kvs) H1
theorem Ec{d:ĺ}(hd:Wr (PE X d td))(b6:autoParam (Ű d "items" X.env (Ť d X.env)=Ť d X.env) ć)(bY:autoParam ((apos.endLine==aL.line)=ż) ć):Wr (PI X (.Tuple elts kk jw) (.Call (.Attribute d "items" apos) [] [] aL)<|Ot X.K td):=by
 refine⟨?_⟩;intro pins s σ H R I h;refine a1i b6 bY<|az (hd.run pins s σ H _ I h) λv s1 hZ=>?_;have(x,H1,I1,r1,q1):=hZ;have(a,o,kvs,rfl,e,q):=q1;cases r1;have(sC,es,ep,ea,xd,dat,hsz,_):=IC I1 e;have AZ:nh s1.heap a es ep:=⟨o,ea,xd,dat⟩;refine⟨"dict", "dict.items",F.plainAttrs_dict,a2y,F.type_dict_items,AZ.typeIs,λb hb=>?_,Ù rfl<|a1u<|RP sC AZ ?_⟩
 .cases hb
  exact⟨o,ea,xd.2.1⟩
 have I2:Inv X pins σ H1 {s1 with heap:=s1.heap.push {cls:=.type "dict_items",data:=.fields #[.ref a]}}:=I1.kept (t':=s1.toks) λb o z=>qd _ z;refine RN (v:=s1.heap.objs.size) (s:={s1 with heap:=s1.heap.push {cls:=.type "dict_items",data:=.fields #[.ref a]}}) ⟨_,qh _ rfl,rfl,rfl⟩ ⟨o,qd _ ea,xd,dat⟩ λh' hit uf=>?_;refine⟨_,_,_,_,H1,rfl,I2.kept (t':=s1.toks) uf,zn6 a _ o kvs ep ⟨es,dat⟩,⟨_,_,by rw[<-hsz];exact hit⟩,λb hb=>?_,q⟩;rw[qr.mp hb];exact I2.eY (qf _)<|I2.aw.fresh<|qf _
end
def u9:U->Qb (Qa D)
 |.d (.dict kvs)=>if mR kvs=ż then ž (kvs.map λp=>.tuple [p.1,p.2])else Ž
 |_=>Ž
theorem Pf:∀{ws:Qa (Qa Key×V)} {kvs:Qa (D×D)},jJ K H ws kvs->∀{i:Nat} {p:D×D},kvs[i]?=ž p->∃k v,ws[i]?=ž (k,v)/\p.1=iG k/\DF K H v p.2
 |_,_,.nil,i,p,h=>by simp at h
 |_,_,.cons hv t,0,p,h=>by cases h;exact⟨_,_,rfl,rfl,hv⟩
 |_,_,.cons hv t,i+1,p,h=>Pf t (i:=i) h
theorem zw2{kvs:Qa (D×D)}(h:jJ K H ws kvs):ws.length=kvs.length :=
 h.ind (P:=λws kvs=>ws.length=kvs.length) rfl λ_ _ t=>congrArg (·+1) t
theorem Eu{me:ME}(h:VE K te me):VI K (Ot K te) (dg u9 me):=by
 intro ρ σ H ds ai R r e q;obtain⟨⟨a,ρ1⟩,e1,e⟩:=bQ e;have(u,eu,e):=bQ e;have(xs,ex,e):=bQ e;cases e;refine h ρ σ H a _ _ r e1 λv H1 g1 k1=>?_;have p:=k1.now r g1 eu;unfold u9 at ex;split at ex
 .split at ex
  rotate_left
  .cases ex
  rename_i nx;cases ex;have(b,o,ws,rfl,h1,h2):=DF.cQ p nx;refine⟨b,o,ws,rfl,h1,q _ _ g1 λH2 k i=>?_⟩;have kI:=k.be _ _ _ h1;refine⟨λd ed=>?_,λei=>?_⟩
  .rw[ĭ]at ed
   obtain⟨⟨kd,vd⟩,ew,rfl⟩:=qt.mp ed;have(ks,w,dP,rfl,dv):=Pf h2 ew;refine⟨⟨kI,(qm.mp dP).1⟩,λx H' y=>?_⟩;have(T,nT,rfl,y):=y;have(kb,o9,rfl):=y ks w dP;have sm:=zF nT (.tup [.ref kb,w]);exact⟨sm,.tup (.inl zq)<|.cons (DF.kp sm.kp<|.tup o9 Aw)<|.cons ((dv.kp k).kp sm.kp) .nil⟩
  .rw[Ħ,<-zw2 h2]at ei
   exact⟨kI,ñ ei.symm⟩
 .cases ex
abbrev xu(q1:Bool)(h:Ļ)(t1:Qg):Ļ:=h.push (Bo q1 t1)
abbrev Ao(q1 q2:Bool)(h:Ļ)(t1 t2:Qg):Ļ:=(xu q1 h t1).push (Bo q2 t2)
abbrev xt(q1 q2:Bool)(h:Ļ)(t1 t2:Qg):Ļ:=(Ao q1 q2 h t1 t2).push {cls:=.type "tuple",data:=.seq #[.ref h.objs.size,.ref (xu q1 h t1).objs.size]}
abbrev Er(q1 q2:Bool)(h:Ļ)(t1 t2:Qg):Ļ:=(xt q1 q2 h t1 t2).push {cls:=.type "tuple",data:=.seq #[.none,.none]}
abbrev Jr(q1 q2:Bool)(h:Ļ)(t1 t2:Qg):Ļ:=(Er q1 q2 h t1 t2).push {cls:=.type "zip",data:=.fields #[.none,.bool Ż,.bool Ż,.ref (Ao q1 q2 h t1 t2).objs.size,.ref (xt q1 q2 h t1 t2).objs.size]}
theorem zty(q1 q2:Bool)(t1 t2:Qg)(xs ys:Array Qc):
  Meets (Builtin.«zip.__new__» ⟨[.type "zip",.ref t1,.ref t2],[]⟩) (λ_ R s=>jk q1 s.heap t1 xs/\jk q2 s.heap t2 ys/\
   R (.ok<|.ret<|.ref (Er q1 q2 s.heap t1 t2).objs.size) {s with heap:=Jr q1 q2 s.heap t1 t2}):=
 .of_wp λprog w A R s h=>by
  have(hp,g,d,tk,os):=s;have(h1,h2,h):=h;have mY:jk q2 (xu q1 hp t1) t2 ys:=h2.kept λo e=>qd _ e;have L7:=sub_zip
  wp_walk using Q9 h1,Q9 mY
  exact⟨_,rfl,h⟩
section
variable{s:Qd}{z TI TO i1 i2 t1 t2:Qg}{k:Nat}{xs ys:Array Qc}{a b:Qc}{q1 q2:Bool}
theorem Qu{Q:Qb Qc->Qd->Prop}(hh:A.handled=Ž)(ap:ZipApart z TI TO i1 i2 t1 t2)(hz:IsZip s.heap z TI TO .none)(hI:a2x s.heap TI (.ref i1) (.ref i2))(hO:a2x s.heap TO a b)
  (h1:hJ q1 s.heap i1 t1 k) (h2:hJ q2 s.heap i2 t2 k) (g1:jk q1 s.heap t1 xs) (g2:jk q2 s.heap t2 ys) (hl:k < xs.size/\k < ys.size\/k=xs.size)
  (q:∀x y h' tk,xs[k]?=ž x->ys[k]?=ž y->IsZip h' z TI TO (ϰ s.heap.objs.size)->a2x h' TO x y->hJ q1 h' i1 t1 (k+1)->hJ q2 h' i2 t2 (k+1)->a2x h' s.heap.objs.size x y->
   (∀c o,c≠z->c≠TO->c≠i1->c≠i2->s.heap.get? c=ž o->h'.get? c=ž o)->Q (ž<|.ref s.heap.objs.size) {s with heap:=h',toks:=tk})
  (qe:k=xs.size->∀h':Ļ,(∀c o,c≠z->c≠TO->c≠i1->c≠i2->s.heap.get? c=ž o->h'.get? c=ž o)->Q Ž {s with heap:=h'}):ĩ (Ĭ prog w) A (ϱ<|.ref z) Q E s:=by
 have kT:s.TypeIs (.ref z) "zip":=⟨_,hz,rfl⟩;unfold ϱ;refine qa<|a4m<|ϗ (name:=a0Z "__next__") kT F.slot_zip_next<|Ŏ F.slot_zip_next kT F.entry_zip_next ?_<|F.args_zip_next_1 _;unfold Builtin.«zip.__next__»;refine qa<|qb ?_;refine qa<|Ş hz rfl (x:=.bool Ż) rfl ?_;refine qa<|Ş hz rfl (x:=.ref TI) rfl ?_;refine qa<|ϭ hI rfl ?_;show ĩ _ _ (a0u (.ref z) >>= _) _ _ s;unfold a0u;refine qa<|qa<|Ş hz rfl (x:=.none) rfl<|qb ?_;show ĩ _ _ (if ż=ż then _ else _) _ _ _;rw[a5E rfl];refine qa<|ϝ<|qa<|Ş hz rfl (x:=.ref TO) rfl ?_;refine qa<|pO hz (by simp) λha ka za fa=>?_;have We:a2x ha TO a b:=fa _ _ ap.TOz hO;have Wj:hJ q1 ha i1 t1 k:=h1.kept λo=>fa _ o ap.i1z;have Wl:jk q1 ha t1 xs:=g1.kept λo=>fa _ o ap.l1z;refine qa ?_;show ĩ _ _ (forIn [(Į i1,0),(Į i2,1)] (Ž,()) _) _ _ _;rw[a2D];refine qa<|qa<|wpAny_onRaise ?_;show ĩ _ _ (ϒ (.ref i1) >>= _) _ _ _;rcases hl with⟨lx,ly⟩|rfl
 .refine qa ((AA (A:=A.in1) hh ap.l1i1).item k {s with heap:=ha} _ _ lx ⟨Wj,Wl⟩ λx hb tb ex kb sb=>qb ?_)
  refine qa<|ϭ (s:={s with heap:=hb,toks:=tb}) (o:=_) ((sb.2 _ ap.TOi1).trans We) rfl ?_;refine qa<|a5v (s:={s with heap:=hb,toks:=tb}) ((sb.2 _ ap.TOi1).trans We) λhc kc sc=>?_;refine qa<|a3h<|qb ?_;show ĩ _ _ (forIn [(Į i2,1)] (Ž,()) _) _ _ _;rw[a2D];have oY:∀c o,c≠z->c≠TO->c≠i1->s.heap.get? c=ž o->hc.get? c=ž o:=λc o n1 n2 n3 e=>(sc.2 c n2).trans<|(sb.2 c n3).trans<|fa c o n1 e;have h22:hJ q2 hc i2 t2 k:=h2.kept λo=>oY _ o ap.i2z (ň ap.TOi2)<|ň ap.i12;have g22:jk q2 hc t2 ys:=g2.kept λo=>oY _ o ap.l2z ap.l2TO ap.l2i1;refine qa<|qa<|wpAny_onRaise ?_;show ĩ _ _ (ϒ (.ref i2) >>= _) _ _ _;refine qa<|(AA (A:=A.in1) hh ap.l2i2).item k {s with heap:=hc,toks:=tb} _ _ ly ⟨h22,g22⟩ λy hd td ey kd sd=>qb ?_;have Wc:a2x hd TO x b:=(sd.2 _ ap.TOi2).trans kc;refine qa<|ϭ (s:={s with heap:=hd,toks:=td}) Wc rfl ?_;refine qa<|a5v (s:={s with heap:=hd,toks:=td}) Wc λhe ke se=>?_;refine qa<|a3h<|qb ?_;show ĩ _ _ (forIn ([]:Qa (Qc×Nat)) (Ž,()) _) _ _ _;rw[a1m];refine qb ?_;have Wb:a2x he TO x y:=ke;show ĩ _ _ (seqItems? (.ref TO) >>= _) _ _ _;refine qa<|ϭ (s:={s with heap:=he,toks:=td}) Wb rfl ?_;simp only[newTuple];refine qa<|qB ?_ (by show(2:Nat)<=ħ;decide);have sz:he.objs.size=s.heap.objs.size:=by rw[se.1,sd.1,sc.1,sb.1];exact za
  show ĩ _ _ (a0j (.ref z) (.ref he.objs.size) >>= _) _ _ {s with heap:=he.push {cls:=.type "tuple",data:=.seq #[x,y]},toks:=td};have kz:(he.push {cls:=.type "tuple",data:=.seq #[x,y]}).get? z=ž {cls:=.type "zip",data:=.fields #[.ellipsis,.bool Ż,.bool Ż,.ref TI,.ref TO]}:=
   qd _ ((se.2 _<|ň ap.TOz).trans<|(sd.2 _<|ň ap.i2z).trans<|(sc.2 _<|ň ap.TOz).trans<|(sb.2 _<|ň ap.i1z).trans ka)
  have kt:(he.push {cls:=.type "tuple",data:=.seq #[x,y]}).get? he.objs.size=ž {cls:=.type "tuple",data:=.seq #[x,y]}:=qh _ rfl;have kO:(he.push {cls:=.type "tuple",data:=.seq #[x,y]}).get? TO=_:=qd _ Wb;have k1:hJ q1 (he.push {cls:=.type "tuple",data:=.seq #[x,y]}) i1 t1 (k+1):=kb.1.kept λo e=>qd _<|(se.2 _<|ň ap.TOi1).trans<|(sd.2 _ ap.i12).trans<|(sc.2 _<|ň ap.TOi1).trans e;have k2:hJ q2 (he.push {cls:=.type "tuple",data:=.seq #[x,y]}) i2 t2 (k+1):=kd.1.kept λo e=>qd _<|(se.2 _<|ň ap.TOi2).trans e;have kk:∀c o,c≠z->c≠TO->c≠i1->c≠i2->s.heap.get? c=ž o->(he.push {cls:=.type "tuple",data:=.seq #[x,y]}).get? c=ž o:=λc o n1 n2 n3 n4 e=>
   qd _ ((se.2 c n2).trans<|(sd.2 c n4).trans<|oY c o n1 n2 n3 e)
  have nz:he.objs.size≠z:=by
   rw[sz];exact ň<|qk<|qi hz
  generalize he.push {cls:=.type "tuple",data:=.seq #[x,y]}=hf at kz kt kO k1 k2 kk ⊢;unfold a0j;refine qa<|qa<|pO (s:={s with heap:=hf,toks:=td}) kz (by simp) λhg kg zg fg=>?_;refine pO (s:={s with heap:=hg,toks:=td}) kg (by simp) λhh kh zh fh=>?_;have up:∀c o,c≠z->hf.get? c=ž o->hh.get? c=ž o:=λc o n e=>fh c o n<|fg c o n e;refine qb ⟨_,rfl,qb ?_⟩;rw[sz]at kt kh nz ⊢;exact q x y hh td ex ey kh (up _ _ ap.TOz kO) (k1.kept λo=>up _ o ap.i1z) (k2.kept λo=>up _ o ap.i2z) (up _ _ nz kt) λc o n1 n2 n3 n4 e=>up _ _ n1<|kk c o n1 n2 n3 n4 e
 .refine qa ((AA (A:=A.in1) hh ap.l1i1).done {s with heap:=ha} _ _ ⟨Wj,Wl⟩ λhb e sb hZ=>?_)
  have(oe,ge,ce):=hZ;have kb:=sb z _ (ň ap.i1z) ka;refine pO (s:={s with heap:=hb}) kb (by simp) λhc kc zc fc=>?_;have nez:e≠z:=λh=>by
   rw[h]at ge;have z1:=qy (ge.symm.trans kb);rw[z1]at ce;have z2 : "zip" = "StopIteration":=a4a ce;exact absurd z2 (by decide)
  show ĩ _ _ (isInstance (.ref e) (.type "StopIteration") >>= _) _ _ _;refine qa<|ϖ (T := "StopIteration") (b:=ż) ⟨oe,fc _ _ nez ge,ce⟩ a3F ?_;exact qb<|qe rfl hc λc o n1 n2 n3 n4 e=>fc c o n1<|sb c o n3<|fa c o n1 e
end
def MU(q1 q2:Bool)(K:qc)(a b:Qg):It :=
 ⟨λi H=>∃xs ys x y,ja q1 K H a xs/\ja q2 K H b ys/\xs[i]?=ž x/\ys[i]?=ž y,λi H x H'=>∃T,H T=Ž/\x=.ref T/\∀xs ys v u,ja q1 K H a xs->ja q2 K H b ys->xs[i]?=ž v->ys[i]?=ž u->H'=upd H T (.tup [v,u]),λi H=>∃xs ys,ja q1 K H a xs/\ja q2 K H b ys/\xs.length=i⟩
abbrev Xe(q1 q2:Bool)(z TI TO i1 i2 t1 t2:Qg)(i:Nat)(h:Ļ):Prop:=IsZip h z TI TO .none/\a2x h TI (.ref i1) (.ref i2)/\(∃a b,a2x h TO a b)/\hJ q1 h i1 t1 i/\hJ q2 h i2 t2 i
theorem J4{p:Qg->Prop}{z TI TO i1 i2:Qg}(h0:p z)(h1:p TI)(h2:p TO)(h3:p i1)(h4:p i2):∀c∈[z,TI,TO,i1,i2],p c:=λc hc=>by
 simp only[qw,ľ,or_false]at hc;rcases hc with rfl|rfl|rfl|rfl|rfl<;>assumption
theorem rZ{z TI TO i1 i2 c:Qg}(hc:c∉[z,TI,TO,i1,i2]):c≠z/\c≠TO/\c≠i1/\c≠i2:=by
 simp only[qw,ľ,or_false,not_or]at hc;exact⟨hc.1,hc.2.2.1,hc.2.2.2⟩
theorem ztz{k:Nat}{pos:Pos}{q1 q2:Bool}(z TI TO i1 i2 t1 t2:Qg)(ap:ZipApart z TI TO i1 i2 t1 t2):
  Turn P w K (.Tuple elts k pos) (MU q1 q2 K t1 t2) [z,TI,TO,i1,i2] z (Xe q1 q2 z TI TO i1 i2 t1 t2) where
 mem:=by simp
 obj:=λi h st=>by
  obtain⟨hz,hI,⟨a,b,hO⟩,h1,h2⟩:=st;refine J4 ⟨_,hz,λv q=>?_⟩ ⟨_,hI,λv q=>?_⟩ ⟨_,hO,λv q=>?_⟩ h1.obj h2.obj
  .have q':a1p _=a0P v:=q
   cases q'
  .have q':a4j _ _=a0P v:=q
   cases q'
  .have q':a4j _ _=a0P v:=q
   cases q'
 keep:=λi h h' st kk=>by
  obtain⟨hz,hI,⟨a,b,hO⟩,h1,h2⟩:=st;exact⟨kk z (by simp) _ hz,kk TI (by simp) _ hI,⟨a,b,kk TO (by simp) _ hO⟩,h1.kept λo=>kk i1 (by simp) o,h2.kept λo=>kk i2 (by simp) o⟩
 item:=by
  intro X hP hw hK hc i pins s σ H E I hf st hg;subst hP hw hK;have(xs,ys,x,y,uq,uo,hx,hy):=hg;obtain⟨hz,hI,⟨a,b,hO⟩,h1,h2⟩:=st;have(si,A5,yp):=uq.vals I;have(i3,Fm,gI):=uo.vals I;have lx:i < si.toArray.size:=by
   rw[ī,<-A5.length];exact(qm.mp hx).1
  have ly:i < i3.toArray.size:=by
   rw[ī,<-Fm.length];exact(qm.mp hy).1
  refine Qu (I.ok.hd hc) ap hz hI hO h1 h2 yp gI (.inl ⟨lx,ly⟩) (λu1 u2 h' tk F1 eu2 z' O' k1 k2 jV kk=>?_) λe=>absurd lx (by rw[e];exact Ò _);refine⟨_,rfl,wpAny_letOwnedTupleGo_zip (s:={s with heap:=h',toks:=tk}) z' λmY z2 sb=>?_⟩;have ob:∀c∈[z,TI,TO,i1,i2],∃o,s.heap.get? c=ž o:=J4 ⟨_,hz⟩ ⟨_,hI⟩ ⟨_,hO⟩ (let ⟨o,e,_⟩:=h1.obj;⟨o,e⟩) (let ⟨o,e,_⟩:=h2.obj;⟨o,e⟩);have(I3,fT,ff):=I.pair (t':=tk) hf (qf _) ob (λc o hc q=>(sb.2 c (rZ hc).1).trans<|kk c o (rZ hc).1 (rZ hc).2.1 (rZ hc).2.2.1 (rZ hc).2.2.2 q) ⟨_,(sb.2 _<|ň<|qk<|qi hz).trans jV,rfl,⟨_,rfl⟩,.inl rfl⟩ (IE A5 hx F1) (IE Fm hy eu2);exact⟨.ref s.heap.objs.size,_,I3,rfl,⟨_,fT,rfl,λje j8 v u L9 L8 hv hu=>by
   cases uq.inj I L9;cases uo.inj I L8;cases hx.symm.trans hv;cases hy.symm.trans hu;rfl⟩,⟨z2,(sb.2 _ ap.TIz).trans<|kk _ _ ap.TIz ap.TITO ap.TIi1 ap.TIi2 hI,⟨_,_,(sb.2 _ ap.TOz).trans O'⟩,k1.kept λo e=>(sb.2 _ ap.i1z).trans e,k2.kept λo e=>(sb.2 _ ap.i2z).trans e⟩,ff⟩
 done:=by
  intro X hP hw hK hc i pins s σ H E I hf st hg;subst hP hw hK;have(xs,ys,uq,uo,hl):=hg;obtain⟨hz,hI,⟨a,b,hO⟩,h1,h2⟩:=st;have(si,A5,yp):=uq.vals I;have(i3,Fm,gI):=uo.vals I;have ei:i=si.toArray.size:=by
   rw[ī,<-A5.length];exact hl.symm
  refine Qu (I.ok.hd hc) ap hz hI hO h1 h2 yp gI (.inr ei) (λu1 u2 h' tk F1=>by rw[ei]at F1;simp at F1) λ_ h' kk=>⟨rfl,I.bO (t':=s.toks) (wr:=[z,TI,TO,i1,i2]) (λc o hc q=>kk c o (rZ hc).1 (rZ hc).2.1 (rZ hc).2.2.1 (rZ hc).2.2.2 q) hf⟩
 self:=λ_ _ _ _ _ st h=>wpAny_pyIter_zip st.1 h
section
variable{s:Qd}{q1 q2:Bool}
theorem zrb{t1 t2:Qg}{xs ys:Array Qc}(h1:jk q1 s.heap t1 xs)(h2:jk q2 s.heap t2 ys)
  (h:∀h':Ļ,Xe q1 q2 (s.heap.objs.size+4) (s.heap.objs.size+2) (s.heap.objs.size+3) s.heap.objs.size (s.heap.objs.size+1) t1 t2 0 h'->(∀b o,s.heap.get? b=ž o->h'.get? b=ž o)->Q (.ref<|s.heap.objs.size+4) {s with heap:=h'}):
  ĩ (Ĭ prog w) A (a1P (.type "zip") [.ref t1,.ref t2]) Q E s:=by
 refine callType_new F.called_zip (by decide) (F.typeCall_zip_2 _ _) (F.newCall_zip_2 _ _) (λobj=>F.args_object_init_3 obj _ _) F.entry_zip_new (zty q1 q2 t1 t2 xs ys) ⟨h1,h2,?_⟩;have z1:(xu q1 s.heap t1).objs.size=s.heap.objs.size+1:=û ..;have z2:(Ao q1 q2 s.heap t1 t2).objs.size=s.heap.objs.size+2:=by rw[ŝ,z1]
 have z3:(xt q1 q2 s.heap t1 t2).objs.size=s.heap.objs.size+3:=by rw[ŝ,z2]
 have z4:(Er q1 q2 s.heap t1 t2).objs.size=s.heap.objs.size+4:=by rw[ŝ,z3]
 show _/\_;rw[z4];have ez:(Jr q1 q2 s.heap t1 t2).get? (s.heap.objs.size+4)=ž {cls:=.type "zip",data:=.fields #[.none,.bool Ż,.bool Ż,.ref<|s.heap.objs.size+2,.ref<|s.heap.objs.size+3]}:=by
  have:=qh (Er q1 q2 s.heap t1 t2) (o:={cls:=.type "zip",data:=.fields #[.none,.bool Ż,.bool Ż,.ref (Ao q1 q2 s.heap t1 t2).objs.size,.ref (xt q1 q2 s.heap t1 t2).objs.size]}) rfl;rw[z4,z2,z3]at this;rw[<-this];unfold Jr;rw[z2,z3]
 refine⟨⟨_,ez,rfl⟩,h _ ⟨ez,?_,⟨.none,.none,?_⟩,hJ.new ?_,hJ.new ?_⟩ λb o x=>?_⟩
 .have:=qh (Ao q1 q2 s.heap t1 t2) (o:={cls:=.type "tuple",data:=.seq #[.ref s.heap.objs.size,.ref (xu q1 s.heap t1).objs.size]}) rfl
  rw[z2,z1]at this;refine qd _<|qd _ ?_;unfold xt;rw[z1];exact this
 .have:=qh (xt q1 q2 s.heap t1 t2) (o:={cls:=.type "tuple",data:=.seq #[.none,.none]}) rfl
  rw[z3]at this;exact qd _ this
 .exact qd _ (qd _<|qd _<|qd _<|qh _ rfl)
 .have:=qh (xu q1 s.heap t1) (o:=Bo q2 t2) rfl
  rw[z1]at this;exact qd _<|qd _<|qd _ this
 .exact qd _ (qd _<|qd _<|qd _<|qd _ x)
end
section
variable{X:Cx}{k:Nat}{q1 q2:Bool}
def GZ(q1 q2:Bool)(K:qc)(ta:TA):TI:=λσ H R=>ta σ H λvs H1=>∃a b,vs=[.ref a,.ref b]/\(∃xs,ja q1 K H1 a xs)/\(∃ys,ja q2 K H1 b ys)/\R (MU q1 q2 K a b) H1
abbrev zFd:=GZ Ż Ż
abbrev zDR:=GZ ż ż
theorem zw3{s1:Qd}{R:It->Hp->Prop}{t1 t2:Qg}{xs:Qa V}(I1:Inv X pins σ H1 s1)(uq:ja q1 X.K H1 t1 xs)(uo:ja q2 X.K H1 t2 ys)(q:R (MU q1 q2 X.K t1 t2) H1):
  ĩ (Ĭ X.prog X.w) X.A (a1P (.type "zip") [.ref t1,.ref t2]) (λv s2=>ĩ (Ĭ X.prog X.w) X.A (a0m v) (CF X pins σ (.Tuple elts k jw) R) X.xe s2) X.xe s1:=by
 have(si,A5,yp):=uq.vals I1;have(i3,Fm,gI):=uo.vals I1;have tl1:=yp.lt;have tl2:=gI.lt;refine zrb yp gI λh' yr kk=>wpAny_pyIter_zip yr.1 ?_;have f:∀j:Nat,cK X pins H1 (s1.heap.objs.size+j):=λj=>I1.eY (a2v _ _)<|I1.aw.fresh<|a2v _ _;exact⟨_,_,_,_,H1,rfl,I1.kept (t':=s1.toks) kk,ztz _ _ _ _ _ t1 t2 (by
  generalize s1.heap.objs.size=n at tl1 tl2;constructor<;>(simp only[Qg]at *;omega)),yr,J4 (f 4) (f 2) (f 3) (f 0)<|f 1,q⟩
theorem Iq{a b:ĺ}{ta:TA}{pos:Pos}(ha:Wr (PA X [a,b] ta))(hK:autoParam (X.K=K) ć)(hg:autoParam (Gl X "zip") ď)(hm:autoParam (X.mg "zip"=Ž) đ)(hs:autoParam (zV a=ż) ć)(qO:autoParam ([b].all zV=ż) ć):
  Wr (PI X (.Tuple elts k jw) (.Call (.Name "zip" p) [a,b] [] pos)<|GZ q1 q2 K ta):=by
 subst hK;refine⟨?_⟩;intro pins s σ H R I h;refine Call_<|vi I hg hm boot_zip<|Þ (az (ha.run pos pins s σ H _ I h) λus s1 hZ=>?_) (nF hs)<|rO qO;obtain⟨vs,H1,I1,r1,t1,t2,e,⟨xs,uq⟩,⟨ys,uo⟩,q⟩:=hZ;subst e;have(u1,u2,rfl,ru1,ru2):=NS r1;cases ru1;cases ru2;exact zw3 I1 uq uo q
end
noncomputable def pH:Qa D->Qa D->Qa D
 |x::xs,y::ys=>.tuple [x,y]::pH xs ys
 |_,_=>[]
theorem IS:∀{xs ys:Qa D} {i:Nat} {d:D},(pH xs ys)[i]?=ž d->∃x y,xs[i]?=ž x/\ys[i]?=ž y/\d=.tuple [x,y]
 |[],ys,i,d,h=>by simp[pH]at h
 |x::xs,[],i,d,h=>by simp[pH]at h
 |x::xs,y::ys,0,d,h=>by cases h;exact⟨x,y,rfl,rfl,rfl⟩
 |x::xs,y::ys,i+1,d,h=>IS (xs:=xs) (ys:=ys) (i:=i) h
theorem Jq:∀(xs ys:Qa D),xs.length=ys.length->(pH xs ys).length=xs.length
 |[],[],_=>rfl
 |[],y::ys,h=>by cases h
 |x::xs,[],h=>by cases h
 |x::xs,y::ys,h=>congrArg (·+1)<|Jq xs ys<|a1A h
def yO:Qa U->Qb (Qa D)
 |[.d<|.tuple xs,.d<|.tuple ys]=>if xs.length=ys.length then ž (pH xs ys)else Ž
 |_=>Ž
def Dk(ma:MA):MI:=λρ=>(ma ρ).bind λp=>(bJ p.2 p.1).bind λus=>(yO us).bind λds=>ž (ds,p.2)
theorem OC{ta:TA}{ma:MA}(h:lS K ta ma):VI K (zFd K ta) (Dk ma):=by
 intro ρ σ H ds ai R r e q;obtain⟨⟨as,ρ1⟩,e1,e⟩:=bQ e;have(us,eu,e):=bQ e;have(zs,ez,e):=bQ e;cases e;refine h ρ σ H as ρ1 _ r e1 λvs H1 g1 s1=>?_;have rp:=s1.qJ r g1 eu;unfold yO at ez;split at ez
 .split at ez
  rotate_left
  .cases ez
  rename_i xs ys hl;cases ez;cases rp with
  |cons p1 t=>
   cases t with
   |cons p2 t=>
    cases t;have(a,vx,rfl,h1,d1):=DF.aD p1;have(b,vy,rfl,h2,d2):=DF.aD p2;refine⟨a,b,rfl,⟨vx,(aJ.sq h1)⟩,⟨vy,(aJ.sq h2)⟩,q _ _ g1 λH2 kk i=>⟨λd ed=>?_,λei=>?_⟩⟩
    .have(x,y,ex,ey,rfl):=IS ed
     have(v,ev,dv):=(d1.kp kk).get ex;have(w,ew,dw):=(d2.kp kk).get ey;refine⟨⟨vx,vy,v,w,(aJ.kp kk h1).sq,(aJ.kp kk h2).sq,ev,ew⟩,λz H' y=>?_⟩;have(T,nT,rfl,y):=y;cases y vx vy v w ((aJ.kp kk h1).sq) ((aJ.kp kk h2).sq) ev ew;have sm:=zF nT (.tup [v,w]);exact⟨sm,.tup (.inl zq)<|.cons (dv.kp sm.kp)<|.cons (dw.kp sm.kp) .nil⟩
    .exact⟨vx,vy,(aJ.kp kk h1).sq,(aJ.kp kk h2).sq,by rw[Jq _ _ hl]at ei;rw[d1.len];exact ei.symm⟩
 .cases ez
section
variable{s:Qd}
theorem zmg{Q:Bool->Qd->Prop}(hT:s.TypeIs (.ref b) "tuple")(h:Q Ż s):ĩ (Ĭ prog w) A (a2H<|.ref b) Q E s:=by
 unfold a2H;refine qa<|ϡ hT F.slot_tuple_eq.lookup<|qb ?_;exact h
theorem zmh{id:String}{o:Obj}{Q:Array Ů->Qd->Prop}(ho:s.heap.get? d=ž o)(hd:o.data=.dict es ep)
  (hk:∀e∈es.toList,∃b,e.key=.ref b/\s.TypeIs (.ref b) "tuple") (hh:∀e∈es.toList,¬(es.filter (·.hash==e.hash)).size > 1) (h:Q es s):
  ĩ (Ĭ prog w) A (a1E id d) Q E s:=by
 unfold a1E;refine qa<|ũ ho hd ?_;refine qa ?_;rw[<-a1J];refine ς _ (λrest _ s'=>s'=s/\∀e∈rest,e∈es.toList) _ ?_ ?_ _ _ ⟨rfl,λe h=>h⟩
 .rintro e rest b s' ⟨rfl,hr⟩
  have(c,ec,tc):=hk e (hr e qq);rw[ec];refine qa<|zmg tc ?_;simp only[ϧ,if_true];rw[a5F<|hh e<|hr e qq];exact qb ⟨rfl,λe h=>hr e<|qp _ h⟩
 .rintro b s' ⟨rfl,_⟩
  exact qb h
theorem zBn(ne:es.isEmpty=Ż)(hk:∀e∈es.toList,∃b,e.key=.ref b):(decide (es.size<=8) && es.all λe=>(keyPart e.key).isSome)=Ż:=by
 have:(es.all λe=>(keyPart e.key).isSome)=Ż:=by
  rw[<-a5e];cases h:es.toList with
  |nil=>
   have:es=#[]:=by
    apply Array.ext';rw[h]
   rw[this]at ne;cases ne
  |cons e r=>
   have(b,eb):=hk e (by rw[h];exact qq);rw[Ϝ,eb];rfl
 rw[this,Bool.and_false]
theorem zjr{o:Obj}(hdS:(d==Œ)=Ż)(ho:s.heap.get? d=ž o)(hx:o.ExactDict)(hd:o.data=.dict es ep)(hz:es.size<=ħ)
  (hk:∀e∈es.toList,∃b,e.key=.ref b/\s.TypeIs (.ref b) "tuple") (hh:∀e∈es.toList,¬(es.filter (·.hash==e.hash)).size > 1)
  (h:∀h':Ļ,(∃o' pw,h'.get? s.heap.objs.size=ž o'/\o'.ExactDict/\o'.data=.dict es pw)->(∀b u,s.heap.get? b=ž u->h'.get? b=ž u)->Q (.ref s.heap.objs.size) {s with heap:=h'}):
  ĩ (Ĭ prog w) A (a1P (.type "dict") [.ref d]) Q E s:=by
 refine callType_codes (Q₁:=λobj aB=>obj=.ref s.heap.objs.size/\aB={s with heap:=s.heap.push {cls:=.type "dict",data:=.dict #[]}}) F.kt_called_dict (F.kt_typeCall_dict_1 _) F.entry_dict_init (kt_code_dict_new _ ⟨rfl,rfl⟩) ?_;rintro obj aB ⟨rfl,rfl⟩;have nd:s.heap.objs.size≠d:=ň (qk<|qi ho);have hn:(s.heap.push {cls:=.type "dict",data:=.dict #[]}).get? s.heap.objs.size=ž {cls:=.type "dict",data:=.dict #[]}:=qh _ rfl;have eR:(s.heap.push {cls:=.type "dict",data:=.dict #[]}).get? d=ž o:=qd _ ho;have kk:∀b u,s.heap.get? b=ž u->(s.heap.push {cls:=.type "dict",data:=.dict #[]}).get? b=ž u:=λb u e=>qd _ e;generalize s.heap.push {cls:=.type "dict",data:=.dict #[]}=h1 at hn eR kk ⊢;have tn:Τ {s with heap:=h1} (.ref s.heap.objs.size) "dict":=⟨_,hn,rfl⟩;have to:Τ {s with heap:=h1} (.ref d) "dict":=⟨_,eR,hx.1⟩;refine⟨tn,F.args_dict_init_2 _ _,?_⟩;unfold Builtin.«dict.__init__»;refine qa ?_;unfold Builtin.Dict.selfAndRest;refine qa<|ι tn ?_;show ĩ _ _ (pure (s.heap.objs.size,[Į d])) _ _ _;refine qb ?_;show ĩ _ _ (a2f "dict.__init__" s.heap.objs.size (.ref d) [] .none) _ _ _;unfold a2f;refine qa<|a1r to ?_;rw[a5F (by decide)];refine qa ?_;unfold Builtin.Dict.merge;refine qa ?_;unfold Builtin.Dict.readDirectly;refine qa<|ϖ to isSubtype_dict_dict ?_;simp only[ώ,Ŋ,if_false];refine qa<|ϡ to F.slot_dict_iter.lookup<|qb ?_;simp only[a5J,if_true];refine qa<|qb ?_;unfold Builtin.Dict.mergeDict;rw[a5F (by simpa using nd)];unfold Ϲ;rw[a5F (by rw[hdS];exact qg)];refine qa<|qb ?_;refine qa<|ũ eR hd ?_;cases ne:es.isEmpty with
 |true=>
  have e0:es=#[]:=Array.isEmpty_iff.mp ne;subst e0;have fw:(decide ((#[]:Array Ů).size<=8) && (#[]:Array Ů).all λe=>(keyPart e.key).isSome)=ż:=by rw[<-a5e];rfl
  simp only[fw,ώ,Ŋ,if_false];refine qa<|a0k (s:={s with heap:=h1}) eR hd ?_;refine qa<|ũ (s:={s with heap:=h1}) eR hd ?_;refine qa ?_;rw[a5D];simp only[a5C,Nat.sub_zero,a4W,Nat.div_one,Array.size_empty,List.range'_zero,a1m];refine qb<|qb ?_;exact qa<|qb<|qb ⟨rfl,h h1 ⟨_,0,hn,⟨rfl,rfl,rfl⟩,rfl⟩ kk⟩
 |false=>
  have fw:=zBn ne λe he=>let ⟨b,eb,_⟩:=hk e he;⟨b,eb⟩;simp only[fw,ϧ,if_true];refine qa<|ũ hn rfl ?_;simp only[Array.isEmpty_empty,if_true];refine qa<|zmh (s:={s with heap:=h1}) eR hd (λe he=>?_) hh ?_
  .have(b,eb,o2,eo,ec):=hk e he
   exact⟨b,eb,o2,kk _ _ eo,ec⟩
  simp only[ne,ϧ,if_true];refine qa<|wpAny_updateDictKeysTo hn rfl ?_ (by show es.size<=_;omega);refine qb<|qa<|qb<|qb ⟨rfl,h _ ⟨_,_,Ð _ hn rfl,⟨rfl,rfl,rfl⟩,rfl⟩ λb u e=>?_⟩;exact((Ï ..).2 b<|qk<|qi e).trans<|kk b u e
end
noncomputable def hK:Key->Int
 |.inl i=>hashInt i
 |.inr _=>0
def hT(ks:Qa Key):Int:=a3D (ŋ<|ks.map hK)
def J3(ks:Qa Key):Bool:=ks.all λk=>match k with |.inl _=>ż |.inr _=>Ż
def u7(VF:Qa (Qa Key)):Bool:=VF.all J3 && decide ((VF.map hT).Nodup)
theorem zDS:∀{ks:Qa Key},J3 ks=ż->(τ<|zH P w).hash ks=hT ks:=λ{ks} h=>by
 show a3D (ŋ<|ks.map<|UR w)=_;unfold hT;congr 2;refine Ì λk hk=>?_;have:=List.all_eq_true.mp h k hk;cases k with
 |inl i=>rfl
 |inr x=>cases this
theorem zn8{es:Qa Ů}(hn:(es.map (·.hash)).Nodup){e:Ů}(he:e∈es):(es.filter (·.hash==e.hash)).length<=1:=by
 induction es with
 |nil=>cases he
 |cons x es ih=>
  rw[Ī,ϙ]at hn;rw[Ō];rcases qw.mp he with rfl|V7
  .rw[a5E (by simp)]
   have:es.filter (·.hash==e.hash)=[]:=List.filter_eq_nil_iff.mpr λy hy z=>hn.1<|À.mpr ⟨y,hy,by simpa using z⟩;rw[this];simp
  .have:¬((x.hash==e.hash)=ż):=λz=>hn.1<|À.mpr ⟨e,V7,by simpa using (beq_iff_eq.mp z).symm⟩
   rw[a5F this];exact ih hn.2 V7
section
variable{X:Cx}{s:Qd}
theorem zw5{l:Qa (Qa Key×V)}{m:Qa (Qa Key×Qg×Qc)}(r:KT X.K H l m):m.map (·.1)=l.map (·.1):=by
 induction r with
 |nil=>rfl
 |cons hq t ih=>rw[Ī,Ī,ih,hq.1]
theorem zw6(I:Inv X pins σ H s)(e:Rd H a (.dT kvs))(hh:u7 (kvs.map (·.1))=ż)(h:∀p s',H p=Ž->Inv X pins σ (upd H p<|.dT kvs) s'->Q (.ref p) s'):ĩ (Ĭ X.prog X.w) A (a1P (.type "dict") [.ref a]) Q E s:=by
 have(z,y,xs,r,o,es,ep,h1,h2,h3,h4,h5):=(show zP X.prog X.w X.K H s.heap a (.dT kvs) from DL I.aw e);have(_,_,je,r',dd):=uX I.aZ I.aw e;have hlen:es.size=kvs.length:=by
  have:=congrArg ϥ h4;rw[ś,Ħ,<-RS r]at this;exact this
 have(hi,hn):=ç.mp hh;have hn:=a5I hn;have oX:=zw5 r;have hashes:es.toList.map (·.hash)=(kvs.map (·.1)).map hT:=by
  rw[h4,<-oX,Ł,Ł];refine Ì λx hx=>?_;exact zDS<|List.all_eq_true.mp hi x.1 (by rw[<-oX];exact À.mpr ⟨x,hx,rfl⟩)
 refine zjr y h1 h2 h3 (by omega) (λq hq=>?_) (λq hq=>?_) λh' ⟨o',pw,n1,n2,n3⟩ kk=>?_
 .rw[h4]at hq
  have(x,hx,rfl):=À.mp hq;have key:∀{l:Qa (Qa Key×V)} {m:Qa (Qa Key×Qg×Qc)},KT X.K H l m->∀x∈m,aJ X.K H x.2.1 (x.1.map kV):=by
   intro l m q
   induction q with
   |nil=>intro x hx;cases hx
   |cons hq _ ih=>
    intro x hx;rcases qw.mp hx with e|hx
    .subst e
     rw[<-hq.1];exact hq.2.1
    .exact ih x hx
  exact⟨x.2.1,rfl,(rG I.aZ I.aw<|key r x hx).typeIs⟩
 .rw[<-hashes]at hn
  have:=zn8 hn hq;rw[<-ś,Array.toList_filter];omega
 .refine h _ _ (I.aw.fresh<|qf _) (I.laid (a:=s.heap.objs.size) (o:=.dT kvs) (t':=s.toks) kk (qf _) ⟨z,beq_eq_false_iff_ne.mpr<|ň<|qk I.CC,xs,?_,o',es,pw,n1,n2,n3,h4,h5⟩)
  exact KT.keeps r λb ys hb=>by rw[zu (λz=>by rw[z,I.aw.fresh<|qf _]at hb;cases hb)];exact hb
theorem zn9:fV X (.type "dict") (λxs H Q=>∃a kvs,xs=[.ref a]/\Rd H a (.dT kvs)/\u7 (kvs.map (·.1))=ż/\∀p,H p=Ž->Q (.ref p) (upd H p<|.dT kvs)):=by
 intro pins s σ H xs us Q I r h;have(a,kvs,rfl,hr,hh,q):=h;have(u,rfl,ru):=nv r;cases ru;exact zw6 I hr hh λp s' hp I'=>⟨.ref p,_,I',rfl,q p hp⟩
end
def xr:Qa (D×D)->Qb (Qa<|Qa Key×D)
 |[]=>ž []
 | (k,d)::r=>(cW k).bind λk=>(xr r).bind λr=>ž<|(k,d)::r
def As:U->Qb U
 |.t kvs=>if u7 (kvs.map (·.1))=ż then ž (.t kvs)else Ž
 |.d (.dict kvs)=>if mR kvs=ż then(xr kvs).bind λkvs=>if u7 (kvs.map (·.1))=ż then ž (.t kvs)else Ž else Ž
 |_=>Ž
section
theorem Qt{kvs:Qa (Qa Key×D)}(h:cS K H ws kvs):ws.map (·.1)=kvs.map (·.1):=by
 induction h with
 |nil=>rfl
 |cons hq t ih=>rw[Ī,Ī,ih,hq.1]
theorem Jp:∀{kvs:Qa (D×D)} {ws:Qa (Qa Key×V)} {r:Qa (Qa Key×D)},jJ K H ws kvs->xr kvs=ž r->cS K H ws r
 |[],ws,r,h,e=>by cases h;cases e;exact .nil
 | (k,d)::kvs,ws,r,h,e=>by
  have(k',ek,e):=bQ (show(cW k).bind _=ž r from e);have(r',er,e):=bQ e;cases e;cases h with
  | @cons k2 v _ vs ds hv t=>
   rw[EC]at ek;cases ek;exact .cons ⟨rfl,hv⟩<|Jp t er
theorem zrc:VC K (λxs H Q=>∃a kvs,xs=[.ref a]/\Rd H a (.dT kvs)/\u7 (kvs.map (·.1))=ż/\∀p,H p=Ž->Q (.ref p) (upd H p<|.dT kvs)) (f1 As):=rf λv a u H Q h e q=>by
 unfold As at e;split at e
 .split at e
  rotate_left
  .cases e
  rename_i kvs hh;cases e;have(b,ws,rfl,h1,h2):=h;refine⟨b,ws,rfl,.inl h1,by rw[Qt h2];exact hh,λp hp=>?_⟩;have sm:=zF hp (.dT ws);exact q _ _ sm ⟨p,ws,rfl,zq,h2.kp sm.kp⟩ λ_=>⟨p,rfl,hp⟩
 .split at e
  rotate_left
  .cases e
  rename_i nx;have(r,er,e):=bQ e;split at e
  rotate_left
  .cases e
  rename_i hh;cases e;have(b,o,ws,rfl,h1,h2):=DF.cQ h nx;have kd:=Jp h2 er;refine⟨b,ws,rfl,.inr ⟨o,h1⟩,by rw[Qt kd];exact hh,λp hp=>?_⟩;have sm:=zF hp (.dT ws);exact q _ _ sm ⟨p,ws,rfl,zq,kd.kp sm.kp⟩ λ_=>⟨p,rfl,hp⟩
 .cases e
end
def DB(i j:Int):Prop:=i.natAbs.log2 < 1000000/\j.natAbs.log2 < 1000000
theorem Qs{n:Int}(h:n.natAbs.log2 < 1000000):Builtin.Int.intBits n<=2^20:=by
 refine intBits_le ?_
 by_cases z:n.natAbs=0
 .rw[z];exact a2P _
 .exact qj ((a4A z).mp h) (È (by decide) (by decide))
section
variable{X:Cx}
theorem Aq:bL X (ϊ .Mult) (rI DB λi j=>.int<|i * j):=yf λ_ _ _ _ _ _ _ hc q=>mul_int q<|IntMulOk.of_bits (Qs hc.1)<|Qs hc.2
end
section
def uZ:=qU DB λi j=>.int<|i * j
theorem Ap:VO K (rI DB λi j=>.int<|i * j) uZ:=xm λi j H=>.int _
end
section
variable{ρ:En}{me ma mb mc mk mi md my mv mx mo:ME}{mA mK:MA}{mt mu:MT}{mI:MI}{mg:MG}{m1 m2:MS}{u:U}{x:D}
variable{QE:Ar×En->Prop}{QI:Qa D×En->Prop}
theorem zmk:Wo (xB md my mx ρ) QE=Wo (md ρ) (Co (λp=>(p.1.get p.2).bind λu0=>if tu u0=ż then(my p.2).bind λq=>(mx q.2).bind λz=>(p.1.get z.2).bind λu=>(q.1.get z.2).bind λy=>(z.1.get z.2).bind λx=>(k9 u y).bind λo=>x.da.bind λx=>ž (.u<|.d<|o.getD x,z.2)else Ž) ⟨0⟩ QE):=by
 have e:xB md my mx ρ=(md ρ).bind λp=>(p.1.get p.2).bind λu0=>if tu u0=ż then(my p.2).bind λq=>(mx q.2).bind λz=>(p.1.get z.2).bind λu=>(q.1.get z.2).bind λy=>(z.1.get z.2).bind λx=>(k9 u y).bind λo=>x.da.bind λx=>ž (.u<|.d<|o.getD x,z.2)else Ž:=by
  unfold xB;refine bind_fn λp=>bind_fn λu0=>?_;split
  .refine bind_fn λq=>bind_fn λz=>bind_fn λu=>bind_fn λy=>bind_fn λx=>bind_fn λo=>?_
   cases x<;>rfl
  .rfl
 rw[e,zn]
theorem ztD:Wo (Dk mA ρ) QI=Wo (mA ρ) (Co (λp=>(bJ p.2 p.1).bind λus=>(yO us).bind λds=>ž (ds,p.2)) ⟨0⟩ QI):=by
 show Wo (ō _ _) QI=_;rw[zn]
theorem zpK{kvs:Qa (Qa Key×D)}:tu (.t kvs)=ż:=rfl
theorem Al{a b:Int}(h:a.natAbs.log2 < 1000000)(h2:b.natAbs.log2 < 1000000):uZ (.d<|.int a) (.d<|.int b)=ž (.d<|.int<|a * b):=xk (c:=DB) ⟨h,h2⟩
theorem Ak{g:α->D}{b:α->Bool}{e:α->D}{Q:Qa D×En->Prop}(hz:as.length<=ħ)
  (st:∀a∈as,∀ys,Wo (mg (g a) ρ)<|Co mt ⟨0⟩<|ym nt me ys λai zs=>ai=ρ/\zs=if b a=ż then ys++[e a]else ys) (q:Q ((as.filter b).map e,ρ)):Wo (kD nt mg mt me (as.map g) ρ []) Q:=by
 refine DC (λi ai ys=>ai=ρ/\ys=((as.take i).filter b).map e) (by rw[Ħ];exact hz) (λi ai ys h=>?_) ⟨rfl,rfl⟩ (λi d ai ys hd h=>?_) λai ys h=>?_
 .rw[h.2,Ħ]
  exact qA (Ñ _ _) (by rw[a0L];exact Nat.min_le_left _ _)
 .have(rfl,rfl):=h
  rw[ĭ]at hd;have(a,ha,rfl):=qt.mp hd;have:=st a (Ä ha) (((as.take i).filter b).map e);have en:((as.take<|i+1).filter b).map e=if b a=ż then((as.take i).filter b).map e++[e a]else((as.take i).filter b).map e:=by
   rw[Η,ha,ţ,ĵ];show _++(([a]:Qa α).filter b).map e=_;rw[Ō];split<;>simp
  rw[en];exact this
 .have(rfl,rfl):=h
  rw[Ħ,ő<|qf _];exact q
end
end Internal
namespace Internal
open PySem
noncomputable def rm(n d:Int):Int:=(if d < 0 then -n else n) / (œ n d:Nat)
noncomputable def pG(n d:Int):Int:=(if d < 0 then -d else d) / (œ n d:Nat)
theorem zrd{n d:Int}(hd:d≠0):rm n d * d=n * pG n d/\1<=pG n d/\œ (rm n d) (pG n d)=1/\pG n d<=d.natAbs/\(rm n d).natAbs<=n.natAbs:=by
 have hg:0 < œ n d:=a2R n hd;have(u,hu):=Int.gcd_dvd_left n d;have(v,hv):=Int.gcd_dvd_right n d;have V5:(0:Int) < (œ n d:Nat):=Int.natCast_pos.mpr hg;have hc:œ (n / (œ n d:Nat)) (d / (œ n d:Nat))=1:=Int.gcd_ediv_gcd_ediv_gcd hg;unfold rm pG;generalize (œ n d:Nat)=g at *;have FY:(g:Int)≠0:=by omega
 have eu:n / (g:Int)=u:=by rw[hu];exact ê u FY
 have ev:d / (g:Int)=v:=by rw[hv];exact ê v FY
 have Wv:(-n) / (g:Int)=-u:=by rw[hu,<-a0C];exact ê (-u) FY
 have qV:(-d) / (g:Int)=-v:=by rw[hv,<-a0C];exact ê (-v) FY
 rw[eu,ev]at hc;have g1:1<=g:=hg;have an:n.natAbs=g * u.natAbs:=by rw[hu,ϩ];rfl
 have ad:d.natAbs=g * v.natAbs:=by rw[hv,ϩ];rfl
 have lu:u.natAbs<=n.natAbs:=by rw[an];exact a3T _ hg
 have lv:v.natAbs<=d.natAbs:=by rw[ad];exact a3T _ hg
 by_cases c:d < 0
 .rw[a5E c,a5E c,Wv,qV]
  have hv0:v < 0:=by
   rcases(by omega:v < 0\/0<=v)with z|z
   .exact z
   .have:=a3g (Ξ V5) z
    omega
  refine⟨?_,by omega,?_,by omega,by omega⟩
  .rw[hu,hv]
   simp only[Int.neg_mul,a0C,Int.neg_inj]
   ac_rfl
  .rw[Int.neg_gcd,Int.gcd_neg]
   exact hc
 .rw[a5F c,a5F c,eu,ev]
  have hv0:0 < v:=by
   rcases(by omega:0 < v\/v<=0)with z|z
   .exact z
   .have:=a3g (Ξ V5) (show 0<=-v by omega)
    rw[a0C,<-hv]at this;omega
  refine⟨?_,by omega,hc,by omega,by omega⟩;rw[hu,hv]
  ac_rfl
theorem ztE{n d N D:Int}(hd:d≠0)(h1:1<=D)(hc:œ N D=1)(he:N * d=n * D):N=rm n d/\D=pG n d:=by
 have(e,y1,c,_,_):=zrd (n:=n) hd;generalize rm n d=x at *;generalize pG n d=y at *;have k:N * y=x * D:=by
  have z:(N * y) * d=(x * D) * d:=by grind
  exact ö hd z
 have d1:D∣y:=by
  have t:D∣N * y:=⟨x,by rw[k];ac_rfl⟩;have u:=ó.mpr t;rw[a3Y,hc]at u;simpa using u
 have d2:y∣D:=by
  have t:y∣x * D:=⟨N,by rw[<-k];ac_rfl⟩;have u:=ó.mpr t;rw[a3Y,c]at u;simpa using u
 have l1:=Int.le_of_dvd (by omega) d1;have l2:=Int.le_of_dvd (by omega) d2;have e2:D=y:=by omega
 refine⟨?_,e2⟩;rw[e2]at k;exact ö (by omega) k
theorem Qr(n d:Int){g:Int}(hg:0 < g):n.fdiv (if d < 0 then 0 - g else g)=(if d < 0 then -n else n) / g:=by
 split
 .rw[Int.zero_sub,<-a0t _ (Ξ hg)]
  have:=Int.neg_fdiv_neg (-n) g;rw[Int.neg_neg]at this;exact this
 .rw[a0t _<|Ξ hg]
theorem ztF(x y:Int):œ (if x < 0 then -x else x) (if y < 0 then -y else y)=œ x y:=by
 rw[ZN];split
 .exact Int.gcd_neg
 .rfl
theorem zw7{n d:Int}(hd:d≠0):rm n d=(ū n d).num/\pG n d=((ū n d).den:Int):=by
 have h:=ztE (n:=n) (d:=d) (N:=(ū n d).num) (D:=((ū n d).den:Int)) hd (by have:=(ū n d).den_pos;omega) (by
  have:=(ū n d).reduced;exact this) (by
  have e:ū (ū n d).num ((ū n d).den:Int)=ū n d:=a4T _;rw[Rat.divInt_eq_divInt_iff (by have:=(ū n d).den_pos;omega) hd]at e;rw[e])
 exact⟨h.1.symm,h.2.symm⟩
noncomputable def fR(r:Rat):D:=.tuple [.int r.num,.int (r.den:Int)]
theorem zBp{n d:Int}(hd:d≠0):Ĵ [.int<|rm n d,.int<|pG n d]=fR (ū n d):=by
 have(e1,e2):=zw7 (n:=n) hd;rw[e1,e2];rfl
theorem Dj(r:Rat):1<=(r.den:Int):=by have:=r.den_pos;omega
theorem cop(r:Rat):œ r.num (r.den:Int)=1:=by
 have:=r.reduced;exact this
theorem zw9(a b:Rat):ū (a.num * b.den+b.num * a.den) ((a.den:Int) * b.den)=a+b:=by
 rw[Rat.add_def',<-a5w,a2Q]
theorem Zf(a b:Rat):ū (a.num * b.num) ((a.den:Int) * b.den)=a * b:=by
 rw[Rat.mul_def',<-a5w,a2Q]
theorem ztG(r:Rat):r * (r.den:Rat)=(r.num:Rat):=by
 have e:(r.num:Rat) / ((r.den:Int):Rat)=r:=by rw[<-Rat.divInt_eq_div];exact a4T r
 have n:((r.den:Int):Rat)≠0:=λh=>by
  have:=Rat.intCast_inj.mp (show((r.den:Int):Rat)=((0:Int):Rat) from h);have:=r.den_pos;omega
 have:=Rat.div_mul_cancel (a:=(r.num:Rat)) n;rw[e]at this;exact this
def Bd(M B:Nat)(r:Rat):Prop:=∃k:Int,r * (M:Rat)=(k:Rat)/\k.natAbs<=B
section
variable{M N C:Nat}{r s:Rat}
theorem Bd.le(h:Bd M B r)(c:B<=C):Bd M C r:=let ⟨k,e,b⟩:=h;⟨k,e,qA b c⟩
theorem Bd.size(hM:0 < M)(h:Bd M B r):r.den<=M/\r.num.natAbs<=B:=by
 have(k,e,b):=h;have e2:r.num * (M:Int)=k * (r.den:Int):=by
  have h1:=ztG r;have h2:((r.num * (M:Int):Int):Rat)=((k * (r.den:Int):Int):Rat):=by
   rw[ψ,ψ,<-h1,<-e,a4H,a4H,Rat.mul_assoc,Rat.mul_assoc,Rat.mul_comm (r.den:Rat)]
  exact Rat.intCast_inj.mp h2
 have dv:(r.den:Int)∣(M:Int):=by
  have t:(r.den:Int)∣r.num * (M:Int):=⟨k,by rw[e2,Int.mul_comm]⟩;have u:=ó.mpr t;rw[a3Y,cop]at u;simpa using u
 have(c,hc):=dv;have dp:(0:Int) < r.den:=by have:=r.den_pos;omega
 have c0:0 < c:=by
  rcases(by omega:0 < c\/c<=0)with z|z
  .exact z
  .have:=a3g (Ξ dp) (show 0<=-c by omega)
   rw[a0C,<-hc]at this;omega
 have ek:k=r.num * c:=by
  rw[hc]at e2;have:k * (r.den:Int)=(r.num * c) * (r.den:Int):=by rw[<-e2];ac_rfl
  exact ö (by omega) this
 constructor
 .have:(r.den:Int) * 1<=(r.den:Int) * c:=Int.mul_le_mul_of_nonneg_left (by omega) (by omega)
  omega
 .rw[ek,ϩ]at b
  exact qA (Nat.le_mul_of_pos_right _ (by omega)) b
theorem Bd.add(h:Bd M B r)(h':Bd M C s):Bd M (B+C) (r+s):=by
 have(k,e,b):=h;have(l,f,c):=h';exact⟨k+l,by rw[Rat.add_mul,e,f,a2O],qA (Int.natAbs_add_le _ _)<|Nat.add_le_add b c⟩
theorem Bd.mul(h:Bd M B r)(h':Bd N C s):Bd (M * N) (B * C) (r * s):=by
 have(k,e,b):=h;have(l,f,c):=h';refine⟨k * l,?_,by rw[ϩ];exact Ö b c⟩;rw[ψ,<-e,<-f,Rat.natCast_mul];grind
theorem Bd.neg(h:Bd M B r):Bd M B (-r):=by
 have(k,e,b):=h;exact⟨-k,by rw[a1t,e,Rat.intCast_neg],by rw[Int.natAbs_neg];exact b⟩
theorem Bd.zero:Bd M B 0:=⟨0,by rw[Rat.zero_mul];rfl,Ç _⟩
theorem Bd.int(n:Int):Bd 1 n.natAbs (n:Rat):=⟨n,by rw[show((1:Nat):Rat)=1 from rfl,Rat.mul_one],qf _⟩
end
abbrev Pq(α:Type):=Qa (Qa Int×α)
section
noncomputable def look(p:Pq α)(k:Qa Int):Qb α:=(p.find? λt=>decide<|t.1=k).map (·.2)
noncomputable def cn(p:Pq α)(k:Qa Int)(x:α):Pq α:=if(p.any λt=>decide<|t.1=k)=ż then p.map (λt=>if t.1=k then(t.1,x)else t)else p++[(k,x)]
def cY(p:Pq α):Prop:=(p.map (·.1)).Nodup
theorem Ju{p:Pq α}{k:Qa Int}:look p k=Ž↔(p.any λt=>decide<|t.1=k)=Ż:=by
 induction p with
 |nil=>simp[look]
 |cons t p ih=>
  unfold look at ih ⊢;rw[ķ,ŭ]
  by_cases h:t.1=k
  .simp[h]
  .rw[a5H h,a0E]
   exact ih
theorem Jo{p:Pq α}{k:Qa Int}:(look p k).isSome=(p.any λt=>decide<|t.1=k):=by
 cases h:look p k with
 |none=>rw[Ju.mp h];rfl
 |some x=>
  cases z:(p.any λt=>decide<|t.1=k)with
  |true=>rfl
  |false=>rw[Ju.mpr z]at h;cases h
theorem Qq(p:Pq α)(k:Qa Int)(x:α):(cn p k x).map (·.1)=if(p.any λt=>decide<|t.1=k)=ż then p.map (·.1)else p.map (·.1)++[k]:=by
 unfold cn;split
 .rw[Ł]
  refine Ì λt _=>?_;show(if t.1=k then(t.1,x)else t).1=t.1;split<;>rfl
 .rw[ĵ]
  rfl
theorem IQ{p:Pq α}{k:Qa Int}{x:α}{t:Qa Int×α}(h:t∈cn p k x):(t∈p/\t.1≠k)\/t=(k,x):=by
 unfold cn at h;split at h
 .have(u,hu,rfl):=À.mp h
  by_cases c:u.1=k
  .rw[a5E c];exact .inr (by rw[c])
  .rw[a5F c];exact .inl ⟨hu,c⟩
 .rename_i hn
  rcases Á.mp h with z|z
  .exact .inl ⟨z,λe=>hn<|á.mpr ⟨t,z,a5G e⟩⟩
  .exact .inr (qr.mp z)
theorem cY.put{p:Pq α}(h:cY p)(k:Qa Int)(x:α):cY (cn p k x):=by
 unfold cY;rw[Qq];split
 .exact h
 .rename_i hn
  refine List.nodup_append.mpr ⟨h,by simp,λa ha b hb=>?_⟩;have:b=k:=by simpa using hb
  rw[this];have(t,ht,rfl):=À.mp ha;exact λe=>hn<|á.mpr ⟨t,ht,a5G e⟩
theorem xK(p:Pq α)(k:Qa Int)(x:α):(cn p k x).length<=p.length+1:=by
 unfold cn;split
 .rw[Ħ];omega
 .rw[qu];exact qf _
def iu[Add α][Zero α](acc:Pq α)(ts:Pq α):Pq α:=ts.foldl (λa t=>cn a t.1<|(look a t.1).getD 0+t.2) acc
end
section
variable[Add α][Zero α]
theorem D3(ts:Pq α):∀{acc:Pq α},cY acc->cY (iu acc ts):=by
 induction ts with
 |nil=>exact λh=>h
 |cons t ts ih=>exact λh=>ih<|h.put _ _
theorem Eb(ts:Pq α):∀(acc:Pq α),(iu acc ts).length<=acc.length+ts.length:=by
 induction ts with
 |nil=>intro acc;exact qf _
 |cons t ts ih=>
  intro acc;have h1:=ih (cn acc t.1<|(look acc t.1).getD 0+t.2);have h2:=xK acc t.1 ((look acc t.1).getD 0+t.2);rw[qv];show(iu (cn acc t.1<|(look acc t.1).getD 0+t.2) ts).length<=_;omega
theorem Qp(acc ts:Pq α)(t:Qa Int×α):iu acc (ts++[t])=cn (iu acc ts) t.1 ((look (iu acc ts) t.1).getD 0+t.2):=by
 unfold iu;rw[Θ];rfl
end
theorem oA{p:Pq α}{k:Qa Int}{x:α}(h:look p k=ž x):(k,x)∈p:=by
 unfold look at h;have(t,ht,rfl):=qt.mp h;have h1:=a3e ht;have h2:t.1=k:=by simpa using a5y ht
 rw[<-h2];exact h1
theorem tW{p:Pq α}(nd:cY p){t:Qa Int×α}(h:t∈p):look p t.1=ž t.2:=by
 induction p with
 |nil=>cases h
 |cons u p ih=>
  have ud:u.1∉p.map (·.1)/\cY p:=ø.mp nd;unfold look at ih ⊢;rw[ķ];rcases qw.mp h with rfl|h
  .rw[a5G rfl];rfl
  .rw[a5H λe=>ud.1<|List.mem_map.mpr ⟨t,h,e.symm⟩]
   exact ih ud.2 h
noncomputable def bD(p:Pq Rat)(g:Qa Int->Rat):Rat:=(p.map λt=>t.2 * g t.1).sum
theorem tU(g:Qa Int->Rat):bD [] g=0:=rfl
theorem zW(t:Qa Int×Rat)(p:Pq Rat)(g:Qa Int->Rat):bD (t::p) g=t.2 * g t.1+bD p g:=rfl
theorem Pe(p q:Pq Rat)(g:Qa Int->Rat):bD (p++q) g=bD p g+bD q g:=by
 induction p with
 |nil=>rw[ϵ,tU,Rat.zero_add]
 |cons t p ih=>rw[a5p,zW,zW,ih,Rat.add_assoc]
theorem Qo{p q:Pq Rat}(h:p.Perm q)(g:Qa Int->Rat):bD p g=bD q g:=by
 induction h with
 |nil=>rfl
 |cons t _ ih=>rw[zW,zW,ih]
 |swap t u p=>rw[zW,zW,zW,zW];grind
 |trans _ _ i1 i2=>exact i1.trans i2
theorem HP(p:Pq Rat)(g:Qa Int->Rat):bD (p.filter λt=>decide<|t.2≠0) g=bD p g:=by
 induction p with
 |nil=>rfl
 |cons t p ih=>
  rw[Ō]
  by_cases h:t.2=0
  .rw[a5F (by simp[h]),zW,h,ih];grind
  .rw[a5E (by simp[h]),zW,zW,ih]
theorem ztH{p:Pq Rat}(nd:cY p){k:Qa Int}{x:Rat}(h:look p k=ž x)(y:Rat)(g:Qa Int->Rat):bD (p.map λt=>if t.1=k then(t.1,x+y)else t) g=bD p g+y * g k:=by
 induction p with
 |nil=>cases h
 |cons t p ih=>
  have ud:t.1∉p.map (·.1)/\cY p:=ø.mp nd;rw[Ī,zW,zW]
  by_cases c:t.1=k
  .have e:p.map (λt=>if t.1=k then(t.1,x+y)else t)=p:=by
    have:∀u∈p,(λt:Qa Int×Rat=>if t.1=k then(t.1,x+y)else t) u=id u:=λu hu=>a5F λz=>ud.1<|À.mpr ⟨u,hu,z.trans c.symm⟩;rw[a4B this,a4g]
   have ex:t.2=x:=by
    unfold look at h;rw[ķ,a5G c]at h;exact qy h
   rw[e,a5E c,ex,c];grind
  .have h':look p k=ž x:=by
    unfold look at h ⊢;rw[ķ,a5H c]at h;exact h
   rw[a5F c,ih ud.2 h'];grind
theorem Ze{p:Pq Rat}(nd:cY p)(k:Qa Int)(y:Rat)(g:Qa Int->Rat):bD (cn p k<|(look p k).getD 0+y) g=bD p g+y * g k:=by
 unfold cn;cases h:look p k with
 |none=>
  rw[a5F (by rw[Ju.mp h];exact qg),Pe,zW,tU,Option.getD_none];grind
 |some x=>
  rw[a5E (by rw[<-Jo,h];rfl),Option.getD_some];exact ztH nd h y g
theorem Pd(ts:Pq Rat)(g:Qa Int->Rat):∀{acc:Pq Rat},cY acc->bD (iu acc ts) g=bD acc g+bD ts g:=by
 induction ts with
 |nil=>intro acc _;rw[tU,Rat.add_zero];rfl
 |cons t ts ih=>
  intro acc nd;show bD (iu (cn acc t.1 _) ts) g=_;rw[ih<|nd.put _ _,Ze nd,zW,Rat.add_assoc]
def r8(a b:Qa Int×α):Prop:=dW a.1 b.1=ż
def ins(x:Qa Int×α):Pq α->Pq α
 |[]=>[x]
 |y::l=>if dW x.1 y.1=ż then x::y::l else y::ins x l
def oN:Pq α->Pq α
 |[]=>[]
 |x::l=>ins x<|oN l
theorem Jn(x:Qa Int×α):∀l:Pq α,(ins x l).Perm<|x::l
 |[]=>.refl _
 |y::l=>by
  unfold ins;split
  .exact .refl _
  .exact((Jn x l).cons y).trans (List.Perm.swap x y l)
theorem oz:∀l:Pq α,(oN l).Perm l
 |[]=>.refl _
 |x::l=>(Jn x<|oN l).trans<|(oz l).cons x
theorem Qn(x:Qa Int×α):∀{l:Pq α},l.Pairwise r8->(∀y∈l,x.1≠y.1)->(ins x l).Pairwise r8
 |[],_,_=>by unfold ins;simp
 |y::l,h,ne=>by
  have(h1,h2):=Û.mp h;unfold ins;split
  .rename_i c
   refine Û.mpr ⟨λw hw=>?_,h⟩;rcases qw.mp hw with rfl|hw
   .exact c
   .exact xW c (h1 w hw)
  .rename_i c
   refine Û.mpr ⟨λw hw=>?_,Qn x h2 λw hw=>ne w<|qp _ hw⟩;rcases qw.mp ((Jn x l).mem_iff.mp hw)with rfl|hw
   .exact(AG<|ne y qq).resolve_left c
   .exact h1 w hw
theorem Jm:∀{l:Pq α},cY l->(oN l).Pairwise r8
 |[],_=>.nil
 |x::l,nd=>by
  have ud:x.1∉l.map (·.1)/\cY l:=ø.mp nd;exact Qn x (Jm ud.2) λy hy e=>ud.1<|À.mpr ⟨y,(oz l).mem_iff.mp hy,e.symm⟩
structure Nf (p:Pq Rat):Prop where
 st:p.Pairwise r8
 nz:∀t∈p,t.2≠0
theorem IP{p:Pq Rat}{k:Qa Int}(h:∀t∈p,t.1≠k):bD p (λe=>if e=k then 1 else 0)=0:=by
 induction p with
 |nil=>rfl
 |cons t p ih=>
  rw[zW,ih λu hu=>h u<|qp _ hu,a5F<|h t qq];grind
theorem zDT{a b:Qa Int×α}(h:r8 a b):a.1≠b.1:=λe=>by
 unfold r8 at h;rw[e,vo]at h;cases h
theorem Nf.tail{t:Qa Int×Rat}{p:Pq Rat}(h:Nf (t::p)):Nf p:=⟨(Û.mp h.st).2,λu hu=>h.nz u<|qp _ hu⟩
theorem Nf.iH{t:Qa Int×Rat}{p:Pq Rat}(h:Nf (t::p)):bD (t::p) (λe=>if e=t.1 then 1 else 0)=t.2:=by
 rw[zW,IP λu hu e=>zDT ((List.pairwise_cons.mp h.st).1 u hu) e.symm,a5E rfl];grind
theorem Pc:∀{p q:Pq Rat},Nf p->Nf q->(∀g,bD p g=bD q g)->p=q
 |[],[],_,_,_=>rfl
 |[],t::q,_,hq,h=>by
  have:=h λe=>if e=t.1 then 1 else 0;rw[hq.iH,tU]at this;exact absurd this.symm<|hq.nz t qq
 |t::p,[],hp,_,h=>by
  have:=h λe=>if e=t.1 then 1 else 0;rw[hp.iH,tU]at this;exact absurd this<|hp.nz t qq
 |t::p,u::q,hp,hq,h=>by
  have key:t.1=u.1:=by
   by_cases c:t.1=u.1
   .exact c
   .exfalso
    rcases AG c with z|z
    .have:=h λe=>if e=t.1 then 1 else 0
     rw[hp.iH,IP]at this
     .exact hp.nz t qq this
     .intro w hw e
      rcases qw.mp hw with rfl|hw
      .exact c e.symm
      .have:=xW z ((Û.mp hq.st).1 w hw)
       rw[e,vo]at this;cases this
    .have:=h λe=>if e=u.1 then 1 else 0
     rw[hq.iH,IP]at this
     .exact hq.nz u qq this.symm
     .intro w hw e
      rcases qw.mp hw with rfl|hw
      .exact c e
      .have:=xW z ((Û.mp hp.st).1 w hw)
       rw[e,vo]at this;cases this
  have val:t.2=u.2:=by
   have:=h λe=>if e=t.1 then 1 else 0;rw[hp.iH,key,hq.iH]at this;exact this
  have tl:∀g,bD p g=bD q g:=λg=>by
   have:=h g;rw[zW,zW,key,val]at this;grind
  rw[Pc hp.tail hq.tail tl,Prod.ext key val]
noncomputable def nz(p:Pq Rat):Pq Rat:=p.filter λt=>decide<|t.2≠0
theorem NC{p:Pq Rat}(h:cY p):cY (nz p):=h.sublist (List.filter_sublist.map _)
theorem zBq{p:Pq Rat}(h:cY p):Nf (oN<|nz p):=⟨Jm<|NC h,λt ht=>by
 have:=â.mp ((oz _).mem_iff.mp ht);simpa using this.2⟩
theorem LC:cY ([]:Pq Rat):=a2X
theorem Zd(p:Pq Rat)(g:Qa Int->Rat):bD (oN<|nz p) g=bD p g:=(Qo (oz _) g).trans (HP p g)
def PB(M B:Nat)(p:Pq Rat):Prop:=∀t∈p,Bd M B t.2
theorem IM{M:Nat}{p:Pq Rat}(h:PB M B p)(k:Qa Int):Bd M B ((look p k).getD 0):=by
 cases e:look p k with
 |none=>exact Bd.zero
 |some x=>exact h _<|oA e
theorem OA{M:Nat}(ts:Pq Rat):∀{C:Nat} {acc:Pq Rat},PB M C acc->PB M B ts->PB M (C+ts.length * B) (iu acc ts):=by
 induction ts with
 |nil=>intro C acc h _ t ht;exact(h t ht).le (by rw[š];omega)
 |cons t ts ih=>
  intro C acc h h' u hu;have hp:PB M (C+B) (cn acc t.1<|(look acc t.1).getD 0+t.2):=λv hv=>by
   rcases IQ hv with⟨z,_⟩|rfl
   .exact(h v z).le (by omega)
   .exact(IM h _).add (h' t qq)
  exact(ih hp (λv hv=>h' v<|qp _ hv) u hu).le (by rw[qv,a0B];omega)
theorem pb0{M:Nat}:PB M B []:=λt ht=>by cases ht
noncomputable def CN(p:Pq Rat):Pq Rat:=p.map λt=>(t.1,-t.2)
noncomputable def iJ(a b:Qa Int):Qa Int:=List.zipWith (·+·) a b
def iI[Mul α](p q:Pq α):Pq α:=p.flatMap λs=>q.map λt=>(iJ s.1 t.1,s.2 * t.2)
theorem Zc(p:Pq Rat)(g:Qa Int->Rat):bD (CN p) g=-bD p g:=by
 induction p with
 |nil=>rfl
 |cons t p ih=>
  show bD ((t.1,-t.2)::CN p) g=_;rw[zW,zW,ih];grind
theorem ztJ(s:Qa Int×Rat)(q:Pq Rat)(g:Qa Int->Rat):bD (q.map λt=>(iJ s.1 t.1,s.2 * t.2)) g=s.2 * bD q λb=>g (iJ s.1 b):=by
 induction q with
 |nil=>rw[ŵ,tU,tU,Rat.mul_zero]
 |cons t q ih=>rw[Ī,zW,zW,ih];grind
theorem Zb(p q:Pq Rat)(g:Qa Int->Rat):bD (iI p q) g=bD p λa=>bD q λb=>g (iJ a b):=by
 induction p with
 |nil=>rfl
 |cons s p ih=>
  show bD (_++iI p q) g=_;rw[Pe,ztJ,ih,zW]
theorem Qm[Mul α](p q:Pq α):(iI p q).length=p.length * q.length:=by
 induction p with
 |nil=>simp[iI]
 |cons s p ih=>
  show(_++iI p q).length=_;rw[qu,ih,Ħ,qv,a0B,a1v,a3U]
theorem Za[Mul α]{p q:Pq α}{t:Qa Int×α}(h:t∈iI p q):∃u∈p,∃v∈q,t=(iJ u.1 v.1,u.2 * v.2):=by
 have(u,hu,h):=List.mem_flatMap.mp h;have(v,hv,rfl):=À.mp h;exact⟨u,hu,v,hv,rfl⟩
noncomputable def iv(m:Nat)(r:Rat):Int:=r.num * ((m:Int) / (r.den:Int))
noncomputable def aA(ks:Qa Int):D:=.tuple (ks.map į)
noncomputable abbrev kL(ks:Qa Int):Qa Key:=ks.map Λ
section
variable{c:α->D}
def br(c:α->D)(p:Pq α):Qa (Qa Key×D):=p.map λt=>(kL t.1,c t.2)
def cR(c:α->D)(p:Pq α):Qa (D×D):=p.map λt=>(aA t.1,c t.2)
def iS(c:α->D)(p:Pq α):Qa D:=p.map λt=>.tuple [aA t.1,c t.2]
theorem D2(p:Pq α):(iS c p).length=p.length:=Ħ ..
theorem xA{a b:Qa Int}:kL a=kL b↔a=b:=ID
theorem HN(k:Qa Int):iG (kL k)=aA k:=by
 unfold iG aA kL;rw[Ł];rfl
theorem rN(k:Qa Int):cW (aA k)=ž (kL k):=by rw[<-HN,EC]
theorem ztK(p:Pq α):(br c p).map (λp=>(iG p.1,p.2))=cR c p:=by
 unfold br cR;rw[Ł];refine Ì λt _=>?_;show(iG<|kL t.1,c t.2)=_;rw[HN]
theorem D1(p:Pq α):mR (cR c p)=ż:=by
 cases p with
 |nil=>rfl
 |cons t p=>rfl
theorem Pb(p:Pq α)(k:Qa Int):f9 (br c p) (kL k)=(look p k).map c:=by
 unfold f9 br look
 induction p with
 |nil=>rfl
 |cons t p ih=>
  rw[Ī,ķ,ķ]
  by_cases h:t.1=k
  .rw[a5G h,a5G<|xA.mpr h];rfl
  .rw[a5H h,a5H λz=>h<|xA.mp z];exact ih
theorem ztL(p:Pq α)(k:Qa Int):xl (cR c p) (kL k)=(look p k).map c:=by
 unfold xl cR look
 induction p with
 |nil=>rfl
 |cons t p ih=>
  rw[Ī,ķ,ķ]
  by_cases h:t.1=k
  .rw[a5G h,a5G (show cW (aA t.1)=ž (kL k) by rw[rN,h])];rfl
  .rw[a5H h,a5H (show ¬cW (aA t.1)=ž (kL k) by rw[rN];exact λz=>h<|xA.mp<|qy z)];exact ih
theorem zpP{p:Pq α}{k:Qa Int}:k9 (.t<|br c p) (.d<|aA k)=ž ((look p k).map c):=by
 show(cW<|aA k).map _=_;rw[rN,ϲ,Pb]
theorem zpQ{p:Pq α}{k:Qa Int}:k9 (.d<|.dict<|cR c p) (.d<|aA k)=ž ((look p k).map c):=by
 show(if mR (cR c p)=ż then _ else _)=_;rw[a5E<|D1 p];show(cW<|aA k).map _=_;rw[rN,ϲ,ztL]
theorem ztM{p:Pq α}:mR (cR c p)=ż:=D1 p
theorem ztN{p:Pq α}:(cR c p).map (λx=>x.1)=p.map λt=>aA t.1:=by
 unfold cR;rw[Ł];rfl
theorem zmr{k:Qa Int}:cW (aA k)=ž (kL k):=rN k
theorem HM(p:Pq α)(k:Qa Int)(x:α):eC (br c p) (kL k) (c x)=br c (cn p k x):=by
 have any:((br c p).any λkv=>decide<|kv.1=kL k)=(p.any λt=>decide<|t.1=k):=by
  unfold br;rw[List.any_map];congr 1
  funext t
  exact decide_eq_decide.mpr xA
 unfold eC cn;rw[any];split
 .unfold br
  rw[Ł,Ł];refine Ì λt _=>?_;show(if kL t.1=kL k then _ else _)=(λt:Qa Int×α=>(kL t.1,c t.2)) (if t.1=k then(t.1,x)else t)
  by_cases h:t.1=k
  .rw[a5E<|xA.mpr h,a5E h]
  .rw[a5F λz=>h<|xA.mp z,a5F h]
 .unfold br
  rw[ĵ];rfl
theorem D0(p:Pq α):(br c p).length=p.length:=Ħ ..
theorem CM{p:Pq α}{k:Qa Int}{x:α}(h:p.length < 16777216):Dy (.t<|br c p) (aA k) (c x)=ž (.t<|br c<|cn p k x):=by
 show(cW<|aA k).bind _=_;rw[rN,bd,a5E (by rw[D0];exact h),HM]
theorem zj3{p:Pq α}:u9 (.d<|.dict<|cR c p)=ž (iS c p):=by
 show(if mR (cR c p)=ż then _ else _)=_;rw[a5E<|D1 p];unfold cR iS;rw[Ł];rfl
theorem Ql:∀p:Pq α,xr (cR c p)=ž (br c p)
 |[]=>rfl
 |t::p=>by
  show(cW<|aA t.1).bind _=_;rw[rN,bd];show(xr<|cR c p).bind _=_;rw[Ql p,bd];rfl
theorem ztO(p:Pq α):(br c p).map (·.1)=(p.map (·.1)).map kL:=by
 unfold br;rw[Ł,Ł];rfl
def GY(p:Pq α):Prop:=u7 ((p.map (·.1)).map kL)=ż
theorem zDU{p:Pq α}(h:GY p):As (.d<|.dict<|cR c p)=ž (.t<|br c p):=by
 show(if mR (cR c p)=ż then _ else _)=_;rw[a5E<|D1 p,Ql,bd,a5E (by rw[ztO];exact h)]
theorem GX(k:Qa Int)(d:D):pk (.tuple [aA k,d])=ž k:=Jv k
theorem Oz:∀p:Pq α,yc (iS c p)=ž (p.map (·.1))
 |[]=>rfl
 |t::p=>by
  show(pk<|.tuple [aA t.1,c t.2]).bind _=_;rw[GX,bd];show(yc<|iS c p).bind _=_;rw[Oz p];rfl
theorem zBr{p:Pq α}(nd:cY p)(hl:p.length < xc):HZ (.l<|iS c p)=ž (.l<|iS c<|oN p):=by
 have e:DN (iS c p)=iS c (oN p):=Q2 ((oz p).map _) (List.pairwise_map.mpr<|(Jm nd).imp λ{a b} h=>⟨_,_,GX a.1 _,GX b.1 _,h⟩);show(ž _).bind _=_;rw[bd,Oz,bd,a5E ⟨by unfold iS;rw[Ħ];exact hl,nd⟩,e]
end
theorem YC{r:Rat}:aT (.d<|fR r) (.d<|.int 0)=ž (.d<|.int r.num):=rfl
theorem YB{r:Rat}:aT (.d<|fR r) (.d<|.int 1)=ž (.d<|.int (r.den:Int)):=rfl
theorem Oy(r:Rat):(!decide (r.num=0))=decide (r≠0):=by
 rw[ο,Bool.not_eq_true',decide_eq_false_iff_not,decide_eq_true_iff];exact not_congr Rat.num_eq_zero
theorem Jl{f:α->D}{g:β->D}:∀(as:Qa α) (bs:Qa β),pH (as.map f) (bs.map g)=(as.zip bs).map λt=>.tuple [f t.1,g t.2]
 |[],bs=>by cases bs<;>rfl
 |a::as,[]=>rfl
 |a::as,b::bs=>by rw[Ī,Ī,a1M,Ī,<-Jl as bs];rfl
theorem Rj{f:α->D}{ks:Qa Int}(h:as.length=ks.length):yO [.d<|.tuple<|as.map f,.d<|aA ks]=ž ((as.zip ks).map λt=>.tuple [f t.1,.int t.2]):=by
 show(if _ then _ else _)=_;rw[a5E (by rw[Ħ,Ħ];exact h),Jl]
theorem Jt{as ks:Qa Int}(h:as.length=ks.length):yO [.d<|aA as,.d<|aA ks]=ž ((as.zip ks).map λt=>.tuple [.int t.1,.int t.2]):=Rj (f:=į) h
theorem xx{g:α->D}{e:α->D}{mg:MG}{mt:MT}{me:ME}{ρ:En}{Q:Qa D×En->Prop}(hz:as.length<=16777216)
  (st:∀a∈as,∀ys,Wo (mg (g a) ρ)<|Co mt ⟨0⟩<|ym nt me ys λai zs=>ai=ρ/\zs=ys++[e a]) (q:Q (as.map e,ρ)):Wo (kD nt mg mt me (as.map g) ρ []) Q:=by
 refine Ak (b:=λ_=>ż) (e:=e) (by rw[xf];exact hz) (λa ha ys=>?_) ?_
 .simp only[if_true]
  exact st a ha ys
 .rw[show as.filter (λ_=>ż)=as from List.filter_eq_self.mpr λ_ _=>rfl]
  exact q
theorem zBs:Ĵ [.int 1,.int 1]=fR 1:=rfl
theorem zBt{r:Rat}(h1:r.num.natAbs < 10^n)(h2:r.den < 10^n)(h0:autoParam (0 < n) ă)(h3:autoParam (n<=470) ă):fA 1 (2 * (n+1+2)+3) (fR r):=by
 refine jv (λd hd=>?_)<|qf _;rcases qw.mp hd with rfl|hd
 .exact vk h1 h0 h3
 .rw[qr.mp hd]
  exact vk (by rw[Ŭ];exact h2) h0 h3
theorem zBu{ks:Qa Int}(h:∀k∈ks,k.natAbs < 10^3)(hl:ks.length<=m):fA 1 (m * (4+2)+3) (aA ks):=by
 refine jv (λd hd=>?_) (by rw[Ħ];exact hl);have(k,hk,rfl):=À.mp hd;exact vk<|h k hk
theorem ztT{p:Pq Rat}(h:∀t∈p,t.2.num.natAbs < 10^n/\t.2.den < 10^n)(hk:∀t∈p,∀k∈t.1,k.natAbs < 10^3)(hl:∀t∈p,t.1.length<=3)(hm:p.length<=m)(h0:autoParam (0 < n) ă)(h3:autoParam (n<=470) ă):fA 3 (m * (2 * (2 * (n+1+2)+24+2)+3+2)+3) (.tuple<|iS fR p):=by
 refine jv (λd hd=>?_) (by rw[D2];exact hm);have(t,ht,rfl):=À.mp hd;refine jv (λd hd=>?_)<|qf _;rcases qw.mp hd with rfl|hd
 .exact(zBu (hk t ht)<|hl t ht).mono (qf _) (by omega)
 .rw[qr.mp hd]
  exact(zBt (h t ht).1 (h t ht).2 h0 h3).mono (qf _) (by omega)
theorem ztU{o:Qb Rat}:(Option.map fR o).getD (.tuple [.int 0,.int 1])=fR (o.getD 0):=by cases o<;>rfl
theorem zre[Mul α](p q:Pq α)(s:Qa Int×α):iI (p++[s]) q=iI p q++q.map λt=>(iJ s.1 t.1,s.2 * t.2):=by
 unfold iI;rw[List.flatMap_append];simp
noncomputable def mon:Qa (Rat×Int)->Rat
 |[]=>1
 |t::l=>t.1^t.2.toNat * mon l
def mono(pt:Qa Rat)(e:Qa Int):Rat:=mon (pt.zip e)
noncomputable def hG(s:Int)(q:Pq Rat):Pq Rat:=q.map λt=>(t.1,(s:Rat) * t.2)
theorem zBv{s:Int}(hs:s=1\/s=-1)(r:Rat):Ĵ [.int<|s * r.num,.int (r.den:Int)]=fR ((s:Rat) * r):=by
 rcases hs with rfl|rfl
 .rw[Int.one_mul,show((1:Int):Rat)=1 from rfl,Ζ];rfl
 .rw[show((-1:Int):Rat)=-1 from rfl,a1t,Ζ,Int.neg_mul,Int.one_mul];rfl
theorem Ox{M:Nat}{s:Int}(hs:s=1\/s=-1){q:Pq Rat}(h:PB M B q):PB M B (hG s q):=λt ht=>by
 have(u,hu,rfl):=À.mp ht;rcases hs with rfl|rfl
 .show Bd M B (((1:Int):Rat) * u.2)
  rw[show((1:Int):Rat)=1 from rfl,Ζ];exact h u hu
 .show Bd M B (((-1:Int):Rat) * u.2)
  rw[show((-1:Int):Rat)=-1 from rfl,a1t,Ζ];exact(h u hu).neg
theorem Y9(q:Pq Rat):hG 1 q=q:=by
 unfold hG;have:∀t∈q,(λt:Qa Int×Rat=>(t.1,((1:Int):Rat) * t.2)) t=id t:=λt _=>by
  show(t.1,((1:Int):Rat) * t.2)=t;rw[show((1:Int):Rat)=1 from rfl,Ζ]
 rw[a4B this,a4g]
theorem Y8(q:Pq Rat):hG (-1) q=CN q:=by
 unfold hG CN;refine Ì λt _=>?_;rw[show((-1:Int):Rat)=-1 from rfl,a1t,Ζ]
theorem zrf{p:Pq α}{k:Qa Int}{x:α}(h:∀t∈p,t.1≠k):cn p k x=p++[(k,x)]:=by
 unfold cn;rw[a5F];intro z;have(t,ht,e):=á.mp z;exact h t ht<|a5I e
theorem ztW{bs cs:Pq α}{t:Qa Int×α}(nd:cY (bs++t::cs)):∀u∈bs,u.1≠t.1:=λu hu e=>by
 unfold cY at nd;rw[ĵ,Ī]at nd;exact(List.nodup_append.mp nd).2.2 u.1 (À.mpr ⟨u,hu,rfl⟩) t.1 qq e
theorem Pa(bs:Pq Rat)(t:Qa Int×Rat):nz (bs++[t])=if t.2=0 then nz bs else nz bs++[t]:=by
 unfold nz;rw[ţ,Ō]
 by_cases h:t.2=0
 .rw[a5E h,a5F (by simp[h])];simp
 .rw[a5F h,a5E (by simp[h])];rfl
theorem Ov{bs cs:Pq Rat}{t:Qa Int×Rat}(nd:cY (bs++t::cs)):cn (nz bs) t.1 t.2=nz bs++[t]:=zrf λu hu=>ztW nd u (â.mp hu).1
theorem Ou{f:α->β}:∀{l:Qa α},(l.map f).Nodup->∀a∈l,∀b∈l,f a=f b->a=b
 |[],_,a,ha,_,_,_=>by cases ha
 |x::l,nd,a,ha,b,hb,e=>by
  rw[Ī,ϙ]at nd;rcases qw.mp ha with h1|h1
  .rcases qw.mp hb with h2|h2
   .rw[h1,h2]
   .exact(nd.1<|À.mpr ⟨b,h2,by rw[<-e,h1]⟩).elim
  .rcases qw.mp hb with h2|h2
   .exact(nd.1<|À.mpr ⟨a,h1,by rw[e,h2]⟩).elim
   .exact Ou nd.2 a h1 b h2 e
end Internal
namespace Internal
open PySem PySem.Spec PyProof.Rows
open PySem.AutoSeq1 (wpAny_loadPart')
theorem zod(t:Qg)(items:Array Qc)(n:Nat)(dd:Qb Qg)(sl:Array (Qb Qc))(u:Tok):
  Meets (Builtin.«tuple.__mul__» ⟨[.ref t,.int 1 u],[]⟩) (λ_ R s=>s.heap.get? t=ž {cls:=.type "tuple",dict:=dd,data:=.seq items n,slots:=sl}/\R (.ok<|.ret<|.ref t) s):=
 .of_wp λprog w A R s h=>by
  have(hp,g,d,tk,os):=s;have(hl,h):=h
  wp_walk using wpAny_loadPart' hl
  exact⟨_,rfl,h⟩
theorem zoe(t:Qg)(items:Array Qc)(n:Nat)(dd:Qb Qg)(sl:Array (Qb Qc))(x:Int)(u:Tok)(hf:(decide (x < -2^63) || decide (x>=2^63))=Ż)(h1:(items.isEmpty || x==1)=Ż)(h0:(decide (x<=0) || items.isEmpty)=ż):
  Meets (Builtin.«tuple.__mul__» ⟨[.ref t,.int x u],[]⟩) (λ_ R s=>s.heap.get? t=ž {cls:=.type "tuple",dict:=dd,data:=.seq items n,slots:=sl}/\
   R (.ok<|.ret<|.ref s.heap.objs.size) {s with heap:=s.heap.push {cls:=.type "tuple",data:=.seq #[]}}):=
 .of_wp λprog w A R s h=>by
  have(hp,g,d,tk,os):=s;have(hl,h):=h
  wp_walk using wpAny_loadPart' hl
  refine a3q (by rw[hf];rfl) ?_
  wp_walk using wpAny_loadPart' hl
  exact⟨_,rfl,h⟩
theorem zof(t:Qg)(items:Array Qc)(n:Nat)(dd:Qb Qg)(sl:Array (Qb Qc))(x:Int)(u:Tok)(hf:(decide (x < -2^63) || decide (x>=2^63))=Ż)(h1:(items.isEmpty || x==1)=Ż)(h0:(decide (x<=0) || items.isEmpty)=Ż)
  (hm:¬((items.size:Int) * x > (2^63 - 1) / 8)) (ht:Builtin.Tuple.tupleTooMany ((items.size:Int) * x)=Ż) (hz:(a0i (λx1 x2=>x1++x2) #[] (Ĩ x.toNat items)).size<=ħ):
  Meets (Builtin.«tuple.__mul__» ⟨[.ref t,.int x u],[]⟩) (λ_ R s=>s.heap.get? t=ž {cls:=.type "tuple",dict:=dd,data:=.seq items n,slots:=sl}/\
   R (.ok<|.ret<|.ref s.heap.objs.size) {s with heap:=s.heap.push {cls:=.type "tuple",data:=.seq (a0i (λx1 x2=>x1++x2) #[] (Ĩ x.toNat items))}}):=
 .of_wp λprog w A R s h=>by
  have(hp,g,d,tk,os):=s;have(hl,h):=h
  wp_walk using wpAny_loadPart' hl
  refine a3q (by rw[hf];rfl) ?_
  wp_walk using wpAny_loadPart' hl
  refine a3q (a5H hm) ?_
  wp_walk using wpAny_loadPart' hl
  exact⟨_,rfl,h⟩
theorem zgW:fillsNumberSlot (.type "tuple") "mul"=pure Ż :=
 PySem.fillsNumberSlot_seq (id := "tuple.__mul__") (r:=ž (.builtin "tuple.__rmul__")) F.slot_tuple_mul.lookup (by decide +kernel) F.slot_tuple_rmul.lookup (by decide +kernel)
theorem zkX:seqRepeat? (.type "tuple")=pure (ž<|.builtin "tuple.__mul__"):=by
 unfold seqRepeat?;rw[a4U (T := "tuple") (name := "__mul__") (id := "tuple.__mul__") F.slot_tuple_mul.lookup (by decide +kernel),a4U (T := "tuple") (name := "__rmul__") (id := "tuple.__rmul__") F.slot_tuple_rmul.lookup (by decide +kernel)];rfl
theorem ziO(a:Int)(t:Tok)(l:Qg)(items:Array Qc)(n:Nat)(dd:Qb Qg)(sl:Array (Qb Qc)):
  Meets (Builtin.«int.__rmul__» ⟨[.int a t,.ref l],[]⟩) (λ_ R s=>s.heap.get? l=ž {cls:=.type "tuple",dict:=dd,data:=.seq items n,slots:=sl}/\R (.ok<|.ret Value.notImplemented) s):=
 .of_wp λprog w A R s h=>by have(hp,g,d,tk,os):=s;have(hl,h):=h;wp_walk;exact⟨_,rfl,h⟩
section
variable{X:Cx}
def NB(K:qc):R2:=λx y H Q=>∃l k xs,x=.ref l/\y=.int k/\cH K H l xs/\xs≠[]/\k < 1000000/\-1000000 < k/\xs.length * k.toNat<=1000000/\
 ((k=1/\Q x H)\/(k≠1/\∀p,H p=Ž->Q (.ref p) (upd H p<|.tup (Ĩ k.toNat xs).flatten)))
theorem Ea(K:qc)(hK:autoParam (X.K=K) ć):bL X (ϊ .Mult) (NB K):=by
 subst hK;intro pins s σ H x y v u Q I rx ry h;have(l,k,xs,rfl,rfl,hq,uw,hk,hk0,hz,q):=h;cases rx;have(t,rfl):=ry;have(ah,rv,ht,hzz):=I.tuple hq;obtain⟨⟨c,kM,dt,sl⟩,hl,hc,n,hd⟩:=ht;replace hc:c=.type "tuple":=hc;replace hd:dt=.seq ah.toArray n:=hd;subst hc hd;have lv:=rv.length;have VH:ah.toArray.isEmpty=Ż:=by
  cases ah with
  |nil=>cases rv;exact absurd rfl uw
  |cons a r=>rfl
 have hf:(decide (k < -2^63) || decide (k>=2^63))=Ż:=by
  rw[a4k];exact⟨a5H (by omega),a5H (by omega)⟩
 have f0:a0i (λx1 x2=>x1++x2) #[] (Ĩ k.toNat ah.toArray)=(Ĩ k.toNat ah).flatten.toArray:=by
  have:=Jx ah k.toNat [];rw[ϵ]at this;exact this
 have ln:(Ĩ k.toNat xs).flatten.length<=ħ:=by
  rw[IF,a3R];have:ħ=16777216:=xf;omega
 refine a3Z (T := "tuple") (U := "int") (by decide) ⟨_,hl,rfl⟩ (λs'=>a2q s' k t) zgW F.fills_int_mul a1o zkX F.slot_int_index.lookup
  (υ a1o (a2q s k t) F.entry_int_rmul (F.args_int_rmul_2 _ _) (ziO k t l ah.toArray n kM sl) ⟨hl,rfl,⟨_,hl,rfl⟩,?_⟩)
 rcases q with⟨rfl,q⟩|⟨k1,q⟩
 .exact υ a2S ⟨_,hl,rfl⟩ a2z (a2e _ _) (zod l ah.toArray n kM sl t) ⟨hl,.ref l,H,I,rfl,q⟩
 .have h1:(ah.toArray.isEmpty || k==1)=Ż:=by rw[VH,a0E];simpa using k1
  by_cases k0:k<=0
  .refine υ a2S ⟨_,hl,rfl⟩ a2z (a2e _ _) (zoe l ah.toArray n kM sl k t hf h1 (by rw[a5G k0];rfl)) ⟨hl,.ref _,_,I.laid (t':=s.toks) (o:=.tup []) (λ_ _ q=>qd _ q) (qf _) ⟨Ç _,[],.nil,_,qh _ rfl,rfl,⟨_,rfl⟩,.inl rfl⟩,rfl,?_⟩
   have:=q _ I.fresh;rw[show k.toNat=0 by omega]at this;exact this
  .have m63:(ah.toArray.size:Int) * k<=1000000:=by
    have e1:(ah.toArray.size:Int)=(xs.length:Int):=by rw[ī,lv]
    have e2:k=(k.toNat:Int):=by omega
    rw[e1,e2,<-a2Q];omega
   refine υ a2S ⟨_,hl,rfl⟩ a2z (a2e _ _) (zof l ah.toArray n kM sl k t hf h1 (by rw[a5H k0,VH];rfl) (by omega) (a5H (by rw[show((ħ:Nat):Int)=16777216 by rw[xf];rfl];omega)) ?_) ⟨hl,.ref _,_,I.laid (t':=s.toks) (o:=.tup (Ĩ k.toNat xs).flatten) (λ_ _ q=>qd _ q) (qf _) ⟨ln,(Ĩ k.toNat ah).flatten,rv.rep k.toNat,_,qh _ rfl,rfl,⟨0,?_⟩,.inl rfl⟩,rfl,q _ I.fresh⟩
   .rw[f0,ī,IF,a3R]
    have:ħ=16777216:=xf;rw[<-lv];omega
   .show a4j (a0i (λx1 x2=>x1++x2) #[] (Ĩ k.toNat ah.toArray)) _=_
    rw[f0]
end
def sZ:U->U->Qb U
 |.d (.tuple xs),.d (.int k)=>if xs≠[]/\k < 1000000/\-1000000 < k/\xs.length * k.toNat<=1000000 then ž (.d<|.tuple (Ĩ k.toNat xs).flatten)else Ž
 |_,_=>Ž
theorem IL{vs:Qa V}{ds:Qa D}(h:aI K H vs ds):∀n:Nat,aI K H (Ĩ n vs).flatten (Ĩ n ds).flatten
 |0=>.nil
 |n+1=>by
  rw[ŕ,ŕ,ű,ű];exact h.app<|IL h n
theorem D9:VO K (NB K) sZ:=by
 intro x y a b u H Q ha hb e q;unfold sZ at e;split at e
 .split at e
  rotate_left
  .cases e
  rename_i xs k hc;cases e;have(l,vs,rfl,h1,h2):=DF.aD ha;cases DF.int_inv hb;have ln:=h2.len;refine⟨l,k,vs,rfl,rfl,(aJ.sq h1),λz=>hc.1<|ð (by rw[<-ln,z];rfl),hc.2.1,hc.2.2.1,by rw[ln];exact hc.2.2.2,?_⟩
  by_cases k1:k=1
  .subst k1
   refine .inl ⟨rfl,q _ _ (λ_ _ z=>z) ?_ Nw.data⟩;have e:(Ĩ (1:Int).toNat xs).flatten=xs:=by simp
   rw[e];exact DF.tup h1 h2
  .refine .inr ⟨k1,λp hp=>?_⟩
   have sm:=zF hp (.tup (Ĩ k.toNat vs).flatten);exact q _ _ sm (.tup (.inl zq)<|(IL h2 _).kp sm.kp) Nw.data
 .cases e
theorem Ri{xs:Qa D}{k:Int}(h:0 < xs.length)(h2:k < 1000)(h3:-1000 < k)(h4:xs.length < 1000):sZ (.d<|.tuple xs) (.d<|.int k)=ž (.d<|.tuple (Ĩ k.toNat xs).flatten):=by
 show(if _ then _ else _)=_;rw[a5E ⟨λz=>by rw[z]at h;exact Ò _ h,by omega,by omega,qA (Ö (a2d h4) (show k.toNat<=1000 by omega)) (by decide)⟩]
end Internal
namespace Internal
open PySem PySem.Spec PyProof.Rows
def HL(K:qc)(tk tv:TE):TE:=λσ H Q=>∀p,H p=Ž->tk σ (upd H p<|.dT []) λx H1=>tv σ H1 λy H2=>H2 p=ž (.dT [])/\∃k b,x=.ref b/\aJ K H2 b (k.map kV)/\Q (.ref p) (upd H2 p<|.dT [(k,y)])
theorem ztZ{X:Cx}{pos:Pos}{k v:ĺ}(hu:X.A.units+1 < Ŷ)(hk:PE X k tk)(hv:PE X v tv):PE X (.Dict [ž k] [v] pos) (HL X.K tk tv):=by
 intro pins s σ H Q I q;have hn:=I.aw.fresh (qf s.heap.objs.size);have I1:=I.laid (a:=s.heap.objs.size) (o:=.dT []) (h':=s.heap.push {cls:=.type "dict",data:=.dict #[]}) (t':=s.toks) (λ_ _ q=>qd _ q) (qf _) (Jh s.heap I.CC);refine wpAny_Dict_any rfl rfl (by simp) (by show 1<=15;decide)<|pairTrees_cons_walk<|az (hk pins _ σ _ _ I1<|q _ hn) λu s1 hZ=>?_;have(x,H1,I1,rx,q1):=hZ;refine az (hv pins s1 σ H1 _ I1 q1) λw2 s2 hZ=>?_;have(y,H2,I2,ry,e,ks,b,ex,eb,q2):=hZ;refine pairTrees_nil_walk ?_;subst ex;cases rx;unfold storeAll;rw[a2D];have(z,hd,xs,rel,dd):=DK I2.aZ I2.aw e;cases rel;refine qa<|qa<|wpAny_dictSet_heap (hsz:=Ç _) (show X.A.units < Ŷ from a5l hu) (rG I2.aZ I2.aw eb) dd λh' nK hs=>qb ?_;dsimp only;rw[a1m];refine qb ?_;have(q',es,ep,hq,h2,h3,h4,_,h5):=nK;refine⟨.ref s.heap.objs.size,_,xR (ob:=.dT [(ks,y)]) I2 (by rw[e];exact ŧ) hs ⟨q',hq⟩ ⟨by show 1<=ħ;decide,hd,_,(KT.put (kvs:=[]) .nil ks eb ry).keeps λc ys ec=>?_,q',es,ep,hq,h2,h3,h4,h5⟩,rfl,q2⟩;rw[zu (tI ec e (λz=>nomatch z))];exact ec
theorem I0{X:Cx}{pos:Pos}{k v:ĺ}(hr:aE n X.A)(hk:Wr (PE X k tk))(hv:Wr (PE X v tv)):Wr (PE X (.Dict [ž k] [v] pos)<|HL X.K tk tv):=⟨ztZ (uW hr) hk.run hv.run⟩
section
variable{ρ ρ1 ai:En}
theorem Rs.free{p:Qg}{c o:HO}(r:Rs K ρ σ H)(hc:H p=ž c)(m:Mo c)(n:¬Ow ρ σ p):Rs K ρ σ (upd H p o):=by
 have kp:=jS hc m o;refine⟨r.len,λi u e=>?_,r.apart⟩;have(v,ev,q):=r.rep i u e;refine⟨v,ev,q.kp kp λou a c' ea ha=>?_⟩;have ne:a≠p:=by
  rintro rfl;exact n ⟨i,u,e,ou,by rw[ev,ea]⟩
 rw[zu ne];exact ha
theorem Go.free{p:Qg}{c o:HO}(g:Go K ρ σ H ai H')(hp:H p=Ž)(hc:H' p=ž c)(m:Mo c)(n:¬Ow ai σ p):Go K ρ σ H ai (upd H' p o):=by
 refine⟨g.rs.free hc m n,λa ob ha hn=>?_,g.shr,λa ha=>?_⟩
 .have ne:a≠p:=by
   rintro rfl;rw[hp]at ha;cases ha
  rw[zu ne];exact g.fr a ob ha hn
 .by_cases e:a=p
  .subst e
   exact hp
  .rw[zu e]at ha
   exact g.dm a ha
def Aj(mk mv:ME):ME:=λρ=>(mk ρ).bind λp=>(mv p.2).bind λq=>(p.1.get q.2).bind λk=>(q.1.get q.2).bind λv=>k.da.bind λk=>v.da.bind λv=>(cW k).bind λk=>ž (.u<|.t [(k,v)],q.2)
theorem oC{w:U}{x:D}(h:w.da=ž x):w=.d x:=by
 cases w<;>first | (cases h;rfl) |cases h
theorem IZ{mk mv:ME}(hk:VE K tk mk)(hv:VE K tv mv):VE K (HL K tk tv) (Aj mk mv):=by
 intro ρ σ H a ai Q r e q;obtain⟨⟨a1,ρ1⟩,e1,e⟩:=bQ e;obtain⟨⟨b1,au⟩,e2,e⟩:=bQ e;have(uk,ek,e):=bQ e;have(uv,ev,e):=bQ e;have(dk,MC,e):=bQ e;have(dv,MB,e):=bQ e;have(ks,My,e):=bQ e;cases e;cases oC MC;cases oC MB;intro p hp;have sm:=zF hp (.dT []);have g0:=Go.grow r sm;have n0:¬Ow ρ σ p:=λz=>by
  have(c,hc,_):=r.ow z;rw[hp]at hc;cases hc
 refine hk ρ σ (upd H p<|.dT []) a1 ρ1 _ g0.rs e1 λx H1 g1 k1=>hv ρ1 σ H1 b1 _ _ g1.rs e2 λy H2 g2 k2=>?_;have n1:¬Ow ρ1 σ p:=λz=>n0<|g1.shr.ow z;have n2:¬Ow au σ p:=λz=>n1<|g2.shr.ow z;have sE:H2 p=ž (.dT []):=g2.fr p _ (g1.fr p _ zq n0) n1;have pk:=k1.later g0.rs g1 g2 ek;have pv:=k2.now g1.rs g2 ev;have(b,rfl,hb):=vm pk My;have kp:=jS sE trivial (.dT [(ks,y)]);refine⟨sE,ks,b,rfl,hb,q _ _ (((g0.trans g1).trans g2).free hp sE trivial n2) ⟨⟨p,[(ks,y)],rfl,zq,.cons ⟨rfl,DF.kp kp pv⟩ .nil⟩,λ_=>⟨p,rfl,hp⟩⟩⟩
end
abbrev zBw:=Ip ż
def D8:Qa U->Qb (Qa D)
 |[.d<|.list ds]=>ž<|oB 0 ds
 |_=>Ž
def HK(ma:MA):MI:=λρ=>(ma ρ).bind λp=>(bJ p.2 p.1).bind λus=>(D8 us).bind λds=>ž (ds,p.2)
theorem zt0{ta:TA}{ma:MA}(h:lS K ta ma):VI K (zBw K ta) (HK ma):=by
 intro ρ σ H ds ai R r e q;obtain⟨⟨as,ρ1⟩,e1,e⟩:=bQ e;have(us,eu,e):=bQ e;have(zs,ez,e):=bQ e;cases e;refine h ρ σ H as ρ1 _ r e1 λvs H1 g1 s1=>?_;have rp:=s1.qJ r g1 eu;unfold D8 at ez;split at ez
 .rename_i xs
  cases ez;cases rp with
  |cons h1 t=>
   cases t;have(b,ys,rfl,h1,h2):=DF.lst_inv h1;refine⟨b,rfl,⟨ys,h1.sq⟩,q _ _ g1 λH2 k i=>⟨λd ed=>?_,λei=>?_⟩⟩
   .have(x,ex,rfl):=vC ed
    have(v,ev,dv):=(h2.kp k).get ex;refine⟨⟨ys,v,(h1.kp k).sq,ev⟩,λx H' y=>?_⟩;have(T,nT,rfl,y):=y;cases y ys v (h1.kp k).sq ev;have sm:=zF nT (.tup [.int i,v]);refine⟨sm,.tup (.inl zq)<|.cons ?_<|.cons (dv.kp sm.kp) .nil⟩;rw[Ţ];exact .int _
   .exact⟨ys,(h1.kp k).sq,by rw[vF]at ei;rw[h2.len];exact ei.symm⟩
 .cases ez
noncomputable def xT(hi:Int)(n:Nat):Qa D:=(Ń n).map λi=>.int<|hi - (i:Nat)
theorem JI(hi:Int)(n:Nat):(xT hi n).length=n:=by simp[xT]
theorem SD{hi:Int}{d:D}(h:(xT hi n)[i]?=ž d):i < n/\d=.int (hi - (i:Nat)):=by
 have hl:=(qm.mp h).1;rw[JI]at hl;refine⟨hl,?_⟩;unfold xT at h;rw[ĭ,a1C hl]at h;cases h;rfl
def DA:Qa U->Qb (Qa D)
 |[.d<|.int i,.d<|.int j,.d<|.int (-1)]=>if -(2^62)<=i/\i < 2^62/\-(2^62)<=j/\j < 2^62 then ž (xT i (i - j).toNat)else Ž
 |_=>Ž
def Hb(ma:MA):MI:=λρ=>(ma ρ).bind λp=>(bJ p.2 p.1).bind λus=>(DA us).bind λds=>ž (ds,p.2)
theorem Y7{ta:TA}{ma:MA}(h:lS K ta ma):VI K (NN ta) (Hb ma):=by
 intro ρ σ H ds ai R r e q;obtain⟨⟨as,ρ1⟩,e1,e⟩:=bQ e;have(us,eu,e):=bQ e;have(zs,ez,e):=bQ e;cases e;refine h ρ σ H as ρ1 _ r e1 λvs H1 g1 s1=>?_;have rp:=s1.qJ r g1 eu;unfold DA at ez;split at ez
 .split at ez
  rotate_left
  .cases ez
  rename_i i j hc;cases ez;cases rp with
  |cons h1 t=>
   cases t with
   |cons h2 t=>
    cases t with
    |cons h3 t=>
     cases t;cases DF.int_inv h1;cases DF.int_inv h2;cases DF.int_inv h3;refine⟨i,j,rfl,hc,q _ _ g1 λH k n=>⟨λd ed=>?_,λei=>?_⟩⟩
     .have(hi,rfl):=SD ed
      refine⟨hi,λx H' y=>?_⟩;have(rfl,rfl):=y;exact⟨λ_ _ z=>z,.int _⟩
     .rw[JI]at ei
      exact ñ ei.symm
 .cases ez
section
variable{ρ:En}{mk mv:ME}{mA:MA}{f:Qa D->Qa D}{QE:Ar×En->Prop}{QI:Qa D×En->Prop}
theorem zmt:Wo (Aj mk mv ρ) QE=Wo (mk ρ) (Co (λp=>(mv p.2).bind λq=>(p.1.get q.2).bind λk=>(q.1.get q.2).bind λv=>k.da.bind λk=>v.da.bind λv=>(cW k).bind λk=>ž (.u<|.t [(k,v)],q.2)) ⟨0⟩ QE):=by
 show Wo (ō _ _) QE=_;rw[zn]
theorem zmu:Wo (HK mA ρ) QI=Wo (mA ρ) (Co (λp=>(bJ p.2 p.1).bind λus=>(D8 us).bind λds=>ž (ds,p.2)) ⟨0⟩ QI):=by
 show Wo (ō _ _) QI=_;rw[zn]
theorem zpT:Wo (Hb mA ρ) QI=Wo (mA ρ) (Co (λp=>(bJ p.2 p.1).bind λus=>(DA us).bind λds=>ž (ds,p.2)) ⟨0⟩ QI):=by
 show Wo (ō _ _) QI=_;rw[zn]
theorem Rn{i j:Int}(h:-1000000<=i)(h2:i < 1000000)(h3:-1000000<=j)(h4:j < 1000000):DA [.d<|.int i,.d<|.int j,.d<|.int (-1)]=ž (xT i (i - j).toNat):=by
 show(if _ then _ else _)=_;rw[a5E ⟨by omega,by omega,by omega,by omega⟩]
theorem zt2{ds:Qa D}:D8 [.d<|.list ds]=ž (oB 0 ds):=rfl
end
end Internal
namespace Internal
open PySem
noncomputable def ch:Nat->Nat->Nat
 |_,0=>1
 |0,_+1=>0
 |n+1,k+1=>ch n k+ch n (k+1)
theorem UI{a b:Qa Int}(h:a.length+b.length<=1000):rJ (.d<|aA a) (.d<|aA b)=ž (.d<|aA<|a++b):=by
 have:=Rl (xs:=a.map į) (ys:=b.map į) (by rw[Ħ,Ħ];omega);rw[<-ĵ]at this;exact this
theorem zBx{k:Int}:Ĵ [.int k]=aA [k]:=rfl
end Internal
namespace Internal
open PySem PySem.Spec PyProof.Rows
open PySem.AutoSeq1 (wpAny_loadPart')
open MeetsSeq MeetsSeq2 MeetsSeq3 SeqRoads2
end Internal
namespace Internal
open PySem PySem.Spec PyProof.Rows
end Internal
namespace HT
open PySem PySem.Spec PyProof.Rows
end HT
namespace Internal
open PySem PySem.Spec PyProof.Rows
end Internal
namespace Internal
open PySem PySem.Calls PySem.Spec PyProof.Rows
end Internal
namespace Internal
open PySem PySem.Spec PyProof.Rows
end Internal
namespace Internal
open PySem
end Internal
namespace Internal
open PySem PySem.Spec PyProof.Rows
def NA:R2:=λx y H Q=>∃a b,x=.bl a/\y=.bl b/\Q (.bl (!(a==b))) H
theorem Y6{X:Cx}:bL X (Ň .IsNot) NA:=by
 intro pins s σ H x y v u Q I rx ry h;have(a,b,rfl,rfl,q):=h;cases rx;cases ry;refine qb ?_;refine⟨.bl _,H,I,?_,q⟩;cases a<;>cases b<;>rfl
noncomputable def Dz:U->U->Qb U
 |.d (.bool a),.d (.bool b)=>ž<|.d<|.bool (!(a==b))
 |_,_=>Ž
theorem Y5:VO K NA Dz:=by
 intro x y a b u H Q ha hb e q;unfold Dz at e;split at e
 .cases e
  exact⟨_,_,DF.bT ha,DF.bT hb,q _ _ (dJ.refl H) (DF.bl _) Nw.data⟩
 .cases e
theorem zrg{X:Cx}{s:Qd}{v:V}{r:Qc}{k:Qa Key}{Q:Unit->Qd->Prop}(hu:A.units+1 < Ŷ)(I:Inv X pins σ H s)
  (e:H a=ž (.dT kvs)) (eb:aJ X.K H b (k.map kV)) (l:kvs.length < ħ) (rv:zE v r) (h:∀s',Inv X pins σ (upd H a<|.dT<|dY kvs k v) s'->Q () s'):ĩ (Ĭ X.prog X.w) A (dictSet a (.ref b) r) Q E s:=by
 have(z,hd,xs,rel,dd):=DK I.aZ I.aw e;have hz:xs.length<=ħ:=by rw[<-ų rel];exact z
 have hl:(dY kvs k v).length<=ħ:=by have:=AH kvs k v;omega
 refine wpAny_dictSet_heap (hsz:=hz) (show A.units < Ŷ from a5l hu) (rG I.aZ I.aw eb) dd λh' nK hs=>h _ ?_;have(q,es,ep,hq,h2,h3,h4,_,h5):=nK;refine xR I (by rw[e];exact ŧ) hs ⟨q,hq⟩ ⟨hl,hd,_,(rel.put k eb rv).keeps λc ys ec=>?_,q,es,ep,hq,h2,h3,h4,h5⟩;rw[zu (tI ec e (λz=>nomatch z))];exact ec
section
variable{X:Cx}{s:Qd}{xs:Qa Str}{ts:Qa Str}{fp:Qa Qg}
theorem zrh{J:It}(I:Inv X pins σ H s)(T:Turn X.prog X.w X.K tg J fp it tn)(st:tn 0 s.heap)(hf:∀b∈fp,cK X pins H b):
  Inv X pins σ (upd H s.heap.objs.size<|.dT []) {s with heap:=s.heap.push {cls:=.type "dict",data:=.dict #[]},toks:=s.toks}/\tn 0 (s.heap.push {cls:=.type "dict",data:=.dict #[]})/\(∀b∈fp,cK X pins (upd H s.heap.objs.size<|.dT []) b)/\s.heap.objs.size<=(s.heap.push {cls:=.type "dict",data:=.dict #[]}).objs.size:=by
 refine⟨I.laid (a:=s.heap.objs.size) (o:=.dT []) (t':=s.toks) (λ_ _ q=>qd _ q) (qf _)<|Jh s.heap I.CC,T.keep _ _ _ st λb hb o e=>qd _ e,λb hb=>⟨?_,(hf b hb).2⟩,by rw[ŝ];exact é _⟩;have(o,e,_):=T.obj _ _ st b hb;rw[zu<|qk<|qi e];exact(hf b hb).1
end
section
variable{ρ ai ρ1:En}
theorem Sn.free{A:Qg->Prop}{D:Qg}{c o:HO}(s:Sn K pn aj A H₀ aq ρ σ H)(hc:H D=ž c)(m:Mo c)(n:¬Ow ρ σ D)(hA:A D):Sn K pn aj A H₀ aq ρ σ (upd H D o):=by
 refine⟨s.rs.free hc m n,λa ob h nA=>?_,s.ow,s.pin,λa h=>?_,s.kp.trans<|jS hc m o⟩
 .have ne:a≠D:=by rintro rfl;exact nA hA
  rw[zu ne];exact s.fr a ob h nA
 .by_cases e:a=D
  .subst e;rw[zq]at h;cases h
  .rw[zu e]at h;exact s.dm a h
theorem Nz{D:Qg}{A:Qg->Prop}{qZ:En}{yK:St}{Hx:Hp}(r:Rs K ρ1 σ H1)(hD:H1 D=Ž)(s:Sn K (fP nt js.length) (c0 nt js σ) A (upd H1 D<|.dT []) H1 qZ yK Hx)
  (own:∀(i:Nat) (u:U),nt<=i->qZ[i]?=ž (ž u)->u.own=ż->∃w,(e9 nt js ρ1)[i]?=ž (ž w)/\w.own=ż):¬Ow qZ yK D:=by
 rintro⟨i,u,e,ou,es⟩;rcases s.ow i u D e ou es with⟨hi,_⟩|z
 .have fK:=tX.mp hi
  have(w,ew,ow):=own i u fK.1 e ou;have(p,j,rfl,hj,hr):=xC ew;rw[s.pin _ hi,Hn hj]at es;have e2:σ[j]?=ž (ž<|.ref D):=by
   rw[qC]at es;cases q:σ[j]? with
   |none=>rw[q]at es;cases es
   |some o=>rw[q]at es;exact congrArg ž<|qy es
  have(c,hc,_):=r.ow ⟨j,w,hr,ow,e2⟩;rw[hD]at hc;cases hc
 .rw[zq]at z;cases z
def Ct(nt:Nat)(mg:MG)(mt:MT)(mk mv:ME):Qa D->En->Qa (Qa Key×D)->Qb (Qa (Qa Key×D)×En)
 |[],ρ,ys=>ž (ys,ρ)
 |d::ds,ρ,ys=>if ys.length < ħ then(mg d ρ).bind λρ1=>(mt ρ1).bind λb=>if b.1=ż then(mk b.2).bind λp=>(mv p.2).bind λq=>(p.1.get q.2).bind λuk=>(q.1.get q.2).bind λuv=>uk.da.bind λdk=>uv.da.bind λdv=>(cW dk).bind λk=>
   Ct nt mg mt mk mv ds (reset nt q.2) (eC ys k dv)else Ct nt mg mt mk mv ds (reset nt b.2) ys else Ž
end
section
variable{X:Cx}
theorem Qk:∀(ns:Qa Int),aI K H (ns.map V.int)<|ns.map į
 |[]=>.nil
 |n::ns=>.cons (.int n)<|Qk ns
theorem Ai{g:Qg}(gt:pC K g ns)(hn:autoParam (ns≠[]) ă):VE K (tC<|.ref g) (mC<|.tuple<|ns.map į):=by
 intro ρ σ H a ai Q rs e q;cases e;have(o,i,n,z1,z2,z3,z4,z5):=gt;refine q _ _ (Go.refl rs) ⟨DF.tup (.inr ⟨o,i,n,z1,z2,z3,z4,z5,?_⟩)<|Qk ns,Nw.data⟩;cases ns with
 |nil=>exact absurd rfl hn
 |cons a r=>exact⟨a,_,rfl⟩
end
section
variable{c:β->D}{mI:MI}{mg:MG}{mt:MT}{mk mv me ma:ME}{mA:MA}{ρ:En}{QE:Ar×En->Prop}{QT:Bool×En->Prop}
def zFe(nt:Nat)(mk mv:ME)(ys:Qa (Qa Key×D))(P:En->Qa (Qa Key×D)->Prop)(p:Bool×En):Prop :=
 if p.1=ż then Wo (mk p.2) (Co (λp=>(mv p.2).bind λq=>(p.1.get q.2).bind λuk=>(q.1.get q.2).bind λuv=>uk.da.bind λdk=>uv.da.bind λdv=>(cW dk).bind λk=>ž (reset nt q.2,eC ys k dv)) ⟨0⟩ λz=>P z.1 z.2)else P (reset nt p.2) ys
def dcP(l:Pq β):Pq β:=l.foldl (λys t=>cn ys t.1 t.2) []
theorem zt3{g:α->D}{b:α->Bool}{k:α->Qa Int}{v:α->β}{Q:Qa (Qa Key×D)×En->Prop}(hz:as.length<=16777216)
  (st:∀a∈as,∀ys:Pq β,Wo (mg (g a) ρ)<|Co mt ⟨0⟩<|zFe nt mk mv (br c ys) λai zs=>ai=ρ/\zs=br c (if b a=ż then cn ys (k a) (v a)else ys))
  (q:Q (br c<|dcP<|(as.filter b).map λa=>(k a,v a),ρ)):Wo (Ct nt mg mt mk mv (as.map g) ρ []) Q:=by
 have main:∀(es:Qa α) (acc:Pq β),(∀a∈es,a∈as)->acc.length+es.length<=16777216->Q (br c<|((es.filter b).map λa=>(k a,v a)).foldl (λys t=>cn ys t.1 t.2) acc,ρ)->Wo (Ct nt mg mt mk mv (es.map g) ρ<|br c acc) Q:=by
  intro es
  induction es with
  |nil=>intro acc _ _ q;exact⟨_,rfl,q⟩
  |cons a es ih=>
   intro acc hm hl q;rw[qv]at hl;obtain⟨ρ1,e1,⟨bb,au⟩,e2,kk⟩:=st a (hm a qq) acc;rw[Ī];unfold Ct;rw[a5E (by rw[D0];show _ < 16777216;omega),zn];refine⟨ρ1,e1,?_⟩;rw[lA,zn];refine⟨_,e2,?_⟩;rw[lA];rw[Ō]at q;have pl:=xK acc (k a) (v a);cases bb with
   |false=>
    have(e3,e4):=kk;rw[a5F qg,e3,e4]
    by_cases hb:b a=ż
    .rw[a5E hb]
     rw[a5E hb]at q;exact ih _ (λx hx=>hm x<|qp _ hx) (by omega) q
    .rw[a5F hb]
     rw[a5F hb]at q;exact ih _ (λx hx=>hm x<|qp _ hx) (by omega) q
   |true=>
    rw[a5E rfl,zn];have(p,e3,kk):=kk;refine⟨p,e3,?_⟩;rw[lA];have(z,e4,e5,e6):=kk;have(q1,f1,e4):=bQ e4;have(uk,f2,e4):=bQ e4;have(uv,f3,e4):=bQ e4;have(dk,f4,e4):=bQ e4;have(dv,f5,e4):=bQ e4;have(kk,f6,e4):=bQ e4;cases e4;rw[f1,bd,f2,bd,f3,bd,f4,bd,f5,bd,f6,bd];dsimp only at e5 e6;rw[e5,e6]
    by_cases hb:b a=ż
    .rw[a5E hb]
     rw[a5E hb]at q;exact ih _ (λx hx=>hm x<|qp _ hx) (by omega) q
    .rw[a5F hb]
     rw[a5F hb]at q;exact ih _ (λx hx=>hm x<|qp _ hx) (by omega) q
 exact main as [] (λ_ h=>h) (by simpa using hz) q
end
section
variable{X:Cx}{pos:Pos}{i v f:ĺ}{tx:TE}{k:Nat}(K:qc)(hK:X.K=K)
include hK
end
end Internal
namespace Internal
open PySem PySem.Calls PySem.Spec PyProof.Rows
section
def MK:U->Qb (Qa<|Qa Key×D)
 |.t kvs=>ž kvs
 |.d (.dict ds)=>if mR ds=ż then xr ds else Ž
 |_=>Ž
theorem zBy{v:V}{u:U}{kvs:Qa (Qa Key×D)}(h:Rp K H v u)(e:MK u=ž kvs):∃a ws,v=.ref a/\Rd H a (.dT ws)/\cS K H ws kvs:=by
 unfold MK at e;split at e
 .cases e
  have(a,ws,rfl,h1,h2):=h;exact⟨a,ws,rfl,.inl h1,h2⟩
 .split at e
  .rename_i nx
   have(a,o,ws,rfl,h1,h2):=DF.cQ h nx;exact⟨a,ws,rfl,.inr ⟨o,h1⟩,Jp h2 e⟩
  .cases e
 .cases e
end
end Internal
namespace Internal
open PySem PySem.Spec PyProof.Rows
section
noncomputable def nU:U->U->Qb U
 |.l xs,.d (.int k)=>if -1000000 < k/\k < 1000000/\xs.length * k.toNat<=ħ then ž (.l (Ĩ k.toNat xs).flatten)else Ž
 |_,_=>Ž
theorem D7:VO K U0 nU:=by
 intro x y a b u H Q ha hb e q;unfold nU at e;split at e
 .split at e
  .rename_i xs k hz
   cases e;have(p,us,rfl,h1,h2):=ha;cases DF.int_inv hb;refine⟨p,k,us,rfl,rfl,h1,by omega,by omega,by rw[h2.len];exact hz.2.2,λr hr=>?_⟩;have s:=zF hr (.lst (Ĩ k.toNat us).flatten);exact q _ _ s ⟨r,_,rfl,zq,(IL h2 _).kp s.kp⟩ λ_=>⟨r,rfl,hr⟩
  .cases e
 .cases e
end
theorem J1:∀{us:Qa α},us.length=1->∃a,us=[a]
 |[a],_=>⟨a,rfl⟩
theorem CL:∀{us:Qa α},us.length=2->∃a b,us=[a,b]
 |[a,b],_=>⟨a,b,rfl⟩
theorem Kh{us:Qa α}(h:us.length=3):∃a b c,us=[a,b,c]:=by
 cases us with
 |nil=>cases h
 |cons a us=>
  have(b,c,rfl):=CL (a1A h);exact⟨a,b,c,rfl⟩
theorem Kg{us:Qa α}(h:us.length=4):∃a b c d,us=[a,b,c,d]:=by
 cases us with
 |nil=>cases h
 |cons a us=>
  have(b,c,d,rfl):=Kh (a1A h);exact⟨a,b,c,d,rfl⟩
theorem pE{us:Qa α}(h:us.length=5):∃a b c d e,us=[a,b,c,d,e]:=by
 cases us with
 |nil=>cases h
 |cons a us=>
  have(b,c,d,e,rfl):=Kg (a1A h);exact⟨a,b,c,d,e,rfl⟩
structure Zs where
 P:Qe
 w:Qh
 K:qc
 mg:Str->Qb Qc
 base:Ļ
def bP(K:qc)(x:Str)(st:Ś):Prop:=∃(f:Qg) (fd:ϋ),kU K x x st f fd/\Ĳ K İ x=ž (ž<|.ref f)
theorem fnK{f:Qg}{oc:Qc}{od an:Qb Qg}{kV doc pm bq ct:Qc}(a:Ĳ K İ x=ž (ž<|.ref f))(l:K.lookup f=ž ⟨oc,od,.func<|Ū x x (p6 st) (j6 st) (zT st) .none kV doc pm an bq ct,nH⟩)
  (c:Α K bq x=ż) (k:ť K (.ref f)=ż):bP K x st:=⟨f,_,HU l c k,a⟩
def bU(Z:Zs)(x:Str)(st:Ś):Prop:=∃(f:Qg) (fd:ϋ),kU Z.K x x st f fd/\Z.mg x=ž (.ref f)
theorem bP.z{base:Ļ}(a:bP K x st)(X:K.In h)(G:h.Ns İ mg):bU ⟨P,w,K,mg,base⟩ x st:=by
 have(f,fd,F,g):=a;exact⟨f,fd,F,Õ X G g⟩
abbrev Zs.C(Z:Zs)(x:Str)(k:Nat)(ps:Qa Str)(n:Nat)(F:FD):Prop:=M0 Z.P Z.w Z.K Z.mg Z.base x k ps (qH Z.K n F)
abbrev Zs.X(Z:Zs)(x:Str)(k:Nat)(ps:Qa Str)(n:Nat)(F:FX):Prop:=MZ Z.P Z.w Z.K Z.mg Z.base x k ps (spX Z.K n F)
section
variable{Z:Zs}{ps:Qa Str}{k nn:Nat}{m:MS}{f:Qg}
abbrev Ha(Z:Zs)(x:Str)(st:Ś)(k:Nat)(pn:Qa Nat)(m:MS)(N:Qa Str)(f:Qg):Prop:=∀{bq:Qc} {A:Qf} {outer:Qa Env} {s:Qd} {H:Hp} {E:XK},N.Nodup->aE k (A.deeper<|a0X x (zT st) s.heap.objs.size f bq)->
 ∃t,VS Z.K pn Xo t m/\Wr (fN (pM jK Z.P Z.w Z.K Z.mg Z.base N x (zT st) f bq A outer s H E).uc (j6 st) t)
theorem Kf{p:Prop}(h:p:=by exact⟨rfl,rfl,rfl,by decide +kernel,rfl,by decide +kernel,by decide +kernel⟩):p:=h
theorem Ĥ(h:True:=by exact Kf):True:=h
abbrev ĥ:=Ĥ._auto_1
theorem Vs(F:kU Z.K x x st f fd)(N:Qa Str)(bZ:Ha Z x st k pn m N f)(S:autoParam (bE N ps<|zT st) ĥ)(yt:autoParam (ps.length=n) ć)(hN:autoParam (N.length=nn) ć)(yu:autoParam (n<=nn) ă):
  cD Z.P Z.w Z.K Z.mg Z.base jK (k+1) f fd ps (qH Z.K n<|bA nn pn m):=F.Vu S yt hN yu λbq A outer s H E hr=>let ⟨t,a,b⟩:=bZ S.nd hr;⟨t,b,a⟩
theorem cc(A:bU Z x st)(N:Qa Str)(bZ:∀{f},Ha Z x st k pn m N f)(S:autoParam (bE N ps<|zT st) ĥ)(yt:autoParam (ps.length=n) ć)(hN:autoParam (N.length=nn) ć)(yu:autoParam (n<=nn) ă)
  (hb:∀(kV doc pm:Qc) (an:Qb Qg) (bq ct:Qc) (us:Qa Qc),us.length=ps.length->a3I (Ū x x (p6 st) (j6 st) (zT st) .none kV doc pm an bq ct) ⟨us,[]⟩=pure (ps.zip us):=by
   intro _ _ _ _ _ _ us hl
   first
   | (have(_,rfl):=J1 hl;rfl)
   | (have(_,_,rfl):=CL hl;rfl)
   | (have(_,_,_,rfl):=Kh hl;rfl)
   | (have(_,_,_,_,rfl):=Kg hl;rfl)
   | (have(_,_,_,_,_,rfl):=pE hl;rfl)
   | (cases(ð hl);rfl)):Z.C x (k+1) ps n (bA nn pn m):=
 let ⟨f,fd,F,g⟩:=A;⟨⟨f,fd,Vs F N bZ S yt hN yu,F.binds hb,F.kp,g⟩⟩
end
theorem Qj{ρ:En}{u:U}(h:(ρ[i]?).join=ž u):ρ[i]?=ž (ž u):=by
 cases e:ρ[i]? with
 |none=>rw[e]at h;cases h
 |some o=>
  rw[e]at h;cases h;rfl
section
variable{ρ:En}
theorem zt5{u:U}(r:Rs K ρ σ H)(hi:i∉js)(e:ρ[i]?=ž (ž u))(o:u.own=ż)(es:σ[i]?=ž (ž<|.ref a)):¬lY ρ σ js a:=by
 rintro⟨p,j,w,hp,ej,ow,pA⟩;cases r.apart i j u w e ej o ow (by rw[es,pA]);exact hi<|Ä hp
end
end Internal
namespace Internal
open PySem
section
variable{a:α}{f:α->Qb β}{R:β->Prop}{t:Ph f}
theorem YA:Wo (ž a) (Co f t R)=Wo (f a) R:=zZ
theorem Yz{x:Fl}{Q:Fl->Prop}{P:En->Prop}:Wo (ž x) (tw Q P)=tw Q P x:=zZ
end
end Internal
namespace Internal
open PySem PySem.Spec PyProof.Rows
end Internal
namespace Internal
open PySem PySem.Spec
def Tt(b:Bool):Prop:=b=ż
theorem Yy{b:Bool}(h:b=ż):Tt b:=h
noncomputable def yG(ρ:En)(i:Nat):Bool:=((ρ[i]?).join).isSome
noncomputable def gt(ρ:En)(i:Nat):U:=((ρ[i]?).join).getD (.d .none)
theorem zDW{ρ:En}:gt ρ i=((ρ[i]?).join).getD (.d .none):=rfl
theorem zDX{u v:U}:(ž u:Qb U).getD v=u:=rfl
theorem O9{ρ:En}(h:yG ρ i=ż):(ρ[i]?).join=ž (gt ρ i):=by
 unfold yG at h;unfold gt;cases e:(ρ[i]?).join with
 |none=>rw[e]at h;cases h
 |some u=>rfl
def wI(ρ:En):Ar->Bool
 |.s i=>yG ρ i
 |.u _=>ż
def ag(ρ:En):Ar->U
 |.s i=>gt ρ i
 |.u x=>x
theorem zDY{ρ:En}:ag ρ (.s i)=gt ρ i:=rfl
theorem zDZ{ρ:En}{x:U}:ag ρ (.u x)=x:=rfl
theorem Es{ρ:En}{a:Ar}(h:wI ρ a=ż):a.get ρ=ž (ag ρ a):=by
 cases a with
 |s i=>exact O9 h
 |u x=>rfl
def gs(ρ:En)(as:Qa Ar):Qa U:=as.map (ag ρ)
theorem zD0{ρ:En}:gs ρ []=[]:=rfl
theorem zD1{ρ:En}{a:Ar}{as:Qa Ar}:gs ρ (a::as)=ag ρ a::gs ρ as:=rfl
theorem HJ{ρ:En}:∀{as:Qa Ar},as.all (wI ρ)=ż->bJ ρ as=ž (gs ρ as)
 |[],_=>rfl
 |a::as,h=>by
  rw[Ϝ,a1q]at h;rw[SN,Es h.1,bd,HJ h.2];rfl
noncomputable def Gd{α:Type}(m:En->Qb α)(ρ:En):Qb α:=m ρ
def Cu(ρ:En)(t:Ph ρ)(Q:Ar×En->Prop)(u:U):Prop:=Q (.u u,ρ)
def Cw(ρ:En)(as:Qa Ar)(t:Ph ρ)(Q:Ar×En->Prop)(o:U×Qa U):Prop:=Q (.u o.1,wb ρ as o.2)
def LJ(f:U->Qb U)(p:Ar×En):Qb (Ar×En):=(p.1.get p.2).bind λx=>(f x).bind λu=>ž (.u u,p.2)
noncomputable def Ny(mA:MA)(p:Ar×En):Qb (Qa Ar×En):=(mA p.2).bind λq=>ž (p.1::q.1,q.2)
noncomputable def OD(a:Ar)(q:Qa Ar×En):Qb (Qa Ar×En):=ž (a::q.1,q.2)
def LM(f:Qa U->Qb U)(p:Qa Ar×En):Qb (Ar×En):=(bJ p.2 p.1).bind λus=>(f us).bind λu=>ž (.u u,p.2)
def CK(f:FD)(p:Qa Ar×En):Qb (Ar×En):=if gY p.2 p.1=ż then(bJ p.2 p.1).bind λus=>(f us).bind λo=>ž (.u o.1,wb p.2 p.1 o.2)else Ž
def Ke(i:Nat)(p:Ar×En):Qb Fl:=(put p).bind λq=>ž<|.nx<|q.2.set i<|some q.1
def kB(p:Ar×En):Qb (Bool×En):=(p.1.get p.2).bind λu=>u.wH.bind λb=>ž (b,p.2)
noncomputable def FC(m1 m2:MS)(p:Bool×En):Qb Fl:=if p.1=ż then m1 p.2 else m2 p.2
noncomputable def G9(p:Ar×En):Qb Fl:=ž (.nx p.2)
section
variable{γ:Type}{ρ:En}{ma mb me:ME}{mA:MA}{mt:MT}{m1 m2:MS}{u x y:U}{d:D}{a b:Ar}{as:Qa Ar}{f:U->Qb U}{f2:U->U->Qb U}{fl:Qa U->Qb U}{F:FD}
variable{QE:Ar×En->Prop}{QA:Qa Ar×En->Prop}{QT:Bool×En->Prop}{QS:Fl->Prop}
theorem Yx{m:En->Qb α}{Q:α->Prop}:Wo (Gd m ρ) Q=Wo (m ρ) Q:=rfl
theorem Yw{g:Ar×En->Qb β}{t:Ph ρ}{t2:Ph g}{R:β->Prop}:Cu ρ t (Co g t2 R) u=Wo (g (.u u,ρ)) R:=rfl
theorem zt8{g:Ar×En->Qb β}{t:Ph g}{R:β->Prop}(h:Tt (yG ρ i)):Wo (zi i ρ) (Co g t R)=Wo (g (.s i,ρ)) R:=by
 rw[Qi,O9 h,zZ,lA,zZ];rfl
theorem zD2{g:Ar×En->Qb β}{t:Ph g}{R:β->Prop}:Wo (mC d ρ) (Co g t R)=Wo (g (.u<|.d d,ρ)) R:=U9
theorem zpW(h:Tt (wI ρ a && wI ρ b)):Wo (Dc f2 a (b,ρ)) QE=Wo (f2 (ag ρ a)<|ag ρ b) (Cu ρ ⟨0⟩ QE):=by
 have(h1,h2):=ç.mp h;unfold Dc;rw[Es h1,bd,Es h2,bd,zn];exact congrArg (Wo _)<|funext λ_=>zZ
theorem Yv:Wo (cX f ma ρ) QE=Wo (ma ρ) (Co (LJ f) ⟨0⟩ QE):=zDP
theorem zt9(h:Tt (wI ρ a)):Wo (LJ f (a,ρ)) QE=Wo (f<|ag ρ a) (Cu ρ ⟨0⟩ QE):=by
 unfold LJ;rw[Es h,bd,zn];exact congrArg (Wo _)<|funext λ_=>zZ
theorem zpX:Wo (ze me mA ρ) QA=Wo (me ρ) (Co (Ny mA) ⟨0⟩ QA):=ZY
theorem zmx:Wo (Ny mA (a,ρ)) QA=Wo (mA ρ) (Co (OD a) ⟨0⟩ QA):=zn
theorem zj4{g:Qa Ar×En->Qb β}{t:Ph g}{R:β->Prop}:Wo (OD a (as,ρ)) (Co g t R)=Wo (g (a::as,ρ)) R:=zZ
theorem zua{g:Qa Ar×En->Qb β}{t:Ph g}{R:β->Prop}:Wo (zp ρ) (Co g t R)=Wo (g ([],ρ)) R:=P9
theorem YT:Wo (bK fl mA ρ) QE=Wo (mA ρ) (Co (LM fl) ⟨0⟩ QE):=zDQ
theorem zub(h:Tt (as.all<|wI ρ)):Wo (LM fl (as,ρ)) QE=Wo (fl<|gs ρ as) (Cu ρ ⟨0⟩ QE):=by
 unfold LM;rw[HJ h,bd,zn];exact congrArg (Wo _)<|funext λ_=>zZ
theorem zuc:Wo (aO F mA ρ) QE=Wo (mA ρ) (Co (CK F) ⟨0⟩ QE):=zBh
theorem zpY(h:Tt (gY ρ as && as.all (wI ρ))):Wo (CK F (as,ρ)) QE=Wo (F<|gs ρ as) (Cw ρ as ⟨0⟩ QE):=by
 have(h1,h2):=ç.mp h;unfold CK;rw[a5E h1,HJ h2,bd,zn];exact congrArg (Wo _)<|funext λ_=>zZ
theorem YS{us:Qa U}{g:Ar×En->Qb β}{t:Ph ρ}{t2:Ph g}{R:β->Prop}:Cw ρ as t (Co g t2 R) (u,us)=Wo (g (.u u,wb ρ as us)) R:=rfl
theorem zud:Wo (aV i me ρ) QS=Wo (me ρ) (Co (Ke i) ⟨0⟩ QS):=zBi
theorem zpZ{t:Ph (nV m2)}:Wo (Ke i (.u u,ρ)) (Co (nV m2) t QS)=Wo (Gd m2<|ρ.set i<|some u) QS:=zZ
theorem zD3:Wo (mB me ρ) QT=Wo (me ρ) (Co kB ⟨0⟩ QT):=zFb
theorem YR{c:Bool}{g:Bool×En->Qb β}{t:Ph g}{R:β->Prop}:Wo (kB (.u<|.d<|.bool c,ρ)) (Co g t R)=Wo (g (c,ρ)) R:=zZ
theorem zue:Wo (bV mt m1 m2 ρ) QS=Wo (mt ρ) (Co (FC m1 m2) ⟨0⟩ QS):=zBj
theorem zuf:Wo (FC m1 m2 (ż,ρ)) QS=Wo (m1 ρ) QS:=rfl
theorem zug:Wo (FC m1 m2 (Ż,ρ)) QS=Wo (m2 ρ) QS:=rfl
theorem zp0:Wo (jc me ρ) QS=Wo (me ρ) (Co G9 ⟨0⟩ QS):=ZX
theorem zmy{t:Ph (nV m2)}:Wo (G9 (a,ρ)) (Co (nV m2) t QS)=Wo (Gd m2 ρ) QS:=zZ
theorem zp1{t:Ph (nV m2)}:Wo (cF ρ) (Co (nV m2) t QS)=Wo (Gd m2 ρ) QS:=Rm
theorem zp2{p:Qa Ar×En}:CK F p=if gY p.2 p.1=ż then(bJ p.2 p.1).bind λus=>(F us).bind λo=>ž (.u o.1,wb p.2 p.1 o.2)else Ž:=rfl
theorem zp3{p:Ar×En}:Ke i p=(put p).bind λq=>ž (.nx<|q.2.set i<|some q.1):=rfl
theorem YQ{p:Ar×En}:kB p=(p.1.get p.2).bind λu=>u.wH.bind λb=>ž (b,p.2):=rfl
theorem zuh{p:Bool×En}:FC m1 m2 p=if p.1=ż then m1 p.2 else m2 p.2:=rfl
theorem zmz{p:Ar×En}:G9 p=ž (.nx p.2):=rfl
end
end Internal
namespace Internal
open PySem PySem.Spec PyProof.Rows
section
theorem aJ.obj{vs:Qa V}(fJ:K.In h)(ok:b9 P w K H h)(e:aJ K H a vs):∃o items n,h.get? a=ž o/\o.cls=.type "tuple"/\o.data=.seq items n/\zJ vs items.toList:=by
 rcases e with e|⟨o,ah,n,hk,hc,hs,_,r,_⟩
 case inr=>exact⟨o,ah,n,fJ a o hk,hc,hs,r⟩
 obtain⟨_,ah,r,o,h1,h2,⟨n,h3⟩,_⟩:=(show zP P w K H h a (.tup vs) from ok a _ e);exact⟨o,ah.toArray,n,h1,h2,h3,by simpa using r⟩
theorem UQ:∀{ks:Qa Key} {us:Qa Qc},zJ (ks.map kV) us->aP (LR P w) h ks us
 |[],_,r=>by rw[ŵ]at r;cases r;exact .nil
 |k::ks,_,r=>by
  rw[Ī]at r;cases r with
  |cons h t=>exact .cons (uY h)<|UQ t
theorem N0.is{ks:Qa Key}(fJ:K.In h)(ok:b9 P w K H h)(e:N0 K H ks a):gZ (LR P w) h ks a:=by
 have(o,ah,n,h1,h2,h3,r):=aJ.obj fJ ok e;exact⟨o,ah,n,h1,h2,h3,UQ r⟩
theorem UP[DecidableEq J]{I:IK P w J}{R:Qa J->Qg->Prop}(hR:∀ks b,R ks b->gZ I h ks b):∀{xs:Qa (Key ⊕ Qa J)} {vs:Qa V} {us:Qa Qc},Μ (NI R) xs vs->zJ vs us->aP (yn I) h xs us
 |[],_,_,p,r=>by cases p;cases r;exact .nil
 |x::xs,_,_,p,r=>by
  cases p with
  | @cons _ v _ vs' hx t=>
   cases r with
   |cons rv rt=>
    refine .cons ?_<|UP hR t rt;cases x with
    |inl k=>cases(show v=kV k from hx);exact uY rv
    |inr ks=>
     have(b,rfl,hb):=(show ∃b,v=.ref b/\R ks b from hx);cases rv;exact⟨b,rfl,hR ks b hb⟩
theorem jn.is[DecidableEq J]{I:IK P w J}{R:Qa J->Qg->Prop}{xs:Qa (Key ⊕ Qa J)}(fJ:K.In h)(ok:b9 P w K H h)(hR:∀ks b,R ks b->gZ I h ks b)(e:jn K H R xs a):gZ (yn I) h xs a:=by
 have(vs,e1,e2):=e;have(o,ah,n,h1,h2,h3,r):=aJ.obj fJ ok e1;exact⟨o,ah,n,h1,h2,h3,UP hR e2 r⟩
theorem N3.is{xs:Qa K3}(fJ:K.In h)(ok:b9 P w K H h)(e:N3 K H xs a):(yZ P w).is h xs a :=
 jn.is fJ ok (λ_ _ e=>jn.is fJ ok (λ_ _ e=>jn.is fJ ok (λ_ _ e=>jn.is fJ ok (λ_ _ e=>N0.is fJ ok e) e) e) e) e
end
abbrev KX(K:qc)(H:Hp):Qa (Qa K3×V)->Qa (Qa K3×Qg×Qc)->Prop:=Μ λp q=>p.1=q.1/\N3 K H p.1 q.2.1/\zE p.2 q.2.2
section
variable{kvs:Qa (Qa K3×V)}{xs:Qa (Qa K3×Qg×Qc)}
theorem KX.val(r:KX K H kvs xs)(k:Qa K3):ix (eL kvs k) ((μ xs k).map (·.2)):=by
 induction r with
 |nil=>exact ŧ
 | @cons p q ps qs h t ih=>
  have(h1,_,h2):=h
  by_cases e:p.1=k
  .have e':q.1=k:=h1.symm.trans e
   have b:μ (q::qs) k=ž q.2:=by simp[μ,ķ,e']
   rw[EA e,b];exact h2
  .have e':¬q.1=k:=λz=>e<|h1.trans z
   have b:μ (q::qs) k=μ qs k:=by simp[μ,ķ,e']
   rw[Ez e,b];exact ih
theorem KX.kl(r:KX K H kvs xs)(k:Qa K3)(ry:zE y u):
  KX K H (kvs.map λkv=>if kv.1=k then(kv.1,y)else kv) (xs.map<|putAt k u):=by
 induction r with
 |nil=>exact .nil
 | @cons p q ps qs h t ih=>
  rw[Ī,Ī];refine .cons ?_ ih;have(h1,h2,h3):=h;unfold putAt
  by_cases e:p.1=k
  .rw[a5E e,a5E<|h1.symm.trans e];exact⟨h1,h2,ry⟩
  .rw[a5F e,a5F λz=>e<|h1.trans z];exact⟨h1,h2,h3⟩
theorem KX.put(r:KX K H kvs xs)(k:Qa K3)(hb:N3 K H k b)(ry:zE y u):KX K H (dY kvs k y) (storedH xs k b u):=by
 have e:(kvs.any λkv=>decide<|kv.1=k)=(μ xs k).isSome:=by
  rw[Ji,(r.val k).bX,a0s]
 unfold dY storedH;rw[e]
 by_cases q:(μ xs k).isSome=ż
 .rw[a5E q,a5E q];exact r.kl k ry
 .rw[a5F q,a5F q];exact a2c r ⟨rfl,hb,ry⟩
theorem KX.keeps(r:KX K H kvs xs)(ht:∀b ys,H b=ž (.tup ys)->H' b=ž (.tup ys)):KX K H' kvs xs:=Paired.iX r λ_ _ z=>⟨z.1,z.2.1.keeps ht,z.2.2⟩
end
theorem DG{kvs:Qa (Qa K3×V)}(fJ:K.In h)(ok:b9 P w K H h)(e:H a=ž (.dX kvs)):kvs.length<=ħ/\(a==Œ)=Ż/\
  ∃xs,KX K H kvs xs/\h.DictOfH (yZ P w) a xs:=by
 have(z,y,xs,r,o,es,ep,h1,h2,h3,h4,h5):=(show zP P w K H h a (.dX kvs) from ok a _ e);refine⟨z,y,xs,r,o,es,ep,h1,h2,h3,h4,λx hx=>?_,h5⟩;have all:∀{l:Qa (Qa K3×V)} {m:Qa (Qa K3×Qg×Qc)},KX K H l m->∀x∈m,(yZ P w).is h x.1 x.2.1:=by
  intro l m q
  induction q with
  |nil=>intro x hx;exact nomatch hx
  | @cons p q ps qs hq t ih=>
   intro x hx;rcases qw.mp hx with e|hx
   .subst e
    exact N3.is fJ ok (by rw[<-hq.1];exact hq.2.1)
   .exact ih x hx
 exact all r x hx
theorem HI(hu:A.units+6 < Ŷ):(yZ P w).room A.in1:=by
 show A.units+1+(4+1) < Ŷ;omega
def Gm(K:qc)(H:Hp)(a:Qg)(y:V)(r:Qb V):Prop:=∃kvs k b,H a=ž (.dX kvs)/\y=.ref b/\N3 K H k b/\r=eL kvs k
def Xp(K:qc)(H:Hp)(a:Qg)(y v:V)(H':Hp):Prop:=∃kvs k b,H a=ž (.dX kvs)/\y=.ref b/\N3 K H k b/\kvs.length < ħ/\H'=upd H a (.dX<|dY kvs k v)
section
variable{X:Cx}{s:Qd}{v:V}{o:Qb V}{r:Qc}
theorem zri(hu:A.units+6 < Ŷ)(I:Inv X pins σ H s)(g:Gm X.K H a y (ž v))(ry:zE y u)(h:∀w' s',Inv X pins σ H s'->zE v w'->Q w' s'):
  ĩ (Ĭ X.prog X.w) A (a0U (.ref a) u) Q E s:=by
 have(kvs,k,b,e,rfl,eb,l):=g;cases(show u=Į b from ry);have(z,hd,xs,rel,dd):=DG I.aZ I.aw e;have(w',hw,ig):=ix.some_of (v:=v) (o:=(μ xs k).map (·.2)) (by rw[l];exact rel.val k);have(p,hp,sE):=qt.mp hw;refine wpAny_getItem_heap (HI hu) (N3.is I.aZ I.aw eb) dd hp ?_;rw[sE];exact h w' _ (I.tok _) ig
theorem Y4(hu:A.units+6 < Ŷ)(I:Inv X pins σ H s)(g:Gm X.K H a y o)(ry:zE y u)(h:∀s',Inv X pins σ H s'->Q (.bool (!o.isSome)) s'):
  ĩ (Ĭ X.prog X.w) A (Ň .NotIn u<|.ref a) Q E s:=by
 have(kvs,k,b,e,rfl,eb,l):=g;cases(show u=Į b from ry);have(z,hd,xs,rel,dd):=DG I.aZ I.aw e;refine wpAny_notIn_heap (HI hu) (N3.is I.aZ I.aw eb) hd dd ?_;have q:=(rel.val k).bX;rw[a0s]at q;rw[<-q,<-l];exact h _<|I.tok _
theorem zrj{Q:Unit->Qd->Prop}(hu:A.units+6 < Ŷ)(I:Inv X pins σ H s)(g:Xp X.K H a y v H')(ry:zE y u)(rv:zE v r)(h:∀s',Inv X pins σ H' s'->Q () s'):
  ĩ (Ĭ X.prog X.w) A (a2L (.ref a) u r) Q E s:=by
 have(kvs,k,b,e,rfl,eb,l,rfl):=g;cases(show u=Į b from ry);have(z,hd,xs,rel,dd):=DG I.aZ I.aw e;have hz:xs.length<=ħ:=by rw[<-ų rel];exact z
 have hl:(dY kvs k v).length<=ħ:=by have:=AH kvs k v;omega
 refine wpAny_setItem_heap (hsz:=hz) (HI hu) (N3.is I.aZ I.aw eb) dd λh' nK hs=>h _ ?_;have(q,es,ep,hq,h2,h3,h4,_,h5):=nK;refine xR I (by rw[e];exact ŧ) hs ⟨q,hq⟩ ⟨hl,hd,_,(rel.put k eb rv).keeps λc ys ec=>?_,q,es,ep,hq,h2,h3,h4,h5⟩;rw[zu (tI ec e (λz=>nomatch z))];exact ec
end
structure Re (K:qc) (H H':Hp):Prop where
 aw:∀(P:Qe) (w:Qh) (h:Ļ),b9 P w K H h->b9 P w K H' h
 aM:∀b,H b=Ž->H' b=Ž
 tup:∀b xs,H b=ž (.tup xs)->H' b=ž (.tup xs)
 be:∀b o u,H b=ž (.be o u)->H' b=ž (.be o u)
 nG:∀b ps,H b=ž (.nG ps)->H' b=ž (.nG ps)
theorem Re.refl(K:qc)(H:Hp):Re K H H:=⟨λ_ _ _ h=>h,λ_ h=>h,λ_ _ h=>h,λ_ _ _ h=>h,λ_ _ h=>h⟩
theorem Inv.re{X:Cx}{s:Qd}(I:Inv X pins σ H s)(r:Re X.K H H'):Inv X pins σ H' s :=
 I.un (h':=s.heap) (t':=s.toks) ⟨λ_ _ e _ _ _=>e,λ_ o e _ _ _=>⟨o.slots,e⟩,λb _ _ e _=>r.aM b e,λ_ o e _=>⟨o,e⟩,r.tup,r.be,λb ps e=>⟨#[],by rw[r.nG b ps e];simp⟩⟩ (r.aw _ _ _ I.aw)
def K4(K:qc)(t:TE):TE:=λσ H Q=>∃H1,Re K H H1/\t σ H1 λv H2=>∃H3,Re K H2 H3/\Q v H3
theorem Kd{X:Cx}{t:TE}(h:Wr (PE X e t)):Wr (PE X e<|K4 X.K t):=⟨λpins s σ H Q I q=>by
 have(H1,r1,q):=q;refine az (h.run pins s σ H1 _ (I.re r1) q) λu s1 z=>?_;have(v,H2,I2,rv,H3,r3,z):=z;exact⟨v,H3,I2.re r3,rv,z⟩⟩
noncomputable def Kc(ps:Qa (Qg×HO))(H:Hp):Hp:=λb=>((ps.find? λq=>decide<|q.1=b).map (·.2)).or<|H b
def cJ(H:Hp)(a C dx:Qg)(vs:Qa (Str×V))(ps:Qa (Qg×HO)):Hp:=upd (Kc ps H) a (.ins C dx vs)
noncomputable def Kb(a:Qg)(ps:Qa (Qg×HO))(H:Hp):Hp:=λb=>if(ps.any λq=>decide<|q.1=b)=ż then ž (.own a)else H b
def jh(H:Hp)(a C dx:Qg)(vs:Qa (Str×V))(ps:Qa (Qg×HO)):Hp:=upd (Kb a ps H) a (fM C dx vs ps)
section
variable{C:Qg}{vs:Qa (Str×V)}{ps:Qa (Qg×HO)}
theorem Oi:∀{ps:Qa (Qg×HO)},zP P w K H h a (fM C dx vs ps)->zP P w K H h a (.ins C dx vs)/\∀q∈ps,H q.1=ž (.own a)/\q.1≠a/\q.2.flat=ż/\zP P w K H h q.1 q.2
 |[],x=>⟨x,λq hq=>by cases hq⟩
 | (b,p)::ps,x=>by
  have(y,e,n,f,o):=(show zP P w K H h a (.sub b p<|fM C dx vs ps) from x);have(z,t):=Oi y;refine⟨z,λq hq=>?_⟩;rcases qw.mp hq with rfl|hq
  .exact⟨e,n,f,o⟩
  .exact t q hq
theorem Oh:∀{ps:Qa (Qg×HO)},zP P w K H h a (.ins C dx vs)->(∀q∈ps,H q.1=ž (.own a)/\q.1≠a/\q.2.flat=ż/\zP P w K H h q.1 q.2)->zP P w K H h a (fM C dx vs ps)
 |[],x,_=>x
 | (b,p)::ps,x,t=>by
  have(e,n,f,o):=t (b,p) qq;exact⟨Oh x λq hq=>t q<|qp _ hq,e,n,f,o⟩
theorem Y3{p:HO}(nd:(ps.map (·.1)).Nodup)(h:(b,p)∈ps):(ps.find? λq=>decide<|q.1=b)=ž (b,p):=by
 induction ps with
 |nil=>cases h
 |cons q ps ih=>
  rw[Ī,ϙ]at nd;rcases qw.mp h with rfl|h
  .rw[List.find?_cons_of_pos (by simp)]
  .rw[List.find?_cons_of_neg (by
    have:q.1≠b:=λe=>nd.1<|e▸List.mem_map.mpr ⟨(b,p),h,rfl⟩;simpa using this)]
   exact ih nd.2 h
theorem u6{p:HO}(nd:(ps.map (·.1)).Nodup)(h:(b,p)∈ps)(n:b≠a):cJ H a C dx vs ps b=ž p:=by
 unfold cJ;rw[zu n];unfold Kc;rw[Y3 nd h];rfl
theorem tV:cJ H a C dx vs ps a=ž (.ins C dx vs):=zq
theorem rM(h:b∉ps.map (·.1))(n:b≠a):cJ H a C dx vs ps b=H b:=by
 unfold cJ;rw[zu n];unfold Kc;rw[List.find?_eq_none.mpr λq hq=>by
  have:q.1≠b:=λe=>h<|e▸List.mem_map.mpr ⟨q,hq,rfl⟩;simpa using this]
 rfl
theorem xw(h:b∈ps.map (·.1))(n:b≠a):jh H a C dx vs ps b=ž (.own a):=by
 unfold jh;rw[zu n];unfold Kb;have(q,hq,e):=À.mp h;rw[a5E<|List.any_eq_true.mpr ⟨q,hq,a5G e⟩]
theorem AB:jh H a C dx vs ps a=ž (fM C dx vs ps):=zq
theorem vp(h:b∉ps.map (·.1))(n:b≠a):jh H a C dx vs ps b=H b:=by
 unfold jh;rw[zu n];unfold Kb;rw[a5F λz=>?_];have(q,hq,e):=á.mp z;exact h<|À.mpr ⟨q,hq,a5I e⟩
theorem zrk(w:∀q∈ps,H q.1=ž (.own a))(b:Qg):b=a\/(∃p,(b,p)∈ps)\/(b∉ps.map (·.1)/\b≠a):=by
 by_cases h1:b=a
 .exact .inl h1
 .by_cases h2:b∈ps.map (·.1)
  .obtain⟨⟨c,p⟩,hq,e⟩:=À.mp h2
   cases(show c=b from e);exact .inr<|.inl ⟨p,hq⟩
  .exact .inr (.inr ⟨h2,h1⟩)
theorem Pp(n:ps≠[]):(∀x,fM C dx vs ps≠.own x)/\(∀x,fM C dx vs ps≠.tup x)/\(∀o u,fM C dx vs ps≠.be o u)/\∀x,fM C dx vs ps≠.nG x:=by
 cases ps with
 |nil=>exact absurd rfl n
 |cons q r=>exact⟨(λx z=>by cases z),(λx z=>by cases z),(λx y z=>by cases z),(λx z=>by cases z)⟩
theorem zBH(e:H a=ž (fM C dx vs ps))(n:ps≠[])(nd:(ps.map (·.1)).Nodup)(d:dx∉ps.map (·.1))(w:∀q∈ps,H q.1=ž (.own a)):Re K H (cJ H a C dx vs ps):=by
 have(m1,m2,m3,m4):=Pp (C:=C) (dx:=dx) (vs:=vs) n;have pa:∀q∈ps,q.1≠a:=λq hq z=>by
  have:=w q hq;rw[z,e]at this;exact m1 _<|qy this
 have keep:∀b o,H b=ž o->(∀x,o≠.own x)->b≠a->cJ H a C dx vs ps b=ž o:=λb o hb no nb=>by
  rw[rM (λz=>?_) nb]
  .exact hb
  .have(q,hq,eq):=À.mp z
   have:=w q hq;rw[eq,hb]at this;exact no _<|qy this
 have ow:∀b c,c≠a->H b=ž (.own c)->cJ H a C dx vs ps b=ž (.own c):=λb c nc hb=>by
  rw[rM (λz=>?_) λz=>?_]
  .exact hb
  .have(q,hq,eq):=À.mp z
   have:=w q hq;rw[eq,hb]at this;cases this;exact nc rfl
  .rw[z,e]at hb
   exact m1 _<|qy hb
 have tp:∀b xs,H b=ž (.tup xs)->cJ H a C dx vs ps b=ž (.tup xs):=λb xs hb=>keep b _ hb (λx z=>by cases z) λz=>by
  rw[z,e]at hb;exact m2 _<|qy hb
 refine⟨λP w' h ok b o hb=>?_,λb hb=>?_,tp,λb o u hb=>keep b _ hb (λx z=>by cases z) λz=>?_,λb ua hb=>keep b _ hb (λx z=>by cases z) λz=>?_⟩
 .have(x,t):=Oi (ok a _ e)
  rcases zrk w b with rfl|⟨p,hp⟩|⟨h1,h2⟩
  .rw[tV]at hb
   cases hb;obtain⟨x1,x2,x3,x4,mA,⟨od,es,ep,x5,x6⟩,x7⟩:=(show zP P w' K H h b (.ins C dx vs) from x);refine⟨?_,x2,x3,x4,mA,⟨od,es,ep,x5,x6⟩,x7⟩;rw[rM d x3];exact x1
  .rw[u6 nd hp<|pa _ hp]at hb
   cases hb;have(_,_,f,y):=t (b,o) hp;exact y.oJ f (λ_ z=>z) tp
  .rw[rM h1 h2]at hb
   exact(ok b o hb).dZ (λ_ _ _ z=>z) (λc hc=>ow c b h2 hc) tp
 .rw[rM (λz=>?_) λz=>?_]
  .exact hb
  .have(q,hq,eq):=À.mp z
   have:=w q hq;rw[eq,hb]at this;cases this
  .rw[z,e]at hb
   cases hb
 .rw[z,e]at hb
  exact m3 _ _<|qy hb
 .rw[z,e]at hb
  exact m4 _<|qy hb
theorem zok{p:HO}(x:zP P w K H h b p)(f:p.flat=ż):∃o,h.get? b=ž o:=by
 cases p with
 |lst xs=>have(_,_,_,_,e):=x;exact⟨_,e⟩
 |dK kvs=>have(_,_,_,_,o,_,_,e,_):=x;exact⟨o,e⟩
 |dT kvs=>have(_,_,_,_,o,_,_,e,_):=x;exact⟨o,e⟩
 |dX kvs=>have(_,_,_,_,o,_,_,e,_):=x;exact⟨o,e⟩
 |_=>cases f
theorem D6(e:H a=ž (.ins C dx vs))(pa:∀q∈ps,q.1≠a)(w:∀q∈ps,H q.1=ž q.2/\q.2.flat=ż):Re K H (jh H a C dx vs ps):=by
 have part:∀b o,H b=ž o->b∈ps.map (·.1)->o.flat=ż:=λb o hb hm=>by
  have(q,hq,eq):=À.mp hm;have(h1,h2):=w q hq;rw[eq,hb]at h1;cases h1;exact h2
 have keep:∀b o,H b=ž o->o.flat=Ż->b≠a->jh H a C dx vs ps b=ž o:=λb o hb no nb=>by
  rw[vp (λz=>?_) nb]
  .exact hb
  .rw[part b o hb z]at no
   cases no
 have ow:∀b c,H b=ž (.own c)->jh H a C dx vs ps b=ž (.own c):=λb c hb=>keep b _ hb rfl λz=>by
  rw[z,e]at hb;cases hb
 have tp:∀b xs,H b=ž (.tup xs)->jh H a C dx vs ps b=ž (.tup xs):=λb xs hb=>keep b _ hb rfl λz=>by
  rw[z,e]at hb;cases hb
 refine⟨λP w' h ok b o hb=>?_,λb hb=>?_,tp,λb o u hb=>keep b _ hb rfl λz=>?_,λb ua hb=>keep b _ hb rfl λz=>?_⟩
 .by_cases h1:b=a
  .subst h1
   rw[AB]at hb;cases hb;refine Oh ?_ λq hq=>?_
   .exact(ok b _ e).dZ (λ_ _ _ z=>z) (λc hc=>ow c b hc) tp
   .have(h2,h3):=w q hq
    exact⟨xw (À.mpr ⟨q,hq,rfl⟩)<|pa q hq,pa q hq,h3,(ok _ _ h2).oJ h3 (λ_ z=>z) tp⟩
  .by_cases h2:b∈ps.map (·.1)
   .rw[xw h2 h1]at hb
    cases hb;have(q,hq,eq):=À.mp h2;have(h3,h4):=w q hq;rw[<-eq];exact zok (ok _ _ h3) h4
   .rw[vp h2 h1]at hb
    exact(ok b o hb).dZ (λ_ _ _ z=>z) (λc hc=>ow c b hc) tp
 .rw[vp (λz=>?_) λz=>?_]
  .exact hb
  .have(q,hq,eq):=À.mp z
   have:=(w q hq).1;rw[eq,hb]at this;cases this
  .rw[z,e]at hb
   cases hb
 .rw[z,e]at hb
  cases hb
 .rw[z,e]at hb
  cases hb
end
def UO(K:qc)(r:V->Qa V->Hp->VK->Prop):V->Qa V->Hp->VK->Prop:=λx xs H Q=>∃H1,Re K H H1/\r x xs H1 λv H2=>∃H3,Re K H2 H3/\Q v H3
theorem NL{X:Cx}{id:String}{r:V->Qa V->Hp->VK->Prop}(h:sP X id r):sP X id (UO X.K r):=λpins s σ H x xs v us Q I rx rs q=>by
 have(H1,r1,q):=q;refine az (h pins s σ H1 x xs v us _ (I.re r1) rx rs q) λu s1 z=>?_;have(y,H2,I2,ry,H3,r3,z):=z;exact⟨y,H3,I2.re r3,ry,z⟩
def UN(K:qc)(T:String)(r:V->Qa V->Hp->VK->Prop)(to:TE)(t:TA):TE:=λσ H Q=>to σ H λx H1=>(∃MY,Re K H1 MY/\Ff K T x MY)/\t σ H1 λxs H2=>r x xs H2 Q
section
variable{X:Cx}{es:Qa ĺ}{to:TE}{t:TA}{name:Str}{id:String}{r:V->Qa V->Hp->VK->Prop}
theorem NK(pa:a2u T)(slot:Slot T name id)(sA:typeOf (.builtin id)=pure (.type "method_descriptor"))(hm:sP X id r)(ho:Wr (PE X o to))(ha:Wr (PA X (e::es) t))
  (b6:autoParam (Ű o name X.env (Ť o X.env)=Ť o X.env) ć)
  (pd:autoParam (((Ω aL<|ŏ (e::es) X.env).all (λx=>!x.1) && (a3J aL<|a1O [] X.env).all (λx=>x.1.isSome)
   && decide ((e::es).length+([]:Qa a1w).length+(if([]:Qa a1w).isEmpty then 0 else 1) < 30))=ż) ć)
  (bY:autoParam ((apos.endLine==aL.line)=ż) ć) (hs:autoParam (zV e=ż) ć) (dN:autoParam (es.all zV=ż) ć):
  Wr (PE X (.Call (.Attribute o name apos) (e::es) [] aL)<|UN X.K T r to t):=by
 refine⟨?_⟩;intro pins s σ H Q I h;refine a4N b6 pd bY rfl<|az (ho.run pins s σ H _ I h) λv s1 hZ=>?_;obtain⟨x,H1,I1,r1,⟨MY,re,ty⟩,q1⟩:=hZ;have(h1,h2):=HX (I1.re re) r1 ty;refine⟨T,id,pa,slot,sA,h1,h2,?_⟩;have hA:=ha.run aL pins s1 σ H1 _ I1 q1;have qP:=nF (env:=X.env) (es:=es) hs;have uu:=rO (env:=X.env) (pos:=aL) dN;rw[qP]at hA ⊢;refine Ù (by show(Ż || (Ω aL<|ŏ es X.env).any (·.1))=Ż;rw[uu]<;>rfl)<|ô ?_;exact az hA λus s2 ⟨vs,H2,I2,r2,q2⟩=>hm pins s2 σ H2 x vs v us Q I2 r1 r2 q2
end
def sY(K:qc)(ta:TE)(f:Str):TE:=K4 K (U1 K ta f)
noncomputable def k8:Qa (Str×PU)->Str->PU->Qa (Str×PU)
 |[],_,_=>[]
 | (n,x)::r,f,y=>if n=f then(n,y)::r else(n,x)::k8 r f y
noncomputable def aQ(ps:Qa (Qg×HO))(b:Qg)(p:HO):Qa (Qg×HO):=ps.map λq=>if q.1=b then(b,p)else q
section
variable{C:Qg}{vs:Qa (Str×V)}{ps:Qa (Qg×HO)}{fs:Qa (Str×PU)}{p:HO}
theorem rL:(aQ ps b p).map (·.1)=ps.map (·.1):=by
 unfold aQ;rw[Ł];refine Ì λq _=>?_;show(if q.1=b then(b,p)else q).1=q.1;split
 .rename_i e;exact e.symm
 .rfl
theorem Y2(h:b∉ps.map (·.1)):aQ ps b p=ps:=by
 unfold aQ
 conv=>rhs;rw[<-a4g ps]
 refine Ì λq hq=>?_;rw[a5F (show ¬q.1=b from λe=>h<|e▸List.mem_map.mpr ⟨q,hq,rfl⟩)];rfl
theorem RM{q:Qg×HO}(e:q.1=b)(h:b∉ps.map (·.1)):aQ (q::ps) b p=(b,p)::ps:=by
 have:=Y2 (p:=p) h;unfold aQ at this ⊢;rw[Ī,a5E e,this]
theorem Ey{q:Qg×HO}(e:q.1≠b):aQ (q::ps) b p=q::aQ ps b p:=by
 unfold aQ;rw[Ī,a5F e]
theorem FO.list{xs:Qa D}(h:FO K H vs ps fs)(e:fs.lookup f=ž (.l xs)):∃b us,vs.lookup f=ž (.ref b)/\(b,HO.lst us)∈ps/\aI K H us xs:=by
 induction h with
 |nil=>cases e
 | @d n v x vs ps fs h t ih=>
  rw[Ķ]at e ⊢;split at e
  .cases e
  .rename_i q
   try rw[q]
   exact ih e
 | @l n b us je vs ps fs h t ih=>
  rw[Ķ]at e ⊢;split at e
  .rename_i q
   try rw[q]
   cases e;exact⟨b,us,rfl,qq,h⟩
  .rename_i q
   try rw[q]
   have(c,g9,h1,h2,h3):=ih e;exact⟨c,g9,h1,qp _ h2,h3⟩
 | @t n b us je vs ps fs h t ih=>
  rw[Ķ]at e ⊢;split at e
  .cases e
  .rename_i q
   try rw[q]
   have(c,g9,h1,h2,h3):=ih e;exact⟨c,g9,h1,qp _ h2,h3⟩
 | @x n b us je vs ps fs h t ih=>
  rw[Ķ]at e ⊢;split at e
  .cases e
  .rename_i q
   try rw[q]
   have(c,g9,h1,h2,h3):=ih e;exact⟨c,g9,h1,qp _ h2,h3⟩
theorem FO.putL{ys:Qa D}{us:Qa V}(h:FO K H vs ps fs)(nd:(ps.map (·.1)).Nodup)(e:vs.lookup f=ž (.ref b))(hb:b∈ps.map (·.1))(xs:Qa D)(ef:fs.lookup f=ž (.l xs))(hy:aI K H us ys):FO K H vs (aQ ps b<|.lst us) (k8 fs f<|.l ys):=by
 induction h with
 |nil=>cases ef
 | @d n v x vs ps fs h t ih=>
  rw[Ķ]at e ef;unfold k8;split at ef
  .cases ef
  .rename_i q
   try rw[q]at e
   replace e:Ũ f vs=ž (V.ref b):=e;rw[a5F (λz=>by rw[z]at q;simp at q)];exact .d h<|ih nd e hb ef
 | @l n c g9 je vs ps fs h t ih=>
  rw[Ī,ϙ]at nd;rw[Ķ]at e ef;unfold k8;split at ef
  .rename_i q
   try rw[q]at e
   cases e;rw[a5E (eq_of_beq q).symm,RM rfl nd.1];exact .l hy t
  .rename_i q
   try rw[q]at e
   replace e:Ũ f vs=ž (V.ref b):=e;rw[a5F (λz=>by rw[z]at q;simp at q)];have eS:b∈ps.map (·.1):=by
    have(b',x9,h1,h2,_):=t.list ef;rw[e]at h1;cases h1;exact À.mpr ⟨_,h2,rfl⟩
   rw[Ey (q:=(c,HO.lst g9)) (by intro z;have z:c=b:=z;exact nd.1 (by show c∈_;rw[z];exact eS))];exact .l h<|ih nd.2 e eS ef
 | @t n c g9 je vs ps fs h t ih=>
  rw[Ī,ϙ]at nd;rw[Ķ]at e ef;unfold k8;split at ef
  .cases ef
  .rename_i q
   try rw[q]at e
   replace e:Ũ f vs=ž (V.ref b):=e;rw[a5F (λz=>by rw[z]at q;simp at q)];have eS:b∈ps.map (·.1):=by
    have(b',x9,h1,h2,_):=t.list ef;rw[e]at h1;cases h1;exact À.mpr ⟨_,h2,rfl⟩
   rw[Ey (q:=(c,HO.dT g9)) (by intro z;have z:c=b:=z;exact nd.1 (by show c∈_;rw[z];exact eS))];exact .t h<|ih nd.2 e eS ef
 | @x n c g9 je vs ps fs h t ih=>
  rw[Ī,ϙ]at nd;rw[Ķ]at e ef;unfold k8;split at ef
  .cases ef
  .rename_i q
   try rw[q]at e
   replace e:Ũ f vs=ž (V.ref b):=e;rw[a5F (λz=>by rw[z]at q;simp at q)];have eS:b∈ps.map (·.1):=by
    have(b',x9,h1,h2,_):=t.list ef;rw[e]at h1;cases h1;exact À.mpr ⟨_,h2,rfl⟩
   rw[Ey (q:=(c,HO.dX g9)) (by intro z;have z:c=b:=z;exact nd.1 (by show c∈_;rw[z];exact eS))];exact .x h<|ih nd.2 e eS ef
theorem Y1(n:∀q∈ps,q.1≠a)(w:∀q∈ps,H q.1=ž (.own a))(hb:b∈ps.map (·.1)):jh (upd (cJ H a C dx vs ps) b p) a C dx vs (aQ ps b p)=upd H a (fM C dx vs<|aQ ps b p):=by
 funext c
 by_cases h1:c=a
 .subst h1
  rw[AB,zq]
 .rw[zu h1]
  by_cases h2:c∈ps.map (·.1)
  .rw[xw (by rw[rL];exact h2) h1]
   have(q,hq,e):=À.mp h2;rw[<-e,w q hq]
  .rw[vp (by rw[rL];exact h2) h1,zu (show c≠b from λz=>h2 (by rw[z];exact hb)),rM h2 h1]
theorem zuk(e:H a=ž (fM C dx vs ps))(w:∀q∈ps,H q.1=ž (.own a)):jh (cJ H a C dx vs ps) a C dx vs ps=H:=by
 funext c
 by_cases h1:c=a
 .subst h1
  rw[AB,e]
 .by_cases h2:c∈ps.map (·.1)
  .rw[xw h2 h1]
   have(q,hq,e):=À.mp h2;rw[<-e,w q hq]
  .rw[vp h2 h1,rM h2 h1]
end
section
variable{C:Qg}{vs:Qa (Str×V)}{ps:Qa (Qg×HO)}{fs:Qa (Str×PU)}{p:HO}
def VQ(K:qc)(t:TE)(m:ME):Prop :=
 ∀(ρ:En) (σ:St) (H:Hp) (a:Ar) (ai:En) (Q:VK),Rs K ρ σ H->m ρ=ž (a,ai)->ai=ρ/\((∀v,nQ K ρ σ H H v a->Q v H)->t σ H Q)
theorem HH:VQ K (fQ i) (zi i):=by
 intro ρ σ H a ai Q r e;unfold zi at e;split at e
 .rename_i u eu
  cases e;refine⟨rfl,λq=>?_⟩;have(v,ev,p):=r.rep i u eu;exact⟨v,ev,q v ⟨ev,u,eu⟩⟩
 .cases e
theorem zFf{c:V}{x:D}(h:∀H,DF K H c x):VQ K (tC c) (mC x):=by
 intro ρ σ H a ai Q r e;cases e;exact⟨rfl,λq=>q _ ⟨h H,Nw.data⟩⟩
theorem FO.flat(h:FO K H vs ps fs):∀q∈ps,q.2.flat=ż:=by
 induction h with
 |nil=>exact λq hq=>by cases hq
 |d _ _ ih=>exact ih
 |l _ _ ih=>
  intro q hq;rcases qw.mp hq with rfl|hq
  .rfl
  .exact ih q hq
 |t _ _ ih=>
  intro q hq;rcases qw.mp hq with rfl|hq
  .rfl
  .exact ih q hq
 |x _ _ ih=>
  intro q hq;rcases qw.mp hq with rfl|hq
  .rfl
  .exact ih q hq
structure Op (K:qc) (H:Hp) (a C dx:Qg) (vs:Qa (Str×V)) (ps:Qa (Qg×HO)):Prop where
 at_:H a=ž (fM C dx vs ps)
 ne:ps≠[]
 nd:(ps.map (·.1)).Nodup
 wD:dx∉ps.map (·.1)
 own:∀q∈ps,H q.1=ž (.own a)
 flat:∀q∈ps,q.2.flat=ż
theorem Op.pa(o:Op K H a C dx vs ps):∀q∈ps,q.1≠a:=λq hq z=>by
 have:=o.own q hq;rw[z,o.at_]at this;exact(Pp (C:=C) (dx:=dx) (vs:=vs) o.ne).1 _<|qy this
theorem Op.cJ(o:Op K H a C dx vs ps):Re K H (cJ H a C dx vs ps):=zBH o.at_ o.ne o.nd o.wD o.own
theorem Op.jh(o:Op K H a C dx vs ps):Re K (Internal.cJ H a C dx vs ps) H:=by
 have:=D6 (K:=K) (H:=Internal.cJ H a C dx vs ps) (a:=a) (C:=C) (dx:=dx) (vs:=vs) (ps:=ps) tV o.pa λq hq=>⟨u6 o.nd hq<|o.pa q hq,o.flat q hq⟩;rw[zuk o.at_ o.own]at this;exact this
theorem Op.put(o:Op K H a C dx vs ps){p0:HO}(hb:(b,p0)∈ps)(f:p.flat=ż):Re K (upd (Internal.cJ H a C dx vs ps) b p) (upd H a<|fM C dx vs<|aQ ps b p):=by
 have ba:=o.pa _ hb;have hm:b∈ps.map (·.1):=À.mpr ⟨_,hb,rfl⟩;have:=D6 (K:=K) (H:=upd (Internal.cJ H a C dx vs ps) b p) (a:=a) (C:=C) (dx:=dx) (vs:=vs) (ps:=aQ ps b p) (by rw[zu<|ň ba];exact tV) (λq hq=>?_) λq hq=>?_
 .rw[Y1 o.pa o.own hm]at this
  exact this
 .have hk:q.1∈ps.map (·.1):=by rw[<-rL (b:=b) (p:=p)];exact À.mpr ⟨q,hq,rfl⟩
  have(z,hz,ez):=À.mp hk;rw[<-ez];exact o.pa z hz
 .have(z,hz,rfl):=À.mp hq
  by_cases c:z.1=b
  .rw[a5E c]
   exact⟨zq,f⟩
  .rw[a5F c,zu c]
   exact⟨u6 o.nd hz<|o.pa z hz,o.flat z hz⟩
end
noncomputable def U.fl(c f:Str):U->Qb (Qa D)
 |.o c' fs=>if c'=c then(match fs.lookup f with|some (.l xs)=>ž xs|_=>Ž)else Ž
 |_=>Ž
def U.aQ(f:Str)(y:PU):U->U
 |.o c fs=>.o c<|k8 fs f y
 |u=>u
theorem zBI{w:U}{xs:Qa D}(h:w.fl c f=ž xs):∃fs,w=.o c fs/\fs.lookup f=ž (.l xs):=by
 unfold U.fl at h;split at h
 .rename_i c' fs
  split at h
  .rename_i e
   subst e;split at h
   .rename_i ys hy
    cases h;exact⟨fs,rfl,hy⟩
   .cases h
  .cases h
 .cases h
def DE(c:Str)(i:Nat)(f:Str)(me:ME):ME:=λρ=>(ρ[i]?).join.bind λw=>(w.fl c f).bind λxs=>(me ρ).bind λp=>(p.1.get p.2).bind λu=>u.da.bind λx=>if xs.length < ħ then ž (.u<|.d .none,p.2.set i<|some<|w.aQ f<|.l<|xs++[x])else Ž
section
theorem Og{me:ME}(hc:∀C,XN K c C->gX K C/\iP K C f)(hq:VQ K te me):VE K (UN K "list" (UO K IG) (sY K (fQ i) f)<|j0 te jZ) (DE c i f me):=by
 intro ρ σ H a ai Q r e q;have(w,e0,e):=bQ e;have(xs,ex,e):=bQ e;obtain⟨⟨a1,ρ1⟩,e1,e⟩:=bQ e;have(u,eu,e):=bQ e;have(x,ed,e):=bQ e;cases oC ed;dsimp only at e;split at e
 .rename_i hz
  cases e;have(fs,rfl,hf):=zBI ex;have ei:=lJ e0;have(v0,dQ,R):=r.rep i _ ei;have(l,C,dx,vs,ps,rfl,hl,ne,xn,nd,fo,yy,own):=R;have(b,us,h1,h2,h3):=fo.list hf;have o:Op K H l C dx vs ps:=⟨hl,ne,nd,yy,own,fo.flat⟩;have ba:=o.pa _ h2;have B9:cJ H l C dx vs ps b=ž (.lst us):=u6 nd h2 ba;have(cl,na):=hc C xn;refine⟨_,o.cJ,_,dQ,l,C,dx,vs,_,rfl,tV,cl,na,h1,H,o.jh,⟨_,o.cJ,.inl ⟨rfl,us,bu.of B9⟩⟩,?_⟩;have(rfl,run):=hq ρ σ H a1 ρ1 _ r e1;refine run λv k1=>?_;have pv:DF K H v x:=k1.now r (Go.refl r) eu;refine⟨_,o.cJ,b,us,v,rfl,rfl,B9,by rw[h3.len];exact hz,_,o.put (p:=.lst (us++[v])) h2 rfl,?_⟩;have kp:=jS hl (Mo.fM ne) (fM C dx vs<|aQ ps b<|.lst<|us++[v]);have hbm:b∈ps.map (·.1):=À.mpr ⟨_,h2,rfl⟩;refine q _ _ (Go.own (u':=.o c (k8 fs f<|.l<|xs++[x])) r ei rfl dQ ⟨l,C,dx,vs,aQ ps b<|.lst<|us++[v],rfl,zq,?_,xn,by rw[rL];exact nd,(fo.kp kp).putL nd h1 hbm xs hf<|(h3.kp kp).snoc<|DF.kp kp pv,by rw[rL];exact yy,λz hz=>?_⟩) ⟨.aM,Nw.data⟩
  .intro z
   have:=congrArg ϥ z;unfold aQ at this;rw[Ħ]at this;exact ne<|ä.mp this
  .have hk:z.1∈ps.map (·.1):=by rw[<-rL (b:=b) (p:=.lst (us++[v]))];exact À.mpr ⟨z,hz,rfl⟩
   have(y,hy,ey):=À.mp hk;rw[<-ey,zu<|o.pa y hy];exact own y hy
 .cases e
end
def MP(K:qc)(H:Hp)(a:Qg)(y:V)(o:Qb V)(Q:Hp->Prop):Prop:=∃H' uO,Re K H H'/\Gm K H' a y o/\Re K H' uO/\Q uO
def NJ(K:qc)(td ty:TE):TE:=λσ H Q=>td σ H λx H1=>ty σ H1 λy H2=>∃a v,x=.ref a/\MP K H2 a y (ž v) (Q v)
def IY(K:qc)(ty td:TE):TE:=λσ H Q=>ty σ H λy H1=>td σ H1 λx H2=>∃a o,x=.ref a/\MP K H2 a y o (Q<|.bl (!o.isSome))
def NH(K:qc)(td ty tv:TE):TS:=λD σ H=>tv σ H λv H1=>td σ H1 λx H2=>ty σ H2 λy H3=>∃a MW H4 H5,x=.ref a/\Re K H3 MW/\Xp K MW a y v H4/\Re K H4 H5/\D.nx σ H5
section
variable{X:Cx}{i:ĺ}{pos:Pos}{k:Nat}
theorem L3(hr:aE k X.A):X.A.units+6 < Ŷ:=by have:=hr.un;omega
theorem zum{s:Qd}{o:Qb V}(I:Inv X pins σ H s)(g:Gm X.K H a y o):s.TypeIs (.ref a) "dict":=by
 have(kvs,k,b,e,_):=g;have(_,_,xs,_,dd):=DG I.aZ I.aw e;exact dd.typeIs
theorem zBJ(hr:aE k X.A)(ho:Wr (PE X o td))(hi:Wr (PE X i ty))(hs:autoParam (CZ i) ġ):Wr (PE X (.Subscript o i pos)<|NJ X.K td ty):=by
 refine⟨?_⟩;intro pins s σ H Q I h;refine PQ PySem.F.slot_dict_getitem.lookup hs<|az (ho.run pins s σ H _ I h) λu s1 hY=>?_;have(x,H1,I1,rx,q1):=hY;refine az (hi.run pins s1 σ H1 _ I1 q1) λiv s2 hZ=>?_;have(y,H2,I2,ry,a,v,ex,H2',H3,re,g,Lp,q2):=hZ;subst ex;obtain rfl:u=Į a:=rx;exact⟨zum (I2.re re) g,zri (L3 hr) (I2.re re) g ry λw' s3 I3 ig=>⟨v,H3,I3.re Lp,ig,q2⟩⟩
theorem zrl(hr:aE k X.A)(hi:PE X i ty)(ho:PE X o td):PC X .NotIn i o (IY X.K ty td):=by
 intro pins s σ H Q I h;refine az (hi pins s σ H _ I h) λiv s1 hY=>?_;have(y,H1,I1,ry,q1):=hY;refine az (ho pins s1 σ H1 _ I1 q1) λu s2 hZ=>?_;have(x,H2,I2,rx,a,ov,ex,H2',H3,re,g,Lp,q2):=hZ;subst ex;obtain rfl:u=Į a:=rx;exact Y4 (L3 hr) (I2.re re) g ry λs3 I3=>⟨.bl (!ov.isSome),H3,I3.re Lp,rfl,q2⟩
theorem zrm(hr:aE k X.A)(hi:Wr (PE X i ty))(ho:Wr (PE X o td))(h1:autoParam (ů .NotIn o=Ż) ć):Wr (PT X (.Compare i [.NotIn] [o] pos)<|tB<|IY X.K ty td):=⟨OS (zrl hr hi.run ho.run) h1⟩
theorem zBK(hr:aE k X.A)(ho:Wr (PE X o td))(hi:Wr (PE X i ty))(hv:Wr (PE X value tv))(hs:autoParam (Ο value (ž<|.Subscript o i pos') pos.line X.env=pure Ż) ć):
  Wr (PS X (.Assign [.Subscript o i pos'] value pos)<|NH X.K td ty tv):=by
 refine⟨?_⟩;intro pins s σ H D I h;refine a4O (az (hv.run pins s σ H _ I h) λr s1 hV=>?_) hs;have(v,H1,I1,rv,q1):=hV;refine az (ho.run pins s1 σ H1 _ I1 q1) λu s2 hY=>?_;have(x,H2,I2,rx,q2):=hY;refine az (hi.run pins s2 σ H2 _ I2 q2) λiv s3 hZ=>?_;have(y,H3,I3,ry,a,MW,H4,H5,ex,re,g,re5,q3):=hZ;subst ex;obtain rfl:u=Į a:=rx;exact zrj (L3 hr) (I3.re re) g ry rv λs4 I4=>⟨σ,H5,I4.re re5,q3⟩
end
def UM(f:D->Qb (Qa J))(d:D):Qb (Key ⊕ Qa J):=match pJ d with
 |some k=>ž<|.inl k
 |none=>(f d).map .inr
def nI(f:D->Qb (Qa J)):D->Qb (Qa<|Key ⊕ Qa J)
 |.tuple ds=>ds.mapM<|UM f
 |_=>Ž
def Fu:D->Qb (Qa K3):=nI (nI<|nI<|nI cW)
section
theorem DD{f:D->Qb (Qa J)}{R:Qa J->Qg->Prop}(hf:∀v d ks,DF K H v d->f d=ž ks->∃b,v=.ref b/\R ks b){v:V}{d:D}{xs:Qa (Key ⊕ Qa J)}(h:DF K H v d)(e:nI f d=ž xs):∃b,v=.ref b/\jn K H R xs b:=by
 unfold nI at e;split at e
 .rename_i ds
  have(b,us,rfl,h1,h2):=DF.aD h;refine⟨b,rfl,us,h1,?_⟩;clear h h1
  induction ds generalizing us xs with
  |nil=>cases h2;rw[List.mapM_nil]at e;cases e;exact .nil
  |cons d ds ih=>
   cases h2;rename_i w vs hd t;rw[a0g]at e;have(x,ex,e):=bQ e;have(ys,ey,e):=bQ e;cases e;refine .cons ?_<|ih ey _ t;unfold UM at ex;split at ex
   .rename_i k hk
    cases ex;exact Ib hd hk
   .have(ks,ek,e2):=qt.mp ex
    cases e2;exact hf _ _ _ hd ek
 .cases e
theorem zD9{v:V}{d:D}{xs:Qa K3}(h:DF K H v d)(e:Fu d=ž xs):∃b,v=.ref b/\N3 K H xs b :=
 DD (λ_ _ _ h e=>DD (λ_ _ _ h e=>DD (λ_ _ _ h e=>DD (λ_ _ _ h e=>vm h e) h e) h e) h e) h e
end
def PP(K:qc)(H:Hp):HO->PU->Prop
 |.lst us,.l xs=>aI K H us xs
 |.dT us,.t xs=>cS K H us xs
 |.dX us,.x xs=>cS K H us xs
 |_,_=>False
noncomputable def PU.part:PU->Bool
 |.d _=>Ż
 |_=>ż
noncomputable def U.fp(c f:Str):U->Qb PU
 |.o c' fs=>if c'=c then fs.lookup f else Ž
 |_=>Ž
section
variable{C:Qg}{vs:Qa (Str×V)}{ps:Qa (Qg×HO)}{fs:Qa (Str×PU)}{p:HO}{u:PU}{ρ:En}{w:U}
theorem PP.flat(h:PP K H p u):p.flat=ż:=by
 unfold PP at h;split at h
 .rfl
 .rfl
 .rfl
 .cases h
theorem FO.ind{M:Qa (Str×V)->Qa (Qg×HO)->Qa (Str×PU)->Prop}(h:FO K H vs ps fs)(h0:M [] [] [])(hd:∀n v x vs ps fs,DF K H v x->FO K H vs ps fs->M vs ps fs->M ((n,v)::vs) ps ((n,.d x)::fs))(hp:∀n b p u vs ps fs,PP K H p u->FO K H vs ps fs->M vs ps fs->M ((n,.ref b)::vs) ((b,p)::ps) ((n,u)::fs)):M vs ps fs:=by
 induction h with
 |nil=>exact h0
 |d h t ih=>exact hd _ _ _ _ _ _ h t ih
 |l h t ih=>exact hp _ _ (.lst _) (.l _) _ _ _ h t ih
 |t h t ih=>exact hp _ _ (.dT _) (.t _) _ _ _ h t ih
 |x h t ih=>exact hp _ _ (.dX _) (.x _) _ _ _ h t ih
theorem FO.pp{n:Str}(h:PP K H p u)(t:FO K H vs ps fs):FO K H ((n,.ref b)::vs) ((b,p)::ps) ((n,u)::fs):=by
 unfold PP at h;split at h
 .exact .l h t
 .exact .t h t
 .exact .x h t
 .cases h
theorem FO.part(h:FO K H vs ps fs):fs.lookup f=ž u->u.part=ż->∃b p,vs.lookup f=ž (.ref b)/\(b,p)∈ps/\PP K H p u:=by
 refine FO.ind (M:=λvs ps fs=>fs.lookup f=ž u->u.part=ż->∃b p,vs.lookup f=ž (.ref b)/\(b,p)∈ps/\PP K H p u) h (λe=>nomatch e) (λn v x vs ps fs _ _ ih e o=>?_) λn b p u' vs ps fs hp _ ih e o=>?_
 .rw[Ķ]at e ⊢
  split at e
  .cases e;cases o
  .rename_i q
   try rw[q]
   exact ih e o
 .rw[Ķ]at e ⊢
  split at e
  .rename_i q
   try rw[q]
   cases e;exact⟨b,p,rfl,qq,hp⟩
  .rename_i q
   try rw[q]
   have(b,p,h1,h2,h3):=ih e o;exact⟨b,p,h1,qp _ h2,h3⟩
theorem FO.put{u':PU}{p':HO}(h:FO K H vs ps fs)(hy:PP K H p' u'):(ps.map (·.1)).Nodup->vs.lookup f=ž (.ref b)->fs.lookup f=ž u->u.part=ż->FO K H vs (aQ ps b p') (k8 fs f u'):=by
 refine FO.ind (M:=λvs ps fs=>(ps.map (·.1)).Nodup->vs.lookup f=ž (.ref b)->fs.lookup f=ž u->u.part=ż->FO K H vs (aQ ps b p') (k8 fs f u')) h (λ_ e=>nomatch e) (λn v x vs ps fs hx t ih nd e ef o=>?_) λn c p u0 vs ps fs hp t ih nd e ef o=>?_
 .rw[Ķ]at e ef
  unfold k8;split at ef
  .cases ef;cases o
  .rename_i q
   try rw[q]at e
   rw[a5F (λz=>by rw[z]at q;simp at q)];exact .d hx<|ih nd e ef o
 .rw[Ī,ϙ]at nd
  rw[Ķ]at e ef;unfold k8;split at ef
  .rename_i q
   try rw[q]at e
   cases e;rw[a5E (eq_of_beq q).symm,RM rfl nd.1];exact .pp hy t
  .rename_i q
   try rw[q]at e
   replace e:Ũ f vs=ž (V.ref b):=e;rw[a5F (λz=>by rw[z]at q;simp at q)];have eS:b∈ps.map (·.1):=by
    have(b',x9,h1,h2,_):=t.part ef o;rw[e]at h1;cases h1;exact À.mpr ⟨_,h2,rfl⟩
   rw[Ey (q:=(c,p)) (by intro z;have z:c=b:=z;exact nd.1 (by show c∈_;rw[z];exact eS))];exact .pp hp<|ih nd.2 e ef o
theorem zBL(h:w.fp c f=ž u):∃fs,w=.o c fs/\fs.lookup f=ž u:=by
 unfold U.fp at h;split at h
 .rename_i c' fs
  split at h
  .rename_i e
   subst e;exact⟨fs,rfl,h⟩
  .cases h
 .cases h
structure Pt (K:qc) (σ:St) (H:Hp) (c:Str) (i:Nat) (f:Str) (u:PU) (fs:Qa (Str×PU)) (a C dx:Qg) (vs:Qa (Str×V)) (ps:Qa (Qg×HO)) (b:Qg) (p:HO):Prop where
 st:σ[i]?=ž (ž<|.ref a)
 op:Op K H a C dx vs ps
 xn:XN K c C
 vl:vs.lookup f=ž (.ref b)
 mem:(b,p)∈ps
 pp:PP K H p u
 fo:FO K H vs ps fs
 fl:fs.lookup f=ž u
theorem NG(r:Rs K ρ σ H)(e:(ρ[i]?).join=ž w)(ef:w.fp c f=ž u)(o:u.part=ż):∃fs a C dx vs ps b p,w=.o c fs/\Pt K σ H c i f u fs a C dx vs ps b p:=by
 have(fs,rfl,hf):=zBL ef;have(v0,dQ,R):=r.rep i _ (lJ e);have(l,C,dx,vs,ps,rfl,hl,ne,xn,nd,fo,yy,own):=R;have(b,p,h1,h2,h3):=fo.part hf o;exact⟨fs,l,C,dx,vs,ps,b,p,rfl,dQ,⟨hl,ne,nd,yy,own,fo.flat⟩,xn,h1,h2,h3,fo,hf⟩
theorem Pt.at(t:Pt K σ H c i f u fs a C dx vs ps b p):cJ H a C dx vs ps b=ž p:=u6 t.op.nd t.mem (t.op.pa _ t.mem)
theorem Pt.fld{Q:VK}(t:Pt K σ H c i f u fs a C dx vs ps b p)(hc:∀C,XN K c C->gX K C/\iP K C f)(q:Q (.ref b) H):sY K (fQ i) f σ H Q :=
 ⟨_,t.op.cJ,_,t.st,a,C,dx,vs,_,rfl,tV,(hc C t.xn).1,(hc C t.xn).2,t.vl,H,t.op.jh,q⟩
theorem Pt.put{u':PU}{p':HO}(t:Pt K σ H c i f u fs a C dx vs ps b p)(r:Rs K ρ σ H)(ei:ρ[i]?=ž (ž<|.o c fs))(o:u.part=ż)(h:∀H',Kp H H'->PP K H' p' u'):Re K (upd (cJ H a C dx vs ps) b p') (upd H a<|fM C dx vs<|aQ ps b p')/\Go K ρ σ H (ρ.set i<|some<|.o c<|k8 fs f u') (upd H a<|fM C dx vs<|aQ ps b p'):=by
 have kp:=jS t.op.at_ (Mo.fM t.op.ne) (fM C dx vs<|aQ ps b p');refine⟨t.op.put t.mem (h H<|Kp.refl H).flat,Go.own (u':=.o c (k8 fs f u')) r ei rfl t.st ⟨a,C,dx,vs,aQ ps b p',rfl,zq,λz=>?_,t.xn,by rw[rL];exact t.op.nd,(t.fo.kp kp).put (h _ kp) t.op.nd t.vl t.fl o,by rw[rL];exact t.op.wD,λz hz=>?_⟩⟩
 .have:=congrArg ϥ z
  unfold aQ at this;rw[Ħ]at this;exact t.op.ne<|ä.mp this
 .have hk:z.1∈ps.map (·.1):=by rw[<-rL (b:=b) (p:=p')];exact À.mpr ⟨z,hz,rfl⟩
  have(y,hy,ey):=À.mp hk;rw[<-ey,zu<|t.op.pa y hy];exact t.op.own y hy
end
noncomputable def PU.xs:PU->Qb (Qa<|Qa K3×D)
 |.x kvs=>ž kvs
 |_=>Ž
theorem zBM{u:PU}{kvs:Qa (Qa K3×D)}(h:u.xs=ž kvs):u=.x kvs:=by
 cases u<;>cases h;rfl
def fX(c:Str)(i:Nat)(f:Str)(ρ:En):Qb (Qa<|Qa K3×D):=(ρ[i]?).join.bind λw=>(w.fp c f).bind (·.xs)
def rD(p:Ar×En):Qb (Qa K3):=(p.1.get p.2).bind λu=>u.da.bind Fu
def GP(c:Str)(i:Nat)(f:Str)(mk:ME):ME:=λρ=>(fX c i f ρ).bind λkvs=>(mk ρ).bind λp=>(rD p).bind λk=>(f9 kvs k).bind λy=>ž (.u<|.d y,p.2)
def Ka(neg:Bool)(mk:ME)(c:Str)(i:Nat)(f:Str):ME:=λρ=>(mk ρ).bind λp=>(fX c i f p.2).bind λkvs=>(rD p).bind λk=>ž (.u<|.d<|.bool (if neg=ż then !(f9 kvs k).isSome else(f9 kvs k).isSome),p.2)
def GO(c:Str)(i:Nat)(f:Str)(mk mv:ME):MS:=λρ=>(mv ρ).bind λp=>(fX c i f p.2).bind λkvs=>(mk p.2).bind λq=>(rD q).bind λk=>(p.1.get q.2).bind λx=>x.da.bind λx=>(q.2[i]?).join.bind λw=>if kvs.length < ħ then ž (.nx<|q.2.set i<|some<|w.aQ f<|.x<|eC kvs k x)else Ž
section
variable{ρ:En}{C:Qg}{vs:Qa (Str×V)}{ps:Qa (Qg×HO)}{fs:Qa (Str×PU)}{p:HO}{mk mv:ME}{EX:fZ}
theorem GN{kvs:Qa (Qa K3×D)}(r:Rs K ρ σ H)(e:fX c i f ρ=ž kvs):∃fs a C dx vs ps b us,ρ[i]?=ž (ž<|.o c fs)/\Pt K σ H c i f (.x kvs) fs a C dx vs ps b (.dX us)/\cS K H us kvs:=by
 unfold fX at e;have(w,e0,e):=bQ e;have(u,eu,e):=bQ e;cases zBM e;have(fs,a,C,dx,vs,ps,b,p,rfl,t):=NG r e0 eu rfl;have h:=t.pp;unfold PP at h;split at h
 .rename_i h';cases h'
 .rename_i h';cases h'
 .rename_i us xs h'
  cases h';exact⟨fs,a,C,dx,vs,ps,b,us,lJ e0,t,h⟩
 .cases h
theorem IX{a:Ar}{v:V}{k:Qa K3}(h:∀u,a.get ρ=ž u->Rp K H v u)(e:rD (a,ρ)=ž k):∃b,v=.ref b/\N3 K H k b:=by
 unfold rD at e;have(u,eu,e):=bQ e;have(d,ed,e):=bQ e;cases oC ed;exact zD9 (h _ eu) e
theorem Pt.Wy{u:PU}{us:Qa (Qa K3×V)}{k:Qa K3}{kb:Qg}{Q:Hp->Prop}(t:Pt K σ H c i f u fs a C dx vs ps b (.dX us))(hk:N3 K H k kb)(q:Q H):MP K H b (.ref kb) (eL us k) Q :=
 ⟨_,H,t.op.cJ,⟨us,k,kb,t.at,rfl,hk.keeps t.op.cJ.tup,rfl⟩,t.op.jh,q⟩
theorem zBO(hc:∀C,XN K c C->gX K C/\iP K C f)(hq:VQ K tk mk):VE K (NJ K (sY K (fQ i) f) tk) (GP c i f mk):=by
 intro ρ σ H a ai Q r e q;have(kvs,e0,e):=bQ e;obtain⟨⟨a1,ρ1⟩,e1,e⟩:=bQ e;have(k,ek,e):=bQ e;have(y,ey,e):=bQ e;cases e;have(fs,l,C,dx,vs,ps,b,us,_,t,kv):=GN r e0;refine t.fld hc ?_;have(rfl,run):=hq ρ σ H a1 ρ1 _ r e1;refine run λv k1=>?_;have(kb,rfl,hk):=IX (λu eu=>k1.now r (Go.refl r) eu) ek;rcases kv.val k with⟨v,d,h1,h2,h3⟩|⟨_,h2⟩
 .rw[ey]at h2
  cases h2;exact⟨b,v,rfl,h1▸t.Wy hk (q _ _ (Go.refl r) ⟨h3,Nw.data⟩)⟩
 .rw[ey]at h2
  cases h2
theorem zuq(hc:∀C,XN K c C->gX K C/\iP K C f)(hk:VE K tk mk):VE K (IY K tk<|sY K (fQ i) f) (Ka ż mk c i f):=by
 intro ρ σ H a ai Q r e q;obtain⟨⟨a1,ρ1⟩,e1,e⟩:=bQ e;have(kvs,e0,e):=bQ e;have(k,ek,e):=bQ e;cases e;refine hk ρ σ H a1 ρ1 _ r e1 λv H1 g1 k1=>?_;have(fs,l,C,dx,vs,ps,b,us,_,t,kv):=GN g1.rs e0;refine t.fld hc ?_;have(kb,rfl,o9):=IX (λu eu=>k1.now r g1 eu) ek;refine⟨b,eL us k,rfl,t.Wy o9<|q _ _ g1 ⟨?_,Nw.data⟩⟩;rcases kv.val k with⟨v,d,h1,h2,h3⟩|⟨h1,h2⟩<;>rw[h1,h2]<;>exact .bl _
theorem zBP(hc:∀C,XN K c C->gX K C/\iP K C f)(hq:VQ K tk mk)(hv:VE K tv mv):VS K pn EX (NH K (sY K (fQ i) f) tk tv) (GO c i f mk mv):=by
 intro aj A H₀ aq ρ σ H fl D s e k;replace e:=bQ e;obtain⟨⟨a1,ρ1⟩,e1,e⟩:=e;replace e:=bQ e;have(kvs,e0,e):=e;replace e:=bQ e;obtain⟨⟨a2,au⟩,e2,e⟩:=e;replace e:=bQ e;have(ky,ek,e):=e;replace e:=bQ e;have(u,eu,e):=e;replace e:=bQ e;have(x,ed,e):=e;cases oC ed;replace e:=bQ e;have(w,ew,e):=e;dsimp only at e ew eu;split at e
 .rename_i hz
  cases e;refine hv ρ σ H a1 ρ1 _ s.rs e1 λv H1 g1 k1=>?_;have(fs,l,C,dx,vs,ps,b,us,ei,t,kv):=GN g1.rs e0;refine t.fld hc ?_;have(rfl,run):=hq ρ1 σ H1 a2 au _ g1.rs e2;refine run λy k2=>?_;have pv:DF K H1 v x:=k1.now s.rs g1 eu;have(kb,rfl,o9):=IX (λu eu=>k2.now g1.rs (Go.refl g1.rs) eu) ek;rw[ei]at ew;cases ew;have(re,go):=t.put (u':=.x (eC kvs ky x)) (p':=.dX (dY us ky v)) g1.rs ei rfl λH' kp=>(kv.kp kp).put ky<|DF.kp kp pv;exact⟨b,_,_,_,rfl,t.op.cJ,⟨us,ky,kb,t.at,rfl,o9.keeps t.op.cJ.tup,by rw[kv.len];exact hz,rfl⟩,re,k _ _<|s.go<|g1.trans go⟩
 .cases e
end
def J9(K:qc)(r:Qa V->Hp->VK->Prop):Qa V->Hp->VK->Prop:=λxs H Q=>∃H1,Re K H H1/\r xs H1 λv H2=>∃H3,Re K H2 H3/\Q v H3
section
variable{X:Cx}
theorem Po{g:Qc}(h:fV X g r):fV X g (J9 X.K r):=λpins s σ H xs us Q I rs q=>by
 have(H1,r1,q):=q;refine az (h pins s σ H1 xs us _ (I.re r1) rs q) λu s1 z=>?_;have(y,H2,I2,ry,H3,r3,z):=z;exact⟨y,H3,I2.re r3,ry,z⟩
end
noncomputable def PU.ls:PU->Qb (Qa D)
 |.l xs=>ž xs
 |_=>Ž
theorem zBR{u:PU}{xs:Qa D}(h:u.ls=ž xs):u=.l xs:=by
 cases u<;>cases h;rfl
def wz(c:Str)(i:Nat)(f:Str)(ρ:En):Qb (Qa D):=(ρ[i]?).join.bind λw=>(w.fp c f).bind (·.ls)
noncomputable def sR:D->Qb Int
 |.int n=>ž n
 |_=>Ž
theorem Jk{d:D}{n:Int}(h:sR d=ž n):d=.int n:=by
 cases d<;>cases h;rfl
def GL(c:Str)(i:Nat)(f:Str):ME:=λρ=>(wz c i f ρ).bind λxs=>ž (.u<|.d<|.int xs.length,ρ)
section
variable{ρ:En}{mk mv:ME}
theorem Of{xs:Qa D}(r:Rs K ρ σ H)(e:wz c i f ρ=ž xs):∃fs a C dx vs ps b us,ρ[i]?=ž (ž<|.o c fs)/\Pt K σ H c i f (.l xs) fs a C dx vs ps b (.lst us)/\aI K H us xs:=by
 unfold wz at e;have(w,e0,e):=bQ e;have(u,eu,e):=bQ e;cases zBR e;have(fs,a,C,dx,vs,ps,b,p,rfl,t):=NG r e0 eu rfl;have h:=t.pp;unfold PP at h;split at h
 .rename_i us xs h'
  cases h';exact⟨fs,a,C,dx,vs,ps,b,us,lJ e0,t,h⟩
 .rename_i h';cases h'
 .rename_i h';cases h'
 .cases h
theorem zBS(hc:∀C,XN K c C->gX K C/\iP K C f):VE K (mF (J9 K<|Ko K)<|j0 (sY K (fQ i) f) jZ) (GL c i f):=by
 intro ρ σ H a ai Q r e q;have(xs,e0,e):=bQ e;cases e;have(fs,l,C,dx,vs,ps,b,us,_,t,kv):=Of r e0;refine t.fld hc ?_;refine⟨_,t.op.cJ,b,us,rfl,.inl<|bu.of t.at,H,t.op.jh,q _ _ (Go.refl r) ⟨?_,Nw.data⟩⟩;rw[kv.len];exact .int _
end
section
variable{C C':Qg}
theorem XN.one(h:XN K c C)(h':XN K c C'):C=C':=by
 have z:=(show Ĳ K İ c=ž (ž<|.ref C) from h).symm.trans (show Ĳ K İ c=ž (ž<|.ref C') from h');injection z with z;injection z with z;injection z
end
structure CI (P:Qe) (w:Qh) (K:qc) (mg:Str->Qb Qc) (base:Ļ) (c:Str) (m:Str) (k:Nat) (ps:Qa Str) (sp:Sp):Prop where
 ex:∃(C f:Qg) (fd:ϋ),XN K c C/\gX K C/\cD P w K mg base jK k f fd ps sp/\n9 K fd ps []/\wK K C m f
def NF(K:qc)(c:Str)(m:Str)(sp:Sp)(ta:TE)(t:TA):TE:=λσ H Q=>ta σ H λx H1=>(∃C a dx fs H',XN K c C/\x=.ref a/\Re K H1 H'/\H' a=ž (.ins C dx fs)/\fs.lookup m=Ž)/\t σ H1 λvs H2=>sp (x::vs) H2 Q E0
section
variable{X:Cx}{m:Str}{C:Qg}{k:Nat}{ps:Qa Str}{es:Qa ĺ}{t:TA}{pos:Pos}
theorem tL{pl:Sem Bool}(M:CI X.prog X.w X.K X.mg X.base c m k ps sp)(he:Wr (PE X o ta))(ha:Wr (PA X (e::es) t))(hr:autoParam (aE k X.A) ĕ)
  (hs:autoParam (zV e=ż) ć) (dN:autoParam (es.all zV=ż) ć)
  (ht:autoParam (Ť (.Call (.Attribute o m apos) (e::es) [] pos) X.env=(do
   let ov <-Ť o X.env
   Χ apos.atName
   let (f,first) <-Ϟ [ov] (getMethod ov m pl)
   callWith pos f first (Ω pos<|ŏ (e::es) X.env) (a3J pos<|a1O [] X.env))) ć):
  Wr (PE X (.Call (.Attribute o m apos) (e::es) [] pos)<|NF X.K c m sp ta t):=by
 refine⟨?_⟩;have(C,f,fd,xn,cl,F,hb,hm):=M.ex;intro pins s σ H Q I h;refine PySem.W.methodCall_KW (pl:=pl) (az (he.run pins s σ H _ I h) λu s1 hZ=>?_) ht;obtain⟨x,H1,I1,rx,⟨C',a,dx,fs,H',KS,ex,re,ea,l⟩,q⟩:=hZ;cases xn.one KS;subst ex;obtain rfl:u=Į a:=rx;refine znd (I1.re re) ea cl hm l ?_;refine a3O (first:=[.ref a]) (h₀:=X.base) I.ok.mod.fJ hm.kp (az (ha.run pos pins s1 σ H1 _ I1 q) λus s2 ⟨vs,H2,I2,r,q2⟩=>⟨I2.aZ,?_⟩) (nF hs)<|rO dN;exact OR (us:=.ref a::us) (vs:=.ref a::vs) (dvs:=[]) (E:=E0) F hr hb .nil Hj I2 (.cons rfl r) (by rw[ń];exact q2)
end
noncomputable def U.vR(c m:Str):U->Bool
 |.o c' fs=>decide (c'=c) && (fs.lookup m).isNone
 |_=>Ż
theorem Y0{m:Str}{w:U}(h:w.vR c m=ż):∃fs,w=.o c fs/\fs.lookup m=Ž:=by
 unfold U.vR at h;split at h
 .rename_i c' fs
  rw[Ŕ,decide_eq_true_iff,Option.isNone_iff_eq_none]at h;have(rfl,h):=h;exact⟨fs,rfl,h⟩
 .cases h
def ng(c:Str)(i:Nat)(m:Str)(F:FD)(ma:MA):ME:=λρ=>(ρ[i]?).join.bind λw=>if w.vR c m=ż then aO F (ze (zi i) ma) ρ else Ž
section
variable{vs:Qa (Str×V)}{ps:Qa (Qg×HO)}{fs:Qa (Str×PU)}{m:Str}{C C':Qg}{t:TA}{ma:MA}
theorem FO.aM(h:FO K H vs ps fs):fs.lookup m=Ž->vs.lookup m=Ž:=by
 refine FO.ind (M:=λvs ps fs=>fs.lookup m=Ž->vs.lookup m=Ž) h (λ_=>rfl) (λn v x vs ps fs _ _ ih e=>?_) λn b p u' vs ps fs _ _ ih e=>?_
 all_goals
  rw[Ķ]at e ⊢;split at e
  .cases e
  .rename_i q
   try rw[q]
   exact ih e
theorem sX{F:FD}(n:Nat)(h:lS K t ma)(hn:autoParam (∀ρ as ai,ze (zi i) ma ρ=ž (as,ai)->as.length=n) ģ):VE K (NF K c m (qH K n F) (fQ i) t) (ng c i m F ma):=by
 intro ρ σ H a ai Q r e q;have(w,e0,e):=bQ e;split at e
 .rename_i hw
  have(fs,rfl,hf):=Y0 hw;have(v0,dQ,R):=r.rep i _ (lJ e0);have(l,C',dx,vs,ps,rfl,hl,ne,KS,nd,fo,yy,own):=R;have op:Op K H l C' dx vs ps:=⟨hl,ne,nd,yy,own,fo.flat⟩;have(v,ev,z):=zK n (zb zd h) hn ρ σ H a ai Q r e q;rw[dQ]at ev;cases ev;exact⟨_,dQ,⟨C',l,dx,vs,_,KS,rfl,op.cJ,tV,fo.aM hf⟩,z⟩
 .cases e
end
def Oe:TE:=λ_ H Q=>∀p,H p=Ž->Q (.ref p) (upd H p<|.dX [])
section
theorem YZ(e:H b=ž (.dT [])):Re K H (upd H b<|.dX []):=by
 have ne:∀{c:Qg} {o:HO},H c=ž o->o≠.dT []->c≠b:=λhc n z=>by
  rw[z,e]at hc;exact n (qy hc).symm
 have keep:∀{c:Qg} {o:HO},H c=ž o->o≠.dT []->upd H b (.dX []) c=ž o:=λhc n=>by rw[zu<|ne hc n];exact hc
 refine⟨λP w h ok c o hc=>?_,λc hc=>?_,λc xs hc=>keep hc (λz=>nomatch z),λc o u hc=>keep hc (λz=>nomatch z),λc ps hc=>keep hc (λz=>nomatch z)⟩
 .have st:∀{c:Qg} {o:HO},zP P w K H h c o->zP P w K (upd H b<|.dX []) h c o:=λx=>x.dZ (λ_ _ _ q=>q) (λb q=>keep q (λz=>nomatch z)) λb ys q=>keep q (λz=>nomatch z)
  by_cases z:c=b
  .subst z
   rw[zq]at hc;cases hc;refine st ?_;have(h1,h2,xs,hx,o,es,ep,h3,h4,h5,h6,h7):=(show zP P w K H h c (.dT []) from ok c _ e);cases hx;exact⟨h1,h2,[],.nil,o,es,ep,h3,h4,h5,h6,.nil⟩
  .rw[zu z]at hc
   exact st<|ok c o hc
 .rw[zu (λz=>by rw[z,e]at hc;cases hc)]
  exact hc
theorem Pn{X:Cx}{pos:Pos}:Wr (PE X (.Dict [] [] pos) Oe):=⟨λpins s σ H Q I q=>(Kd xP).run pins s σ H Q I ⟨H,Re.refl _ _,λp hp=>⟨_,YZ zq,by rw[zvD];exact q p hp⟩⟩⟩
end
def PU.new:PU->TE
 |.l _=>Dt jZ
 |.t _=>DX
 |_=>Oe
def PU.ho:PU->HO
 |.l _=>.lst []
 |.t _=>.dT []
 |_=>.dX []
noncomputable def PU.nil:PU->Bool
 |.l []=>ż
 |.t []=>ż
 |.x []=>ż
 |_=>Ż
theorem YY{p:PU}{Q:VK}(h:∀b,H b=Ž->Q (.ref b) (upd H b p.ho)):p.new σ H Q:=by
 cases p with
 |l xs=>exact⟨Ç _,h⟩
 |_=>exact h
theorem Od{p:PU}(h:p.nil=ż):PP K H p.ho p:=by
 unfold PU.nil at h;split at h
 .exact aI.nil
 .exact Paired.nil
 .exact Paired.nil
 .cases h
def GK(K:qc):Qa (Str×PU)->TS
 |[]=>λD σ H=>D.nx σ H
 |[(f,p)]=>yQ K (fQ 0) p.new f
 | (f,p)::r=>Ds (yQ K (fQ 0) p.new f)<|GK K r
def Fq(a C dx:Qg):Qa (Str×PU)->Qa (Str×V)->Hp->(Hp->Prop)->Prop
 |[],_,H,Q=>Q H
 | (f,p)::r,vs,H,Q=>∀b,H b=Ž->Fq a C dx r (vs++[(f,.ref b)]) (upd (upd H b p.ho) a<|.ins C dx<|vs++[(f,.ref b)]) Q
def Lb(C:Qg)(fl:Qa (Str×PU)):Sp:=λvs H Q _=>∃a dx,vs=[.ref a]/\H a=ž (.ins C dx [])/\Fq a C dx fl [] H (Q .aM)
theorem YX{C:Qg}{fl:Qa (Str×PU)}{vs:Qa V}{Q:VK}{E:XK}(h:Lb C fl vs H Q E):vs.length=1:=by
 have(a,dx,rfl,_):=h;rfl
section
variable{C:Qg}
theorem QQ:∀{fs:Qa (Str×V)},f∉fs.map (·.1)->jb f y fs=fs++[(f,y)]
 |[],_=>rfl
 | (g,v)::r,h=>by
  rw[Ī,qw,not_or]at h;unfold jb;rw[a5F (λz=>h.1 (by first|exact z|exact z.symm)),QQ h.2];rfl
theorem QP(c:gX K C){Q:Hp->Prop}{R:VK}:∀{fl:Qa (Str×PU)} {vs:Qa (Str×V)} {H:Hp},fl≠[]->(∀p∈fl,iP K C p.1)->(vs.map (·.1)++fl.map (·.1)).Nodup->vs.length+fl.length<=1000->H a=ž (.ins C dx vs)->Fq a C dx fl vs H Q->GK K fl {nx:=λ_ H'=>Q H',rt:=R} (iA N [.ref a]) H
 |[],_,_,ne,_,_,_,_,_=>absurd rfl ne
 | (f,p)::r,vs,H,_,na,nd,hl,e,q=>by
  have hf:f∉vs.map (·.1):=λz=>(List.nodup_append.mp nd).2.2 _ z _ qq rfl;rw[qv]at hl;have go:∀{D:Ends},(∀b,H b=Ž->D.nx (iA N [.ref a]) (upd (upd H b p.ho) a<|.ins C dx<|vs++[(f,.ref b)]))->yQ K (fQ 0) p.new f D (iA N [.ref a]) H:=λh=>by
   refine YY λb hb=>?_;refine⟨.ref a,rfl,a,C,dx,vs,rfl,?_,c,na _ qq,by omega,?_⟩
   .rw[zu (λz=>by rw[<-z,e]at hb;cases hb)]
    exact e
   .rw[QQ hf]
    exact h b hb
  cases r with
  |nil=>exact go q
  |cons x r=>
   refine go λb hb=>?_;refine QP c (λz=>nomatch z) (λp hp=>na p<|qp _ hp) ?_ ?_ zq<|q b hb
   .rw[ĵ,ĸ]
    exact nd
   .rw[qu]
    simp only[qv,š]at hl ⊢;omega
end
structure sO (P:Qe) (w:Qh) (K:qc) (mg:Str->Qb Qc) (base:Ļ) (n:Str) (fl:Qa (Str×PU)):Prop where
 fn:∃(C f:Qg) (fd:ϋ) (ps:Qa Str),XN K n C/\mg n=ž (.ref C)/\Mk K C f/\n9 K fd ps []/\cD P w K mg base jK 1 f fd ps (Lb C fl)
def UC(K:qc)(c:Str)(fl:Qa (Str×PU)):TE:=λσ H Q=>∀C,XN K c C->K4 K (NR C (Lb C fl) [] E0 jZ) σ H Q
theorem zEb{X:Cx}{fl:Qa (Str×PU)}{pos:Pos}(O:sO X.prog X.w X.K X.mg X.base x fl)(hr:autoParam (aE 2 X.A) ĕ)(hg:autoParam (Gl X x) ď)(gJ:autoParam ((x==("__debug__":Str))=Ż) ă):
  Wr (PE X (.Call (.Name x p) [] [] pos)<|UC X.K x fl):=by
 have(C,f,fd,ps,xn,gm,M,hb,F):=O.fn;exact⟨λpins s σ H Q I h=>(Kd ⟨zrY (dvs:=[]) (E:=E0) M F hr hg gm hb .nil Hj gJ⟩).run pins s σ H Q I<|h C xn⟩
structure CG (K:qc) (H₀:Hp) (x C dx:Qg) (vs:Qa (Str×V)) (ps:Qa (Qg×HO)) (fs:Qa (Str×PU)) (H:Hp):Prop where
 at_:H x=ž (.ins C dx vs)
 pa:∀q∈ps,H q.1=ž q.2/\q.2.flat=ż
 nd:(ps.map (·.1)).Nodup
 fo:∀H,FO K H vs ps fs
 wD:H dx=ž (.own x)
 sm:∀b o,H₀ b=ž o->b≠x->H b=ž o
 nw:∀q∈ps,H₀ q.1=Ž
 ln:ps.length=fs.length
section
variable{x C:Qg}{vs:Qa (Str×V)}{ps:Qa (Qg×HO)}{fs fl:Qa (Str×PU)}{p:HO}{u:PU}
theorem FO.snoc{n:Str}(h:FO K H vs ps fs)(hp:PP K H p u):FO K H (vs++[(n,.ref b)]) (ps++[(b,p)]) (fs++[(n,u)]):=
 FO.ind (M:=λvs ps fs=>FO K H (vs++[(n,.ref b)]) (ps++[(b,p)])<|fs++[(n,u)]) h (FO.pp hp .nil) (λ_ _ _ _ _ _ h _ ih=>.d h ih) λ_ _ _ _ _ _ _ h _ ih=>.pp h ih
theorem CG.step(i:CG K H₀ x C dx vs ps fs H)(hx:H₀ x=Ž)(hb:H b=Ž)(hu:u.nil=ż):CG K H₀ x C dx (vs++[(f,.ref b)]) (ps++[(b,u.ho)]) (fs++[(f,u)]) (upd (upd H b u.ho) x<|.ins C dx<|vs++[(f,.ref b)]):=by
 have bx:b≠x:=λz=>by rw[z,i.at_]at hb;cases hb
 have nb:∀{c:Qg} {o:HO},H c=ž o->c≠b:=λhc z=>by rw[z,hb]at hc;cases hc
 have b0:H₀ b=Ž:=by
  cases e:H₀ b with
  |none=>rfl
  |some o=>rw[i.sm b o e bx]at hb;cases hb
 refine⟨zq,λq hq=>?_,?_,λH=>(i.fo H).snoc<|Od hu,?_,λc o hc n=>?_,λq hq=>?_,by rw[qu,qu,i.ln];rfl⟩
 .rcases Á.mp hq with hq|hq
  .have(h1,h2):=i.pa q hq
   refine⟨?_,h2⟩;rw[zu (λz=>by rw[z,i.at_]at h1;rw[<-qy h1]at h2;cases h2),zu<|nb h1];exact h1
  .cases qr.mp hq
   refine⟨?_,(Od (K:=K) (H:=H) hu).flat⟩;rw[zu bx];exact zq
 .rw[ĵ,a4Y]
  refine⟨i.nd,by simp,λc hc d hd z=>?_⟩;cases qr.mp hd;have(q,hq,eq):=À.mp hc;exact nb (i.pa q hq).1<|eq.trans z
 .rw[zu λz=>?_,zu<|nb i.wD]
  .exact i.wD
  .have:=i.wD
   rw[z,i.at_]at this;cases this
 .rw[zu n,zu<|nb<|i.sm c o hc n]
  exact i.sm c o hc n
 .rcases Á.mp hq with hq|hq
  .exact i.nw q hq
  .cases qr.mp hq
   exact b0
theorem Oc{Q:Hp->Prop}(hx:H₀ x=Ž):∀{fl fs:Qa (Str×PU)} {vs:Qa (Str×V)} {ps:Qa (Qg×HO)} {H:Hp},CG K H₀ x C dx vs ps fs H->(∀p∈fl,p.2.nil=ż)->(∀vs ps H,CG K H₀ x C dx vs ps (fs++fl) H->Q H)->Fq x C dx fl vs H Q
 |[],fs,vs,ps,H,i,_,q=>q vs ps H (by rw[ń];exact i)
 | (f,u)::r,fs,vs,ps,H,i,hn,q=>λb hb=>Oc hx (i.step hx hb<|hn _ qq) (λp hp=>hn p<|qp _ hp) λvs ps H j=>q vs ps H (by rw[ĸ]at j;exact j)
noncomputable def J8(c:Str)(fl:Qa (Str×PU)):ME:=λρ=>ž (.u<|.o c fl,ρ)
theorem zEc(ne:fl≠[])(hn:∀p∈fl,p.2.nil=ż):VE K (UC K c fl) (J8 c fl):=by
 intro ρ σ H a ai Q r e q;cases e;intro C xn;refine⟨H,Re.refl _ _,λx dx hx hd nx=>⟨x,dx,rfl,zq,?_⟩⟩;refine Oc (K:=K) (H₀:=H) (fs:=[]) (ps:=[]) hx ⟨zq,λq hq=>(nomatch hq),.nil,λ_=>.nil,?_,λb o hb n=>?_,λq hq=>(nomatch hq),rfl⟩ hn λvs ps H2 i=>⟨rfl,?_⟩
 .rw[zu nx]
  exact zq
 .rw[zu n,zu<|lK hb hd]
  exact hb
 .have px:∀q∈ps,q.1≠x:=λq hq z=>by
   have(h1,h2):=i.pa q hq;rw[z,i.at_]at h1;rw[<-qy h1]at h2;cases h2
  have dm:dx∉ps.map (·.1):=λz=>by
   have(q,hq,eq):=À.mp z;have(h1,h2):=i.pa q hq;rw[eq,i.wD]at h1;rw[<-qy h1]at h2;cases h2
  refine⟨_,D6 (ps:=ps) i.at_ px i.pa,?_⟩;have sm:dJ H (jh H2 x C dx vs ps):=λb o hb=>by
   have bx:=lK hb hx;rw[vp (λz=>?_) bx]
   .exact i.sm b o hb bx
   .have(q,hq,eq):=À.mp z
    have:=i.nw q hq;rw[eq,hb]at this;cases this
  refine q _ _ (Go.grow r sm) ⟨⟨x,C,dx,vs,ps,rfl,AB,λz=>?_,xn,i.nd,i.fo _,dm,λq hq=>xw (À.mpr ⟨q,hq,rfl⟩)<|px q hq⟩,λ_=>⟨x,rfl,hx⟩⟩;have l:=i.ln;rw[z]at l;exact ne<|ä.mp l.symm
end
section
variable{C l:Qg}{vs:Qa (Str×V)}{ps:Qa (Qg×HO)}
theorem Op.new(o:Op K H a C dx vs ps)(hl:Internal.cJ H a C dx vs ps l=Ž)(t:HO):H l=Ž/\Re K (upd (Internal.cJ H a C dx vs ps) l t) (upd H l t):=by
 have la:l≠a:=λz=>by rw[z,tV]at hl;cases hl
 have lp:l∉ps.map (·.1):=λz=>by
  have(q,hq,eq):=À.mp z;rw[<-eq,u6 o.nd hq<|o.pa q hq]at hl;cases hl
 have h0:H l=Ž:=by rw[rM lp la]at hl;exact hl
 refine⟨h0,?_⟩;have ql:∀q∈ps,q.1≠l:=λq hq z=>lp<|À.mpr ⟨q,hq,z⟩;have:=D6 (K:=K) (H:=upd (Internal.cJ H a C dx vs ps) l t) (a:=a) (C:=C) (dx:=dx) (vs:=vs) (ps:=ps) (by rw[zu<|ň la];exact tV) o.pa λq hq=>⟨by rw[zu<|ql q hq];exact u6 o.nd hq<|o.pa q hq,o.flat q hq⟩;have e:Internal.jh (upd (Internal.cJ H a C dx vs ps) l t) a C dx vs ps=upd H l t:=by
  funext c
  by_cases h1:c=a
  .subst h1
   rw[AB,zu<|ň la,o.at_]
  .by_cases h2:c∈ps.map (·.1)
   .rw[xw h2 h1]
    have(q,hq,e):=À.mp h2;rw[<-e,zu<|ql q hq,o.own q hq]
   .rw[vp h2 h1]
    by_cases h3:c=l
    .subst h3
     rw[zq,zq]
    .rw[zu h3,zu h3,rM h2 h1]
 rw[e]at this;exact this
end
def GJ(c:Str)(i:Nat)(f:Str):ME:=λρ=>(wz c i f ρ).bind λxs=>ž (.u<|.d<|.tuple xs,ρ)
section
variable{mk mv:ME}{EX:fZ}
theorem zBU(hc:∀C,XN K c C->gX K C/\iP K C f):VE K (mF (J9 K<|Jg K)<|j0 (sY K (fQ i) f) jZ) (GJ c i f):=by
 intro ρ σ H a ai Q r e q;have(xs,e0,e):=bQ e;cases e;have(fs,l,C,dx,vs,ps,b,us,_,t,kv):=Of r e0;refine t.fld hc ?_;refine⟨_,t.op.cJ,b,us,rfl,.inl ⟨bu.of t.at,λp hp=>?_⟩⟩;have(h0,re):=t.op.new hp (.tup us);have sm:=zF h0 (.tup us);exact⟨_,re,q _ _ (Go.grow r sm) ⟨DF.tup (.inl zq)<|kv.kp sm.kp,Nw.data⟩⟩
end
section
variable{ρ:En}{mk mv me:ME}{ma:MA}{m:Str}{QE:Ar×En->Prop}{QS:Fl->Prop}{QT:Bool×En->Prop}{F:FD}{fl:Qa (Str×PU)}
theorem zuy:Wo (ng c i m F ma ρ) QE=Wo (ρ[i]?).join (Co (λw=>if w.vR c m=ż then aO F (ze (zi i) ma) ρ else Ž) ⟨0⟩ QE):=by
 show Wo (ō _ _) QE=_;rw[zn]
theorem zuz:Wo (J8 c fl ρ) QE=QE (.u<|.o c fl,ρ):=by
 show Wo (ž _) QE=_;rw[zZ]
theorem XD{QX:Qa (Qa K3×D)->Prop}:Wo (fX c i f ρ) QX=Wo (ρ[i]?).join (Co (λw=>(w.fp c f).bind (·.xs)) ⟨0⟩ QX):=by
 show Wo (ō _ _) QX=_;rw[zn]
theorem zuA{QX:Qa D->Prop}:Wo (wz c i f ρ) QX=Wo (ρ[i]?).join (Co (λw=>(w.fp c f).bind (·.ls)) ⟨0⟩ QX):=by
 show Wo (ō _ _) QX=_;rw[zn]
theorem zqa:Wo (GP c i f mk ρ) QE=Wo (fX c i f ρ) (Co (λkvs=>(mk ρ).bind λp=>(rD p).bind λk=>(f9 kvs k).bind λy=>ž (.u<|.d y,p.2)) ⟨0⟩ QE):=by
 show Wo (ō _ _) QE=_;rw[zn]
theorem zuB{neg:Bool}:Wo (Ka neg mk c i f ρ) QE=Wo (mk ρ) (Co (λp=>(fX c i f p.2).bind λkvs=>(rD p).bind λk=>ž (.u<|.d<|.bool (if neg=ż then !(f9 kvs k).isSome else(f9 kvs k).isSome),p.2)) ⟨0⟩ QE):=by
 show Wo (ō _ _) QE=_;rw[zn]
theorem zqb:Wo (GO c i f mk mv ρ) QS=Wo (mv ρ) (Co (λp=>(fX c i f p.2).bind λkvs=>(mk p.2).bind λq=>(rD q).bind λk=>(p.1.get q.2).bind λx=>x.da.bind λx=>(q.2[i]?).join.bind λw=>if kvs.length < ħ then ž (.nx<|q.2.set i<|some<|w.aQ f<|.x<|eC kvs k x)else Ž) ⟨0⟩ QS):=by
 show Wo (ō _ _) QS=_;rw[zn]
theorem zqc:Wo (GL c i f ρ) QE=Wo (wz c i f ρ) (Co (λxs=>ž (.u<|.d<|.int xs.length,ρ)) ⟨0⟩ QE):=by
 show Wo (ō _ _) QE=_;rw[zn]
theorem zqd:Wo (GJ c i f ρ) QE=Wo (wz c i f ρ) (Co (λxs=>ž (.u<|.d<|.tuple xs,ρ)) ⟨0⟩ QE):=by
 show Wo (ō _ _) QE=_;rw[zn]
theorem zqe:Wo (DE c i f me ρ) QE=Wo (ρ[i]?).join (Co (λw=>(w.fl c f).bind λxs=>(me ρ).bind λp=>(p.1.get p.2).bind λu=>u.da.bind λx=>if xs.length < ħ then ž (.u<|.d .none,p.2.set i<|some<|w.aQ f<|.l<|xs++[x])else Ž) ⟨0⟩ QE):=by
 show Wo (ō _ _) QE=_;rw[zn]
end
theorem u5{X:Cx}{pos:Pos}(he:Wr (PE X e ta))(hb:autoParam (Ű e f X.env (Ť e X.env)=Ť e X.env) ć):Wr (PE X (.Attribute e f pos)<|sY X.K ta f):=Kd ⟨X3 he.run hb⟩
def OB(K:qc)(c:Str)(fl:Qa Str):Prop:=∀C,XN K c C->gX K C/\∀f∈fl,iP K C f
theorem OB.of{C:Qg}{fl:Qa Str}(h:XN K c C)(k:gX K C)(n:∀f∈fl,iP K C f):OB K c fl:=λC' h'=>by
 cases h.one h';exact⟨k,n⟩
theorem OB.at{fl:Qa Str}(o:OB K c fl)(h:autoParam (f∈fl) ă):∀C,XN K c C->gX K C/\iP K C f:=λC x=>⟨(o C x).1,(o C x).2 f h⟩
def uM(K:qc)(c x q:Str)(st:Ś):Prop:=∃(C f:Qg) (fd:ϋ),XN K c C/\gX K C/\kU K x q st f fd/\wK K C x f
theorem mtK{q:Str}{C f:Qg}{oc:Qc}{od an:Qb Qg}{kV doc pm bq ct:Qc}(a:Ĳ K İ c=ž (ž<|.ref C))(pg:Ϥ K C a3v=ż)(hd:ϻ K C=ż)(po:a0f K C=ż)(sa:Ņ K (.ref C) "__setattr__"=ž (ž<|.builtin "object.__setattr__"))
  (m:Ņ K (.ref C) x=ž (ž<|.ref f)) (fn:a0H K (.ref f)=ż) (l:K.lookup f=ž ⟨oc,od,.func<|Ū x q (p6 st) (j6 st) (zT st) .none kV doc pm an bq ct,nH⟩) (cd:Α K bq q=ż) (k:ť K (.ref f)=ż):uM K c x q st :=
 ⟨C,f,_,a,⟨pg,hd,po,sa⟩,HU l cd k,⟨m,fn,k⟩⟩
abbrev Zs.M(Z:Zs)(c x:Str)(k:Nat)(ps:Qa Str)(n:Nat)(F:FD):Prop:=CI Z.P Z.w Z.K Z.mg Z.base c x k ps (qH Z.K n F)
section
variable{Z:Zs}{q:Str}{ps:Qa Str}{k nn:Nat}{m:MS}
theorem J7(A:uM Z.K c x q st)(N:Qa Str)(bZ:∀{f},Ha Z q st k pn m N f)(S:autoParam (bE N ps<|zT st) ĥ)(yt:autoParam (ps.length=n) ć)(hN:autoParam (N.length=nn) ć)(yu:autoParam (n<=nn) ă)
  (hb:∀(kV doc pm:Qc) (an:Qb Qg) (bq ct:Qc) (us:Qa Qc),us.length=ps.length->a3I (Ū x q (p6 st) (j6 st) (zT st) .none kV doc pm an bq ct) ⟨us,[]⟩=pure (ps.zip us):=by
   intro _ _ _ _ _ _ us hl
   first
   | (have(_,rfl):=J1 hl;rfl)
   | (have(_,_,rfl):=CL hl;rfl)
   | (have(_,_,_,rfl):=Kh hl;rfl)
   | (have(_,_,_,_,rfl):=Kg hl;rfl)):Z.M c x (k+1) ps n (bA nn pn m):=
 let ⟨C,f,fd,xn,cl,F,mt⟩:=A;⟨⟨C,f,fd,xn,cl,F.Vu S yt hN yu λbq A outer s H E hr=>let ⟨t,a,b⟩:=bZ S.nd hr;⟨t,b,a⟩,F.binds hb,mt⟩⟩
theorem zFg{fl:Qa (Str×PU)}{C f:Qg}(xn:XN Z.K c C)(g:Z.mg c=ž (.ref C))(M:Mk Z.K C f)(cl:gX Z.K C)(na:∀p∈fl,iP Z.K C p.1)(F:kU Z.K "__init__" q st f fd)(ne:fl≠[])(nd:(fl.map (·.1)).Nodup)(hl:fl.length<=1000)
  (S:bE ["self"] ["self"] (zT st))
  (hb:∀(kV doc pm:Qc) (an:Qb Qg) (bq ct:Qc) (us:Qa Qc),us.length=1->a3I (Ū "__init__" q (p6 st) (j6 st) (zT st) .none kV doc pm an bq ct) ⟨us,[]⟩=pure (([("self":Str)]:Qa Str).zip us))
  (hw:∀{bq:Qc} {A:Qf} {outer:Qa Env} {s:Qd} {H:Hp} {E:XK},([("self":Str)]:Qa Str).Nodup->Wr (fN (pM jK Z.P Z.w Z.K Z.mg Z.base ["self"] q (zT st) f bq A outer s H E).uc (j6 st)<|GK Z.K fl)):sO Z.P Z.w Z.K Z.mg Z.base c fl:=by
 refine⟨C,f,fd,["self"],xn,g,M,F.binds hb,F.Vt (k:=0) S (λvs H Q E h=>YX h) λbq A outer s H vs Q E hr h=>⟨_,hw S.nd,?_⟩⟩;have(a,dx,rfl,e,q):=h;exact QP cl ne na (by rw[ŵ,ϵ];exact nd) (by rw[š,Ţ];exact hl) e q
end
section
variable{K:Type}[DecidableEq K]{knd:HeapKind prog w K}{s:Qd}
theorem zrn{xs:Qa (K×Qg×Qc)}{k:K}{v:Qc}(hu:knd.room A)(oZ:knd.is s.heap k a)(hm:s.heap.DictOfH knd d xs)
  (h1:∀p,μ xs k=ž p->Q p.2 {s with toks:=s.toks+knd.draws k})
  (hQ:μ xs k=Ž->∀h',h'.DictOfH knd d (storedH xs k a v)->ύ d s.heap h'->Q v {s with heap:=h',toks:=s.toks+knd.draws k})
  (hsz:xs.length<=ħ:=by size_fits):
  ĩ (Ĭ prog w) A (a3G d (.ref a) v) Q E s:=by
 have(o,es,ep,ho,hc,hd,he,V3,hn):=hm;unfold a3G
 try with_reducible refine Ő ?_
 refine qa<|knd.pyHash hu oZ ?_;refine qa<|wpAny_dictFind_heap (s:={s with toks:=s.toks+knd.draws k}) hu oZ ho hd he V3 hn ?_ ?_
 .intro BQ
  have Mc:k∉xs.map (·.1):=not_mem_keys_of_get BQ;refine qa<|ϝ<|qa<|wpAny_updateDictKeys (hz:=by have e:=size_of_entries he;omega) (s:={s with toks:=s.toks+knd.draws k}) ho hd<|qb<|hQ (a0V BQ) _ ⟨_,_,ep+1,Ð _ ho<|Obj.isFreed_of_dict<|a4x hd _,
   hc.mapDictKeys _,a4x hd _,?_,?_,?_⟩<|Ï ..
  .rw[storedH_new<|a0V BQ]
   simp[he,a2r]
  .rw[storedH_new<|a0V BQ]
   intro x hx;rcases Á.mp hx with hx|hx
   .exact knd.keeps (V3 x hx) ho hd (Ï ..)
   .simp only[qr]at hx
    subst hx;exact knd.keeps oZ ho hd<|Ï ..
  .rw[storedH_new<|a0V BQ]
   rw[ĵ,a4Y];refine⟨hn,by simp,?_⟩;intro x hx y hy;simp only[Ī,ŵ,qr]at hy;subst hy;exact λe=>Mc<|e▸hx
 .intro j p hj
  refine qa<|ũ (s:={s with toks:=s.toks+knd.draws k}) ho hd ?_;rw[entry_at he j,hj];exact qa<|ϝ<|qb<|h1 p<|atKey_of_get hn hj
end
def Nr(K:qc)(td ty tx:TE):TE:=λσ H Q=>td σ H λx H1=>∃a,x=.ref a/\Gi H1 a/\ty σ H1 λy H2=>tx σ H2 λz H3=>
 ∃kvs k b,y=.ref b/\H3 a=ž (.dT kvs)/\aJ K H3 b (k.map kV)/\kvs.length < ħ/\(∀v,eL kvs k=ž v->Q v H3)/\(eL kvs k=Ž->Q z (upd H3 a<|.dT<|dY kvs k z))
theorem zBW{X:Cx}{s:Qd}{v:V}{r:Qc}{k:Qa Key}(hu:A.units+1 < Ŷ)(I:Inv X pins σ H s)
  (e:H a=ž (.dT kvs)) (eb:aJ X.K H b (k.map kV)) (l:kvs.length < ħ) (rv:zE v r) (h1:∀x w' s',eL kvs k=ž x->Inv X pins σ H s'->zE x w'->Q w' s') (h2:eL kvs k=Ž->∀s',Inv X pins σ (upd H a<|.dT<|dY kvs k v) s'->Q r s'):
  ĩ (Ĭ X.prog X.w) A (a1P (.builtin "dict.setdefault") [.ref a,.ref b,r]) Q E s:=by
 have(z,hd,xs,rel,dd):=DK I.aZ I.aw e;have hz:xs.length<=ħ:=by rw[<-ų rel];exact z
 have hl:(dY kvs k v).length<=ħ:=by have:=AH kvs k v;omega
 refine Ŏ a2b dd.typeIs PySem.F.entry_dict_setdefault ?_<|PySem.F.args_dict_setdefault_3 _ _ _;unfold Builtin.«dict.setdefault»;refine qa ?_;unfold Builtin.Dict.keyAndDefault;refine qa<|ι dd.typeIs ?_;show ĩ _ _ (pure (a,Į b,ž r)) _ _ s;refine qb ?_;show ĩ _ _ (if(a==Œ)=ż then _ else(a3G a (.ref b) r >>= _)) _ _ s;rw[a5F (by rw[hd];exact qg)];have t9:=rel.val k;refine qa<|zrn (hsz:=hz) (Κ hu) (rG I.aZ I.aw eb) dd (λp hp=>?_) λhn h' nK hs=>?_
 .rw[hp]at t9
  cases ev:eL kvs k with
  |none=>rw[ev]at t9;exact t9.elim
  |some x=>
   rw[ev]at t9;exact qb ⟨_,rfl,h1 x _ _ ev (I.tok _) t9⟩
 .rw[hn]at t9
  have ev:eL kvs k=Ž:=by
   cases ev:eL kvs k with
   |none=>rfl
   |some x=>rw[ev]at t9;exact t9.elim
  refine qb ⟨_,rfl,h2 ev _ ?_⟩;have(q,es,ep,hq,h2,h3,h4,_,h5):=nK;refine xR I (by rw[e];exact ŧ) hs ⟨q,hq⟩ ⟨hl,hd,_,(rel.put k eb rv).keeps λc ys ec=>?_,q,es,ep,hq,h2,h3,h4,h5⟩;rw[zu (tI ec e (λz=>nomatch z))];exact ec
theorem zBX{X:Cx}{f:ĺ}{tx:TE}(hr:aE n X.A)(ho:Wr (PE X o td))(he:Wr (PE X e ty))(hf:Wr (PE X f tx))(m:M2 X o "setdefault" apos e f aL:=by exact⟨rfl,rfl,rfl,rfl⟩):Wr (PE X (.Call (.Attribute o "setdefault" apos) [e,f] [] aL)<|Nr X.K td ty tx):=by
 refine⟨?_⟩;intro pins s σ H Q I h;refine wpAny_Call_method m.base m.Wn m.line a2V a2b PySem.F.type_dict_setdefault<|az (ho.run pins s σ H _ I h) λu s1 hZ=>?_;have(x,H1,I1,rx,a,ex,d,q1):=hZ;subst ex;obtain rfl:u=Į a:=rx;have(t1,t2,_):=OM I1 d;refine⟨t1,t2,?_⟩;rw[m.trees];refine Ù rfl<|ô<|í (az (he.run pins s1 σ H1 _ I1 q1) λiv s2 ⟨y,H2,I2,ry,q2⟩=>
  í (az (hf.run pins s2 σ H2 _ I2 q2) λfv s3 hZ=>a1U ?_))
 have(z,H3,I3,rz,kvs,k,b,ey,e3,eb,hl,k1,k2):=hZ;subst ey;obtain rfl:iv=Į b:=ry;exact zBW (uW hr) I3 e3 eb hl rz (λx w' s' ev I' ig=>⟨_,_,I',ig,k1 x ev⟩) λev s' I'=>⟨_,_,I',rz,k2 ev⟩
def Dx(i:Nat)(my mx:ME):ME:=λρ=>(ρ[i]?).join.bind λw0=>if tu w0=ż then(my ρ).bind λp=>(mx p.2).bind λq=>(p.1.get q.2).bind λy=>y.da.bind λy=>(q.1.get q.2).bind λx=>x.da.bind λx=>(cW y).bind λk=>(q.2[i]?).join.bind λw=>match w with
 |.t kvs=>if kvs.length < ħ then ž (match f9 kvs k with|some v=>(.u<|.d v,q.2) |none=>(.u<|.d x,q.2.set i<|some<|.t<|eC kvs k x))else Ž
 |_=>Ž else Ž
theorem zBY{tx:TE}{my mx:ME}(hy:VE K ty my)(hx:VE K tx mx):VE K (Nr K (fQ i) ty tx) (Dx i my mx):=by
 intro ρ σ H a ai Q r e q;replace e:=bQ e;have(w0,e0,e):=e;split at e
 rotate_left
 .cases e
 rename_i hw0;replace e:=bQ e;obtain⟨⟨a1,ρ1⟩,e1,e⟩:=e;replace e:=bQ e;obtain⟨⟨b1,au⟩,e2,e⟩:=e;replace e:=bQ e;have(uy,Cp,e):=e;replace e:=bQ e;have(y,ey,e):=e;replace e:=bQ e;have(ux,Wu,e):=e;replace e:=bQ e;have(x,ex,e):=e;replace e:=bQ e;have(k,ek,e):=e;replace e:=bQ e;have(w,ew,e):=e;cases oC ey;cases oC ex;dsimp only at Cp Wu ew e;have(v0,dQ,p0):=r.rep i w0 (lJ e0);have(l,rfl,hl):=Qv p0 hw0;refine⟨_,dQ,l,rfl,hl,hy ρ σ H a1 ρ1 _ r e1 λyv H1 g1 k1=>hx ρ1 σ H1 b1 au _ g1.rs e2 λxv H2 g2 k2=>?_⟩;have py:=k1.later r g1 g2 Cp;have px:=k2.now g1.rs g2 Wu;split at e
 .rename_i kvs
  split at e
  .rename_i hz
   have(w',dP,p1):=g2.rs.rep i _ (lJ ew);have(l',us,rfl,wg,ds):=p1;rw[dQ]at dP;cases dP;have(kb,rfl,o9):=vm py ek;refine⟨us,k,kb,rfl,wg,o9,by rw[ds.len];exact hz,λv hv=>?_,λhv=>?_⟩
   .rcases ds.val k with⟨v',d,h1,h2,h3⟩|⟨h1,_⟩
    .rw[h1]at hv
     cases hv;rw[h2]at e;cases e;exact q _ _ (g1.trans g2) ⟨h3,Nw.data⟩
    .rw[h1]at hv;cases hv
   .rcases ds.val k with⟨v',d,h1,h2,h3⟩|⟨_,h2⟩
    .rw[h1]at hv;cases hv
    .rw[h2]at e
     cases e;have kp:=jS wg trivial (.dT<|dY us k xv);exact q _ _ ((g1.trans g2).trans<|Go.own (u':=.t (eC kvs k x)) g2.rs (lJ ew) rfl dQ ⟨l,_,rfl,zq,(ds.kp kp).put k<|DF.kp kp px⟩) ⟨DF.kp kp px,Nw.data⟩
  .cases e
 .cases e
section
variable{X:Cx}
def GS(K:qc):R2:=λx y H Q=>∃p xs i v,x=.ref p/\y=.int i/\0<=i/\bu K H p xs/\bt xs i=ž v/\Q v H
theorem zuD:U4 X (GS X.K):=by
 intro pins s σ H x y v u Q I rx ry h;have(p,xs,i,z,rfl,rfl,h0,hq,he,q):=h;cases rx;have(t,rfl):=ry;have(ah,r,pl,hz):=I.list hq;have(j,h1,h2,h3,h4,h5):=IH he;have(w,ew,ig):=r.get h2;have hl:=r.length;have hn:=vg;have hj:i.toNat=j:=by
  rw[a3j h0 h5]at h1;exact qy h1
 exact wpAny_getItem_list pl.isList h0 (by omega) (by rw[hj];simpa using ew) ⟨z,H,I,ig,q⟩
theorem zBZ{i:ĺ}{to ti:TE}{pos:Pos}(ho:Wr (PE X o to))(hi:Wr (PE X i ti))(he:Wr (PE X e te))(ha:autoParam (∀ov iv new,augStore i ov iv new=(do Ϟ [new,ov,iv] (a2L ov iv new);release [new,ov,iv] [];pure .next)) ĉ):
  Wr (PS X (.AugAssign (.Subscript o i jw) .Add e pos)<|Hu to ti te (GS X.K) (LP λi j=>i+j) DM):=⟨zvU ho.run hi.run zuD he.run XF vA ha⟩
end
noncomputable def U.yk:U->Qb (Qa D)
 |.l xs=>ž xs
 |_=>Ž
theorem O3{w:U}{xs:Qa D}(h:w.yk=ž xs):w=.l xs:=by
 cases w with
 |l ys=>cases h;rfl
 |_=>cases h
def Kn(i:Nat)(mi me:ME):MS:=λρ=>(ρ[i]?).join.bind λ_=>(mi ρ).bind λp=>(p.1.get p.2).bind λy=>y.da.bind λy=>(sR y).bind λn=>(p.2[i]?).join.bind λw=>w.yk.bind λxs=>if 0<=n then(bt xs n).bind λx=>(sR x).bind λa=>
 (me p.2).bind λq=>(q.1.get q.2).bind λz=>z.da.bind λz=>(sR z).bind λb=>(q.2[i]?).join.bind λw=>w.yk.bind λys=>(dM ys.length n).bind λj=>ž (.nx<|q.2.set i<|some<|.l<|ys.set j<|.int<|a+b)else Ž
section
variable{EX:fZ}{ρ ai:En}
theorem zEd{ti:TE}{me mi:ME}(hi:VE K ti mi)(h:VE K te me):VS K pn EX (Hu (fQ i) ti te (GS K) (LP λi j=>i+j) DM) (Kn i mi me):=by
 intro aj A H₀ aq ρ σ H f D s e k;replace e:=bQ e;have(w0,e0,e):=e;replace e:=bQ e;obtain⟨⟨a1,ρ1⟩,e1,e⟩:=e;replace e:=bQ e;have(uy,Cp,e):=e;replace e:=bQ e;have(y,ey,e):=e;replace e:=bQ e;have(n,en,e):=e;replace e:=bQ e;have(w,ew,e):=e;replace e:=bQ e;have(xs,ex,e):=e;split at e
 rotate_left
 .cases e
 rename_i h0;replace e:=bQ e;have(x,exx,e):=e;replace e:=bQ e;have(av,ea,e):=e;replace e:=bQ e;obtain⟨⟨b1,au⟩,e2,e⟩:=e;replace e:=bQ e;have(uz,Wt,e):=e;replace e:=bQ e;have(z,ez,e):=e;replace e:=bQ e;have(bv,eb,e):=e;replace e:=bQ e;have(w2,sJ,e):=e;replace e:=bQ e;have(ys,ey2,e):=e;replace e:=bQ e;have(j,ej,e):=e;cases e;cases Jk en;cases Jk ea;cases Jk eb;cases oC ey;cases oC ez;cases O3 ex;cases O3 ey2;dsimp only at Cp ew Wt sJ e2;have(v0,dQ,_):=s.rs.rep i w0 (lJ e0);refine⟨v0,dQ,hi ρ σ H a1 ρ1 _ s.rs e1 λyv H1 g1 k1=>?_⟩;have py:=k1.now s.rs g1 Cp;have(w',dP,p1):=g1.rs.rep i _ (lJ ew);have(l,us,rfl,hl,ds):=p1;rw[dQ]at dP;cases dP;have(xv,exv,dx):=ds.bt exx;refine⟨l,us,n,xv,rfl,DF.int_inv py,h0,bu.of hl,exv,?_⟩;refine h ρ1 σ H1 b1 au _ g1.rs e2 λzv H2 g2 k2=>?_;have pz:=k2.now g1.rs g2 Wt;refine⟨av,bv,DF.int_inv dx,DF.int_inv pz,?_⟩;have(w',dP,p2):=g2.rs.rep i _ (lJ sJ);have(l',x9,rfl,mV,F4):=p2;rw[dQ]at dP;cases dP;refine⟨l,x9,n,j,rfl,DF.int_inv py,mV,by rw[F4.len];exact ej,k _ _<|(s.go<|g1.trans g2).go<|Go.own (u':=.l (ys.set j<|.int<|av+bv)) g2.rs (lJ sJ) rfl dQ ?_⟩;have kp:=jS mV trivial (.lst<|x9.set j<|.int<|av+bv);exact⟨l,_,rfl,zq,(F4.kp kp).set (.int _) j⟩
end
def yN(h:Ļ)(it d:Qg)(i n ep:Nat):Prop:=∃x0 x1 ok ov,(x0=ł\/∃a:Qg,x0=ϰ a)/\h.get? it=ž (wL d i n ep x0 x1 ok ov)
section
variable{s:Qd}
theorem zro{Q:Qb Obj->Qd->Prop}(h:Q (s.heap.get? a) s):ĩ (Ĭ prog w) A (loadIfAlive a) Q E s:=λΓ p _=>by
 unfold loadIfAlive;rw[Sem.wp_loadIfAlive];exact(by simpa using h)
theorem R5{Q:Qb Qc->Qd->Prop}(k0:yN s.heap it d i es.size ep)(r:nh s.heap d es ep)(hh:es[i]?=Ž->A.handled=Ž)
  (q:∀x h',es[i]?=ž x->yN h' it d (i+1) es.size ep->h'.get? s.heap.objs.size=ž {cls:=.type "tuple",data:=.seq #[x.key,x.val]}->(∀b o,b≠it->s.heap.get? b=ž o->h'.get? b=ž o)->Q (ž<|.ref s.heap.objs.size) {s with heap:=h'})
  (qe:es[i]?=Ž->∀h':Ļ,a1n it s.heap h'->Q Ž {s with heap:=h'}):ĩ (Ĭ prog w) A (ϱ<|.ref it) Q E s:=by
 have(x0,x1,ok,ov,hx0,k):=k0;refine R6 k r hh (λx h1 hx k1 z1 f1=>Ru (h0:=s.heap) (s:={s with heap:=h1}) k1 z1 (qi k) f1 λh2 k2 t2 f2 free=>?_) qe;have yh:=ň (qk<|qi k);have fr:ĩ (Ĭ prog w) A.in1 _ (λv s'=>Q (ž v) s') (λ_ _=>False) {s with heap:=h2}:=free _ _ λh' a b c=>q x h' hx ⟨_,_,_,_,.inr ⟨_,rfl⟩,a⟩ b c;unfold ϕ;rcases hx0 with rfl|⟨a0,rfl⟩
 .refine qa (qa<|Ş k2 rfl (x:=.none) rfl<|qb ?_)
  exact fr
 .refine qa (qa<|Ş k2 rfl (x:=ϰ a0) rfl ?_)
  show ĩ _ _ (loadIfAlive (a0:Int).toNat >>= _) _ _ _;refine qa<|zro ?_;dsimp only
  by_cases ha:(h2.get? (a0:Int).toNat).isNone=ż
  .rw[a5E ha]
   exact qb fr
  .rw[a5F ha]
   refine qa<|Ş k2 rfl (x:=x1) rfl ?_
   by_cases hb:(x1 != a0Q ż)=ż
   .rw[a5E hb]
    refine qa<|pO k2 (by simp) λh3 k3 z3 f3=>qb ?_;refine qb<|q x h3 hx ⟨ϰ a0,.bool ż,ok,ov,.inr ⟨_,rfl⟩,?_⟩ (f3 _ _ yh t2) λb o hb z=>f3 b o hb<|f2 b o hb z;rw[k3];rfl
   .rw[a5F hb]
    exact qb<|qb<|q x h2 hx ⟨ϰ a0,x1,ok,ov,.inr ⟨_,rfl⟩,k2⟩ t2 f2
end
noncomputable abbrev i7(kx vx t1 i1 t2 i2:ĺ)(scope:a1z)(pos:Pos):ĺ:=.DictComp kx vx [⟨t1,i1,[],0⟩,⟨t2,i2,[],0⟩] scope pos
section
variable{R:Ϻ->Qd->Prop}{s:Qd}{t1 i1:ĺ}{pos:Pos}{it:Qc}{D:Qg}
theorem YW:a3H (i7 kx vx t1 i1 t2 i2 scope pos) 0 it (.ref D) env=(do
   Χ i1.pos
   match <-ϱ it with
   |none=>pure<|.done .next
   |some v=>
    Ϗ t1 it v
    χ t1 env v
    let x <-Ť i2 env
    Χ i2.pos
    let x <-Š i2 env x
    let _ <-runOwn (.compStart (i7 kx vx t1 i1 t2 i2 scope pos) 1 (<-Ϟ [x] (a0m x)) (.ref D) env) env
    again (.compLoop (i7 kx vx t1 i1 t2 i2 scope pos) 0 it (.ref D) env)):=by rfl
theorem YV:a3H (i7 kx vx t1 i1 t2 i2 scope pos) 1 it (.ref D) env=(do
   Χ i2.pos
   match <-ϱ it with
   |none=>pure<|.done .next
   |some v=>
    Ϗ t2 it v
    χ t2 env v
    (do
      let kv <-Ť kx env
      let vv <-Ϟ [kv] (Ť vx env)
      Χ {kx.pos with endLine:=vx.pos.endLine,endCol:=vx.pos.endCol}
      Ϟ [kv,vv] (dictSet D kv vv))
    again (.compLoop (i7 kx vx t1 i1 t2 i2 scope pos) 1 it (.ref D) env)):=by rfl
theorem zuF(I:Nat->Qd->Prop)
  (turn:∀n s,I n s->∀E,ĩ (Ĭ prog w) A (ϱ it) (λr s1=>match r with
   |none=>R (.ok .next) s1
   |some v=>ĩ (Ĭ prog w) A (Ϗ t2 it v) (λ_ s2=>ĩ (Ĭ prog w) A (χ t2 env v) (λ_ s3=>
     ĩ (Ĭ prog w) A (Ť kx env) (λk s5=>ĩ (Ĭ prog w) A (Ť vx env) (λv s6=>ĩ (Ĭ prog w) A (dictSet D k v) (λ_ s7=>∃m,m < n/\I m s7) E s6) E s5) E s3) E s2) E s1) E s)
  (n:Nat) (h:I n s):Ŵ (Ĭ prog w) A (.compLoop (i7 kx vx t1 i1 t2 i2 scope pos) 1 it (.ref D) env) R s:=by
 refine a4R rfl I (λn s hI=>?_) n h;show ĩ _ A ((a3H _ 1 it (.ref D) env).onRaise (λx=>do a4F x env;a3r x)) _ _ s;refine wpAny_noted ?_;rw[YV];refine qa<|Ź<|qa<|ļ (turn n s hI _) (λr s1 h1=>?_) λ_ _ z=>z;cases r with
 |none=>exact qb h1
 |some v=>
  refine qa<|ļ h1 (λ_ s2 h2=>?_) λ_ _ z=>z;refine qa<|ļ h2 (λ_ s3 h3=>?_) λ_ _ z=>z;refine qa<|qa<|ļ h3 (λx s5 h5=>?_) λ_ _ z=>z;refine qa<|Ő<|ļ h5 (λy s6 h6=>?_) λ_ _ z=>z;exact qa<|Ź<|Ő<|ļ h6 (λ_ s7 h7=>qb ⟨rfl,h7⟩) λ_ _ z=>z
theorem zuG{acc:Qc}
  (h0:Ŵ (Ĭ prog w) A (.compLoop (i7 kx vx t1 i1 t2 i2 scope pos) 1 it acc env) R s)
  (h:ĩ (Ĭ prog w) A (a0m it) (λFG s'=>Ŵ (Ĭ prog w) A (.compLoop (i7 kx vx t1 i1 t2 i2 scope pos) 1 FG acc env) R s')
   (notedBy (Ĭ prog w) A env λx s'=>R (.error x) s') s):
  Ŵ (Ĭ prog w) A (.compStart (i7 kx vx t1 i1 t2 i2 scope pos) 1 it acc env) R s:=by
 refine codeAny_of_tree ?_;show ĩ _ A ((compStart (i7 kx vx t1 i1 t2 i2 scope pos) 1 it acc env).onRaise (λx=>do a4F x env;Χ theWindowsPlace)) _ _ s;refine wpAny_notedAt ?_;unfold compStart;show ĩ _ A (ask >>= _) _ _ s;refine qa<|wpAny_askSetting<|wpAny_ite ?_;split
 .first
   |exact qa<|qb<|qb<|a3C rfl h0
   |exact qb (a3C rfl h0)
 .first
   |exact qa<|ϝ<|qa<|Ź<|qa<|ļ h (λFG s' h'=>qb<|a3C rfl h') λ_ _ x=>x
   | (refine qa<|ϝ ?_;show ĩ _ _ (Χ i2.pos >>= _) _ _ s;exact qa<|Ź<|qa<|ļ h (λFG s' h'=>qb<|a3C rfl h') λ_ _ x=>x)
theorem zuH(hs:∀x,Š i2 env x=pure x)(I:Nat->Qd->Prop)
  (turn:∀n s,I n s->∀E,ĩ (Ĭ prog w) A (ϱ it) (λr s1=>match r with
   |none=>R (.ok .next) s1
   |some v=>ĩ (Ĭ prog w) A (Ϗ t1 it v) (λ_ s2=>ĩ (Ĭ prog w) A (χ t1 env v) (λ_ s3=>
     ĩ (Ĭ prog w) A (Ť i2 env) (λx s4=>ĩ (Ĭ prog w) A (a0m x) (λLO s5=>Ŵ (Ĭ prog w) A (.compStart (i7 kx vx t1 i1 t2 i2 scope pos) 1 LO (.ref D) env) (λr s6=>r=.ok .next/\∃m,m < n/\I m s6) s5) E s4) E s3) E s2) E s1) E s)
  (n:Nat) (h:I n s):Ŵ (Ĭ prog w) A (.compLoop (i7 kx vx t1 i1 t2 i2 scope pos) 0 it (.ref D) env) R s:=by
 refine a4R rfl I (λn s hI=>?_) n h;show ĩ _ A ((a3H _ 0 it (.ref D) env).onRaise (λx=>do a4F x env;a3r x)) _ _ s;refine wpAny_noted ?_;rw[YW];refine qa<|Ź<|qa<|ļ (turn n s hI _) (λr s1 h1=>?_) λ_ _ z=>z;cases r with
 |none=>exact qb h1
 |some v=>
  refine qa<|ļ h1 (λ_ s2 h2=>?_) λ_ _ z=>z;refine qa<|ļ h2 (λ_ s3 h3=>?_) λ_ _ z=>z;refine qa<|ļ h3 (λx s4 h4=>?_) λ_ _ z=>z;refine qa<|Ź<|qa<|wpAny_of_eq (hs x) ?_;refine qa<|Ő<|ļ h4 (λLO s5 h5=>?_) λ_ _ z=>z;refine qa<|wpAny_runOwn (h:=Ž) ?_;refine Ψ h5 λr s6 h6=>?_;have(rfl,h6):=h6;exact qb ⟨rfl,h6⟩
end
noncomputable def A7(v d:Qg):HO:=.ext λh=>h.IsItemsView v d
theorem zrp:typeLookup (.type "dict_items") "__len__"=pure (ž<|.builtin "dict_items.__len__"):=by rw[typeLookup_type,builtinLookup_eq_fast];kernel_rfl
section
variable{s:Qd}{v:Qg}
theorem zom{Q:Bool->Qd->Prop}(hT:s.TypeIs (.ref v) "dict_items")(h:Q Ż s):ĩ (Ĭ prog w) A (a1I<|.ref v) Q E s:=by
 unfold a1I;refine qa<|ϡ hT zrp ?_;generalize V4:("dict_items.__len__":String)=id0
 wp_delta
 rw[show splitId id0=ž ("dict_items", "__len__") from by subst V4;decide +kernel];subst V4;refine qa<|ϖ (T := "dict_items") (b:=ż) hT (by rw[isSubtype_type];kernel_rfl) ?_;refine a3p (λsH=>absurd sH (by decide)) λ_=>?_;refine a3p (λ_=>?_) (λsH=>absurd (by decide +kernel) sH);exact qa<|a1r hT<|qb h
end
def nL(K:qc)(H:Hp):Qa (Qa Key×V)->Qa V->Prop:=Μ λp y=>∃T b,y=V.ref T/\H T=ž (.tup [.ref b,p.2])/\aJ K H b (p.1.map kV)
theorem nL.same(h:nL K H kvs ys)(s:dJ H H'):nL K H' kvs ys :=
 Paired.iX h λ_ _ ⟨T,b,e,h1,h2⟩=>⟨T,b,e,s _ _ h1,aJ.kp s.kp h2⟩
theorem cK.same{X:Cx}(f:cK X pins H b)(h:H' b=Ž):cK X pins H' b:=⟨h,f.2⟩
theorem nL.snoc:∀{kvs:Qa (Qa Key×V)} {ys:Qa V} {p:Qa Key×V} {y:V},nL K H kvs ys->(∃T b,y=V.ref T/\H T=ž (.tup [.ref b,p.2])/\aJ K H b (p.1.map kV))->nL K H (kvs++[p]) (ys++[y])
 |_,_,_,_,.nil,h=>.cons h .nil
 |_,_,_,_,.cons a t,h=>.cons a<|nL.snoc t h
noncomputable abbrev Bj(acc:Qa Qc)(c:Nat):Obj:={cls:=.type "list",dict:=Ž,data:=.seq acc.toArray c,slots:=#[]}
section
variable{X:Cx}{H0:Hp}{R:Ϻ->Qd->Prop}{res:Qc}{S:Qg}{o:Obj}
theorem zon(hh:A.handled=Ž)(nS:S≠it)(dS:d≠S)(dI:d≠it)(hsz:es.size=kvs.length)(hz:kvs.length<=ħ)(xd:o.ExactDict)(dat:o.data=.dict es ep)
  (ent:∀(i:Nat) (k:Qa Key) (v:V),kvs[i]?=ž (k,v)->∃(b:Qg) (x:Ů),es[i]?=ž x/\x.key=.ref b/\aJ X.K H0 b (k.map kV)/\zE v x.val)
  (hR:∀(s':Qd) (H':Hp) (acc:Qa Qc) (ys:Qa V) (c:Nat),Inv X pins σ H' s'->dJ H0 H'->cK X pins H' S->s'.heap.get? S=ž (Bj acc c)->zJ ys acc->nL X.K H' kvs ys->R (.ok<|.ret res) s'):
  ∀(k i:Nat) (s:Qd) (Hc:Hp) (acc:Qa Qc) (ys:Qa V) (c:Nat),kvs.length - i=k->i<=kvs.length->Inv X pins σ Hc s->dJ H0 Hc->cK X pins Hc it->cK X pins Hc S->yN s.heap it d i es.size ep->s.heap.get? d=ž o->s.heap.get? S=ž (Bj acc c)->zJ ys acc->nL X.K Hc (kvs.take i) ys->
   Ŵ (Ĭ X.prog X.w) A (.builtin "list.extend.loop" ⟨[.ref S,.ref it,res],[]⟩) R s:=by
 intro k
 induction k with
 |zero=>
  intro i s Hc acc ys c hk hi I sm f1 f2 st hd hS va pr;have ei:i=kvs.length:=by omega
  subst ei;refine a0o a5r ?_;rw[Υ ϸ _];show ĩ _ A.in1 (ϱ (.ref it) >>= _) _ _ s;refine qa<|R5 st ⟨o,hd,xd,dat⟩ (λ_=>hh) (λx h' ex=>by rw[a0T (by omega)]at ex;cases ex) λ_ h' eb=>?_;have(g0,g1,g2,g3,g4,g5):=f1;refine qb<|hR {s with heap:=h'} Hc acc ys c (I.turned (t':=s.toks) (λb o hb e=>eb b o hb e) g0 g1 g3 g4 g5) sm f2 (eb _ _ nS hS) va ?_;rw[ϑ]at pr;exact pr
 |succ k ih=>
  intro i s Hc acc ys c hk hi I sm f1 f2 st hd hS va pr;have dq:i < kvs.length:=by omega
  refine a0o a5r ?_;rw[Υ ϸ _];show ĩ _ A.in1 (ϱ (.ref it) >>= _) _ _ s;have(b,x,ex,kx,hb,rv):=ent i kvs[i].1 kvs[i].2 (qo dq);refine qa (R5 st ⟨o,hd,xd,dat⟩ (λ_=>hh) (λx' h1 yC oM jV kk=>?_) λz=>by rw[ex]at z;cases z);cases ex.symm.trans yC;have itl:it < s.heap.objs.size:=by
   have(_,_,_,_,_,e):=st;exact qi e
  have Sl:S < s.heap.objs.size:=qi hS;have I1:Inv X pins σ Hc {s with heap:=h1}:=I.bO (t':=s.toks) (wr:=[it]) (λb o hb q=>kk b o (by simpa using hb) q) λb hb=>by rw[qr.mp hb];exact f1
  have fr:=I.aw.fresh (qf s.heap.objs.size);have fT:cK X pins Hc s.heap.objs.size:=I.eY (qf _) fr;rw[kx]at jV;have I2:Inv X pins σ (upd Hc s.heap.objs.size<|.tup [.ref b,kvs[i].2]) {s with heap:=h1}:=I1.oI fT I.sz ⟨by show 2<=ħ;decide,[.ref b,x.val],.cons rfl<|.cons rv .nil,_,jV,rfl,⟨_,rfl⟩,.inl rfl⟩;have Ld:=zF fr (.tup [.ref b,kvs[i].2]);have FV:h1.get? S=ž (Bj acc c):=kk _ _ nS hS;have f1':cK X pins (upd Hc s.heap.objs.size<|.tup [.ref b,kvs[i].2]) it:=f1.same (by rw[zu<|qk itl];exact f1.1);have Wq:cK X pins (upd Hc s.heap.objs.size<|.tup [.ref b,kvs[i].2]) S:=f2.same (by rw[zu<|qk Sl];exact f2.1);have la:acc.length=i:=by
   have e1:=va.length;have e2:=ų pr;rw[a0L]at e2;omega
  show ĩ _ A.in1 (a4E S (·.push (.ref s.heap.objs.size)) >>= _) _ _ {s with heap:=h1};refine qa<|a1x (s:={s with heap:=h1}) FV rfl (qb ⟨a2i ϸ _,?_⟩) (by rw[ī];omega) (by show(acc.toArray.push _).size<=ħ+1;rw[Array.size_push,ī];omega);have Cc:=Ð (ņ (·.push (Į s.heap.objs.size))) FV rfl;have uf:∀b o,b≠S->h1.get? b=ž o->(h1.update S<|ņ (·.push (Į s.heap.objs.size))).get? b=ž o:=λb o hb e=>(Î _ _<|ň hb).trans e;have I3:Inv X pins σ (upd Hc s.heap.objs.size<|.tup [.ref b,kvs[i].2]) {s with heap:=h1.update S (ņ (·.push (Į s.heap.objs.size)))}:=Inv.bO (s:={s with heap:=h1}) (t':=s.toks) (wr:=[S]) I2 (λb o hb q=>uf b o (by simpa using hb) q) λb hb=>by rw[qr.mp hb];exact Wq
  refine ih (i+1) {s with heap:=h1.update S (ņ (·.push (Į s.heap.objs.size)))} (upd Hc s.heap.objs.size<|.tup [.ref b,kvs[i].2]) (acc++[.ref s.heap.objs.size]) (ys++[.ref s.heap.objs.size]) (c+1) (by omega) dq I3 (λc o h=>Ld _ _<|sm _ _ h) f1' Wq ?_ (uf _ _ dS<|kk _ _ dI hd) ?_ (va.append<|.cons (show zE (.ref s.heap.objs.size) (.ref s.heap.objs.size) from rfl) .nil) ?_
  .have(y0,y1,y2,y3,y4,y5):=oM
   exact⟨y0,y1,y2,y3,y4,uf _ _ (ň nS) y5⟩
  .refine Cc.trans ?_
   simp[ņ]
  .rw[Η,qo dq]
   exact(nL.same pr Ld).snoc ⟨_,b,rfl,zq,aJ.kp Ld.kp<|aJ.kp sm.kp hb⟩
end
section
variable{X:Cx}
def UB(K:qc)(td:TE):TE:=λσ H Q=>td σ H λx H1=>∃a kvs,x=.ref a/\Rd H1 a (.dT kvs)/\∀v,H1 v=Ž->Q (.ref v) (upd H1 v<|A7 v a)
theorem Om{s:Qd}(I:Inv X pins σ H s)(e:Rd H a (.dT kvs)):
  (a==Œ)=Ż/\kvs.length<=ħ/\∃(o:Obj) (es:Array Ů) (ep:Nat),s.heap.get? a=ž o/\o.ExactDict/\o.data=.dict es ep/\es.size=kvs.length/\∀(i:Nat) (k:Qa Key) (v:V),kvs[i]?=ž (k,v)->∃(b:Qg) (x:Ů),es[i]?=ž x/\x.key=.ref b/\aJ X.K H b (k.map kV)/\zE v x.val :=
 OI (DL I.aw e)
theorem zEf{d:ĺ}(hd:Wr (PE X d td))(b6:autoParam (Ű d "items" X.env (Ť d X.env)=Ť d X.env) ć)(bY:autoParam ((apos.endLine==aL.line)=ż) ć):Wr (PE X (.Call (.Attribute d "items" apos) [] [] aL)<|UB X.K td):=by
 refine⟨?_⟩;intro pins s σ H R I h;refine a1i b6 bY<|az (hd.run pins s σ H _ I h) λv s1 hZ=>?_;have(x,H1,I1,r1,q1):=hZ;have(a,kvs,rfl,e,q):=q1;cases r1;have(sC,_,o,es,ep,ea,xd,dat,hsz,_):=Om I1 e;have AZ:nh s1.heap a es ep:=⟨o,ea,xd,dat⟩;refine⟨"dict", "dict.items",F.plainAttrs_dict,a2y,F.type_dict_items,AZ.typeIs,λb hb=>?_,Ù rfl<|a1u<|RP sC AZ ?_⟩
 .cases hb
  exact⟨o,ea,xd.2.1⟩
 have vw:(s1.heap.push {cls:=.type "dict_items",data:=.fields #[.ref a]}).IsItemsView s1.heap.objs.size a:=⟨_,qh _ rfl,rfl,rfl⟩;exact⟨.ref s1.heap.objs.size,_,I1.laid (t':=s1.toks) (o:=A7 s1.heap.objs.size a) (λb o z=>qd _ z) (qf _) ⟨vw,⟨_,qh _ rfl⟩,λh1 h2 x k=>let ⟨o,e1,e2⟩:=x;⟨o,k o e1,e2⟩⟩,rfl,q _<|I1.aw.fresh<|qf _⟩
def UA(K:qc):Qa V->Hp->VK->Prop:=λxs H Q=>∃v a kvs,xs=[.ref v]/\H v=ž (A7 v a)/\Rd H a (.dT kvs)/\∀H' ys l,dJ H H'->H l=Ž->nL K H' kvs ys->H' l=Ž->Q (.ref l) (upd H' l<|.lst ys)
theorem zrq(hK:autoParam (X.K=K) ć)(hc:autoParam (X.calm=ż) ć):fV X (.type "list") (UA K):=by
 subst hK;intro pins s σ H xs us Q I r h;have(v,a,kvs,rfl,hv,ha,q):=h;have(u,rfl,ru):=nv r;cases ru;have(sC,hz,o,es,ep,ea,xd,dat,hsz,ent):=Om I ha;obtain⟨vw,⟨ov,hov⟩,_⟩:=I.aw v _ hv;have vl:v < s.heap.objs.size:=qi hov;have al:a < s.heap.objs.size:=qi ea;refine callType_codes (Q₁:=λobj aB=>obj=.ref s.heap.objs.size/\aB={s with heap:=s.heap.push {cls:=.type "list",data:=.seq #[]}}) F.called_list (F.typeCall_list_1 _) F.entry_list_init
  (code_list_new _ ⟨rfl,rfl⟩) λobj aB vX=>?_
 have(rfl,rfl):=vX;have hS:(s.heap.push {cls:=.type "list",data:=.seq #[]}).get? s.heap.objs.size=ž {cls:=.type "list",data:=.seq #[]}:=qh _ rfl;refine⟨⟨_,hS,rfl⟩,F.args_list_init_2 _ _,?_⟩;show ĩ _ _ (do let old <-a2o (.ref s.heap.objs.size);Builtin.List.listUpdate (.ref s.heap.objs.size) (λ_=>#[]);letGo old.toList.reverse;Ρ (.ref s.heap.objs.size) (.ref v) .none) _ _ _;refine qa ?_;unfold a2o;refine qa<|ϭ (s:={s with heap:=s.heap.push {cls:=.type "list",data:=.seq #[]}}) hS rfl<|qb ?_;show ĩ _ _ (a4E s.heap.objs.size (λ_=>#[]) >>= λ_=>letGo (#[]:Array Qc).toList.reverse >>= λ_=>Ρ (.ref s.heap.objs.size) (.ref v) .none) _ _ _;refine qa<|a1x (s:={s with heap:=s.heap.push {cls:=.type "list",data:=.seq #[]}}) hS rfl ?_;have uE:=Ð (ņ λ_=>(#[]:Array Qc)) hS rfl;have rY:∀b o,s.heap.get? b=ž o->((s.heap.push {cls:=.type "list",data:=.seq #[]}).update s.heap.objs.size<|ņ λ_=>(#[]:Array Qc)).get? b=ž o :=
  λb o e=>(Î _ _<|ň<|qk<|qi e).trans<|qd _ e
 have zz:((s.heap.push {cls:=.type "list",data:=.seq #[]}).update s.heap.objs.size<|ņ λ_=>(#[]:Array Qc)).objs.size=s.heap.objs.size+1:=by rw[a2m,ŝ]
 refine qa<|a3h ?_;show ĩ _ _ _ _ _ {s with heap:=(s.heap.push {cls:=.type "list",data:=.seq #[]}).update s.heap.objs.size (ņ λ_=>(#[]:Array Qc))};generalize (s.heap.push {cls:=.type "list",data:=.seq #[]}).update s.heap.objs.size (ņ λ_=>(#[]:Array Qc))=h2 at uE rY zz ⊢;have Cc:h2.get? s.heap.objs.size=ž (Bj [] _):=uE;have vT:Τ {s with heap:=h2} (.ref v) "dict_items":=by
  have(ow,e1,e2,_):=vw;exact⟨ow,rY _ _ e1,e2⟩
 unfold Ρ;refine qa<|a1r vT ?_;have n1:a1W (.ref s.heap.objs.size) (.ref v)=Ż:=by simp[a1W,ň<|qk vl]
 have n2:(ϣ "dict_items"==ϣ "list")=Ż:=by decide
 have n3:(ϣ "dict_items"==ϣ "tuple")=Ż:=by decide
 simp only[n1,n2,n3,Bool.or_false,Ŋ,if_false];have vw2:h2.IsItemsView v a:=by
  have(ow,e1,e2,e3):=vw;exact⟨ow,rY _ _ e1,e2,e3⟩
 refine qa<|RN (s:={s with heap:=h2}) vw2 ⟨o,rY _ _ ea,xd,dat⟩ λh3 hit kk=>?_;have vT3:Τ {s with heap:=h3} (.ref v) "dict_items":=by
  have(ow,e1,e2):=vT;exact⟨ow,kk _ _ e1,e2⟩
 have I3:Inv X pins σ H {s with heap:=h3}:=I.kept (t':=s.toks) λb o z=>kk _ _<|rY _ _ z;have fr:=I.aw.fresh (qf s.heap.objs.size);have fS:cK X pins H s.heap.objs.size:=I.eY (qf _) fr;have fI:cK X pins H h2.objs.size:=I.eY (by show s.heap.objs.size<=h2.objs.size;omega) (I.aw.fresh (by show s.heap.objs.size<=h2.objs.size;omega));have nS:s.heap.objs.size≠h2.objs.size:=by omega
 have fin:∀(h4:Ļ) (c:Nat),yN h4 h2.objs.size a 0 es.size ep->(∀b o,s.heap.get? b=ž o->h4.get? b=ž o)->h4.get? s.heap.objs.size=ž (Bj [] c)->Ŵ (Ĭ X.prog X.w) X.A.in1 (.builtin "list.extend.loop" ⟨[.ref s.heap.objs.size,.ref h2.objs.size,.none],[]⟩) (wants (λr fG=>r=ł/\EP X pins σ Q (Į s.heap.objs.size) fG) X.xe) {s with heap:=h4}:=λh4 c st4 k4 Mr=>by
  refine zon (A:=X.A.in1) (show X.A.in1.handled=Ž from I.ok.hd hc) nS (qk al) (qk<|ú al (by omega)) hsz hz xd dat ent (λs' H' acc ys c' I' sm' Wp Cd va pr=>?_) kvs.length 0 {s with heap:=h4} H [] [] c (by omega) (Ç _) (I.kept (t':=s.toks) k4) (λ_ _ z=>z) fI fS st4 (k4 _ _ ea) Mr .nil .nil;exact⟨rfl,.ref s.heap.objs.size,_,I'.oI (o:=.lst ys) Wp I.sz ⟨by rw[<-ų pr];exact hz,acc,c',va,Cd⟩,rfl,q H' ys _ sm' fr pr Wp.1⟩
 have it0:yN h3 h2.objs.size a 0 es.size ep:=⟨_,_,_,_,.inl rfl,hit⟩;refine qa<|Ő<|zom vT3 ?_;have Cb:=kk _ _ Cc;refine a3p (λ_=>?_) λ_=>qb ⟨a2i ϸ _,fin h3 _ it0 (λb o z=>kk _ _<|rY _ _ z) Cb⟩;refine qa<|ϝ ?_;refine qa ?_;show ĩ _ _ (a4E s.heap.objs.size (·.push .none) >>= λ_=>a4E s.heap.objs.size (·.pop)) _ _ _;refine qa<|a1x Cb rfl ?_;have uD:=Ð (ņ (·.push ł)) Cb rfl;refine a1x (hz:=by seq_fits) uD rfl ?_;have Ca:=Ð (ņ (·.pop)) uD rfl;refine qb ⟨a2i ϸ _,fin ((h3.update s.heap.objs.size<|ņ λx=>x.push ł).update s.heap.objs.size<|ņ λx=>x.pop) _ ?_ (λb o e=>?_) Ca⟩
 .exact⟨_,_,_,_,.inl rfl,(Î _ _ nS).trans<|(Î _ _ nS).trans hit⟩
 .have hb:s.heap.objs.size≠b:=ň (qk<|qi e)
  exact(Î _ _ hb).trans<|(Î _ _ hb).trans<|kk _ _<|rY _ _ e
end
section
def GR(u:U):Qb U:=(MK u).map λkvs=>.l<|kvs.map λp=>.tuple [iG p.1,p.2]
theorem O2(kp:Kp H H'):∀{ws:Qa (Qa Key×V)} {kvs:Qa (Qa Key×D)} {ys:Qa V},cS K H ws kvs->nL K H' ws ys->aI K H' ys (kvs.map λp=>.tuple [iG p.1,p.2])
 |[],_,_,.nil,.nil=>.nil
 |_::_,_,_,.cons h t,.cons ⟨T,b,e,h1,h2⟩ u=>by
  subst e;rw[h.1]at h2;exact .cons (.tup (.inl h1)<|.cons (.tup h2 Aw)<|.cons (DF.kp kp h.2) .nil)<|O2 kp t u
theorem zB1{me:ME}(h:VE K te me):VE K (mF (UA K)<|j0 (UB K te) jZ) (cX GR me):=by
 intro ρ σ H a ai Q r e q;obtain⟨⟨a1,ρ1⟩,e1,e⟩:=bQ e;have(u,eu,e):=bQ e;have(x,ex,e):=bQ e;cases e;have(kvs,ek,rfl):=qt.mp ex;refine h ρ σ H a1 _ _ r e1 λv H1 g1 k1=>?_;have(b,ws,rfl,h1,h2):=zBy (k1.now r g1 eu) ek;refine⟨b,ws,rfl,h1,λpp hp=>?_⟩;have s1:dJ H1 (upd H1 pp<|A7 pp b):=zF hp _;have kI:Rd (upd H1 pp<|A7 pp b) b (.dT ws):=h1.imp (s1 _ _) λ⟨o,z⟩=>⟨o,s1 _ _ z⟩;refine⟨pp,b,ws,rfl,zq,kI,λH2 ys l sm hl pr mV=>?_⟩;have s2:=zF mV (.lst ys);have Li:dJ H1 H2:=λc o z=>sm _ _<|s1 _ _ z;have sg:dJ H1 (upd H2 l<|.lst ys):=λc o z=>s2 _ _<|Li _ _ z;refine q _ _ (g1.trans<|Go.grow g1.rs sg) ⟨⟨l,ys,rfl,zq,(O2 Li.kp h2 pr).kp s2.kp⟩,Nw.mono (H':=H1) (λ_=>⟨l,rfl,?_⟩) g1.dm⟩;exact Li.dm l mV
end
def Km(K:qc)(J:It)(hU:St)(g:TG)(tk tv:TE)(D:Qg)(Z:Hp->Prop)(H1:Hp):Prop :=
 ∃W:Nat->Nat->Hp->Prop,(∃m,W 0 m H1)/\∀i m H,W i m H->
  (J.stop i H/\Z H)\/(J.go i H/\∃N:Hp->Prop,(∀H',N H'->∃m',m' < m/\W (i+1) m' H')/\
   ∀x H',J.vG i H x H'->g x hU H' λfB H3=>tk fB H3 λy H4=>tv fB H4 λv H5=>∃kvs k p,y=.ref p/\H5 D=ž (.dT kvs)/\aJ K H5 p (k.map kV)/\kvs.length < ħ/\N (upd H5 D<|.dT<|dY kvs k v))
def GQ(K:qc)(J:It)(hU:St)(g:TG)(wi:TI)(j:Nat)(tk tv:TE)(D:Qg)(Z:Hp->Prop)(H1:Hp):Prop :=
 ∃W:Nat->Nat->Hp->Prop,(∃m,W 0 m H1)/\∀i m H,W i m H->
  (J.stop i H/\Z H)\/(J.go i H/\∃N:Hp->Prop,(∀H',N H'->∃m',m' < m/\W (i+1) m' H')/\
   ∀x H',J.vG i H x H'->g x hU H' λfB H3=>wi fB H3 λJ2 H4=>Km K J2 (fB.set j Ž) (iO j) tk tv D N H4)
section
variable{X:Cx}{s:Qd}{t1 i1:ĺ}{pos:Pos}{D:Qg}{R:Ϻ->Qd->Prop}
theorem zuL{J:It}{fp:Qa Qg}(hx:X.xe=λ_ _=>False)(hu:X.A.units+1 < Ŷ)(hc:X.calm=ż)(I:Inv X pins σ H s)(T:Turn X.prog X.w X.K t2 J fp it tn)(st:tn 0 s.heap)(hf:∀b∈fp,cK X pins H b)
  (hg:PG X t2 g) (hk:PE X kx tk) (hv:PE X vx tv) (gw:GW σ g) (h:Km X.K J σ g tk tv D Z H) (hR:∀s' H',Inv X pins σ H' s'->Z H'->R (.ok .next) s'):
  Ŵ (Ĭ X.prog X.w) X.A (.compStart (i7 kx vx t1 i1 t2 i2 scope pos) 1 (.ref it) (.ref D) X.env) R s:=by
 obtain⟨W,⟨m0,w0⟩,turn⟩:=h;have pj:∀{H':Hp},(∀b∈fp,H' b=Ž)->∀b∈fp,cK X pins H' b:=λ{H'} hn b hb=>(hf b hb).same<|hn b hb;have loop:Ŵ (Ĭ X.prog X.w) X.A (.compLoop (i7 kx vx t1 i1 t2 i2 scope pos) 1 (.ref it) (.ref D) X.env) R s:=by
  refine zuF (λn s'=>∃i H',Inv X pins σ H' s'/\tn i s'.heap/\(∀b∈fp,H' b=Ž)/\W i n H') ?_ m0 ⟨0,H,I,st,λb hb=>(hf b hb).1,w0⟩;rintro n s3 ⟨i,H3,I3,oK,ph,w3⟩ E';rcases turn i n H3 w3 with⟨stop,qz⟩|⟨go,N,hN,step⟩
  .refine az (T.done X rfl rfl rfl hc i _ s3 _ H3 E' I3 (pj ph) oK stop) λr s4 hZ=>?_
   have(hr,I4):=hZ;subst hr;exact hR _ _ I4 qz
  .refine az (T.item X rfl rfl rfl hc i _ s3 _ H3 E' I3 (pj ph) oK go) λr s4 hZ=>?_
   have(u,hr,h4):=hZ;subst hr;refine az h4 λ_ s5 hZ=>?_;have(x,H5,I5,r5,y5,kf,wu):=hZ;have wM:=I5.pinned (pj wu) (T.obj _ _ kf);have fx:∀{α:Type} {t:Sem α} {Q Q':α->Qd->Prop} {E:Qc->Qd->Prop} {s:Qd},ĩ (Ĭ X.prog X.w) X.A t Q X.xe s->(∀a s,Q a s->Q' a s)->ĩ (Ĭ X.prog X.w) X.A t Q' E s:=λh hQ=>ļ h hQ λ_ _ z=>by rw[hx]at z;exact z.elim
   refine fx (hg _ s5 _ H5 x u _ wM r5<|gw _ _ _<|step x H5 y5) λ_ s6 hZ=>?_;have(k7,H6,I6,rP,q6):=hZ;refine fx (hk _ s6 k7 H6 _ I6 q6) λkv s8 hZ=>?_;have(y,H8,I8,ry,q8):=hZ;refine fx (hv _ s8 k7 H8 _ I8 q8) λvv s9 hZ=>?_;have(v,H9,I9,rv,q9):=hZ;have(kvs,k,p,ey,eD,ep,hz,Vr):=q9;subst ey;cases(show kv=Į p from ry);refine zrg hu I9 eD ep hz rv λs10 Gj=>?_;have(m',hm,KW):=hN _ Vr;refine⟨m',hm,i+1,_,?_,T.keep _ _ _ kf λb hb o e=>(Gj.pin (b,o)<|qx _<|qx _<|t7 hb e).1,λb hb=>?_,KW⟩
   .exact(Gj.weak rP.1 rP.2).cL λp hp=>by
     have:=Gj.pin p (qx _<|Í _ hp);exact this
   .have(o,e,d):=T.obj _ _ kf b hb
    exact(Gj.pin (b,o)<|qx _<|qx _<|t7 hb e).2.1
 exact zuG loop<|T.self _ _ _ _ _ st loop
end
section
variable{X:Cx}{s:Qd}{xs:Qa Str}{ts:Qa Str}{fp:Qa Qg}
theorem zuM{pos:Pos}{J:It}{D:Qg}{mE:TI}{R:Ϻ->Qd->Prop}{h1:Ļ}{m1:Str->Qb Qc}{t1:Nat}
  (hu:X.A.units+1 < Ŷ) (hc:X.calm=ż) (I:Inv X pins σ H s) (S:sM scope xs) (f:bC X cl xs js) (iq:ts.length=nt) (T:Turn X.prog X.w X.K tg J fp it tn) (st:tn 0 s.heap) (hf:∀b∈fp,cK X pins H b)
  (hg:∀C s H ex,PG (zN X scope cl (ts++xs) C s H ex) tg g) (jl:j < nt) (nJ:∀C s H ex,PI (zN X scope cl (ts++xs) C s H ex) t2 i2 mE) (BX:∀C s H ex,PG (zN X scope cl (ts++xs) C s H ex) t2<|iO j) (qO:∀env x,Š i2 env x=pure x) (hk:∀C s H ex,PE (zN X scope cl (ts++xs) C s H ex) kx tk) (hv:∀C s H ex,PE (zN X scope cl (ts++xs) C s H ex) vx tv)
  (gw:∀σ:St,GW (c0 nt js σ) g) (h:GQ X.K J (c0 nt js σ) g mE j tk tv D Z H) (uA:h1.Ns s.heap.objs.size m1) (old:∀b o,s.heap.get? b=ž o->h1.get? b=ž o) (ck:CellsOk h1 (s.heap.objs.size+1) (Ľ (s.heap.objs.size+1) scope.names []))
  (hR:∀(m:Str->Qb Qc) (s':Qd) (H':Hp),Z H'->Inv X pins σ H' s'->s'.heap.Ns s.heap.objs.size m->H' s.heap.objs.size=Ž->R (.ok .next) s'):
  Ŵ (Ĭ X.prog X.w) X.A (.compStart (i7 kx vx tg iter t2 i2 scope pos) 0 (.ref it) (.ref D)<|compEnvC scope (Ľ (s.heap.objs.size+1) scope.names cl) s.heap.objs.size X.env) R {s with heap:=h1,toks:=t1}:=by
 have hl:∀b∈fp,b < s.heap.objs.size:=λb hb=>by
  have(o,e,_):=T.obj _ _ st b hb;exact qi e
 have J0:Inv (zN X scope cl (ts++xs) s.heap.objs.size s H fp) [] (c0 nt js σ) H {s with heap:=h1,toks:=t1}:=QV I S f iq (qf _) hf hl old uA ck;obtain⟨W,⟨m0,w0⟩,turn⟩:=h;have oM:tn 0 h1:=T.keep _ _ _ st λb hb o e=>old b o e;have pj:∀{H':Hp},(∀b∈fp,H' b=Ž)->∀b∈fp,cK (zN X scope cl (ts++xs) s.heap.objs.size s H fp) [] H' b:=λ{H'} hn=>PM I S f ck (qf _) hf hl hn λb hb p wa=>by cases wa
 have loop:Ŵ (Ĭ X.prog X.w) X.A (.compLoop (i7 kx vx tg iter t2 i2 scope pos) 0 (.ref it) (.ref D)<|compEnvC scope (Ľ (s.heap.objs.size+1) scope.names cl) s.heap.objs.size X.env) R {s with heap:=h1,toks:=t1}:=by
  refine zuH (qO _) (λn s'=>∃i H',Inv (zN X scope cl (ts++xs) s.heap.objs.size s H fp) [] (c0 nt js σ) H' s'/\tn i s'.heap/\(∀b∈fp,H' b=Ž)/\W i n H') ?_ m0 ⟨0,H,J0,oM,λb hb=>(hf b hb).1,w0⟩;rintro n s3 ⟨i,H3,I3,oK,ph,w3⟩ E';rcases turn i n H3 w3 with⟨stop,qz⟩|⟨go,N,hN,step⟩
  .refine az (T.done (zN X scope cl (ts++xs) s.heap.objs.size s H fp) rfl rfl rfl hc i _ s3 _ H3 E' I3 (pj ph) oK stop) λr s4 hZ=>?_
   have(hr,I4):=hZ;subst hr;have(m4,n4,_):=I4.loc;exact hR m4 s4 H3 qz (I.uJ I4.os I4.base I4.aw I4.bare<|QW hf) n4 I4.free
  .refine az (T.item (zN X scope cl (ts++xs) s.heap.objs.size s H fp) rfl rfl rfl hc i _ s3 _ H3 E' I3 (pj ph) oK go) λr s4 hZ=>?_
   have(u,hr,h4):=hZ;subst hr;refine az h4 λ_ s5 hZ=>?_;have(x,H5,I5,r5,y5,kf,wu):=hZ;have wM:=I5.pinned (pj wu) (T.obj _ _ kf);refine wX (hg _ _ _ _ _ s5 _ H5 x u _ wM r5<|gw _ _ _ _<|step x H5 y5) λ_ s6 hZ=>?_;have(k7,H6,I6,rP,q6):=hZ;have lj:j < k7.length:=by
    rw[<-rP.1];unfold c0;rw[qu,Ĺ];omega
   refine wX (nJ _ _ _ _ _ s6 k7 H6 _ I6 q6) λx2 s7 hZ=>wX hZ λLO s8 hZ=>?_;have(FG,fp2,tn2,J2,H8,rfl,I8,T2,La,f8,q8):=hZ;have wj:Wk (k7.set j Ž) k7:=⟨by simp,λi v e=>by
    by_cases z:j=i
    .subst z
     rw[ŉ lj]at e;cases e
    .rw[qD z]at e
     exact e⟩
   have wc:Wk (c0 nt js σ) (k7.set j Ž):=⟨by rw[ŀ];exact rP.1,λi v e=>by
    have z:j≠i:=by rintro rfl;rw[Ei jl]at e;cases e
    rw[qD z];exact rP.2 i v e⟩
   refine zuL (X:=zN X scope cl (ts++xs) s.heap.objs.size s H fp) rfl hu hc (I8.weak wj.1 wj.2) T2 La f8 (BX _ _ _ _) (hk _ _ _ _) (hv _ _ _ _) (λx H Q q=>⟨OL<|å (by simpa using lj),q⟩) q8 λs9 H9 I9 q9=>⟨rfl,?_⟩;have(m',hm,KW):=hN _ q9;refine⟨m',hm,i+1,H9,?_,T.keep _ _ _ kf λb hb o e=>(I9.pin (b,o)<|qx _<|qx _<|t7 hb e).1,λb hb=>?_,KW⟩
   .exact(I9.weak wc.1 wc.2).cL λp hp=>by cases hp
   .have(o,e,d):=T.obj _ _ kf b hb
    exact(I9.pin (b,o)<|qx _<|qx _<|t7 hb e).2.1
 exact codeAny_compStart_dict loop<|T.self _ _ _ _ _ oM loop
theorem zrr{pos:Pos}{mE:TI}
  (hu:X.A.units+1 < Ŷ) (hc:X.calm=ż) (S:sM scope xs) (f:bC X cl xs js) (iq:ts.length=nt)
  (hg:∀C s H ex,PG (zN X scope cl (ts++xs) C s H ex) tg g) (jl:j < nt) (nJ:∀C s H ex,PI (zN X scope cl (ts++xs) C s H ex) t2 i2 mE) (BX:∀C s H ex,PG (zN X scope cl (ts++xs) C s H ex) t2<|iO j) (qO:∀env x,Š i2 env x=pure x) (hk:∀C s H ex,PE (zN X scope cl (ts++xs) C s H ex) kx tk) (hv:∀C s H ex,PE (zN X scope cl (ts++xs) C s H ex) vx tv)
  (gw:∀σ:St,GW (c0 nt js σ) g):CB X scope cl (i7 kx vx tg iter t2 i2 scope pos) tg newDict λJ σ H Q=>∀D,H D=Ž->GQ X.K J (c0 nt js σ) g mE j tk tv D (λH2=>Q (.ref D) H2) (upd H D<|.dT []):=by
 intro pins s σ H J it fp tn Q RR E I T st hf h Ms;refine qB<|QY λh1 uA kH ck=>?_;dsimp only at uA kH ck ⊢;have(I1,st0,FQ,hs):=zrh I T st hf;exact zuM (s:={s with heap:=s.heap.push {cls:=.type "dict",data:=.dict #[]},toks:=s.toks}) hu hc I1 S f iq T st0 FQ hg jl nJ BX qO hk hv gw (h _<|I.aw.fresh<|qf _) uA kH ck λm s' H' z I' hn Ce=>Ms _ _ m s' H' z I' hn Ce hs
def Uz(K:qc)(wi:TI)(nt:Nat)(js:Qa Nat)(g:TG)(mE:TI)(j:Nat)(tk tv:TE):TE:=λσ H Q=>wi σ H λJ H1=>
 ∀D,H1 D=Ž->GQ K J (c0 nt js σ) g mE j tk tv D (λH2=>Q (.ref D) H2) (upd H1 D<|.dT [])
theorem zB3{y:Str}{py h9:Pos}{pos:Pos}{mE:TI}(hr:aE n X.A)(hi:Wr (PI X tg iter wi))(hg:∀{C s H ex},Wr<|PG (zN X scope (l8 X js) ((iF tg++iF t2)++lg X js) C s H ex) tg g)(nJ:∀{C s H ex},Wr<|PI (zN X scope (l8 X js) ((iF tg++iF t2)++lg X js) C s H ex) t2 i2 mE)(BX:∀{C s H ex},Wr<|PG (zN X scope (l8 X js) ((iF tg++iF t2)++lg X js) C s H ex) t2<|iO j)
  (hk:∀{C s H ex},Wr<|PE (zN X scope (l8 X js) ((iF tg++iF t2)++lg X js) C s H ex) kx tk) (hv:∀{C s H ex},Wr<|PE (zN X scope (l8 X js) ((iF tg++iF t2)++lg X js) C s H ex) vx tv) (jl:autoParam (j < nt) ă) (qO:autoParam (∀env x,Š i2 env x=pure x) ġ)
  (c:autoParam (wQ X scope iter js (iF tg++iF t2) nt g) ě) (d:autoParam (wR X i y py (i7 kx vx tg iter t2 i2 scope pos) h9) ğ):
  Wr (PS X (.Assign [.Name y py] (i7 kx vx tg iter t2 i2 scope pos) h9)<|pN (Uz X.K wi nt js g mE j tk tv)<|iO i):=⟨Pz (zrr (uW hr) c.hc c.S c.f c.iq (λC s H ex=>hg.run) jl (λC s H ex=>nJ.run) (λC s H ex=>BX.run) qO (λC s H ex=>hk.run) (λC s H ex=>hv.run) c.gw) c.S c.wG hi.run rfl c.hs d λ_=>rfl⟩
end
def uh(j:Nat)(mk mv:ME):Qa D->En->Qa (Qa Key×D)->Qb (Qa (Qa Key×D)×En)
 |[],ρ,ys=>ž (ys,ρ)
 |d::ds,ρ,ys=>if ys.length < ħ then(mk<|ρ.set j<|some<|.d d).bind λp=>(mv p.2).bind λq=>(p.1.get q.2).bind λuk=>(q.1.get q.2).bind λuv=>uk.da.bind λdk=>uv.da.bind λdv=>(cW dk).bind λk=>
   uh j mk mv ds (q.2.set j Ž) (eC ys k dv)else Ž
def sQ(nt j:Nat)(mg:MG)(mi:MI)(mk mv:ME):Qa D->En->Qa (Qa Key×D)->Qb (Qa (Qa Key×D)×En)
 |[],ρ,ys=>ž (ys,ρ)
 |d::ds,ρ,ys=>(mg d ρ).bind λρ1=>(mi ρ1).bind λp=>(uh j mk mv p.1 (p.2.set j Ž) ys).bind λq=>sQ nt j mg mi mk mv ds (reset nt q.2) q.1
def Kl(mi:MI)(nt:Nat)(js:Qa Nat)(mg:MG)(yj:MI)(j:Nat)(mk mv:ME):ME:=λρ=>(mi ρ).bind λp=>(sQ nt j mg yj mk mv p.1 (e9 nt js p.2) []).bind λq=>ž (.u<|.t q.1,back js (q.2.drop nt) p.2)
structure jI (nt:Nat) (ρ ai:En):Prop where
 len:ai.length=ρ.length
 own:∀(i:Nat) (u:U),nt<=i->ai[i]?=ž (ž u)->u.own=ż->∃w,ρ[i]?=ž (ž w)/\w.own=ż
 live:∀(i:Nat) (u:U),nt<=i->ρ[i]?=ž (ž u)->∃w,ai[i]?=ž (ž w)
section
variable{ρ ai cV ρb:En}{hU:St}{A:Qg->Prop}{D:Qg}
theorem eJ.Lf(s:eJ ρ ai):jI nt ρ ai:=⟨s.len,λi u _ e o=>s.own i u e o,λi u _ e=>s.live i u e⟩
theorem jI.trans(a:jI nt ρ ai)(b:jI nt ai cV):jI nt ρ cV:=⟨b.len.trans a.len,λi u h e o=>let ⟨w,e',o'⟩:=b.own i u h e o;a.own i w h e' o',λi u h e=>let ⟨w,e'⟩:=a.live i u h e;b.live i w h e'⟩
theorem jI.set(a:jI nt ρ ai)(h:j < nt)(x:Qb U):jI nt ρ (ai.set j x):=
 ⟨by rw[ŀ];exact a.len,λi u hi e o=>a.own i u hi (by rw[qD (by omega)]at e;exact e) o,λi u hi e=>by rw[qD (by omega)];exact a.live i u hi e⟩
theorem Sn.unset(s:Sn K pn aj A H₀ aq ρ σ H)(hj:j∉pn):Sn K pn aj A H₀ aq (ρ.set j Ž) (σ.set j Ž) H:=by
 have inv:∀(i:Nat) (w:U),(ρ.set j Ž)[i]?=ž (ž w)->j≠i/\ρ[i]?=ž (ž w):=λi w e=>by
  by_cases z:j=i
  .subst z
   have hl:=(qm.mp e).1;rw[ŀ]at hl;rw[ŉ hl]at e;cases e
  .rw[qD z]at e
   exact⟨z,e⟩
 refine⟨⟨by rw[ŀ,ŀ];exact s.rs.len,λi w e=>?_,λi k x y ei ek ox oy es=>?_⟩,s.fr,λi w a e o es=>?_,λi hi=>?_,s.dm,s.kp⟩
 .have(z,e):=inv i w e
  rw[qD z];exact s.rs.rep i w e
 .have(z1,ei):=inv i x ei
  have(z2,ek):=inv k y ek;rw[qD z1,qD z2]at es;exact s.rs.apart i k x y ei ek ox oy es
 .have(z,e):=inv i w e
  rw[qD z]at es;exact s.ow i w a e o es
 .rw[qD (by rintro rfl;exact hj hi)]
  exact s.pin i hi
theorem zB5{J:It}{ds:Qa Internal.D}{lU jL:En}{eB:St}{H3:Hp}{mk mv:ME}{kd zs:Qa (Qa Key×Internal.D)}(hk:VE K tk mk)(hv:VE K tv mv)(jl:j < nt)(hA:A D)
  (Ba:∀{ρ:En} {σ:St} {H:Hp},Sn K (fP nt n) hU A H₀ aq ρ σ H->jI nt ρb ρ->¬Ow ρ σ D) (run:Ih K J H3 ds) (s3:Sn K (fP nt n) hU A H₀ aq jL eB H3) (Lg:jI nt ρb jL) (hw:H3 D=ž (.dT ws)) (dy:cS K H3 ws kd)
  (el:uh j mk mv ds (jL.set j Ž) kd=ž (zs,lU)) (hZ:∀H' vH,Sn K (fP nt n) hU A H₀ aq lU (eB.set j Ž) H'->jI nt ρb lU->H' D=ž (.dT vH)->cS K H' vH zs->Z H'):Km K J (eB.set j Ž) (iO j) tk tv D Z H3:=by
 have hj:j∉fP nt n:=λz=>by have:=(tX.mp z).1;omega
 refine⟨λi m H'=>m=ds.length - i/\i<=ds.length/\∃cU kd ws,Sn K (fP nt n) hU A H₀ aq cU (eB.set j Ž) H'/\jI nt ρb cU/\Kp H3 H'/\H' D=ž (.dT ws)/\cS K H' ws kd/\uh j mk mv (ds.drop i) cU kd=ž (zs,lU),
  ⟨ds.length,by simp,Ç _,_,kd,ws,s3.unset hj,Lg.set jl Ž,Kp.refl _,hw,dy,el⟩,?_⟩
 rintro i m H' ⟨rfl,fK,cU,kd,ws,s',sh,Bm,hw,dy,el⟩
 by_cases dq:i < ds.length
 .rw[Ϭ dq]at el
  unfold uh at el;split at el
  .rename_i hz
   obtain⟨⟨a4,dR⟩,e5,el⟩:=bQ el;obtain⟨⟨a5,Xx⟩,e6,el⟩:=bQ el;have(uk,ek,el):=bQ el;have(uv,ev,el):=bQ el;have(dk,MC,wC):=bQ el;have(dv,MB,Mx):=bQ wC;have(ks,My,el4):=bQ Mx;cases oC MC;cases oC MB;have(go,yl):=(run H' Bm i).1 ds[i] (qo dq);refine .inr ⟨go,λH2=>∃cU kd ws,Sn K (fP nt n) hU A H₀ aq cU (eB.set j Ž) H2/\jI nt ρb cU/\Kp H3 H2/\H2 D=ž (.dT ws)/\cS K H2 ws kd/\uh j mk mv (ds.drop<|i+1) cU kd=ž (zs,lU),
    λH2 z=>⟨ds.length - (i+1),by omega,rfl,dq,z⟩,λx H2 y=>?_⟩
   have(sm,dx):=yl x H2 y;have s2:=s'.go (Go.grow s'.rs sm);have s4:=s2.set (i:=j) (v:=x) (u:=.d ds[i]) hj dx (λo=>by cases o);have yb:=sh.set jl (ž<|.d ds[i]);show tk _ H2 _;refine hk _ _ H2 a4 dR _ s4.rs e5 λkx H4 g4 k4=>hv dR _ H4 a5 Xx _ g4.rs e6 λvx H5 g5 k5=>?_;have pk:=k4.later s4.rs g4 g5 ek;have pv:=k5.now g4.rs g5 ev;have(p,rfl,hp):=vm pk My;have Cg:=g4.trans g5;have L0:H5 D=ž (.dT ws):=Cg.fr D _ (sm _ _ hw) (Ba s4 yb);have s6:=(s4.go Cg).unset hj;rw[List.set_set,List.set_set]at s6;have Vj:=(yb.trans Cg.shr.Lf).set jl Ž;have Wx:cS K H5 ws kd:=(dy.kp sm.kp).kp (Cg.kp s4.rs);have kp:=jS L0 trivial (.dT<|dY ws ks vx);exact⟨ws,ks,p,rfl,L0,hp,by rw[Wx.len];exact hz,_,_,_,s6.free L0 trivial (Ba s6 Vj) hA,Vj,((Bm.trans sm.kp).trans<|Cg.kp s4.rs).trans kp,zq,(Wx.kp kp).put ks<|DF.kp kp pv,el4⟩
  .cases el
 .have ei:i=ds.length:=by omega
  subst ei;rw[a0N]at el;cases el;exact .inl ⟨(run H' Bm _).2 rfl,hZ _ _ s' sh hw dy⟩
end
section
variable{ρ ai ρ1:En}
theorem zEi{mE:TI}{mi yj:MI}{mg:MG}{mk mv:ME}(hi:VI K wi mi)(hg:uK K (fP nt js.length) g mg)(nJ:VI K mE yj)(hk:VE K tk mk)(hv:VE K tv mv)(jl:autoParam (j < nt) ă)(nd:autoParam js.Nodup ă):
  VE K (Uz K wi nt js g mE j tk tv) (Kl mi nt js mg yj j mk mv):=by
 intro ρ σ H a ai Q r e q;obtain⟨⟨ds,ρ1⟩,e1,e⟩:=bQ e;obtain⟨⟨zs,lU⟩,e2,e⟩:=bQ e;cases e;refine hi ρ σ H ds ρ1 _ r e1 λJ H1 g1 run=>λD hD=>?_;have sm0:=zF hD (.dT []);have s0:=P7 (nt:=nt) (js:=js) g1.rs nd;have s1:Sn K (fP nt js.length) (c0 nt js σ) (λa=>lY ρ1 σ js a\/a=D) (upd H1 D<|.dT []) H1 (e9 nt js ρ1) (c0 nt js σ) (upd H1 D<|.dT []):=by
  have s2:=s0.go (Go.grow s0.rs sm0);refine⟨s2.rs,λa o h n=>h,λi u a e o es=>?_,s2.pin,λa h=>h,s2.kp⟩;rcases s2.ow i u a e o es with z|z
  .exact .inl ⟨z.1,.inl z.2⟩
  .exact absurd z (by
    have(v,ev,p):=s0.rs.rep i u e;rw[es]at ev;cases ev;have(b,c,eb,hb,_):=p.own o;cases eb;rw[hb];exact λz=>nomatch z)
 have Ba:∀{qZ:En} {yK:St} {Hx:Hp},Sn K (fP nt js.length) (c0 nt js σ) (λa=>lY ρ1 σ js a\/a=D) (upd H1 D<|.dT []) H1 qZ yK Hx->jI nt (e9 nt js ρ1) qZ->¬Ow qZ yK D:=λs sh=>Nz g1.rs hD s sh.own;refine⟨λi m H'=>m=ds.length - i/\i<=ds.length/\∃cU kd ws,Sn K (fP nt js.length) (c0 nt js σ) (λa=>lY ρ1 σ js a\/a=D) (upd H1 D<|.dT []) H1 cU (c0 nt js σ) H'/\eJ (e9 nt js ρ1) cU/\(∀k,k < nt->cU[k]?=ž Ž)/\H' D=ž (.dT ws)/\cS K H' ws kd/\sQ nt j mg yj mk mv (ds.drop i) cU kd=ž (zs,lU),
  ⟨ds.length,by simp,Ç _,_,[],[],s1,eJ.refl _,λk hk=>Ie hk,zq,.nil,e2⟩,?_⟩
 rintro i m H' ⟨rfl,fK,cU,kd,ws,s',sh,lo,hw,dy,el⟩;have lc:cU.length=nt+js.length:=by rw[sh.len,Ay]
 by_cases dq:i < ds.length
 .rw[Ϭ dq]at el
  unfold sQ at el;have(au,e3,el):=bQ el;obtain⟨⟨F4,jL⟩,e4,el⟩:=bQ el;obtain⟨⟨ys,dR⟩,e5,el⟩:=bQ el;have(l2,p2):=hg.ok _ _ _ e3;have(go,yl):=(run H' s'.kp i).1 ds[i] (qo dq);refine .inr ⟨go,λH2=>∃eK FA vH,Sn K (fP nt js.length) (c0 nt js σ) (λa=>lY ρ1 σ js a\/a=D) (upd H1 D<|.dT []) H1 eK (c0 nt js σ) H2/\eJ (e9 nt js ρ1) eK/\(∀k,k < nt->eK[k]?=ž Ž)/\H2 D=ž (.dT vH)/\cS K H2 vH FA/\sQ nt j mg yj mk mv (ds.drop<|i+1) eK FA=ž (zs,lU),
   λH2 ⟨eK,FA,vH,z⟩=>⟨ds.length - (i+1),by omega,rfl,dq,eK,FA,vH,z⟩,λx H2 y=>?_⟩
  have(sm,dx):=yl x H2 y;have s2:=s'.go (Go.grow s'.rs sm);refine hg.run _ _ _ _ cU _ H2 x ds[i] au _ s2 dx e3 λeB s3=>?_;have Le:jI nt cU au:=⟨l2,λk u hk ek ou=>by
    have lk:k < nt+js.length:=by rw[<-l2.trans lc];exact(qm.mp ek).1
    rw[p2 k<|tX.mpr ⟨hk,lk⟩]at ek;exact⟨u,ek,ou⟩,λk u hk ek=>by
    have lk:k < nt+js.length:=by rw[<-lc];exact(qm.mp ek).1
    rw[<-p2 k (tX.mpr ⟨hk,lk⟩)]at ek;exact⟨u,ek⟩⟩
  have Vk:jI nt (e9 nt js ρ1) au:=sh.Lf.trans Le;have VM:H2 D=ž (.dT ws):=sm _ _ hw;refine nJ au eB H2 F4 jL _ s3.rs e4 λJ2 H3 g3 Lj=>?_;have Lg:=Vk.trans g3.shr.Lf;refine zB5 (ρb:=e9 nt js ρ1) hk hv jl (.inr rfl) Ba Lj (s3.go g3) Lg (g3.fr D _ VM<|Ba s3 Vk) ((dy.kp sm.kp).kp<|g3.kp s3.rs) e5 λH4 ws4 s4 yb hw4 dy4=>?_;have l4:dR.length=nt+js.length:=by rw[yb.len,Ay]
  have shx:jI nt cU dR->eJ cU (Internal.reset nt dR):=λz=>eJ.kj lc lo l4 (λk u hk ek ou=>z.own k u hk ek ou) λk u hk ek=>z.live k u hk ek;have sh5:eJ (e9 nt js ρ1) (Internal.reset nt dR):=eJ.kj (by rw[Ay]) (λk hk=>Ie hk) l4 (λk u hk ek ou=>yb.own k u hk ek ou) λk u hk ek=>yb.live k u hk ek;exact⟨_,_,ws4,s4.reset l4 Ig,sh5,λk hk=>Jc hk,hw4,dy4,el⟩
 .have ei:i=ds.length:=by omega
  subst ei;rw[a0N]at el;cases el;refine .inl ⟨(run H' s'.kp _).2 rfl,?_⟩;have nE:¬Ow lU (c0 nt js σ) D:=Nz g1.rs hD s' λk u _ ek ou=>sh.own k u ek ou;have s4:Sn K (fP nt js.length) (c0 nt js σ) (lY ρ1 σ js) H1 H1 lU (c0 nt js σ) H':=by
   refine⟨s'.rs,λa o h n=>?_,λi u a e o es=>?_,s'.pin,λa h=>?_,s'.kp⟩
   .have ne:a≠D:=by rintro rfl;rw[hD]at h;cases h
    exact s'.fr a o (by rw[zu ne];exact h) λz=>z.elim n ne
   .rcases s'.ow i u a e o es with⟨z1,z2|z2⟩|z
    .exact .inl ⟨z1,z2⟩
    .subst z2;exact absurd ⟨i,u,e,o,es⟩ nE
    .by_cases ea:a=D
     .subst ea;exact .inr hD
     .rw[zu ea]at z;exact .inr z
   .have z:=s'.dm a h
    by_cases ea:a=D
    .subst ea;exact hD
    .rw[zu ea]at z;exact z
  have gb:=Sn.comp_back g1.rs s4 lc sh;exact q _ _ (g1.trans gb) ⟨⟨D,ws,rfl,hw,dy⟩,λ_=>⟨D,rfl,g1.dm _ hD⟩⟩
end
noncomputable def lsN:U->Qb (Qa D)
 |.l xs=>ž xs
 |.d (.list xs)=>ž xs
 |_=>Ž
section
variable{ρ:En}
theorem Ol{u:U}{xs:Qa D}(r:Rs K ρ σ H)(hi:i∉js)(e:ρ[i]?=ž (ž u))(h:lsN u=ž xs):∃a us,σ[i]?=ž (ž<|.ref a)/\(∀H2,Kp H H2->yJ (lY ρ σ js) H H2->bu K H2 a us)/\bu K H a us/\aI K H us xs:=by
 have(v,ev,p):=r.rep i _ e;unfold lsN at h;split at h
 .cases h
  have(a,us,rfl,h1,h2):=p;exact⟨a,us,ev,λH2 _ f=>bu.of<|f a _ h1<|zt5 r hi e rfl ev,bu.of h1,h2⟩
 .cases h
  have(b,vy,rfl,h2,d2):=DF.lst_inv p;exact⟨b,vy,ev,λH2 k _=>(PL.kp k h2).sq,PL.sq h2,d2⟩
 .cases h
end
theorem zrs(l:Qg)(items:Array Qc)(n:Nat)(sl:Array (Qb Qc))(b:Qg)(aU:Array Qc)(n2:Nat)(qI:Array (Qb Qc))(hc0:items.size+aU.size<=ħ):
  Meets (Builtin.«list.__add__» ⟨[.ref l,.ref b],[]⟩) (λ_ R s=>s.heap.get? l=ž {cls:=.type "list",dict:=Ž,data:=.seq items n,slots:=sl}/\s.heap.get? b=ž {cls:=.type "list",dict:=Ž,data:=.seq aU n2,slots:=qI}/\R (.ok<|.ret<|.ref s.heap.objs.size) {s with heap:=s.heap.push {cls:=.type "list",data:=.seq (items++aU)},toks:=s.toks}):=
 .of_wp λprog w A R s h=>by
  have(hp,g,d,tk,os):=s;have(hl,hb,h):=h;have f1:=PySem.AutoSeq1.idx_int;have f2:=PySem.AutoSeq1.sub_tuple_tuple;have f3:=PySem.AutoSeq1.sub_list_list;have f4:=PySem.AutoSeq1.sub_tuple_list;have f5:=PySem.AutoSeq1.sub_list_tuple
  wp_walk using Ŗ hl,Ŗ hb
  exact⟨_,rfl,h⟩
section
variable{X:Cx}
def Nq(K:qc):R2:=λx y H Q=>∃l b xs zs,x=.ref l/\y=.ref b/\bu K H l xs/\bu K H b zs/\xs.length+zs.length<=ħ/\∀p,H p=Ž->Q (.ref p) (upd H p<|.lst<|xs++zs)
theorem O1(hK:autoParam (X.K=K) ć):bL X (ϊ .Add) (Nq K):=by
 subst hK;intro pins s σ H x y v u Q I rx ry h;have(l,b,xs,zs,rfl,rfl,hH,hB,hz,q):=h;cases rx;cases ry;obtain⟨ah,r,⟨o,n,e,c1,d1,t1⟩,_⟩:=I.list hH;obtain⟨i3,r2,⟨o2,n2,e2,c2,d2,t2⟩,_⟩:=I.list hB;have(cls,dd,data,sl):=o;have(Cz,wF,data2,qI):=o2;simp only at c1 d1 t1 c2 d2 t2;subst c1 d1 t1 c2 d2 t2;have l1:=r.length;have l2:=r2.length;have ea:ah.toArray++i3.toArray=(ah++i3).toArray:=by simp
 refine a2M ⟨_,e,rfl⟩ ⟨_,e2,rfl⟩ noFill_list_add seq_list_add F.slot_list_add F.entry_list_add (F.args_list_add_2 _ _) (zrs l ah.toArray n sl b i3.toArray n2 qI (by rw[ī,ī];omega)) ⟨e,e2,?_⟩;rw[ea];exact⟨.ref _,_,I.Bi (t':=s.toks) (r.append r2) (by rw[qu];omega),rfl,q _ I.fresh⟩
end
def Dw(u w:U):Qb U:=(lsN u).bind λxs=>(lsN w).bind λys=>if xs.length+ys.length<=ħ then ž (.l<|xs++ys)else Ž
theorem Oj{v:V}{u:U}{xs:Qa D}(p:Rp K H v u)(h:lsN u=ž xs):∃a us,v=.ref a/\bu K H a us/\aI K H us xs:=by
 unfold lsN at h;split at h
 .cases h
  have(a,us,rfl,h1,h2):=p;exact⟨a,us,rfl,bu.of h1,h2⟩
 .cases h
  have(b,vy,rfl,h2,d2):=DF.lst_inv p;exact⟨b,vy,rfl,PL.sq h2,d2⟩
 .cases h
theorem O0:VO K (Nq K) Dw:=by
 intro x y a b u H Q ha hb e q;have(xs,ex,e):=bQ e;have(ys,ey,e):=bQ e;split at e
 .rename_i hz
  cases e;have(p,us,rfl,h1,h2):=Oj ha ex;have(p',g9,rfl,kI,mY):=Oj hb ey;refine⟨p,p',us,g9,rfl,rfl,h1,kI,by rw[h2.len,mY.len];exact hz,λr hr=>?_⟩;have s:=zF hr (.lst<|us++g9);exact q _ _ s ⟨r,_,rfl,zq,(h2.app mY).kp s.kp⟩ λ_=>⟨r,rfl,hr⟩
 .cases e
section
variable{ρ:En}{mi me mk mv:ME}{QE:Ar×En->Prop}{QS:Fl->Prop}{QI:Qa D×En->Prop}
theorem zuP:Wo (Kn i mi me ρ) QS=Wo (ρ[i]?).join (Co (λ_=>(mi ρ).bind λp=>(p.1.get p.2).bind λy=>y.da.bind λy=>(sR y).bind λn=>(p.2[i]?).join.bind λw=>w.yk.bind λxs=>if 0<=n then(bt xs n).bind λx=>(sR x).bind λa=>
 (me p.2).bind λq=>(q.1.get q.2).bind λz=>z.da.bind λz=>(sR z).bind λb=>(q.2[i]?).join.bind λw=>w.yk.bind λys=>(dM ys.length n).bind λj=>ž (.nx<|q.2.set i<|some<|.l<|ys.set j<|.int<|a+b)else Ž) ⟨0⟩ QS):=by
 show Wo (ō _ _) QS=_;rw[zn]
theorem zuQ{xs:Qa D}:U.yk (.l xs)=ž xs:=rfl
theorem zql{n:Int}:sR (.int n)=ž n:=rfl
def LK(kvs:Qa (Qa Key×D))(k:Qa Key)(x:D)(i:Nat)(ρ:En):Ar×En:=match f9 kvs k with
 |some v=>(.u<|.d v,ρ)
 |none=>(.u<|.d x,ρ.set i<|some<|.t<|eC kvs k x)
noncomputable def Vn(w:U):Qb (Qa<|Qa Key×D):=match w with
 |.t kvs=>ž kvs
 |_=>Ž
theorem zuR{kvs:Qa (Qa Key×D)}:Vn (.t kvs)=ž kvs:=rfl
theorem zqm:Wo (Dx i mk mv ρ) QE=Wo (ρ[i]?).join (Co (λw0=>if tu w0=ż then(mk ρ).bind λp=>(mv p.2).bind λq=>(p.1.get q.2).bind λy=>y.da.bind λy=>(q.1.get q.2).bind λx=>x.da.bind λx=>(cW y).bind λk=>(q.2[i]?).join.bind λw=>(Vn w).bind λkvs=>if kvs.length < ħ then ž (LK kvs k x i q.2)else Ž else Ž) ⟨0⟩ QE):=by
 rw[<-zn];congr 1;unfold Dx;congr 1
 funext w0
 congr 1;congr 1
 funext p
 congr 1
 funext q
 congr 1
 funext y
 congr 1
 funext y
 congr 1
 funext x
 congr 1
 funext x
 congr 1
 funext k
 congr 1
 funext w
 cases w<;>rfl
theorem zqn{m1:MI}{mg:MG}{m2:MI}:Wo (Kl m1 nt js mg m2 j mk mv ρ) QE=Wo (m1 ρ) (Co (λp=>(sQ nt j mg m2 mk mv p.1 (e9 nt js p.2) []).bind λq=>ž (.u<|.t q.1,back js (q.2.drop nt) p.2)) ⟨0⟩ QE):=by
 show Wo (ō _ _) QE=_;rw[zn]
theorem zqo{kvs:Qa (Qa Key×D)}:GR (.t kvs)=ž (.l<|kvs.map λp=>.tuple [iG p.1,p.2]):=rfl
end
noncomputable def ji(rs ps:Qa D)(pl ml:Qa (Qa K3×D)):U:=.o "NewRows" [("rows",.l rs),("paper",.l ps),("places",.x pl),("mark_places",.x ml)]
section
variable{rs ps xs:Qa D}{pl ml kv:Qa (Qa K3×D)}
theorem zuS:U.o "NewRows" [("rows",.l rs),("paper",.l ps),("places",.x pl),("mark_places",.x ml)]=ji rs ps pl ml:=rfl
theorem zuT:U.vR "NewRows" "add_new" (ji rs ps pl ml)=ż:=rfl
theorem zuU:U.vR "NewRows" "shared" (ji rs ps pl ml)=ż:=rfl
theorem zuV:U.vR "NewRows" "sum_row" (ji rs ps pl ml)=ż:=rfl
theorem zuW:U.fl "NewRows" "rows" (ji rs ps pl ml)=ž rs:=rfl
theorem zuX:U.fl "NewRows" "paper" (ji rs ps pl ml)=ž ps:=rfl
theorem zuY:U.fp "NewRows" "rows" (ji rs ps pl ml)=ž (.l rs):=rfl
theorem zuZ:U.fp "NewRows" "places" (ji rs ps pl ml)=ž (.x pl):=rfl
theorem zu0:U.aQ "rows" (.l xs) (ji rs ps pl ml)=ji xs ps pl ml:=rfl
theorem zu1:U.aQ "paper" (.l xs) (ji rs ps pl ml)=ji rs xs pl ml:=rfl
theorem zu2:U.aQ "places" (.x kv) (ji rs ps pl ml)=ji rs ps kv ml:=rfl
theorem zu3:PU.ls (.l xs)=ž xs:=rfl
theorem zu4:PU.xs (.x kv)=ž kv:=rfl
end
def GU(i j:Nat):MI:=λρ=>(ρ[i]?).join.bind λu=>(ρ[j]?).join.bind λw=>(lsN u).bind λxs=>(lsN w).bind λys=>if xs.length=ys.length then ž (pH xs ys,ρ)else Ž
section
variable{ρ:En}{QI:Qa D×En->Prop}
theorem YU(hi:autoParam (i∉js) ă)(hj:autoParam (j∉js) ă):Xf K js (zDR K<|j0 (fQ i)<|j0 (fQ j) jZ) (GU i j):=by
 intro ρ σ H ds ai R r e q;have(u,eu,e):=bQ e;have(w,ew,e):=bQ e;have(xs,ex,e):=bQ e;have(ys,ey,e):=bQ e;split at e
 rotate_left
 .cases e
 rename_i hl;cases e;have(b,vy,eb,kb,sb,db):=Ol r hj (Qj ew) ey;have(a,vx,ea,ka,sa,da):=Ol r hi (Qj eu) ex;refine⟨_,ea,_,eb,a,b,rfl,⟨_,sa⟩,⟨_,sb⟩,q _ _ (Go.refl r) λH2 kk f i=>⟨λd ed=>?_,λei=>⟨vx,vy,ka _ kk f,kb _ kk f,by rw[Jq _ _ hl]at ei;rw[da.len];exact ei.symm⟩⟩⟩;have(x,y,ex,ey,rfl):=IS ed;have(v,ev,dv):=(da.kp kk).get ex;have(w,ew,dw):=(db.kp kk).get ey;refine⟨⟨vx,vy,v,w,ka _ kk f,kb _ kk f,ev,ew⟩,λz H' y=>?_⟩;have(T,nT,rfl,y):=y;cases y vx vy v w (ka _ kk f) (kb _ kk f) ev ew;have sm:=zF nT (.tup [v,w]);exact⟨sm,.tup (.inl zq)<|.cons (dv.kp sm.kp)<|.cons (dw.kp sm.kp) .nil⟩
theorem zqp:Wo (GU i j ρ) QI=Wo (ρ[i]?).join (Co (λu=>(ρ[j]?).join.bind λw=>(lsN u).bind λxs=>(lsN w).bind λys=>if xs.length=ys.length then ž (pH xs ys,ρ)else Ž) ⟨0⟩ QI):=by
 show Wo (ō _ _) QI=_;rw[zn]
end
open PySem.AutoSeq1 (wpAny_loadPart')
open MeetsSeq MeetsSeq2 MeetsSeq3 SeqRoads2
end Internal
namespace Internal
open PySem PySem.Spec PyProof.Rows
end Internal
namespace Internal
open PySem PySem.Spec PySem.W PyProof.Rows
end Internal
namespace Internal
open PySem PySem.Spec PyProof.Rows
end Internal
namespace Internal
open PySem PySem.Spec PySem.W PyProof.Rows
noncomputable def R(r:a0y->Int)(xs:Array a0y)(i:Nat):Int:=match xs[i]? with
 |some x=>r x
 |none=>0
def CS:Nat->Qa (Nat×Nat)->Nat->Prop
 |s,[],e=>s=e
 |s,t::l,e=>t.1=s/\1<=t.2/\CS (s+t.2) l e
theorem CS.bd:∀{l:Qa (Nat×Nat)} {s e:Nat},CS s l e->s+l.length<=e/\∀t∈l,s<=t.1/\t.1+t.2<=e
 |[],s,e,h=>⟨ñ h,λt ht=>by cases ht⟩
 |t::l,s,e,h=>by
  have(h1,h2,h3):=h;have(i1,i2):=CS.bd h3;refine⟨by rw[qv];omega,λu hu=>?_⟩;rcases qw.mp hu with rfl|hu
  .omega
  .have:=i2 u hu
   omega
noncomputable def sl(p:Array (Nat×Nat×Nat)):Qa (Nat×Nat):=p.toList.map λt=>(t.1,t.2.1)
end Internal
namespace Internal
open PySem PySem.Spec PyProof.Rows
end Internal
namespace Internal
open PySem PySem.Spec PySem.W PyProof.Rows
end Internal
namespace Internal
open PySem PySem.Spec PyProof.Rows
noncomputable def U.ks:U->Qb (Qa<|Key×D)
 |.k kvs=>ž kvs
 |_=>Ž
noncomputable def Fl.re(g:En->En):Fl->Fl
 |.nx ρ=>.nx<|g ρ
 |.bk ρ=>.bk<|g ρ
 |.ct ρ=>.ct<|g ρ
 |.rt u ρ=>.rt u<|g ρ
 |.ex x ρ=>.ex x<|g ρ
end Internal
namespace Internal
open PySem PySem.Spec PySem.W PyProof.Rows
def Vh:TS:=λ_ _ _=>False
noncomputable def Fx:MS:=λ_=>Ž
theorem Kk{X:Cx}:Wr (PS X st Vh):=⟨λ_ _ _ _ _ _ h=>h.elim⟩
theorem Kj{EX:fZ}:VS K pn EX Vh Fx:=λaj A H₀ aq ρ σ H f D s e k=>by cases e
end Internal
namespace Internal.K56
open PySem Internal
noncomputable def top(i:Nat):Ś:=PySem.Challenge.pw_undivide_k56_cheapest_of_built_ones.main.body.getD i (.Pass ⟨0,0,0,0⟩)
noncomputable def Dv(j:Nat):Ś->Ś
 |.ClassDef _ _ _ b _ _ _ _ _ _ _=>b.getD j default
 |s=>s
abbrev T1:Ś:=Dv 1 (top 12)
abbrev Ue:Ś:=Dv 2 (top 12)
abbrev TZ:Ś:=Dv 5 (top 12)
abbrev SA:Ś:=top 8
abbrev To:Ś:=top 9
abbrev S4:Ś:=top 10
abbrev Tn:Ś:=top 18
abbrev Tu:Ś:=top 19
abbrev Tj:Ś:=top 20
abbrev OZ:Ś:=top 21
abbrev S3:Ś:=top 22
abbrev Sy:Ś:=top 23
abbrev RL:Ś:=top 24
abbrev TY:Ś:=top 25
abbrev R4:Ś:=top 26
abbrev R3:Ś:=top 27
abbrev Sx:Ś:=top 33
abbrev S2:Ś:=top 34
abbrev R1:Ś:=top 35
abbrev QN:Ś:=top 36
abbrev Tq:Ś:=top 37
abbrev Ud:Ś:=top 38
abbrev R0:Ś:=top 39
abbrev S1:Ś:=top 40
abbrev QM:Ś:=top 41
abbrev RZ:Ś:=top 42
abbrev RY:Ś:=top 43
abbrev Sw:Ś:=top 45
abbrev SM:Ś:=top 46
abbrev Uc:Ś:=top 47
abbrev SK:Ś:=top 48
abbrev S0:Ś:=top 49
abbrev Ub:Ś:=top 50
abbrev TX:Ś:=top 51
abbrev Ur:Ś:=top 52
abbrev Uq:Ś:=top 53
abbrev TV:Ś:=top 54
abbrev Ui:Ś:=top 55
abbrev Sv:Ś:=top 56
abbrev SY:Ś:=top 57
abbrev TU:Ś:=top 58
abbrev Ti:Ś:=top 59
abbrev Uj:Ś:=top 60
abbrev Np:Ś:=top 61
abbrev EI:Ś:=Dv 0 (top 12)
section
def Bs(Z:Zs):Prop:=Bl Z.mg ["len", "isinstance", "int", "bool", "tuple", "abs", "zip", "enumerate", "range", "list", "str", "all", "set", "dict", "sorted", "sum"]/\(∃G,Z.mg "KEPT_WORDS"=ž (.ref G)/\uP Z.K G ["letters", "part", "rounds", "end", "give"])/\(∃G,Z.mg "MADE_WORDS"=ž (.ref G)/\uP Z.K G ["plus", "less", "times", "over"])/\(∃T,Z.mg "POWERS"=ž (.int 5 T))/\(∃T,Z.mg "MOST_LETTERS"=ž (.int 3 T))/\(∃T,Z.mg "LONGEST_LETTER"=ž (.int 5 T))/\(∃G,Z.mg "NOUGHT"=ž (.ref G)/\pC Z.K G [0,1])/\(∃G,Z.mg "ONE"=ž (.ref G)/\pC Z.K G [1,1])/\(∃G,Z.mg "NUMBER"=ž (.ref G)/\pC Z.K G [1,0,0,0,0])/\(∃G,Z.mg "LETTER"=ž (.ref G)/\pC Z.K G [0,1,0,0,0])/\(∃G,Z.mg "SIGNS"=ž (.ref G)/\pC Z.K G [0,1,-1])/\OB Z.K "NewRows" ["rows", "paper", "places", "mark_places"]/\sO Z.P Z.w Z.K Z.mg Z.base "NewRows" [("rows",.l []),("paper",.l []),("places",.x []),("mark_places",.x [])]
variable{Z:Zs}
def TR:MS:=(zC (jc<|DE "NewRows" 0 "rows"<|zi 1)
  (zC (jc<|DE "NewRows" 0 "paper"<|mC .none)
  (aS<|ao pL (GL "NewRows" 0 "rows")<|mC<|.int 1)))
def zX:FD:=bA 2 [0,1] TR
abbrev Fb(Z:Zs):Prop:=Z.M "NewRows" "add_new" 1 ["self", "row"] 2 zX
theorem zgp(B:Bs Z)(A:uM Z.K "NewRows" "add_new" "NewRows.add_new" T1):Fb Z :=
 by have(hB,_,_,_,_,_,_,_,_,_,_,aG,_):=B;exact J7 A ["self", "row"] λnd hr=>⟨_,(zw (mn<|Og aG.at HH)
 (zw (mn<|Og aG.at<|zFf λ_=>.aM)
 (zM<|zo tQ (zBS aG.at) zk))),
 (aC (mw<|NK Ë É Ê (NL p7) (u5 aa)<|ae aa zf)
 (aC (mw<|NK Ë É Ê (NL p7) (u5 aa)<|ae pR zf)
 (zB<|zG<|zY tK (bN (Po fU) Â<|ae (u5 aa) zf) zm)))⟩
def Su:MS:=(aS<|lB (cX (iK "int")<|zi 0)<|DH<|cX (iK "bool")<|zi 0)
def xY:FD:=bA 1 [0] Su
abbrev JJ(Z:Zs):Prop:=Z.C "is_number" 1 ["thing"] 1 xY
theorem zmG(B:Bs Z)(A:bU Z "is_number" SA):JJ Z :=
 have hB:=B.1;cc A ["thing"] λnd hr=>⟨_,(zM<|og (nX (T := "int") zd)<|zAI<|nX (T := "bool") zd),
 (zB<|zG<|n8 (bN n6 Å<|ae aa<|ae (oh (v:=.ty "int") a0w rfl) zf)<|tG<|w_not<|bN n6 Å<|ae aa<|ae (oh (v:=.ty "bool") a2k rfl) zf)⟩
def Th:MS:=(zC (ve (w6<|zi 1)<|yP 0 1<|ze (zi 1)<|ze (ao lZ (zi 0)<|zi 1) zp)
  (aS<|zi 0))
def EZ:FD:=bA 2 [] Th
abbrev Tg(Z:Zs):Prop:=Z.C "common_factor" 1 ["one", "other"] 2 EZ
theorem zhH(B:Bs Z)(A:bU Z "common_factor" To):Tg Z :=
 have hB:=B.1;cc A ["one", "other"] λnd hr=>⟨_,(zw (P8 (Ij zd)<|NV<|zb zd<|zb (zo pT zd zd) zj)
 (zM zd)),
 (aC (PD (Hh aa)<|zB<|NP<|ae aa<|ae (zY pW aa aa) zf)
 (zB<|zG aa))⟩
def Tf:MS:=(zC (aV 1<|ao nU (fe<|ze (mC<|.int 0) zp)<|mC<|.int 5)
  (zC (dU (dg nO<|zi 0) (eI 2<|zI (zx 2)<|zI (zx 3) fq) (zC (bV (iY (mB<|ao Cn (ao aT (zi 2)<|mC<|.int 0)<|mC<|.int 5)<|mB<|ao (cp ż) (ao aT (zi 3)<|mC<|.int 1)<|mC<|.int 1) (aS<|mC .none) cF)
  (pZ 1 (ao aT (zi 3)<|mC<|.int 0)<|ao aT (zi 2)<|mC<|.int 0)))
  (aS<|bK (f1 rK)<|ze (zi 1) zp)))
def EY:FD:=bA 4 [0] Tf
abbrev Te(Z:Zs):Prop:=Z.C "whole_numbers" 1 ["poly"] 1 EY
theorem zhI(B:Bs Z)(A:bU Z "whole_numbers" Tn):Te Z :=
 by obtain⟨hB,_,_,⟨fY,aW⟩,_⟩:=B;exact cc A ["poly", "told", "powers", "f"] λnd hr=>⟨_,(zw (zS<|zo D7 (gg<|zb zk zj) zk)
 (zw (fm (tO zd) (gh<|zy zt<|zy zt gk) (zw (cE (jQ (zD<|zo Hd (zo zA zd zk) zk)<|zD<|zo mm (zo zA zd zk) zk) (zM rF) dz)
 (xO (zo zA zd zk)<|zo zA zd zk)))
 (zM<|bW vq<|zb zd zj))),
 (aC (zU<|zY DY (fF<|ae zm zf)<|j5 (v:=.int 5) rfl aW ⟨_,rfl⟩)
 (aC (ft (tR aa) (gr<|bI zr<|bI zr gu) (aC (cG (l7<|jO (zQ Ho (zR zO aa zm)<|j5 (v:=.int 5) rfl aW ⟨_,rfl⟩)<|nC<|zQ mf (zR zO aa zm) zm) (zB<|zG pR) dA)
 (zB<|nZ (zR zO aa zm)<|xI aa (zR zO aa zm) vA)))
 (zB<|zG<|l6 t4 Ã<|ae aa zf)))⟩
def Tp:MS:=(aS<|bK (f1 rK)<|ze (jj (Dk<|ze (zi 0)<|ze (zi 1) zp) 2 [2] (eI 2<|zI (zx 0)<|zI (zx 1) fq) nW<|ao jN (zi 0)<|ao jq (zi 2)<|zi 1) zp)
def AL:FD:=bA 3 [0,1,2] Tp
abbrev JR(Z:Zs):Prop:=Z.C "numbers_plus" 1 ["one", "other", "sign"] 3 AL
theorem zi0(B:Bs Z)(A:bU Z "numbers_plus" Tu):JR Z :=
 have hB:=B.1;cc A ["one", "other", "sign"] λnd hr=>⟨_,(zM<|bW vq<|zb (lX (OC<|zb zd<|zb zd zj) (gh<|zy zt<|zy zt gk) tM<|zo lF zd<|zo mr zd zd) zj),
 (zB<|zG<|l6 t4 Ã<|ae (ni (Iq<|ae aa<|ae aa zf) (gr<|bI zr<|bI zr gu) tS<|zY lI aa<|zY mz aa aa) zf)⟩
def Td:MS:=(zC (aV 2<|ao nU (fe<|ze (mC<|.int 0) zp)<|mC<|.int 5)
  (zC (dU (uV<|ze (zi 0) zp) (eI 2<|zI (zx 3)<|zI (zx 4) fq)<|dU (pQ<|ze (ao pL (mC<|.int 5)<|zi 3) zp) (zx 5)<|Kn 2 (ao jN (zi 3)<|zi 5)<|ao jq (zi 4)<|ao aT (zi 1)<|zi 5)
  (aS<|bK (f1 rK)<|ze (zi 2) zp)))
def EW:FD:=bA 6 [0,1] Td
abbrev Tc(Z:Zs):Prop:=Z.C "numbers_times" 1 ["one", "other"] 2 EW
theorem zhJ(B:Bs Z)(A:bU Z "numbers_times" Tj):Tc Z :=
 by obtain⟨hB,_,_,⟨fY,aW⟩,_⟩:=B;exact cc A ["one", "other", "told", "power", "many", "more"] λnd hr=>⟨_,(zw (zS<|zo D7 (gg<|zb zk zj) zk)
 (zw (fm (Eg<|zb zd zj) (gh<|zy zt<|zy zt gk)<|fm (vn<|zb (zo tQ zk zd) zj) zt<|zEd (zo lF zd zd)<|zo mr zd<|zo zA zd zd)
 (zM<|bW vq<|zb zd zj))),
 (aC (zU<|zY DY (fF<|ae zm zf)<|j5 (v:=.int 5) rfl aW ⟨_,rfl⟩)
 (aC (ft (Az<|ae aa zf) (gr<|bI zr<|bI zr gu)<|zB<|ft (vz<|ae (zY tK (j5 (v:=.int 5) rfl aW ⟨_,rfl⟩) aa) zf) zr<|zB<|zBZ aa (zY lI aa aa)<|zY mz aa<|zR zO aa aa)
 (zB<|zG<|l6 t4 Ã<|ae aa zf)))⟩
def Ss:MS:=(zC (bV (iY (jo<|mB<|cX (iK "str")<|zi 0)<|iY (mB<|ao wA (bK (f1 xj)<|ze (zi 0) zp)<|mC<|.int 5)<|mB<|cX (rA ["letters", "part", "rounds", "end", "give"])<|zi 0) (aS<|mC<|.bool Ż) cF)
  (aS<|lB (Bg a4t<|zi 0)<|lB (Bg a4u<|zi 0)<|Bg a4s<|zi 0))
def EN:FD:=bA 1 [0] Ss
abbrev Sr(Z:Zs):Prop:=Z.C "is_letter" 1 ["thing"] 1 EN
theorem zmH(B:Bs Z)(A:bU Z "is_letter" Sx):Sr Z :=
 by obtain⟨hB,⟨bw,cz,bS⟩,_,_,_,⟨cC,bh⟩,_⟩:=B;exact cc A ["thing"] λnd hr=>⟨_,(zw (cE (jQ (lE<|fD<|nX (T := "str") zd)<|jQ (zD<|zo Aa (bW Z1<|zb zd zj) zk)<|zD<|Hk bS zd) (zM lh) dz)
 (zM<|og (J5 zd)<|og (J5 zd)<|J5 zd)),
 (aC (cG (l7<|jO (lH<|jd<|bN n6 Å<|ae aa<|ae (oh (v:=.ty "str") PyProof.Rows.boot_str rfl) zf)<|jO (zQ yW (bN zkl Â<|ae aa zf)<|j5 (v:=.int 5) rfl bh ⟨_,rfl⟩)<|nC<|zQ (Iu _ rfl hr ["letters", "part", "rounds", "end", "give"] (by decide +kernel)) aa (j5 (v:=.ref bw) rfl cz rfl) rfl) (zB<|zG lr) dA)
 (zB<|zG<|n8 (Hg _ rfl a0J PySem.F.slot_str_isascii PySem.F.type_str_isascii znY aa)<|n8 (Hg _ rfl a0J PySem.F.slot_str_isalpha PySem.F.type_str_isalpha znZ aa)<|tG<|Hg _ rfl a0J PySem.F.slot_str_islower PySem.F.type_str_islower zn0 aa))⟩
def EH:MS:=(aS<|vU (mB<|cX (rA ["plus", "less", "times", "over"])<|ao aT (zi 0)<|mC<|.int 0) (Bf Di (zi 0) (y7<|mC<|.int 1) Au)<|bM zp)
def p8:FD:=bA 1 [0] EH
abbrev JC(Z:Zs):Prop:=Z.C "parts_of" 1 ["row"] 1 p8
theorem zoo(B:Bs Z)(A:bU Z "parts_of" R0):JC Z :=
 by obtain⟨hB,_,⟨aN,aX,aR⟩,_⟩:=B;exact cc A ["row"] λnd hr=>⟨_,(zM<|CV (zD<|Hk aR<|zo zA zd zk) (UH zAL zd (P5 zk) P6)<|cg zj),
 (zB<|zG<|DJ (zQ (Iu _ rfl hr ["plus", "less", "times", "over"] (by decide +kernel)) (zR zO aa zm) (j5 (v:=.ref aN) rfl aX rfl) rfl) (PF zE4 aa (PH zm) PJ)<|cm zf)⟩
def Sf:MS:=(zC (rC (zi 0)<|eI 2<|zI (zx 1)<|zI (zx 2) fq)
  (aS<|bK (f1 eE)<|ze (jj (dg nO<|zi 2) 1 [] (zx 0) (mB<|ao (cp Ż) (ao aT (zi 0)<|mC<|.int 0)<|mC<|.str "times")<|zi 0) zp))
def AI:FD:=bA 3 [0] Sf
abbrev Se(Z:Zs):Prop:=Z.C "products" 1 ["reckoning"] 1 AI
theorem zop(B:Bs Z)(A:bU Z "products" RZ):Se Z :=
 have hB:=B.1;cc A ["reckoning", "letters", "rows"] λnd hr=>⟨_,(zw (y8 zd<|gh<|zy zt<|zy zt gk)
 (zM<|bW gq<|zb (lX (tO zd) zt (zD<|zo j4 (zo zA zd zk) iy) zd) zj)),
 (aC (nZ aa<|gr<|bI zr<|bI zr gu)
 (zB<|zG<|bN fU Â<|ae (ni (tR aa) zr (xH<|zQ j3 (zR zO aa zm) iz) aa) zf))⟩
def Sd:MS:=(zC (rC (zi 0)<|eI 2<|zI (zx 1)<|zI (zx 2) fq)
  (aS<|bK (f1 w4)<|ze (jj (dg nO<|zi 2) 1 [] (zx 0) nW<|ao (cp ż) (ao aT (zi 0)<|mC<|.int 0)<|mC<|.str "over") zp))
def EG:FD:=bA 3 [0] Sd
abbrev Sb(Z:Zs):Prop:=Z.C "is_whole" 1 ["reckoning"] 1 EG
theorem zoq(B:Bs Z)(A:bU Z "is_whole" RY):Sb Z :=
 have hB:=B.1;cc A ["reckoning", "letters", "rows"] λnd hr=>⟨_,(zw (y8 zd<|gh<|zy zt<|zy zt gk)
 (zM<|bW ON<|zb (lX (tO zd) zt tM<|zo mm (zo zA zd zk) iy) zj)),
 (aC (nZ aa<|gr<|bI zr<|bI zr gu)
 (zB<|zG<|bN (NM _ rfl rfl) a2t<|ae (ni (tR aa) zr tS<|nj mf (zR zO aa zm) iz) zf))⟩
def Sq:MS:=(zC (aV 2<|ao jN (ao jq (mC<|.int 7919)<|zi 1)<|mC<|.int 11)
  (zC (bV (mB<|ao Ck (zi 1)<|bK (f1 eE)<|ze (zi 0) zp) (aV 2<|ao du (zi 0)<|zi 1)<|bV (mB<|ao wA (bK (f1 eE)<|ze (zi 0) zp)<|mC<|.int 0) (aV 2<|ao jN (zi 2)<|ao jq (ao lZ (ao du (zi 0)<|ao lZ (zi 1)<|bK (f1 eE)<|ze (zi 0) zp)<|mC<|.int 2147483629)<|mC<|.int 69623) cF)
  (zC (aV 3<|ao jN (ao lZ (ao jN (ao jq (ao lZ (zi 2)<|mC<|.int 2147483629)<|mC<|.int 48271)<|ao jq (mC<|.int 40692)<|zi 1)<|mC<|.int 2147483629)<|mC<|.int 1)
  (aS<|fe<|ze (ao jq (zi 2)<|bK (f1 y9)<|ze (ao Cn (zi 2)<|ao CW (mC<|.int 10)<|mC<|.int 18) zp)<|ze (zi 3) zp))))
def EM:FD:=bA 4 [0,1] Sq
abbrev So(Z:Zs):Prop:=Z.C "_law_box" 1 ["_law_script", "_law_k"] 2 EM
theorem zmI(B:Bs Z)(A:bU Z "_law_box" Sw):So Z :=
 have hB:=B.1;cc A ["_law_script", "_law_k", "_law_cell", "_law_seed"] λnd hr=>⟨_,(zw (zS<|zo lF (zo mr zk zd) zk)
 (zw (Ii<|cE (zD<|zo Hf zd<|bW gq<|zb zd zj) (zS<|zo fj zd zd)<|cE (zD<|zo Aa (bW gq<|zb zd zj) zk) (zS<|zo lF zd<|zo mr (zo pT (zo fj zd<|zo pT zd<|bW gq<|zb zd zj) zk) zk) dz)
 (zw (zS<|zo lF (zo pT (zo lF (zo mr (zo pT zd zk) zk)<|zo mr zk zd) zk) zk)
 (zM<|gg<|zb (zo mr zd<|bW Pw<|zb (zo Hd zd<|zo zAB zk zk) zj)<|zb zd zj)))),
 (aC (zU<|zY lI (zY mz zm aa) zm)
 (aC (HQ<|cG (zQ Hr aa<|bN fU Â<|ae aa zf) (zB<|zU<|zR fu aa aa)<|zB<|cG (zQ yW (bN fU Â<|ae aa zf) zm) (zB<|zU<|zY lI aa<|zY mz (zY pW (zR fu aa<|zY pW aa<|bN fU Â<|ae aa zf) zm) zm) dA)
 (aC (zU<|zY lI (zY pW (zY lI (zY mz (zY pW aa zm) zm)<|zY mz zm aa) zm) zm)
 (zB<|zG<|fF<|ae (zY mz aa<|l6 RF a0w<|ae (nj Ho aa<|zY X7 zm zm) zf)<|ae aa zf))))⟩
def SJ:MS:=(zC (bV (mB<|ao wA (ao du (zi 0)<|mC<|.int 0)<|mC<|.int 0) (zC (aV 2<|ao lZ (ao du (zi 0)<|mC<|.int 0)<|zi 1)
  (zC (pZ 0 (ao Ab (ao du (zi 0)<|mC<|.int 0)<|zi 1)<|mC<|.int 0)
  (aS<|zi 2))) cF)
  (zC (aV 3<|ao lZ (ao jq (ao du (zi 0)<|mC<|.int 1)<|mC<|.int 69623)<|mC<|.int 2147483647)
  (zC (pZ 0 (ao jN (ao lZ (ao jN (ao jq (zi 3)<|mC<|.int 48271)<|mC<|.int 30103)<|mC<|.int 2147483629)<|mC<|.int 1)<|mC<|.int 1)
  (aS<|ao lZ (ao Ab (ao jN (ao jq (zi 3)<|mC<|.int 2147483647)<|ao du (zi 0)<|mC<|.int 1)<|mC<|.int 8191)<|zi 1))))
def AN:FD:=bA 4 [0,1] SJ
abbrev JH(Z:Zs):Prop:=Z.C "_law_take" 1 ["_law_box_here", "_law_wide"] 2 AN
theorem zk9(B:Bs Z)(A:bU Z "_law_take" SM):JH Z :=
 have hB:=B.1;cc A ["_law_box_here", "_law_wide", "_law_digit", "_law_one"] λnd hr=>⟨_,(zw (cE (zD<|zo Aa (zo fj zd zk) zk) (zw (zS<|zo pT (zo fj zd zk) zd)
 (zw (xO (zo Py (zo fj zd zk) zd) zk)
 (zM zd))) dz)
 (zw (zS<|zo pT (zo mr (zo fj zd zk) zk) zk)
 (zw (xO (zo lF (zo pT (zo lF (zo mr zd zk) zk) zk) zk) zk)
 (zM<|zo pT (zo Py (zo lF (zo mr zd zk)<|zo fj zd zk) zk) zd)))),
 (aC (cG (zQ yW (zR fu aa zm) zm) (aC (zU<|zY pW (zR fu aa zm) aa)
 (aC (nZ (zY Rf (zR fu aa zm) aa)<|xI aa zm vA)
 (zB<|zG aa))) dA)
 (aC (zU<|zY pW (zY mz (zR fu aa zm) zm) zm)
 (aC (nZ (zY lI (zY pW (zY lI (zY mz aa zm) zm) zm) zm)<|xI aa zm vA)
 (zB<|zG<|zY pW (zY Rf (zY lI (zY mz aa zm)<|zR fu aa zm) zm) aa))))⟩
def Ua:MS:=(zC (aV 2<|bK (f1 xa)<|ze (zi 0) zp)
  (zC (aV 3<|bK (f1 xa)<|ze (zi 1) zp)
  (zC (ve (mB<|ao (cp ż) (zi 3)<|mC<|.int 0)<|yP 2 3<|ze (zi 3)<|ze (ao lZ (zi 2)<|zi 3) zp)
  (zC (bV (mB<|ao Ck (zi 1)<|mC<|.int 0) (aV 2<|ao pL (mC<|.int 0)<|zi 2) cF)
  (aS<|bM<|ze (ao DI (zi 0)<|zi 2)<|ze (ao DI (zi 1)<|zi 2) zp)))))
def AR:FD:=bA 4 [0,1] Ua
abbrev JQ(Z:Zs):Prop:=Z.C "_law_fraction" 1 ["_law_n", "_law_d"] 2 AR
theorem zgY(B:Bs Z)(A:bU Z "_law_fraction" Uc):JQ Z :=
 have hB:=B.1;cc A ["_law_n", "_law_d", "_law_one", "_law_two"] λnd hr=>⟨_,(zw (zS<|bW Il<|zb zd zj)
 (zw (zS<|bW Il<|zb zd zj)
 (zw (P8 (zD<|zo mm zd zk)<|NV<|zb zd<|zb (zo pT zd zd) zj)
 (zw (Ii<|cE (zD<|zo Hf zd zk) (zS<|zo tQ zk zd) dz)
 (zM<|cg<|zb (zo Px zd zd)<|zb (zo Px zd zd) zj))))),
 (aC (zU<|bN Jj a0x<|ae aa zf)
 (aC (zU<|bN Jj a0x<|ae aa zf)
 (aC (PD (zQ mf aa zm)<|zB<|NP<|ae aa<|ae (zY pW aa aa) zf)
 (aC (HQ<|cG (zQ Hr aa zm) (zB<|zU<|zY tK zm aa) dA)
 (zB<|zG<|cm<|ae (zY Rc aa aa)<|ae (zY Rc aa aa) zf)))))⟩
def Uo:MS:=(zC (bV (mB<|ao (cp Ż) (ao aT (zi 1)<|mC<|.int 0)<|mC<|.int 0) (aS tN) cF)
  (aS<|Aj (ao sZ (bM<|ze (mC<|.int 0) zp)<|zi 0)<|zi 1))
def AQ:FD:=bA 2 [0,1] Uo
abbrev Um(Z:Zs):Prop:=Z.C "_law_poly_number" 1 ["_law_many", "_law_f"] 2 AQ
theorem zfh(B:Bs Z)(A:bU Z "_law_poly_number" Ur):Um Z :=
 have hB:=B.1;cc A ["_law_many", "_law_f"] λnd hr=>⟨_,(zw (cE (zD<|zo j4 (zo zA zd zk) zk) (zM Av) dz)
 (zM<|IZ (zo D9 (cg<|zb zk zj) zd) zd)),
 (aC (cG (zQ j3 (zR zO aa zm) zm) (zB<|zG xP) dA)
 (zB<|zG<|I0 hr (zY (Ea _ rfl) (cm<|ae zm zf) aa) aa))⟩
def Ul:MS:=(aS<|Aj (ao rJ (ao rJ (ao sZ (bM<|ze (mC<|.int 0) zp)<|zi 1)<|bM<|ze (mC<|.int 1) zp)<|ao sZ (bM<|ze (mC<|.int 0) zp)<|ao pL (ao pL (zi 0)<|zi 1)<|mC<|.int 1)<|bM<|ze (mC<|.int 1)<|ze (mC<|.int 1) zp)
def AO:FD:=bA 2 [0,1] Ul
abbrev Uk(Z:Zs):Prop:=Z.C "_law_poly_letter" 1 ["_law_many", "_law_k"] 2 AO
theorem zfi(B:Bs Z)(A:bU Z "_law_poly_letter" Uq):Uk Z :=
 have hB:=B.1;cc A ["_law_many", "_law_k"] λnd hr=>⟨_,(zM<|IZ (zo Ew (zo Ew (zo D9 (cg<|zb zk zj) zd)<|cg<|zb zk zj)<|zo D9 (cg<|zb zk zj)<|zo tQ (zo tQ zd zd) zk)<|cg<|zb zk<|zb zk zj),
 (zB<|zG<|I0 hr (zY Ex (zY Ex (zY (Ea _ rfl) (cm<|ae zm zf) aa)<|cm<|ae zm zf)<|zY (Ea _ rfl) (cm<|ae zm zf)<|zY tK (zY tK aa aa) zm)<|cm<|ae zm<|ae zm zf)⟩
def TQ:MS:=(aS<|bK (f1 rK)<|ze (bK (f1 HZ)<|ze (jj (dg rE<|dh<|zi 0) 1 [0] (zx 0) nW<|bM<|ze (zi 0)<|ze (iL (zi 1)<|zi 0) zp) zp) zp)
def E9:FD:=bA 1 [0] TQ
abbrev TN(Z:Zs):Prop:=Z.C "_law_poly_told" 1 ["_law_sums"] 1 E9
theorem zgr(B:Bs Z)(A:bU Z "_law_poly_told" TV):TN Z :=
 have hB:=B.1;cc A ["_law_sums"] λnd hr=>⟨_,(zM<|bW vq<|zb (bW zsH<|zb (lX (xN<|eF zd) zt tM<|cg<|zb zd<|zb (lC zd zd) zj) zj) zj),
 (zB<|zG<|l6 t4 Ã<|ae (bN (znH _ rfl hr) PyProof.Rows.boot_sorted<|ae (ni (xU<|eG aa) zr tS<|cm<|ae aa<|ae (lG hr aa aa) zf) zf) zf)⟩
def Uh:MS:=(zC (aV 2<|ao nU (fe<|ze (mC<|.int 0) zp)<|mC<|.int 5)
  (zC (dU (pQ<|ze (mC<|.int 5) zp) (zx 3)<|dU (pQ<|ze (ao pL (mC<|.int 5)<|zi 3) zp) (zx 4)<|pZ 2 (ao jN (ao du (zi 2)<|ao jN (zi 3)<|zi 4)<|ao jq (ao du (zi 0)<|zi 3)<|ao du (zi 1)<|zi 4)<|ao jN (zi 3)<|zi 4)
  (nY [0,1] 2)))
def E5:FD:=bA 5 [0,1] Uh
abbrev Ug(Z:Zs):Prop:=Z.C "_law_list_product" 1 ["_law_one", "_law_other"] 2 E5
theorem zeZ(B:Bs Z)(A:bU Z "_law_list_product" Ui):Ug Z :=
 have hB:=B.1;cc A ["_law_one", "_law_other", "_law_found", "_law_k", "_law_j"] λnd hr=>⟨_,(zw (zS<|zo D7 (gg<|zb zk zj) zk)
 (zw (fm (vn<|zb zk zj) zt<|fm (vn<|zb (zo tQ zk zd) zj) zt<|xO (zo lF (zo fj zd<|zo lF zd zd)<|zo mr (zo fj zd zd)<|zo fj zd zd)<|zo lF zd zd)
 xE)),
 (aC (zU<|zY DY (fF<|ae zm zf) zm)
 (aC (ft (vz<|ae zm zf) zr<|zB<|ft (vz<|ae (zY tK zm aa) zf) zr<|zB<|nZ (zY lI (zR fu aa<|zY lI aa aa)<|zY mz (zR fu aa aa)<|zR fu aa aa)<|xI aa (zY lI aa aa) vA)
 (zB<|zG aa)))⟩
def Sk:MS:=(aS<|jj (pQ<|ze (mC<|.int 5) zp) 1 [1,0] (zx 0) nW<|bK (f1 KE)<|ze (jj (GU 2 1) 2 [0] (eI 2<|zI (zx 0)<|zI (zx 1) fq) nW<|ao jq (zi 0)<|ao du (zi 1)<|zi 2) zp)
def xX:FD:=bA 2 [0,1] Sk
abbrev Sj(Z:Zs):Prop:=Z.C "_law_mix" 1 ["_law_signs_here", "_law_things"] 2 xX
theorem zmJ(B:Bs Z)(A:bU Z "_law_mix" Sv):Sj Z :=
 have hB:=B.1;cc A ["_law_signs_here", "_law_things"] λnd hr=>⟨_,(zM<|lX (vn<|zb zk zj) zt tM<|bW zAG<|zb (NU YU (gh<|zy zt<|zy zt gk) tM<|zo mr zd<|zo fj zd zd) zj),
 (zB<|zG<|ni (vz<|ae zm zf) zr tS<|bN (zC2 _ rfl rfl) PyProof.Rows.boot_sum<|ae (ni (Iq<|ae aa<|ae aa zf) (gr<|bI zr<|bI zr gu) tS<|zY mz aa<|zR fu aa aa) zf)⟩
def zev:MS:=(aS<|bK (f1 rK)<|ze (jj (HK<|ze (dh<|zi 0) zp) 2 [] (eI 2<|zI (zx 0)<|zI (zx 1) fq) (mB<|ao (cp ż) (zi 1)<|mC<|.int 0)<|bM<|ze (bM<|ze (zi 0) zp)<|ze (bM<|ze (zi 1)<|ze (mC<|.int 1) zp) zp) zp)
def EV:FD:=bA 1 [0] zev
abbrev Tb(Z:Zs):Prop:=Z.C "_law_poly_of" 1 ["_law_numbers"] 1 EV
theorem zhK(B:Bs Z)(A:bU Z "_law_poly_of" Ti):Tb Z :=
 have hB:=B.1;cc A ["_law_numbers"] λnd hr=>⟨_,(zM<|bW vq<|zb (lX (zt0<|zb (eF zd) zj) (gh<|zy zt<|zy zt gk) (zD<|zo mm zd zk)<|cg<|zb (cg<|zb zd zj)<|zb (cg<|zb zd<|zb zk zj) zj) zj),
 (zB<|zG<|l6 t4 Ã<|ae (ni (Az<|ae (eG aa) zf) (gr<|bI zr<|bI zr gu) (xH<|zQ mf aa zm)<|cm<|ae (cm<|ae aa zf)<|ae (cm<|ae aa<|ae zm zf) zf) zf)⟩
def T9:MS:=(zC (bV (mB<|Ka ż (zi 1) "NewRows" 0 "places") (GO "NewRows" 0 "places" (zi 1)<|ng "NewRows" 0 "add_new" zX<|ze (zi 1) zp) cF)
  (aS<|GP "NewRows" 0 "places"<|zi 1))
def xZ:FD:=bA 2 [0,1] T9
abbrev JP(Z:Zs):Prop:=Z.M "NewRows" "shared" 2 ["self", "row"] 2 xZ
theorem zgZ(B:Bs Z)(A:uM Z.K "NewRows" "shared" "NewRows.shared" Ue)(c0:Fb Z):JP Z :=
 by have(hB,_,_,_,_,_,_,_,_,_,_,aG,_):=B;exact J7 A ["self", "row"] λnd hr=>⟨_,(zw (Ii<|cE (fD<|zuq aG.at zd) (zBP aG.at HH<|sX 2<|zb zd zj) dz)
 (zM<|zBO aG.at HH)),
 (aC (HQ<|cG (zrm hr aa<|u5 aa) (zB<|zBK hr (u5 aa) aa<|tL c0 aa<|ae aa zf) dA)
 (zB<|zG<|zBJ hr (u5 aa) aa))⟩
def JO:MS:=(zC (bV (iY (jo<|mB<|cX (iK "tuple")<|zi 0)<|mB<|ao (cp ż) (bK (f1 eE)<|ze (zi 0) zp)<|mC<|.int 2) (aS<|mC<|.bool Ż) cF)
  (zC (rC (zi 0)<|eI 2<|zI (zx 1)<|zI (zx 2) fq)
  (zC (bV (iY (jo<|mB<|aO xY<|ze (zi 1) zp)<|jo<|mB<|aO xY<|ze (zi 2) zp) (aS<|mC<|.bool Ż) cF)
  (aS<|lB (ao Cn (zi 2)<|mC<|.int 1)<|ao (cp Ż) (aO EZ<|ze (bK (f1 xa)<|ze (zi 1) zp)<|ze (zi 2) zp)<|mC<|.int 1))))
def AK:FD:=bA 3 [0] JO
abbrev SX(Z:Zs):Prop:=Z.C "is_fraction" 2 ["thing"] 1 AK
theorem zju(B:Bs Z)(A:bU Z "is_fraction" S4)(c0:JJ Z)(c1:Tg Z):SX Z :=
 have hB:=B.1;cc A ["thing", "above", "beneath"] λnd hr=>⟨_,(zw (cE (jQ (lE<|fD<|nX (T := "tuple") zd)<|zD<|zo mm (bW gq<|zb zd zj) zk) (zM lh) dz)
 (zw (y8 zd<|gh<|zy zt<|zy zt gk)
 (zw (cE (jQ (lE<|fD<|zK 1<|zb zd zj)<|lE<|fD<|zK 1<|zb zd zj) (zM lh) dz)
 (zM<|og (zo Hd zd zk)<|zo j4 (zK 2<|zb (bW Il<|zb zd zj)<|zb zd zj) zk)))),
 (aC (cG (l7<|jO (lH<|jd<|bN n6 Å<|ae aa<|ae (oh (v:=.ty "tuple") Ã rfl) zf)<|nC<|zQ mf (bN fU Â<|ae aa zf) zm) (zB<|zG lr) dA)
 (aC (nZ aa<|gr<|bI zr<|bI zr gu)
 (aC (cG (l7<|jO (lH<|jd<|zL<|ae aa zf)<|nC<|lH<|jd<|zL<|ae aa zf) (zB<|zG lr) dA)
 (zB<|zG<|n8 (nj Ho aa zm)<|tG<|nj j3 (zL<|ae (bN Jj a0x<|ae aa zf)<|ae aa zf) zm))))⟩
def OY:MS:=(zC (aV 1<|Aj (ao sZ (bM<|ze (mC<|.int 0) zp)<|mC<|.int 5)<|bM zp)
  (zC (dU (dg nP<|dh<|zi 0) (zx 2)<|aV 1<|Kl (dg u9<|dh<|zi 1) 3 [2] (eI 2<|zI (zx 0)<|zI (zx 1) fq) (dg nO<|mC<|.tuple [.int 0,.int 1,.int (-1)]) 2 (aO AL<|ze (zi 0)<|ze (zi 3)<|ze (zi 2) zp)<|ao rJ (zi 1)<|bM<|ze (zi 2) zp)
  (nY [0] 1)))
def vj:FD:=bA 3 [0] OY
abbrev Ep(Z:Zs):Prop:=Z.C "mixes" 2 ["things"] 1 vj
theorem Zu(B:Bs Z)(A:bU Z "mixes" OZ)(c0:JR Z):Ep Z :=
 by obtain⟨hB,_,_,⟨fY,aW⟩,_,_,_,_,_,_,⟨gW,i6,gK⟩,_⟩:=B;exact cc A ["things", "told", "thing"] λnd hr=>⟨_,(zw (zS<|IZ (zo D9 (cg<|zb zk zj) zk)<|cg zj)
 (zw (fm (tY<|eF zd) zt<|zS<|zEi (Eu<|eF zd) (gh<|zy zt<|zy zt gk) (tO<|Ai gK) (zK 3<|zb zd<|zb zd<|zb zd zj)<|zo Ew zd<|cg<|zb zd zj)
 xE)),
 (aC (zU<|I0 hr (zY (Ea _ rfl) (cm<|ae zm zf)<|j5 (v:=.int 5) rfl aW ⟨_,rfl⟩)<|cm zf)
 (aC (ft (tZ<|eG aa) zr<|zB<|zB3 hr (Ec<|eG aa) (gr<|bI zr<|bI zr gu) (tR<|j5 (v:=.ref gW) rfl i6 rfl) zr (zL<|ae aa<|ae aa<|ae aa zf)<|zY Ex aa<|cm<|ae aa zf)
 (zB<|zG aa)))⟩
def SW:MS:=(zC (bV (iY (jo<|mB<|cX (iK "tuple")<|zi 0)<|jo<|mB<|Am Cm Cm (mC<|.int 1) (bK (f1 eE)<|ze (zi 0) zp)<|mC<|.int 3) (aS<|mC<|.bool Ż) cF)
  (aS<|lB (bK (f1 w4)<|ze (jj (dg nO<|zi 0) 1 [] (zx 0) nW<|aO EN<|ze (zi 0) zp) zp)<|ao (cp Ż) (cX Ed<|zi 0)<|bK (f1 eE)<|ze (zi 0) zp))
def ET:FD:=bA 1 [0] SW
abbrev SV(Z:Zs):Prop:=Z.C "are_letters" 2 ["things"] 1 ET
theorem zjv(B:Bs Z)(A:bU Z "are_letters" S2)(c0:Sr Z):SV Z :=
 by obtain⟨hB,_,_,_,⟨dr,bG⟩,_⟩:=B;exact cc A ["things"] λnd hr=>⟨_,(zw (cE (jQ (lE<|fD<|nX (T := "tuple") zd)<|lE<|zD<|O5 He He zk (bW gq<|zb zd zj) zk) (zM lh) dz)
 (zM<|og (bW ON<|zb (lX (tO zd) zt tM<|zK 1<|zb zd zj) zj)<|zo j4 (zs2 zd)<|bW gq<|zb zd zj)),
 (aC (cG (l7<|jO (lH<|jd<|bN n6 Å<|ae aa<|ae (oh (v:=.ty "tuple") Ã rfl) zf)<|nC<|lH<|zs3 Hq Hq zm (bN fU Â<|ae aa zf)<|j5 (v:=.int 3) rfl bG ⟨_,rfl⟩) (zB<|zG lr) dA)
 (zB<|zG<|n8 (bN (NM _ rfl rfl) a2t<|ae (ni (tR aa) zr tS<|zL<|ae aa zf) zf)<|tG<|nj j3 (bN zra Â<|ae (l6 (zq9 _ rfl rfl) rfl<|ae aa zf) zf)<|bN fU Â<|ae aa zf))⟩
def Sa:MS:=(aS<|lB (aO xY<|ze (zi 0) zp)<|Am Cm Ck (mC<|.int 0) (zi 0)<|zi 1)
def vB:FD:=bA 2 [0,1] Sa
abbrev R9(Z:Zs):Prop:=Z.C "is_place" 2 ["thing", "many"] 2 vB
theorem zor(B:Bs Z)(A:bU Z "is_place" R1)(c0:JJ Z):R9 Z :=
 have hB:=B.1;cc A ["thing", "many"] λnd hr=>⟨_,(zM<|og (zK 1<|zb zd zj)<|O5 He Hf zk zd zd),
 (zB<|zG<|n8 (zL<|ae aa zf)<|tG<|ZL Hq Hr zm aa aa)⟩
def SU:MS:=(zC (aV 1<|ao nU (fe<|ze (mC<|.bool Ż) zp)<|bK (f1 eE)<|ze (zi 0) zp)
  (zC (pZ 1 (mC<|.bool ż)<|cX pK<|mC<|.int 1)
  (zC (dU (Hb<|ze (ao pL (bK (f1 eE)<|ze (zi 0) zp)<|mC<|.int 1)<|ze (cX pK<|mC<|.int 1)<|ze (cX pK<|mC<|.int 1) zp) (zx 2)<|bV (mB<|ao du (zi 1)<|zi 2) (dU (dg nO<|aO p8<|ze (ao aT (zi 0)<|zi 2) zp) (zx 3)<|pZ 1 (mC<|.bool ż)<|zi 3) cF)
  (nY [0] 1))))
def ES:FD:=bA 4 [0] SU
abbrev SS(Z:Zs):Prop:=Z.C "needed_rows" 2 ["rows"] 1 ES
theorem zjw(B:Bs Z)(A:bU Z "needed_rows" S1)(c0:JC Z):SS Z :=
 have hB:=B.1;cc A ["rows", "needed", "at", "part"] λnd hr=>⟨_,(zw (zS<|zo D7 (gg<|zb lh zj)<|bW gq<|zb zd zj)
 (zw (xO lh<|uU vf zk)
 (zw (fm (Y7<|zb (zo tQ (bW gq<|zb zd zj) zk)<|zb (uU vf zk)<|zb (uU vf zk) zj) zt<|cE (fD<|zo fj zd zd) (fm (tO<|zK 1<|zb (zo zA zd zd) zj) zt<|xO lh zd) dz)
 xE))),
 (aC (zU<|zY DY (fF<|ae lr zf)<|bN fU Â<|ae aa zf)
 (aC (nZ lr<|xI aa (uR vh zm) vA)
 (aC (ft (zAz<|ae (zY tK (bN fU Â<|ae aa zf) zm)<|ae (uR vh zm)<|ae (uR vh zm) zf) zr<|zB<|cG (jd<|zR fu aa aa) (zB<|ft (tR<|zL<|ae (zR zO aa aa) zf) zr<|zB<|nZ lr<|xI aa aa vA) dA)
 (zB<|zG aa))))⟩
def SI:MS:=(aS<|aO AR<|ze (ao jN (ao uZ (ao aT (zi 0)<|mC<|.int 0)<|ao aT (zi 1)<|mC<|.int 1)<|ao uZ (ao aT (zi 1)<|mC<|.int 0)<|ao aT (zi 0)<|mC<|.int 1)<|ze (ao uZ (ao aT (zi 0)<|mC<|.int 1)<|ao aT (zi 1)<|mC<|.int 1) zp)
def AM:FD:=bA 2 [0,1] SI
abbrev JG(Z:Zs):Prop:=Z.C "_law_plus" 2 ["_law_one", "_law_other"] 2 AM
theorem zla(B:Bs Z)(A:bU Z "_law_plus" SK)(c0:JQ Z):JG Z :=
 have hB:=B.1;cc A ["_law_one", "_law_other"] λnd hr=>⟨_,(zM<|zK 2<|zb (zo lF (zo Ap (zo zA zd zk)<|zo zA zd zk)<|zo Ap (zo zA zd zk)<|zo zA zd zk)<|zb (zo Ap (zo zA zd zk)<|zo zA zd zk) zj),
 (zB<|zG<|zL<|ae (zY lI (zY Aq (zR zO aa zm)<|zR zO aa zm)<|zY Aq (zR zO aa zm)<|zR zO aa zm)<|ae (zY Aq (zR zO aa zm)<|zR zO aa zm) zf)⟩
def SR:MS:=(aS<|aO AR<|ze (ao uZ (ao aT (zi 0)<|mC<|.int 0)<|ao aT (zi 1)<|mC<|.int 0)<|ze (ao uZ (ao aT (zi 0)<|mC<|.int 1)<|ao aT (zi 1)<|mC<|.int 1) zp)
def ER:FD:=bA 2 [0,1] SR
abbrev S9(Z:Zs):Prop:=Z.C "_law_times" 2 ["_law_one", "_law_other"] 2 ER
theorem zjx(B:Bs Z)(A:bU Z "_law_times" S0)(c0:JQ Z):S9 Z :=
 have hB:=B.1;cc A ["_law_one", "_law_other"] λnd hr=>⟨_,(zM<|zK 2<|zb (zo Ap (zo zA zd zk)<|zo zA zd zk)<|zb (zo Ap (zo zA zd zk)<|zo zA zd zk) zj),
 (zB<|zG<|zL<|ae (zY Aq (zR zO aa zm)<|zR zO aa zm)<|ae (zY Aq (zR zO aa zm)<|zR zO aa zm) zf)⟩
def S8:MS:=(aS<|jj (pQ<|ze (zi 1) zp) 1 [0] (zx 0) nW<|ao du (fe<|ze (mC<|.int 0)<|ze (mC<|.int 1)<|ze (mC<|.int 1)<|ze (cX pK<|mC<|.int 1) zp)<|aO AN<|ze (zi 1)<|ze (mC<|.int 4) zp)
def x8:FD:=bA 2 [0,1] S8
abbrev S7(Z:Zs):Prop:=Z.C "_law_signs" 2 ["_law_box_here", "_law_many"] 2 x8
theorem zjy(B:Bs Z)(A:bU Z "_law_signs" SY)(c0:JH Z):S7 Z :=
 have hB:=B.1;cc A ["_law_box_here", "_law_many"] λnd hr=>⟨_,(zM<|lX (vn<|zb zd zj) zt tM<|zo fj (gg<|zb zk<|zb zk<|zb zk<|zb (uU vf zk) zj)<|zK 2<|zb zd<|zb zk zj),
 (zB<|zG<|ni (vz<|ae aa zf) zr tS<|zR fu (fF<|ae zm<|ae zm<|ae zm<|ae (uR vh zm) zf)<|zL<|ae aa<|ae zm zf)⟩
def TM:MS:=(zC (aV 2<|jj (dg nP<|dh<|zi 1) 2 [] (eI 2<|zI (zx 0)<|zI (zx 1) fq) (mB<|zi 0)<|zi 1)
  (zC (aV 3<|jj (dg nP<|dh<|zi 1) 2 [] (eI 2<|zI (zx 0)<|zI (zx 1) fq) (jo<|mB<|zi 0)<|zi 1)
  (zC (aV 4<|vU (w6<|zi 2) (ao du (zi 2)<|mC<|.int 0)<|ng "NewRows" 0 "shared" xZ<|ze (bM<|ze (mC<|.str "number")<|ze (mC<|.tuple [.int 0,.int 1]) zp) zp)
  (zC (dU (dg nP<|dh<|Bf CT (zi 2) (y7<|mC<|.int 1) Au) (zx 5)<|aV 4<|ng "NewRows" 0 "add_new" zX<|ze (bM<|ze (mC<|.str "plus")<|ze (zi 4)<|ze (zi 5) zp) zp)
  (zC (dU (dg nP<|dh<|zi 3) (zx 5)<|aV 4<|ng "NewRows" 0 "add_new" zX<|ze (bM<|ze (mC<|.str "less")<|ze (zi 4)<|ze (zi 5) zp) zp)
  (aS<|zi 4))))))
def E8:FD:=bA 6 [0,1] TM
abbrev TL(Z:Zs):Prop:=Z.M "NewRows" "sum_row" 3 ["self", "signed"] 2 E8
theorem zgt(B:Bs Z)(A:uM Z.K "NewRows" "sum_row" "NewRows.sum_row" TZ)(c0:Fb Z)(c1:JP Z):TL Z :=
 by obtain⟨hB,_,_,_,_,_,⟨eh,gM,eU⟩,_⟩:=B;exact J7 A ["self", "signed", "added", "taken", "told", "row"] λnd hr=>⟨_,(zw (zS<|lX (tY<|eF zd) (gh<|zy zt<|zy zt gk) (fD zd) zd)
 (zw (zS<|lX (tY<|eF zd) (gh<|zy zt<|zy zt gk) (lE<|fD zd) zd)
 (zw (zS<|CV (Ij zd) (zo fj zd zk)<|sX 2<|zb (cg<|zb iy<|zb (Ai eU) zj) zj)
 (zw (fm (tY<|eF<|UH zwA zd (P5 zk) P6) zt<|zS<|sX 2<|zb (cg<|zb iy<|zb zd<|zb zd zj) zj)
 (zw (fm (tY<|eF zd) zt<|zS<|sX 2<|zb (cg<|zb iy<|zb zd<|zb zd zj) zj)
 (zM zd)))))),
 (aC (NO (tZ<|eG aa) (gr<|bI zr<|bI zr gu) (xH<|jd aa) aa)
 (aC (NO (tZ<|eG aa) (gr<|bI zr<|bI zr gu) (xH<|lH<|jd aa) aa)
 (aC (zU<|DJ (Hh aa) (zR fu aa zm)<|tL c1 aa<|ae (cm<|ae iz<|ae (j5 (v:=.ref eh) rfl gM rfl) zf) zf)
 (aC (ft (tZ<|eG<|PF zCX aa (PH zm) PJ) zr<|zB<|zU<|tL c0 aa<|ae (cm<|ae iz<|ae aa<|ae aa zf) zf)
 (aC (ft (tZ<|eG aa) zr<|zB<|zU<|tL c0 aa<|ae (cm<|ae iz<|ae aa<|ae aa zf) zf)
 (zB<|zG aa))))))⟩
def S6:MS:=(zC (aV 1<|cX GR<|aO vj<|ze (zi 0) zp)
  (zC (aV 2 tN)
  (zC (dU (dg nP<|dh<|zi 1) (eI 2<|zI (zx 3)<|zI (zx 4) fq)<|dU (dg nP<|dh<|zi 1) (eI 2<|zI (zx 5)<|zI (zx 6) fq)<|jc<|Dx 2 (aO EW<|ze (zi 3)<|ze (zi 5) zp)<|bM<|ze (zi 4)<|ze (zi 6) zp)
  (nY [0] 2))))
def AJ:FD:=bA 7 [0] S6
abbrev JN(Z:Zs):Prop:=Z.C "products_of" 3 ["things"] 1 AJ
theorem zjz(B:Bs Z)(A:bU Z "products_of" S3)(c0:Tc Z)(c1:Ep Z):JN Z :=
 have hB:=B.1;cc A ["things", "pairs", "told", "one", "signs", "other", "others"] λnd hr=>⟨_,(zw (zS<|zB1<|zK 1<|zb zd zj)
 (zw (zS Av)
 (zw (fm (tY<|eF zd) (gh<|zy zt<|zy zt gk)<|fm (tY<|eF zd) (gh<|zy zt<|zy zt gk)<|mn<|zBY (zK 2<|zb zd<|zb zd zj)<|cg<|zb zd<|zb zd zj)
 xE))),
 (aC (zU<|l6 zrq PyProof.Rows.boot_list<|ae (zEf<|zL<|ae aa zf) zf)
 (aC (zU xP)
 (aC (ft (tZ<|eG aa) (gr<|bI zr<|bI zr gu)<|zB<|ft (tZ<|eG aa) (gr<|bI zr<|bI zr gu)<|zB<|mw<|zBX hr aa (zL<|ae aa<|ae aa zf)<|cm<|ae aa<|ae aa zf)
 (zB<|zG aa))))⟩
def Si:MS:=(zC (bV (mB<|ao (cp Ż) (zi 1)<|mC<|.int 0) (aS<|ng "NewRows" 0 "shared" xZ<|ze (bM<|ze (mC<|.str "number")<|ze (mC<|.tuple [.int 1,.int 1]) zp) zp) cF)
  (aS<|vU (mB<|ao (cp Ż) (zi 1)<|mC<|.int 1) (ng "NewRows" 0 "shared" xZ<|ze (bM<|ze (mC<|.str "letter")<|ze (mC<|.int 0) zp) zp)<|ao du (zi 2)<|ao pL (zi 1)<|mC<|.int 2))
def EL:FD:=bA 3 [0,1,2] Si
abbrev SH(Z:Zs):Prop:=Z.C "thing_row" 3 ["made", "at", "rows"] 3 EL
theorem zmK(B:Bs Z)(A:bU Z "thing_row" Sy)(c0:JP Z):SH Z :=
 by obtain⟨hB,_,_,_,_,_,_,⟨pD,pf,kJ⟩,_⟩:=B;exact cc A ["made", "at", "rows"] λnd hr=>⟨_,(zw (cE (zD<|zo j4 zd zk) (zM<|sX 2<|zb (cg<|zb iy<|zb (Ai kJ) zj) zj) dz)
 (zM<|CV (zD<|zo j4 zd zk) (sX 2<|zb (cg<|zb iy<|zb zk zj) zj)<|zo fj zd<|zo tQ zd zk)),
 (aC (cG (zQ j3 aa zm) (zB<|zG<|tL c0 aa<|ae (cm<|ae iz<|ae (j5 (v:=.ref pD) rfl pf rfl) zf) zf) dA)
 (zB<|zG<|DJ (zQ j3 aa zm) (tL c0 aa<|ae (cm<|ae iz<|ae zm zf) zf)<|zR fu aa<|zY tK aa zm))⟩
def Et:MS:=(zC (bV (iY (jo<|mB<|cX (iK "tuple")<|zi 0)<|mB<|ao (fE Ż) (zi 0)<|bM zp) (aS<|mC<|.bool Ż) cF)
  (zC (aV 3<|ao aT (zi 0)<|mC<|.int 0)
  (zC (bV (mB<|ao (fE Ż) (zi 3)<|mC<|.str "number") (aS<|lB (ao (cp Ż) (bK (f1 eE)<|ze (zi 0) zp)<|mC<|.int 2)<|aO AK<|ze (ao aT (zi 0)<|mC<|.int 1) zp) cF)
  (zC (bV (mB<|ao (fE Ż) (zi 3)<|mC<|.str "letter") (aS<|lB (ao (cp Ż) (bK (f1 eE)<|ze (zi 0) zp)<|mC<|.int 2)<|aO vB<|ze (ao aT (zi 0)<|mC<|.int 1)<|ze (zi 2) zp) cF)
  (aS<|lB (cX (rA ["plus", "less", "times", "over"])<|zi 3)<|lB (ao (cp Ż) (bK (f1 eE)<|ze (zi 0) zp)<|mC<|.int 3)<|lB (aO vB<|ze (ao aT (zi 0)<|mC<|.int 1)<|ze (zi 1) zp)<|aO vB<|ze (ao aT (zi 0)<|mC<|.int 2)<|ze (zi 1) zp)))))
def xS:FD:=bA 4 [0,1,2] Et
abbrev QL(Z:Zs):Prop:=Z.C "is_row" 3 ["row", "at", "many_letters"] 3 xS
theorem zu6(B:Bs Z)(A:bU Z "is_row" QN)(c0:SX Z)(c1:R9 Z):QL Z :=
 by obtain⟨hB,_,⟨aN,aX,aR⟩,_⟩:=B;exact cc A ["row", "at", "many_letters", "word"] λnd hr=>⟨_,(zw (cE (jQ (lE<|fD<|nX (T := "tuple") zd)<|zD<|zo (tP Ż) zd<|cg zj) (zM lh) dz)
 (zw (zS<|zo zA zd zk)
 (zw (cE (zD<|zo (tP Ż) zd iy) (zM<|og (zo j4 (bW gq<|zb zd zj) zk)<|zK 1<|zb (zo zA zd zk) zj) dz)
 (zw (cE (zD<|zo (tP Ż) zd iy) (zM<|og (zo j4 (bW gq<|zb zd zj) zk)<|zK 2<|zb (zo zA zd zk)<|zb zd zj) dz)
 (zM<|og (Hk aR zd)<|og (zo j4 (bW gq<|zb zd zj) zk)<|og (zK 2<|zb (zo zA zd zk)<|zb zd zj)<|zK 2<|zb (zo zA zd zk)<|zb zd zj))))),
 (aC (cG (l7<|jO (lH<|jd<|bN n6 Å<|ae aa<|ae (oh (v:=.ty "tuple") Ã rfl) zf)<|nC<|zQ (xG _ rfl hr) aa<|cm zf) (zB<|zG lr) dA)
 (aC (zU<|zR zO aa zm)
 (aC (cG (zQ (xG _ rfl hr) aa iz) (zB<|zG<|n8 (nj j3 (bN fU Â<|ae aa zf) zm)<|tG<|zL<|ae (zR zO aa zm) zf) dA)
 (aC (cG (zQ (xG _ rfl hr) aa iz) (zB<|zG<|n8 (nj j3 (bN fU Â<|ae aa zf) zm)<|tG<|zL<|ae (zR zO aa zm)<|ae aa zf) dA)
 (zB<|zG<|n8 (nj (Iu _ rfl hr ["plus", "less", "times", "over"] (by decide +kernel)) aa (j5 (v:=.ref aN) rfl aX rfl) rfl)<|n8 (nj j3 (bN fU Â<|ae aa zf) zm)<|n8 (zL<|ae (zR zO aa zm)<|ae aa zf)<|tG<|zL<|ae (zR zO aa zm)<|ae aa zf)))))⟩
def Tz:MS:=(zC (bV (jo<|mB<|aO ET<|ze (zi 0) zp) Fx cF)
  (aS<|mC<|.bool ż))
def E3:FD:=bA 1 [0] Tz
abbrev Tx(Z:Zs):Prop:=Z.C "look_letters" 3 ["letters"] 1 E3
theorem zi7(B:Bs Z)(A:bU Z "look_letters" Tq)(c0:SV Z):Tx Z :=
 have hB:=B.1;cc A ["letters"] λnd hr=>⟨_,(zw (cE (lE<|fD<|zK 1<|zb zd zj) Kj dz)
 (zM lh)),
 (aC (cG (lH<|jd<|zL<|ae aa zf) (zB Kk) dA)
 (zB<|zG lr))⟩
def QK:MS:=(zC (rC (zi 0)<|eI 2<|zI (zx 1)<|zI (zx 2) fq)
  (zC (aV 3<|aO ES<|ze (zi 2) zp)
  (zC (aV 4 Ia)
  (zC (aV 5<|fe zp)
  (zC (dU (uV<|ze (zi 2) zp) (eI 2<|zI (zx 6)<|zI (zx 7) fq)<|bV (mB<|ao du (zi 3)<|zi 6) (zC (pP 4 (zi 6)<|bK (f1 eE)<|ze (zi 5) zp)
  (zC (aV 8<|aO p8<|ze (zi 7) zp)
  (jc<|lW 5<|vU (w6<|zi 8) (bM<|ze (ao aT (zi 7)<|mC<|.int 0)<|ze (iL (zi 4)<|ao aT (zi 8)<|mC<|.int 0)<|ze (iL (zi 4)<|ao aT (zi 8)<|mC<|.int 1) zp)<|zi 7))) cF)
  (aS<|bM<|ze (zi 1)<|ze (bK (f1 rK)<|ze (zi 5) zp) zp))))))
def AF:FD:=bA 9 [0] QK
abbrev QH(Z:Zs):Prop:=Z.C "pruned" 3 ["reckoning"] 1 AF
theorem zu7(B:Bs Z)(A:bU Z "pruned" QM)(c0:JC Z)(c1:SS Z):QH Z :=
 have hB:=B.1;cc A ["reckoning", "letters", "rows", "needed", "places", "kept", "at", "row", "parts"] λnd hr=>⟨_,(zw (y8 zd<|gh<|zy zt<|zy zt gk)
 (zw (zS<|zK 1<|zb zd zj)
 (zw (zS ZC)
 (zw (zS<|gg zj)
 (zw (fm (Eg<|zb zd zj) (gh<|zy zt<|zy zt gk)<|cE (fD<|zo fj zd zd) (zw (Ae zd<|bW gq<|zb zd zj)
 (zw (zS<|zK 1<|zb zd zj)
 (mn<|tE<|CV (Ij zd) (cg<|zb (zo zA zd zk)<|zb (lC zd<|zo zA zd zk)<|zb (lC zd<|zo zA zd zk) zj) zd))) dz)
 (zM<|cg<|zb zd<|zb (bW vq<|zb zd zj) zj)))))),
 (aC (nZ aa<|gr<|bI zr<|bI zr gu)
 (aC (zU<|zL<|ae aa zf)
 (aC (zU ZH)
 (aC (zU<|fF zf)
 (aC (ft (Az<|ae aa zf) (gr<|bI zr<|bI zr gu)<|zB<|cG (jd<|zR fu aa aa) (aC (Af hr aa aa<|bN fU Â<|ae aa zf)
 (aC (zU<|zL<|ae aa zf)
 (zB<|mw<|sW _ rfl Ë É Ê p7 aa<|ae (DJ (Hh aa) (cm<|ae (zR zO aa zm)<|ae (lG hr aa<|zR zO aa zm)<|ae (lG hr aa<|zR zO aa zm) zf) aa) zf))) dA)
 (zB<|zG<|cm<|ae aa<|ae (l6 t4 Ã<|ae aa zf) zf))))))⟩
def T8:MS:=(zC (aV 3<|bK (f1 As)<|ze (zi 0) zp)
  (zC (dU (dg rE<|dh<|zi 1) (zx 4) (zC (aV 5<|bM<|ze (ao jq (zi 2)<|ao aT (iL (zi 1)<|zi 4)<|mC<|.int 0)<|ze (ao aT (iL (zi 1)<|zi 4)<|mC<|.int 1) zp)
  (pP 3 (zi 4)<|aO AM<|ze (xB (zi 3) (zi 4)<|bM<|ze (mC<|.int 0)<|ze (mC<|.int 1) zp)<|ze (zi 5) zp)))
  (zC (aV 6 tN)
  (zC (dU (dg rE<|dh<|zi 3) (zx 4)<|bV (mB<|ao (cp ż) (ao aT (iL (zi 3)<|zi 4)<|mC<|.int 0)<|mC<|.int 0) (pP 6 (zi 4)<|iL (zi 3)<|zi 4) cF)
  (nY [0,1,2] 6)))))
def E2:FD:=bA 7 [0,1,2] T8
abbrev T7(Z:Zs):Prop:=Z.C "_law_poly_add" 3 ["_law_one", "_law_other", "_law_sign"] 3 E2
theorem zg0(B:Bs Z)(A:bU Z "_law_poly_add" Ub)(c0:JG Z):T7 Z :=
 have hB:=B.1;cc A ["_law_one", "_law_other", "_law_sign", "_law_found", "_law_powers", "_law_more", "_law_kept"] λnd hr=>⟨_,(zw (zS<|bW zrc<|zb zd zj)
 (zw (fm (xN<|eF zd) zt (zw (zS<|cg<|zb (zo mr zd<|zo zA (lC zd zd) zk)<|zb (zo zA (lC zd zd) zk) zj)
 (Ae zd<|zK 2<|zb (Pg zd zd<|cg<|zb zk<|zb zk zj)<|zb zd zj)))
 (zw (zS Av)
 (zw (fm (xN<|eF zd) zt<|cE (zD<|zo mm (zo zA (lC zd zd) zk) zk) (Ae zd<|lC zd zd) dz)
 xE)))),
 (aC (zU<|l6 zn9 PyProof.Rows.boot_dict<|ae aa zf)
 (aC (ft (xU<|eG aa) zr (aC (zU<|cm<|ae (zY mz aa<|zR zO (lG hr aa aa) zm)<|ae (zR zO (lG hr aa aa) zm) zf)
 (zB<|Af hr aa aa<|zL<|ae (Pj hr aa aa (cm<|ae zm<|ae zm zf) ⟨rfl,rfl,rfl,rfl⟩)<|ae aa zf)))
 (aC (zU xP)
 (aC (ft (xU<|eG aa) zr<|zB<|cG (zQ mf (zR zO (lG hr aa aa) zm) zm) (zB<|Af hr aa aa<|lG hr aa aa) dA)
 (zB<|zG aa)))))⟩
def TK:MS:=(zC (aV 2 tN)
  (zC (dU (dg rE<|dh<|zi 0) (zx 3)<|dU (dg rE<|dh<|zi 1) (zx 4) (zC (aV 5<|bK (f1 rK)<|ze (jj (Dk<|ze (zi 3)<|ze (zi 4) zp) 2 [] (eI 2<|zI (zx 0)<|zI (zx 1) fq) nW<|ao jN (zi 0)<|zi 1) zp)
  (zC (aV 6<|aO ER<|ze (iL (zi 0)<|zi 3)<|ze (iL (zi 1)<|zi 4) zp)
  (pP 2 (zi 5)<|aO AM<|ze (xB (zi 2) (zi 5)<|bM<|ze (mC<|.int 0)<|ze (mC<|.int 1) zp)<|ze (zi 6) zp))))
  (zC (aV 7 tN)
  (zC (dU (dg rE<|dh<|zi 2) (zx 5)<|bV (mB<|ao (cp ż) (ao aT (iL (zi 2)<|zi 5)<|mC<|.int 0)<|mC<|.int 0) (pP 7 (zi 5)<|iL (zi 2)<|zi 5) cF)
  (nY [0,1] 7)))))
def E7:FD:=bA 8 [0,1] TK
abbrev TJ(Z:Zs):Prop:=Z.C "_law_poly_mult" 3 ["_law_one", "_law_other"] 2 E7
theorem zgv(B:Bs Z)(A:bU Z "_law_poly_mult" TX)(c0:JG Z)(c1:S9 Z):TJ Z :=
 have hB:=B.1;cc A ["_law_one", "_law_other", "_law_found", "_law_left", "_law_right", "_law_powers", "_law_more", "_law_kept"] λnd hr=>⟨_,(zw (zS Av)
 (zw (fm (xN<|eF zd) zt<|fm (xN<|eF zd) zt (zw (zS<|bW vq<|zb (lX (OC<|zb zd<|zb zd zj) (gh<|zy zt<|zy zt gk) tM<|zo lF zd zd) zj)
 (zw (zS<|zK 2<|zb (lC zd zd)<|zb (lC zd zd) zj)
 (Ae zd<|zK 2<|zb (Pg zd zd<|cg<|zb zk<|zb zk zj)<|zb zd zj))))
 (zw (zS Av)
 (zw (fm (xN<|eF zd) zt<|cE (zD<|zo mm (zo zA (lC zd zd) zk) zk) (Ae zd<|lC zd zd) dz)
 xE)))),
 (aC (zU xP)
 (aC (ft (xU<|eG aa) zr<|zB<|ft (xU<|eG aa) zr (aC (zU<|l6 t4 Ã<|ae (ni (Iq<|ae aa<|ae aa zf) (gr<|bI zr<|bI zr gu) tS<|zY lI aa aa) zf)
 (aC (zU<|zL<|ae (lG hr aa aa)<|ae (lG hr aa aa) zf)
 (zB<|Af hr aa aa<|zL<|ae (Pj hr aa aa (cm<|ae zm<|ae zm zf) ⟨rfl,rfl,rfl,rfl⟩)<|ae aa zf))))
 (aC (zU xP)
 (aC (ft (xU<|eG aa) zr<|zB<|cG (zQ mf (zR zO (lG hr aa aa) zm) zm) (zB<|Af hr aa aa<|lG hr aa aa) dA)
 (zB<|zG aa)))))⟩
def TH:MS:=(zC (aV 2<|fe<|ze (dh<|fe<|ze (mC<|.int 1)<|ze (mC<|.int 0)<|ze (mC<|.int 0)<|ze (mC<|.int 0)<|ze (mC<|.int 0) zp)<|ze (dh<|fe<|ze (mC<|.int 0)<|ze (mC<|.int 1)<|ze (mC<|.int 0)<|ze (mC<|.int 0)<|ze (mC<|.int 0) zp) zp)
  (zC (dU (pQ<|ze (zi 1) zp) (zx 3) (zC (aV 4<|aO xX<|ze (aO x8<|ze (zi 0)<|ze (bK (f1 eE)<|ze (zi 2) zp) zp)<|ze (zi 2) zp)
  (jc<|lW 2<|dh<|aO E5<|ze (zi 4)<|ze (aO xX<|ze (aO x8<|ze (zi 0)<|ze (bK (f1 eE)<|ze (zi 2) zp) zp)<|ze (zi 2) zp) zp)))
  (aS<|aO xX<|ze (aO x8<|ze (zi 0)<|ze (bK (f1 eE)<|ze (zi 2) zp) zp)<|ze (zi 2) zp)))
def E6:FD:=bA 5 [0,1] TH
abbrev TF(Z:Zs):Prop:=Z.C "_law_small_one" 3 ["_law_box_here", "_law_many"] 2 E6
theorem zgw(B:Bs Z)(A:bU Z "_law_small_one" TU)(c0:Ug Z)(c1:Sj Z)(c2:S7 Z):TF Z :=
 have hB:=B.1;cc A ["_law_box_here", "_law_many", "_law_things", "_law_k", "_law_one"] λnd hr=>⟨_,(zw (zS<|gg<|zb (eF<|gg<|zb zk<|zb zk<|zb zk<|zb zk<|zb zk zj)<|zb (eF<|gg<|zb zk<|zb zk<|zb zk<|zb zk<|zb zk zj) zj)
 (zw (fm (vn<|zb zd zj) zt (zw (zS<|zK 2<|zb (zK 2<|zb zd<|zb (bW gq<|zb zd zj) zj)<|zb zd zj)
 (mn<|tE<|eF<|zK 2<|zb zd<|zb (zK 2<|zb (zK 2<|zb zd<|zb (bW gq<|zb zd zj) zj)<|zb zd zj) zj)))
 (zM<|zK 2<|zb (zK 2<|zb zd<|zb (bW gq<|zb zd zj) zj)<|zb zd zj))),
 (aC (zU<|fF<|ae (eG<|fF<|ae zm<|ae zm<|ae zm<|ae zm<|ae zm zf)<|ae (eG<|fF<|ae zm<|ae zm<|ae zm<|ae zm<|ae zm zf) zf)
 (aC (ft (vz<|ae aa zf) zr (aC (zU<|zL<|ae (zL<|ae aa<|ae (bN fU Â<|ae aa zf) zf)<|ae aa zf)
 (zB<|mw<|sW _ rfl Ë É Ê p7 aa<|ae (eG<|zL<|ae aa<|ae (zL<|ae (zL<|ae aa<|ae (bN fU Â<|ae aa zf) zf)<|ae aa zf) zf) zf)))
 (zB<|zG<|zL<|ae (zL<|ae aa<|ae (bN fU Â<|ae aa zf) zf)<|ae aa zf)))⟩
def RK:MS:=(aS<|ng "NewRows" 0 "sum_row" E8<|ze (jj (uV<|ze (zi 1) zp) 2 [2,0] (eI 2<|zI (zx 0)<|zI (zx 1) fq) (mB<|ao (cp ż) (zi 1)<|mC<|.int 0)<|bM<|ze (ao wA (zi 1)<|mC<|.int 0)<|ze (aO EL<|ze (zi 3)<|ze (zi 0)<|ze (zi 2) zp) zp) zp)
def xV:FD:=bA 3 [0,1,2] RK
abbrev RJ(Z:Zs):Prop:=Z.C "mix_row" 4 ["made", "signs", "rows"] 3 xV
theorem zrt(B:Bs Z)(A:bU Z "mix_row" RL)(c0:SH Z)(c1:TL Z):RJ Z :=
 have hB:=B.1;cc A ["made", "signs", "rows"] λnd hr=>⟨_,(zM<|sX 2<|zb (lX (Eg<|zb zd zj) (gh<|zy zt<|zy zt gk) (zD<|zo mm zd zk)<|cg<|zb (zo Aa zd zk)<|zb (zK 3<|zb zd<|zb zd<|zb zd zj) zj) zj),
 (zB<|zG<|tL c1 aa<|ae (ni (Az<|ae aa zf) (gr<|bI zr<|bI zr gu) (xH<|zQ mf aa zm)<|cm<|ae (nj yW aa zm)<|ae (zL<|ae aa<|ae aa<|ae aa zf) zf) zf)⟩
def T6:MS:=(zC (rC (zi 0)<|eI 2<|zI (zx 1)<|zI (zx 2) fq)
  (zC (jc<|aO E3<|ze (zi 1) zp)
  (zC (bV (iY (jo<|mB<|cX (iK "tuple")<|zi 2)<|mB<|ao (fE Ż) (zi 2)<|bM zp) Fx cF)
  (zC (dU (uV<|ze (zi 2) zp) (eI 2<|zI (zx 3)<|zI (zx 4) fq)<|bV (jo<|mB<|aO xS<|ze (zi 4)<|ze (zi 3)<|ze (bK (f1 eE)<|ze (zi 1) zp) zp) Fx cF)
  (aS<|mC<|.bool ż)))))
def E1:FD:=bA 5 [0] T6
abbrev T5(Z:Zs):Prop:=Z.C "look_reckoning" 4 ["reckoning"] 1 E1
theorem zg1(B:Bs Z)(A:bU Z "look_reckoning" Ud)(c0:QL Z)(c1:Tx Z):T5 Z :=
 have hB:=B.1;cc A ["reckoning", "letters", "rows", "at", "row"] λnd hr=>⟨_,(zw (y8 zd<|gh<|zy zt<|zy zt gk)
 (zw (mn<|zK 1<|zb zd zj)
 (zw (cE (jQ (lE<|fD<|nX (T := "tuple") zd)<|zD<|zo (tP Ż) zd<|cg zj) Kj dz)
 (zw (fm (Eg<|zb zd zj) (gh<|zy zt<|zy zt gk)<|cE (lE<|fD<|zK 3<|zb zd<|zb zd<|zb (bW gq<|zb zd zj) zj) Kj dz)
 (zM lh))))),
 (aC (nZ aa<|gr<|bI zr<|bI zr gu)
 (aC (mw<|zL<|ae aa zf)
 (aC (cG (l7<|jO (lH<|jd<|bN n6 Å<|ae aa<|ae (oh (v:=.ty "tuple") Ã rfl) zf)<|nC<|zQ (xG _ rfl hr) aa<|cm zf) (zB Kk) dA)
 (aC (ft (Az<|ae aa zf) (gr<|bI zr<|bI zr gu)<|zB<|cG (lH<|jd<|zL<|ae aa<|ae aa<|ae (bN fU Â<|ae aa zf) zf) (zB Kk) dA)
 (zB<|zG lr)))))⟩
def Ut:MS:=(zC (bV (iY (jo<|mB<|cX (iK "tuple")<|zi 0)<|iY (mB<|ao (cp ż) (bK (f1 eE)<|ze (zi 0) zp)<|mC<|.int 2)<|mB<|ao (fE ż) (ao aT (zi 0)<|mC<|.int 0)<|bM<|ze (mC<|.str "x") zp) (aS<|mC .none) cF)
  (zC (aV 2<|fe zp)
  (zC (dU (dg nO<|ao aT (zi 0)<|mC<|.int 1) (zx 3)<|bV (w9 (mB<|ao (cp Ż) (ao aT (zi 3)<|mC<|.int 0)<|mC<|.str "number")<|w9 (mB<|ao (cp Ż) (bK (f1 eE)<|ze (zi 3) zp)<|mC<|.int 2)<|w9 (mB<|cX (iK "tuple")<|ao aT (zi 3)<|mC<|.int 1)<|mB<|ao (cp Ż) (bK (f1 eE)<|ze (ao aT (zi 3)<|mC<|.int 1) zp)<|mC<|.int 2) (jc<|lW 2<|dh<|aO AQ<|ze (mC<|.int 1)<|ze (ao aT (zi 3)<|mC<|.int 1) zp)<|bV (mB<|ao (fE Ż) (zi 3)<|bM<|ze (mC<|.str "letter")<|ze (mC<|.int 0) zp) (jc<|lW 2<|dh<|aO AO<|ze (mC<|.int 1)<|ze (mC<|.int 0) zp)<|bV (iY (mB<|ao (cp ż) (bK (f1 eE)<|ze (zi 3) zp)<|mC<|.int 3)<|mB<|ao (Mw ż) (ao aT (zi 3)<|mC<|.int 0)<|bM<|ze (mC<|.str "plus")<|ze (mC<|.str "less")<|ze (mC<|.str "times") zp) (aS<|mC .none)<|bV (mB<|ao (cp Ż) (ao aT (zi 3)<|mC<|.int 0)<|mC<|.str "times") (jc<|lW 2<|dh<|aO E7<|ze (ao du (zi 2)<|ao aT (zi 3)<|mC<|.int 1)<|ze (ao du (zi 2)<|ao aT (zi 3)<|mC<|.int 2) zp) (zC (aV 4<|ao du (fe<|ze (mC<|.int 1)<|ze (cX pK<|mC<|.int 1) zp)<|bK (f1 y9)<|ze (ao (cp Ż) (ao aT (zi 3)<|mC<|.int 0)<|mC<|.str "less") zp)
  (jc<|lW 2<|dh<|aO E2<|ze (ao du (zi 2)<|ao aT (zi 3)<|mC<|.int 1)<|ze (ao du (zi 2)<|ao aT (zi 3)<|mC<|.int 2)<|ze (zi 4) zp)))
  (zC (bV (mB<|ao (fE ż) (aO E9<|ze (ao du (zi 2)<|cX pK<|mC<|.int 1) zp)<|zi 1) (aS<|mC .none) cF)
  (aS<|bK (f1 eE)<|ze (jj (dg nO<|ao aT (zi 0)<|mC<|.int 1) 1 [] (zx 0) (mB<|ao (cp Ż) (ao aT (zi 0)<|mC<|.int 0)<|mC<|.str "times")<|zi 0) zp)))))
def E4:FD:=bA 5 [0,1] Ut
abbrev Us(Z:Zs):Prop:=Z.C "_law_rows_right" 4 ["_law_reckoning", "_law_wanted"] 2 E4
theorem zfU(B:Bs Z)(A:bU Z "_law_rows_right" Uj)(c0:T7 Z)(c1:TJ Z)(c2:Um Z)(c3:Uk Z)(c4:TN Z):Us Z :=
 have hB:=B.1;cc A ["_law_reckoning", "_law_wanted", "_law_found", "_law_row", "_law_sign"] λnd hr=>⟨_,(zw (cE (jQ (lE<|fD<|nX (T := "tuple") zd)<|jQ (zD<|zo mm (bW gq<|zb zd zj) zk)<|zD<|zo (tP ż) (zo zA zd zk)<|cg<|zb iy zj) (zM rF) dz)
 (zw (zS<|gg zj)
 (zw (fm (tO<|zo zA zd zk) zt<|cE (Ik (zD<|zo j4 (zo zA zd zk) iy)<|Ik (zD<|zo j4 (bW gq<|zb zd zj) zk)<|Ik (fD<|nX (T := "tuple")<|zo zA zd zk)<|zD<|zo j4 (bW gq<|zb (zo zA zd zk) zj) zk) (mn<|tE<|eF<|zK 2<|zb zk<|zb (zo zA zd zk) zj)<|cE (zD<|zo (tP Ż) zd<|cg<|zb iy<|zb zk zj) (mn<|tE<|eF<|zK 2<|zb zk<|zb zk zj)<|cE (jQ (zD<|zo mm (bW gq<|zb zd zj) zk)<|zD<|zo (zDM ż) (zo zA zd zk)<|cg<|zb iy<|zb iy<|zb iy zj) (zM rF)<|cE (zD<|zo j4 (zo zA zd zk) iy) (mn<|tE<|eF<|zK 2<|zb (zo fj zd<|zo zA zd zk)<|zb (zo fj zd<|zo zA zd zk) zj) (zw (zS<|zo fj (gg<|zb zk<|zb (uU vf zk) zj)<|bW Pw<|zb (zo j4 (zo zA zd zk) iy) zj)
 (mn<|tE<|eF<|zK 3<|zb (zo fj zd<|zo zA zd zk)<|zb (zo fj zd<|zo zA zd zk)<|zb zd zj)))
 (zw (cE (zD<|zo (tP ż) (zK 1<|zb (zo fj zd<|uU vf zk) zj) zd) (zM rF) dz)
 (zM<|bW gq<|zb (lX (tO<|zo zA zd zk) zt (zD<|zo j4 (zo zA zd zk) iy) zd) zj))))),
 (aC (cG (l7<|jO (lH<|jd<|bN n6 Å<|ae aa<|ae (oh (v:=.ty "tuple") Ã rfl) zf)<|jO (zQ mf (bN fU Â<|ae aa zf) zm)<|nC<|zQ (OG _ rfl hr) (zR zO aa zm)<|cm<|ae iz zf) (zB<|zG pR) dA)
 (aC (zU<|fF zf)
 (aC (ft (tR<|zR zO aa zm) zr<|zB<|cG (l7<|HR (zQ j3 (zR zO aa zm) iz)<|HR (zQ j3 (bN fU Â<|ae aa zf) zm)<|HR (jd<|bN n6 Å<|ae (zR zO aa zm)<|ae (oh (v:=.ty "tuple") Ã rfl) zf)<|ZK<|zQ j3 (bN fU Â<|ae (zR zO aa zm) zf) zm) (zB<|mw<|sW _ rfl Ë É Ê p7 aa<|ae (eG<|zL<|ae zm<|ae (zR zO aa zm) zf) zf)<|zB<|cG (zQ (xG _ rfl hr) aa<|cm<|ae iz<|ae zm zf) (zB<|mw<|sW _ rfl Ë É Ê p7 aa<|ae (eG<|zL<|ae zm<|ae zm zf) zf)<|zB<|cG (l7<|jO (zQ mf (bN fU Â<|ae aa zf) zm)<|nC<|zQ ZJ (zR zO aa zm) (cm<|ae iz<|ae iz<|ae iz zf) rfl) (zB<|zG pR)<|zB<|cG (zQ j3 (zR zO aa zm) iz) (zB<|mw<|sW _ rfl Ë É Ê p7 aa<|ae (eG<|zL<|ae (zR fu aa<|zR zO aa zm)<|ae (zR fu aa<|zR zO aa zm) zf) zf) (aC (zU<|zR fu (fF<|ae zm<|ae (uR vh zm) zf)<|l6 RF a0w<|ae (nj j3 (zR zO aa zm) iz) zf)
 (zB<|mw<|sW _ rfl Ë É Ê p7 aa<|ae (eG<|zL<|ae (zR fu aa<|zR zO aa zm)<|ae (zR fu aa<|zR zO aa zm)<|ae aa zf) zf)))
 (aC (cG (zQ (OG _ rfl hr) (zL<|ae (zR fu aa<|uR vh zm) zf) aa) (zB<|zG pR) dA)
 (zB<|zG<|bN fU Â<|ae (ni (tR<|zR zO aa zm) zr (xH<|zQ j3 (zR zO aa zm) iz) aa) zf)))))⟩
def TC:MS:=(zC (aV 2<|J8 "NewRows" [("rows",.l []),("paper",.l []),("places",.x []),("mark_places",.x [])])
  (zC (aV 3<|fe zp)
  (zC (dU (dg nP<|dh<|zi 0) (eI 2<|zI (zx 4)<|zI (zx 5) fq) (zC (aV 6<|aO xV<|ze (zi 2)<|ze (zi 4)<|ze (zi 3) zp)
  (jc<|lW 3<|ng "NewRows" 2 "add_new" zX<|ze (bM<|ze (mC<|.str "times")<|ze (zi 6)<|ze (aO xV<|ze (zi 2)<|ze (zi 5)<|ze (zi 3) zp) zp) zp)))
  (zC (jc<|aO xV<|ze (zi 2)<|ze (zi 1)<|ze (zi 3) zp)
  (aS<|bM<|ze (bM<|ze (mC<|.str "x") zp)<|ze (GJ "NewRows" 2 "rows") zp)))))
def vE:FD:=bA 7 [0,1] TC
abbrev JT(Z:Zs):Prop:=Z.C "small_reckoning" 5 ["factors", "signs"] 2 vE
theorem zgx(B:Bs Z)(A:bU Z "small_reckoning" TY)(c0:RJ Z)(c1:Fb Z):JT Z :=
 by have(hB,_,_,_,_,_,_,_,_,_,_,aG,dE):=B;exact cc A ["factors", "signs", "made", "rows", "one", "other", "first"] λnd hr=>⟨_,(zw (zS (zEc (λz=>nomatch z) (by decide)))
 (zw (zS<|gg zj)
 (zw (fm (tY<|eF zd) (gh<|zy zt<|zy zt gk) (zw (zS<|zK 3<|zb zd<|zb zd<|zb zd zj)
 (mn<|tE<|sX 2<|zb (cg<|zb iy<|zb zd<|zb (zK 3<|zb zd<|zb zd<|zb zd zj) zj) zj)))
 (zw (mn<|zK 3<|zb zd<|zb zd<|zb zd zj)
 (zM<|cg<|zb (cg<|zb iy zj)<|zb (zBU aG.at) zj))))),
 (aC (zU<|zEb dE)
 (aC (zU<|fF zf)
 (aC (ft (tZ<|eG aa) (gr<|bI zr<|bI zr gu) (aC (zU<|zL<|ae aa<|ae aa<|ae aa zf)
 (zB<|mw<|sW _ rfl Ë É Ê p7 aa<|ae (tL c1 aa<|ae (cm<|ae iz<|ae aa<|ae (zL<|ae aa<|ae aa<|ae aa zf) zf) zf) zf)))
 (aC (mw<|zL<|ae aa<|ae aa<|ae aa zf)
 (zB<|zG<|cm<|ae (cm<|ae iz zf)<|ae (l6 (Po t4) Ã<|ae (u5 aa) zf) zf)))))⟩
def R8:MS:=(zC (aV 3<|aO AJ<|ze (zi 1) zp)
  (zC (dU (dg u9<|dh<|aO vj<|ze (zi 1) zp) (eI 2<|zI (zx 4)<|zI (zx 5) fq) (zC (aV 6<|aO AL<|ze (zi 0)<|ze (zi 4)<|ze (cX pK<|mC<|.int 1) zp)
  (bV (mB<|w5 Ż (zi 6)<|zi 3) (aS<|aO vE<|ze (fe<|ze (zi 2)<|ze (iL (zi 3)<|zi 6) zp)<|ze (ao rJ (zi 5)<|bM<|ze (mC<|.int 1) zp) zp) cF)))
  (aS<|mC .none)))
def EF:FD:=bA 7 [0,1,2] R8
abbrev R7(Z:Zs):Prop:=Z.C "with_two" 6 ["target", "things", "factors"] 3 EF
theorem zos(B:Bs Z)(A:bU Z "with_two" R4)(c0:JR Z)(c1:Ep Z)(c2:JN Z)(c3:JT Z):R7 Z :=
 have hB:=B.1;cc A ["target", "things", "factors", "seconds", "rest", "signs", "left"] λnd hr=>⟨_,(zw (zS<|zK 1<|zb zd zj)
 (zw (fm (Eu<|eF<|zK 1<|zb zd zj) (gh<|zy zt<|zy zt gk) (zw (zS<|zK 3<|zb zd<|zb zd<|zb (uU vf zk) zj)
 (cE (fD<|Hm zd zd) (zM<|zK 2<|zb (gg<|zb zd<|zb (lC zd zd) zj)<|zb (zo Ew zd<|cg<|zb zk zj) zj) dz)))
 (zM rF))),
 (aC (zU<|zL<|ae aa zf)
 (aC (ft (Ec<|eG<|zL<|ae aa zf) (gr<|bI zr<|bI zr gu) (aC (zU<|zL<|ae aa<|ae aa<|ae (uR vh zm) zf)
 (zB<|cG (Io hr aa aa) (zB<|zG<|zL<|ae (fF<|ae aa<|ae (lG hr aa aa) zf)<|ae (zY Ex aa<|cm<|ae zm zf) zf) dA)))
 (zB<|zG pR)))⟩
def Rr:MS:=(zC (aV 1<|aO EY<|ze (zi 0) zp)
  (zC (bV (mB<|ao (pI Ż) (zi 1)<|mC .none) (aS<|mC .none) cF)
  (zC (aV 2<|fe<|ze (mC<|.tuple [.int 1,.int 0,.int 0,.int 0,.int 0])<|ze (mC<|.tuple [.int 0,.int 1,.int 0,.int 0,.int 0]) zp)
  (zC (aV 3<|aO vj<|ze (zi 2) zp)
  (zC (bV (mB<|w5 Ż (zi 1)<|zi 3) (aS<|bM<|ze (mC<|.int 0)<|ze (aO vE<|ze (fe zp)<|ze (iL (zi 3)<|zi 1) zp) zp) cF)
  (zC (aV 4<|aO AJ<|ze (zi 2) zp)
  (zC (dU (dg u9<|dh<|zi 4) (eI 2<|zI (zx 5)<|zI (zx 6) fq) (zC (aV 3<|aO vj<|ze (ao Dw (zi 2)<|fe<|ze (zi 5) zp) zp)
  (bV (mB<|w5 Ż (zi 1)<|zi 3) (aS<|bM<|ze (mC<|.int 1)<|ze (aO vE<|ze (fe<|ze (zi 6) zp)<|ze (iL (zi 3)<|zi 1) zp) zp) cF)))
  (zC (dU (dg u9<|dh<|zi 4) (eI 2<|zI (zx 5)<|zI (zx 6) fq) (zC (aV 7<|aO EF<|ze (zi 1)<|ze (ao Dw (zi 2)<|fe<|ze (zi 5) zp)<|ze (zi 6) zp)
  (bV (mB<|ao (pI ż) (zi 7)<|mC .none) (aS<|bM<|ze (mC<|.int 2)<|ze (zi 7) zp) cF)))
  (aS<|mC .none)))))))))
def vD:FD:=bA 8 [0] Rr
abbrev Ro(Z:Zs):Prop:=Z.C "cheapest" 7 ["poly"] 1 vD
theorem zot(B:Bs Z)(A:bU Z "cheapest" R3)(c0:Te Z)(c1:Ep Z)(c2:JN Z)(c3:JT Z)(c4:R7 Z):Ro Z :=
 by obtain⟨hB,_,_,_,_,_,_,_,⟨d9,gL,eT⟩,⟨eA,gN,eV⟩,_⟩:=B;exact cc A ["poly", "target", "things", "known", "firsts", "first", "factors", "told"] λnd hr=>⟨_,(zw (zS<|zK 1<|zb zd zj)
 (zw (cE (zD<|zo zAM zd rF) (zM rF) dz)
 (zw (zS<|gg<|zb (Ai eT)<|zb (Ai eV) zj)
 (zw (zS<|zK 1<|zb zd zj)
 (zw (cE (fD<|Hm zd zd) (zM<|cg<|zb zk<|zb (zK 2<|zb (gg zj)<|zb (lC zd zd) zj) zj) dz)
 (zw (zS<|zK 1<|zb zd zj)
 (zw (fm (Eu<|eF zd) (gh<|zy zt<|zy zt gk) (zw (zS<|zK 1<|zb (zo O0 zd<|gg<|zb zd zj) zj)
 (cE (fD<|Hm zd zd) (zM<|cg<|zb zk<|zb (zK 2<|zb (gg<|zb zd zj)<|zb (lC zd zd) zj) zj) dz)))
 (zw (fm (Eu<|eF zd) (gh<|zy zt<|zy zt gk) (zw (zS<|zK 3<|zb zd<|zb (zo O0 zd<|gg<|zb zd zj)<|zb zd zj)
 (cE (zD<|zo zwE zd rF) (zM<|cg<|zb zk<|zb zd zj) dz)))
 (zM rF))))))))),
 (aC (zU<|zL<|ae aa zf)
 (aC (cG (zQ X6 aa pR) (zB<|zG pR) dA)
 (aC (zU<|fF<|ae (j5 (v:=.ref d9) rfl gL rfl)<|ae (j5 (v:=.ref eA) rfl gN rfl) zf)
 (aC (zU<|zL<|ae aa zf)
 (aC (cG (Io hr aa aa) (zB<|zG<|cm<|ae zm<|ae (zL<|ae (fF zf)<|ae (lG hr aa aa) zf) zf) dA)
 (aC (zU<|zL<|ae aa zf)
 (aC (ft (Ec<|eG aa) (gr<|bI zr<|bI zr gu) (aC (zU<|zL<|ae (zY O1 aa<|fF<|ae aa zf) zf)
 (zB<|cG (Io hr aa aa) (zB<|zG<|cm<|ae zm<|ae (zL<|ae (fF<|ae aa zf)<|ae (lG hr aa aa) zf) zf) dA)))
 (aC (ft (Ec<|eG aa) (gr<|bI zr<|bI zr gu) (aC (zU<|zL<|ae aa<|ae (zY O1 aa<|fF<|ae aa zf)<|ae aa zf)
 (zB<|cG (zQ zvY aa pR) (zB<|zG<|cm<|ae zm<|ae aa zf) dA)))
 (zB<|zG pR)))))))))⟩
def Nn:MS:=(zC (aV 1<|fe zp)
  (zC (dU (pQ<|ze (mC<|.int 2) zp) (zx 2) (zC (aV 3<|aO EM<|ze (zi 0)<|ze (zi 2) zp)
  (zC (aV 4<|ao du (ao du (fe<|ze (dh<|fe<|ze (mC<|.int 2)<|ze (mC<|.int 1)<|ze (mC<|.int 2)<|ze (mC<|.int 0) zp)<|ze (dh<|fe<|ze (mC<|.int 1)<|ze (mC<|.int 1)<|ze (mC<|.int 2)<|ze (mC<|.int 0) zp) zp)<|zi 2)<|aO AN<|ze (zi 3)<|ze (mC<|.int 4) zp)
  (zC (aV 5<|aO EV<|ze (aO E6<|ze (zi 3)<|ze (zi 4) zp) zp)
  (zC (aV 6<|aO vD<|ze (zi 5) zp)
  (zC (bV (iY (jo<|mB<|cX (iK "tuple")<|zi 6)<|iY (mB<|ao (cp ż) (bK (f1 eE)<|ze (zi 6) zp)<|mC<|.int 2)<|iY (mB<|cX (iK "bool")<|ao aT (zi 6)<|mC<|.int 0)<|mB<|ao wA (ao aT (zi 6)<|mC<|.int 0)<|zi 4) (aS<|mC<|.bool Ż) cF)
  (zC (bV (iY (mB<|ao Dz (aO E1<|ze (ao aT (zi 6)<|mC<|.int 1) zp)<|mC<|.bool ż)<|jo<|mB<|aO EG<|ze (ao aT (zi 6)<|mC<|.int 1) zp) (aS<|mC<|.bool Ż) cF)
  (zC (bV (iY (mB<|ao (cp ż) (aO E4<|ze (ao aT (zi 6)<|mC<|.int 1)<|ze (zi 5) zp)<|ao aT (zi 6)<|mC<|.int 0)<|mB<|ao (cp ż) (aO AI<|ze (aO AF<|ze (ao aT (zi 6)<|mC<|.int 1) zp) zp)<|ao aT (zi 6)<|mC<|.int 0) (aS<|mC<|.bool Ż) cF)
  (jc<|lW 1<|bM<|ze (zi 5)<|ze (zi 6) zp)))))))))
  (aS<|ao (fE Ż) (aO vD<|ze (ao aT (ao du (zi 1)<|mC<|.int 1)<|mC<|.int 0) zp)<|ao aT (ao du (zi 1)<|mC<|.int 1)<|mC<|.int 1)))
def xq:FD:=bA 7 [0] Nn
theorem zB8{f:Qg}(B:Bs Z)(F:kU Z.K "law" "law" Np f fd)(c0:Ro Z)(c1:T5 Z)(c2:QH Z)(c3:Se Z)(c4:Sb Z)(c5:So Z)(c6:JH Z)(c7:TF Z)(c8:Tb Z)(c9:Us Z):cD Z.P Z.w Z.K Z.mg Z.base jK 8 f fd ["_law_script"] (qH Z.K 1 xq):=
 have hB:=B.1;Vs F ["_law_script", "_law_asked", "_law_k", "_law_box_here", "_law_many", "_law_wanted", "_law_found"] λnd hr=>⟨_,(zw (zS<|gg zj)
 (zw (fm (vn<|zb zk zj) zt (zw (zS<|zK 2<|zb zd<|zb zd zj)
 (zw (zS<|zo fj (zo fj (gg<|zb (eF<|gg<|zb zk<|zb zk<|zb zk<|zb zk zj)<|zb (eF<|gg<|zb zk<|zb zk<|zb zk<|zb zk zj) zj) zd)<|zK 2<|zb zd<|zb zk zj)
 (zw (zS<|zK 1<|zb (zK 2<|zb zd<|zb zd zj) zj)
 (zw (zS<|zK 1<|zb zd zj)
 (zw (cE (jQ (lE<|fD<|nX (T := "tuple") zd)<|jQ (zD<|zo mm (bW gq<|zb zd zj) zk)<|jQ (fD<|nX (T := "bool")<|zo zA zd zk)<|zD<|zo Aa (zo zA zd zk) zd) (zM lh) dz)
 (zw (cE (jQ (zD<|zo Y5 (zK 1<|zb (zo zA zd zk) zj) lh)<|lE<|fD<|zK 1<|zb (zo zA zd zk) zj) (zM lh) dz)
 (zw (cE (jQ (zD<|zo mm (zK 2<|zb (zo zA zd zk)<|zb zd zj)<|zo zA zd zk)<|zD<|zo mm (zK 1<|zb (zK 1<|zb (zo zA zd zk) zj) zj)<|zo zA zd zk) (zM lh) dz)
 (mn<|tE<|cg<|zb zd<|zb zd zj)))))))))
 (zM<|zo (tP Ż) (zK 1<|zb (zo zA (zo fj zd zk) zk) zj)<|zo zA (zo fj zd zk) zk))),
 (aC (zU<|fF zf)
 (aC (ft (vz<|ae zm zf) zr (aC (zU<|zL<|ae aa<|ae aa zf)
 (aC (zU<|zR fu (zR fu (fF<|ae (eG<|fF<|ae zm<|ae zm<|ae zm<|ae zm zf)<|ae (eG<|fF<|ae zm<|ae zm<|ae zm<|ae zm zf) zf) aa)<|zL<|ae aa<|ae zm zf)
 (aC (zU<|zL<|ae (zL<|ae aa<|ae aa zf) zf)
 (aC (zU<|zL<|ae aa zf)
 (aC (cG (l7<|jO (lH<|jd<|bN n6 Å<|ae aa<|ae (oh (v:=.ty "tuple") Ã rfl) zf)<|jO (zQ mf (bN fU Â<|ae aa zf) zm)<|jO (jd<|bN n6 Å<|ae (zR zO aa zm)<|ae (oh (v:=.ty "bool") a2k rfl) zf)<|nC<|zQ yW (zR zO aa zm) aa) (zB<|zG lr) dA)
 (aC (cG (l7<|jO (zQ Y6 (zL<|ae (zR zO aa zm) zf) lr)<|nC<|lH<|jd<|zL<|ae (zR zO aa zm) zf) (zB<|zG lr) dA)
 (aC (cG (l7<|jO (zQ mf (zL<|ae (zR zO aa zm)<|ae aa zf)<|zR zO aa zm)<|nC<|zQ mf (zL<|ae (zL<|ae (zR zO aa zm) zf) zf)<|zR zO aa zm) (zB<|zG lr) dA)
 (zB<|mw<|sW _ rfl Ë É Ê p7 aa<|ae (cm<|ae aa<|ae aa zf) zf)))))))))
 (zB<|zG<|nj (xG _ rfl hr) (zL<|ae (zR zO (zR fu aa zm) zm) zf)<|zR zO (zR fu aa zm) zm)))⟩
end
end Internal.K56
set_option exponentiation.threshold 10000
open PySem Internal
open Lean in
local macro_rules|`(tactic|simp![$ls,*])=>do
 let u<-("↓zt8 ↓zD2 ↓zpW ↓Yv ↓zt9 ↓zpX ↓zmx ↓zj4 ↓zua ↓YT ↓zub ↓zuc ↓zpY ↓zud ↓zpZ ↓zD3 ↓YR ↓zue ↓zuf ↓zug ↓zp0 ↓zmy ↓zp1 ↓Yw ↓YS ~Yx ~zp2 ~zp3 ~YQ ~zuh ~zmz zDW zDX zDY zDZ zD0 zD1 ↓YA ↓Yz zZ ↓zn ↓lA Qi U9 ↓Ya ↓zs6 ↓~X9 P9 ↓zs7 ↓zs8 ↓zs9 ↓zta ↓zpo Rm ↓ztb ↓ztc ↓YO ↓ztd ↓zpp ↓zpq ↓zte ↓ztf ↓ztg ↓zl2 ↓zps ↓zpt ↓zth ↓zl3 ↓zl4 ↓YN ↓YM ↓zpu ↓zpw ↓ztj ↓ztk ↓YK ↓zjX ↓zpx ↓ztl ↓ztm ↓zl5 ↓zpy ↓zl6 ↓zpz ↓zl7 ↓zto ↓zl8 ↓zpA ↓ztp ↓zl9 ↓ztq ↓zpB ↓zmk ↓ztD ↓zmt ↓zmu ↓zpT ↓zt3 ↓zuy ↓zuz ↓XD ↓zuA ↓zqa ↓zuB ↓zqb ↓zqc ↓zqd ↓zqe ↓zuP ↓zqm ↓zqn ↓zqp bd ZA zsI zo8 zlX SN zjT ziB zlY zsJ zDh zDi zsK ~zo9 ~zpa Zz Zy Zx Zw zpc zDl zDm Zv Yu Yt zDo zDp zDq zsN zsO zpd zsP Ys Yr zDw zDx zDy zDz Yq Yp zsS zDA Yo Yn Ym zpe Yl Yk Yj Yi Yh Yg Yf ~zpf zlZ zjV Ye Yd zsT zpg zDB zDC zDD Va zDE zDF zDG zDH zDI zDJ Yb zpi zpj zsU zsV OO YL zpv ~zma ~zmb ~YJ ~YI xf ztr zts Rl zpE YH YG YF YE YD ztt zpK ztK zpP zpQ ztM ztN zmr zj3 YC YB Rj Jt ztU Ri Rn zt2 zuQ zql zuR zqo zuS zuT zuU zuV zuW zuX zuY zuZ zu0 zu1 zu2 zu3 zu4 !List.getElem?_cons_zero !List.getElem?_cons_succ !List.set_cons_zero !List.set_cons_succ !List.cons_append !List.nil_append !List.length_cons !List.length_nil !List.replicate !Option.map_some !decide_eq_true_eq !List.mem_cons !List.not_mem_nil !true_or !or_true !or_false !false_or !if_true !if_false !ite_true !ite_false !true_and !and_true !and_false !false_and !Bool.not_true !Bool.not_false !Bool.false_eq_true !not_true !not_false_iff !Nat.zero_add !Nat.reduceAdd !Nat.reduceLeDiff !Nat.reduceEqDiff !Nat.reduceSub !Nat.reduceLT !List.map_cons !List.map_nil !List.getD_cons_zero !List.getD_cons_succ !List.drop_succ_cons !List.drop_zero !decide_true !decide_false !Bool.true_and !Bool.and_true !Bool.true_or !Bool.or_true !Bool.false_or !Bool.or_false !Bool.false_and !Bool.and_false !reduceCtorEq !List.length_map !List.length_append Yc zph !String.reduceEq ↓!reduceIte !Int.reduceEq !Int.reduceNe !Int.reduceLT !Int.reduceLE !Int.reduceAdd !Int.reduceSub !Int.reduceNeg !Int.reduceToNat !Int.cast_ofNat_Int !implies_true !forall_const !Option.map_none".splitOn " ").toArray.mapM λx=>do
  let n:=(((x.replace "↓" "").replace "~" "").replace "!" "").toName
  let y:=mkIdent (if x.contains '!' then n else `Internal++n)
  if x.startsWith "↓" then `(Parser.Tactic.simpLemma|↓$y:term) else if x.startsWith "~" then `(Parser.Tactic.simpLemma|nr $y) else `(Parser.Tactic.simpLemma|$y:term)
 `(tactic|simp (disch:=first|with_unfolding_all exact Yy rfl|omega | (simp only[List.length_cons,š,Ħ,List.length_append,a0L,a0M,Ţ,Nat.reduceAdd]<;>omega) |fail) only[$ls,*,$u,*])
local macro_rules | `(tactic| simp!)=>`(tactic| simp![a0S])
namespace Internal.K56
open PySem Internal
noncomputable abbrev bx(x y:Int):U:=.l [.int x,.int y]
theorem Oq{x y w:Int}{Q:U×Qa U->Prop}(hw:0 < w)(VM:w<=18446744073709551616)(k:∀r x' y',0<=r->r < w->Q (.d<|.int r,[bx x' y',.d<|.int w])):Wo (AN [bx x y,.d<|.int w]) Q:=by
 simp![AN,SJ];refine tz (λhx=>?_) λhx=>?_
 .simp![hx]
  exact k _ _ _ (æ _ (by omega))<|î _ hw
 .simp![hx]
  exact k _ _ _ (æ _ (by omega))<|î _ hw
theorem Oo{k:Int}(h0:0<=k)(h:k < (ns.length:Int)):∃v:Int,bt (ns.map į) k=ž (.int v):=by
 have hk:k.toNat < ns.length:=by omega
 refine⟨ns[k.toNat],?_⟩;unfold bt dM;rw[a5E h0,a5E (by rw[Ħ];exact h),bd,ĭ,qo hk];rfl
theorem zEj{k:Int}{Q:U×Qa U->Prop}(h0:0<=k)(q:∀x y,Q (bx x y,[.d<|.list<|ns.map .int,.d<|.int k])):Wo (EM [.d<|.list<|ns.map .int,.d<|.int k]) Q:=by
 simp![EM,Sq,Ħ];refine Wo.mono (Q:=λfl=>∃v:Int,fl=.nx [ž<|.d<|.list<|ns.map .int,ž<|.d<|.int k,ž<|.d<|.int v,Ž]) ?_ ?_
 .refine tz (λh1=>?_) (λh1=>?_)
  .have(v,hv):=Oo h0 h1
   simp![hv];exact⟨_,rfl⟩
  .simp![Ħ]
   refine tz (λh2=>?_) λh2=>?_
   .have(v,hv):=Oo (æ k (show(ns.length:Int)≠0 by omega)) (î k h2)
    simp![hv];exact⟨_,rfl⟩
   .simp!
    exact⟨_,rfl⟩
 .rintro _ ⟨v,rfl⟩
  simp!;exact q _ _
noncomputable def pl(s:Int)(a b:Qa Int):Qa Int:=(a.zip b).map λt=>t.1+s * t.2
theorem nB{s:Int}{a b:Qa Int}(h:a.length=b.length):(pl s a b).length=a.length:=by
 unfold pl;rw[Ħ,Ϸ,h,Nat.min_self]
theorem Tw{a b:Qa Int}{s:Int}{Q:U×Qa U->Prop}(h:a.length=b.length)(hl:a.length=5)(hs:-1<=s/\s<=1)(q:Q (.d<|aA<|pl s a b,[.d<|aA a,.d<|aA b,.d<|.int s])):Wo (AL [.d<|aA a,.d<|aA b,.d<|.int s]) Q:=by
 simp![AL,Tp,Jt h];refine xx (e:=λt=>.int<|t.1+s * t.2) (by rw[Ϸ];omega) (λt ht ys=>?_) ?_
 .simp!
 .have hz:((a.zip b).map λt:Int×Int=>į<|t.1+s * t.2).length<=ħ:=by
   rw[Ħ,Ϸ,ş];omega
  simp![hz];have e:Ĵ ((a.zip b).map λt:Int×Int=>į<|t.1+s * t.2)=aA (pl s a b):=by
   unfold aA pl;rw[Ł];rfl
  rw[e];exact q
noncomputable def AX(x:Int)(b:Qa Int)(k:Nat)(l:Qa Int)(j:Nat):Qa Int:=l.set (k+j) (l.getD (k+j) 0+x * b.getD j 0)
def kG(x:Int)(b:Qa Int)(k n:Nat)(l:Qa Int):Qa Int:=(Ń n).foldl (AX x b k) l
def jT(a b:Qa Int)(n:Nat):Qa Int:=(Ń n).foldl (λl k=>kG (a.getD k 0) b k (5 - k) l) (Ĩ 5 0)
def tm(a b:Qa Int):Qa Int:=jT a b 5
theorem GI{x:Int}{b:Qa Int}{k:Nat}:kG x b k (n+1) l=AX x b k (kG x b k n l) n:=by
 unfold kG;rw[a1f,Θ];rfl
theorem GH{a b:Qa Int}:jT a b (n+1)=kG (a.getD n 0) b n (5 - n) (jT a b n):=by
 unfold jT;rw[a1f,Θ];rfl
theorem Zt{x:Int}{b:Qa Int}{k:Nat}:(AX x b k l j).length=l.length:=by
 unfold AX;rw[ŀ]
theorem Eo{x:Int}{b:Qa Int}{k:Nat}:∀n:Nat,(kG x b k n l).length=l.length
 |0=>rfl
 |n+1=>by rw[GI,Zt,Eo n]
theorem xJ{a b:Qa Int}:∀n:Nat,(jT a b n).length=5
 |0=>rfl
 |n+1=>by rw[GH,Eo,xJ n]
theorem yM(h:i < l.length):bt (l.map į) (i:Int)=ž (.int<|l.getD i 0):=by
 unfold bt dM;rw[a5E (by omega),a5E (by rw[Ħ];omega),bd,ĭ,Ŀ,qo h,qC,qo h];rfl
theorem Ki(h:i < l.length):dM l.length (i:Int)=ž i:=by
 unfold dM;rw[a5E (by omega),a5E (by omega),Ŀ]
theorem GG{x:Int}:(l.map į).set i (.int x)=(l.set i x).map į:=by
 rw[List.map_set]
theorem JZ(h:l.length=5):∃a b c d e,l=[a,b,c,d,e]:=pE h
def Sm(a:Qa Int):Prop:=∀x∈a,-1000000<=x/\x<=1000000
theorem g8{a:Qa Int}(h:Sm a):-1000000<=a.getD n 0/\a.getD n 0<=1000000:=by
 rw[qC];cases e:a[n]? with
 |none=>exact⟨by show(-1000000:Int)<=0;omega,by show(0:Int)<=1000000;omega⟩
 |some x=>exact h x<|Ä e
theorem Ll:nU (.l [.int 0]) (.d<|.int 5)=ž (.l<|(Ĩ 5 (0:Int)).map .int):=by
 have hz:ħ=16777216:=ş;have c:-1000000 < (5:Int)/\(5:Int) < 1000000/\[į 0].length * (5:Int).toNat<=ħ:=⟨by omega,by omega,by
  rw[hz];decide⟩
 unfold nU;dsimp only;rw[a5E c];rfl
theorem zhL{a b:Qa Int}{Q:U×Qa U->Prop}(ha:a.length=5)(hb:b.length=5)(sa:Sm a)(q:Q (.d<|aA<|tm a b,[.d<|aA a,.d<|aA b])):Wo (EW [.d<|aA a,.d<|aA b]) Q:=by
 simp![EW,Td,Ll];unfold aA;simp!;refine xM (λi ρ=>i<=5/\∃v3 v4 v5,ρ=[ž<|.d<|aA a,ž<|.d<|aA b,ž<|.l<|(jT a b i).map .int,v3,v4,v5]) ⟨by omega,_,_,_,rfl⟩ ?_ ?_
 .rintro i d ρ hd ⟨hi,v3,v4,v5,rfl⟩
  have(x,hx,rfl):=vC hd;rw[ĭ]at hx;have(y,hy,rfl):=qt.mp hx;have hi5:i < 5:=by rw[<-ha];exact(qm.mp hy).1
  have ey:a.getD i 0=y:=by rw[qC,hy];rfl
  have sC:=g8 (n:=i) sa;rw[ey]at sC;simp!;refine yR (λj ρ=>j<=5 - i/\∃v5,ρ=[ž<|.d<|aA a,ž<|.d<|aA b,ž<|.l<|(kG y b i j<|jT a b i).map .int,ž<|.d<|.int (i:Int),ž<|.d<|.int y,v5]) ⟨by omega,_,rfl⟩ ?_ ?_
  .rintro j ρ hj ⟨_,v5,rfl⟩
   have l1:(kG y b i j<|jT a b i).length=5:=by rw[Eo,xJ]
   have e1:=yM (l:=kG y b i j (jT a b i)) (i:=i+j) (by omega);have e2:=yM (l:=b) (i:=j) (by omega);have e3:=Ki (l:=kG y b i j (jT a b i)) (i:=i+j) (by omega);have c1:(i:Int)+(j:Int)=((i+j:Nat):Int):=by omega
   unfold aA;have h0:(0:Int)<=((i+j:Nat):Int):=by omega
   simp![a3X,c1,h0,e1,e2,e3,GG];refine⟨by omega,?_⟩;rw[GI];exact⟨_,rfl⟩
  .rintro ρ ⟨_,v5,rfl⟩
   simp!;rw[GH,ey,show(5 - (i:Int)).toNat=5 - i by omega];exact⟨by omega,_,_,_,rfl⟩
 .rintro ρ ⟨_,v3,v4,v5,rfl⟩
  rw[vF,Ħ,ha];simp!;exact q
noncomputable def qL(o:Bool)(l:Qa Int):U:=if o=ż then .l (l.map .int)else .d (.list<|l.map .int)
theorem Uy{o:Bool}(h:i < l.length):du (qL o l) (.d<|.int (i:Int))=ž (.d<|.int<|l.getD i 0):=by
 have e:=yM h;cases o
 .show(bt (l.map į) (i:Int)).map _=_
  rw[e];rfl
 .show(bt (l.map į) (i:Int)).map _=_
  rw[e];rfl
theorem Nm{u:U}{x y:α}:(if u.own=ż/\u.own=Ż then x else y)=y:=a5F λz=>by rw[z.1]at z;cases z.2
theorem zjc{a b:Qa Int}{o:Bool}{Q:U×Qa U->Prop}(ha:a.length=5)(hb:b.length=5)(sa:Sm a)(q:Q (.l<|(tm a b).map .int,[qL o a,qL o b])):Wo (E5 [qL o a,qL o b]) Q:=by
 simp![E5,Uh,Ll];refine yR (λi ρ=>∃v3 v4,ρ=[ž<|qL o a,ž<|qL o b,ž<|.l<|(jT a b i).map .int,v3,v4]) ⟨_,_,rfl⟩ ?_ ?_
 .rintro i ρ hi ⟨v3,v4,rfl⟩
  have hi5:i < 5:=hi;have sC:=g8 (n:=i) sa;simp!;refine yR (λj ρ=>∃v4,ρ=[ž<|qL o a,ž<|qL o b,ž<|.l<|(kG (a.getD i 0) b i j<|jT a b i).map .int,ž<|.d<|.int<|0+(i:Int),v4]) ⟨_,rfl⟩ ?_ ?_
  .rintro j ρ hj ⟨v4,rfl⟩
   have l1:(kG (a.getD i 0) b i j<|jT a b i).length=5:=by rw[Eo,xJ]
   have e1:=yM (l:=kG (a.getD i 0) b i j (jT a b i)) (i:=i+j) (by omega);have e2:=Uy (o:=o) (l:=b) (i:=j) (by omega);have e4:=Uy (o:=o) (l:=a) (i:=i) (by omega);have e3:=Ki (l:=kG (a.getD i 0) b i j (jT a b i)) (i:=i+j) (by omega);have c1:(i:Int)+(j:Int)=((i+j:Nat):Int):=by omega
   simp![a3X,c1,e1,e2,e3,e4,GG];rw[GI];exact⟨_,rfl⟩
  .rintro ρ ⟨v4,rfl⟩
   simp!;rw[GH,show(5 - (0+(i:Int))).toNat=5 - i by omega];exact⟨_,_,rfl⟩
 .rintro ρ ⟨v3,v4,rfl⟩
  simp![Nm];exact q
end Internal.K56
open PySem Internal
namespace Internal.K56
open PySem Internal
noncomputable def aZ(mv:ME)(p:Ar×En):Qb (Ar×Ar×En):=(mv p.2).bind λq=>ž (p.1,q)
def vL(j:Nat)(ρ:En)(x y:D)(p:Ar×Ar×En):Prop:=p.1.get p.2.2=ž (.d x)/\p.2.1.get p.2.2=ž (.d y)/\p.2.2.set j Ž=ρ
theorem N9{mv:ME}{p:Ar×En}{Q:Ar×Ar×En->Prop}:Wo (aZ mv p) Q=Wo (mv p.2) (Co (λq=>ž (p.1,q)) ⟨0⟩ Q):=by
 unfold aZ;rw[zn]
theorem N8{c:β->D}{mk mv:ME}{ρ:En}{k:Int->Qa Int}{v:Int->β}{Q:Qa (Qa Key×D)×En->Prop}:∀{ss:Qa Int} {ys:Pq β},ys.length+ss.length<=1000->
  (∀s∈ss,Wo (mk<|ρ.set j<|some<|.d<|.int s)<|Co (aZ mv) ⟨0⟩<|vL j ρ (aA<|k s)<|c<|v s)->
  Q (br c<|(ss.map λs=>(k s,v s)).foldl (λys t=>cn ys t.1 t.2) ys,ρ)->Wo (uh j mk mv (ss.map .int) ρ<|br c ys) Q
 |[],ys,_,_,q=>⟨_,rfl,q⟩
 |s::ss,ys,hl,st,q=>by
  rw[qv]at hl;have(p,e1,z,e0,hh):=st s qq;have(y,e2,e3):=bQ e0;cases e3;have(h1,h2,h3):=hh;dsimp only at h1 h2 h3;have hz:ħ=16777216:=ş;have hk:cW (aA<|k s)=ž (kL<|k s):=rN _;have pl:=xK ys (k s) (v s);rw[Ī];unfold uh;rw[a5E (by rw[D0];omega),e1,bd,e2,bd,h1,bd,h2,bd];show Wo ((cW<|aA<|k s).bind _) Q;rw[hk,bd,h3,HM];exact N8 (by omega) (λs hs=>st s<|qp _ hs) q
theorem OX{c:β->D}{g:α->D}{mg:MG}{mi:MI}{mk mv:ME}{ρ:En}{ss:Qa Int}{k:α->Int->Qa Int}{v:α->Int->β}{ρ1:α->En}{Q:Qa (Qa Key×D)×En->Prop}:∀{as:Qa α} {ys:Pq β},ys.length+as.length * ss.length<=1000->
  (∀a∈as,mg (g a) ρ=ž (ρ1 a)/\mi (ρ1 a)=ž (ss.map .int,ρ1 a)/\reset nt ((ρ1 a).set j Ž)=ρ/\∀s∈ss,Wo (mk<|((ρ1 a).set j Ž).set j<|some<|.d<|.int s)<|Co (aZ mv) ⟨0⟩<|vL j ((ρ1 a).set j Ž) (aA<|k a s)<|c<|v a s)->
  Q (br c<|(as.flatMap λa=>ss.map λs=>(k a s,v a s)).foldl (λys t=>cn ys t.1 t.2) ys,ρ)->Wo (sQ nt j mg mi mk mv (as.map g) ρ<|br c ys) Q
 |[],ys,_,_,q=>⟨_,rfl,q⟩
 |a::as,ys,hl,st,q=>by
  have(e1,e2,e3,e4):=st a qq;rw[qv,a0B,a1v]at hl;rw[Ī];unfold sQ;rw[e1,bd,e2,bd,zn];refine N8 (by omega) e4 ?_;rw[lA];dsimp only;rw[e3];have fl:∀(l:Pq β) (acc:Pq β),(l.foldl (λys t=>cn ys t.1 t.2) acc).length<=acc.length+l.length:=by
   intro l
   induction l with
   |nil=>intro acc;simp
   |cons t l ih=>
    intro acc;have h1:=ih (cn acc t.1 t.2);have h2:=xK acc t.1 t.2;simp only[ν,qv];omega
  have:=fl (ss.map λs=>(k a s,v a s)) ys;rw[Ħ]at this;refine OX (by omega) (λb hb=>st b<|qp _ hb) ?_;rw[List.flatMap_cons,Θ]at q;exact q
noncomputable def fC:Qa Int:=[0,0,0,0,0]
def mx(sg:Qa Int)(ts:Qa (Qa Int)):Qa Int:=(sg.zip ts).foldl (λacc p=>pl p.1 acc p.2) fC
theorem tT{ts:Qa (Qa Int)}{s:Int}{t:Qa Int}(h:sg.length=ts.length):mx (sg++[s]) (ts++[t])=pl s (mx sg ts) t:=by
 unfold mx;rw[List.zip_append h,Θ];rfl
def Sg(n:Nat)(sg:Qa Int):Prop:=sg.length=n/\∀s∈sg,s=0\/s=1\/s=-1
def L5(ts:Qa (Qa Int)):Prop:=∀t∈ts,t.length=5
theorem N7:∀{ps:Qa (Int×Qa Int)} {acc:Qa Int},acc.length=5->(∀p∈ps,p.2.length=5)->(ps.foldl (λacc p=>pl p.1 acc p.2) acc).length=5
 |[],acc,h,_=>h
 |p::ps,acc,h,hp=>by
  have:=hp p qq;exact N7 (ps:=ps) (acc:=pl p.1 acc p.2) (by rw[nB (by omega)];exact h) λq hq=>hp q<|qp _ hq
theorem mT{ts:Qa (Qa Int)}(h:L5 ts):(mx sg ts).length=5:=N7 rfl λp hp=>h _ (ß hp).2
structure MX (ts:Qa (Qa Int)) (p:Pq (Qa Int)):Prop where
 sg:∀e∈p,Sg ts.length e.2/\e.1=mx e.2 ts
 all:∀sg,Sg ts.length sg->∃v,look p (mx sg ts)=ž v
 len:p.length<=3^ts.length
theorem QD{P:Qa Int×β->Prop}:∀{l acc:Pq β},(∀t∈acc,P t)->(∀t∈l,P t)->∀t∈l.foldl (λys t=>cn ys t.1 t.2) acc,P t
 |[],_,h,_=>h
 |u::l,acc,h,hl=>QD (l:=l) (acc:=cn acc u.1 u.2) (λt ht=>by
   rcases IQ ht with⟨z,_⟩|rfl
   .exact h t z
   .exact hl u qq) λt ht=>hl t<|qp _ ht
theorem IB{p:Pq β}{k k':Qa Int}{x:β}(h:k'=k\/∃v,look p k'=ž v):∃v,look (cn p k x) k'=ž v:=by
 have e:(look (cn p k x) k').isSome=ż:=by
  rw[Jo,List.any_eq_true];have hk:k'∈(cn p k x).map (·.1):=by
   rw[Qq];have m:∀{v:β},look p k'=ž v->k'∈p.map (·.1):=λhv=>À.mpr ⟨_,oA hv,rfl⟩;split
   .rename_i hc
    rcases h with rfl|⟨v,hv⟩
    .rw[<-Jo,Option.isSome_iff_exists]at hc
     have(v,hv):=hc;exact m hv
    .exact m hv
   .rcases h with rfl|⟨v,hv⟩
    .simp
    .exact Í _ (m hv)
  have(t,ht,rfl):=À.mp hk;exact⟨t,ht,by simp⟩
 exact Option.isSome_iff_exists.mp e
theorem QC{k':Qa Int}:∀{l acc:Pq β},((∃t∈l,t.1=k')\/∃v,look acc k'=ž v)->∃v,look (l.foldl (λys t=>cn ys t.1 t.2) acc) k'=ž v
 |[],acc,h=>h.elim (λ⟨t,ht,_⟩=>(by cases ht)) id
 |u::l,acc,h=>by
  refine QC (l:=l) (acc:=cn acc u.1 u.2) ?_;rcases h with⟨t,ht,e⟩|h
  .rcases qw.mp ht with rfl|ht
   .exact .inr (IB<|.inl e.symm)
   .exact .inl ⟨t,ht,e⟩
  .exact .inr (IB<|.inr h)
theorem QB:∀(l acc:Pq β),(l.foldl (λys t=>cn ys t.1 t.2) acc).length<=acc.length+l.length
 |[],acc=>by simp
 |t::l,acc=>by
  have h1:=QB l (cn acc t.1 t.2);have h2:=xK acc t.1 t.2;simp only[ν,qv];omega
noncomputable def t8:Qa Int:=[0,1,-1]
theorem MX.step{ts:Qa (Qa Int)}{p:Pq (Qa Int)}(m:MX ts p)(t:Qa Int):MX (ts++[t]) ((p.flatMap λa=>t8.map λs=>(pl s a.1 t,a.2++[s])).foldl (λys t=>cn ys t.1 t.2) []):=by
 have ms:∀s∈t8,s=0\/s=1\/s=-1:=λs hs=>by simpa [t8] using hs
 refine⟨QD (λt ht=>by cases ht) λu hu=>?_,λsg hs=>QC<|.inl ?_,?_⟩
 .have(a,ha,hu):=List.mem_flatMap.mp hu
  have(s,hs,rfl):=À.mp hu;obtain⟨⟨l1,a1⟩,e1⟩:=m.sg a ha;refine⟨⟨by simp[l1],λx hx=>?_⟩,?_⟩
  .rcases Á.mp hx with hx|hx
   .exact a1 x hx
   .rw[qr.mp hx]
    exact ms s hs
  .show pl s a.1 t=mx (a.2++[s]) (ts++[t])
   rw[tT l1,<-e1]
 .have(l1,a1):=hs
  rw[qu,Ŝ]at l1;have uw:sg≠[]:=λz=>by rw[z]at l1;simp at l1
  obtain⟨vK,s,rfl⟩:∃vK s,sg=vK++[s]:=⟨sg.dropLast,sg.getLast uw,(a2E uw).symm⟩;have l2:vK.length=ts.length:=by simpa using l1
  have(v,hv):=m.all vK ⟨l2,λx hx=>a1 x<|Í _ hx⟩;refine⟨(pl s (mx vK ts) t,v++[s]),List.mem_flatMap.mpr ⟨(mx vK ts,v),oA hv,À.mpr ⟨s,?_,rfl⟩⟩,?_⟩
  .have:=a1 s (qx _ qq)
   simp only[t8,qw,ľ,or_false];exact this
  .show pl s (mx vK ts) t=_
   rw[tT l2]
 .refine qA (QB _ _) ?_
  rw[š,Ţ,List.length_flatMap,qu,Ŝ,Nat.pow_succ];have e:(p.map λa=>(t8.map λs=>(pl s a.1 t,a.2++[s])).length)=p.map λ_=>3:=Ì λa _=>by simp[t8]
  have:(p.map λ_=>(3:Nat)).sum=p.length * 3:=by
   rw[List.map_const',List.sum_replicate_nat]
  rw[e,this];exact Ý _ m.len
theorem MX.nil:MX [] [(fC,[])]:=by
 refine⟨λe he=>?_,λsg hs=>?_,qf _⟩
 .cases qr.mp he
  exact⟨⟨rfl,λs hs=>by cases hs⟩,rfl⟩
 .have:sg=[]:=ð hs.1
  subst this;exact⟨[],rfl⟩
def r9(o:Bool)(ts:Qa (Qa Int)):U:=if o=ż then .l (ts.map aA)else .d (.list<|ts.map aA)
theorem ke5:cW (Ĵ [[į 0],[į 0],[į 0],[į 0],[į 0]].flatten)=ž (kL fC):=rN fC
theorem zFh{o:Bool}{ts:Qa (Qa Int)}:(r9 o ts).fz=ž (.list<|ts.map aA):=by cases o<;>rfl
theorem Ux{s:Int}(h:l.length<=100):rJ (.d<|aA l) (.d<|.tuple [.int s])=ž (.d<|aA<|l++[s]):=by
 have hz:ħ=16777216:=ş;cases l with
 |nil=>rfl
 |cons x l=>
  rw[qv]at h;show(if _/\_ then _ else _)=_;rw[a5E ⟨λz=>by simp at z,by simp;omega⟩];unfold aA;rw[ĵ];rfl
theorem Em{o:Bool}{ts:Qa (Qa Int)}{Q:U×Qa U->Prop}(h5:L5 ts)(hn:ts.length<=3)(k:∀p,MX ts p->Q (.t<|br aA p,[.d<|.list<|ts.map aA])):Wo (vj [r9 o ts]) Q:=by
 simp![vj,OY,ke5,zFh];refine j7 (λbs cs ρ=>∃p v2,MX bs p/\ρ=[ž<|.d<|.list<|ts.map aA,ž<|.t<|br aA p,v2]) ⟨_,_,MX.nil,rfl⟩ ?_ ?_
 .rintro bs t cs ρ et ⟨p,v2,m,rfl⟩
  simp!;have hl:bs.length<=2:=by
   have:=congrArg ϥ et;simp at this;omega
  have t5:t.length=5:=h5 t (by rw[et];simp);have b5:L5 bs:=λx hx=>h5 x (by rw[et];exact Í _ hx);unfold iS;refine OX (c:=aA) (ss:=t8) (k:=λa s=>pl s a.1 t) (v:=λa s=>a.2++[s]) (ρ1:=λa=>[ž<|.d<|aA a.1,ž<|.d<|aA a.2,Ž,ž<|.d<|aA t]) (ys:=[]) ?_ (λa ha=>⟨rfl,rfl,rfl,λs hs=>?_⟩) ?_
  .have:=m.len
   have:(3:Nat)^bs.length<=3^2:=È (by omega) hl;show 0+p.length * 3<=1000;omega
  .obtain⟨⟨l1,_⟩,e1⟩:=m.sg a ha
   have a5:a.1.length=5:=by rw[e1];exact mT b5
   have qP:-1<=s/\s<=1:=by
    simp only[t8,qw,ľ,or_false]at hs;omega
   have ec:=Ux (l:=a.2) (s:=s) (by omega);simp![N9];refine Tw (by omega) a5 qP ?_;simp![ec,N9];exact⟨rfl,rfl,rfl⟩
  .simp!
   exact⟨_,_,m.step t,rfl⟩
 .rintro ρ ⟨p,v2,m,rfl⟩
  simp!;exact k p m
end Internal.K56
open PySem Internal
namespace Internal.K56
open PySem Internal
def BL(B:Int)(l:Qa Int):Prop:=∀x∈l,-B<=x/\x<=B
theorem zEm{A B:Int}{s:Int}{a b:Qa Int}(ha:BL A a)(hb:BL B b)(hs:s=0\/s=1\/s=-1)(hB:0<=B):BL (A+B) (pl s a b):=λx hx=>by
 unfold pl at hx;have(t,ht,rfl):=À.mp hx;have h1:=ha _ (ß ht).1;have h2:=hb _ (ß ht).2;rcases hs with rfl|rfl|rfl<;>omega
theorem Nl{B:Int}(hB:0<=B):∀{ps:Qa (Int×Qa Int)} {acc:Qa Int} {A:Int},BL A acc->(∀p∈ps,BL B p.2)->(∀p∈ps,p.1=0\/p.1=1\/p.1=-1)->BL (A+ps.length * B) (ps.foldl (λacc p=>pl p.1 acc p.2) acc)
 |[],acc,A,h,_,_=>λx hx=>by
  have:=h x hx;simp only[š];omega
 |p::ps,acc,A,h,hp,hs=>λx hx=>by
  have:=Nl hB (ps:=ps) (zEm h (hp p qq) (hs p qq) hB) (λq hq=>hp q<|qp _ hq) (λq hq=>hs q<|qp _ hq) x hx;have e:(((p::ps).length:Nat):Int) * B=B+(ps.length:Int) * B:=by
   rw[qv,Int.natCast_add,Int.add_mul];omega
  rw[e];omega
theorem Nk{ts:Qa (Qa Int)}{B:Int}(hB:0<=B)(hs:Sg ts.length sg)(ht:∀t∈ts,BL B t):BL (ts.length * B) (mx sg ts):=λx hx=>by
 have:=Nl hB (ps:=sg.zip ts) (acc:=fC) (A:=0) (λy hy=>by simp[fC]at hy;omega) (λp hp=>ht _ (ß hp).2) (λp hp=>hs.2 _ (ß hp).1) x hx;rw[Ϸ,hs.1,Nat.min_self]at this;omega
def c2(x:Qa Int×Qa Int):D:=.tuple [aA x.1,aA x.2]
def rV(r:Pq β)(k:Qa Int)(x:β):Pq β:=match look r k with
 |some _=>r
 |none=>cn r k x
theorem sdG{c:β->D}{r:Pq β}{k:Qa Int}{x:β}{ρ:En}(h:ρ[i]?=ž (ž<|.t<|br c r)):LK (br c r) (kL k) (c x) i ρ=(.u<|.d<|c<|(look r k).getD x,ρ.set i<|some<|.t<|br c<|rV r k x):=by
 unfold LK rV;rw[Pb];cases e:look r k with
 |some v=>
  show(Ar.u<|.d<|c v,ρ)=(.u<|.d<|c v,ρ.set i<|some<|.t<|br c r);congr 1;have(hl,he):=qm.mp h;rw[<-he,a3V]
 |none=>
  show(Ar.u<|.d<|c x,ρ.set i<|some<|.t<|eC (br c r) (kL k)<|c x)=_;rw[HM];rfl
theorem zEn{p:Pq (Qa Int)}:(br aA p).map (λp=>Ĵ [iG p.1,p.2])=p.map λt=>.tuple [aA t.1,aA t.2]:=by
 unfold br;rw[Ł];refine Ì λt _=>?_;show Ĵ [iG<|kL t.1,aA t.2]=_;rw[HN]
structure PX (ts:Qa (Qa Int)) (r:Pq (Qa Int×Qa Int)):Prop where
 sg:∀e∈r,Sg ts.length e.2.1/\Sg ts.length e.2.2/\e.1=tm (mx e.2.1 ts) (mx e.2.2 ts)
 all:∀a b,Sg ts.length a->Sg ts.length b->∃v,look r (tm (mx a ts)<|mx b ts)=ž v
 len:r.length<=1000
theorem Zr{r:Pq β}{k:Qa Int}{x:β}{t:Qa Int×β}(h:t∈rV r k x):t∈r\/t=(k,x):=by
 unfold rV at h;split at h
 .exact .inl h
 .rcases IQ h with⟨z,_⟩|z
  .exact .inl z
  .exact .inr z
theorem IA{r:Pq β}{k k':Qa Int}{x:β}(h:k'=k\/∃v,look r k'=ž v):∃v,look (rV r k x) k'=ž v:=by
 unfold rV;split
 .rename_i v hv
  rcases h with rfl|h
  .exact⟨v,hv⟩
  .exact h
 .exact IB h
theorem Zq{r:Pq β}{k:Qa Int}{x:β}:(rV r k x).length<=r.length+1:=by
 unfold rV;split
 .omega
 .exact xK r k x
theorem S5{o:Bool}{ts:Qa (Qa Int)}{Q:U×Qa U->Prop}(h5:L5 ts)(hB:∀t∈ts,BL 1000 t)(hn:ts.length<=3)(k:∀r,PX ts r->Q (.t<|br c2 r,[.d<|.list<|ts.map aA])):Wo (AJ [r9 o ts]) Q:=by
 simp![AJ,S6];refine Em h5 hn λp m=>?_;simp!;have pn:p.length<=27:=qA m.len (show 3^ts.length<=3^3 from È (by omega) hn);have p5:∀e∈p,e.1.length=5/\Sm e.1:=λe he=>by
  have(s1,e1):=m.sg e he;rw[e1];refine⟨mT h5,λx hx=>?_⟩;have:=Nk (by omega) s1 hB x hx;omega
 rw[zEn];refine j7 (λbs cs ρ=>∃r v3 v4 v5 v6,(∀e∈r,Sg ts.length e.2.1/\Sg ts.length e.2.2/\e.1=tm (mx e.2.1 ts) (mx e.2.2 ts))/\(∀a∈bs,∀b∈p,∃v,look r (tm a.1 b.1)=ž v)/\r.length<=bs.length * p.length/\ρ=[ž<|.d<|.list<|ts.map aA,ž<|.d<|.list<|p.map λt=>.tuple [aA t.1,aA t.2],ž<|.t<|br c2 r,v3,v4,v5,v6]) ⟨[],_,_,_,_,λe he=>(by cases he),λa ha=>(by cases ha),by simp,rfl⟩ ?_ ?_
 .rintro bs a cs ρ ep ⟨r,v3,v4,v5,v6,r1,r2,r3,rfl⟩
  have ha:a∈p:=by rw[ep];simp
  have lb:bs.length+1<=p.length:=by rw[ep];simp
  simp!;refine j7 (λF6 cs2 ρ=>∃r v5 v6,(∀e∈r,Sg ts.length e.2.1/\Sg ts.length e.2.2/\e.1=tm (mx e.2.1 ts) (mx e.2.2 ts))/\(∀a∈bs,∀b∈p,∃v,look r (tm a.1 b.1)=ž v)/\(∀b∈F6,∃v,look r (tm a.1 b.1)=ž v)/\r.length<=bs.length * p.length+F6.length/\ρ=[ž<|.d<|.list<|ts.map aA,ž<|.d<|.list<|p.map λt=>.tuple [aA t.1,aA t.2],ž<|.t<|br c2 r,ž<|.d<|aA a.1,ž<|.d<|aA a.2,v5,v6]) ⟨r,_,_,r1,r2,λb hb=>(by cases hb),by simpa using r3,rfl⟩ ?_ ?_
  .rintro F6 b cs2 ρ qW ⟨r,v5,v6,r1,r2,r4,r3,rfl⟩
   have hb:b∈p:=by rw[qW];simp
   have lb2:F6.length+1<=p.length:=by rw[qW];simp
   have hr:r.length < 16777216:=by
    have:bs.length * p.length<=27 * 27:=Ö (by omega) pn;omega
   simp!;refine zhL (p5 a ha).1 (p5 b hb).1 (p5 a ha).2 ?_;have hc:Ĵ [aA a.2,aA b.2]=c2 (a.2,b.2):=rfl;simp![hc,D0,hr];rw[sdG (c:=c2) (r:=r) rfl];refine⟨rV r (tm a.1 b.1) (a.2,b.2),_,_,λe he=>?_,λx hx y hy=>IA<|.inr<|r2 x hx y hy,λy hy=>?_,?_,rfl⟩
   .rcases Zr he with he|rfl
    .exact r1 e he
    .have(s1,e1):=m.sg a ha
     have(s2,e2):=m.sg b hb;exact⟨s1,s2,by rw[e1,e2]⟩
   .rcases Á.mp hy with hy|hy
    .exact IA (.inr<|r4 y hy)
    .rw[qr.mp hy]
     exact IA<|.inl rfl
   .have:=Zq (r:=r) (k:=tm a.1 b.1) (x:=(a.2,b.2))
    omega
  .rintro ρ ⟨r,v5,v6,r1,r2,r4,r3,rfl⟩
   simp!;refine⟨r,_,_,_,_,r1,λx hx y hy=>?_,?_,rfl⟩
   .rcases Á.mp hx with hx|hx
    .exact r2 x hx y hy
    .rw[qr.mp hx]
     exact r4 y hy
   .rw[a0B,a1v]
    exact r3
 .rintro ρ ⟨r,v3,v4,v5,v6,r1,r2,r3,rfl⟩
  simp!;refine k r ⟨r1,λa b ha hb=>?_,?_⟩
  .have(va,ea):=m.all a ha
   have(vb,eb):=m.all b hb;have:=r2 (mx a ts,va) (oA ea) (mx b ts,vb) (oA eb);exact this
  .have h2:p.length * p.length<=27 * 27:=Ö pn pn
   exact qA r3<|qA h2 (by decide)
end Internal.K56
open PySem Internal
namespace Internal.K56
open PySem Internal
noncomputable def nD(n:Int):D:=.tuple [.str "number",.tuple [.int n,.int 1]]
noncomputable def lD:D:=.tuple [.str "letter",.int 0]
noncomputable def r3(w:Str)(a b:Nat):D:=.tuple [.str w,.int (a:Int),.int (b:Int)]
noncomputable def CQ:Qa Int:=[1,0,0,0,0]
noncomputable def x5:Qa Int:=[0,1,0,0,0]
def Dg(n:Nat)(v:Qa Int):Prop:=∀i,n < i->v.getD i 0=0
abbrev TP:=Nat->Qa Int->Qa Int->Qa Int->Prop
inductive Rw (tp:TP) (vs:Qa (Qa Int)) (c i:Nat):D->Qa Int->Prop
 |mP:Rw tp vs c i (nD 0) fC
 |mO:Rw tp vs c i (nD 1) CQ
 |eN:Rw tp vs c i lD x5
 |plus {a b:Nat} {va vb:Qa Int} (ha:a < i) (hb:b < i) (ea:vs[a]?=ž va) (eb:vs[b]?=ž vb):Rw tp vs c i (r3 "plus" a b) (pl 1 va vb)
 |less {a b:Nat} {va vb:Qa Int} (ha:a < i) (hb:b < i) (ea:vs[a]?=ž va) (eb:vs[b]?=ž vb):Rw tp vs c i (r3 "less" a b) (pl (-1) va vb)
 |times {a b:Nat} {va vb v:Qa Int} (ha:a < i) (hb:b < i) (ea:vs[a]?=ž va) (eb:vs[b]?=ž vb) (h:tp c va vb v):Rw tp vs c i (r3 "times" a b) v
theorem oF{vs ws:Qa α}{a:Nat}{v:α}(h:vs[a]?=ž v):(vs++ws)[a]?=ž v:=by
 rw[ĳ (qm.mp h).1];exact h
theorem Rw.app{tp:TP}{ws:Qa (Qa Int)}{c:Nat}{r:D}(h:Rw tp vs c i r v):Rw tp (vs++ws) c i r v:=by
 cases h with
 |mP=>exact .mP
 |mO=>exact .mO
 |eN=>exact .eN
 |plus ha hb ea eb=>exact .plus ha hb (oF ea)<|oF eb
 |less ha hb ea eb=>exact .less ha hb (oF ea)<|oF eb
 |times ha hb ea eb h=>exact .times ha hb (oF ea) (oF eb) h
noncomputable def cZ:D->Bool
 |.tuple (.str w::_)=>decide<|w = "times"
 |_=>Ż
def cT(rs:Qa D)(i:Nat):Nat:=((rs.take i).filter cZ).length
theorem N6{rs:Qa D}{r:D}(h:i<=rs.length):cT (rs++[r]) i=cT rs i:=by
 unfold cT;rw[List.take_append_of_le_length h]
def RV(tp:TP)(rs:Qa D)(vs:Qa (Qa Int)):Prop:=rs.length=vs.length/\L5 vs/\∀(i:Nat) (r:D) (v:Qa Int),rs[i]?=ž r->vs[i]?=ž v->Rw tp vs (cT rs i) i r v
theorem RV.snoc{tp:TP}{rs:Qa D}{r:D}(h:RV tp rs vs)(hr:Rw tp vs (rs.filter cZ).length vs.length r v)(h5:v.length=5):RV tp (rs++[r]) (vs++[v]):=by
 have(h1,h2,h3):=h;refine⟨by simp[h1],λt ht=>?_,λi r' v' e1 e2=>?_⟩
 .rcases Á.mp ht with ht|ht
  .exact h2 t ht
  .rw[qr.mp ht]
   exact h5
 .by_cases hi:i < rs.length
  .rw[ĳ hi]at e1
   rw[ĳ (by omega)]at e2;rw[N6 (by omega)];exact(h3 i r' v' e1 e2).app
  .have fK:=(qm.mp e1).1
   rw[qu,Ŝ]at fK;have ei:i=rs.length:=by omega
   subst ei;rw[N6<|qf _];rw[ı<|qf _,a1d]at e1;rw[h1,ı<|qf _,a1d]at e2;cases e1;cases e2;unfold cT;rw[ϑ,h1];exact hr.app
noncomputable def kN(n:Int):Qa K3:=[.inl<|.inr "number",.inr [.inl<|.inl n,.inl<|.inl 1]]
noncomputable def kX:Qa K3:=[.inl<|.inr "letter",.inl<|.inl 0]
inductive Sh:D->Qa K3->Qa Int->Prop
 |z:Sh (nD 0) (kN 0) fC
 |o:Sh (nD 1) (kN 1) CQ
 |x:Sh lD kX x5
theorem Sh.nk{r:D}{k:Qa K3}(h:Sh r k v):Fu r=ž k:=by cases h<;>rfl
theorem Sh.tm{r:D}{k:Qa K3}(h:Sh r k v):cZ r=Ż:=by cases h<;>rfl
theorem Sh.l5{r:D}{k:Qa K3}(h:Sh r k v):v.length=5:=by cases h<;>rfl
theorem Sh.rw{tp:TP}{r:D}{k:Qa K3}{c:Nat}(h:Sh r k v):Rw tp vs c i r v:=by
 cases h
 .exact .mP
 .exact .mO
 .exact .eN
theorem Sh.one{r r':D}{k:Qa K3}{v':Qa Int}(h:Sh r k v)(h':Sh r' k v'):v=v':=by
 have n1:kN 0≠kN 1:=by decide
 have n2:kN 0≠kX:=by decide
 have n3:kN 1≠kX:=by decide
 generalize e:k=k' at h';cases h<;>cases h'<;>first|rfl|exact absurd e n1|exact absurd e n2|exact absurd e n3|exact absurd e.symm n1|exact absurd e.symm n2|exact absurd e.symm n3
def Pls(pl:Qa (Qa K3×D))(vs:Qa (Qa Int)):Prop:=∀e∈pl,∃(i:Nat) (r:D) (v:Qa Int),e.2=.int (i:Int)/\vs[i]?=ž v/\Sh r e.1 v
structure Md (tp:TP) (n:Nat) (vs:Qa (Qa Int)) (c:Nat) (u:U):Prop where
 ex:∃rs ps pl,u=ji rs ps pl []/\rs.length<=n/\ps.length<=n/\pl.length<=n/\RV tp rs vs/\(rs.filter cZ).length=c/\Pls pl vs
theorem Md.up{tp:TP}{c:Nat}{u:U}(h:Md tp n vs c u)(l:n<=m):Md tp m vs c u:=by
 have(rs,ps,pl,e,h1,h2,h3,h4):=h.ex;exact⟨rs,ps,pl,e,by omega,by omega,by omega,h4⟩
theorem tH{rs ps Lk ua:Qa D}{pl ml Fp ml':Qa (Qa K3×D)}{x y:α}:(if(ji rs ps pl ml).own=ż/\(ji Lk ua Fp ml').own=Ż then x else y)=y:=a5F λz=>by cases z.2
theorem Lo{u:U}{row:D}{r:En}:rD (Ar.s 1,ž u::ž (.d row)::r)=Fu row:=rfl
theorem JB{tp:TP}{c:Nat}{u:U}{row:D}{Q:U×Qa U->Prop}(h:Md tp n vs c u)(hn:n<=1000)(hr:Rw tp vs c vs.length row v)(h5:v.length=5)(k:∀u',Md tp (n+1) (vs++[v]) (c+if cZ row=ż then 1 else 0) u'->Q (.d<|.int (vs.length:Int),[u',.d row])):Wo (zX [u,.d row]) Q:=by
 have(rs,ps,pl,rfl,h1,h2,h3,h4,h6,h7):=h.ex;simp![zX,TR,tH];have e:(((rs.length+1:Nat):Int) - 1)=(vs.length:Int):=by
  have:=h4.1;omega
 rw[e];refine k _ ⟨_,_,_,rfl,by simp;omega,by simp;omega,by omega,h4.snoc (by rw[h6];exact hr) h5,?_,λe he=>?_⟩
 .rw[ţ,qu,h6]
  congr 1;rw[Ō];split<;>simp
 .have(i,r,v,e1,e2,e3):=h7 e he
  exact⟨i,r,v,e1,oF e2,e3⟩
theorem zvi{pl:Qa (Qa K3×D)}{x:D}:f9 (eC pl key x) key=ž x:=by
 unfold f9 eC;split
 .rename_i h
  induction pl with
  |nil=>simp at h
  |cons t pl ih=>
   rw[Ī,ķ]
   by_cases c:t.1=key
   .rw[a5E c,a5G c]
    rfl
   .rw[a5F c,a5H c]
    refine ih ?_;rw[ŭ,a5H c,a0E]at h;exact h
 .rename_i h
  rw[List.find?_append];have e:pl.find? (λkv=>decide<|kv.1=key)=Ž:=by
   rw[List.find?_eq_none];intro t ht z;exact h<|á.mpr ⟨t,ht,z⟩
  rw[e];simp
theorem zvj{pl:Qa (Qa K3×D)}{x:D}:(eC pl key x).length<=pl.length+1:=by
 unfold eC;split
 .rw[Ħ];omega
 .simp
theorem zvk{pl:Qa (Qa K3×D)}{x:D}{e:Qa K3×D}(h:e∈eC pl key x):e∈pl\/e=(key,x):=by
 unfold eC at h;split at h
 .have(t,ht,rfl):=À.mp h
  by_cases c:t.1=key
  .rw[a5E c,c]
   exact .inr rfl
  .rw[a5F c]
   exact .inl ht
 .rcases Á.mp h with h|h
  .exact .inl h
  .exact .inr (qr.mp h)
theorem zvl{pl:Qa (Qa K3×D)}{x:D}(h:f9 pl key=ž x):(key,x)∈pl:=by
 unfold f9 at h;have(t,ht,rfl):=qt.mp h;have h1:=a3e ht;have h2:t.1=key:=by simpa using a5y ht
 rw[<-h2];exact h1
theorem Jb{tp:TP}{c:Nat}{u:U}{row:D}{Q:U×Qa U->Prop}(hs:Sh row key v)(h:Md tp n vs c u)(hn:n<=1000)
  (k:∀u' (i:Nat) ws,Md tp (n+2) (vs++ws) c u'->(vs++ws)[i]?=ž v->(ws=[]\/(ws=[v]/\i=vs.length))->Q (.d<|.int (i:Int),[u',.d row])):Wo (xZ [u,.d row]) Q:=by
 have(rs,ps,pl,rfl,h1,h2,h3,h4,h6,h7):=id h.ex;have hk:=hs.nk;simp![xZ,T9,Lo,hk];cases e:f9 pl key with
 |some d=>
  have(i,r,v',e1,e2,e3):=h7 _ (zvl e);cases e3.one hs;dsimp only at e1;subst e1;simp![ϓ,ώ,Ŋ,Lo,hk,e,tH];exact k _ i [] (by rw[ń];exact h.up (by omega)) (by rw[ń];exact e2)<|.inl rfl
 |none=>
  simp![a0c,ϧ];refine JB h hn hs.rw hs.l5 λu' h'=>?_;have(Lk,ua,Fp,rfl,g1,g2,g3,g4,g6,g7):=h'.ex;simp![Lo,hk,zvi,tH];have:=zvj (pl:=Fp) (key:=key) (x:=.int (vs.length:Int));refine k _ vs.length [v] ⟨_,_,_,rfl,by omega,by omega,by omega,g4,?_,λe he=>?_⟩ (by simp)<|.inr ⟨rfl,rfl⟩
  .rw[g6,hs.tm]
   simp
  .rcases zvk he with he|rfl
   .exact g7 e he
   .exact⟨vs.length,row,v,rfl,by simp,hs⟩
def vl(vs:Qa (Qa Int))(i:Nat):Qa Int:=vs.getD i fC
noncomputable def sm(vs:Qa (Qa Int))(is:Qa Nat)(k:Nat):Int:=(is.map λi=>(vl vs i).getD k 0).sum
theorem Du(h:vs[i]?=ž v):vl vs i=v:=by
 unfold vl;rw[qC,h];rfl
theorem gf{s:Int}:∀{a b:Qa Int} {k:Nat},a.length=b.length->(pl s a b).getD k 0=a.getD k 0+s * b.getD k 0
 |[],[],k,_=>by simp[pl]
 |x::a,y::b,0,_=>by simp[pl]
 |x::a,y::b,k+1,h=>by
  have:=gf (s:=s) (a:=a) (b:=b) (k:=k) (by simpa using h);simpa [pl] using this
 |[],y::b,_,h=>by simp at h
 |x::a,[],_,h=>by simp at h
theorem JA{tp:TP}{c:Nat}{u:U}{w:Str}{s:Int}{t:Nat}{r:Qa Int}{a b d:Qb U}{is:Qa Nat}{Q:Fl->Prop}
  (hw:(w = "plus"/\s=1)\/(w = "less"/\s=-1)) (h:Md tp n vs c u) (hn:n+is.length<=1000) (h5:L5 vs) (ht:vs[t]?=ž r) (hi:∀i∈is,i < vs.length)
  (k:∀u' ws (t':Nat) r' v,Md tp (n+is.length) (vs++ws) c u'->(vs++ws)[t']?=ž r'->(∀k,r'.getD k 0=r.getD k 0+s * sm vs is k)->(is=[]/\ws=[]/\t'=t\/is≠[]/\t'+1=(vs++ws).length)->Q (.nx [ž u',a,b,d,ž<|.d<|.int (t':Int),v])) {v:Qb U}:
  Wo (iM (zx 5) (aV 4<|ng "NewRows" 0 "add_new" zX<|ze (bM<|ze (mC<|.str w)<|ze (zi 4)<|ze (zi 5) zp) zp) (is.map λ(i:Nat)=>į (i:Int)) [ž u,a,b,d,ž<|.d<|.int (t:Int),v]) Q:=by
 refine j7 (λbs cs ρ=>∃u' ws t' r' v,Md tp (n+bs.length) (vs++ws) c u'/\(vs++ws)[t']?=ž r'/\(∀k,r'.getD k 0=r.getD k 0+s * sm vs bs k)/\(bs=[]/\ws=[]/\t'=t\/bs≠[]/\t'+1=(vs++ws).length)/\ρ=[ž u',a,b,d,ž<|.d<|.int (t':Int),v]) ⟨u,[],t,r,v,by rw[ń];exact h,by rw[ń];exact ht,λk=>by simp[sm],.inl ⟨rfl,rfl,rfl⟩,rfl⟩ ?_ ?_
 .rintro bs i cs ρ ei ⟨u',ws,t',r',v,hu,yq,um,hl,rfl⟩
  have FN:=hi i (by rw[ei];simp);have hbl:bs.length+1<=is.length:=by rw[ei];simp
  have L1:vs[i]?=ž (vl vs i):=by rw[Du<|qo FN];exact qo FN
  have(rs,ps,Fp,e,g1,g2,g3,g4,g5):=id hu.ex;subst e;have l1:r'.length=5:=g4.2.1 r' (Ä yq);have l2:(vl vs i).length=5:=h5 _ (Ä L1);have tl:=(qm.mp yq).1;have il:i < (vs++ws).length:=by rw[qu];omega
  have hrw:Rw tp (vs++ws) c (vs++ws).length (r3 w t' i) (Internal.K56.pl s r'<|vl vs i):=by
   rcases hw with⟨rfl,rfl⟩|⟨rfl,rfl⟩
   .exact .plus tl il yq (oF L1)
   .exact .less tl il yq (oF L1)
  have hnt:cZ (r3 w t' i)=Ż:=by
   rcases hw with⟨rfl,rfl⟩|⟨rfl,rfl⟩<;>rfl
  have er:Ĵ [.str w,.int (t':Int),.int (i:Int)]=r3 w t' i:=rfl;simp![er];refine JB hu (by omega) hrw (by rw[nB (by omega)];exact l1) λu2 h2=>?_;rw[hnt]at h2;simp!;refine⟨u2,ws++[Internal.K56.pl s r'<|vl vs i],(vs++ws).length,Internal.K56.pl s r'<|vl vs i,⟨ž<|.d<|.int (i:Int),?_,by rw[<-ĸ];simp,λk=>?_,.inr ⟨by simp,by simp;omega⟩,by simp⟩⟩
  .rw[<-ĸ]
   have h3:=h2.up (m:=n+(bs.length+1)) (by omega);simpa using h3
  .rw[gf (by omega),um]
   unfold sm;rw[ĵ,a2B];simp;grind
 .rintro ρ ⟨u',ws,t',r',v,hu,yq,um,hl,rfl⟩
  exact k u' ws t' r' v hu yq um hl
end Internal.K56
open PySem Internal
namespace Internal.K56
open PySem Internal
theorem yT{k:Nat}:fC.getD k 0=0:=by
 match k with
 |0|1|2|3|4=>rfl
 |k+5=>rfl
theorem DR{ws:Qa (Qa Int)}(h:i < vs.length):vl (vs++ws) i=vl vs i:=by
 unfold vl;rw[qC,qC,ĳ h]
theorem GF(h:i < vs.length):vs[i]?=ž (vl vs i):=by
 rw[Du<|qo h];exact qo h
theorem zCb{ws:Qa (Qa Int)}{k:Nat}{is:Qa Nat}(h:∀i∈is,i < vs.length):sm (vs++ws) is k=sm vs is k:=by
 induction is with
 |nil=>rfl
 |cons i is ih=>
  have:=ih λj hj=>h j<|qp _ hj;unfold sm at this ⊢;rw[Ī,Ī,ε,ε,this,DR<|h i qq]
noncomputable def xD(t:Bool×Nat):D:=.tuple [.bool t.1,.int (t.2:Int)]
def sx(vs:Qa (Qa Int))(xs:Qa (Bool×Nat))(k:Nat):Int:=(xs.map λt=>if t.1=ż then(vl vs t.2).getD k 0 else - (vl vs t.2).getD k 0).sum
theorem zEo{k:Nat}{xs:Qa (Bool×Nat)}:sx vs xs k=sm vs ((xs.filter λt=>t.1).map λt=>t.2) k - sm vs ((xs.filter λt=>!t.1).map λt=>t.2) k:=by
 induction xs with
 |nil=>rfl
 |cons t xs ih=>
  have(b,i):=t;unfold sx sm at ih ⊢;cases b
  .simp at ih ⊢
   omega
  .simp at ih ⊢
   omega
theorem zCc{ws:Qa (Qa Int)}{k:Nat}{xs:Qa (Bool×Nat)}(h:∀t∈xs,t.2 < vs.length):sx (vs++ws) xs k=sx vs xs k:=by
 induction xs with
 |nil=>rfl
 |cons t xs ih=>
  have:=ih λj hj=>h j<|qp _ hj;unfold sx at this ⊢;rw[Ī,Ī,ε,ε,this,DR<|h t qq]
theorem Zp{k:Nat}{xs:Qa (Bool×Nat)}{b:Bool}{t:Nat}:sx vs (xs++[(b,t)]) k=sx vs xs k+if b=ż then(vl vs t).getD k 0 else - (vl vs t).getD k 0:=by
 unfold sx;rw[ĵ,a2B];simp
theorem Nj{xs:Qa α}{a b:α}(h:xs++[a]=[b]):xs=[]/\a=b:=by
 rcases xs with _|⟨x,xs⟩
 .simp at h
  exact⟨rfl,h⟩
 .simp at h
theorem zru{tp:TP}{c:Nat}{u:U}{xs:Qa (Bool×Nat)}{Q:U×Qa U->Prop}(h:Md tp n vs c u)(hn:n<=900)(hl:xs.length<=4)(hx:∀t∈xs,t.2 < vs.length)
  (k:∀u' ws (t:Nat) r,Md tp (n+10) (vs++ws) c u'->(vs++ws)[t]?=ž r->(∀k,r.getD k 0=sx vs xs k)->(t+1=(vs++ws).length\/(∃j,xs=[(ż,j)]/\ws=[]/\t=j)\/(xs=[]/\vs≠[]))->Q (.d<|.int (t:Int),[u',.d<|.list<|xs.map xD])):Wo (E8 [u,.l<|xs.map xD]) Q:=by
 have hz:ħ=16777216:=ş;unfold xD at k ⊢;simp![E8,TM];refine Ak (b:=λt=>t.1) (e:=λt=>.int (t.2:Int)) (by omega) (λt ht ys=>?_) ?_
 .have(b,d):=t
  cases b<;>simp!
 .simp!
  refine Ak (b:=λt=>!t.1) (e:=λt=>.int (t.2:Int)) (by omega) (λt ht ys=>?_) ?_
  .have(b,d):=t
   cases b<;>simp!
  .have e1:((xs.filter λt=>t.1).map λt=>į (t.2:Int))=((xs.filter λt=>t.1).map λt=>t.2).map λ(i:Nat)=>į (i:Int):=by simp
   have e2:((xs.filter λt=>!t.1).map λt=>į (t.2:Int))=((xs.filter λt=>!t.1).map λt=>t.2).map λ(i:Nat)=>į (i:Int):=by simp
   rw[e1,e2];have l1:((xs.filter λt=>t.1).map λt=>t.2).length<=4:=by
    rw[Ħ];exact qA (Ñ _ _) hl
   have l2:((xs.filter λt=>!t.1).map λt=>t.2).length<=4:=by
    rw[Ħ];exact qA (Ñ _ _) hl
   have m1:∀i∈(xs.filter λt=>t.1).map λt=>t.2,i < vs.length:=λi hi=>by
    have(t,ht,rfl):=À.mp hi;exact hx t (â.mp ht).1
   have m2:∀i∈(xs.filter λt=>!t.1).map λt=>t.2,i < vs.length:=λi hi=>by
    have(t,ht,rfl):=À.mp hi;exact hx t (â.mp ht).1
   have ev:∀k,sx vs xs k=sm vs ((xs.filter λt=>t.1).map λt=>t.2) k - sm vs ((xs.filter λt=>!t.1).map λt=>t.2) k:=λk=>zEo;have en:((xs.filter λt=>t.1).map λt=>t.2)=[]->((xs.filter λt=>!t.1).map λt=>t.2)=[]->xs=[]:=by
    rcases xs with _|⟨⟨_|_,i⟩,xs⟩<;>simp
   have eo:∀j,((xs.filter λt=>t.1).map λt=>t.2)=[j]->((xs.filter λt=>!t.1).map λt=>t.2)=[]->xs=[(ż,j)]:=by
    rcases xs with _|⟨⟨_|_,i⟩,xs⟩<;>simp;intro e1 e2;rcases xs with _|⟨⟨_|_,i⟩,xs⟩
    .rfl
    .exact absurd qq (e2 i)
    .exact absurd qq (e1 i)
   generalize ((xs.filter λt=>t.1).map λt=>t.2)=as at l1 m1 ev en eo;generalize ((xs.filter λt=>!t.1).map λt=>t.2)=bs at l2 m2 ev en eo;have fin:∀{u':U} {m t:Nat} {ws:Qa (Qa Int)} {r:Qa Int} {ds:Qa D} {v:Qb U},Md tp (n+m) (vs++ws) c u'->m<=6->(vs++ws)[t]?=ž r->(∀k,r.getD k 0=sm vs as k)->(bs=[]->t+1=(vs++ws).length\/(∃j,xs=[(ż,j)]/\ws=[]/\t=j)\/(xs=[]/\vs≠[]))->Wo (iM (zx 5) (aV 4<|ng "NewRows" 0 "add_new" zX<|ze (bM<|ze (mC<|.str "less")<|ze (zi 4)<|ze (zi 5) zp) zp) (bs.map λ(i:Nat)=>į (i:Int)) [ž u',ž<|.d<|.list<|xs.map λt=>.tuple [.bool t.1,.int (t.2:Int)],ž<|.l ds,ž<|.d<|.list<|bs.map λ(i:Nat)=>į (i:Int),ž<|.d<|.int (t:Int),v])
     (Co (nV<|aS<|zi 4) ⟨0⟩<|Co (De [0,1] [u,.l<|xs.map λt=>.tuple [.bool t.1,.int (t.2:Int)]]) ⟨0⟩ Q):=λ{u' m t ws r ds v} hu hm ht hr bB=>by
    have(_,_,_,_,_,_,_,g4,_):=hu.ex;refine JA (.inr ⟨rfl,rfl⟩) hu (by omega) g4.2.1 ht (λi hi=>by rw[qu];have:=m2 i hi;omega) λu2 w2 t2 r2 v h2 gI v8 mV=>?_;have(r0,q0,l0,rfl,_):=id h.ex;have(r1,q1,l1,rfl,_):=id h2.ex;simp![tH];rw[ĸ]at h2 gI;refine k _ _ _ _ (h2.up (by omega)) gI (λk=>?_) ?_
    .rw[v8,hr,ev,zCb m2]
     omega
    .rcases mV with⟨a1,a2,a3⟩|⟨_,a2⟩
     .rw[a2,a3,ń]
      exact bB a1
     .rw[<-ĸ]
      exact .inl a2
   cases as with
   |nil=>
    have ht:(U.l ([]:Qa D)).rR=ž Ż:=rfl;have(r0,q0,l0,eu,g):=id h.ex;subst eu;simp![ht];have es:Ĵ [.str "number",.tuple [.int 0,.int 1]]=nD 0:=rfl;rw[es];refine Jb .z h (by omega) λu' i ws h' hi hd=>?_;have ec:lV ([]:Qa D) (ž 1) Ž=([]:Qa Nat).map λ(i:Nat)=>į (i:Int):=rfl;simp!;rw[ec];have(_,_,_,_,_,_,_,g4,_):=h'.ex;refine JA (.inl ⟨rfl,rfl⟩) h' (by simp;omega) g4.2.1 hi (by simp) λu2 w2 t2 r2 v2 h2 gI v8 mV=>?_;simp!;rw[ĸ]at h2 gI;refine fin (m:=2) (h2.up (by simp)) (by omega) gI (λk=>?_) λhb=>?_
    .rw[v8,yT]
     simp[sm]
    .obtain⟨_,a2,a3⟩:_/\w2=[]/\t2=i:=mV.resolve_right λz=>z.1 rfl
     subst a2 a3;rcases hd with rfl|⟨rfl,rfl⟩
     .refine .inr (.inr ⟨en rfl hb,λz=>?_⟩)
      rw[z]at hi;simp at hi
     .exact .inl (by simp)
   |cons a as=>
    have ht:(U.l<|į (a:Int)::as.map λ(i:Nat)=>į (i:Int)).rR=ž ż:=rfl;have ea:bt (į (a:Int)::as.map λ(i:Nat)=>į (i:Int)) 0=ž (.int (a:Int)):=by
     unfold bt;rw[qv,Va,bd];rfl
    rw[qv]at l1;have(r0,q0,l0,eu,g):=id h.ex;subst eu;simp![ht,ea];have ec:lV (į (a:Int)::as.map λ(i:Nat)=>į (i:Int)) (ž 1) Ž=as.map λ(i:Nat)=>į (i:Int):=(ztu (by simp)).trans rfl;rw[ec];have(_,_,_,_,_,_,_,g4,_):=h.ex;have ha:=m1 a qq;refine JA (.inl ⟨rfl,rfl⟩) h (by omega) g4.2.1 (GF ha) (λi hi=>m1 i<|qp _ hi) λu2 w2 t2 r2 v2 h2 gI v8 mV=>?_;simp!;refine fin (m:=as.length) h2 (by omega) gI (λk=>?_) λhb=>?_
    .rw[v8]
     simp[sm]
    .rcases mV with⟨a1,a2,a3⟩|⟨_,a2⟩
     .exact .inr (.inl ⟨a,eo a (by rw[a1]) hb,a2,a3⟩)
     .exact .inl a2
noncomputable def T2:Qa (Qa Int):=[[1,0,0,0,0],[0,1,0,0,0]]
def jg(vs:Qa (Qa Int))(rows:Qa Nat):Qa (Qa Int):=T2++rows.map (vl vs)
theorem Iz:(jg vs rows).length=2+rows.length:=by
 simp[jg,T2];omega
noncomputable def iD(i:Nat):D:=.int (i:Int)
theorem zmS{tp:TP}{c:Nat}{u:U}{Q:U×Qa U->Prop}(h:Md tp n vs c u)(hn:n<=900)(hi:i < 2+rows.length)(hr:∀j∈rows,j < vs.length)
  (k:∀u' ws (t:Nat) v,Md tp (n+2) (vs++ws) c u'->(vs++ws)[t]?=ž v->(jg vs rows)[i]?=ž v->(ws=[]\/(ws=[v]/\t=vs.length))->(2<=i->ws=[]/\rows[i - 2]?=ž t)->Q (.d<|.int (t:Int),[u',.d<|.int (i:Int),.l<|rows.map iD])):Wo (EL [u,.d<|.int (i:Int),.l<|rows.map iD]) Q:=by
 have(r0,q0,l0,eu,g):=id h.ex;subst eu;simp![EL,Si];refine tz (λh0=>?_) λh0=>?_
 .have h0':i=0:=by first|omega | (simp at h0;omega)
  subst h0';have es:Ĵ [.str "number",.tuple [.int 1,.int 1]]=nD 1:=rfl;simp![es];refine Jb .o h (by omega) λu' t ws h' ht hd=>?_;have(r1,q1,l1,rfl,_):=id h'.ex;simp![tH];exact k _ ws t _ h' ht rfl hd λz=>by omega
 .simp!
  refine tz (λh1=>?_) λh1=>?_
  .have kI:i=1:=by first|omega | (simp at h1;omega)
   subst kI;have es:Ĵ [.str "letter",.int 0]=lD:=rfl;simp![es];refine Jb .x h (by omega) λu' t ws h' ht hd=>?_;have(r1,q1,l1,rfl,_):=id h'.ex;simp![tH];exact k _ ws t _ h' ht rfl hd λz=>by omega
  .simp at h0 h1
   have hj:i - 2 < rows.length:=by omega
   have ex:bt (rows.map iD) ((i:Int) - 2)=ž (.int (rows[i - 2]:Int)):=by
    unfold bt dM;rw[Ħ,a5E (by omega),a5E (by omega),bd,show((i:Int) - 2).toNat=i - 2 by omega,ĭ,qo hj];rfl
   simp![ex,tH];have hm:=hr rows[i - 2] (õ hj);refine k _ [] rows[i - 2] (vl vs rows[i - 2]) (by rw[ń];exact h.up (by omega)) (by rw[ń];exact GF hm) ?_ (.inl rfl) λ_=>⟨rfl,qo hj⟩;unfold jg;rw[ı (by show 2<=i;omega)];show(rows.map<|vl vs)[i - 2]?=_;rw[ĭ,qo hj];rfl
theorem OW{ws:Qa (Qa Int)}(hr:∀j∈rows,j < vs.length):jg (vs++ws) rows=jg vs rows:=by
 unfold jg;congr 1;exact Ì λj hj=>DR<|hr j hj
theorem GD(h5:L5 vs)(hr:∀j∈rows,j < vs.length):L5 (jg vs rows):=λt ht=>by
 rcases Á.mp ht with ht|ht
 .simp only[T2,qw,ľ,or_false]at ht
  rcases ht with rfl|rfl<;>rfl
 .have(j,hj,rfl):=À.mp ht
  exact h5 _<|Ä<|GF<|hr j hj
theorem uQ{a b:Qa Int}(ha:a.length=5)(hb:b.length=5)(h:∀k,a.getD k 0=b.getD k 0):a=b:=by
 refine List.ext_getElem (by omega) λk h1 h2=>?_;have:=h k;rw[qC,qC,qo h1,qo h2]at this;exact this
def Lc(vs:Qa (Qa Int))(sg:Qa Int)(rows:Qa Nat):Prop:=vs=[]\/∃p,rows≠[]/\rows[rows.length - 1]?=ž p/\p+1=vs.length/\sg.length=2+rows.length/\sg[sg.length - 1]?≠ž 0
theorem Jz{tp:TP}{c:Nat}{u:U}{Q:U×Qa U->Prop}(h:Md tp n vs c u)(hn:n<=800)(hs:∀s∈sg,s=0\/s=1\/s=-1)(hl:sg.length<=4)(hg:sg.length<=2+rows.length)(hr:∀j∈rows,j < vs.length)
  (k:∀u' ws (t:Nat),Md tp (n+20) (vs++ws) c u'->(vs++ws)[t]?=ž (mx sg<|(jg vs rows).take sg.length)->(Lc vs sg rows->t+1=(vs++ws).length)->Q (.d<|.int (t:Int),[u',.d<|aA sg,.l<|rows.map iD])):Wo (xV [u,.d<|aA sg,.l<|rows.map iD]) Q:=by
 have(r0,q0,l0,eu,_,_,_,g4,_):=id h.ex;have h5:=g4.2.1;subst eu;unfold aA;have hz:ħ=16777216:=ş;simp![xV,RK];refine DC (λi ρ ys=>∃(xs:Qa (Bool×Nat)) (u':U) (ws:Qa (Qa Int)),i<=sg.length/\Md tp (n+2 * i) (vs++ws) c u'/\xs.length<=i/\(∀t∈xs,t.2 < vs.length+ws.length)/\(∀k,sx (vs++ws) xs k=(mx (sg.take i)<|(jg vs rows).take i).getD k 0)/\(xs=[]->ws=[])/\(vs=[]->∀b j,xs=[(b,j)]->j+1=vs.length+ws.length)/\(i=sg.length->Lc vs sg rows->(xs=[]->vs=[])/\∀b j,xs=[(b,j)]->j+1=vs.length+ws.length)/\ys=xs.map xD/\ρ=[Ž,Ž,ž<|.l<|rows.map iD,ž u']) (by rw[vF,Ħ];omega) ?_ ⟨[],_,[],by omega,by rw[ń];exact h,by simp,by simp,λk=>by show(0:Int)=fC.getD k 0;rw[yT],λ_=>rfl,by simp,?_,rfl,rfl⟩ ?_ ?_
 .rintro i ρ ys ⟨xs,u',ws,_,_,hx,_,_,_,_,_,rfl,_⟩
  rw[Ħ];exact hx
 .intro e lc
  rcases lc with lc|⟨p,_,_,_,a,_⟩
  .exact⟨λ_=>lc,by simp⟩
  .omega
 .rintro i d ρ ys hd ⟨xs,u',ws,hi,hu,hx,Br,Bu,Bq,LX,LW,rfl,rfl⟩
  have(x,mU,rfl):=vC hd;rw[ĭ]at mU;have(y,hy,rfl):=qt.mp mU;have fK:=(qm.mp hy).1;have it:i < (jg vs rows).length:=by rw[Iz];omega
  have hm:∀k,(mx (sg.take<|i+1)<|(jg vs rows).take<|i+1).getD k 0=(mx (sg.take i)<|(jg vs rows).take i).getD k 0+y * ((jg vs rows)[i]).getD k 0:=λk=>by
   rw[ό fK,ό it,tT (by simp;omega),(qm.mp hy).2];rw[gf];rw[mT λt ht=>GD h5 hr t<|a4f ht];exact(GD h5 hr _<|õ it).symm
  have(r1,q1,l1,eu,_):=id hu.ex;subst eu;simp!
  by_cases h0:y=0
  .rw[a5G h0]
   simp![ώ];refine⟨xs,_,ws,fK,hu.up (by omega),by omega,Br,λk=>?_,Bq,LX,λe lc=>?_,rfl,rfl⟩
   .rw[hm,Bu,h0]
    omega
   .rcases lc with lc|⟨p,_,_,_,_,b⟩
    .exact⟨λ_=>lc,LX lc⟩
    .rw[<-e,a4W,hy,h0]at b
     exact absurd rfl b
  .rw[a5H h0]
   simp![ϧ];refine zmS hu (by omega) (by omega) (λj hj=>by rw[qu];have:=hr j hj;omega) λu' w2 t v h' ht hv hd h2i=>?_;rw[OW hr,qo it]at hv;cases hv;have(r2,q2,l2,rfl,_):=id h'.ex;have tl:=(qm.mp ht).1;have etv:=Du ht;have one:vs=[]->∀b j,xs++[(decide<|0 < y,t)]=[(b,j)]->j+1=vs.length+(ws++w2).length:=λev b j e=>by
    have(rfl,ej):=Nj e;cases ej;rcases hd with rfl|⟨rfl,rfl⟩
    .rw[ev,Bq rfl]at tl
     simp at tl
    .simp
     omega
   simp!;rw[ĸ]at h' ht;refine⟨xs++[(decide<|0 < y,t)],_,ws++w2,fK,h'.up (by omega),by simp;omega,?_,λk=>?_,by simp,?_,?_,?_,rfl⟩
   .intro q hq
    rcases Á.mp hq with hq|hq
    .have:=Br q hq
     simp;omega
    .rw[qr.mp hq]
     simp at tl ⊢;omega
   .rw[<-ĸ,Zp,zCc (by rw[qu];exact Br),Bu,hm,etv]
    rcases hs y (Ä hy)with rfl|rfl|rfl
    .exact absurd rfl h0
    .simp
    .simp
   .intro ev b j e
    exact one ev b j e
   .intro e lc
    refine⟨by simp,λb j ej=>?_⟩;rcases lc with lc|⟨p,p1,p2,p3,p4,p5⟩
    .exact one lc b j ej
    .have(rfl,ej):=Nj ej
     cases ej;have pl:0 < rows.length:=List.length_pos_iff.mpr p1;have(w1,w3):=h2i (by omega);rw[show i - 2=rows.length - 1 by omega,p2]at w3;cases w3;rw[w1,Bq rfl];simp
     try omega
   .rw[ĵ]
    rfl
 .rintro ρ ys ⟨xs,u',ws,_,hu,hx,Br,Bu,Bq,LX,LW,rfl,rfl⟩
  have(r1,q1,l1,eu,_,_,_,g4',_):=id hu.ex;subst eu;rw[vF,Ħ]at hx hu Bu LW;simp!;refine zru hu (by omega) (by omega) (by rw[qu];exact Br) λu2 w2 t r h2 ht v8 bB=>?_;have(r2,q2,l2,rfl,_,_,_,g5,_):=id h2.ex;simp![tH];rw[ĸ]at h2 ht;refine k _ _ t (h2.up (by omega)) ?_ λlc=>?_
  .rw[ht]
   congr 1;refine uQ (g5.2.1 r<|Ä (by rw[ĸ];exact ht)) (mT λq hq=>GD h5 hr q<|a4f hq) λk=>?_;rw[v8,Bu,ϑ]
  .have(c1,c2):=LW rfl lc
   rw[<-ĸ];rcases bB with bB|⟨j,rfl,rfl,rfl⟩|⟨rfl,e⟩
   .exact bB
   .have:=c2 _ _ rfl
    simp;omega
   .rw[c1 rfl,Bq rfl]at e
    exact absurd rfl e
theorem Dg.up(h:Dg m v)(l:m<=n):Dg n v:=λi hi=>h i (by omega)
theorem zEp{s:Int}{a b:Qa Int}(h:a.length=b.length)(ha:Dg n a)(hb:Dg n b):Dg n (pl s a b):=λi hi=>by
 rw[gf h,ha i hi,hb i hi];simp
theorem N5:∀{ps:Qa (Int×Qa Int)} {acc:Qa Int},acc.length=5->Dg n acc->(∀p∈ps,p.2.length=5/\Dg n p.2)->Dg n (ps.foldl (λacc p=>pl p.1 acc p.2) acc)
 |[],acc,_,h,_=>h
 |p::ps,acc,h5,h,hp=>by
  have(q1,q2):=hp p qq;rw[ν];exact N5 (by rw[nB<|h5.trans q1.symm];exact h5) (zEp (h5.trans q1.symm) h q2) λq hq=>hp q<|qp _ hq
theorem zEq{ts:Qa (Qa Int)}(h:∀t∈ts,t.length=5/\Dg n t):Dg n (mx sg ts):=N5 rfl (λi _=>yT) λp hp=>h _ (ß hp).2
abbrev Gf:=Nat->Qa Int->Qa Int->Qa Int
def iU(g:Gf):Nat->Qa (Qa Int×Qa Int)->Qa (Qa Int)->Qa (Qa Int)
 |_,[],ts=>ts
 |c,f::fs,ts=>iU g (c+1) fs<|ts++[g c (mx f.1 ts)<|mx f.2 ts]
theorem Qz{g:Gf}{f:Qa Int×Qa Int}:∀{fs:Qa (Qa Int×Qa Int)} {c:Nat} {ts:Qa (Qa Int)},iU g c (fs++[f]) ts=iU g c fs ts++[g (c+fs.length) (mx f.1<|iU g c fs ts)<|mx f.2<|iU g c fs ts]:=λ{fs}=>by
 induction fs with
 |nil=>intro c ts;rfl
 |cons e fs ih=>
  intro c ts;show iU g (c+1) (fs++[f]) _=_;rw[ih,qv,show c+1+fs.length=c+(fs.length+1) by omega];rfl
abbrev A6(fs:Qa (Qa Int×Qa Int))(ts:Qa (Qa Int)):Qa (Qa Int):=iU (λ_=>tm) 0 fs ts
structure wJ (tp:TP) (m:Nat) (v:Qa Int) (x:D):Prop where
 ex:∃rs vs,x=.tuple [.tuple [.str "x"],.tuple rs]/\RV tp rs vs/\rs.length<=120/\(rs.filter cZ).length=m/\vs.getLast?=ž v
structure Alg (tp:TP) (g:Gf) (iv:Nat->Qa Int->Prop):Prop where
 i0:∀t∈T2,iv 0 t
 up:∀c t,c<=1->iv c t->iv (c+1) t
 mx:∀c sg ts,(∀t∈ts,t.length=5/\iv c t)->iv c (mx sg ts)
 pr:∀c a b,c<=1->a.length=5->b.length=5->iv c a->iv c b->tp c a b (g c a b)/\(g c a b).length=5/\iv (c+1) (g c a b)
def Vf:TP:=λ_ a b v=>v=tm a b/\∃m n,Dg m a/\Dg n b/\m+n<=4
abbrev Rk(m:Nat)(v:Qa Int)(x:D):Prop:=wJ Vf m v x
noncomputable def fv:Gf:=λc a b=>if c=0 then [0,0,1,0,0]else [0,0,0,1,(((a.getD 2 0).natAbs+(b.getD 2 0).natAbs:Nat):Int)]
def wx:TP:=λc a b v=>v=fv c a b
theorem md0{tp:TP}:Md tp 0 [] 0 (ji [] [] [] []):=⟨[],[],[],rfl,by simp,by simp,by simp,⟨rfl,λt ht=>(by cases ht),λi r v e=>by simp at e⟩,rfl,λe he=>(by cases he)⟩
theorem ya{a0 a1 a2 a3 a4 b0 b1 b2 b3 b4:Int}:tm [a0,a1,a2,a3,a4] [b0,b1,b2,b3,b4]=[a0 * b0,a0 * b1+a1 * b0,a0 * b2+a1 * b1+a2 * b0,a0 * b3+a1 * b2+a2 * b1+a3 * b0,a0 * b4+a1 * b3+a2 * b2+a3 * b1+a4 * b0]:=by
 simp[tm,jT,kG,AX,Ń,List.range.loop,Ĩ]
theorem pE{a:Qa Int}(h:a.length=5):∃a0 a1 a2 a3 a4,a=[a0,a1,a2,a3,a4]:=by
 rcases a with _|⟨a0,_|⟨a1,_|⟨a2,_|⟨a3,_|⟨a4,_|⟨a5,a⟩⟩⟩⟩⟩⟩<;>simp at h;exact⟨_,_,_,_,_,rfl⟩
theorem zEr{b:Nat}{a c:Qa Int}(hb:b<=1)(la:a.length=5)(lc:c.length=5)(ha:Dg (2^b) a)(hc:Dg (2^b) c):Dg (2^(b+1)) (tm a c):=by
 have(a0,a1,a2,a3,a4,rfl):=pE la;have(c0,c1,c2,c3,c4,rfl):=pE lc;rw[ya];rcases b with _|_|b
 .have e1:a2=0:=ha 2 (by decide)
  have e2:a3=0:=ha 3 (by decide);have e3:a4=0:=ha 4 (by decide);have f1:c2=0:=hc 2 (by decide);have f2:c3=0:=hc 3 (by decide);have f3:c4=0:=hc 4 (by decide);subst e1 e2 e3 f1 f2 f3;intro i hi;have hi:2 < i:=hi
  match i,hi with
  |3,_=>simp
  |4,_=>simp
  |i+5,_=>rfl
 .intro i hi
  have hi:4 < i:=hi
  match i,hi with
  |i+5,_=>rfl
 .omega
theorem zFi{b:Nat}(h:b<=1):2^b+2^b<=4:=by
 rcases b with _|_|b
 .decide
 .decide
 .omega
theorem TB{tp:TP}{g:Gf}{iv:Nat->Qa Int->Prop}(al:Alg tp g iv){fs:Qa (Qa Int×Qa Int)}{Q:U×Qa U->Prop}(hf:fs.length<=2)(h1:∀i e,fs[i]?=ž e->Sg (2+i) e.1/\Sg (2+i) e.2)(hs:Sg (2+fs.length) sg)(h0:fs≠[]->sg[sg.length - 1]?≠ž 0)(k:∀x,wJ tp fs.length (mx sg<|iU g 0 fs T2) x->Q (.d x,[.d<|.list<|fs.map c2,.d<|aA sg])):Wo (vE [.l<|fs.map c2,.d<|aA sg]) Q:=by
 simp![vE,TC];refine j7 (λbs cs ρ=>∃u rows vs v4 v5 v6,Md tp (50 * bs.length) vs bs.length u/\ϥ rows=bs.length/\(∀j∈rows,j < vs.length)/\jg vs rows=iU g 0 bs T2/\(∀t∈iU g 0 bs T2,t.length=5/\iv bs.length t)/\(bs=[]/\vs=[]\/∃p,rows[rows.length - 1]?=ž p/\p+1=vs.length)/\ρ=[ž<|.d<|.list<|fs.map c2,ž<|.d<|aA sg,ž u,ž<|.l<|rows.map iD,v4,v5,v6]) ⟨_,[],[],_,_,_,md0,rfl,by simp,rfl,?_,.inl ⟨rfl,rfl⟩,rfl⟩ ?_ ?_
 .intro t ht
  simp only[iU,T2,qw,ľ,or_false]at ht;rcases ht with rfl|rfl
  .exact⟨rfl,al.i0 _ (by simp[T2])⟩
  .exact⟨rfl,al.i0 _ (by simp[T2])⟩
 .rintro bs e cs ρ ep ⟨u,rows,vs,v4,v5,v6,hu,hr,vZ,yo,yz,FL,rfl⟩
  have he:fs[bs.length]?=ž e:=by rw[ep];simp
  have(s1,s2):=h1 _ e he;have fK:=(qm.mp he).1;have(r1,q1,p1,eu,_,_,_,g4,_):=id hu.ex;subst eu;have l1:=s1.1;have l2:=s2.1;unfold c2;simp!;refine Jz hu (by omega) s1.2 (by omega) (by omega) vZ λu2 w2 t2 h2 gI _=>?_;have(r2,q2,p2,eu,_):=id h2.ex;subst eu;simp!;refine Jz h2 (by omega) s2.2 (by omega) (by omega) (λj hj=>by rw[qu];have:=vZ j hj;omega) λu3 w3 t3 h3 FI _=>?_;have(r3,q3,p3,eu,_):=id h3.ex;subst eu;simp!;rw[OW vZ]at FI;have er:Ĵ [.str "times",.int (t2:Int),.int (t3:Int)]=Internal.K56.r3 "times" t2 t3:=rfl;rw[er];have Wi:bs.length<=1:=by omega
  have pp:=al.pr bs.length _ _ Wi (mT λt ht=>(yz t ht).1) (mT λt ht=>(yz t ht).1) (al.mx bs.length e.1 _ yz) (al.mx bs.length e.2 _ yz);refine JB h3 (by omega) (v:=g bs.length (mx e.1<|iU g 0 bs T2) (mx e.2<|iU g 0 bs T2)) ?_ ?_ λu4 h4=>?_
  .have hk:cZ (Internal.K56.r3 "times" t2 t3)=ż:=rfl
   rw[yo,ő (by rw[<-yo,Iz];omega)]at gI FI;exact .times (qm.mp<|oF gI).1 (qm.mp FI).1 (oF gI) FI pp.1
  .exact pp.2.1
  have(r4,q4,p4,eu,_):=id h4.ex;subst eu;rw[show(if cZ (Internal.K56.r3 "times" t2 t3)=ż then 1 else 0)=1 from rfl]at h4;generalize hN:(vs++w2++w3).length=N;have em:rows.map iD++[į (N:Int)]=(rows++[N]).map iD:=by simp[iD]
  simp!;rw[em];have v4N:∀z:Qa Int,(vs++w2++w3++[z])[N]?=ž z:=λz=>by
   rw[<-hN,ı<|qf _,a1d];rfl
  have eth:∀z,jg (vs++w2++w3++[z]) (rows++[N])=jg vs rows++[z]:=λz=>by
   unfold jg;rw[ĵ,<-ĸ];congr 1
   .congr 1
    refine Ì λj hj=>?_;rw[ĸ,ĸ];exact DR<|vZ j hj
   .rw[a4K,Du<|v4N z]
  rw[qu,qu]at hN;refine⟨_,rows++[N],_,_,_,_,h4.up (by omega),by simp[hr],?_,(eth _).trans (by rw[yo,Qz,Ţ]),?_,.inr ⟨N,by simp,by simp;omega⟩,rfl⟩
  .intro j hj
   rcases Á.mp hj with hj|hj
   .have:=vZ j hj
    simp;omega
   .rw[qr.mp hj]
    simp;omega
  .intro t ht
   rw[Qz,Ţ]at ht;rcases Á.mp ht with ht|ht
   .have(a1,a2):=yz t ht
    exact⟨a1,al.up _ _ Wi a2⟩
   .rw[qr.mp ht]
    exact⟨pp.2.1,pp.2.2⟩
 .rintro ρ ⟨u,rows,vs,v4,v5,v6,hu,hr,vZ,yo,yz,FL,rfl⟩
  have(r1,q1,p1,eu,_):=id hu.ex;subst eu;have ls:=hs.1;simp!;refine Jz hu (by omega) hs.2 (by omega) (by omega) vZ λu2 w2 t2 h2 gI mV=>?_;have(r2,q2,p2,eu,g1,g2,g3,g4,g5,_):=id h2.ex;subst eu;simp!;refine k _ ⟨r2,_,rfl,g4,by omega,g5,?_⟩;rw[yo,ő (by rw[<-yo,Iz];omega)]at gI;rw[ϫ,<-gI,<-mV ?_]
  .rfl
  .rcases FL with⟨_,FL⟩|⟨p,e1,e2⟩
   .exact .inl FL
   .have hp:=(qm.mp e1).1
    have n1:rows≠[]:=λz=>by rw[z]at hp;simp at hp
    have n2:fs≠[]:=λz=>by rw[z]at hr;exact n1<|ä.mp hr
    exact .inr ⟨p,n1,e1,e2,by omega,h0 n2⟩
theorem zCd:Alg Vf (λ_=>tm) λc t=>Dg (2^c) t:=by
 refine⟨λt ht=>?_,λc t _ h=>h.up<|È (by omega) (by omega),λc sg ts h=>zEq h,λc a b hc la lb ha hb=>⟨⟨rfl,2^c,2^c,ha,hb,zFi hc⟩,xJ 5,zEr hc la lb ha hb⟩⟩;simp only[T2,qw,ľ,or_false]at ht;rcases ht with rfl|rfl <;>
 .intro i hi
  have hi:1 < i:=hi
  match i,hi with
  |2,_|3,_|4,_=>rfl
  |i+5,_=>rfl
theorem zCe:Alg wx fv λ_ _=>True:=⟨λ_ _=>trivial,λ_ _ _ _=>trivial,λ_ _ _ _=>trivial,λc a b hc _ _ _ _=>⟨rfl,by unfold fv;split<;>rfl,trivial⟩⟩
theorem JS{fs:Qa (Qa Int×Qa Int)}{Q:U×Qa U->Prop}(hf:fs.length<=2)(h1:∀i e,fs[i]?=ž e->Sg (2+i) e.1/\Sg (2+i) e.2)(hs:Sg (2+fs.length) sg)(h0:fs≠[]->sg[sg.length - 1]?≠ž 0)(k:∀x,Rk fs.length (mx sg<|A6 fs T2) x->wJ wx fs.length (mx sg<|iU fv 0 fs T2) x->Q (.d x,[.d<|.list<|fs.map c2,.d<|aA sg])):Wo (vE [.l<|fs.map c2,.d<|aA sg]) Q:=by
 have a:=TB (Q:=λo=>∃x,o=(.d x,[.d<|.list<|fs.map c2,.d<|aA sg])/\Rk fs.length (mx sg<|A6 fs T2) x) zCd hf h1 hs h0 λx h=>⟨x,rfl,h⟩;have b:=TB (Q:=λo=>∃x,o=(.d x,[.d<|.list<|fs.map c2,.d<|aA sg])/\wJ wx fs.length (mx sg<|iU fv 0 fs T2) x) zCe hf h1 hs h0 λx h=>⟨x,rfl,h⟩;have(o,e,x,rfl,h):=a;have(o',e',x',rfl,h'):=b;rw[e]at e';cases e';exact⟨_,e,k x h h'⟩
end Internal.K56
open PySem Internal
namespace Internal.K56
open PySem Internal
theorem yi{a b:Int}:mx [a,b] T2=[a,b,0,0,0]:=by
 simp[mx,pl,fC,T2]
theorem Vl{s:Qa Int}(h:Sg 2 s):∃a b,s=[a,b]/\(a=0\/a=1\/a=-1)/\(b=0\/b=1\/b=-1):=by
 have(a,b,rfl):=CL h.1;exact⟨a,b,rfl,h.2 a (by simp),h.2 b (by simp)⟩
theorem Fj{x y:Int}(hx:x=0\/x=1\/x=-1)(hy:y=0\/y=1\/y=-1):x * y=0\/x * y=1\/x * y=-1:=by
 rcases hx with rfl|rfl|rfl<;>rcases hy with rfl|rfl|rfl<;>decide
theorem zCf{s1 s2:Qa Int}(h1:Sg 2 s1)(h2:Sg 2 s2):∃x y z,tm (mx s1 T2) (mx s2 T2)=[x,y,z,0,0]/\(-1<=x/\x<=1)/\(-2<=y/\y<=2)/\-1<=z/\z<=1:=by
 have(a,b,rfl,ha,hb):=Vl h1;have(c,d,rfl,hc,hd):=Vl h2;rw[yi,yi,ya];have e1:=Fj ha hc;have e2:=Fj ha hd;have e3:=Fj hb hc;have e4:=Fj hb hd;refine⟨a * c,a * d+b * c,b * d,?_,by omega,by omega,by omega⟩;simp
def T3(f:Qa Int):Qa (Qa Int):=T2++[f]
theorem yL{f:Qa Int}(h:f.length=5):L5 (T3 f):=λt ht=>by
 simp only[T3,T2,a5x,qw,ľ,or_false]at ht;rcases ht with (rfl|rfl) |rfl
 .rfl
 .rfl
 .exact h
theorem CP:L5 T2:=λt ht=>by
 simp only[T2,qw,ľ,or_false]at ht;rcases ht with rfl|rfl<;>rfl
theorem JY:∀t∈T2,BL 1000 t:=λt ht x hx=>by
 simp only[T2,qw,ľ,or_false]at ht;rcases ht with rfl|rfl<;>(simp at hx;omega)
theorem Qy{s1 s2:Qa Int}(h1:Sg 2 s1)(h2:Sg 2 s2):(tm (mx s1 T2)<|mx s2 T2).length=5/\BL 1000 (tm (mx s1 T2)<|mx s2 T2):=by
 have(x,y,z,e,b1,b2,b3):=zCf h1 h2;rw[e];refine⟨rfl,λw hw=>?_⟩;simp only[qw,ľ,or_false]at hw;rcases hw with rfl|rfl|rfl|rfl|rfl<;>omega
theorem Uw{f:Qa Int}(h:BL 1000 f):∀t∈T3 f,BL 1000 t:=λt ht=>by
 rcases Á.mp ht with ht|ht
 .exact JY t ht
 .rw[qr.mp ht]
  exact h
def kW(f:Qa Int):Prop:=∃s1 s2,Sg 2 s1/\Sg 2 s2/\f=tm (mx s1 T2) (mx s2 T2)
def W0(t:Qa Int):Prop:=∃a,Sg 2 a/\t=mx a T2
def W1(t f:Qa Int):Prop:=∃b,Sg 3 b/\t=mx b (T3 f)
def W2(t f:Qa Int):Prop:=∃b u v,Sg 3 b/\Sg 3 u/\Sg 3 v/\pl (-1) t (mx b<|T3 f)=tm (mx u<|T3 f) (mx v<|T3 f)
def Way(t:Qa Int):Prop:=W0 t\/(∃f,kW f/\W1 t f)\/∃f,kW f/\W2 t f
theorem Ni{f:Qa Int}(hf:f.length=5)(hv:Sg 3 v)(z:v[v.length - 1]?=ž 0)(e:l=mx v (T3 f)):W0 l:=by
 have(h1,h2):=hv;rcases v with _|⟨a,_|⟨b,_|⟨c,_|⟨d,v⟩⟩⟩⟩<;>simp at h1;simp at z;subst z;refine⟨[a,b],⟨rfl,λs hs=>h2 s (by simp at hs ⊢;rcases hs with hs|hs<;>simp[hs])⟩,?_⟩;rw[e,show [a,b,(0:Int)]=[a,b]++[0] from rfl];unfold T3;rw[tT rfl];refine uQ (by rw[nB (by rw[yi,hf];rfl),yi];rfl) (by rw[yi];rfl) λk=>?_;rw[gf (by rw[yi,hf];rfl)];omega
theorem JX{f:Qa Int}(hf:f.length=5)(hv:Sg 3 v)(z:v.getD 2 0=0):∃a,Sg 2 a/\mx v (T3 f)=mx a T2:=by
 refine Ni hf hv ?_ rfl;rw[hv.1,qo (show 3 - 1 < v.length by rw[hv.1];decide)];rw[qC,qo (show 2 < v.length by rw[hv.1];decide)]at z;exact congrArg ž z
theorem CO{a b c:Int}:mx [a,b,c] (T3 [0,0,1,0,0])=[a,b,c,0,0]:=by
 simp[mx,T3,T2,pl,fC]
theorem xi(h:Sg 3 v):∃a b c,v=[a,b,c]:=by
 have(h1,_):=h;rcases v with _|⟨a,_|⟨b,_|⟨c,_|⟨d,v⟩⟩⟩⟩<;>simp at h1;exact⟨a,b,c,rfl⟩
def sN(m:Nat)(x:D):Prop:=∃w:Qa Int,wJ wx m w x/\(m=0\/m=1/\w.getD 2 0≠0\/m=2/\w.getD 3 0≠0/\(w.getD 2 0≠0\/w.getD 4 0≠0))
theorem zFj{f:Qa Int×Qa Int}{x:D}(hv:Sg 3 v)(z:v[v.length - 1]?≠ž 0)(h:wJ wx 1 (mx v<|iU fv 0 [f] T2) x):sN 1 x:=by
 refine⟨_,h,.inr<|.inl ⟨rfl,?_⟩⟩;have e:iU fv 0 [f] T2=T3 [0,0,1,0,0]:=rfl;have(a,b,c,rfl):=xi hv;rw[e,CO];exact λy=>z<|congrArg ž y
theorem zFk{f v:Qa Int×Qa Int}{e:Qa Int}{t fx:Qa Int}{x:D}(h5:t.length=5)(hf:fx.length=5)(he:Sg 3 e)(s1:Sg 3 v.1)(s2:Sg 3 v.2)(ev:pl (-1) t (mx e<|T3 fx)=tm (mx v.1<|T3 fx) (mx v.2<|T3 fx))(h:wJ wx 2 (mx (e++[1])<|iU fv 0 [f,v] T2) x):sN 2 x\/∃f',kW f'/\W1 t f':=by
 have ee:iU fv 0 [f,v] T2=T3 [0,0,1,0,0]++[[0,0,0,1,((((mx v.1<|T3 [0,0,1,0,0]).getD 2 0).natAbs+((mx v.2<|T3 [0,0,1,0,0]).getD 2 0).natAbs:Nat):Int)]]:=rfl;have(a,b,c,rfl):=xi he;have(a1,b1,c1,e1):=xi s1;have(a2,b2,c2,e2):=xi s2;rw[ee,tT rfl,CO,e1,e2,CO,CO]at h
 by_cases z:c=0/\c1=0/\c2=0
 .have(rfl,rfl,rfl):=z
  have(w,sw,ew):=JX hf he rfl;have(w1,sw1,ew1):=JX hf s1 (by rw[e1];rfl);have(w2,sw2,sJ):=JX hf s2 (by rw[e2];rfl);refine .inr ⟨tm (mx w1 T2)<|mx w2 T2,⟨w1,w2,sw1,sw2,rfl⟩,w++[1],⟨by rw[qu,sw.1];rfl,λs hs=>?_⟩,?_⟩
  .rcases Á.mp hs with hs|hs
   .exact sw.2 s hs
   .rw[qr.mp hs]
    exact .inr<|.inl rfl
  .rw[ew,ew1,sJ]at ev
   have l1:(mx w T2).length=5:=mT CP;have l2:(tm (mx w1 T2)<|mx w2 T2).length=5:=xJ 5;unfold T3;rw[tT (by rw[sw.1];rfl)];refine uQ h5 (by rw[nB<|l1.trans l2.symm];exact l1) λk=>?_;have:(pl (-1) t<|mx w T2).getD k 0=(tm (mx w1 T2)<|mx w2 T2).getD k 0:=by rw[ev]
   rw[gf<|h5.trans l1.symm]at this;rw[gf<|l1.trans l2.symm];omega
 .refine .inl ⟨_,h,.inr<|.inr ⟨rfl,?_,?_⟩⟩
  .show(0:Int)+1 * 1≠0
   decide
  .show c+1 * 0≠0\/(0:Int)+1 * (((c1.natAbs+c2.natAbs:Nat):Int))≠0
   omega
theorem zov{t f:Qa Int}{jE:Qa Int×Qa Int}{Q:U×Qa U->Prop}(h5:t.length=5)(hf:f.length=5)(fb:BL 1000 f)(h1:Sg 2 jE.1)(h2:Sg 2 jE.2)(hff:f=tm (mx jE.1 T2) (mx jE.2 T2))(k:∀x,(x=PyData.none/\¬W2 t f\/Rk 2 t x/\W2 t f/\(sN 2 x\/∃f',kW f'/\W1 t f'))->Q (.d x,[.d<|aA t,.d<|.list<|(T3 f).map aA,.d<|c2 jE])):Wo (EF [.d<|aA t,.l<|(T3 f).map aA,.d<|c2 jE]) Q:=by
 have el:U.l ((T3 f).map aA)=r9 ż (T3 f):=rfl;have wC:U.d (.list<|(T3 f).map aA)=r9 Ż (T3 f):=rfl;simp![EF,R8];rw[el];refine S5 (yL hf) (Uw fb) (by simp[T3,T2]) λr hr=>?_;simp!;rw[wC];refine Em (yL hf) (by simp[T3,T2]) λp m=>?_;simp!;unfold iS;refine j7 (λbs cs ρ=>(∀e∈bs,look r (pl (-1) t e.1)=Ž)/\∃v4 v5 v6,ρ=[ž<|.d<|aA t,ž<|.d<|.list<|(T3 f).map aA,ž<|.d<|c2 jE,ž<|.t<|br c2 r,v4,v5,v6]) ⟨λe he=>(by cases he),_,_,_,rfl⟩ ?_ ?_
 .rintro bs e cs ρ ep ⟨hb,v4,v5,v6,rfl⟩
  have he:e∈p:=by rw[ep];simp
  have(se,ee):=m.sg e he;have e5:e.1.length=5:=by rw[ee];exact mT<|yL hf
  have Vm:e.2.length=3:=se.1;simp!;refine Tw (by omega) h5 (by omega) ?_;cases lk:look r (pl (-1) t e.1)with
  |some v=>
   have(s1,s2,ev):=hr.sg _ (oA lk);have ec:=Ux (l:=e.2) (s:=1) (by omega);simp![lk,ϲ,ϓ,ec];have em:U.l [c2 jE,c2 v]=.l ([jE,v].map c2):=rfl;rw[em];have ept:mx (e.2++[1]) (A6 [jE,v] T2)=t:=by
    have e3:A6 [jE,v] T2=T3 f++[tm (mx v.1<|T3 f)<|mx v.2<|T3 f]:=by
     show T2++[tm (mx jE.1 T2)<|mx jE.2 T2]++[tm (mx v.1<|T2++[tm (mx jE.1 T2)<|mx jE.2 T2])<|mx v.2<|T2++[tm (mx jE.1 T2)<|mx jE.2 T2]]=_;rw[<-hff];rfl
    rw[e3,tT (by rw[Vm];rfl),<-ee,<-ev];have q5:(pl (-1) t e.1).length=5:=by rw[nB (by omega)];exact h5
    refine uQ (by rw[nB<|e5.trans q5.symm];exact e5) h5 λk=>?_;rw[gf<|e5.trans q5.symm,gf<|h5.trans e5.symm];omega
   refine JS (by simp) ?_ ?_ (λ_=>by simp) λxs vY BY=>?_
   .intro i x hx
    rcases i with _|_|i
    .cases hx
     exact⟨h1,h2⟩
    .cases hx
     exact⟨s1,s2⟩
    .simp at hx
   .refine⟨by simp[Vm],λs hs=>?_⟩
    rcases Á.mp hs with hs|hs
    .exact se.2 s hs
    .rw[qr.mp hs]
     exact .inr<|.inl rfl
   .have eo:(r9 ż<|T3 f).own=ż:=rfl
    simp![eo];rw[ept]at vY;have qV:pl (-1) t (mx e.2<|T3 f)=tm (mx v.1<|T3 f) (mx v.2<|T3 f):=by rw[<-ee];exact ev
    exact k _<|.inr ⟨vY,⟨e.2,v.1,v.2,se,s1,s2,qV⟩,zFk h5 hf se s1 s2 qV BY⟩
  |none=>
   simp![lk,a0S,a0c,Ŋ];refine⟨λx hx=>?_,_,_,_,rfl⟩;rcases Á.mp hx with hx|hx
   .exact hb x hx
   .rw[qr.mp hx]
    exact lk
 .rintro ρ ⟨hb,v4,v5,v6,rfl⟩
  simp!;refine k _<|.inl ⟨rfl,?_⟩;rintro⟨b,u,v,sb,su,sv,e⟩;have(vb,hv):=m.all b sb;have h1:=hb _ (oA hv);have(w,hw):=hr.all u v su sv;dsimp only at h1;rw[e,hw]at h1;cases h1
abbrev Tr:=Int×Int×Int
noncomputable def fW(t:Tr):D:=.tuple [.tuple [.int t.1],.tuple [.int t.2.1,.int t.2.2]]
noncomputable def wn:Qa Tr->Qa Int->Qb (Qa Int)
 |[],l=>ž l
 |t::r,l=>if t.1>=5\/t.2.2≠1 then Ž else wn r (l.set t.1.toNat t.2.1)
theorem zhM{ts:Qa Tr}{Q:U×Qa U->Prop}(h0:∀t∈ts,0<=t.1)(k1:wn ts fC=Ž->Q (.d .none,[.d<|.tuple<|ts.map fW]))(k2:∀l,l.length=5->wn ts fC=ž l->Q (.d<|aA l,[.d<|.tuple<|ts.map fW])):Wo (EY [.d<|.tuple<|ts.map fW]) Q:=by
 simp![EY,Tf,Ll];refine j7 (λbs cs ρ=>∃l v2 v3,l.length=5/\wn ts fC=wn cs l/\ρ=[ž<|.d<|.tuple<|ts.map fW,ž<|.l<|l.map .int,v2,v3]) ⟨fC,_,_,rfl,rfl,rfl⟩ ?_ ?_
 .rintro bs t cs ρ et ⟨l,v2,v3,hl,hw,rfl⟩
  have ht:=h0 t (by rw[et];simp);have ee:fW t=.tuple [.tuple [.int t.1],.tuple [.int t.2.1,.int t.2.2]]:=rfl;simp![ee];refine tz (λc1=>?_) λc1=>?_
  .simp!
   refine k1 ?_;rw[hw];unfold wn;rw[a5E<|.inl c1]
  .simp!
   refine tz (λc2=>?_) λc2=>?_
   .simp!
    refine k1 ?_;rw[hw];unfold wn;rw[a5E<|.inr (by simpa using c2)]
   .have hi:t.1.toNat < l.length:=by omega
    have en:t.1=((t.1.toNat:Nat):Int):=by omega
    have e3:=Ki (l:=l) hi;rw[<-en]at e3;simp![e3,GG];refine⟨l.set t.1.toNat t.2.1,_,_,?_,?_,rfl⟩
    .rw[ŀ,hl]
    .rw[hw]
     show(if _ then _ else _)=_;rw[a5F (by simp at c2;omega)]
 .rintro ρ ⟨l,v2,v3,hl,hw,rfl⟩
  simp!;exact k2 l hl hw
def Uv(l:Qa Int)(x:D):Prop:=x=.none/\¬Way l\/(∃y,x=.tuple [.int 0,y]/\Rk 0 l y/\sN 0 y/\W0 l)\/(∃y,x=.tuple [.int 1,y]/\Rk 1 l y/\sN 1 y/\¬W0 l/\∃f,kW f/\W1 l f)\/∃y,x=.tuple [.int 2,y]/\Rk 2 l y/\sN 2 y/\¬W0 l/\∀f,kW f->¬W1 l f
theorem zow{ts:Qa Tr}{Q:U×Qa U->Prop}(h0:∀t∈ts,0<=t.1)(k1:wn ts fC=Ž->Q (.d .none,[.d<|.tuple<|ts.map fW]))(k2:∀l x,l.length=5->wn ts fC=ž l->Uv l x->Q (.d x,[.d<|.tuple<|ts.map fW])):Wo (vD [.d<|.tuple<|ts.map fW]) Q:=by
 simp![vD,Rr];refine zhM h0 (λe=>?_) λl hl e=>?_
 .have iN:pI Ż (.d .none) (.d .none)=ž (.d<|.bool ż):=rfl
  simp![iN];exact k1 e
 .have el:U.l [Ĵ [.int 1,.int 0,.int 0,.int 0,.int 0],.tuple [.int 0,.int 1,.int 0,.int 0,.int 0]]=r9 ż T2:=rfl
  have wC:U.d (.list<|T2.map aA)=r9 Ż T2:=rfl;have ep:aA l=.tuple (l.map .int):=rfl;have iN:pI Ż (.d<|aA l) (.d .none)=ž (.d<|.bool Ż):=rfl;simp![iN];rw[el];refine Em CP (by decide) λp m=>?_;cases lk:look p l with
  |some v=>
   have hv:=m.sg _ (oA lk);have v2:v.length=2:=hv.1.1;simp![lk,ϲ,ϓ];have em:U.l []=.l (([]:Qa (Qa Int×Qa Int)).map c2):=rfl;rw[em];refine JS (by simp) (λi e he=>by simp at he) hv.1 (λz=>absurd rfl z) λxs vY BY=>?_;simp!;have hx:Rk 0 l xs:=by rw[show l=mx v T2 from hv.2];exact vY
   exact k2 l _ hl e<|.inr<|.inl ⟨_,rfl,hx,⟨_,BY,.inl rfl⟩,v,hv.1,hv.2⟩
  |none=>
   have n0:¬W0 l:=by
    rintro⟨a,sa,ea⟩;have(v,hv):=m.all a sa;rw[<-ea,lk]at hv;cases hv
   simp![lk,a0S,a0c,Ŋ];rw[wC];refine S5 CP JY (by decide) λr hr=>?_;simp!;unfold iS;have fst:∀e∈r,kW e.1/\e.1.length=5/\BL 1000 e.1/\Sg 2 e.2.1/\Sg 2 e.2.2/\e.1=tm (mx e.2.1 T2) (mx e.2.2 T2):=λe he=>by
    have(s1,s2,ee):=hr.sg e he;rw[ee];have(h1,h2):=Qy s1 s2;exact⟨⟨_,_,s1,s2,rfl⟩,h1,h2,s1,s2,rfl⟩
   have Cj:∀{f:Qa Int},Dw (.d<|.list<|T2.map aA) (.l [aA f])=ž (.l<|(T3 f).map aA):=λ{f}=>by
    show(if(T2.map aA).length+[aA f].length<=ħ then ž (U.l<|T2.map aA++[aA f])else Ž)=_;rw[a5E (by rw[ş];show 2+1<=16777216;omega)];rfl
   refine j7 (λbs cs ρ=>(∀e∈bs,¬W1 l e.1)/\∃v3 v5 v6 v7,ρ=[ž<|.d<|.tuple<|ts.map fW,ž<|.d<|aA l,ž<|.d<|.list<|T2.map aA,v3,ž<|.d<|.dict<|cR c2 r,v5,v6,v7]) ⟨λe he=>(by cases he),_,_,_,_,rfl⟩ ?_ ?_
   .rintro bs a cs ρ ep ⟨hb,v3,v5,v6,v7,rfl⟩
    have ha:a∈r:=by rw[ep];simp
    have(f1,f5,fb,s1,s2,ea):=fst a ha;simp![Cj];have Mx:U.l ((T3 a.1).map aA)=r9 ż (T3 a.1):=rfl;rw[Mx];refine Em (yL f5) (by simp[T3,T2]) λq mq=>?_;cases lq:look q l with
    |some v=>
     have hv:=mq.sg _ (oA lq);have v3:v.length=3:=hv.1.1;simp![lq,ϲ,ϓ];have em:U.l [c2 a.2]=.l ([a.2].map c2):=rfl;rw[em];have ea3:A6 [a.2] T2=T3 a.1:=by
      show T2++[tm (mx a.2.1 T2)<|mx a.2.2 T2]=_;rw[<-ea];rfl
     have z0:v[v.length - 1]?≠ž 0:=λz=>n0<|Ni f5 hv.1 z hv.2;refine JS (by simp) ?_ hv.1 (λ_=>z0) λxs vY BY=>?_
     .intro i x hx
      rcases i with _|i
      .cases hx
       exact⟨s1,s2⟩
      .simp at hx
     .simp!
      rw[ea3,<-show l=mx v (T3 a.1) from hv.2]at vY;exact k2 l _ hl e<|.inr<|.inr<|.inl ⟨_,rfl,vY,zFj hv.1 z0 BY,n0,a.1,f1,v,hv.1,hv.2⟩
    |none=>
     simp![lq,a0S,a0c,Ŋ];refine⟨λx hx=>?_,_,_,_,_,rfl⟩;rcases Á.mp hx with hx|hx
     .exact hb x hx
     .rw[qr.mp hx]
      rintro⟨b,sb,eb⟩;have(v,hv):=mq.all b sb;rw[<-eb,lq]at hv;cases hv
   .rintro ρ ⟨B9,v3,v5,v6,v7,rfl⟩
    simp!;unfold iS;refine j7 (λbs cs ρ=>(∀e∈bs,¬W2 l e.1)/\∃v3 v5 v6 v7,ρ=[ž<|.d<|.tuple<|ts.map fW,ž<|.d<|aA l,ž<|.d<|.list<|T2.map aA,v3,ž<|.d<|.dict<|cR c2 r,v5,v6,v7]) ⟨λe he=>(by cases he),_,_,_,_,rfl⟩ ?_ ?_
    .rintro bs a cs ρ ep ⟨hb,v3,v5,v6,v7,rfl⟩
     have ha:a∈r:=by rw[ep];simp
     have(f1,f5,fb,s1,s2,ea):=fst a ha;simp![Cj];refine zov hl f5 fb s1 s2 ea λx hx=>?_;have un:∀{f},kW f->∃e∈r,e.1=f:=λ{f} hf=>by
      have(s1,s2,h1,h2,rfl):=hf;have(v,hv):=hr.all s1 s2 h1 h2;exact⟨_,oA hv,rfl⟩
     rcases hx with⟨rfl,hx⟩|⟨hx,_,hnd⟩
     .have LS:pI ż (.d .none) (.d .none)=ž (.d<|.bool Ż):=rfl
      simp![LS];refine⟨λy hy=>?_,_,_,_,_,rfl⟩;rcases Á.mp hy with hy|hy
      .exact hb y hy
      .rw[qr.mp hy]
       exact hx
     .have(rs,vs,rfl,_):=id hx.ex
      have LS:pI ż (.d<|Ĵ [.tuple [.str "x"],.tuple rs]) (.d .none)=ž (.d<|.bool ż):=rfl;simp![LS];have Vv:∀f,kW f->¬W1 l f:=λf hf h=>by
       have(e,he,rfl):=un hf;exact B9 e he h
      exact k2 l _ hl e<|.inr<|.inr<|.inr ⟨_,rfl,hx,hnd.resolve_right λ⟨f,hf,h⟩=>Vv f hf h,n0,Vv⟩
    .rintro ρ ⟨hb2,v3,v5,v6,v7,rfl⟩
     simp!;refine k2 l _ hl e<|.inl ⟨rfl,?_⟩;have un:∀{f},kW f->∃e∈r,e.1=f:=λ{f} hf=>by
      have(s1,s2,h1,h2,rfl):=hf;have(v,hv):=hr.all s1 s2 h1 h2;exact⟨_,oA hv,rfl⟩
     rintro(h|⟨f,hf,h⟩|⟨f,hf,h⟩)
     .exact n0 h
     .have(e,he,rfl):=un hf
      exact B9 e he h
     .have(e,he,rfl):=un hf
      exact hb2 e he h
end Internal.K56
open PySem Internal
namespace Internal.K56
open PySem Internal
noncomputable def Be(sg:Qa Int)(ts:Qa (Qa Int))(k:Nat):Int:=((sg.zip ts).map λp=>p.1 * p.2.getD k 0).sum
def Fw(sg:Qa Int)(ts:Qa (Qa Int)):Qa Int:=(Ń 5).map (Be sg ts)
theorem Nh{k:Nat}:∀{ps:Qa (Int×Qa Int)} {acc:Qa Int},acc.length=5->(∀p∈ps,p.2.length=5)->(ps.foldl (λacc p=>pl p.1 acc p.2) acc).getD k 0=acc.getD k 0+(ps.map λp=>p.1 * p.2.getD k 0).sum
 |[],acc,_,_=>by simp
 |p::ps,acc,h,hp=>by
  have h5:=hp p qq;rw[ν,Nh (by rw[nB (by omega)];exact h) λq hq=>hp q<|qp _ hq,gf (by omega),Ī,ε];omega
theorem zCi{ts:Qa (Qa Int)}(h:L5 ts):Fw sg ts=mx sg ts:=by
 have l5:=mT (sg:=sg) h;have CD:∀k,(mx sg ts).getD k 0=Be sg ts k:=λk=>by
  unfold mx Be;rw[Nh rfl λp hp=>h _ (a2C hp).2];have:fC.getD k 0=0:=by
   rcases k with _|_|_|_|_|k<;>rfl
  omega
 unfold Fw;have(a,b,c,d,e,hx):=JZ l5;have h0:=CD 0;have h1:=CD 1;have h2:=CD 2;have h3:=CD 3;have h4:=CD 4;rw[hx]at h0 h1 h2 h3 h4 ⊢;simp only[ω,a0a]at h0 h1 h2 h3 h4;rw[show Ń 5=[0,1,2,3,4] from rfl];simp only[Ī,ŵ];rw[<-h0,<-h1,<-h2,<-h3,<-h4]
noncomputable def Fy(o:Bool)(l:Qa Int):U:=if o=ż then .l (l.map .int)else .d (.list<|l.map .int)
noncomputable def kC(ts:Qa (Qa Int)):Qa D:=ts.map λt=>.list<|t.map .int
def nI(o:Bool)(ts:Qa (Qa Int)):U:=if o=ż then .l (kC ts)else .d (.list<|kC ts)
theorem Jy{o o2:Bool}{ts:Qa (Qa Int)}{Q:U×Qa U->Prop}(h5:L5 ts)(hl:sg.length=ts.length)(hn:ts.length<=100)(hs:∀s∈sg,-1<=s/\s<=1)(q:Q (.l<|(mx sg ts).map .int,[Fy o sg,nI o2 ts])):Wo (xX [Fy o sg,nI o2 ts]) Q:=by
 have e1:lsN (Fy o sg)=ž (sg.map .int):=by cases o<;>rfl
 have e2:lsN (nI o2 ts)=ž (kC ts):=by cases o2<;>rfl
 have e3:sg.length=(kC ts).length:=by rw[kC,Ħ,hl]
 have e4:pH (sg.map į) (kC ts)=(sg.zip ts).map λt=>.tuple [.int t.1,.list<|t.2.map .int]:=Jl ..;have hz:ħ=16777216:=ş;simp![xX,Sk];refine Pl (λi ρ ys=>ρ=[Ž,ž<|nI o2 ts,ž<|Fy o sg]/\ys=(Ń i).map λk=>.int<|Be sg ts k) (by omega) ⟨rfl,rfl⟩ ?_ ?_ ?_
 .rintro i ρ ys ⟨rfl,rfl⟩
  simp
 .rintro i ρ ys hi ⟨rfl,rfl⟩
  simp![e1,e2];rw[a5E e3,e4];simp!;refine xx (e:=λp=>.int<|p.1 * p.2.getD i 0) (by rw[Ϸ];omega) (λp hp ys=>?_) ?_
  .have b1:=hs _ (ß hp).1
   have b2:=h5 _ (ß hp).2;have e5:=yM (l:=p.2) (i:=i) (by omega);simp![a3X,e5]
  .have e6:((sg.zip ts).map λp=>į<|p.1 * p.2.getD i 0)=(((sg.zip ts).map λp=>p.1 * p.2.getD i 0)).map .int:=by
    rw[Ł];rfl
   rw[e6];have e7:=OO (ks:=(sg.zip ts).map λp=>p.1 * p.2.getD i 0);simp![e7];rw[a1f,ĵ];rfl
 .rintro ρ ys ⟨rfl,rfl⟩
  simp![Nm];have e8:((Ń 5).map λk=>į<|Be sg ts k)=(Fw sg ts).map .int:=by
   unfold Fw;rw[Ł];rfl
  rw[e8,zCi h5];exact q
theorem atK{xs:Qa D}{r:Int}{d:D}(hr:r=(i:Int))(h:xs[i]?=ž d):bt xs r=ž d:=by
 have hi:=(qm.mp h).1;subst hr;unfold bt dM;rw[a5E (by omega),a5E (by omega),bd,Ŀ,h]
theorem pk4{r:Int}(h0:0<=r)(h:r < 4):∃s:Int,(s=0\/s=1\/s=-1)/\bt [į 0,.int 1,.int 1,.int (-1)] r=ž (.int s):=by
 rcases(show r=0\/r=1\/r=2\/r=3 by omega)with e|e|e|e
 .exact⟨0,by simp,atK (i:=0) e rfl⟩
 .exact⟨1,by simp,atK (i:=1) e rfl⟩
 .exact⟨1,by simp,atK (i:=2) e rfl⟩
 .exact⟨-1,by simp,atK (i:=3) e rfl⟩
theorem JL{x y:Int}{Q:U×Qa U->Prop}(hn:n<=100)(k:∀sg x' y',Sg n sg->Q (.l<|sg.map .int,[bx x' y',.d<|.int (n:Int)])):Wo (x8 [bx x y,.d<|.int (n:Int)]) Q:=by
 have hz:ħ=16777216:=ş;simp![x8,S8];refine Pl (λi ρ ys=>∃sg x' y',Sg i sg/\ρ=[Ž,ž<|bx x' y']/\ys=sg.map .int) (by omega) ⟨[],x,y,⟨rfl,λs hs=>(by cases hs)⟩,rfl,rfl⟩ ?_ ?_ ?_
 .rintro i ρ ys ⟨sg,x',y',hs,rfl,rfl⟩
  rw[Ħ,hs.1];exact qf _
 .rintro i ρ ys hi ⟨sg,x',y',hs,rfl,rfl⟩
  simp!;refine Oq (by omega) (by omega) λr x2 y2 h0 h4=>?_;have(s,h1,h2):=pk4 h0 h4;simp![h2];refine⟨sg++[s],_,_,⟨by simp[hs.1],λz hm=>?_⟩,rfl,by simp⟩;rcases Á.mp hm with hm|hm
  .exact hs.2 z hm
  .rw[qr.mp hm]
   exact h1
 .rintro ρ ys ⟨sg,x',y',hs,rfl,rfl⟩
  rw[Ŀ]at hs;simp!;exact k sg _ _ hs
theorem D2{a b:Qa Int}:(tm a b).length=5:=xJ 5
theorem JW(h:Sg n sg):∀s∈sg,-1<=s/\s<=1:=λs hs=>by
 have:=h.2 s hs;omega
def By(m:Nat)(l:Qa Int):Prop:=m=0/\W0 l\/m=1/\(∃f,kW f/\W1 l f)\/m=2/\Way l
def Ts(i:Nat)(ts:Qa (Qa Int)):Prop:=i=0/\ts=T2\/i=1/\(∃f,kW f/\ts=T3 f)\/i=2/\∃f u v,kW f/\Sg 3 u/\Sg 3 v/\ts=T3 f++[tm (mx u<|T3 f)<|mx v<|T3 f]
theorem kW.bl{f:Qa Int}(h:kW f):f.length=5/\BL 1000 f:=by
 have(s1,s2,h1,h2,rfl):=h;exact Qy h1 h2
theorem Ts.bl{ts:Qa (Qa Int)}(h:Ts i ts)(hi:i < 2):∀t∈ts,BL 1000 t:=by
 rcases h with⟨_,rfl⟩|⟨_,f,hf,rfl⟩|⟨z,_⟩
 .exact JY
 .exact Uw hf.bl.2
 .omega
theorem Ts.snoc{ts:Qa (Qa Int)}{s1 s2:Qa Int}(h:Ts i ts)(hi:i < 2)(h1:Sg (2+i) s1)(h2:Sg (2+i) s2):Ts (i+1) (ts++[tm (mx s1 ts)<|mx s2 ts]):=by
 rcases h with⟨rfl,rfl⟩|⟨rfl,f,hf,rfl⟩|⟨z,_⟩
 .exact .inr (.inl ⟨rfl,_,⟨s1,s2,h1,h2,rfl⟩,rfl⟩)
 .exact .inr (.inr ⟨rfl,f,s1,s2,hf,h1,h2,rfl⟩)
 .omega
theorem LF{a b c f0 f1 f2 f3 f4:Int}:mx [a,b,c] (T3 [f0,f1,f2,f3,f4])=[a+c * f0,b+c * f1,c * f2,c * f3,c * f4]:=by
 simp[mx,T3,T2,pl,fC]
theorem zCk{u f:Qa Int}(hf:f.length=5)(hu:Sg 3 u)(hv:Sg 3 v):∃w,Sg 3 w/\pl (-1) fC (tm (mx u<|T3 f)<|mx v<|T3 f)=tm (mx w<|T3 f) (mx v<|T3 f):=by
 have so:=hu.2;have(a,b,c,rfl):=xi hu;have(d,e,g,rfl):=xi hv;have(f0,f1,f2,f3,f4,rfl):=pE hf;refine⟨[-a,-b,-c],⟨rfl,λs hs=>?_⟩,?_⟩
 .have ha:=so a (by simp)
  have hb:=so b (by simp);have hc:=so c (by simp);simp at hs;omega
 .rw[LF,LF,LF,ya,ya]
  show [_,_,_,_,_]=[_,_,_,_,_];congr 1
  .grind
  .congr 1
   .grind
   .congr 1
    .grind
    .congr 1
     .grind
     .congr 1
      grind
theorem Ts.by{ts:Qa (Qa Int)}{s:Qa Int}(h:Ts i ts)(hs:Sg (2+i) s):By i (mx s ts):=by
 rcases h with⟨rfl,rfl⟩|⟨rfl,f,hf,rfl⟩|⟨rfl,f,u,v,hf,hu,hv,rfl⟩
 .exact .inl ⟨rfl,s,hs,rfl⟩
 .exact .inr (.inl ⟨rfl,f,hf,s,hs,rfl⟩)
 .refine .inr (.inr ⟨rfl,?_⟩)
  have(hl,hm):=hs;obtain⟨e,d,rfl⟩:∃(e:Qa Int) (d:Int),s=e++[d]:=⟨s.dropLast,s[s.length - 1]'(by omega),by
   have:=a2E (show s≠[] by intro z;rw[z]at hl;simp at hl);rw[List.getLast_eq_getElem]at this;exact this.symm⟩
  have he:Sg 3 e:=⟨by rw[qu,Ŝ]at hl;omega,λz hz=>hm z<|Í _ hz⟩;have f5:=hf.bl.1;have l1:(mx e<|T3 f).length=5:=mT (yL f5);have l2:(tm (mx u<|T3 f)<|mx v<|T3 f).length=5:=D2;have ed:=hm d (by simp);rw[tT (by rw[he.1];rfl)];have l3:(pl d (mx e<|T3 f)<|tm (mx u<|T3 f)<|mx v<|T3 f).length=5:=by rw[nB<|l1.trans l2.symm];exact l1
  rcases ed with rfl|rfl|rfl
  .refine .inr (.inl ⟨f,hf,e,he,uQ l3 l1 λk=>?_⟩)
   rw[gf<|l1.trans l2.symm];omega
  .refine .inr (.inr ⟨f,hf,e,u,v,he,hu,hv,uQ (by rw[nB<|l3.trans l1.symm];exact l3) l2 λk=>?_⟩)
   rw[gf<|l3.trans l1.symm,gf<|l1.trans l2.symm];omega
  .have(w,hw,ew):=zCk f5 hu hv
   refine .inr<|.inr ⟨f,hf,e,w,v,he,hw,hv,?_⟩;rw[<-ew];have lz:fC.length=5:=rfl;refine uQ (by rw[nB<|l3.trans l1.symm];exact l3) (by rw[nB<|lz.trans l2.symm];rfl) λk=>?_;rw[gf<|l3.trans l1.symm,gf<|l1.trans l2.symm,gf<|lz.trans l2.symm,yT];omega
theorem zmV{x y m:Int}{Q:U×Qa U->Prop}(hm:0<=m/\m<=2)(k:∀(l:Qa Int) (x' y':Int),l.length=5->By m.toNat l->Q (.l<|l.map .int,[bx x' y',.d<|.int m])):Wo (E6 [bx x y,.d<|.int m]) Q:=by
 have e0:U.l [a3w [.int 1,.int 0,.int 0,.int 0,.int 0],.list [.int 0,.int 1,.int 0,.int 0,.int 0]]=.l (kC T2):=rfl;have el:∀{ts},nI ż ts=.l (kC ts):=λ{ts}=>rfl;have ll:∀{ts:Qa (Qa Int)},(kC ts).length=ts.length:=λ{ts}=>by rw[kC,Ħ]
 simp![E6,TH];rw[e0];refine yR (λi ρ=>i<=2/\i<=m.toNat/\∃(ts:Qa (Qa Int)) (x' y':Int) (v3 v4:Qb U),L5 ts/\ts.length=2+i/\Ts i ts/\ρ=[ž<|bx x' y',ž<|.d<|.int m,ž<|.l<|kC ts,v3,v4]) ⟨by omega,by omega,T2,x,y,_,_,CP,rfl,.inl ⟨rfl,rfl⟩,rfl⟩ ?_ ?_
 .rintro i ρ hi ⟨_,FN,ts,x',y',v3,v4,h5,hl,iq,rfl⟩
  have nJ:i < 2:=by omega
  have hb:=iq.bl nJ;simp!;refine JL (by rw[ll];omega) λs1 x1 y1 g1=>?_;rw[ll]at g1;simp!;refine Jy (o:=ż) (o2:=ż) h5 g1.1 (by omega) (JW g1) ?_;simp![el];refine JL (by rw[ll];omega) λs2 x2 y2 g2=>?_;rw[ll]at g2;simp!;refine Jy (o:=ż) (o2:=ż) h5 g2.1 (by omega) (JW g2) ?_;have sm:Sm (mx s1 ts):=λz hz=>by
   have:=Nk (by omega) g1 hb z hz;rw[hl]at this;omega
  simp![el];refine zjc (o:=ż) (mT h5) (mT h5) sm ?_;have wC:qL ż (mx s1 ts)=.l ((mx s1 ts).map .int):=rfl;have hz:(kC ts).length < 16777216:=by
   rw[ll];omega
  simp![el,wC,hz];have et:kC ts++[a3w<|(tm (mx s1 ts)<|mx s2 ts).map .int]=kC (ts++[tm (mx s1 ts)<|mx s2 ts]):=by
   unfold kC;rw[ĵ];rfl
  rw[et];refine⟨by omega,by omega,ts++[tm (mx s1 ts)<|mx s2 ts],_,_,_,_,λt ht=>?_,by simp;omega,iq.snoc nJ (hl▸g1)<|hl▸g2,rfl⟩;rcases Á.mp ht with ht|ht
  .exact h5 t ht
  .rw[qr.mp ht]
   exact D2
 .rintro ρ ⟨_,FN,ts,x',y',v3,v4,h5,hl,iq,rfl⟩
  have hl4:ts.length<=4:=by omega
  simp!;refine JL (by rw[ll];omega) λs1 x1 y1 g1=>?_;rw[ll]at g1;simp!;refine Jy (o:=ż) (o2:=ż) h5 g1.1 (by omega) (JW g1) ?_;simp!;exact k _ _ _ (mT h5) (iq.by<|hl▸g1)
end Internal.K56
open PySem Internal
namespace Internal.K56
open PySem Internal
noncomputable def nb(l:Qa Int):Qa (Nat×Int):=[(0,l.getD 0 0),(1,l.getD 1 0),(2,l.getD 2 0),(3,l.getD 3 0),(4,l.getD 4 0)]
def jf(l:Qa Int):Qa Tr:=((nb l).filter λp=>!decide (p.2=0)).map λp=>((p.1:Int),p.2,1)
theorem zEu(h:l.length=5):oB 0 (l.map į)=(nb l).map λp=>.tuple [.int (p.1:Int),.int p.2]:=by
 have(a,b,c,d,e,rfl):=JZ h;rfl
theorem zrv{Q:U×Qa U->Prop}(h:l.length=5)(q:Q (.d<|.tuple<|(jf l).map fW,[.d<|.list<|l.map .int])):Wo (EV [.l<|l.map .int]) Q:=by
 have hz:ħ=16777216:=ş;simp![EV,zev];rw[zEu h];refine Ak (b:=λp=>!decide (p.2=0)) (e:=λp=>fW ((p.1:Int),p.2,1)) (by show 5<=ħ;omega) (λp hp ys=>?_) ?_
 .by_cases c:p.2=0
  .simp![c,decide_true,ώ,Ŋ]
  .simp![c,decide_false,ϧ]
   rfl
 .simp!
  have e:((nb l).filter λp=>!decide (p.2=0)).map (λp=>fW ((p.1:Int),p.2,1))=(jf l).map fW:=by
   unfold jf;rw[Ł];rfl
  rw[e];exact q
theorem Ad{n:Int}{k:Nat}{r:Qa Tr}(hk:k < 5)(hl:l[k]?=ž 0):wn ((if n=0 then []else [((k:Int),n,1)])++r) l=wn r (l.set k n):=by
 by_cases c:n=0
 .rw[a5E c,ϵ,c]
  congr 1;have(h1,h2):=qm.mp hl;rw[<-h2,a3V]
 .rw[a5F c,a5p,ϵ]
  show(if _ then _ else _)=_;rw[a5F (by simp;omega)];rfl
theorem N4(h:l.length=5):wn (jf l) fC=ž l:=by
 have(a,b,c,d,e,rfl):=JZ h;have step:∀(p:Nat×Int) (as:Qa (Nat×Int)),((p::as).filter λp=>!decide (p.2=0)).map (λp=>((p.1:Int),p.2,(1:Int)))=(if p.2=0 then []else [((p.1:Int),p.2,(1:Int))])++(as.filter λp=>!decide (p.2=0)).map λp=>((p.1:Int),p.2,(1:Int)):=λp as=>by
  by_cases z:p.2=0
  .rw[a5E z,List.filter_cons_of_neg (by simp[z])]
   rfl
  .rw[a5F z,List.filter_cons_of_pos (by simp[z])]
   rfl
 unfold jf nb;rw[step,Ad (by simp) rfl,step,Ad (by simp) rfl,step,Ad (by simp) rfl,step,Ad (by simp) rfl,step,Ad (by simp) rfl];rfl
theorem zCl:∀t∈jf l,0<=t.1:=λt ht=>by
 have(p,_,rfl):=À.mp ht;exact a1S _
end Internal.K56
open PySem Internal
namespace Internal.K56
open PySem Internal
theorem zCm{a b:Nat}(h:a<=b)(hb:b.log2 < 9000):a.log2 < 9000:=by
 by_cases z:a=0
 .rw[z];decide
 .exact Ô ((Nat.le_log2 (by omega)).mpr<|qA (Nat.log2_self_le z) h) hb
theorem Ta{n d:Int}(hd:d≠0)(hb:d.natAbs.log2 < 9000):AR [.d<|.int n,.d<|.int d]=ž (.d<|fR<|ū n d,[.d<|.int n,.d<|.int d]):=by
 have gl:œ n d<=d.natAbs:=Int.gcd_le_natAbs_right n hd;have gp:0 < œ n d:=a2R n hd;have Cf:=zCm gl hb;refine iB ?_;rw[<-zBp hd];unfold rm pG;rw[<-Qr n d (show(0:Int) < (œ n d:Nat) by omega),<-Qr d d (show(0:Int) < (œ n d:Nat) by omega)];simp![AR,Ua];refine Qw (λk ρ=>∃a b:Int,ρ=[ž<|.d<|.int n,ž<|.d<|.int d,ž<|.d<|.int a,ž<|.d<|.int b]/\0<=a/\0<=b/\b.toNat=k/\œ a b=œ n d) _ ⟨_,_,rfl,by split<;>omega,by split<;>omega,rfl,ztF n d⟩ ?_;rintro k _ ⟨a,b,rfl,ha,hb0,hk,hg⟩;simp!
 by_cases hz:b=0
 .subst hz
  have e:a=((œ n d:Nat):Int):=by rw[<-hg,a5c];omega
  subst e;have c1:xo n ((œ n d:Nat):Int):=⟨by omega,by rw[Ŭ];exact Cf⟩;have c2:xo n (0 - ((œ n d:Nat):Int)):=⟨by omega,by rw[Int.zero_sub,Int.natAbs_neg,Ŭ];exact Cf⟩;simp!;refine tz (λh=>?_) λh=>?_
  .simp![h,D4 (a:=n) c2,D4 (a:=d) c2]
  .simp![h,D4 (a:=n) c1,D4 (a:=d) c1]
 .simp![hz]
  refine⟨(a % b).toNat,?_,_,_,rfl,by omega,æ _ hz,rfl,?_⟩
  .have:=î a (show 0 < b by omega)
   have:=æ a hz;omega
  .rw[Rb a b ha (by omega)]
   exact hg
structure Sz (r:Rat):Prop where
 n:r.num.natAbs < 2^4000
 d:r.den < 2^4000
theorem Sz.di{r:Rat}(h:Sz r):(r.den:Int).natAbs < 2^4000:=by rw[Ŭ];exact h.d
theorem lgd(h:n < 2^4000):n.log2 < 4000:=JF (by decide) h
theorem qM(h:n < 2^4000):n.log2 < 1000000:=ú (lgd h) (by decide)
theorem N2{a b:Nat}(h:a < 2^4000)(h':b < 2^4000):(a * b).log2 < 9000:=by
 refine ú (JF (k:=4000+4000) (by decide) ?_) (by decide);rw[a4y];exact Nat.mul_lt_mul'' h h'
section
variable{a b:Rat}
theorem SG(ha:Sz a)(hb:Sz b):AM [.d<|fR a,.d<|fR b]=ž (.d<|fR<|a+b,[.d<|fR a,.d<|fR b]):=by
 refine iB ?_;have da:=Dj a;have db:=Dj b;have MF:((a.den:Int) * (b.den:Int))≠0:=Int.mul_ne_zero (by omega) (by omega);have lf:=Ta (n:=a.num * (b.den:Int)+b.num * (a.den:Int)) MF (by rw[ϩ,Ŭ,Ŭ];exact N2 ha.d hb.d);rw[zw9]at lf;simp![AM,SI,Al (qM ha.n)<|qM hb.di,Al (qM hb.n)<|qM ha.di,Al (qM ha.di)<|qM hb.di,lf]
theorem zlf(ha:Sz a)(hb:Sz b):ER [.d<|fR a,.d<|fR b]=ž (.d<|fR<|a * b,[.d<|fR a,.d<|fR b]):=by
 refine iB ?_;have da:=Dj a;have db:=Dj b;have MF:((a.den:Int) * (b.den:Int))≠0:=Int.mul_ne_zero (by omega) (by omega);have lf:=Ta (n:=a.num * b.num) MF (by rw[ϩ,Ŭ,Ŭ];exact N2 ha.d hb.d);rw[Zf]at lf;simp![ER,SR,Al (qM ha.n)<|qM hb.n,Al (qM ha.di)<|qM hb.di,lf]
end
theorem xh{M:Nat}{r:Rat}(h:Bd M B r)(hM:0 < M)(h1:M < 2^4000)(h2:B < 2^4000):Sz r:=by
 have(a,b):=h.size hM;exact⟨Ô b h2,Ô a h1⟩
abbrev GC(p:Pq Rat):U:=.d (.tuple<|iS fR p)
abbrev dT(p:Pq Rat):U:=.d (.dict<|cR fR p)
theorem N1{u:U}{a b:Qb α}:(if u.own=ż/\u.own=Ż then a else b)=b:=a5F λ⟨h,h'⟩=>by rw[h]at h';cases h'
def Ln(n:Nat)(p:Pq α):Prop:=∀t∈p,t.1.length=n
theorem Zo{p:Pq Rat}{u:U}(hu:u.fz=ž (.dict<|cR fR p))(nd:cY p)(hl:p.length < 6):E9 [u]=ž (GC<|oN p,[dT p]):=by
 refine iB ?_;simp![E9,TQ,hu];refine xx (e:=λt=>.tuple [aA t.1,fR t.2]) (by omega) (λt ht ys=>?_) ?_
 .simp![tW nd ht]
 .rw[show(p.map λt=>Ĵ [aA t.1,fR t.2])=iS fR p from rfl]
  simp![zBr (c:=fR) nd<|qj hl ZF]
theorem zmW{M:Nat}{p q:Pq Rat}{u1 u2:U}{s:Int}(L4:As u1=ž (.t<|br fR p))(so:u2.fz=ž (.dict<|cR fR q))(hs:s=1\/s=-1)(np:cY p)(nq:cY q)(hp:PB M B p)(hq:PB M B q)(hM:0 < M)(h1:M < 2^4000)(h2:B+q.length * B < 2^4000)(l1:p.length < 64)(l2:q.length < 64):
  E2 [u1,u2,.d<|.int s]=ž (.t<|br fR<|nz<|iu p<|hG s q,[u1,dT q,.d<|.int s]):=by
 refine iB ?_;have sp:hG s q=q.map λt=>(t.1,(s:Rat) * t.2):=rfl;simp![E2,T8,L4,so];refine j7 (λbs cs ρ=>∃o4 o5,ρ=[ž u1,ž<|dT q,ž<|.d<|.int s,ž<|.t<|br fR<|iu p<|hG s bs,o4,o5,Ž]) ⟨_,_,rfl⟩ ?_ ?_
 .rintro bs t cs _ e ⟨o4,o5,rfl⟩
  have tq:t∈q:=by rw[e];simp
  have lb:bs.length+1<=q.length:=by rw[e,qu,qv];omega
  have gl:=Eb (hG s bs) p;rw[show(hG s bs).length=bs.length from Ħ ..]at gl;have gb:PB M (B+q.length * B) (iu p<|hG s bs):=λv hv=>(OA (hG s bs) hp (Ox hs λw hw=>hq w (by rw[e];exact Í _ hw)) v hv).le (by
   rw[show(hG s bs).length=bs.length from Ħ ..];have:=Ý B (show bs.length<=q.length by omega);omega)
  have s1:=xh (IM gb t.1) hM h1 h2;have s2:Sz ((s:Rat) * t.2):=xh (Ox hs hq (t.1,(s:Rat) * t.2)<|À.mpr ⟨t,tq,rfl⟩) hM h1 (by omega);simp![tW nq tq,zBv hs,SG s1 s2];rw[CM (by omega)];simp!;rw[show hG s (bs++[t])=hG s bs++[(t.1,(s:Rat) * t.2)] by unfold hG;rw[ĵ];rfl,Qp];exact⟨_,_,rfl⟩
 .rintro _ ⟨o4,o5,rfl⟩
  have gn:cY (iu p<|hG s q):=D3 _ np;have gl:=Eb (hG s q) p;rw[show(hG s q).length=q.length from Ħ ..]at gl;generalize iu p (hG s q)=r at gn gl;simp!;refine j7 (λbs cs ρ=>∃o4,ρ=[ž u1,ž<|dT q,ž<|.d<|.int s,ž<|dT r,o4,o5,ž<|.t<|br fR<|nz bs]) ⟨_,rfl⟩ ?_ ?_
  .rintro bs t cs _ e ⟨o4,rfl⟩
   have tr:t∈r:=by rw[e];simp
   have ln:(nz bs).length<=bs.length:=Ñ _ _;have lb:bs.length+1<=r.length:=by rw[e,qu,qv];omega
   simp![tW gn tr,Oy];rw[Pa]
   by_cases z:t.2=0
   .simp![z,ne_eq]
    exact⟨_,rfl⟩
   .simp![z,ne_eq,tW gn tr,CM (c:=fR) (p:=nz bs) (k:=t.1) (x:=t.2) (by omega)]
    rw[Ov (cs:=cs) (by rw[<-e];exact gn)];exact⟨_,rfl⟩
  .rintro _ ⟨o4,rfl⟩
   simp![N1]
theorem zmX{M N C:Nat}{p q:Pq Rat}{u1 u2:U}{Q:U×Qa U->Prop}(L4:u1.fz=ž (.dict<|cR fR p))(so:u2.fz=ž (.dict<|cR fR q))(np:cY p)(nq:cY q)(hp:PB M B p)(hq:PB N C q)(lp:Ln n p)(lq:Ln n q)(ln:n < 64)(hM:0 < M)(hN:0 < N)(h1:M * N < 2^4000)(h2:M < 2^4000)(h3:N < 2^4000)(h4:B < 2^4000)(h5:C < 2^4000)(h6:p.length * q.length * (B * C) < 2^4000)(hBC:0 < B * C)
  (l1:p.length * q.length < 64) (lp6:p.length < 64) (lq6:q.length < 64) (kq:∀KY,KY.fz=ž (.dict<|cR fR q)->Q (.t<|br fR<|nz<|iu []<|iI p q,[dT p,KY])):Wo (E7 [u1,u2]) Q:=by
 have fin:∀(o1 o3 o4 o5 o6:Qb U) (r:Pq Rat),cY r->r.length < 64->∀(Q:Fl->Prop),(∀o5,Q<|.nx [ž<|dT p,o1,ž<|dT r,o3,o4,o5,o6,ž<|.t<|br fR<|nz r])->Wo (iM (zx 5) (bV (mB<|ao (cp ż) (ao aT (iL (zi 2)<|zi 5)<|mC<|.int 0)<|mC<|.int 0) (pP 7 (zi 5)<|iL (zi 2)<|zi 5) cF) (r.map λt=>aA t.1) [ž<|dT p,o1,ž<|dT r,o3,o4,o5,o6,ž<|.t []]) Q:=by
  intro o1 o3 o4 o5 o6 r gn gl Q hQ;refine j7 (λbs cs ρ=>∃o5,ρ=[ž<|dT p,o1,ž<|dT r,o3,o4,o5,o6,ž<|.t<|br fR<|nz bs]) ⟨_,rfl⟩ ?_ ?_
  .rintro bs t cs _ e ⟨o5,rfl⟩
   have tr:t∈r:=by rw[e];simp
   have ln:(nz bs).length<=bs.length:=Ñ _ _;have lb:bs.length+1<=r.length:=by rw[e,qu,qv];omega
   simp![tW gn tr,Oy];rw[Pa]
   by_cases z:t.2=0
   .simp![z,ne_eq]
    exact⟨_,rfl⟩
   .simp![z,ne_eq,tW gn tr,CM (c:=fR) (p:=nz bs) (k:=t.1) (x:=t.2) (by omega)]
    rw[Ov (cs:=cs) (by rw[<-e];exact gn)];exact⟨_,rfl⟩
  .rintro _ ⟨o5,rfl⟩
   exact hQ o5
 simp![E7,TK,L4];refine j7 (λbs cs ρ=>∃(x:U) (o3 o4 o5 o6:Qb U),ρ=[ž<|dT p,ž x,ž<|.t<|br fR<|iu []<|iI bs q,o3,o4,o5,o6,Ž]/\(x=u2\/x=dT q)) ⟨u2,_,_,_,_,rfl,.inl rfl⟩ ?_ ?_
 .rintro bs s cs _ e ⟨x,o3,o4,o5,o6,rfl,mU⟩
  have hx:x.fz=ž (.dict<|cR fR q):=by
   rcases mU with rfl|rfl
   .exact so
   .rfl
  have sp:s∈p:=by rw[e];simp
  have lbs:bs.length+1<=p.length:=by rw[e,qu,qv];omega
  have lpm:(iI bs q).length+q.length<=p.length * q.length:=by
   rw[Qm];have:=Ý q.length lbs;rw[a0B,a1v]at this;exact this
  simp![hx];refine j7 (λds fs ρ=>∃(o4 o5 o6:Qb U),ρ=[ž<|dT p,ž<|dT q,ž<|.t<|br fR<|iu []<|iI bs q++ds.map λt=>(iJ s.1 t.1,s.2 * t.2),ž<|.d<|aA s.1,o4,o5,o6,Ž]) ⟨_,_,_,by rw[ŵ,ń]⟩ ?_ ?_
  .rintro ds t fs _ e2 ⟨o4,o5,o6,rfl⟩
   have tq:t∈q:=by rw[e2];simp
   have lds:ds.length+1<=q.length:=by rw[e2,qu,qv];omega
   have hle:s.1.length=t.1.length:=by rw[lp s sp,lq t tq]
   have s1:=xh (hp s sp) hM h2 h4;have s2:=xh (hq t tq) hN h3 h5;have hb:PB (M * N) (B * C) (iI bs q++ds.map λt=>(iJ s.1 t.1,s.2 * t.2)):=λv hv=>by
    rcases Á.mp hv with z|z
    .have(a,ha,b,hb,rfl):=Za z
     exact(hp a (by rw[e];exact Í _ ha)).mul<|hq b hb
    .have(b,hb,rfl):=À.mp z
     exact(hp s sp).mul<|hq b (by rw[e2];exact Í _ hb)
   have ll:(iI bs q++ds.map λt=>(iJ s.1 t.1,s.2 * t.2)).length<=p.length * q.length:=by
    rw[qu,Ħ];omega
   have gl:=Eb (iI bs q++ds.map λt=>(iJ s.1 t.1,s.2 * t.2)) [];rw[š,Ţ]at gl;have gb:PB (M * N) (p.length * q.length * (B * C)) (iu []<|iI bs q++ds.map λt=>(iJ s.1 t.1,s.2 * t.2)):=λv hv=>(OA _ (C:=0) pb0 hb v hv).le (by
    have:=Ý (B * C) ll;omega)
   have s3:=xh (IM gb<|iJ s.1 t.1) (a4z hM hN) h1 h6;have s4:Sz (s.2 * t.2):=xh ((hp s sp).mul<|hq t tq) (a4z hM hN) h1 (by
    have h7:1 * (B * C)<=p.length * q.length * (B * C):=Ý _ (by
     have:1 * 1<=p.length * q.length:=Ö (by omega) (by omega);omega)
    omega)
   simp![Jt hle];refine xx (e:=λt=>.int<|t.1+t.2) (by rw[Ϸ,lp s sp];omega) (λt ht ys=>?_) ?_
   .simp!
   .rw[show((s.1.zip t.1).map λt=>į<|t.1+t.2)=(iJ s.1 t.1).map į by unfold iJ;rw[a5m,List.zip,a5m]]
    simp![show Ĵ ((iJ s.1 t.1).map į)=aA (iJ s.1 t.1) from rfl,tW np sp,tW nq tq,zlf s1 s2,SG s3 s4];rw[CM (by omega)];simp!;rw[ĵ,<-ĸ,Ī,ŵ,Qp];exact⟨_,_,_,rfl⟩
  .rintro _ ⟨o4,o5,o6,rfl⟩
   simp!;rw[zre];exact⟨dT q,_,_,_,_,rfl,.inr rfl⟩
 .rintro _ ⟨x,o3,o4,o5,o6,rfl,hx⟩
  have gl:=Eb (iI p q) [];rw[š,Qm]at gl;simp!;refine fin _ _ _ _ _ _ (D3 _ LC) (by omega) _ λo5=>?_;rcases hx with rfl|rfl
  .simp![N1]
   exact kq x so
  .simp!
   exact kq (dT q) rfl
noncomputable def zs(n:Nat):Qa Int:=Ĩ n 0
noncomputable def JV(n k:Nat):Qa Int:=Ĩ k 0++[1]++Ĩ (n - k - 1) 0
def wU(n:Nat)(f:Rat):Pq Rat:=if f=0 then []else [(zs n,f)]
theorem HG(k:Nat):Ĵ (Ĩ k [į 0]).flatten=aA (Ĩ k 0):=by
 unfold aA;congr 1
 induction k with
 |zero=>rfl
 |succ k ih=>rw[ŕ,ű,ŕ,Ī,<-ih];rfl
theorem zvu(r:Rat):decide (r.num=0)=decide (r=0):=decide_eq_decide.mpr Rat.num_eq_zero
theorem zjf{f:Rat}(hn:n<=3):AQ [.d<|.int (n:Int),.d<|fR f]=ž (.t<|br fR<|wU n f,[.d<|.int (n:Int),.d<|fR f]):=by
 refine iB ?_;simp![AQ,Uo,zvu];unfold wU
 by_cases z:f=0
 .simp![z]
  rfl
 .simp![z,HG,Ŀ]
  rfl
theorem Uu{k:Int}(h:k < 1000)(h2:-1000 < k):sZ (.d<|aA [0]) (.d<|.int k)=ž (.d<|aA<|Ĩ k.toNat 0):=by
 rw[<-HG];exact Ri (xs:=[.int 0]) (by decide) h h2 (by decide)
theorem zjg{k:Nat}(hk:k < n)(hn:n<=3):AO [.d<|.int (n:Int),.d<|.int (k:Int)]=ž (.t<|br fR [(JV n k,1)],[.d<|.int (n:Int),.d<|.int (k:Int)]):=by
 refine iB ?_;have e:((n:Int) - (k:Int) - 1).toNat=n - k - 1:=by omega
 simp![AO,Ul,HG,Ŀ,e,zBx,zBs,UI (a:=Ĩ k 0) (b:=[1]) (by rw[Ĺ];show k+1<=1000;omega),UI (a:=Ĩ k 0++[1]) (b:=Ĩ (n - k - 1) 0) (by rw[qu,Ĺ,Ĺ];show k+1+_<=1000;omega),Uu (k:=(k:Int)) (by omega) (by omega),Uu (k:=(n:Int) - (k:Int) - 1) (by omega) (by omega)];rfl
theorem Vy{t:Qa Int×Rat}:cY [t]:=by unfold cY;simp
end Internal.K56
open PySem Internal
namespace Internal.K56
open PySem Internal
def pF(v:Qa Int):Pq Rat:=(nb v).map λp=>([(p.1:Int)],((p.2:Int):Rat))
def pV(v:Qa Int):Pq Rat:=nz (pF v)
theorem pX{g:Qa Int->Rat}:bD (pF v) g=(v.getD 0 0:Rat) * g [0]+((v.getD 1 0:Rat) * g [1]+((v.getD 2 0:Rat) * g [2]+((v.getD 3 0:Rat) * g [3]+((v.getD 4 0:Rat) * g [4]+0)))):=rfl
theorem zEw:(pF v).Pairwise r8:=by
 have h:∀a b:Int,a < b->∀x y:Rat,r8 ([a],x) ([b],y):=λa b sH x y=>by
  unfold r8;simp[dW,sH];omega
 unfold pF nb;simp only[Ī,ŵ,List.pairwise_cons,qw,ľ,or_false];refine⟨?_,?_,?_,?_,?_,a1g⟩<;>rintro t ht
 .rcases ht with rfl|rfl|rfl|rfl<;>exact h _ _ (by decide) _ _
 .rcases ht with rfl|rfl|rfl<;>exact h _ _ (by decide) _ _
 .rcases ht with rfl|rfl<;>exact h _ _ (by decide) _ _
 .subst ht
  exact h _ _ (by decide) _ _
 .exact ht.elim
theorem zEx:Nf (pV v):=⟨zEw.sublist List.filter_sublist,λt ht=>by simpa using (â.mp ht).2⟩
structure Pv (v:Qa Int) (p:Pq Rat):Prop where
 nd:cY p
 sr:oN p=pV v
theorem Pv.bD{p:Pq Rat}(h:Pv v p)(g:Qa Int->Rat):Internal.bD p g=Internal.bD (pF v) g:=by
 rw[<-Qo (oz p) g,h.sr];exact HP _ g
theorem Ng{r:Pq Rat}(nd:cY r)(h:∀g,bD r g=bD (pF v) g):Pv v (nz r):=⟨NC nd,Pc (zBq nd) zEx λg=>by rw[Zd,h];exact(HP _ g).symm⟩
theorem Pv.mem{p:Pq Rat}(h:Pv v p){t:Qa Int×Rat}(ht:t∈p):∃k:Nat,k<=4/\t.1=[(k:Int)]/\t.2=(v.getD k 0:Rat):=by
 have:=(oz p).mem_iff.mpr ht;rw[h.sr]at this;have(q,hq,rfl):=À.mp (â.mp this).1;simp only[nb,qw,ľ,or_false]at hq;rcases hq with rfl|rfl|rfl|rfl|rfl
 .exact⟨0,by decide,rfl,rfl⟩
 .exact⟨1,by decide,rfl,rfl⟩
 .exact⟨2,by decide,rfl,rfl⟩
 .exact⟨3,by decide,rfl,rfl⟩
 .exact⟨4,by decide,rfl,rfl⟩
theorem Pv.len{p:Pq Rat}(h:Pv v p):p.length<=5:=by
 rw[<-(oz p).length_eq,h.sr];exact qA (Ñ _ _)<|qf _
theorem Pv.ln{p:Pq Rat}(h:Pv v p):Ln 1 p:=λt ht=>by
 have(k,_,e,_):=h.mem ht;rw[e];rfl
theorem Pv.bd{p:Pq Rat}(h:Pv v p)(hb:∀k:Nat,(v.getD k 0).natAbs<=B):PB 1 B p:=λt ht=>by
 have(k,_,_,e):=h.mem ht;rw[e];exact(Bd.int _).le<|hb k
theorem Pv.add{s:Int}{w:Qa Int}{p q:Pq Rat}(hs:s=1\/s=-1)(hv:v.length=5)(hw:w.length=5)(h:Pv v p)(h':Pv w q):Pv (pl s v w) (nz<|iu p<|hG s q):=by
 refine Ng (D3 _ h.nd) λg=>?_;have e1:=h.bD g;have e2:=h'.bD g;have e3:Internal.bD (hG s q) g=(s:Rat) * Internal.bD q g:=by
  rcases hs with rfl|rfl
  .rw[Y9]
   show _=(1:Rat) * _;rw[Ζ]
  .rw[Y8,Zc]
   show _=(-1:Rat) * _;rw[a1t,Ζ]
 rw[Pd _ _ h.nd,e3,e1,e2];rw[pX,pX,pX];rw[gf (by omega),gf (by omega),gf (by omega),gf (by omega),gf (by omega)];simp only[a2O,ψ];grind
theorem Pv.mul{w:Qa Int}{p q:Pq Rat}(hv:v.length=5)(hw:w.length=5)(dv:Dg m v)(dw:Dg n w)(VZ:m+n<=4)(h:Pv v p)(h':Pv w q):Pv (tm v w) (nz<|iu []<|iI p q):=by
 refine Ng (D3 _ LC) λg=>?_;have hz:∀j k:Nat,5<=j+k->((v.getD j 0:Int):Rat) * ((w.getD k 0:Int):Rat)=0:=λj k hjk=>by
  by_cases c:m < j
  .rw[dv j c]
   exact Rat.zero_mul _
  .rw[dw k (by omega)]
   exact Rat.mul_zero _
 rw[Pd _ _ LC,tU,Zb,h.bD];have e:∀a,(Internal.bD q λb=>g<|iJ a b)=Internal.bD (pF w) λb=>g (iJ a b):=λa=>h'.bD _;rw[pX,e,e,e,e,e,pX,pX,pX,pX,pX,pX];have AS:=hz 1 4 (by omega);have z23:=hz 2 3 (by omega);have z24:=hz 2 4 (by omega);have z32:=hz 3 2 (by omega);have z33:=hz 3 3 (by omega);have z34:=hz 3 4 (by omega);have z41:=hz 4 1 (by omega);have z42:=hz 4 2 (by omega);have z43:=hz 4 3 (by omega);have z44:=hz 4 4 (by omega);have(a0,a1,a2,a3,a4,rfl):=pE hv;have(b0,b1,b2,b3,b4,rfl):=pE hw;rw[ya];simp only[iJ,List.zipWith_cons_cons,List.zipWith_nil_left,ω,a0a]at AS z23 z24 z32 z33 z34 z41 z42 z43 z44 ⊢;simp only[a2O,ψ];simp only[Int.reduceAdd];clear e h h' hv hw dv dw hz;generalize ((a0:Int):Rat)=A0 at *;generalize ((a1:Int):Rat)=A1 at *;generalize ((a2:Int):Rat)=A2 at *;generalize ((a3:Int):Rat)=A3 at *;generalize ((a4:Int):Rat)=A4 at *;generalize ((b0:Int):Rat)=B0 at *;generalize ((b1:Int):Rat)=B1 at *;generalize ((b2:Int):Rat)=B2 at *;generalize ((b3:Int):Rat)=B3 at *;generalize ((b4:Int):Rat)=B4 at *;generalize g [0]=G0;generalize g [1]=G1;generalize g [2]=G2;generalize g [3]=G3;generalize g [4]=G4;generalize g [5]=G5;generalize g [6]=G6;generalize g [7]=G7;generalize g [8]=G8;grind
end Internal.K56
open PySem Internal
namespace Internal.K56
open PySem Internal
noncomputable def Ee(i c:Nat):Nat:=(i+4) * 3^c
def Nb(B:Nat)(v:Qa Int):Prop:=∀k:Nat,(v.getD k 0).natAbs<=B
theorem Nb.up{C:Nat}(h:Nb B v)(l:B<=C):Nb C v:=λk=>qA (h k) l
def cnt(rs:Qa D)(i:Nat):Nat:=((rs.take i).filter cZ).length
theorem NZ{rs:Qa D}:cnt rs i<=(rs.filter cZ).length:=((a4X i rs).filter cZ).length_le
theorem zEy{rs:Qa D}{r:D}(h:rs[i]?=ž r):cnt rs (i+1)=cnt rs i+if cZ r=ż then 1 else 0:=by
 unfold cnt;have(hi,rfl):=qm.mp h;rw[ό hi,ţ,qu,Ō];split<;>simp
def jy(ps:Qa (Pq Rat)):Qa D:=ps.map λp=>.dict<|cR fR p
theorem Zn{c d:Nat}(h:c<=d):Ee i c<=Ee (i+1) d:=Ö (by omega) (È (by omega) h)
theorem nb1:Nb 1 CQ:=λk=>by
 match k with
 |0=>decide
 |1|2|3|4=>decide
 |k+5=>exact Ç _
theorem nbx:Nb 1 x5:=λk=>by
 match k with
 |0=>decide
 |1|2|3|4=>decide
 |k+5=>exact Ç _
theorem pv0:Pv fC (wU 1 0):=by
 refine⟨a2X,?_⟩;rfl
theorem pv1:Pv CQ (wU 1 1):=by
 refine⟨Vy,?_⟩;rfl
theorem pvx:Pv x5 [(JV 1 0,1)]:=by
 refine⟨Vy,?_⟩;rfl
theorem zFl{c:Nat}:Ee i c+1<=Ee (i+1) c:=by
 have h1:=Nat.one_le_pow c 3 (by omega);have h2:Ee (i+1) c=Ee i c+3^c:=a3Q (i+4) (3^c);omega
theorem zEz{s:Int}{a b:Qa Int}(hs:s=1\/s=-1)(h:a.length=b.length)(ha:Nb B a)(hb:Nb B b):Nb (2 * B) (pl s a b):=λk=>by
 rw[gf h];have:=ha k;have:=hb k;rcases hs with rfl|rfl<;>omega
theorem zFm{c:Nat}:3+(Ee i c+Ee i c)<=Ee (i+1) (c+1):=by
 have h1:=Nat.one_le_pow c 3 (by omega);have h2:Ee (i+1) (c+1)=Ee (i+1) c * 3:=by
  unfold Ee;rw[Nat.pow_succ,Nat.mul_assoc]
 have h3:Ee (i+1) c=Ee i c+3^c:=a3Q (i+4) (3^c);omega
theorem jY{x y:Int}{C:Nat}(hC:B * B=C)(hx:x.natAbs<=B)(hy:y.natAbs<=B):-(C:Int)<=x * y/\x * y<=C:=by
 have h:(x * y).natAbs<=C:=by
  rw[ϩ,<-hC];exact Ö hx hy
 omega
theorem zEA{a b:Qa Int}(la:a.length=5)(lb:b.length=5)(ha:Nb B a)(hb:Nb B b):Nb (8 * (B * B)) (tm a b):=by
 have(a0,a1,a2,a3,a4,rfl):=pE la;have(b0,b1,b2,b3,b4,rfl):=pE lb;generalize hC:B * B=C;have m00:=jY hC (ha 0) (hb 0);have m01:=jY hC (ha 0) (hb 1);have m02:=jY hC (ha 0) (hb 2);have m03:=jY hC (ha 0) (hb 3);have m04:=jY hC (ha 0) (hb 4);have m10:=jY hC (ha 1) (hb 0);have m11:=jY hC (ha 1) (hb 1);have m12:=jY hC (ha 1) (hb 2);have m13:=jY hC (ha 1) (hb 3);have m20:=jY hC (ha 2) (hb 0);have m21:=jY hC (ha 2) (hb 1);have m22:=jY hC (ha 2) (hb 2);have m30:=jY hC (ha 3) (hb 0);have m31:=jY hC (ha 3) (hb 1);have m40:=jY hC (ha 4) (hb 0);simp only[ω,a0a]at m00 m01 m02 m03 m04 m10 m11 m12 m13 m20 m21 m22 m30 m31 m40;clear ha hb la lb hC;generalize BM:a0 * b0=q00 at *;generalize BK:a0 * b1=q01 at *;generalize BJ:a0 * b2=q02 at *;generalize BI:a0 * b3=q03 at *;generalize BH:a0 * b4=q04 at *;generalize BG:a1 * b0=Vr at *;generalize BF:a1 * b1=q11 at *;generalize BE:a1 * b2=q12 at *;generalize BD:a1 * b3=q13 at *;generalize BC:a2 * b0=q20 at *;generalize BB:a2 * b1=q21 at *;generalize BA:a2 * b2=q22 at *;generalize Bz:a3 * b0=q30 at *;generalize Bx:a3 * b1=q31 at *;generalize Bw:a4 * b0=q40 at *;rw[ya];rw[BM,BK,BJ,BI,BH,BG,BF,BE,BD,BC,BB,BA,Bz,Bx,Bw];clear BM BK BJ BI BH BG BF BE BD BC BB BA Bz Bx Bw;intro k;rcases k with _|_|_|_|_|k
 all_goals simp only[ω,a0a,List.getD_nil]
 all_goals omega
noncomputable def yS:Qa (Qa Int):=[[0],[1],[2],[3],[4]]
theorem zCo:(yS.map λa=>hT<|kL a).Nodup:=by decide +kernel
theorem zEB{p:Pq Rat}(h:Pv v p):GY p:=by
 have inj:∀a∈yS,∀b∈yS,hT (kL a)=hT (kL b)->a=b:=Ou zCo;have ky:∀t∈p,t.1∈yS:=λt ht=>by
  have(k,hk,e,_):=h.mem ht;rw[e];rcases(by omega:k=0\/k=1\/k=2\/k=3\/k=4)with rfl|rfl|rfl|rfl|rfl<;>decide
 have nd:=h.nd;unfold GY u7;rw[a1q];constructor
 .rw[a0O]
  intro ks hk;have(a,_,rfl):=À.mp hk;rw[J3,a0O];intro k hk;have(i,_,rfl):=À.mp hk;rfl
 .rw[decide_eq_true_iff,Ł]
  have mem:∀a∈p.map (·.1),a∈yS:=λa ha=>by
   have(t,ht,rfl):=À.mp ha;exact ky t ht
  refine List.pairwise_map.mpr<|List.Pairwise.imp_of_mem (λ{a b} ha hb (uw:a≠b)=>?_) nd;exact λe=>uw<|inj a (mem a ha) b (mem b hb) e
theorem Nd:iS fR (pV l)=(jf l).map fW:=by
 unfold iS pV nz pF jf;rw[a5z,Ł,Ł];have e:((λt:Qa Int×Rat=>decide<|t.2≠0) ∘ λp:Nat×Int=>([(p.1:Int)],((p.2:Int):Rat)))=λp=>!decide (p.2=0):=by
  funext p
  simp
 rw[e];rfl
theorem zvw{tp:TP}{c:Nat}{d:D}(h:Rw tp vs c i d v):∃w,aT (.d d) (.d<|.int 0)=ž (.d<|.str w)/\cp Ż (.d<|.str w) (.d<|.str "times")=ž (.d<|.bool<|cZ d):=by
 cases h<;>exact⟨_,rfl,rfl⟩
theorem zlg{x:D}{Q:U×Qa U->Prop}(hm:m<=2)(h5:l.length=5)(h:Rk m l x)(q:Q (.d<|.int (m:Int),[.d x,.d<|.tuple<|(jf l).map fW])):Wo (E4 [.d x,.d<|.tuple<|(jf l).map fW]) Q:=by
 have(rs,vs,rfl,jD,hl,hc,bB):=h.ex;have nx:fA 1 100 (Ĵ [.str "x"]):=(jv (n:=1) (k:=0) (M:=12) (λd hd=>by
  rw[qr.mp hd];exact oE (n:=1) (by unfold kZ;decide))<|qf _).mono (by decide) (by decide)
 have ex:fE ż (.d<|Ĵ [.str "x"]) (.d<|.tuple [.str "x"])=ž (.d<|.bool Ż):=by
  rw[nx.uH nx (by decide) (by decide)];rfl
 simp![E4,Ut,ex];refine xM (λi ρ=>i<=rs.length/\∃ps v3 v4,ϥ ps=i/\(∀j p v,ps[j]?=ž p->vs[j]?=ž v->Pv v p)/\(∀j v,j < i->vs[j]?=ž v->Nb (2^Ee i (cnt rs i)) v)/\ρ=[ž<|.d<|.tuple [.tuple [.str "x"],.tuple rs],ž<|.d<|.tuple<|(jf l).map fW,ž<|.l<|jy ps,v3,v4]) ⟨by omega,[],_,_,rfl,λj p v e=>(by rw[List.getElem?_nil]at e;cases e),λj v hj=>absurd hj<|Nat.not_lt_zero _,rfl⟩ ?_ ?_
 .rintro i row ρ hd ⟨_,ps,v3,v4,dN,BN,BR,rfl⟩
  have hi:=(qm.mp hd).1;have fK:i < vs.length:=by rw[<-jD.1];exact hi
  have hr:=jD.2.2 i row _ hd (qo fK);generalize hvv:vs[i]=vv at hr;have Ws:vs[i]?=ž vv:=by rw[<-hvv];exact qo fK
  have hz:(jy ps).length < 16777216:=by
   rw[jy,Ħ];omega
  have cs:=zEy hd;have cle:=NZ (rs:=rs) (i:=i+1);have Cy:cnt rs i<=cnt rs (i+1):=by omega
  have Cs:2^Ee i (cnt rs i)<=2^Ee (i+1) (cnt rs<|i+1):=È (by omega) (Zn Cy);have MD:Ee i (cnt rs i)<=1116:=Ö (show i+4<=124 by omega) (È (n:=3) (by omega) (show cnt rs i<=2 by omega));have M1:2^Ee i (cnt rs i)<=2^1116:=È (by omega) MD;have fin:∀(p':Pq Rat) v3 v4,Pv vv p'->Nb (2^Ee (i+1) (cnt rs<|i+1)) vv->(i+1<=rs.length/\∃ua v3' v4',ϥ ua=i+1/\(∀j p v,ua[j]?=ž p->vs[j]?=ž v->Pv v p)/\(∀j v,j < i+1->vs[j]?=ž v->Nb (2^Ee (i+1) (cnt rs<|i+1)) v)/\[ž<|U.d<|.tuple [.tuple [.str "x"],.tuple rs],ž<|.d<|.tuple<|(jf l).map fW,ž<|.l<|jy ps++[.dict<|cR fR p'],v3,v4]=[ž<|.d<|.tuple [.tuple [.str "x"],.tuple rs],ž<|.d<|.tuple<|(jf l).map fW,ž<|.l<|jy ua,v3',v4']):=λp' v3 v4 uu eS=>by
   refine⟨hi,ps++[p'],v3,v4,by simp[dN],λj p v e1 e2=>?_,λj v hj e2=>?_,by rw[show jy ps++[.dict<|cR fR p']=jy (ps++[p']) by unfold jy;rw[ĵ];rfl]⟩
   .by_cases hj:j < ps.length
    .rw[ĳ hj]at e1
     exact BN j p v e1 e2
    .have sF:=(qm.mp e1).1
     rw[qu,Ŝ]at sF;have ej:j=i:=by omega
     subst ej;rw[<-dN,ı<|qf _,a1d]at e1;cases e1;rw[Ws]at e2;cases e2;exact uu
   .by_cases sF:j < i
    .exact(BR j v sF e2).up Cs
    .have ej:j=i:=by omega
     subst ej;rw[Ws]at e2;cases e2;exact eS
  have one:1<=2^Ee (i+1) (cnt rs<|i+1):=Nat.one_le_two_pow;have nl:fA 1 1000 (Ĵ [.str "letter",.int 0]):=(jv (n:=2) (k:=0) (M:=102) (λd hd=>by
   simp only[qw,ľ,or_false]at hd;rcases hd with rfl|rfl
   .exact oE (n:=10) (by unfold kZ;decide)
   .exact(vk (n:=1) (by decide)).mono (by decide) (by decide))<|qf _).mono (by decide) (by decide)
  have nr:∀{w:Str} {a b:Nat},kZ 10 w->a < 200->b < 200->fA 1 1000 (Ĵ [.str w,.int (a:Int),.int (b:Int)]):=λ{w a b} hw ha hb=>(jv (n:=3) (k:=0) (M:=102) (λd hd=>by
   simp only[qw,ľ,or_false]at hd;rcases hd with rfl|rfl|rfl
   .exact oE (n:=10) hw
   .exact(vk (n:=3) (by omega)).mono (by decide) (by decide)
   .exact(vk (n:=3) (by omega)).mono (by decide) (by decide))<|qf _).mono (by decide) (by decide)
  have at_:∀{a:Nat},a < i->∃p,bt (jy ps) (a:Int)=ž (.dict<|cR fR p)/\ps[a]?=ž p:=λ{a} ha=>by
   have h1:a < ps.length:=by omega
   refine⟨ps[a],atK rfl ?_,qo h1⟩;unfold jy;rw[ĭ,qo h1];rfl
  have two:∀{a b:Nat} {va vb:Qa Int},a < i->b < i->vs[a]?=ž va->vs[b]?=ž vb->∃p1 p2,(bt (jy ps) (a:Int)=ž (.dict<|cR fR p1)/\bt (jy ps) (b:Int)=ž (.dict<|cR fR p2))/\Pv va p1/\Pv vb p2/\Nb (2^Ee i (cnt rs i)) va/\Nb (2^Ee i (cnt rs i)) vb/\va.length=5/\vb.length=5:=λ{a b va vb} ha hb ea eb=>by
   have(p1,wB,hp1):=at_ ha;have(p2,qW,sE):=at_ hb;exact⟨p1,p2,⟨wB,qW⟩,BN a p1 va hp1 ea,BN b p2 vb sE eb,BR a va ha ea,BR b vb hb eb,jD.2.1 va<|Ä ea,jD.2.1 vb<|Ä eb⟩
  have en:∀{w:Str} {a b:Nat},a < i->b < i->(w = "plus"\/w = "less"\/w = "times")->fE Ż (.d<|Ĵ [.str w,.int (a:Int),.int (b:Int)]) (.d<|Ĵ [.str "letter",.int 0])=ž (.d<|.bool Ż)/\Mw ż (.d<|a0K w) (.d<|Ĵ [.str "plus",.str "less",.str "times"])=ž (.d<|.bool Ż):=λ{w a b} ha hb hw=>by
   rcases hw with rfl|rfl|rfl<;>refine⟨?_,rfl⟩<;>rw[(nr (by unfold kZ;decide) (show a < 200 by omega) (show b < 200 by omega)).uH nl (by decide) (by decide)]<;>rfl
  have sum:=λ(s:Int) (va vb:Qa Int) (p1 p2:Pq Rat) (hs:s=1\/s=-1) (v1:Pv va p1) (v2:Pv vb p2) (n1:Nb (2^Ee i (cnt rs i)) va) (n2:Nb (2^Ee i (cnt rs i)) vb)=>zmW (s:=s) (M:=1) (u1:=dT p1) (u2:=dT p2) (zDU<|zEB v1) rfl hs v1.nd v2.nd (v1.bd n1) (v2.bd n2) (by omega) (by decide) (Ô (show _<=6 * 2^1116 by have:=Ý (2^Ee i (cnt rs i)) v2.len;omega) (by decide)) (by have:=v1.len;omega) (by have:=v2.len;omega);have Vz:∀{s:Int} {va vb:Qa Int},(s=1\/s=-1)->va.length=5->vb.length=5->cnt rs (i+1)=cnt rs i->Nb (2^Ee i (cnt rs i)) va->Nb (2^Ee i (cnt rs i)) vb->Nb (2^Ee (i+1) (cnt rs<|i+1)) (pl s va vb):=λ{s va vb} hs f1 f2 c0 n1 n2=>by
   rw[c0];exact(zEz hs (f1.trans f2.symm) n1 n2).up (by
    rw[<-Nat.pow_succ'];exact È (by omega) zFl)
  by_cases hn:∃f:Rat,row=Ĵ [.str "number",fR f]/\Pv vv (wU 1 f)/\Nb (2^Ee (i+1) (cnt rs<|i+1)) vv
  .have(f,rfl,hp,hb):=hn
   have pn:AQ [.d<|.int 1,.d<|fR f]=ž (.t<|br fR<|wU 1 f,[.d<|.int 1,.d<|fR f]):=zjf (n:=1) (f:=f) (by omega);have lf:eE (.d<|fR f)=ž (.d<|.int 2):=rfl;have tf:iK "tuple" (.d<|fR f)=ž (.d<|.bool ż):=rfl;simp![pn,hz,lf,tf];exact fin _ _ _ hp hb
  cases hr with
  |mP=>exact absurd ⟨0,rfl,pv0,λk=>by rw[yT];exact Ç _⟩ hn
  |mO=>exact absurd ⟨1,rfl,pv1,Nb.up nb1 one⟩ hn
  |eN=>
   unfold lD;have el:fE Ż (.d<|Ĵ [.str "letter",.int 0]) (.d<|Ĵ [.str "letter",.int 0])=ž (.d<|.bool ż):=by
    rw[nl.uH nl (by decide) (by decide)];rfl
   have pn:AO [.d<|.int 1,.d<|.int 0]=ž (.t<|br fR [(JV 1 0,1)],[.d<|.int 1,.d<|.int 0]):=zjg (n:=1) (k:=0) (by omega) (by omega);simp![el,pn,hz];exact fin _ _ _ pvx<|Nb.up nbx one
  | @plus a b va vb ha hb ea eb=>
   obtain⟨p1,p2,⟨wB,qW⟩,v1,v2,n1,n2,f1,f2⟩:=two ha hb ea eb;have(en,ei):=en ha hb (.inl rfl);unfold r3;simp![en,ei,wB,qW,sum 1 _ _ p1 p2 (.inl rfl) v1 v2 n1 n2,hz];exact fin _ _ _ (v1.add (.inl rfl) f1 f2 v2)<|Vz (.inl rfl) f1 f2 cs n1 n2
  | @less a b va vb ha hb ea eb=>
   obtain⟨p1,p2,⟨wB,qW⟩,v1,v2,n1,n2,f1,f2⟩:=two ha hb ea eb;have(en,ei):=en ha hb (.inr<|.inl rfl);unfold r3;simp![en,ei,wB,qW,sum (-1) _ _ p1 p2 (.inr rfl) v1 v2 n1 n2,hz];exact fin _ _ _ (v1.add (.inr rfl) f1 f2 v2)<|Vz (.inr rfl) f1 f2 cs n1 n2
  | @times a b va vb vv' ha hb ea eb qN=>
   have(rfl,m',n',dm,dn,VZ):=qN;obtain⟨p1,p2,⟨wB,qW⟩,v1,v2,n1,n2,f1,f2⟩:=two ha hb ea eb;have(en,ei):=en ha hb (.inr<|.inr rfl);unfold r3;have l1:=v1.len;have l2:=v2.len;have l12:p1.length * p2.length<=25:=Ö l1 l2;have b2:2^Ee i (cnt rs i) * 2^Ee i (cnt rs i)<=2^1116 * 2^1116:=Ö M1 M1;have lb:p1.length * p2.length * (2^Ee i (cnt rs i) * 2^Ee i (cnt rs i)) < 2^4000:=Ô (Ö l12 b2) (by decide);have bl:2^Ee i (cnt rs i) < 2^4000:=Ô M1 (by decide);simp![en,ei,wB,qW];refine zmX (M:=1) (N:=1) (B:=2^Ee i (cnt rs i)) (C:=2^Ee i (cnt rs i)) (n:=1) (p:=p1) (q:=p2) rfl rfl v1.nd v2.nd (v1.bd n1) (v2.bd n2) v1.ln v2.ln (by omega) (by omega) (by omega) (by decide) (by decide) (by decide) bl bl lb (a4z (a2P _)<|a2P _) (by omega) (by omega) (by omega) λKY so=>?_;simp![hz];have c0:cnt rs (i+1)=cnt rs i+1:=cs;refine fin _ _ _ (v1.mul f1 f2 dm dn VZ v2) ?_;rw[c0];exact(zEA f1 f2 n1 n2).up (by
    rw[<-a4y,show 8=2^3 from rfl,<-a4y];exact È (by omega) zFm)
 .rintro ρ ⟨_,ps,v3,v4,dN,BN,BR,rfl⟩
  obtain⟨ls,V0⟩:∃n,vs.length=n+1:=by
   rcases vs with _|⟨v,vs⟩
   .cases bB
   .exact⟨vs.length,rfl⟩
  have VN:vs[ls]?=ž l:=by
   rw[ϫ,V0]at bB;exact bB
  have VA:ls < ps.length:=by rw[dN,jD.1];omega
  have rT:Pv l ps[ls]:=BN ls _ l (qo VA) VN;have eat:bt (jy ps) (-1)=ž (.dict<|cR fR ps[ls]):=by
   have e1:(jy ps).length=ls+1:=by rw[jy,Ħ,dN,jD.1,V0]
   unfold bt dM;rw[e1,a5F (by omega),a5E (by omega),bd];have e2:(jy ps)[ls]?=ž (.dict<|cR fR ps[ls]):=by
    unfold jy;rw[ĭ,qo VA];rfl
   rw[show(-1+((ls+1:Nat):Int)).toNat=ls by omega];exact e2
  have tk:=Zo (u:=dT ps[ls]) rfl rT.nd (by have:=rT.len;omega);simp![eat,tk];have epT:GC (oN ps[ls])=.d (.tuple<|(jf l).map fW):=by
   rw[rT.sr];unfold GC;rw[Nd]
  rw[epT];have nbl:Nb (2^1116) l:=(BR ls l (by omega) VN).up (È (by omega)<|Ö (show rs.length+4<=124 by omega)<|È (n:=3) (by omega) (show cnt rs rs.length<=2 by have:=NZ (rs:=rs) (i:=rs.length);omega));have nn:=ztT (n:=400) (m:=5) (p:=pV l) (λt ht=>?_) (λt ht=>?_) (λt ht=>?_) (qA (Ñ _ _)<|qf _);rw[Nd]at nn;have ee:fE ż (.d<|.tuple<|(jf l).map fW) (.d<|.tuple<|(jf l).map fW)=ž (.d<|.bool Ż):=by
   rw[nn.uH nn (by decide) (by decide),a5E rfl,SeqAt.eqv_refl _<|SeqAt.canLay_of_shaped<|nn.shaped (by decide)];rfl
  .simp![ee]
   have hz:ħ=16777216:=ş;refine DC (λi ai ys=>ai=[Ž]/\ys=(rs.take i).filter cZ) (by omega) (λi ai ys h=>?_) ⟨rfl,rfl⟩ (λi d ai ys hd h=>?_) λai ys h=>?_
   .rw[h.2]
    exact qA (Ñ _ _) (by simp;omega)
   .have(rfl,rfl):=h
    have hi:=(qm.mp hd).1;have fK:i < vs.length:=by rw[<-jD.1];exact hi
    have hr:=jD.2.2 i d _ hd (qo fK);have et:(rs.take<|i+1).filter cZ=(rs.take i).filter cZ++if cZ d=ż then [d]else []:=by
     have(_,e):=qm.mp hd;rw[ό hi,e,ţ,Ō];split<;>simp
    rw[et];have(w,e0,e1):=zvw hr;simp![e0,e1];cases cZ d<;>simp!<;>simp
   .have(rfl,rfl):=h
    simp!;rw[ϑ,hc];exact q
  .have(k,hk,e1,e2):=rT.mem ((oz ps[ls]).mem_iff.mp (by rw[rT.sr];exact ht))
   rw[e2];show(l.getD k 0).natAbs < _/\1 < _;exact⟨Ô (nbl k) (by decide),by decide⟩
  .have(k,hk,e1,e2):=rT.mem ((oz ps[ls]).mem_iff.mp (by rw[rT.sr];exact ht))
   rw[e1];intro j hj;rw[qr.mp hj];omega
  .have(k,hk,e1,e2):=rT.mem ((oz ps[ls]).mem_iff.mp (by rw[rT.sr];exact ht))
   rw[e1];exact(by decide:1<=3)
end Internal.K56
open PySem Internal
namespace Internal.K56
open PySem Internal
inductive Wd where
 |plus|less|times
 deriving DecidableEq
noncomputable def Wd.s:Wd->Str
 |.plus=> "plus"
 |.less=> "less"
 |.times=> "times"
inductive Rq where
 |num (n:Int)
 |lt
 |bin (w:Wd) (i j:Nat)
def de:Rq->D
 |.num n=>.tuple [.str "number",.tuple [.int n,.int 1]]
 |.lt=>.tuple [.str "letter",.int 0]
 |.bin w i j=>.tuple [.str w.s,.int (i:Int),.int (j:Int)]
abbrev pS(rs:Qa Rq):D:=.tuple (rs.map de)
abbrev jM(rs:Qa Rq):D:=.tuple [.tuple [.str "x"],pS rs]
theorem zCp{rs:Qa Rq}{t:Nat}{r:Rq}(h:rs[t]?=ž r):bt (rs.map de) (t:Int)=ž (de r):=PV (by rw[ĭ,h];rfl)
noncomputable abbrev fg(fl:Qa Bool)(i:Nat):Bool:=fl.getD i Ż
structure Gr (t:Nat) (fl gO:Qa Bool):Prop where
 ln:gO.length=fl.length
 up:∀i,fg fl i=ż->fg gO i=ż
 eq:∀i,t<=i->fg gO i=fg fl i
section
variable{t:Nat}{fl gO Wm:Qa Bool}{p:Nat}
theorem Gr.refl:Gr t fl fl:=⟨rfl,λ_ h=>h,λ_ _=>rfl⟩
theorem Gr.trans(a:Gr t fl gO)(b:Gr t gO Wm):Gr t fl Wm:=⟨b.ln.trans a.ln,λi h=>b.up i<|a.up i h,λi h=>(b.eq i h).trans<|a.eq i h⟩
theorem DQ(h:p < fl.length):fg (fl.set p ż) i=if i=p then ż else fg fl i:=by
 unfold fg;rw[qC,qC]
 by_cases c:p=i
 .subst c
  rw[ŉ h,a5E rfl];rfl
 .rw[qD c,a5F<|ň c]
theorem Gr.set(h:p < t)(hp:p < fl.length):Gr t fl (fl.set p ż):=⟨ù,λi h=>by
 rw[DQ hp];split
 .rfl
 .exact h,λi hi=>by
 rw[DQ hp,a5F (by omega)]⟩
theorem Qx:(fl.map ϴ).set p (.bool ż)=(fl.set p ż).map .bool:=by
 rw[List.map_set]
theorem UE(h:i < fl.length):bt (fl.map ϴ) (i:Int)=ž (.bool<|fg fl i):=by
 refine PV ?_;unfold fg;rw[ĭ,qo h,qC,qo h];rfl
theorem zm0(h:p < fl.length):fg (fl.set p ż) p=ż:=by rw[DQ h,a5E rfl]
end
theorem zED(h:i < n):dM n (i:Int)=ž i:=by
 unfold dM;rw[a5E<|a1S _,a5E (by omega)];rfl
theorem zEE{d:D}:(Ĩ n [d]).flatten=Ĩ n d:=by
 induction n with
 |zero=>rfl
 |succ n ih=>rw[ŕ,ű,ih];rfl
theorem zEF(h:n<=10000):nU (.l [.bool Ż]) (.d<|.int (n:Int))=ž (.l<|(Ĩ n Ż).map .bool):=by
 have hz:ħ=16777216:=ş;have e:nU (.l [.bool Ż]) (.d<|.int (n:Int))=ž (.l (Ĩ (n:Int).toNat [ϴ Ż]).flatten):=by
  unfold nU;dsimp only;rw[a5E ⟨by omega,by omega,by rw[Ŀ,hz];show 1 * n<=_;omega⟩]
 rw[e,Ŀ,zEE,List.map_replicate]
def kE(fl:Qa Bool)(t:Nat):Qa Nat:=(Ń t).filter (fg fl)
def pos(fl:Qa Bool)(t:Nat):Nat:=(kE fl t).length
section
variable{fl:Qa Bool}{t T q a b:Nat}
theorem Na:kE fl (t+1)=kE fl t++(if fg fl t=ż then [t]else []):=by
 unfold kE;rw[a1f,ţ,Ō,List.filter_nil]
theorem M9(h:fg fl t=ż):kE fl (t+1)=kE fl t++[t]:=by rw[Na,a5E h]
theorem M8(h:¬fg fl t=ż):kE fl (t+1)=kE fl t:=by rw[Na,a5F h,ń]
theorem OV:a∈kE fl t↔a < t/\fg fl a=ż:=by
 unfold kE;rw[List.mem_filter,List.mem_range]
theorem HF:pos fl t<=t:=by
 unfold pos kE;have:=Ñ (fg fl) (Ń t);rw[a4Z]at this;exact this
end
def jU(fl:Qa Bool)(t:Nat):Qa (Key×D):=(kE fl t).map λ(a:Nat)=>(.inl (a:Int),.int ((pos fl a:Nat):Int))
theorem zCq{fl:Qa Bool}{t a:Nat}(h:a < t)(f:fg fl a=ż):f9 (jU fl t) (.inl (a:Int))=ž (.int ((pos fl a:Nat):Int)):=by
 have hm:a∈kE fl t:=OV.mpr ⟨h,f⟩;unfold jU;generalize kE fl t=L at hm
 induction L with
 |nil=>cases hm
 |cons b L ih=>
  unfold f9 at *;rw[Ī,ķ]
  by_cases c:b=a
  .subst c
   simp
  .rw[a5H (λz=>c (by injection z with z;exact a1h z))]
   exact ih<|(qw.mp hm).resolve_left λz=>c z.symm
theorem zCr{fl:Qa Bool}{t:Nat}:((jU fl t).any λx=>decide<|x.1=.inl (t:Int))=Ż:=by
 unfold jU;rw[List.any_map,Bool.eq_false_iff];intro z;have(a,ha,e):=á.mp z;have e:=a5I e;injection e with e;have:=(OV.mp ha).1;have:=a1h e;omega
theorem zCs{fl:Qa Bool}{t:Nat}(f:fg fl t=ż)(l:t<=10000):Dy (.k<|jU fl t) (.int (t:Int)) (.int ((pos fl t:Nat):Int))=ž (.k<|jU fl<|t+1):=by
 show(if(jU fl t).length < ħ then ž (U.k<|eC (jU fl t) (.inl (t:Int)) _)else Ž)=_;have hz:ħ=16777216:=ş;have hp:=HF (fl:=fl) (t:=t);rw[a5E (by unfold jU;rw[Ħ,hz];exact Ô hp (by omega))];unfold eC;rw[zCr,a5F (by decide)];unfold jU;rw[M9 f,ĵ];rfl
theorem Wz{fl:Qa Bool}{t a:Nat}(h:a < t)(f:fg fl a=ż):k9 (.k<|jU fl t) (.d<|.int (a:Int))=ž (ž<|.int ((pos fl a:Nat):Int)):=by
 show ž (f9 (jU fl t)<|.inl (a:Int))=_;rw[zCq h f]
noncomputable def Rq.ps:Rq->Qa Nat
 |.bin _ i j=>[i,j]
 |_=>[]
theorem M7:U.rR (.d<|.tuple [])=ž Ż:=rfl
theorem zEG{x:D}{xs:Qa D}:U.rR (.d<|.tuple<|x::xs)=ž ż:=rfl
theorem zEH:rA ["plus", "less", "times", "over"] (.d<|.str "number")=ž (.d<|.bool Ż):=rfl
theorem zEI:rA ["plus", "less", "times", "over"] (.d<|.str "letter")=ž (.d<|.bool Ż):=rfl
theorem M6{w:Wd}:rA ["plus", "less", "times", "over"] (.d<|.str w.s)=ž (.d<|.bool ż):=by cases w<;>rfl
theorem EK{r:Rq}:p8 [.d<|de r]=ž (.d<|.tuple<|(Rq.ps r).map λ(n:Nat)=>.int (n:Int),[.d<|de r]):=by
 refine iB ?_;cases r with
 |num f=>simp![p8,EH,de,zEH];rfl
 |lt=>simp![p8,EH,de,zEI];rfl
 |bin w i j=>
  simp![p8,EH,de,M6];rfl
def RO(rs:Qa Rq):Prop:=∀(t:Nat) (r:Rq),rs[t]?=ž r->∀p∈r.ps,p < t
theorem zEJ(h:1<=n):dM n (-1)=ž (n - 1):=by
 unfold dM;rw[a5F (by decide),a5E (by omega),show((-1:Int)+(n:Int)).toNat=n - 1 by omega]
theorem zjA{rs:Qa Rq}{Q:U×Qa U->Prop}(hr:RO rs)(h1:1<=rs.length)(hl:rs.length<=10000)
  (q:∀fl:Qa Bool,fl.length=rs.length->fg fl (rs.length - 1)=ż->(∀(t:Nat) (r:Rq),rs[t]?=ž r->fg fl t=ż->∀p∈r.ps,fg fl p=ż)->Q (.l<|fl.map .bool,[.d<|pS rs])):
  Wo (ES [.d<|pS rs]) Q:=by
 have ll:(rs.map de).length=rs.length:=Ħ _;have dn:=Rn (i:=(rs.length:Int) - 1) (j:=-1) (by omega) (by omega) (by decide) (by decide);rw[show((rs.length:Int) - 1 - -1).toNat=rs.length by omega]at dn;have l0:((Ĩ rs.length Ż).map ϴ).length=rs.length:=by rw[Ħ,Ĺ]
 simp![ES,SU,ll,zEF hl,l0,zEJ h1,Qx];have yw:((Ĩ rs.length Ż).set (rs.length - 1) ż).length=rs.length:=by rw[ŀ,Ĺ]
 have FQ:fg ((Ĩ rs.length Ż).set (rs.length - 1) ż) (rs.length - 1)=ż:=zm0 (by rw[Ĺ];omega);generalize (Ĩ rs.length Ż).set (rs.length - 1) ż=Mv at yw FQ;refine xM (λi ρ=>∃(fl:Qa Bool) (o2 o3:Qb U),ρ=[ž<|.d<|pS rs,ž<|.l<|fl.map .bool,o2,o3]/\fl.length=rs.length/\(∀j,fg Mv j=ż->fg fl j=ż)/\∀(t:Nat) (r:Rq),rs[t]?=ž r->rs.length<=t+i->fg fl t=ż->∀p∈r.ps,fg fl p=ż) ⟨Mv,_,_,rfl,yw,λj h=>h,λt r h1 h2=>by have:=(qm.mp h1).1;omega⟩ ?_ ?_
 .rintro i d _ hd ⟨fl,o2,o3,rfl,FP,hu,hc⟩
  have(hi,rfl):=SD hd;obtain⟨k,hk⟩:∃k:Nat,rs.length=i+1+k:=⟨rs.length - (i+1),by omega⟩;have e1:(rs.length:Int) - 1 - (i:Nat)=(k:Int):=by omega
  rw[e1];have en:=qo (show k < rs.length by omega);generalize hnod:rs[k]=row at en;have hpk:=hr _ _ en;have ab:=UE (fl:=fl) (i:=k) (by omega);have done:∀gO,Gr k fl gO->(fg fl k=ż->∀p∈row.ps,fg gO p=ż)->(gO.length=rs.length/\(∀j,fg Mv j=ż->fg gO j=ż)/\∀(t:Nat) (r:Rq),rs[t]?=ž r->rs.length<=t+(i+1)->fg gO t=ż->∀p∈r.ps,fg gO p=ż):=λgO g i5=>by
   refine⟨g.ln.trans FP,λj h=>g.up j<|hu j h,λt n et ht hf p uu=>?_⟩
   by_cases c:t=k
   .subst c
    rw[en]at et;cases et;exact i5 (by rw[<-g.eq t (qf _)];exact hf) p uu
   .rw[g.eq t (by omega)]at hf
    exact g.up p<|hc t n et (by omega) hf p uu
  by_cases cf:fg fl k=ż
  .rw[cf]at ab
   simp![ab,zCp en,EK];refine j7 (λbs cs ρ=>∃(gO:Qa Bool) (o3:Qb U),ρ=[ž<|.d<|pS rs,ž<|.l<|gO.map .bool,ž<|.d<|.int (k:Int),o3]/\Gr k fl gO/\∀p∈bs,fg gO p=ż) ⟨fl,_,rfl,Gr.refl,λp h=>by cases h⟩ ?_ ?_
   .rintro bs p cs _ e ⟨gO,o5,rfl,g,hb⟩
    have wa:p < k:=hpk p (by rw[e];simp);have Mf:p < gO.length:=by rw[g.ln];omega
    simp![Ħ,zED Mf,Qx];refine⟨_,_,rfl,g.trans<|Gr.set wa Mf,λx h=>?_⟩;rw[DQ Mf];split
    .rfl
    rename_i c;rcases Á.mp h with h|h
    .exact hb x h
    .exact absurd (qr.mp h) c
   .rintro _ ⟨gO,o5,rfl,g,hb⟩
    simp!;exact⟨gO,_,_,rfl,done gO g λ_=>hb⟩
  .have ML:fg fl k=Ż:=by simpa using cf
   rw[ML]at ab;simp![ab];exact⟨fl,_,_,rfl,done fl Gr.refl λz=>absurd z cf⟩
 .rintro _ ⟨fl,o2,o3,rfl,FP,hu,hc⟩
  rw[JI]at hc;simp!;exact q fl FP (hu _ FQ) λt n et hf=>hc t n et (by omega) hf
def JU(ps:Nat->Nat):Rq->Rq
 |.num r=>.num r
 |.lt=>.lt
 |.bin w i j=>.bin w (ps i)<|ps j
def oP(rs:Qa Rq)(fl:Qa Bool)(t:Nat):Qa Rq:=(kE fl t).map λa=>JU (pos fl)<|rs.getD a<|.num 0
abbrev Lr(rs:Qa Rq)(fl:Qa Bool):Qa Rq:=oP rs fl rs.length
section
variable{rs:Qa Rq}{fl:Qa Bool}{t:Nat}{r:Rq}
theorem OU:(oP rs fl t).length=pos fl t:=Ħ _
theorem M5(e:rs[t]?=ž r)(f:fg fl t=ż):oP rs fl (t+1)=oP rs fl t++[JU (pos fl) r]:=by
 unfold oP;rw[M9 f,ĵ,a4K,qC,e];rfl
theorem M4(f:¬fg fl t=ż):oP rs fl (t+1)=oP rs fl t:=by
 unfold oP;rw[M8 f]
theorem zvx{Q:U×Qa U->Prop}(hr:RO rs)(h1:1<=rs.length)(hl:rs.length<=10000)
  (q:∀fl:Qa Bool,fg fl (rs.length - 1)=ż->(∀(t:Nat) (r:Rq),rs[t]?=ž r->fg fl t=ż->∀p∈r.ps,fg fl p=ż)->Q (.d<|jM<|Lr rs fl,[.d<|jM rs])):
  Wo (AF [.d<|jM rs]) Q:=by
 simp![AF,QK];refine zjA hr h1 hl λfl FP f0 hc=>?_;simp!;refine xM (λi ρ=>∃(o6 o7 o8:Qb U),ρ=[ž<|.d<|jM rs,ž<|.d<|.tuple [.str "x"],ž<|.d<|pS rs,ž<|.l<|fl.map .bool,ž<|.k<|jU fl i,ž<|.l<|(oP rs fl i).map de,o6,o7,o8]) ⟨Ž,Ž,Ž,rfl⟩ ?_ ?_
 .rintro i d _ hd ⟨o6,o7,o8,rfl⟩
  have(x,ex,rfl):=vC hd;rw[ĭ]at ex;have(r,er,rfl):=qt.mp ex;have dq:=(qm.mp er).1;have ab:=UE (fl:=fl) (i:=i) (by omega);have ln:((oP rs fl i).map de).length=pos fl i:=by rw[Ħ,OU]
  have e0:((0+i:Nat):Int)=(i:Int):=by omega
  have p9:=HF (fl:=fl) (t:=i);rw[e0]
  by_cases cf:fg fl i=ż
  .rw[cf]at ab
   have pp:=zCs cf (show i<=10000 by omega);have ap:=M5 er cf;have cl:=hc i r er cf;have lt:=hr _ _ er;cases r with
   |num f=>
    have po:p8 [.d<|.tuple [.str "number",.tuple [.int f,.int 1]]]=ž (.d<|.tuple [],[.d<|.tuple [.str "number",.tuple [.int f,.int 1]]]):=EK (r:=.num f);simp![ab,ln,pp,po,de,M7];exact⟨_,_,_,by rw[ap,ĵ];rfl⟩
   |lt=>
    have po:p8 [.d<|.tuple [.str "letter",.int 0]]=ž (.d<|.tuple [],[.d<|.tuple [.str "letter",.int 0]]):=EK (r:=.lt);simp![ab,ln,pp,po,de,M7];exact⟨_,_,_,by rw[ap,ĵ];rfl⟩
   |bin w a b=>
    have da:=Wz (t:=i+1) (Ú<|lt a (by simp[Rq.ps])) (cl a (by simp[Rq.ps]));have db:=Wz (t:=i+1) (Ú<|lt b (by simp[Rq.ps])) (cl b (by simp[Rq.ps]));have po:p8 [.d<|.tuple [.str w.s,.int (a:Int),.int (b:Int)]]=ž (.d<|.tuple [.int (a:Int),.int (b:Int)],[.d<|.tuple [.str w.s,.int (a:Int),.int (b:Int)]]):=EK (r:=.bin w a b);simp![ab,ln,pp,po,de,zEG,da,db];exact⟨_,_,_,by rw[ap,ĵ];rfl⟩
  .have ML:fg fl i=Ż:=by simpa using cf
   rw[ML]at ab;have ap:=M4 (rs:=rs) cf;have pl:jU fl (i+1)=jU fl i:=by unfold jU;rw[M8 cf]
   simp![ab];exact⟨_,_,_,by rw[ap,pl]⟩
 .rintro _ ⟨o6,o7,o8,rfl⟩
  rw[show(oB 0<|rs.map de).length=rs.length by rw[vF,Ħ]];simp!;exact q fl f0 hc
end
end Internal.K56
open PySem Internal
namespace Internal.K56
open PySem Internal
def qK(i:Nat)(q:Rq):Prop:=(∀p∈q.ps,p < i)/\∀n,q=.num n->n=0\/n=1
theorem Rw.q{tp:TP}{c:Nat}{r:D}(h:Rw tp vs c i r v):∃q,r=de q/\qK i q:=by
 have two:∀{w:Wd} {a b:Nat},a < i->b < i->qK i (.bin w a b):=λ{w a b} ha hb=>⟨λp hp=>by
  rcases qw.mp hp with rfl|hp
  .exact ha
  .rw[qr.mp hp];exact hb,λn e=>by cases e⟩
 cases h with
 |mP=>exact⟨.num 0,rfl,λp hp=>(by cases hp),λn e=>by cases e;exact .inl rfl⟩
 |mO=>exact⟨.num 1,rfl,λp hp=>(by cases hp),λn e=>by cases e;exact .inr rfl⟩
 |eN=>exact⟨.lt,rfl,λp hp=>(by cases hp),λn e=>by cases e⟩
 | @plus a b _ _ ha hb=>exact⟨.bin .plus a b,rfl,two ha hb⟩
 | @less a b _ _ ha hb=>exact⟨.bin .less a b,rfl,two ha hb⟩
 | @times a b _ _ _ ha hb=>exact⟨.bin .times a b,rfl,two ha hb⟩
theorem NY{tp:TP}{rs:Qa D}(h:RV tp rs vs):∃rq:Qa Rq,rs=rq.map de/\∀i q,rq[i]?=ž q->qK i q:=by
 have go:∀k,k<=rs.length->∃rq:Qa Rq,rs.take k=rq.map de/\rq.length=k/\∀i q,rq[i]?=ž q->qK i q:=λk=>by
  induction k with
  |zero=>intro _;exact⟨[],rfl,rfl,λi q e=>by simp at e⟩
  |succ k ih=>
   intro hk;have(rq,e1,e2,e3):=ih (by omega);have er:=qo (show k < rs.length by omega);have(q,eq,oq):=(h.2.2 k _ _ er<|qo (show k < vs.length by rw[<-h.1];omega)).q;refine⟨rq++[q],?_,by rw[qu,e2];rfl,λi q' e=>?_⟩
   .rw[Η,er,e1,ĵ,eq]
    rfl
   .by_cases c:i < k
    .rw[ĳ (by omega)]at e
     exact e3 i q' e
    .rw[ı (by omega)]at e
     have hl:=(qm.mp e).1;rw[Ŝ]at hl;have ei:i=k:=by omega
     subst ei;rw[e2,a1d]at e;cases e;exact oq
 have(rq,e1,_,e3):=go rs.length (qf _);rw[ϑ]at e1;exact⟨rq,e1,e3⟩
section
variable{rs:Qa D}{r:D}
theorem UD(h:rs[i]?=ž r):cT rs (i+1)=cT rs i+if cZ r=ż then 1 else 0:=by
 unfold cT;rw[Η,h,ţ,qu];congr 1;show(a2w cZ [r]).length=_;rw[Ō];split<;>rfl
theorem Zm(h:i<=j):cT rs i<=cT rs j:=by
 induction j with
 |zero=>rw[Nat.le_zero.mp h];exact qf _
 |succ j ih=>
  rcases Nat.lt_or_eq_of_le h with z|z
  .refine qA (ih (by omega)) ?_
   by_cases c:j < rs.length
   .rw[UD<|qo c]
    exact a2v _ _
   .unfold cT
    rw[ő (by omega),ő (by omega)];exact qf _
  .rw[z];exact qf _
theorem GB(h:rs[i]?=ž r)(t:cZ r=ż)(l:i < j):cT rs i+1<=cT rs j:=by
 have:=Zm (rs:=rs) (show i+1<=j from l);rw[UD h,a5E t]at this;exact this
theorem Ob(h:rs[i]?=ž r)(t:cZ r=ż):cT rs i+1<=(rs.filter cZ).length:=by
 have:=GB h t (qm.mp h).1;unfold cT at this ⊢;rw[ϑ]at this;exact this
theorem zCu{r':D}(h:rs[i]?=ž r)(t:cZ r=ż)(h':rs[j]?=ž r')(t':cZ r'=ż)(e:cT rs i=cT rs j):i=j:=by
 rcases Nat.lt_trichotomy i j with z|z|z
 .have:=GB h t z
  omega
 .exact z
 .have:=GB h' t' z
  omega
end
def Cl(rs:Qa D)(fl:Qa Bool):Prop:=∀(t:Nat) (w:Str) (a b:Nat),rs[t]?=ž (r3 w a b)->fg fl t=ż->fg fl a=ż/\fg fl b=ż
def wN(rs:Qa D)(fl:Qa Bool)(c:Nat):Prop:=∀(j:Nat) (r:D),rs[j]?=ž r->cZ r=ż->cT rs j=c->fg fl j=ż
theorem zEL{rs:Qa D}{fl:Qa Bool}(h:RV wx rs vs)(h2:(rs.filter cZ).length<=2)(cl:Cl rs fl):∀i v,vs[i]?=ž v->fg fl i=ż->(v.getD 2 0≠0->wN rs fl 0)/\(v.getD 3 0≠0->wN rs fl 1)/\(v.getD 4 0≠0->wN rs fl 0):=λi=>by
 induction i using Nat.strongRecOn with
 |_ i ih=>
  intro v ev hf;have hi:i < rs.length:=by rw[h.1];exact(qm.mp ev).1
  have er:=qo hi;have hr:=h.2.2 i _ v er ev;generalize rs[i]=row at er hr;have sums:∀{a b:Nat} {va vb:Qa Int} {s:Int},a < i->b < i->vs[a]?=ž va->vs[b]?=ž vb->fg fl a=ż->fg fl b=ż->v=pl s va vb->(v.getD 2 0≠0->wN rs fl 0)/\(v.getD 3 0≠0->wN rs fl 1)/\(v.getD 4 0≠0->wN rs fl 0):=λ{a b va vb s} ha hb ea eb fa fb e=>by
   have(a1,a2,a3):=ih a ha va ea fa;have(b1,b2,b3):=ih b hb vb eb fb;have l:va.length=vb.length:=(h.2.1 va<|Ä ea).trans (h.2.1 vb<|Ä eb).symm;have cut:∀{k:Nat} {P:Prop},(va.getD k 0≠0->P)->(vb.getD k 0≠0->P)->v.getD k 0≠0->P:=λ{k P} p q z=>by
    by_cases c:va.getD k 0=0
    .refine q λy=>z ?_
     rw[e,gf l,c,y,Int.mul_zero];rfl
    .exact p c
   exact⟨cut a1 b1,cut a2 b2,cut a3 b3⟩
  cases hr with
  |mP=>exact⟨λz=>absurd rfl z,λz=>absurd rfl z,λz=>absurd rfl z⟩
  |mO=>exact⟨λz=>absurd rfl z,λz=>absurd rfl z,λz=>absurd rfl z⟩
  |eN=>exact⟨λz=>absurd rfl z,λz=>absurd rfl z,λz=>absurd rfl z⟩
  |plus ha hb ea eb=>
   have(fa,fb):=cl i _ _ _ er hf;exact sums ha hb ea eb fa fb rfl
  |less ha hb ea eb=>
   have(fa,fb):=cl i _ _ _ er hf;exact sums ha hb ea eb fa fb rfl
  | @times a b va vb _ ha hb ea eb qN=>
   have(fa,fb):=cl i _ _ _ er hf;have ti:cZ (r3 "times" a b)=ż:=rfl;have own:wN rs fl (cT rs i):=λj r ej tj cj=>by
    have:=zCu ej tj er ti cj;rw[this];exact hf
   have c2:=Ob er ti;have qN:v=fv (cT rs i) va vb:=qN
   by_cases c:cT rs i=0
   .unfold fv at qN
    rw[a5E c]at qN;subst qN;rw[c]at own;exact⟨λ_=>own,λz=>absurd rfl z,λz=>absurd rfl z⟩
   .unfold fv at qN
    rw[a5F c]at qN;subst qN;rw[show cT rs i=1 by omega]at own;refine⟨λz=>absurd rfl z,λ_=>own,λz=>?_⟩;have z:((va.getD 2 0).natAbs+(vb.getD 2 0).natAbs:Nat)≠0:=λy=>z<|congrArg (λn:Nat=>(n:Int)) y
    by_cases d:va.getD 2 0=0
    .exact(ih b hb vb eb fb).1 (by omega)
    .exact(ih a ha va ea fa).1 d
theorem zm1{rs:Qa D}{fl:Qa Bool}(hm:m<=2)(h:sN m (.tuple [.tuple [.str "x"],.tuple rs]))(cl:Cl rs fl)(last:fg fl (rs.length - 1)=ż):∀(j:Nat) (r:D),rs[j]?=ž r->cZ r=ż->fg fl j=ż:=λj r ej tj=>by
 obtain⟨w,⟨Lk,vs,ex,jD,_,hc,hl⟩,hw⟩:=h;injection ex with ex;injection ex with _ ex;injection ex with ex _;injection ex with ex;subst ex;have ca:=Ob ej tj;rw[ϫ,<-jD.1]at hl;have(r1,r2,r3):=zEL jD (by omega) cl _ w hl last;rcases hw with rfl|⟨rfl,hw⟩|⟨rfl,h3,h24⟩
 .omega
 .exact r1 hw j r ej tj (by omega)
 .by_cases c:cT rs j=0
  .exact(h24.elim r1 r3) j r ej tj c
  .exact r2 h3 j r ej tj (by omega)
def jr(q:Rq):Bool:=cZ (de q)
theorem eqT{q:Rq}:∃z t,de q=.tuple (.str z::t)/\cp Ż (.d<|.str z) (.d<|.str "times")=ž (.d<|.bool<|jr q)/\cp ż (.d<|.str z) (.d<|.str "over")=ž (.d<|.bool ż):=by
 cases q with
 |num n=>exact⟨_,_,rfl,rfl,rfl⟩
 |lt=>exact⟨_,_,rfl,rfl,rfl⟩
 |bin w i j=>cases w<;>exact⟨_,_,rfl,rfl,rfl⟩
theorem zm2{rs:Qa Rq}(h:rs.length<=1000):AI [.d<|jM rs]=ž (.d<|.int (((rs.filter jr).length:Nat):Int),[.d<|jM rs]):=by
 refine iB ?_;simp![AI,Sf];refine Ak (b:=jr) (e:=de) (by rw[xf];omega) (λq hq ys=>?_) ?_
 .have(z,t,ez,e1,_):=eqT (q:=q)
  rw[ez];cases c:jr q
  .rw[c]at e1
   simp![e1]
  .rw[c]at e1
   simp![e1]
 .simp![Ħ]
theorem zvB{ps:Nat->Nat}{q:Rq}:jr (JU ps q)=jr q:=by
 cases q with
 |num n=>rfl
 |lt=>rfl
 |bin w i j=>cases w<;>rfl
theorem zCv{rs:Qa Rq}{fl:Qa Bool}(h:∀(j:Nat) (q:Rq),rs[j]?=ž q->jr q=ż->fg fl j=ż):((Lr rs fl).filter jr).length=(rs.filter jr).length:=by
 have go:∀t,t<=rs.length->((oP rs fl t).filter jr).length=((rs.take t).filter jr).length:=λt=>by
  induction t with
  |zero=>intro _;rfl
  |succ t ih=>
   intro ht;have er:=qo (show t < rs.length by omega);rw[Η,er,ţ,qu,<-ih (by omega)]
   by_cases c:fg fl t=ż
   .rw[M5 er c,ţ,qu]
    congr 1;show(a2w jr [_]).length=(a2w jr [_]).length;rw[Ō,Ō,zvB];split<;>rfl
   .rw[M4 c]
    have:jr rs[t]=Ż:=by
     cases z:jr rs[t]with
     |false=>rfl
     |true=>exact absurd (h t _ er z) c
    show _=_+(a2w jr [_]).length;rw[Ō,this];rfl
 have:=go rs.length (qf _);rw[ϑ]at this;exact this
theorem zCw{rs:Qa Rq}:((rs.map de).filter cZ).length=(rs.filter jr).length:=by
 rw[a5z,Ħ];rfl
theorem zEM{rs:Qa Rq}{fl:Qa Bool}(hc:∀(t:Nat) (r:Rq),rs[t]?=ž r->fg fl t=ż->∀p∈r.ps,fg fl p=ż):Cl (rs.map de) fl:=λt w a b e f=>by
 rw[ĭ]at e;have(q,eq,er):=qt.mp e;have h:=hc t q eq f;cases q with
 |num n=>cases er
 |lt=>cases er
 |bin w' i j=>
  injection er with er;injection er with _ er;injection er with e1 er;injection er with e2 _;injection e1 with e1;injection e2 with e2;have e1:=a1h e1;have e2:=a1h e2;subst e1 e2;exact⟨h i (by simp[Rq.ps]),h j (by simp[Rq.ps])⟩
theorem zhN{x:D}{Q:U×Qa U->Prop}(hm:m<=2)(hx:Rk m l x)(hn:sN m x)(k:∀y,AI [.d y]=ž (.d<|.int (m:Int),[.d y])->Q (.d y,[.d x])):Wo (AF [.d x]) Q:=by
 have(rs,vs,rfl,jD,hl,hc,bB):=hx.ex;have(rq,rfl,oq):=NY jD;rw[Ħ]at hl;have ne:1<=rq.length:=by
  rcases a4V rq.length with z|z
  .have e:=jD.1
   rw[Ħ,z]at e;rw[ϫ,<-e]at bB;have:vs=[]:=ä.mp e.symm;rw[this]at bB;simp at bB
  .exact z
 refine zvx (rs:=rq) (λt r e p hp=>(oq t r e).1 p hp) ne (by omega) λfl f0 B5=>?_;have af:=zm1 hm hn (zEM B5) (by rw[Ħ];exact f0);have ct:=zCv (rs:=rq) (fl:=fl) λj q ej tj=>af j (de q) (by rw[ĭ,ej];rfl) tj;rw[zCw]at hc;refine k _ ?_;have:=zm2 (rs:=Lr rq fl) (by rw[OU];have:=HF (fl:=fl) (t:=rq.length);omega);rw[ct,hc]at this;exact this
end Internal.K56
open PySem Internal
namespace Internal.K56
open PySem Internal
theorem zm3:EN [.d<|.str "x"]=ž (.d<|.bool ż,[.d<|.str "x"]):=by
 refine iB ?_;have f1:xj (.d<|.str "x")=ž (.d<|.int 1):=rfl;have f2:rA ["letters", "part", "rounds", "end", "give"] (.d<|.str "x")=ž (.d<|.bool Ż):=rfl;have f3:a4t "x"=ż:=by decide +kernel
 have f4:a4u "x"=ż:=by decide +kernel
 have f5:a4s "x"=ż:=by decide +kernel
 simp![EN,Ss,f1,f2,f3,f4,f5]
theorem zEN:∀{zs:Qa α},w4 (.l<|zs.map λ_=>ϴ ż)=ž (.d<|.bool ż):=λ{zs}=>by
 have:(zs.map λ_=>ϴ ż).mapM F7=ž (zs.map λ_=>ż):=by
  induction zs with
  |nil=>rfl
  |cons z zs ih=>
   rw[Ī,a0g,ih];rfl
 show((zs.map λ_=>ϴ ż).mapM F7).bind _=_;rw[this,Option.bind_some];simp
theorem zjB:ET [.d<|.tuple [.str "x"]]=ž (.d<|.bool ż,[.d<|.tuple [.str "x"]]):=by
 refine iB ?_;simp![ET,SW];refine xx (as:=[("x":Str)]) (g:=a0K) (e:=λ_=>.bool ż) (by decide) (λz hz ys=>?_) ?_
 .rw[qr.mp hz]
  simp![zm3]
 .have f6:w4 (.l [.bool ż])=ž (.d<|.bool ż):=rfl
  have f7:Ed (.d<|.tuple [.str "x"])=ž (.d<|.int 1):=rfl;simp![f6,f7]
theorem zm4{rs:Qa Rq}(h:rs.length<=1000):EG [.d<|jM rs]=ž (.d<|.bool ż,[.d<|jM rs]):=by
 refine iB ?_;simp![EG,Sd];refine xx (g:=de) (e:=λ_=>.bool ż) (by omega) (λq hq ys=>?_) ?_
 .have(z,t,ez,_,e2):=eqT (q:=q)
  rw[ez];simp![e2]
 .have ea:w4 (.l<|rs.map λ_=>ϴ ż)=ž (.d<|.bool ż):=by
   exact zEN
  simp![ea]
theorem T4{x y:Int}(hx:0<=x)(hy:0<=y):EZ [.d<|.int x,.d<|.int y]=ž (.d<|.int (œ x y:Nat),[.d<|.int x,.d<|.int y]):=by
 refine iB ?_;simp![EZ,Th];refine Qw (λk ρ=>∃a b:Int,ρ=[ž<|.d<|.int a,ž<|.d<|.int b]/\0<=a/\0<=b/\b.toNat=k/\œ a b=œ x y) _ ⟨x,y,rfl,hx,hy,rfl,rfl⟩ ?_;rintro k _ ⟨a,b,rfl,ha,hb,hk,hg⟩;simp!
 by_cases hz:b=0
 .subst hz
  have e:a=((œ x y:Nat):Int):=by rw[<-hg,a5c];omega
  subst e;simp![bne_self_eq_false]
 .have eS:(b != 0)=ż:=by simp[hz]
  simp![eS];refine⟨(a % b).toNat,?_,_,_,rfl,by omega,æ _ hz,rfl,?_⟩
  .have:=î a (show 0 < b by omega)
   have:=æ a hz;omega
  .rw[Rb a b ha (by omega)]
   exact hg
theorem jP:kZ 10 "number"/\kZ 10 "letter"/\kZ 10 "plus"/\kZ 10 "less"/\kZ 10 "times":=by
 unfold kZ;decide
theorem xg{a:Int}(h:a.natAbs < 1000):fA 0 102 (.int a):=(vk (n:=3) h).mono (by decide) (by decide)
theorem Iy{q:Rq}(h:qK i q)(hi:i<=900):fA 2 1000 (de q):=by
 cases q with
 |num n=>
  have hn:=h.2 n rfl;refine(jv (n:=2) (k:=1) (M:=300) (ds:=[_,_]) (λd hd=>?_)<|qf 2).mono (by decide) (by decide);rcases qw.mp hd with rfl|hd
  .exact(oE jP.1).mono (by decide) (by decide)
  .rw[qr.mp hd]
   refine(jv (n:=2) (k:=0) (M:=102) (ds:=[_,_]) (λd hd=>?_)<|qf 2).mono (by decide) (by decide);rcases qw.mp hd with rfl|hd
   .exact xg (by omega)
   .rw[qr.mp hd]
    exact xg (by decide)
 |lt=>
  refine(jv (n:=2) (k:=0) (M:=102) (ds:=[_,_]) (λd hd=>?_)<|qf 2).mono (by decide) (by decide);rcases qw.mp hd with rfl|hd
  .exact(oE jP.2.1).mono (by decide) (by decide)
  .rw[qr.mp hd]
   exact xg (by decide)
 |bin w a b=>
  have ha:=h.1 a (by simp[Rq.ps]);have hb:=h.1 b (by simp[Rq.ps]);refine(jv (n:=3) (k:=0) (M:=102) (ds:=[_,_,_]) (λd hd=>?_)<|qf 3).mono (by decide) (by decide);rcases qw.mp hd with rfl|hd
  .cases w
   .exact(oE jP.2.2.1).mono (by decide) (by decide)
   .exact(oE jP.2.2.2.1).mono (by decide) (by decide)
   .exact(oE jP.2.2.2.2).mono (by decide) (by decide)
  .rcases qw.mp hd with rfl|hd
   .exact xg (by omega)
   .rw[qr.mp hd]
    exact xg (by omega)
theorem M3:fA 1 (0 * (0+2)+3) (.tuple []):=jv (n:=0) (k:=0) (M:=0) (λd hd=>by cases hd) (by decide)
theorem Zl{q:Rq}(h:qK i q)(hi:i<=900):fE Ż (.d<|de q) (.d<|.tuple [])=ž (.d<|.bool Ż):=by
 rw[(Iy h hi).uH M3 (by decide) (by decide)];cases q<;>rfl
theorem yU{u v:Str}(hu:kZ n u)(hv:kZ m v):fE Ż (.d<|.str u) (.d<|.str v)=ž (.d<|.bool<|decide<|u=v):=by
 rw[(oE hu).uH (oE hv) (by decide) (by decide),zBl];rfl
theorem HE{i:Int}:xY [.d<|.int i]=ž (.d<|.bool ż,[.d<|.int i]):=by
 refine iB ?_;simp![xY,Su]
theorem Zk{n:Int}(h:n=0\/n=1):AK [.d<|.tuple [.int n,.int 1]]=ž (.d<|.bool ż,[.d<|.tuple [.int n,.int 1]]):=by
 refine iB ?_;rcases h with rfl|rfl
 .have cf:=T4 (x:=0) (y:=1) (by decide) (by decide)
  rw[show((œ 0 1:Nat):Int)=1 from rfl]at cf;simp![AK,JO,HE,cf]
 .have cf:=T4 (x:=1) (y:=1) (by decide) (by decide)
  rw[show((œ 1 1:Nat):Int)=1 from rfl]at cf;simp![AK,JO,HE,cf]
theorem Ja{a b:Nat}(h:a < b):vB [.d<|.int (a:Int),.d<|.int (b:Int)]=ž (.d<|.bool ż,[.d<|.int (a:Int),.d<|.int (b:Int)]):=by
 refine iB ?_;simp![vB,Sa,HE];rw[a5E<|a1S a];simp!;rw[a5G (by omega)]
theorem zrx{q:Rq}(h:qK i q)(hi:i<=900):xS [.d<|de q,.d<|.int (i:Int),.d<|.int 1]=ž (.d<|.bool ż,[.d<|de q,.d<|.int (i:Int),.d<|.int 1]):=by
 refine iB ?_;have e0:=Zl h hi;cases q with
 |num n=>
  have ew:fE Ż (.d<|.str "number") (.d<|.str "number")=ž (.d<|.bool ż):=yU jP.1 jP.1;have fo:=Zk (h.2 n rfl);rw[show de (.num n)=.tuple [.str "number",.tuple [.int n,.int 1]] from rfl]at e0 ⊢;simp![xS,Et,e0,ew,fo]
 |lt=>
  have ew:fE Ż (.d<|.str "letter") (.d<|.str "number")=ž (.d<|.bool Ż):=yU jP.2.1 jP.1;have sJ:fE Ż (.d<|.str "letter") (.d<|.str "letter")=ž (.d<|.bool ż):=yU jP.2.1 jP.2.1;have po:vB [.d<|.int 0,.d<|.int 1]=ž (.d<|.bool ż,[.d<|.int 0,.d<|.int 1]):=Ja (a:=0) (b:=1) (by decide);rw[show de .lt=.tuple [.str "letter",.int 0] from rfl]at e0 ⊢;simp![xS,Et,e0,ew,sJ,po]
 |bin w a b=>
  have pa:=Ja (h.1 a (by simp[Rq.ps]));have pb:=Ja (h.1 b (by simp[Rq.ps]));have ws:kZ 10 w.s:=by
   cases w
   .exact jP.2.2.1
   .exact jP.2.2.2.1
   .exact jP.2.2.2.2
  have ew:fE Ż (.d<|.str w.s) (.d<|.str "number")=ž (.d<|.bool Ż):=by
   rw[yU ws jP.1];cases w<;>rfl
  have sJ:fE Ż (.d<|.str w.s) (.d<|.str "letter")=ž (.d<|.bool Ż):=by
   rw[yU ws jP.2.1];cases w<;>rfl
  rw[show de (.bin w a b)=.tuple [.str w.s,.int (a:Int),.int (b:Int)] from rfl]at e0 ⊢;simp![xS,Et,e0,ew,sJ,M6,pa,pb]
theorem Zj{rs:Qa Rq}(h1:1<=rs.length)(hl:rs.length<=800)(ho:∀i q,rs[i]?=ž q->qK i q):E1 [.d<|jM rs]=ž (.d<|.bool ż,[.d<|jM rs]):=by
 refine iB ?_;have lo:E3 [.d<|.tuple [.str "x"]]=ž (.d<|.bool ż,[.d<|.tuple [.str "x"]]):=by
  refine iB ?_;simp![E3,Tz,zjB]
 have e0:fE Ż (.d<|pS rs) (.d<|.tuple [])=ž (.d<|.bool Ż):=by
  have n1:fA 3 (800 * (1000+2)+3) (pS rs):=jv (λd hd=>by
   have(q,hq,rfl):=À.mp hd;have(i,hi):=a4i hq;exact Iy (ho i q hi) (by have:=(qm.mp hi).1;omega)) (by rw[Ħ];exact hl)
  rw[n1.uH M3 (by decide) (by decide)];cases rs with
  |nil=>exact absurd h1 (by decide)
  |cons q rs=>rfl
 simp![E1,T6,lo,e0];refine xM (λi ρ=>∃(o3 o4:Qb U),ρ=[ž<|.d<|jM rs,ž<|.d<|.tuple [.str "x"],ž<|.d<|pS rs,o3,o4]) ⟨_,_,rfl⟩ ?_ ?_
 .rintro i d _ hd ⟨o3,o4,rfl⟩
  have(x,ex,rfl):=vC hd;rw[ĭ]at ex;have(q,eq,rfl):=qt.mp ex;have dq:=(qm.mp eq).1;have ir:=zrx (ho i q eq) (by omega);have e0:((0+i:Nat):Int)=(i:Int):=by omega
  rw[e0];simp![ir];exact⟨_,_,rfl⟩
 .rintro _ ⟨o3,o4,rfl⟩
  simp!
end Internal.K56
open PySem Internal
namespace Internal.K56
open PySem Internal
abbrev KU(l:Qa Int):D:=.tuple ((jf l).map fW)
theorem By.way(h:By m l):Way l:=by
 rcases h with⟨_,h⟩|⟨_,h⟩|⟨_,h⟩
 .exact .inl h
 .exact .inr (.inl h)
 .exact h
theorem zm6(h5:l.length=5)(hb:By m l):∃(j:Nat) (y:D),vD [.d<|KU l]=ž (.d<|.tuple [.int (j:Int),y],[.d<|KU l])/\j<=m/\j<=2/\Rk j l y/\sN j y:=by
 have w:=zow (ts:=jf l) (Q:=λo=>∃x,o=(.d x,[.d<|KU l])/\Uv l x) zCl (λe=>by rw[N4 h5]at e;cases e) λl' x _ e t=>by
  rw[N4 h5]at e;cases e;exact⟨x,rfl,t⟩
 have(_,e,x,rfl,t):=w;rcases t with⟨_,nw⟩|⟨y,rfl,r,n,_⟩|⟨y,rfl,r,n,n0,_⟩|⟨y,rfl,r,n,n0,n1⟩
 .exact absurd hb.way nw
 .exact⟨0,y,e,Ç _,by decide,r,n⟩
 .refine⟨1,y,e,?_,by decide,r,n⟩
  rcases hb with⟨_,h⟩|⟨rfl,_⟩|⟨rfl,_⟩
  .exact absurd h n0
  .decide
  .decide
 .refine⟨2,y,e,?_,by decide,r,n⟩
  rcases hb with⟨_,h⟩|⟨rfl,f,hf,h⟩|⟨rfl,_⟩
  .exact absurd h n0
  .exact absurd h (n1 f hf)
  .decide
theorem Zi{x:D}(hx:Rk m l x):∃rq:Qa Rq,x=jM rq/\1<=rq.length/\rq.length<=120/\∀i q,rq[i]?=ž q->qK i q:=by
 have(rs,vs,rfl,jD,hl,hc,bB):=hx.ex;have(rq,rfl,oq):=NY jD;rw[Ħ]at hl;refine⟨rq,rfl,?_,hl,oq⟩;rcases a4V rq.length with z|z
 .have e:=jD.1
  rw[Ħ,z]at e;rw[List.length_eq_zero_iff.mp e.symm]at bB;simp at bB
 .exact z
theorem Zh{rq:Qa Rq}(hj:j<=2)(hl:rq.length<=120)(ho:∀i q,rq[i]?=ž q->qK i q):fE Ż (.d<|.tuple [.int (j:Int),jM rq]) (.d<|.tuple [.int (j:Int),jM rq])=ž (.d<|.bool ż):=by
 have n1:fA 3 (120 * (1000+2)+3) (pS rq):=jv (λd hd=>by
  have(q,hq,rfl):=À.mp hd;have(i,hi):=a4i hq;exact Iy (ho i q hi) (by have:=(qm.mp hi).1;omega)) (by rw[Ħ];exact hl)
 have n2:fA 4 1000000 (jM rq):=(jv (n:=2) (k:=3) (M:=200000) (ds:=[_,_]) (λd hd=>by
  rcases qw.mp hd with rfl|hd
  .refine(jv (n:=1) (k:=0) (M:=102) (ds:=[_]) (λd hd=>?_)<|qf 1).mono (by decide) (by decide)
   rw[qr.mp hd];exact oE (n:=10) (by unfold kZ;decide)
  .rw[qr.mp hd]
   exact n1.mono (qf _) (by decide))<|qf 2).mono (qf _) (by decide)
 have n3:fA 5 (2 * (1000000+2)+3) (.tuple [.int (j:Int),jM rq]):=jv (n:=2) (ds:=[_,_]) (λd hd=>by
  rcases qw.mp hd with rfl|hd
  .exact(xg (by omega)).mono (by decide) (by decide)
  .rw[qr.mp hd]
   exact n2) (qf 2)
 rw[n3.uH n3 (by decide) (by decide),PySem.SeqAt.eqv_refl _ n3.lay];rfl
theorem Zg(hi:i < 2):∃xs:Qa D,bt [a3w [.int 2,.int 1,.int 2,.int 0],.list [.int 1,.int 1,.int 2,.int 0]] (0+(i:Nat))=ž (.list xs)/\∀r:Int,0<=r->r < 4->∃m:Nat,bt xs r=ž (.int (m:Int))/\m<=2:=by
 have four:∀{a b:Nat},a<=2->b<=2->∀r:Int,0<=r->r < 4->∃m:Nat,bt [į (a:Int),.int (b:Int),.int 2,.int 0] r=ž (.int (m:Int))/\m<=2:=λ{a b} ha hb r h0 h4=>by
  rcases(show r=0\/r=1\/r=2\/r=3 by omega)with e|e|e|e
  .exact⟨a,atK (i:=0) e rfl,ha⟩
  .exact⟨b,atK (i:=1) e rfl,hb⟩
  .exact⟨2,atK (i:=2) e rfl,by decide⟩
  .exact⟨0,atK (i:=3) e rfl,by decide⟩
 rcases(show i=0\/i=1 by omega)with rfl|rfl
 .exact⟨_,rfl,four (a:=2) (b:=1) (by decide) (by decide)⟩
 .exact⟨_,rfl,four (a:=1) (b:=1) (by decide) (by decide)⟩
def Ask(d:D):Prop:=∃w x,d=.tuple [w,x]/\vD [.d w]=ž (.d x,[.d w])/\fE Ż (.d x) (.d x)=ž (.d<|.bool ż)
theorem zEO(ns:Qa Int)(hl:ns.length<=63):Wo (xq [.d<|.list<|ns.map .int]) λo=>o=(.d<|.bool ż,[.d<|.list<|ns.map .int]):=by
 simp![xq,Nn];refine yR (λi ρ=>∃(ts:Qa D) (o2 o3 o4 o5 o6:Qb U),ρ=[ž<|.d<|.list<|ns.map .int,ž<|.l ts,o2,o3,o4,o5,o6]/\ts.length=i/\∀d∈ts,Ask d) ⟨[],_,_,_,_,_,rfl,rfl,λd h=>by cases h⟩ ?_ ?_
 .rintro i _ hi ⟨ts,o2,o3,o4,o5,o6,rfl,ht,iq⟩
  have nJ:i < 2:=by simpa using hi
  have L6:ts.length < 16777216:=by omega
  simp!;refine zEj (by omega) λx y=>?_;have(xs,e1,four):=Zg nJ;simp![e1];refine Oq (by decide) (by decide) λr x1 y1 r0 r1=>?_;have(m,e2,m2):=four r r0 r1;simp![e2];refine zmV (by omega) λl x2 y2 h5 hb=>?_;rw[Ŀ]at hb;simp!;refine zrv h5 ?_;have(j,y',ec,jm,j2,hr,hn):=zm6 h5 hb;have(rq,ey,q1,q2,oq):=Zi hr;have lk:=Zj q1 (by omega) oq;have iw:=zm4 (rs:=rq) (by omega);have et:=Zh j2 q2 oq;rw[<-ey]at lk iw et;have nb:Dz (.d<|.bool ż) (.d<|.bool ż)=ž (.d<|.bool Ż):=rfl;have ib:iK "bool" (.d<|.int (j:Int))=ž (.d<|.bool Ż):=rfl;simp![ec,lk,iw,nb,ib];rw[a5F (by omega)];simp![lk,iw,nb];refine zlg j2 h5 hr ?_;simp!;refine zhN j2 hr hn λz hz=>?_;simp![hz,L6];refine⟨_,_,_,_,_,_,rfl,by rw[qu,ht];rfl,λd hd=>?_⟩;rcases Á.mp hd with hd|hd
  .exact iq d hd
  .rw[qr.mp hd]
   exact⟨_,_,rfl,ec,by rw[ey];rw[ey]at et;exact et⟩
 .rintro _ ⟨ts,o2,o3,o4,o5,o6,rfl,ht,iq⟩
  have ht:ts.length=2:=ht;obtain⟨a,b,rfl⟩:∃a b,ts=[a,b]:=by
   rcases ts with _|⟨a,_|⟨b,_|⟨c,ts⟩⟩⟩<;>simp at ht;exact⟨a,b,rfl⟩
  have(w,x,rfl,e1,e2):=iq b (by simp);have ea:bt [a,Ĵ [w,x]] 1=ž (.tuple [w,x]):=rfl;simp![ea,e1,e2]
theorem zCx(ns:Qa Int)(hl:ns.length<=63):∃outs,xq [.d<|.list<|ns.map .int]=ž (.d<|.bool ż,outs):=⟨_,iB<|zEO ns hl⟩
abbrev Oa(K:qc):Sp:=qH K 1 xq
theorem DP{X:Cx}{pos:Pos}(ha:Wr (PE X o ta))(hv:Wr (PE X value tv))(hs:autoParam (Ο value (ž<|.Attribute o f pos') pos.line X.env=pure Ż) ć):Wr (PS X (.Assign [.Attribute o f pos'] value pos)<|yQ X.K ta tv f):=⟨X2 ha.run hv.run hs⟩
theorem all_mk{l:a2a}{fa:Qg}(X:K.In h)(G:h.Ns İ mg)(hfa:mg "law"=ž (.ref fa)){bw aN eh pD d9 eA gW aH cP:Qg}{ik ij mM vP mL mN oQ ku kR:Qb Qg}{bp bo cN i4 cM cO d5:Array Qc}{d4 d0 jA ue jz jB lQ:Nat}{ie ic mH vJ mG mJ oO ki:Array (Qb Qc)}{fY dr cC:Tok}{kA kF kP ko gQ kQ:Qc}
  (a0:uM K "NewRows" "add_new" "NewRows.add_new" T1)
  (a1:uM K "NewRows" "shared" "NewRows.shared" Ue)
  (a2:uM K "NewRows" "sum_row" "NewRows.sum_row" TZ)
  (a3:bP K "is_number" SA)
  (a4:bP K "common_factor" To)
  (a5:bP K "is_fraction" S4)
  (a6:bP K "whole_numbers" Tn)
  (a7:bP K "numbers_plus" Tu)
  (a8:bP K "numbers_times" Tj)
  (a9:bP K "mixes" OZ)
  (Xd:bP K "products_of" S3)
  (Xc:bP K "thing_row" Sy)
  (Xb:bP K "mix_row" RL)
  (Xa:bP K "small_reckoning" TY)
  (W9:bP K "with_two" R4)
  (W8:bP K "cheapest" R3)
  (W7:bP K "is_letter" Sx)
  (W6:bP K "are_letters" S2)
  (W5:bP K "is_place" R1)
  (W4:bP K "is_row" QN)
  (W3:bP K "look_letters" Tq)
  (WZ:bP K "look_reckoning" Ud)
  (WY:bP K "parts_of" R0)
  (WX:bP K "needed_rows" S1)
  (WW:bP K "pruned" QM)
  (WV:bP K "products" RZ)
  (WU:bP K "is_whole" RY)
  (WS:bP K "_law_box" Sw)
  (WR:bP K "_law_take" SM)
  (WQ:bP K "_law_fraction" Uc)
  (WO:bP K "_law_plus" SK)
  (WN:bP K "_law_times" S0)
  (WM:bP K "_law_poly_add" Ub)
  (WL:bP K "_law_poly_mult" TX)
  (WK:bP K "_law_poly_number" Ur)
  (WJ:bP K "_law_poly_letter" Uq)
  (WI:bP K "_law_poly_told" TV)
  (WH:bP K "_law_list_product" Ui)
  (WG:bP K "_law_mix" Sv)
  (WE:bP K "_law_signs" SY)
  (WD:bP K "_law_small_one" TU)
  (WC:bP K "_law_poly_of" Ti)
  (WB:bP K "_law_rows_right" Uj)
  (WA:bP K "law" Np)
  (z0:Ĳ K İ "len"=ž Ž)
  (z1:Ĳ K İ "isinstance"=ž Ž)
  (z2:Ĳ K İ "int"=ž Ž)
  (z3:Ĳ K İ "bool"=ž Ž)
  (z4:Ĳ K İ "tuple"=ž Ž)
  (z5:Ĳ K İ "abs"=ž Ž)
  (z6:Ĳ K İ "zip"=ž Ž)
  (z7:Ĳ K İ "enumerate"=ž Ž)
  (z8:Ĳ K İ "range"=ž Ž)
  (z9:Ĳ K İ "list"=ž Ž)
  (KO:Ĳ K İ "str"=ž Ž)
  (KN:Ĳ K İ "all"=ž Ž)
  (KL:Ĳ K İ "set"=ž Ž)
  (KJ:Ĳ K İ "dict"=ž Ž)
  (AS:Ĳ K İ "sorted"=ž Ž)
  (KI:Ĳ K İ "sum"=ž Ž)
  (cB:Ĳ K İ "KEPT_WORDS"=ž (ž<|.ref bw))
  (cy:K.lookup bw=ž ⟨.type "tuple",ik,.seq bp d4,ie⟩)
  (cw:zJ [.str "letters",.str "part",.str "rounds",.str "end",.str "give"] bp.toList)
  (cu:bp.size<=ħ)
  (cA:Ĳ K İ "MADE_WORDS"=ž (ž<|.ref aN))
  (cx:K.lookup aN=ž ⟨.type "tuple",ij,.seq bo d0,ic⟩)
  (cv:zJ [.str "plus",.str "less",.str "times",.str "over"] bo.toList)
  (cq:bo.size<=ħ)
  (gU:Ĳ K İ "POWERS"=ž (ž<|.int 5 fY))
  (bH:Ĳ K İ "MOST_LETTERS"=ž (ž<|.int 3 dr))
  (bj:Ĳ K İ "LONGEST_LETTER"=ž (ž<|.int 5 cC))
  (gS:Ĳ K İ "NOUGHT"=ž (ž<|.ref eh))
  (gG:K.lookup eh=ž ⟨.type "tuple",mM,.seq cN jA,mH⟩)
  (gA:zJ [.int<|0,.int<|1] cN.toList)
  (gx:cN.size<=ħ)
  (pB:Ĳ K İ "ONE"=ž (ž<|.ref pD))
  (oV:K.lookup pD=ž ⟨.type "tuple",vP,.seq i4 ue,vJ⟩)
  (oH:zJ [.int<|1,.int<|1] i4.toList)
  (oG:i4.size<=ħ)
  (gR:Ĳ K İ "NUMBER"=ž (ž<|.ref d9))
  (gF:K.lookup d9=ž ⟨.type "tuple",mL,.seq cM jz,mG⟩)
  (gz:zJ [.int<|1,.int<|0,.int<|0,.int<|0,.int<|0] cM.toList)
  (gv:cM.size<=ħ)
  (gT:Ĳ K İ "LETTER"=ž (ž<|.ref eA))
  (gH:K.lookup eA=ž ⟨.type "tuple",mN,.seq cO jB,mJ⟩)
  (gB:zJ [.int<|0,.int<|1,.int<|0,.int<|0,.int<|0] cO.toList)
  (gy:cO.size<=ħ)
  (i9:Ĳ K İ "SIGNS"=ž (ž<|.ref gW))
  (iZ:K.lookup gW=ž ⟨.type "tuple",oQ,.seq d5 lQ,oO⟩)
  (iR:zJ [.int<|0,.int<|1,.int (-1)] d5.toList)
  (iQ:d5.size<=ħ)
  (b8:Ĳ K İ "NewRows"=ž (ž<|.ref aH))
  (eP:ť K (.ref aH)=ż)
  (eM:a1Z K aH=ż)
  (dD:Ϥ K aH a3v=ż)
  (dG:ϻ K aH=ż)
  (dC:a0f K aH=ż)
  (dB:Ņ K (.ref aH) "__setattr__"=ž (ž<|.builtin "object.__setattr__"))
  (bF:Ņ K (.ref aH) "rows"=ž Ž)
  (bz:Ņ K (.ref aH) "paper"=ž Ž)
  (bg:Ņ K (.ref aH) "places"=ž Ž)
  (aK:Ņ K (.ref aH) "mark_places"=ž Ž)
  (eQ:Ņ K (.ref aH) "__init__"=ž (ž<|.ref cP))
  (eO:K.lookup cP=ž ⟨kA,ku,.func<|Ū "__init__" "NewRows.__init__" (p6 EI) (j6 EI) (zT EI) .none kF kP ko kR gQ kQ,ki⟩)
  (eZ:Α K gQ "NewRows.__init__"=ż)
  (dF:ť K (.ref cP)=ż)
  (dH:a0H K (.ref cP)=ż)
  : ∃fd:ϋ,(∀(s:Qd) (v:Qc),a3B s fd ⟨[v],[]⟩ [("_law_script",v)])/\∀base:Ļ,K.In base->base.Ns İ mg->cD l.prog w K mg base jK 8 fa fd ["_law_script"] (qH K 1 xq):=by
 have(_,fd,F,g):=WA;cases hfa.symm.trans (Õ X G g);refine⟨fd,λs v=>by have(_,_,_,_,_,_,_,_,_,rfl,_):=F.ex;exact .of_eq rfl,λbase _ _=>?_⟩;have hB:Bl mg ["len", "isinstance", "int", "bool", "tuple", "abs", "zip", "enumerate", "range", "list", "str", "all", "set", "dict", "sorted", "sum"]:=Bl.cons (Æ X G z0) (Bl.cons (Æ X G z1)<|Bl.cons (Æ X G z2)<|Bl.cons (Æ X G z3)<|Bl.cons (Æ X G z4)<|Bl.cons (Æ X G z5)<|Bl.cons (Æ X G z6)<|Bl.cons (Æ X G z7)<|Bl.cons (Æ X G z8)<|Bl.cons (Æ X G z9)<|Bl.cons (Æ X G KO)<|Bl.cons (Æ X G KN)<|Bl.cons (Æ X G KL)<|Bl.cons (Æ X G KJ)<|Bl.cons (Æ X G AS)<|Bl.cons (Æ X G KI)<|Bl.nil);have cz:=Õ X G cB;have bS:uP K bw ["letters", "part", "rounds", "end", "give"]:=⟨_,bp,d4,cy,rfl,rfl,cu,cw⟩;have aX:=Õ X G cA;have aR:uP K aN ["plus", "less", "times", "over"]:=⟨_,bo,d0,cx,rfl,rfl,cq,cv⟩;have aW:=Õ X G gU;have bG:=Õ X G bH;have bh:=Õ X G bj;have gM:=Õ X G gS;have eU:pC K eh [0,1]:=⟨_,cN,jA,gG,rfl,rfl,gx,gA⟩;have pf:=Õ X G pB;have kJ:pC K pD [1,1]:=⟨_,i4,ue,oV,rfl,rfl,oG,oH⟩;have gL:=Õ X G gR;have eT:pC K d9 [1,0,0,0,0]:=⟨_,cM,jz,gF,rfl,rfl,gv,gz⟩;have gN:=Õ X G gT;have eV:pC K eA [0,1,0,0,0]:=⟨_,cO,jB,gH,rfl,rfl,gy,gB⟩;have i6:=Õ X G i9;have gK:pC K gW [0,1,-1]:=⟨_,d5,lQ,iZ,rfl,rfl,iQ,iR⟩;have mZ:=Õ X G b8;have m8:=HU (st:=EI) eO eZ dF;have gP:gX K aH:=⟨dD,dG,dC,dB⟩;have gE:∀p∈([("rows",.l []),("paper",.l []),("places",.x []),("mark_places",.x [])]:Qa (Str×PU)),iP K aH p.1:=λ_ z=>by rcases qw.mp z with rfl|z;exact bF;rcases qw.mp z with rfl|z;exact bz;rcases qw.mp z with rfl|z;exact bg;rcases qw.mp z with rfl|z;exact aK;cases z
 have aG:OB K "NewRows" ["rows", "paper", "places", "mark_places"]:=OB.of b8 gP λf hf=>by have(p,hp,rfl):=À.mp (show f∈([("rows",.l []),("paper",.l []),("places",.x []),("mark_places",.x [])]:Qa (Str×PU)).map (·.1) from hf);exact gE p hp
 have dE:sO l.prog w K mg base "NewRows" [("rows",.l []),("paper",.l []),("places",.x []),("mark_places",.x [])]:=zFg (Z:=⟨l.prog,w,K,mg,base⟩) b8 mZ ⟨eM,eQ,dH,eP⟩ gP gE m8 (λz=>nomatch z) (by decide) (by decide) ⟨rfl,rfl,rfl,by decide +kernel,rfl,by decide +kernel,by decide +kernel⟩ (λ_ _ _ _ _ _ us hl=>by have(_,rfl):=J1 hl;rfl) λnd=>(aC (DP aa<|fF zf)<|aC (DP aa<|fF zf)<|aC (DP aa Pn)<|zB<|DP aa Pn)
 let Z:Zs:=⟨l.prog,w,K,mg,base⟩
 have B:Bs Z:=⟨hB,⟨_,cz,bS⟩,⟨_,aX,aR⟩,⟨_,aW⟩,⟨_,bG⟩,⟨_,bh⟩,⟨_,gM,eU⟩,⟨_,pf,kJ⟩,⟨_,gL,eT⟩,⟨_,gN,eV⟩,⟨_,i6,gK⟩,aG,dE⟩;have C0:=zgp B a0;have C1:=zgZ B a1 C0;have C2:=zgt B a2 C0 C1;have C3:=zmG B (a3.z X G);have C4:=zhH B (a4.z X G);have C5:=zju B (a5.z X G) C3 C4;have C6:=zhI B (a6.z X G);have C7:=zi0 B (a7.z X G);have C8:=zhJ B (a8.z X G);have C9:=Zu B (a9.z X G) C7;have Xv:=zjz B (Xd.z X G) C8 C9;have C11:=zmK B (Xc.z X G) C1;have C12:=zrt B (Xb.z X G) C11 C2;have Xu:=zgx B (Xa.z X G) C12 C0;have C14:=zos B (W9.z X G) C7 C9 Xv Xu;have C15:=zot B (W8.z X G) C6 C9 Xv Xu C14;have C16:=zmH B (W7.z X G);have C17:=zjv B (W6.z X G) C16;have C18:=zor B (W5.z X G) C3;have C19:=zu6 B (W4.z X G) C5 C18;have C20:=zi7 B (W3.z X G) C17;have C21:=zg1 B (WZ.z X G) C19 C20;have Xt:=zoo B (WY.z X G);have C23:=zjw B (WX.z X G) Xt;have C24:=zu7 B (WW.z X G) Xt C23;have C25:=zop B (WV.z X G);have C26:=zoq B (WU.z X G);have C27:=zmI B (WS.z X G);have Xs:=zk9 B (WR.z X G);have Xr:=zgY B (WQ.z X G);have Xq:=zla B (WO.z X G) Xr;have C31:=zjx B (WN.z X G) Xr;have C32:=zg0 B (WM.z X G) Xq;have C33:=zgv B (WL.z X G) Xq C31;have C34:=zfh B (WK.z X G);have C35:=zfi B (WJ.z X G);have C36:=zgr B (WI.z X G);have C37:=zeZ B (WH.z X G);have C38:=zmJ B (WG.z X G);have C39:=zjy B (WE.z X G) Xs;have C40:=zgw B (WD.z X G) C37 C38 C39;have C41:=zhK B (WC.z X G);have C42:=zfU B (WB.z X G) C32 C33 C34 C35 C36;exact zB8 (Z:=Z) B F C15 C21 C24 C25 C26 C27 Xs C40 C41 C42
theorem walk{l:a2a}{q:Qe}{loose:Qa Str}{XP:(Str->Qb Qc)->Ļ->Prop}{YP:Qh->Ļ->Prop}{d:DefRec}{K:Params->qc}(hn:l.most=ž 63)(BZ:d.params.defaults=[])
  (hY:∀(w:Qh) (h:Ļ),YP w h->(K w.params).In h)
  (F:∀(w:Qh) (mg:Str->Qb Qc) (fa:Qg) (h:Ļ),(K w.params).In h->h.Ns İ mg->mg d.name=ž (.ref fa)->
   ∃fd:ϋ,(∀(s:Qd) (u:Qc),a3B s fd ⟨[u],[]⟩ [("_law_script",u)])/\∀base:Ļ,(K w.params).In base->base.Ns İ mg->cD l.prog w (K w.params) mg base jK 8 fa fd ["_law_script"] (Oa<|K w.params)):
  a5i q loose XP YP l.row.toRowW d [] (λf vs=>a4v f vs):=
 Internal.rQ (n:=63) (k:=8) (x := "_law_script") (CX:=λ_=>jK) (sp:=λw=>Oa<|K w.params) hn (by decide) BZ ⟨rfl,by decide,by decide,rfl⟩ hY F (λw H a ns hl hO hS=>zAN hO hS<|zCx ns hl) λ_ _ _ _ _ z=>z
end Internal.K56
namespace PySem.W.Fast
def tw5308038117028869131:=()
def tw16982842707664962650:=()
def tw10852883850291245343:=()
def tw7729762228747525804:=()
def tw18405254463245935371:=()
def tw13876476699083052174:=()
def tw17954697531396558694:=()
def tw4759667430441251773:=()
def tw5085614881618616336:=()
def tw14033260822627555443:=()
def tw10032260398625089782:=()
def tw11309909622970145597:=()
def tw16529734664508446013:=()
def tw14521223957400100167:=()
def tw14003428205508167122:=()
def tw3450147384257977186:=()
def tw16282960001048900632:=()
def tw337990359842710406:=()
def tw5068310047219777345:=()
def tw2353211462644719426:=()
def tw8900131837884049918:=()
def tw15488149598014997892:=()
def tw745456282625191303:=()
def tw17227845901991589700:=()
def tw16220869875217249759:=()
def tw8902031491772892284:=()
def tw7060885225425401539:=()
def tw5758892563268336639:=()
def tw15073971401890644310:=()
def tw5197481832555567214:=()
def tw5258846175706600523:=()
def tw17150816828051029404:=()
def tw17435374395922133629:=()
def tw4245851246693127090:=()
def tw8478562860607601651:=()
def tw13797254954539878670:=()
def tw17084222242726456108:=()
def tw6677974207230488742:=()
def tw8675720523253392009:=()
def tw1869457390605067895:=()
def tw3912534335960954839:=()
def tw14998991817170902994:=()
def tw18255299472795850875:=()
def tw2277057883083283333:=()
def tw15611901214817903983:=()
def tw4173403901007780328:=()
def tw14835552468498220102:=()
def tw6294939181514148596:=()
def tw11745814694627242623:=()
def tw1240924252878339412:=()
def tw7446555116786765527:=()
def tw17911071877763646917:=()
def tw1387094039520792166:=()
def tw5658072715680417996:=()
def tw1784237128511951997:=()
def tw6032352083189833447:=()
def tw289114376119553286:=()
def tw10805989373599944462:=()
def tw5234621851796965945:=()
def tw13307120891271311518:=()
def tw17655157391287572376:=()
def tw13229686578272359736:=()
def tw13896692766982751881:=()
def tw7587896339199247863:=()
def tw13990043959101976719:=()
def tw3449401725202905849:=()
def tw4330180423133906790:=()
def tw13715556269795721290:=()
def tw2862035185655546273:=()
def tw12938609412402996566:=()
def tw5571408342697194060:=()
def tw14268566374241108792:=()
def tw7939881907661520217:=()
def tw3721238203706895646:=()
def tw18152281227004149995:=()
def tw10657743292620477888:=()
def tw15100836142682882964:=()
def tw16334964964704350209:=()
def tw2598428268788467220:=()
def tw12074556762646735708:=()
def tw8175720845978085755:=()
def tw1811215629842408043:=()
def tw18275458093141359930:=()
def tw14289796724239270439:=()
def tw10919437308908532600:=()
def tw16275636318973291584:=()
def tw3803185323546678684:=()
def tw17058123344326828228:=()
def tw3725821965662772140:=()
def tw8145555213187594879:=()
def tw13135933502320495914:=()
def tw3902779490501735158:=()
def tw8527800233194246937:=()
def tw5503101407301530647:=()
def tw9208644617167651527:=()
def tw2183491839318981115:=()
def tw14539797055219763765:=()
def tw8063997668445146629:=()
def tw5889950083219247148:=()
end PySem.W.Fast
open PySem PySem.W PyProof.Rows
set_option maxRecDepth 100000 in
set_option maxHeartbeats 0 in
theorem PySem.Challenge.cw_undivide_k56_cheapest_of_built_ones_holds : PySem.Challenge.rw_undivide_k56_cheapest_of_built_ones.Holds := by
 w_on;o_law;k_head;(case hw=>w_witness2)
 k_fill
 refine Internal.K56.walk (l:=PySem.Challenge.rw_undivide_k56_cheapest_of_built_ones) rfl rfl (λw h Y=>PySem.W.kIn_of Y) ?F
 case F=>
  intro w mg fa h KX G BS;refine' Internal.K56.all_mk KX G BS ?a0 ?a1 ?a2 ?a3 ?a4 ?a5 ?a6 ?a7 ?a8 ?a9 ?qXd ?qXc ?qXb ?qXa ?W9 ?W8 ?W7 ?W6 ?W5 ?W4 ?W3 ?WZ ?WY ?WX ?WW ?WV ?WU ?WS ?WR ?WQ ?WO ?WN ?WM ?WL ?WK ?WJ ?WI ?WH ?WG ?WE ?WD ?WC ?WB ?WA ?z0 ?z1 ?z2 ?z3 ?z4 ?z5 ?z6 ?z7 ?z8 ?z9 ?KO ?KN ?KL ?KJ ?AS ?KI ?cB ?cy ?cw ?cu ?cA ?cx ?cv ?cq ?gU ?bH ?bj ?gS ?gG ?gA ?gx ?pB ?oV ?oH ?oG ?gR ?gF ?gz ?gv ?gT ?gH ?gB ?gy ?i9 ?iZ ?iR ?iQ ?b8 ?eP ?eM ?dD ?dG ?dC ?dB ?bF ?bz ?bg ?aK ?eQ ?eO ?eZ ?dF ?dH
  any_goals (refine' Internal.fnK ?_ ?_ ?_ ?_<;>try k_is)
  any_goals (refine' Internal.mtK ?_ ?_ ?_ ?_ ?_ ?_ ?_ ?_ ?_ ?_<;>try k_is)
  (case z0=>k_is)
  (case z1=>k_is)
  (case z2=>k_is)
  (case z3=>k_is)
  (case z4=>k_is)
  (case z5=>k_is)
  (case z6=>k_is)
  (case z7=>k_is)
  (case z8=>k_is)
  (case z9=>k_is)
  (case KO=>k_is)
  (case KN=>k_is)
  (case KL=>k_is)
  (case KJ=>k_is)
  (case AS=>k_is)
  (case KI=>k_is)
  (case cB=>k_is)
  (case cy=>k_is)
  (case cw=>(repeat (first|exact .nil|refine .cons ⟨_,rfl⟩ ?_)))
  (case cu=>exact by decide)
  (case cA=>k_is)
  (case cx=>k_is)
  (case cv=>(repeat (first|exact .nil|refine .cons ⟨_,rfl⟩ ?_)))
  (case cq=>exact by decide)
  (case gU=>k_is)
  (case bH=>k_is)
  (case bj=>k_is)
  (case gS=>k_is)
  (case gG=>k_is)
  (case gA=>(repeat (first|exact .nil|refine .cons ⟨_,rfl⟩ ?_)))
  (case gx=>exact by decide)
  (case pB=>k_is)
  (case oV=>k_is)
  (case oH=>(repeat (first|exact .nil|refine .cons ⟨_,rfl⟩ ?_)))
  (case oG=>exact by decide)
  (case gR=>k_is)
  (case gF=>k_is)
  (case gz=>(repeat (first|exact .nil|refine .cons ⟨_,rfl⟩ ?_)))
  (case gv=>exact by decide)
  (case gT=>k_is)
  (case gH=>k_is)
  (case gB=>(repeat (first|exact .nil|refine .cons ⟨_,rfl⟩ ?_)))
  (case gy=>exact by decide)
  (case i9=>k_is)
  (case iZ=>k_is)
  (case iR=>(repeat (first|exact .nil|refine .cons ⟨_,rfl⟩ ?_)))
  (case iQ=>exact by decide)
  (case b8=>k_is)
  (case eP=>k_is)
  (case eM=>k_is)
  (case dD=>k_is)
  (case dG=>k_is)
  (case dC=>k_is)
  (case dB=>k_is)
  (case bF=>k_is)
  (case bz=>k_is)
  (case bg=>k_is)
  (case aK=>k_is)
  (case eQ=>k_is)
  (case eO=>k_is)
  (case eZ=>k_is)
  (case dF=>k_is)
  (case dH=>k_is)
