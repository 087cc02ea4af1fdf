import PyProof.Rows.All
import Wide.All
import OpenK.AllK
import Wide.FinOn
import Lean
import PyProof.EqAt
import PyProof.EqKinds
import PyProof.TupleCall
import PySem.Challenge.RW_undivide_k36_how_many_nodes
set_option Elab.async false
set_option linter.all false
set_option maxRecDepth 100000
set_option compiler.extract_closed false
set_option bootstrap.genMatcherCode false
set_option genSizeOf false
local macro_rules | `(tactic| omega)=> `(tactic| lia)
noncomputable section
open Lean in
local macro_rules|`(tactic|have($a,$b,*):=$e)=>do
 let p<-(#[a]++b.getElems).mapM λx=>match x with|`($i:ident)=>`(Parser.Tactic.rcasesPatLo|$i:ident)|_=>`(Parser.Tactic.rcasesPatLo|_)
 `(tactic|obtain⟨$p,*⟩:=$e)
open Option renaming some→ž,none→Ž
open Bool renaming true→ż,false→Ż
open Array renaming length_toList→ŏ,toList→a2s,forIn_toList→a3k
open Array.Perm renaming refl→a2O
open Bool renaming and_eq_true→ġ,false_eq_true→Ř,eq_iff_iff→ϰ,not_true→Υ,false_or→a2o,false_ne_true→a3t
open False renaming elim→ŕ
open ForInStep renaming yield→Ρ
open Int renaming gcd→ē,natAbs_natCast→Ġ,toNat_natCast→į,natAbs_mul→ň,gcd_mul_right_right_of_gcd_eq_one→ŋ,gcd_mul_right_left_of_gcd_eq_one→ϐ,mul_neg→ϭ,fdiv_eq_ediv_of_nonneg→Ζ,gcd_comm→ω,natCast_mul→a0d,mul_nonneg→a0s,zero_add→a1k,natCast_add→a1N,natAbs_neg→a2a,gcd_add_mul_right_left→a2b,le_of_lt→a2N,mul_pos→a3h,natCast_nonneg→a3D,gcd_zero_right→a3E
open Int.ofNat renaming inj→Ÿ
open List renaming length_map→ĉ,map_cons→Ċ,getElem?_map→Č,getElem?_append_left→č,getElem?_append_right→Ď,size_toArray→ď,replicate→Đ,map_append→Ē,length_set→ĕ,sum_cons→Ė,lookup_cons→Ę,length_replicate→ę,length_take→ě,getElem?_set_self→ĝ,range→Ğ,find?_cons→ģ,getElem?_replicate→Į,map_nil→ı,length_singleton→Ĳ,map_map→ĵ,replicate_succ→ļ,lookup→Ľ,getElem?_eq_none→Ł,append_assoc→ŉ,length_nil→Ŋ,any_cons→œ,mapM_cons→ŗ,sum_append→Ş,append_nil→ş,flatten_cons→š,lookup_append→ŧ,getElem?_drop→Ũ,nodup_cons→ū,pairwise_map→Ų,sum_nil→ź,length_drop→ſ,all_cons→ϑ,getElem?_take→ϔ,getElem?_cons_zero→Ϙ,take_of_length_le→Ϝ,take_length→ϥ,getElem?_range→ϳ,drop_eq_getElem_cons→Ι,length_range→Ν,ext_getElem?→Ξ,length_cons→Ω,filter_cons→δ,drop_length→ε,range_succ→ψ,take_succ→a0i,mem_append_left→a0j,getElem?_of_mem→a0k,getElem_of_mem→a0x,filterMap_cons→a0y,zip_cons_cons→a0H,map_singleton→a0I,toArray→a0Y,not_mem_nil→a1n,length→a1t,of_mem_zip→a1x,nil_append→a1y,map→a1R,getElem?_cons_succ→a2r,map_inj_right→a3p,foldl→a3q,filter_append→a3r,isEmpty_cons→a3C,getElem_inj→a3M,countP_cons→a3N,mem_append→a3Z
open List.Pairwise renaming nil→a1S
open Nat renaming pow_add→ħ,add_sub_cancel→ņ,zero_add→Ū,mul_assoc→ů,add_zero→ϋ,add_mul→ϛ,succ_mul→Ϡ,sub_self→ϡ,add_comm→Ϣ,mul_comm→ϸ,mul_right_comm→Δ,mul_div_cancel_left→ι,le_max_right→μ,add_sub_cancel_left→ν,lt_or_ge→χ,not_lt_zero→a0c,add_assoc→a0G,lt_or_eq_of_le→a0R,ne_of_gt→a1j,mul_one→a1v,mul_add→a1w,min_le_left→a1M,add_le_add→a1Z,log2_lt→a3g,pow_le_pow_left→a3o,lt_of_le_of_ne→a3B,le_of_lt_succ→a3L,succ_ne_self→a3X,min_eq_right→a3Y
open Nat.succ renaming inj→a0w
open Ne renaming symm→ī
open Option renaming bind→ő,isSome_some→a0v,isSome_map→a0F,getD_none→a0W,bind_some→a0X
open Option.some renaming injEq→a2l
open Or renaming inr→a0b,inl→a0V
open PyProof renaming noPylong_of_log2→Γ
open PyProof.Rows renaming slot_tuple_getitem→Ś,IntsAre→ϝ,seqObj→ϻ,kindOf→Α,slot_tupleiter_next→Η,Keyed→Κ,AllBare→ο,envOfC→ς,assignInOrder_cons→a1r,boot_max→a1s,SortSt→a2G,subscriptTail→a2W,listUpdate_at→a2X,subscriptTail_builtinR→a3y,entry_tupleiter_next→a3U
open PySem renaming sizeLine→ċ,wpAny→đ,model→Ĕ,mainGlobals→Ě,wpAny_bind→ğ,Expr→Ĥ,cellsFrom→ĥ,compareOp→ĩ,Heap→Ĭ,starEach→ĭ,wpAny_call_entry→İ,wpAny_pure→Ĵ,wpAny_holding→Ķ,Stmt→ķ,wpAny_callSpecial?_slot→ĺ,wpAny_mono→ľ,sysModules→Ŀ,eval→ŀ,wpAny_field→Ń,wpAny_truthy_bool→Œ,bootBuiltins→ř,behindInMarks→ś,FuncData→Š,attributeBase→Ť,wpAny_typeNameOfWhole_itemiter→ũ,holding→Ű,assignEach→ű,wpAny_passesOwn→Ŵ,Value→ŵ,sliceBounds→ύ,binaryOp→ώ,Shared→Ϗ,cLine→ϓ,PyData→ϗ,wpAny_pyIter_tuple→Ϟ,Result→ϟ,swapsWith→ϣ,wpAny_newObj_type→Ϧ,foldedSetIterable→ϧ,backTo→Ϩ,NameKind→ϩ,Paired→ϲ,sizeLine_eq→ϵ,wpAny_specialOf→Ϻ,assign→Β,IsPart→Ε,atKey→Θ,setItem→Λ,getItem→Μ,wpAny_seqItems→Φ,wpAny_Call_Name_kw→Χ,wpAny_pyIter_enum→ξ,wpAny_standAt→π,wpAny_forIn_list→a0f,wpAny_typeOf→a0m,wpAny_rule→a0n,wpAny_isOneOf_itemiter→a0o,standAt→a0p,codeAny→a0q,Keyword→a0r,wpAny_execs_nil→a0t,letOwnedTupleGo→a0u,wpAny_setField→a0K,keywordEach→a0L,firstArgMember→a0M,GenState→a0S,tupleKind→a0U,swapsWithSole→a1l,swappedStores→a1m,wpAny_tupleItemsOf→a1p,tupleKind_room_in1→a1q,wpAny_sequenceKey→a1C,wpAny_dictEntries→a1D,valueAt→a1E,codeAny_mono→a1F,callerA→a1G,Scope→a1I,Program→a1L,wpAny_isInstance→a1U,isTrue→a1V,DictEntry→a2c,subscripted→a2d,IsRangeIter→a2m,CmpOp→a2n,wpAny_dictEpoch→a2p,Within→a2q,argBest→a2t,BindsTo→a2x,wpAny_listPart→a2y,rawInt→a2z,pyNext→a2A,newFunctionEnv→a2B,call_meets→a2C,bindArgs→a2D,backToKw→a2E,IsItemIter→a2M,Around→a2P,wpAny_comprehension_free→a2V,evalPart_none→a2Y,assignInOrder→a2Z,call→a3e,list_append→a3m,PassesOwn→a3n,wpAny_pyNext_range_end→a3u,wpAny_pyIter_rangeiter→a3v,wpAny_Call_method_late→a3w,wpAny_Assign_Subscript→a3x,seqIndex_neg→a3z,wpAny_isTrue_Compare1→a3G,isSubtype_tuple_tuple→a3H
open PySem.Around renaming under→a0J
open PySem.AutoSeq1 renaming wpAny_loadPart'→ŝ
open PySem.Builtin.Dict_items renaming ownsTuple→ϒ,pairFromOwner→Τ,ownedTupleIsFree→a3Q,newIterator→a3R,isOneOf→a3S,dictOf→a3T
open PySem.Builtin.List renaming listTooLong→ϯ,listSubscript?→a0E,listAllItems→a0T,listSameRef→a0Z
open PySem.Builtin.Range renaming rangeSize→ŷ,small→a1B
open PySem.Builtin.Slice renaming slicePlaces→Ŭ,sliceAdjust→Ϫ,sliceApplied→a0D
open PySem.Builtin.SmallTypes renaming nextOf→ť
open PySem.Builtin.Str renaming glued→a3W
open PySem.Builtin.Tuple renaming tupleHashOf→ĳ,tupleExact→ų,tupleItemsOf→Ϥ
open PySem.Calls renaming evalArgs_plain→a0h,spliced_cons→a0C,Name_function_global→a1P,spliced_nil→a3s
open PySem.Code renaming isFrame→a2w
open PySem.Data renaming fields→a0l,cell→a1o
open PySem.F renaming slot_dict_get→η,args_dict_itemiterator_next_1→a1A,entry_dict_itemiterator_next→a1O,args_dict_get_3→a1Q,slot_dict_itemiterator_iter→a1T,plainAttrs_str→a1X,entry_dict_get→a1Y,type_str_join→a2h,slot_tuple_eq→a2i,slot_str_join→a2j,slot_dict_items_iter→a3j,args_list_append_2→a3F,entry_list_append→a3P,slot_list_append→a4a
open PySem.Heap renaming size_push→Ň,SameBut→ϊ,get?_update_self→a0e,get?_update_ne→a3i,size_update→a3O
open PySem.Heap.IsSliceOf renaming new→a1z
open PySem.Heap.SameBut renaming update→a3K
open PySem.IsL renaming update→a2L
open PySem.NameKind renaming cell→Ŏ,free→Ź
open PySem.Obj renaming mapSeq→ō,data_mapFields→a0Q,isFreed_of_fields→a2U
open PySem.Paired renaming length→ό,snoc→a1i
open PySem.PassesOwn renaming leaving→a2v,never→a2T
open PySem.PyData renaming str→Ĩ,int→Ŕ,hasDict→ţ,shownAll→Ŧ,hasDictAll→ŭ,tuple→ϙ,canLayAll0→Ϛ,depth→Ϯ,eqv→ϴ,depthAll→θ,canLay0→a0a,bool→a1h,shownAll_length→a2k,showableAll→a2S
open PySem.SeqAt renaming shaped→ń,EqAt→a3b,in_tupleAt→a3A
open PySem.SeqAt.EqAt renaming str_int→a2e,int_str→a2f,int_int→a2g,same→a2H
open PySem.Str renaming ofString→Ţ,ofString→Ϭ,ofString_eq_toList→a0P,empty→a2u
open PySem.Txt renaming join→ζ
open PySem.Value renaming ref→Ĝ,none→Ħ,bool→a0z,str→a1a,int→a1b,type→a1H,float→a2F
open PySem.W renaming findIn→ė,nsIn→Ģ,keepIn→ĸ,emptyDict→Ĺ,fnOf→ł,kitOne→Ņ,instObj→Ŝ,plainGet→Ŷ,hasDictIn→ϕ,codeIn→ϖ,tailIn→ϱ,plainOver→Ϲ,isFn→Ψ,lookIn→τ,plainGet_of→a0g,specialIn→a0A,methodObj→a0B,takesIn→a1e,takerIn→a1f,makesIn→a1g,mroIn→a1K,cellsFrom_some→a1W,kitx_tuple→a2J,callWith_K→a2K,kitx_list→a2Q,kitx_dict→a2R,handedIn→a3f,WalkO→a3J
open PySem.W.KFB renaming if_not→υ
open PySem.WalksT renaming enumerateD→a3a,enumerate→a3l
open Rat renaming divInt→Ī,add_zero→Ļ,intCast_mul→Ō,intCast_natCast→Ő,mul_assoc→Ů,add_assoc→ϫ,sub_eq_add_neg→a0N,num_divInt_den→a0O,zero_mul→a1c,mul_comm→a1d,one_mul→a1u,natCast_mul→a1J,zero_add→a2I,neg_num→a3c,neg_den→a3d,divInt_eq_div→a3I,divInt_ofNat→a3V
open Sum renaming inl→Ϸ,inr→Ο
open True renaming intro→Ŗ
abbrev a4b.{u}:=@if_pos.{u}
abbrev a4c.{u}:=@if_neg.{u}
abbrev a4d:=@decide_eq_true
abbrev a4e:=@decide_eq_false
abbrev a4f:=@of_decide_eq_true
abbrev a4g.{u}:=@beq_self_eq_true.{u}
namespace Internal
open PySem PySem.Spec PyProof.Rows
abbrev À.{u,v}:=@List.mem_map.{u,v}
abbrev Á:=@Nat.mul_le_mul_right
abbrev Â:=@PySem.boot_len
abbrev Ã:=@PySem.F.slot_list_append
abbrev Ä:=@PySem.F.type_list_append
abbrev Å:=@PySem.F.plainAttrs_list
abbrev Æ:=@Nat.le_mul_of_pos_right
abbrev Ç:=@PyProof.Rows.boot_tuple
abbrev È:=@Nat.lt_of_le_of_lt
abbrev É:=@Int.mul_ediv_cancel_left
abbrev Ê:=@Nat.zero_le
abbrev Ë:=@Int.gcd_pos_of_ne_zero_right
abbrev Ì:=@PyProof.Rows.boot_isinstance
abbrev Í:=@Nat.pow_le_pow_right
abbrev Î:=@Nat.le_mul_of_pos_left
abbrev Ï.{u}:=@List.mem_append.{u}
abbrev Ð:=@Nat.le_succ
abbrev Ñ.{u}:=@List.mem_of_getElem?.{u}
abbrev Ò:=@PySem.W.mg_none_of
abbrev Ó:=@PySem.W.kia_one
abbrev Ô.{u,v}:=@List.length_map.{u,v}
abbrev Õ:=@Nat.pow_pos
abbrev Ö:=@PySem.F.slot_dict_itemiterator_next
abbrev Ø:=@PyProof.Rows.callWith_type1
abbrev Ù:=@Int.eq_ofNat_of_zero_le
abbrev Ú:=@Nat.lt_irrefl
abbrev Û.{u}:=@List.getElem?_set_self.{u}
abbrev Ü:=@Nat.mul_le_mul
abbrev Ý:=@Nat.le_of_lt
abbrev Þ:=@Nat.lt_succ_of_lt
abbrev ß:=@Int.gcd_ediv_gcd_ediv_gcd
abbrev à:=@Int.le_refl
abbrev á:=@Int.pos_of_mul_pos_right
abbrev â:=@Int.emod_nonneg
abbrev ã:=@Nat.le_max_left
abbrev ä.{u}:=@List.length_eq_zero_iff.{u}
abbrev å:=@Int.gcd_le_natAbs_right
abbrev æ:=@Nat.mul_le_mul_left
abbrev ç:=@List.mem_range
abbrev è:=@Nat.lt_succ_self
abbrev é:=@Nat.le_add_right
abbrev ê:=@Int.gcd_dvd_gcd_of_dvd_right
abbrev ë:=@PySem.SeqAt.canLay_of_shaped
abbrev ì:=@Nat.le_of_eq
abbrev í:=@a2N
abbrev î:=@Int.dvd_gcd_mul_iff_dvd_mul
abbrev ï:=@Int.gcd_dvd_gcd_of_dvd_left
abbrev ð:=@Int.emod_lt_of_pos
abbrev ñ:=@PyProof.Rows.boot_abs
abbrev ò.{u}:=@List.pairwise_iff_getElem.{u}
abbrev ó.{u}:=@List.getElem_mem.{u}
abbrev ô:=@PySem.mem_of_lookup
abbrev õ.{u,v}:=@List.map_congr_left.{u,v}
abbrev ö:=@PySem.F.slot_tuple_hash
abbrev ø:=@Int.mul_ne_zero
abbrev ù:=@PySem.Heap.get?_update_other
abbrev ú:=@PySem.Calls.callWith_builtin
abbrev û:=@Nat.mul_pos
abbrev ü:=@Int.gcd_dvd_right
abbrev ý:=@Nat.lt_trans
abbrev þ.{u}:=@List.length_filter_le.{u}
abbrev ÿ:=@PyProof.Rows.boot_int
abbrev Ā:=@Int.gcd_dvd_left
abbrev ā:=@Int.eq_of_mul_eq_mul_right
abbrev Ă:=@PySem.W.mg_of
abbrev ă:=@a3K
abbrev Ą:=@a0c
abbrev ą.{u}:=@List.length_set.{u}
abbrev Ć:=@Rat.intCast_inj
abbrev ć:=@Int.le_trans
abbrev Ĉ.{u}:=@List.pairwise_cons.{u}
abbrev Qa.{u}:=@List.{u}
abbrev Qb.{u}:=@Option.{u}
abbrev Qc:=ŵ
abbrev Qd:=Ϗ
abbrev Qe:=a1L
abbrev Qf:=a2P
abbrev Qg:=Addr
abbrev Qh:=World
abbrev qa:=@ğ
abbrev qb:=@Ĵ
abbrev qc:=PySem.W.Frag
abbrev qd:=@Heap.get?_push_of_some
abbrev qe:=@Nat.le_refl
abbrev qf:=@a3t
abbrev qg:=@Heap.get?_push_size
abbrev qh:=@Heap.lt_size
abbrev qi:=@Nat.lt_of_lt_of_le
abbrev qj:=@Nat.ne_of_lt
abbrev qm.{u}:=@List.getElem?_eq_some_iff.{u}
abbrev qo.{u}:=@List.getElem?_eq_getElem.{u}
abbrev qp.{u}:=@List.mem_cons_of_mem.{u}
abbrev qq.{u}:=@List.mem_cons_self.{u}
abbrev qr.{u}:=@List.mem_singleton.{u}
abbrev qt.{u,v}:=@Option.map_eq_some_iff.{u,v}
abbrev qu.{u}:=@List.length_append.{u}
abbrev qv.{u}:=@List.length_cons.{u}
abbrev qw.{u}:=@List.mem_cons.{u}
abbrev qx.{u}:=@List.mem_append_right.{u}
abbrev qy.{u}:=@Option.some.inj.{u}
abbrev qA:=@Nat.le_trans
abbrev qB:=@Ϧ
abbrev qC.{u}:=@List.getD_eq_getElem?_getD.{u}
abbrev qD.{u}:=@List.getElem?_set_ne.{u}
abbrev Key:=Sum Int Str
noncomputable def sJ:Key->Qc->Bool
 |.inl k,v=>Value.isInt k v
 |.inr x,v=>Value.isStrOf x v
noncomputable def zCC(w:Qh):Key->Int
 |.inl k=>hashInt k
 |.inr x=>hashStr w x
def jN:∀{k:Key} {v:Qc},sJ k v=ż->(∃i t,k=Ϸ i/\v=a1b i t)\/(∃x t,k=Ο x/\v=a1a x t)
 |.inl i,v,h=>by
  have(t,e):=Value.isInt_shape (k:=i) (v:=v) h;exact .inl ⟨i,t,rfl,e⟩
 |.inr x,v,h=>by
  have(t,e):=Value.isStrOf_shape (x:=x) (v:=v) h;exact .inr ⟨x,t,rfl,e⟩
def zoV(i:Int)(t:Tok):sJ (.inl i) (.int i t)=ż:=by simp[sJ,Value.isInt]
def zoW(x:Str)(t:Tok):sJ (.inr x) (.str x t)=ż:=by simp[sJ,Value.isStrOf]
def U5(a b:Int):decide ((Ϸ a:Key)=Ϸ b)=(a==b):=by
 by_cases e:a=b
 .subst e;simp
 .have h:¬(Ϸ a:Key)=Ϸ b:=λq=>e<|Sum.inl.inj q
  rw[a4e h];exact(beq_eq_false_iff_ne.mpr e).symm
def U4(a b:Str):decide ((Ο a:Key)=Ο b)=decide (a=b):=by
 by_cases e:a=b
 .subst e;simp
 .have h:¬(Ο a:Key)=Ο b:=λq=>e<|Sum.inr.inj q
  rw[a4e h,a4e e]
def U3(a:Int)(b:Str):decide ((Ϸ a:Key)=Ο b)=Ż:=a4e (λq=>nomatch q)
def U2(a:Str)(b:Int):decide ((Ο a:Key)=Ϸ b)=Ż:=a4e (λq=>nomatch q)
def dC(prog:Qe)(w:Qh):PySem.KeyKind prog w Key where
 is:=sJ
 hash:=zCC w
 inj:=λv a b ha hb=>by
  rcases jN ha with⟨i,t,rfl,rfl⟩|⟨x,t,rfl,rfl⟩
  .rcases jN hb with⟨j,u,rfl,e⟩|⟨y,u,rfl,e⟩
   .injection e with e1 _;rw[e1]
   .exact nomatch e
  .rcases jN hb with⟨j,u,rfl,e⟩|⟨y,u,rfl,e⟩
   .exact nomatch e
   .injection e with e1 _;rw[e1]
 byValue:=λk v h=>by
  rcases jN h with⟨i,t,rfl,rfl⟩|⟨x,t,rfl,rfl⟩<;>rfl
 pyHash:=λhv h=>by
  rcases jN hv with⟨i,t,rfl,rfl⟩|⟨x,t,rfl,rfl⟩
  .exact wpAny_pyHash_int h
  .exact wpAny_pyHash_str h
 eqBool:=λhu hv h=>by
  rcases jN hu with⟨i,t,rfl,rfl⟩|⟨x,t,rfl,rfl⟩
  .rcases jN hv with⟨j,u,rfl,rfl⟩|⟨y,u,rfl,rfl⟩
   .rw[U5]at h;exact wpAny_eqBool_int h
   .rw[U3]at h;exact a2f i t y u _ _ _ _ h
  .rcases jN hv with⟨j,u,rfl,rfl⟩|⟨y,u,rfl,rfl⟩
   .rw[U2]at h;exact a2e x t j u _ _ _ _ h
   .rw[U4]at h;exact wpAny_eqBool_str h
 «strs»:=λk x t v h=>by
  rcases jN h with⟨i,u,rfl,e⟩|⟨y,u,rfl,e⟩
  .exact nomatch e
  .injection e with e1 _
   subst e1;cases v<;>rfl
def zkr(prog:Qe)(w:Qh)(i:Int)(t:Tok):(dC prog w).is (.inl i) (.int i t)=ż:=zoV i t
def zks(prog:Qe)(w:Qh)(x:Str)(t:Tok):(dC prog w).is (.inr x) (.str x t)=ż:=zoW x t
inductive V where
 |aL|bl (b:Bool) |int (i:Int) |str (x:Str) |j0 (b:Array UInt8) |uc (b:UInt64) |ref (a:Qg) |ty (n:String)
 deriving DecidableEq
def zT:V->Qc->Prop
 |.aL,u=>u=Ħ
 |.bl b,u=>u=a0z b
 |.int i,u=>∃t,u=a1b i t
 |.str x,u=>∃t,u=a1a x t
 |.j0 b,u=>∃t,u=Value.bytes b t
 |.uc b,u=>∃t,u=a2F b t
 |.ref a,u=>u=Ĝ a
 |.ty n,u=>u=a1H n
abbrev zV:Qa V->Qa Qc->Prop:=ϲ zT
def zV.length{xs:Qa V}{us:Qa Qc}(r:zV xs us):xs.length=us.length:=ό r
def zV.get:∀{xs:Qa V} {us:Qa Qc} {i:Nat} {x:V},zV xs us->xs[i]?=ž x->∃u,us[i]?=ž u/\zT x u
 |_,_,_,_,.nil,e=>by simp at e
 |_,_,0,_,.cons r _,e=>by simp at e;subst e;exact⟨_,rfl,r⟩
 |_,_,i+1,x,.cons _ t,e=>by
  have(u,h1,h2):=zV.get (i:=i) (x:=x) t (by simpa using e);exact⟨u,by simpa using h1,h2⟩
def zV.set{x:V}{u:Qc}(r:zT x u):∀{xs:Qa V} {us:Qa Qc} (i:Nat),zV xs us->zV (xs.set i x) (us.set i u)
 |_,_,_,.nil=>.nil
 |_,_,0,.cons _ t=>.cons r t
 |_,_,i+1,.cons q t=>.cons q<|zV.set r i t
def zV.append{xs ys:Qa V}{us ws:Qa Qc}(h:zV xs us)(s:zV ys ws):zV (xs++ys) (us++ws):=by
 induction h with
 |nil=>exact s
 |cons r _ ih=>exact .cons r ih
def zV.take:∀{xs:Qa V} {us:Qa Qc} (n:Nat),zV xs us->zV (xs.take n) (us.take n)
 |_,_,0,_=>.nil
 |_,_,_+1,.nil=>.nil
 |_,_,n+1,.cons r t=>.cons r<|zV.take n t
def zV.drop:∀{xs:Qa V} {us:Qa Qc} (n:Nat),zV xs us->zV (xs.drop n) (us.drop n)
 |_,_,0,r=>r
 |_,_,_+1,.nil=>.nil
 |_,_,n+1,.cons _ t=>zV.drop n t
def gM:Qb V->Qb Qc->Prop
 |some v,ž u=>zT v u
 |none,Ž=>True
 |_,_=>False
def KV{κ:Type}:Qa (κ×V)->Qa (κ×Qc)->Prop:=ϲ λ(p:κ×V) (q:κ×Qc)=>p.1=q.1/\zT p.2 q.2
def kV:Key->V
 |.inl i=>.int i
 |.inr x=>.str x
structure IK (prog:Qe) (w:Qh) (J:Type) [DecidableEq J] where
 is:Ĭ->J->Qc->Prop
 hash:J->Int
 draws:J->Nat
 iP:Nat
 inj:∀{h:Ĭ} {v:Qc} {x y:J},is h x v->is h y v->x=y
 keeps:∀{h h':Ĭ} {k:J} {v:Qc} {d:Qg} {o:Obj} {es ep},is h k v->h.get? d=ž o->o.data=.dict es ep->ϊ d h h'->is h' k v
 pyHash:∀{A:Qf} {E:Qc->Qd->Prop} {s:Qd} {k:J} {v:Qc} {Q:Int->Qd->Prop},A.units+iP < ϓ->is s.heap k v->Q (hash k) {s with toks:=s.toks+draws k}->
  đ (Ĕ prog w) A (PySem.pyHash v) Q E s
 eqBool:∀{A:Qf} {E:Qc->Qd->Prop} {s:Qd} {x y:J} {u v:Qc} {Q:Bool->Qd->Prop},A.units+iP < ϓ->is s.heap x u->is s.heap y v->Q (decide<|x=y) s->
  đ (Ĕ prog w) A (PySem.eqBool u v) Q E s
 quiet:∀{A:Qf} {E:Qc->Qd->Prop} {s:Qd} {k:J} {v:Qc} {Q:Bool->Qd->Prop} (n:Nat),iP<=n->is s.heap k v->Q ż s->đ (Ĕ prog w) A (eqIsQuiet n v) Q E s
section
variable{prog:Qe}{w:Qh}{J:Type}[DecidableEq J](I:IK prog w J)
inductive aY (h:Ĭ):Qa J->Qa Qc->Prop
 |nil:aY h [] []
 |cons {k:J} {v:Qc} {ks:Qa J} {vs:Qa Qc}:I.is h k v->aY h ks vs->aY h (k::ks) (v::vs)
def gq(h:Ĭ)(ks:Qa J)(a:Qg):Prop:=∃o items n,h.get? a=ž o/\o.cls=.type "tuple"/\o.data=.seq items n/\aY I h ks items.toList
noncomputable def Bq(ks:Qa J):Int:=reduceHash (ĳ<|ks.map I.hash)
noncomputable def BV(ks:Qa J):Nat:=(ks.map I.draws).sum+1
variable{I}
def aY.inj{h:Ĭ}{x y:Qa J}{vs:Qa Qc}(hx:aY I h x vs)(hy:aY I h y vs):x=y:=by
 induction hx generalizing y with
 |nil=>cases hy;rfl
 |cons h1 _ ih=>
  cases hy with
  |cons h2 t2=>rw[I.inj h1 h2,ih t2]
def aY.keeps{h h':Ĭ}{x:Qa J}{vs:Qa Qc}{d:Qg}{o:Obj}{es ep}(hx:aY I h x vs)(ho:h.get? d=ž o)(hd:o.data=.dict es ep)(hs:ϊ d h h'):aY I h' x vs:=by
 induction hx with
 |nil=>exact .nil
 |cons h1 _ ih=>exact .cons (I.keeps h1 ho hd hs) ih
def gq.typeIs{s:Qd}{ks:Qa J}{a:Qg}(x:gq I s.heap ks a):s.TypeIs (.ref a) "tuple":=let ⟨o,_,_,ho,hc,_⟩:=x;⟨o,ho,hc⟩
def gq.tup{h:Ĭ}{ks:Qa J}{a:Qg}(x:gq I h ks a):∃items,h.IsTuple a items:=let ⟨o,aq,n,ho,hc,hd,_⟩:=x;⟨aq,o,ho,hc,n,hd⟩
def gq.inj{h:Ĭ}{a:Qg}{x y:Qa J}(hx:gq I h x a)(hy:gq I h y a):x=y:=by
 have(o,items,n,ho,_,hd,hi):=hx;have(o',H9,n',iz,_,oK,nv):=hy;obtain rfl:o=o':=qy (ho.symm.trans iz);rw[hd]at oK;injection oK with h1 _;subst h1;exact hi.inj nv
def gq.keeps{h h':Ĭ}{ks:Qa J}{a d:Qg}{o:Obj}{es ep}(x:gq I h ks a)(ho:h.get? d=ž o)(hd:o.data=.dict es ep)(hs:ϊ d h h'):gq I h' ks a:=by
 have(o',items,n,iz,hc,oK,hi):=x;have oJ:a≠d:=by
  rintro rfl;obtain rfl:o'=o:=qy (iz.symm.trans ho);rw[hd]at oK;exact nomatch oK
 exact⟨o',items,n,(hs.2 a oJ).trans iz,hc,oK,hi.keeps ho hd hs⟩
variable{A:Qf}{E:Qc->Qd->Prop}{s:Qd}
def Mi{ks:Qa J}{a:Qg}{Q:Int->Qd->Prop}(hu:A.units+(I.iP+1) < ϓ)(hk:gq I s.heap ks a)(h:Q (Bq I ks) {s with toks:=s.toks+BV I ks}):
  đ (Ĕ prog w) A (pyHash<|.ref a) Q E s:=by
 have hT:=hk.typeIs;have(o,items,n,ho,_,hd,hi):=hk;unfold pyHash
 first|unfold pyHashByItsType|skip
 first|refine qa (wpAny_cRoomFor_or (.inr (by omega)) ?_) |skip
 refine qa<|Ϻ hT ö.lookup ?_;show đ _ _ (if(ž (Value.builtin "tuple.__hash__")==ž Ħ)=ż then _ else _) Q E s;rw[a4c (by rw[beq_builtin_none];exact qf)];refine qa<|Ϻ hT ö.lookup ?_;show đ _ _ (callSpecialIfBoundUnlessNone? (.ref a) "__hash__" _ >>= _) Q E s;refine qa<|wpAny_callSpecialIfBoundUnlessNone?_slot hT ö<|İ ö hT PySem.F.entry_tuple_hash ?_<|PySem.F.args_tuple_hash_1 _;show đ _ _ (Ϥ (.ref a) >>= _) _ _ s;refine qa<|a1p ho hd ?_;refine qa ?_;rw[<-a3k];refine a0f _
  (λrest (b:Array Int) s'=>∃done left,ks=done++left/\aY I s.heap left rest/\b.toList=done.map I.hash/\s'={s with toks:=s.toks+(done.map I.draws).sum})
  _ ?_ ?_ _ _ ⟨[],ks,rfl,hi,rfl,rfl⟩
 .rintro x rest b s' ⟨done,left,rfl,hl,hb,rfl⟩
  cases hl with
  | @cons k _ m7 _ h1 t7=>
   refine qa (I.pyHash (s:={s with toks:=s.toks+(done.map I.draws).sum}) (by show A.units+1+I.iP < _;omega) h1 ?_)
   first
    |exact qb ⟨done++[k],m7,by simp,t7,by simp[hb],by simp[a0G]⟩
    |exact qa<|qb<|qb ⟨done++[k],m7,by simp,t7,by simp[hb],by simp[a0G]⟩
 .rintro b s' ⟨done,left,rfl,hl,hb,rfl⟩
  cases hl;rw[ş]at h;show đ _ _ (retInt<|ĳ b.toList) _ _ _;rw[hb];refine wpAny_ret_mkInt ?_;show đ _ _ (if(decide (-(2:Int)^63<=ĳ (done.map I.hash)) && decide (ĳ (done.map I.hash) < 2^63))=ż then _ else _) Q E _;unfold Bq reduceHash at h;unfold BV at h
  by_cases hr:(decide (-(2:Int)^63<=ĳ (done.map I.hash)) && decide (ĳ (done.map I.hash) < 2^63))=ż
  .rw[a4b hr]
   rw[a4b hr]at h;exact qb (by simpa [a0G] using h)
  .rw[a4c hr]
   rw[a4c hr]at h;exact qa<|a0n<|qb (by simpa [a0G] using h)
def zlQ{x y:Qa J}{a b:Qg}{P:Fin->Qd->Prop}(hu:A.units+I.iP < ϓ)(hx:gq I s.heap x a)(hy:gq I s.heap y b)(h:P (.done<|.ret<|.bool<|decide<|x=y) s):
  đ (Ĕ prog w) A (Builtin.«tuple.__eq__» ⟨[.ref a,.ref b],[]⟩) P E s:=by
 have hTb:=hy.typeIs;have(oa,xs,na,hoa,_,hda,hia):=hx;have(ob,ys,nb,hob,_,fY,hib):=hy;show đ _ _ (isInstance (.ref b) (.type "tuple") >>= _) _ _ s;refine qa<|a1U hTb a3H ?_;simp only[Υ,Ř,if_false];refine qa<|a1p hoa hda ?_;refine qa<|a1p hob fY ?_;refine qa ?_;refine a0f _
  (λrest r s'=>r.1=Ž/\s'=s/\∃x' y' iF jQ,rest=List.zip iF jQ/\aY I s.heap x' iF/\aY I s.heap y' jQ/\decide (x'=y')=decide (x=y)/\(iF.length==jQ.length)=(xs.size==ys.size))
  _ ?_ ?_ _ _ ⟨rfl,rfl,x,y,xs.toList,ys.toList,rfl,hia,hib,rfl,by simp⟩
 .rintro⟨u,v⟩ rest r s' ⟨hr,rfl,x',y',iF,jQ,hz,rN,CZ,p7,hlen⟩
  cases rN with
  |nil=>simp at hz
  | @cons k1 u' Qp Hg h1 Ii=>
   cases CZ with
   |nil=>simp at hz
   | @cons k2 v' Qm He h2 Ih=>
    simp only[a0H,List.cons.injEq,Prod.mk.injEq]at hz;obtain⟨⟨rfl,rfl⟩,rfl⟩:=hz;refine qa<|I.eqBool (x:=k1) (y:=k2) hu h1 h2 ?_
    by_cases hk:k1=k2
    .subst hk
     rw[a4d rfl];simp only[Υ,Ř,if_false];refine qb ⟨rfl,rfl,Qp,Qm,Hg,He,rfl,Ii,Ih,?_,by simpa using hlen⟩;rw[<-p7]
     by_cases Q6:Qp=Qm
     .simp[Q6]
     .simp[Q6]
    .rw[a4e hk]
     simp only[Bool.not_false,if_true];have hf:decide (x=y)=Ż:=by rw[<-p7];simp[hk]
     rw[hf]at h;exact qa<|qb<|qb<|qb h
 .rintro⟨r1,r2⟩ s' ⟨hr,rfl,x',y',iF,jQ,hz,rN,CZ,p7,hlen⟩
  simp only at hr;subst hr;refine qb ?_;have IJ:(xs.size==ys.size)=decide (x=y):=by
   rw[<-p7,<-hlen];cases rN with
   |nil=>
    cases CZ with
    |nil=>simp
    |cons _ _=>simp
   |cons _ _=>
    cases CZ with
    |nil=>simp
    |cons _ _=>simp at hz
  show P (.done<|.ret<|.bool<|xs.size==ys.size) s';rw[IJ];exact h
def Kg{x y:Qa J}{a b:Qg}{Q:Bool->Qd->Prop}(hu:A.units+(I.iP+1) < ϓ)(hx:gq I s.heap x a)(hy:gq I s.heap y b)(h:Q (decide<|x=y) s):
  đ (Ĕ prog w) A (eqBool (.ref a)<|.ref b) Q E s:=by
 unfold eqBool
 try with_reducible refine Ķ ?_
 show đ _ _ (if(Ĝ a==Ĝ b)=ż then _ else _) Q E s
 by_cases p8:(Ĝ a==Ĝ b)=ż
 .rw[a4b p8]
  have e:a=b:=by have:=eq_of_beq p8;injection this
  subst e;obtain rfl:=hx.inj hy;exact qa<|a0n<|qb (by simpa using h)
 .rw[a4c p8]
  exact qa (wpAny_richCompare_same_room (op:=.Eq) hx.typeIs hy.typeIs a2i
   (İ a2i hx.typeIs PySem.F.entry_tuple_eq (zlQ (by show A.units+1+I.iP < _;omega) hx hy ⟨_,rfl,(λe=>nomatch e),Œ h⟩)<|PySem.F.args_tuple_eq_2 _ _) (by omega))
def M3{ks:Qa J}{a:Qg}{Q:Bool->Qd->Prop}(n:Nat)(hn:I.iP+1<=n)(hk:gq I s.heap ks a)(h:Q ż s):đ (Ĕ prog w) A (eqIsQuiet n<|.ref a) Q E s:=by
 have hT:=hk.typeIs;obtain⟨m,rfl⟩:∃m,n=m+1:=⟨n - 1,by omega⟩;have(o,items,n',ho,_,hd,hi):=hk;unfold eqIsQuiet;refine qa<|Ϻ hT PySem.F.slot_tuple_eq.lookup ?_;show đ _ _ (isInstance (.ref a) (.type "tuple") >>= _) _ _ s;refine qa<|a1U hT a3H ?_;simp only[Υ,Ř,if_false];refine qa<|Φ ho hd ?_;refine qa ?_;show đ _ _ (forIn items _ _) _ _ s;rw[<-a3k];refine a0f _ (λrest r s'=>r.1=Ž/\s'=s/\∃m7,aY I s.heap m7 rest) _ ?_ ?_ _ _ ⟨rfl,rfl,ks,hi⟩
 .rintro v rest r s' ⟨hr,rfl,m7,ub⟩
  cases ub with
  |cons h1 t1=>
   refine qa<|I.quiet m (by omega) h1 ?_;simp only[Υ,Ř,if_false];exact qb ⟨rfl,rfl,_,t1⟩
 .rintro⟨r1,r2⟩ s' ⟨hr,rfl,_⟩
  simp only at hr;subst hr;exact qb h
end
def Ib(prog:Qe)(w:Qh):IK prog w Key where
 is:=λ_ k v=>(dC prog w).is k v=ż
 hash:=(dC prog w).hash
 draws:=λ_=>1
 iP:=0
 inj:=λhx hy=>(dC prog w).inj _ _ _ hx hy
 keeps:=λx _ _ _=>x
 pyHash:=λ_ hk h=>(dC prog w).pyHash hk h
 eqBool:=λ_ hx hy h=>(dC prog w).eqBool hx hy h
 quiet:=λn _ hk h=>by rw[eqIsQuiet_byValue n<|(dC prog w).byValue _ _ hk];exact qb h
def vH{prog:Qe}{w:Qh}{J:Type}[DecidableEq J](I:IK prog w J):IK prog w (Key ⊕ Qa J) where
 is:=λh x v=>match x with
  |.inl k=>(dC prog w).is k v=ż
  |.inr ks=>∃a,v=.ref a/\gq I h ks a
 hash:=λx=>match x with
  |.inl k=>(dC prog w).hash k
  |.inr ks=>Bq I ks
 draws:=λx=>match x with
  |.inl _=>1
  |.inr ks=>BV I ks
 iP:=I.iP+1
 inj:=λ{h v x y} hx hy=>by
  cases x with
  |inl k=>
   cases y with
   |inl k'=>exact congrArg Ϸ<|(dC prog w).inj _ _ _ hx hy
   |inr ks=>
    have(a,rfl,_):=hy;rcases jN hx with⟨i,t,_,e⟩|⟨z,t,_,e⟩<;>cases e
  |inr ks=>
   have(a,rfl,hx):=hx;cases y with
   |inl k'=>rcases jN hy with⟨i,t,_,e⟩|⟨z,t,_,e⟩<;>cases e
   |inr m7=>
    have(b,e,hy):=hy;cases e;exact congrArg Ο (hx.inj hy)
 keeps:=λ{h h' k v d o es ep} x ho hd hs=>by
  cases k with
  |inl k=>exact x
  |inr ks=>
   have(a,e,x):=x;exact⟨a,e,x.keeps ho hd hs⟩
 pyHash:=λ{A E s k v Q} hu hk h=>by
  cases k with
  |inl k=>exact(dC prog w).pyHash hk h
  |inr ks=>
   have(a,rfl,x):=hk;exact Mi hu x h
 eqBool:=λ{A E s x y u v Q} hu hx hy h=>by
  cases x with
  |inl k=>
   cases y with
   |inl k'=>exact(dC prog w).eqBool hx hy (by simpa using h)
   |inr ks=>
    have(b,rfl,hy):=hy;have(aq,ht):=hy.tup;have h':Q Ż s:=by simpa using h
    rcases jN hx with⟨i,t,rfl,rfl⟩|⟨z,t,rfl,rfl⟩
    .exact SeqAt.EqAt.int_tuple i t ht (by omega) _ _ _ _ h'
    .exact SeqAt.EqAt.str_tuple z t ht (by omega) _ _ _ _ h'
  |inr ks=>
   have(a,rfl,hx):=hx;have(aq,ht):=hx.tup;cases y with
   |inl k'=>
    have h':Q Ż s:=by simpa using h
    rcases jN hy with⟨i,t,rfl,rfl⟩|⟨z,t,rfl,rfl⟩
    .exact SeqAt.EqAt.tuple_int i t ht (by omega) _ _ _ _ h'
    .exact SeqAt.EqAt.tuple_str z t ht (by omega) _ _ _ _ h'
   |inr m7=>
    have(b,rfl,hy):=hy;exact Kg hu hx hy (by simpa using h)
 quiet:=λ{A E s k v Q} n hn hk h=>by
  cases k with
  |inl k=>rw[eqIsQuiet_byValue n<|(dC prog w).byValue _ _ hk];exact qb h
  |inr ks=>
   have(a,rfl,x):=hk;exact M3 n hn x h
def U1{prog:Qe}{w:Qh}{J:Type}[DecidableEq J](I:IK prog w J)(hI:I.iP<=7):HeapKind prog w (Qa J) where
 is:=gq I
 hash:=Bq I
 draws:=BV I
 room:=λA=>A.units+(I.iP+1) < ϓ
 inj:=λhx hy=>hx.inj hy
 keeps:=λx ho hd hs=>x.keeps ho hd hs
 pyHash:=λhu hk h=>Mi hu hk h
 eqBool:=λhu hx hy h=>Kg hu hx hy h
 quiet:=λhk h=>M3 8 (by omega) hk h
abbrev K1:=Key ⊕ Qa Key
instance dK1:DecidableEq K1:=instDecidableEqSum
abbrev K2:=Key ⊕ Qa K1
instance dK2:DecidableEq K2:=instDecidableEqSum
abbrev Jk:=Key ⊕ Qa K2
instance dK2a:DecidableEq Jk:=instDecidableEqSum
abbrev K3:=Key ⊕ Qa Jk
instance dK3:DecidableEq K3:=instDecidableEqSum
instance dL3:DecidableEq (Qa K3):=instDecidableEqList
def wX(prog:Qe)(w:Qh):HeapKind prog w (Qa K3):=U1 (vH<|vH<|vH<|vH<|Ib prog w) (by show 4<=7;decide)
inductive HO where
 |lst (xs:Qa V)
 |tup (xs:Qa V)
 |dK (ao:Qa (Key×V)) |dT (ao:Qa (Qa Key×V))
 |set (S:Int->Bool) (n:Nat)
 |ins (C dx:Qg) (fs:Qa (Str×V))
 |own (x:Qg)
 |xd (fs:Qa (Str×V))
 |met (f x:Qg)
 |Hw (lo hi:Int)
 |aQ (o:Obj) (u:HO)
 |kF (ps:Array Qc)
 |ext (φ:Ĭ->Prop)
 |sub (b:Qg) (p u:HO)
 |dX (ao:Qa (Qa K3×V))
noncomputable def HO.flat:HO->Bool
 |.lst _=>ż
 |.dK _=>ż
 |.dT _=>ż
 |.dX _=>ż
 |_=>Ż
abbrev Hp:=Qg->Qb HO
noncomputable def upd(H:Hp)(a:Qg)(o:HO):Hp:=λb=>if b=a then ž o else H b
def zw{H:Hp}{a:Qg}{o:HO}:upd H a o a=ž o:=by unfold upd;rw[a4b rfl]
def zu{H:Hp}{a b:Qg}{o:HO}(h:b≠a):upd H a o b=H b:=by unfold upd;rw[a4c h]
def X8{H:Hp}{a:Qg}{o u:HO}:upd (upd H a o) a u=upd H a u:=by
 funext b;unfold upd;split<;>rfl
def uJ{H:Hp}{a b:Qg}{o u:HO}(h:H a=ž o)(h':H b=ž u)(d:o≠u):a≠b:=by
 intro e;subst e;rw[h]at h';exact d<|qy h'
def kA{H:Hp}{a b:Qg}{o:HO}(h:H a=ž o)(h':H b=Ž):a≠b:=by
 intro e;subst e;rw[h]at h';cases h'
def zCD(K:qc)(a:Qg)(xs:Qa V):Prop:=∃(o:Obj) (aq:Array Qc) (n:Nat),K.lookup a=ž o/\o.cls=.type "tuple"/\o.data=.seq aq n/\aq.size<=ċ/\zV xs aq.toList/\∃i r,xs=.int i::r
def bK(K:qc)(H:Hp)(a:Qg)(xs:Qa V):Prop:=H a=ž (.tup xs)\/zCD K a xs
def bK.keeps{K:qc}{H H':Hp}{a:Qg}{xs:Qa V}(h:bK K H a xs)(ht:∀b ys,H b=ž (.tup ys)->H' b=ž (.tup ys)):bK K H' a xs:=h.imp (ht _ _) id
def pG(h:Ĭ)(a:Qg)(items:Array Qc):Prop:=∃o,h.get? a=ž o/\o.cls=.type "tuple"/\(∃n,o.data=.seq items n)/\(o.dict=Ž\/∃i t r,items.toList=.int i t::r)
def pG.tup{h:Ĭ}{a:Qg}{items:Array Qc}(x:pG h a items):IsTup h a items:=let ⟨o,e,c,d,_⟩:=x;⟨o,e,c,d⟩
def pG.lt{h:Ĭ}{a:Qg}{items:Array Qc}(x:pG h a items):a < h.objs.size:=x.tup.lt
def pG.new(h:Ĭ)(items:Array Qc):pG (h.push {cls:=.type "tuple",data:=.seq items}) h.objs.size items:=⟨_,qg _ rfl,rfl,⟨_,rfl⟩,.inl rfl⟩
def N0(K:qc)(H:Hp)(ks:Qa Key)(a:Qg):Prop:=bK K H a (ks.map kV)
def NI{J:Type}(P:Qa J->Qg->Prop)(x:Key ⊕ Qa J)(v:V):Prop:=match x with
 |.inl k=>v=kV k
 |.inr ks=>∃b,v=.ref b/\P ks b
def iA{J:Type}(K:qc)(H:Hp)(P:Qa J->Qg->Prop)(xs:Qa (Key ⊕ Qa J))(a:Qg):Prop:=∃vs,bK K H a vs/\ϲ (NI P) xs vs
def N3(K:qc)(H:Hp):Qa K3->Qg->Prop:=iA K H (iA K H<|iA K H<|iA K H<|N0 K H)
def X7{α β:Type}{F G:α->β->Prop}{m5:Qa α}{mZ:Qa β}(h:ϲ F m5 mZ)(f:∀a b,F a b->G a b):ϲ G m5 mZ:=by
 induction h with
 |nil=>exact .nil
 |cons r _ ih=>exact .cons (f _ _ r) ih
def iA.keeps{J:Type}{K:qc}{H H':Hp}{P P':Qa J->Qg->Prop}{xs:Qa (Key ⊕ Qa J)}{a:Qg}(h:iA K H P xs a)(ht:∀b ys,H b=ž (.tup ys)->H' b=ž (.tup ys))(hp:∀ks b,P ks b->P' ks b):iA K H' P' xs a:=by
 have(vs,h1,h2):=h;refine⟨vs,h1.keeps ht,X7 h2 λx v z=>?_⟩;cases x with
 |inl k=>exact z
 |inr ks=>have(b,e,z):=z;exact⟨b,e,hp _ _ z⟩
def N3.keeps{K:qc}{H H':Hp}{xs:Qa K3}{a:Qg}(h:N3 K H xs a)(ht:∀b ys,H b=ž (.tup ys)->H' b=ž (.tup ys)):N3 K H' xs a :=
 iA.keeps h ht λ_ _ h=>iA.keeps h ht λ_ _ h=>iA.keeps h ht λ_ _ h=>iA.keeps h ht λ_ _ h=>bK.keeps h ht
section
variable(P:Qe)(w:Qh)(K:qc)
def zX(H:Hp)(h:Ĭ)(a:Qg):HO->Prop
 |.lst xs=>xs.length<=ċ/\∃(aq:Qa Qc) (n:Nat),zV xs aq/\h.get? a=ž {cls:=.type "list",data:=.seq aq.toArray n}
 |.tup xs=>xs.length<=ċ/\∃aq:Qa Qc,zV xs aq/\pG h a aq.toArray
 |.dK ao=>ao.length<=ċ/\(a==Ŀ)=Ż/\∃vs,KV ao vs/\h.DictOf (dC P w) a vs
 |.dT ao=>ao.length<=ċ/\(a==Ŀ)=Ż/\∃xs:Qa (Qa Key×Qg×Qc),
   ϲ (λ(p:Qa Key×V) (q:Qa Key×Qg×Qc)=>p.1=q.1/\bK K H q.2.1 (p.1.map kV)/\zT p.2 q.2.2) ao xs/\
   ∃o es ep,h.get? a=ž o/\o.ExactDict/\o.data=.dict es ep/\es.toList=xs.map (entryOfKey<|a0U<|dC P w)/\(xs.map (·.1)).Nodup
 |.dX ao=>ao.length<=ċ/\(a==Ŀ)=Ż/\∃xs:Qa (Qa K3×Qg×Qc),
   ϲ (λ(p:Qa K3×V) (q:Qa K3×Qg×Qc)=>p.1=q.1/\N3 K H p.1 q.2.1/\zT p.2 q.2.2) ao xs/\
   ∃o es ep,h.get? a=ž o/\o.ExactDict/\o.data=.dict es ep/\es.toList=xs.map (entryOfKey<|wX P w)/\(xs.map (·.1)).Nodup
 |.set S n=>h.SetOf (intKind P w) a S n
 |.ins C dx fs=>H dx=ž (.own a)/\fs.length<=1000/\dx≠a/\h.get? a=ž (Ŝ C dx)/\
   ∃mA,h.Ns1 dx mA/\(∀f,gM (fs.lookup f)<|mA f)/\a2q mA (fs.map (·.1))
 |.own _=>∃o,h.get? a=ž o
 |.xd fs=>∃mA,h.Ns1 a mA/\∀f,gM (fs.lookup f)<|mA f
 |.Hw lo hi=>∃t u v,h.get? a=ž {cls:=.type "range",data:=.fields #[.int lo t,.int hi u,.int 1 v]}
 |.aQ o u=>h.get? a=ž o/\zX H h a u
 |.kF ps=>h.get? a=ž {cls:=.none,data:=.fields ps}
 |.met f x=>h.get? a=ž (a0B (.ref f)<|.ref x)
 |.ext φ=>φ h/\(∃o,h.get? a=ž o)/\∀h1 h2:Ĭ,φ h1->(∀o,h1.get? a=ž o->h2.get? a=ž o)->φ h2
 |.sub b p u=>zX H h a u/\H b=ž (.own a)/\b≠a/\p.flat=ż/\zX H h b p
def cq(H:Hp)(h:Ĭ):Prop:=∀a o,H a=ž o->zX P w K H h a o
end
section
variable{P:Qe}{w:Qh}{K:qc}{H H':Hp}{h h':Ĭ}{a:Qg}{o:HO}
def zX.lt(x:zX P w K H h a o):a < h.objs.size:=by
 induction o with
 |sub b p u _ ih=>exact ih x.1
 |lst xs=>have(_,_,_,_,e):=x;exact qh e
 |tup xs=>have(_,_,_,p):=x;exact p.lt
 |dK ao=>have(_,_,_,_,o,_,_,e,_):=x;exact qh e
 |dT ao=>have(_,_,_,_,o,_,_,e,_):=x;exact qh e
 |dX ao=>have(_,_,_,_,o,_,_,e,_):=x;exact qh e
 |set S n=>have(o,_,_,_,e,_):=x;exact qh e
 |ins C dx fs=>have(_,_,_,e,_):=x;exact qh e
 |own y=>have(_,e):=x;exact qh e
 |xd fs=>obtain⟨_,⟨_,_,_,e,_⟩,_⟩:=x;exact qh e
 |Hw lo hi=>have(_,_,_,e):=x;exact qh e
 |aQ ob u _=>have(e,_):=x;exact qh e
 |kF ps=>exact qh (show h.get? a=ž _ from x)
 |met f y=>exact qh (show h.get? a=ž _ from x)
 |ext φ=>obtain⟨_,⟨_,e⟩,_⟩:=x;exact qh e
def Paired.hJ{α β:Type}{F G:α->β->Prop}:∀{m5:Qa α} {mZ:Qa β},ϲ F m5 mZ->(∀a b,F a b->G a b)->ϲ G m5 mZ
 |_,_,.nil,_=>.nil
 |_,_,.cons r t,f=>.cons (f _ _ r)<|Paired.hJ t f
def zX.mV(x:zX P w K H h a o)(f:o.flat=ż)(k:∀u,h.get? a=ž u->h'.get? a=ž u)(ht:∀b xs,H b=ž (.tup xs)->H' b=ž (.tup xs)):zX P w K H' h' a o:=by
 cases o with
 |lst xs=>have(z,aq,n,r,e):=x;exact⟨z,aq,n,r,k _ e⟩
 |dK ao=>have(z,y,vs,r,ob,es,ep,e,c):=x;exact⟨z,y,vs,r,ob,es,ep,k _ e,c⟩
 |dT ao=>
  have(z,y,xs,r,ob,es,ep,e,c):=x;exact⟨z,y,xs,Paired.hJ r λp q z=>⟨z.1,z.2.1.keeps ht,z.2.2⟩,ob,es,ep,k _ e,c⟩
 |dX ao=>
  have(z,y,xs,r,ob,es,ep,e,c):=x;exact⟨z,y,xs,Paired.hJ r λp q z=>⟨z.1,z.2.1.keeps ht,z.2.2⟩,ob,es,ep,k _ e,c⟩
 |_=>cases f
def zX.cx(x:zX P w K H h a o)(k:∀b u,(b=a\/H b=ž (.own a))->h.get? b=ž u->h'.get? b=ž u)
  (ho:∀b,H b=ž (.own a)->H' b=ž (.own a)) (ht:∀b xs,H b=ž (.tup xs)->H' b=ž (.tup xs)):zX P w K H' h' a o:=by
 induction o with
 |lst xs=>have(z,aq,n,r,e):=x;exact⟨z,aq,n,r,k _ _ (.inl rfl) e⟩
 |tup xs=>have(z,aq,r,ob,e,c):=x;exact⟨z,aq,r,ob,k _ _ (.inl rfl) e,c⟩
 |dK ao=>have(z,y,vs,r,ob,es,ep,e,c):=x;exact⟨z,y,vs,r,ob,es,ep,k _ _ (.inl rfl) e,c⟩
 |dT ao=>
  have(z,y,xs,r,ob,es,ep,e,c):=x;exact⟨z,y,xs,Paired.hJ r λp q z=>⟨z.1,z.2.1.keeps ht,z.2.2⟩,ob,es,ep,k _ _ (.inl rfl) e,c⟩
 |dX ao=>
  have(z,y,xs,r,ob,es,ep,e,c):=x;exact⟨z,y,xs,Paired.hJ r λp q z=>⟨z.1,z.2.1.keeps ht,z.2.2⟩,ob,es,ep,k _ _ (.inl rfl) e,c⟩
 |set S n=>have(ob,es,ep,t,e,c):=x;exact⟨ob,es,ep,t,k _ _ (.inl rfl) e,c⟩
 |ins C dx fs=>
  obtain⟨d,z,ne,e,mA,⟨od,es,ep,e2,c⟩,r⟩:=x;exact⟨ho _ d,z,ne,k _ _ (.inl rfl) e,mA,⟨od,es,ep,k _ _ (.inr d) e2,c⟩,r⟩
 |own y=>have(ob,e):=x;exact⟨ob,k _ _ (.inl rfl) e⟩
 |xd fs=>obtain⟨mA,⟨od,es,ep,e,c⟩,r⟩:=x;exact⟨mA,⟨od,es,ep,k _ _ (.inl rfl) e,c⟩,r⟩
 |Hw lo hi=>have(t,u,v,e):=x;exact⟨t,u,v,k _ _ (.inl rfl) e⟩
 |aQ ob u ih=>have(e,q):=x;exact⟨k _ _ (.inl rfl) e,ih q⟩
 |kF ps=>
  have e:h.get? a=ž {cls:=.none,data:=.fields ps}:=x;show h'.get? a=ž {cls:=.none,data:=.fields ps};exact k a _ (.inl rfl) e
 |met f y=>
  have e:h.get? a=ž (a0B (.ref f)<|.ref y):=x;show h'.get? a=ž (a0B (.ref f)<|.ref y);exact k a _ (.inl rfl) e
 |ext φ=>obtain⟨p,⟨o,e⟩,st⟩:=x;exact⟨st _ _ p λo q=>k _ _ (.inl rfl) q,⟨o,k _ _ (.inl rfl) e⟩,st⟩
 |sub b p u _ ih=>have(y,e,n,f,q):=x;exact⟨ih y,ho _ e,n,f,q.mV f (λu z=>k _ _ (.inr e) z) ht⟩
def cq.lt(x:cq P w K H h)(e:H a=ž o):a < h.objs.size:=(x a o e).lt
def cq.fresh(x:cq P w K H h)(e:h.objs.size<=a):H a=Ž:=by
 cases q:H a with
 |none=>rfl
 |some u=>exact absurd (qi (x.lt q) e)<|Ú _
def cq.kept(x:cq P w K H h)(k:∀b u,h.get? b=ž u->h'.get? b=ž u):cq P w K H h':=λa o e=>
 (x a o e).cx (λb u _ q=>k b u q) (λ_ q=>q) λ_ _ q=>q
def cq.laid(x:cq P w K H h)(k:∀b u,h.get? b=ž u->h'.get? b=ž u)(hp:h.objs.size<=a)(new:zX P w K (upd H a o) h' a o):cq P w K (upd H a o) h':=λb u e=>by
 have hn:=x.fresh hp
 by_cases hb:b=a
 .subst hb;rw[zw]at e;cases e;exact new
 .rw[zu hb]at e
  exact(x b u e).cx (λc v _ q=>k c v q) (λc q=>by rw[zu<|kA q hn];exact q) λc xs q=>by rw[zu<|kA q hn];exact q
end
def Rd(H:Hp)(a:Qg)(u:HO):Prop:=H a=ž u\/∃o,H a=ž (.aQ o u)
def Rd.ok{P:Qe}{w:Qh}{K:qc}{H:Hp}{h:Ĭ}{a:Qg}{u:HO}(r:Rd H a u)(x:cq P w K H h):zX P w K H h a u:=by
 rcases r with r|⟨o,r⟩
 .exact x a u r
 .have(_,q):=x a _ r
  exact q
def yX:Qb HO->Prop
 |some (.lst _)=>True
 |some (.dK _)=>True
 |some (.dT _)=>True
 |some (.set _ _)=>True
 |some (.ins _ _ _)=>True
 |some (.ext _)=>True
 |some (.sub _ _ _)=>True
 |some (.dX _)=>True
 |_=>False
section
variable{P:Qe}{w:Qh}{K:qc}{H:Hp}{h h':Ĭ}{x e:Qg}{o':HO}
def cq.write(ok:cq P w K H h)(mu:yX (H x))(he:e=x\/H e=ž (.own x))(k:∀b u,b≠e->h.get? b=ž u->h'.get? b=ž u)(vK:∃u,h'.get? e=ž u)
  (new:zX P w K (upd H x o') h' x o'):cq P w K (upd H x o') h':=λb u q=>by
 have yh:∀c y,H c=ž (.own y)->c≠x:=λc y r z=>by subst z;rw[r]at mu;exact mu
 have HI:∀c xs,H c=ž (.tup xs)->c≠x:=λc xs r z=>by subst z;rw[r]at mu;exact mu
 by_cases hb:b=x
 .subst hb;rw[zw]at q;cases q;exact new
 .rw[zu hb]at q
  by_cases ua:b=e
  .have q':H b=ž (.own x):=by
    rcases he with z|z
    .exact absurd (ua.trans z) hb
    .rw[ua];exact z
   rw[q]at q';cases q';have(v,hv):=vK;exact⟨v,by rw[ua];exact hv⟩
  .refine(ok b u q).cx (λc v hc r=>k c v ?_ r) (λc r=>by rw[zu<|yh c b r];exact r) λc xs r=>by rw[zu<|HI c xs r];exact r
   rcases hc with rfl|hc
   .exact ua
   .rintro rfl
    rcases he with z|z
    .exact yh c b hc z
    .rw[hc]at z;cases z;exact hb rfl
end
structure Un (fs ex:Qa Qg) (H H':Hp) (h h':Ĭ):Prop where
 keep:∀b o,h.get? b=ž o->H b=Ž->b∉fs->b∉ex->h'.get? b=ž o
 slot:∀b o,h.get? b=ž o->H b=Ž->b∈fs->b∉ex->∃sl,h'.get? b=ž {o with slots:=sl}
 free:∀b o,h.get? b=ž o->H b=Ž->b∉ex->H' b=Ž
 there:∀b o,h.get? b=ž o->b∉ex->∃o',h'.get? b=ž o'
 eS:∀b xs,H b=ž (.tup xs)->H' b=ž (.tup xs)
 dI:∀b o u,H b=ž (.aQ o u)->H' b=ž (.aQ o u)
 fO:∀b ps,H b=ž (.kF ps)->∃more,H' b=ž (.kF<|ps++more)
section
variable{fs fs' ex ex':Qa Qg}{H H1 H2:Hp}{h h1 h2 h':Ĭ}{a x e:Qg}{o:HO}
def Un.any(u:Un fs ex H H1 h h1){b:Qg}{ob:Obj}(q:h.get? b=ž ob)(n:H b=Ž)(hx:b∉ex):∃sl,h1.get? b=ž {ob with slots:=sl}:=by
 by_cases hb:b∈fs
 .exact u.slot b ob q n hb hx
 .exact⟨ob.slots,u.keep b ob q n hb hx⟩
def Un.kept(k:∀b u,h.get? b=ž u->h'.get? b=ž u):Un fs ex H H h h' :=
 ⟨λb ob q _ _ _=>k b ob q,λb ob q _ _ _=>⟨ob.slots,k b ob q⟩,λ_ _ _ n _=>n,λb ob q _=>⟨ob,k b ob q⟩,λ_ _ q=>q,λ_ _ _ q=>q,λ_ ps q=>⟨#[],by rw[q];simp⟩⟩
def Un.refl:Un fs ex H H h h:=Un.kept λ_ _ q=>q
def Un.laid(k:∀b u,h.get? b=ž u->h'.get? b=ž u)(hp:h.objs.size<=a)(hn:H a=Ž):Un fs ex H (upd H a o) h h' where
 keep:=λb u q _ _ _=>k b u q
 slot:=λb u q _ _ _=>⟨u.slots,k b u q⟩
 free:=λb u q n _=>by rw[zu<|qj<|qi (qh q) hp];exact n
 there:=λb u q _=>⟨u,k b u q⟩
 eS:=λb xs q=>by rw[zu<|kA q hn];exact q
 dI:=λb u xs q=>by rw[zu<|kA q hn];exact q
 fO:=λb ps q=>⟨#[],by rw[zu<|kA q hn,q];simp⟩
def Un.write(mu:yX (H x))(he:e=x\/H e=ž (.own x))(k:∀b u,b≠e->h.get? b=ž u->h'.get? b=ž u)(vK:∃u,h'.get? e=ž u):Un fs ex H (upd H x o) h h':=by
 have hx:∀b,H b=Ž->b≠x:=λb n z=>by subst z;rw[n]at mu;exact mu
 have hb:∀b,H b=Ž->b≠e:=λb n z=>by
  subst z;rcases he with r|r
  .exact hx b n r
  .rw[n]at r;cases r
 have hm:∀b u,H b=ž u->¬yX (ž u)->b≠x:=λb u q nm z=>by subst z;rw[q]at mu;exact nm mu
 refine⟨λb u q n _ _=>k b u (hb b n) q,λb u q n _ _=>⟨u.slots,k b u (hb b n) q⟩,λb u q n _=>by rw[zu<|hx b n];exact n,λb u q _=>?_,
  λb xs q=>by rw[zu<|hm b _ q λz=>z];exact q,λb u xs q=>by rw[zu<|hm b _ q λz=>z];exact q,λb ps q=>⟨#[],by rw[zu<|hm b _ q λz=>z,q];simp⟩⟩
 by_cases ua:b=e
 .subst ua;exact vK
 .exact⟨u,k b u ua q⟩
end
noncomputable def CF(h:Ĭ)(H:Hp):Qa Qg:=(Ğ h.objs.size).filter λa=>(H a).isSome
def oX(h:Ĭ)(H:Hp):Ĭ:=PySem.W.hideAll h (CF h H)
def zoX(h:Ĭ)(H:Hp):(oX h H).objs.size=h.objs.size:=PySem.W.hideAll_size _ _
def zpS{h:Ĭ}{H:Hp}{b:Qg}{o:Obj}(e:h.get? b=ž o)(n:H b=Ž):(oX h H).get? b=ž o :=
 PySem.W.hideAll_get _ e λhm=>by
  have q:(H b).isSome=ż:=(List.mem_filter.mp hm).2;rw[n]at q;simp at q
def X6{h:Ĭ}{H:Hp}{b:Qg}{o:Obj}(e:(oX h H).get? b=ž o):h.get? b=ž o/\H b=Ž:=by
 have e':h.get? b=ž o:=PySem.W.of_hideAll (CF h H) e;refine⟨e',?_⟩;cases q:H b with
 |none=>rfl
 |some x=>
  have hm:b∈CF h H:=List.mem_filter.mpr ⟨ç.mpr<|qh e',by simp[q]⟩;have z:(oX h H).get? b=Ž:=PySem.W.hideAll_none (CF h H) hm;rw[z]at e;cases e
noncomputable def X5(g h:Ĭ)(L:Qg):Qa (Qg×Obj):=(Ğ h.objs.size).filterMap λa=>if a=L\/(g.get? a).isSome=ż then Ž else(h.get? a).map λo=>(a,o)
def rest(g h:Ĭ)(L d:Qg):Qa (Qg×Obj):=(X5 g h L).filter λp=>decide<|p.1≠d
structure Mod (K:qc) (mg:Str->Qb Qc) (base:Ĭ):Prop where
 eK:K.In base
 glob:base.Ns Ě mg
 blt:∃mb,base.Ns builtinsNs mb/\∀x:Str,x ≠ "__name__"->mb x=ř x
 nolimit:base.NoLimit
structure Cx where
 prog:Qe
 w:Qh
 K:qc
 mg:Str->Qb Qc
 base:Ĭ
 A:Qf
 N:Qa Str
 bB:Qd
 H₀:Hp
 env:Env
 outer:Qa Env
 stack:Qa Env
 ex:Qa Qg
 fn:Str->Bool
 calm:Bool
 pn:Qa (Qg×Obj)
 xe:Qc->Qd->Prop
noncomputable def kQ(l:Qa Env):Qa Qg:=l.filterMap (·.frame)
abbrev Cx.fs(X:Cx):Qa Qg:=kQ X.outer
def Dw(sc:a1I)(x:Str):Prop:=sc.names.lookup x=ž .local\/sc.names.lookup x=ž .cell\/sc.names.lookup x=ž .free
def Loc(sc:a1I)(x:Str):Prop:=sc.names.lookup x=ž .local\/sc.names.lookup x=ž .cell
def zCE(env:Env)(h:Ĭ)(m:Str->Qb Qc)(x:Str)(u:Qc):Prop :=
 (env.kindOf x=ž .local/\m x=ž u)\/((env.kindOf x=ž .cell\/env.kindOf x=ž .free)/\∃c,env.cells.lookup x=ž c/\h.IsCell c (ž u))
structure Cx.Ok (X:Cx):Prop where
 mod:Mod X.K X.mg X.base
 kind:X.env.scope.kind=.function
 glob:X.env.globals=Ě
 blt:X.env.builtins=builtinsNs
 above:X.bB.heap.objs.size<=X.env.locals
 inj:∀x y c,X.env.cells.lookup x=ž c->X.env.cells.lookup y=ž c->x=y
 has:∀x,(X.env.kindOf x=ž .cell\/X.env.kindOf x=ž .free)->∃c,X.env.cells.lookup x=ž c
 vW:∀x c,X.fn x=ż->X.env.cells.lookup x=ž c->X.bB.heap.objs.size<=c
 hd:X.calm=ż->X.A.handled=Ž
 frames:X.A.frames=ž X.stack
 ya:X.stack=X.outer\/(X.stack=X.env::X.outer/\X.env.frame=ž X.env.locals)
 Dq:∀b∈X.ex,b≠X.env.locals/\∀x c,X.env.cells.lookup x=ž c->c≠b
 bs:∀b o,X.base.get? b=ž o->X.bB.heap.get? b=ž o/\X.H₀ b=Ž
 oR:X.base.objs.size<=X.bB.heap.objs.size
 kJ:∀b o,X.base.get? b=ž o->b∉X.ex
 nD:∀b∈X.ex,b∉X.fs
 eA:X.bB.heap.FunFrames X.base X.outer
 rV:∀b∈X.fs,X.H₀ b=Ž
structure Inv (X:Cx) (pins:Qa (Qg×Obj)) (σ:Qa (Qb V)) (H:Hp) (s:Qd):Prop where
 ok:X.Ok
 os:s.os=X.bB.os
 bare:ο s.gens
 base:Un X.fs X.ex X.H₀ H X.bB.heap s.heap
 loc:∃m,s.heap.Ns X.env.locals m/\∀(i:Nat) (x:Str) (v:V),X.N[i]?=ž x->σ[i]?=ž (ž v)->Dw X.env.scope x->∃u,zT v u/\zCE X.env s.heap m x u
 cell:∀x c,X.env.cells.lookup x=ž c->∃v,s.heap.IsCell c v
 free:H X.env.locals=Ž
 bP:∀x c,X.env.cells.lookup x=ž c->H c=Ž
 pin:∀p∈X.pn++pins,s.heap.get? p.1=ž p.2/\H p.1=Ž/\p.1≠X.env.locals/\p.1∉X.fs/\∀v,p.2.data≠.cell v
 aF:cq X.prog X.w X.K H s.heap
 len:σ.length=X.N.length
section
variable{X:Cx}{pins:Qa (Qg×Obj)}{σ:Qa (Qb V)}{H H':Hp}{s:Qd}{h':Ĭ}
def Cx.Ok.HK(ok:X.Ok){b:Qg}{o:Obj}(e:X.base.get? b=ž o):b∉X.fs:=λhb=>by
 have:=(ok.eA.mem hb).1;rw[e]at this;cases this
def Inv.bs(I:Inv X pins σ H s):∀b o,X.base.get? b=ž o->s.heap.get? b=ž o/\H b=Ž:=λb o e=>
 ⟨I.base.keep b o (I.ok.bs b o e).1 (I.ok.bs b o e).2 (I.ok.HK e)<|I.ok.kJ b o e,I.base.free b o (I.ok.bs b o e).1 (I.ok.bs b o e).2<|I.ok.kJ b o e⟩
def Inv.bk(I:Inv X pins σ H s):∀b o,X.base.get? b=ž o->s.heap.get? b=ž o:=λb o e=>(I.bs b o e).1
def Inv.mod(I:Inv X pins σ H s):Mod X.K X.mg X.base:=I.ok.mod
def Inv.bZ(I:Inv X pins σ H s):X.K.In s.heap:=I.ok.mod.eK.keeps I.bk
def Inv.fr(I:Inv X pins σ H s):∃m,Fr X.base X.env.locals s.heap m :=
 let ⟨m,hn,_⟩:=I.loc
 ⟨m,hn,I.bk,qA I.ok.oR I.ok.above⟩
def Inv.lt(I:Inv X pins σ H s):X.env.locals < s.heap.objs.size:=let ⟨_,hn,_⟩:=I.loc;hn.lt
def Inv.sz(I:Inv X pins σ H s):X.bB.heap.objs.size<=s.heap.objs.size:=qA I.ok.above (Ý I.lt)
def Inv.HJ(I:Inv X pins σ H s){a:Qg}(h:s.heap.objs.size<=a):a∉X.fs:=λhb=>by
 have(_,o,ho,_):=I.ok.eA.mem hb;exact absurd (qi (qh ho)<|qA I.sz h)<|Ú _
def Inv.oQ(I:Inv X pins σ H s):∀x c,X.env.cells.lookup x=ž c->c≠X.env.locals:=λx c e z=>by
 have(v,o,ho,hd):=I.cell x c e;obtain⟨m,⟨o',es,ep,iz,oK,_⟩,_⟩:=I.loc;rw[z,iz]at ho;cases ho;rw[oK]at hd;cases hd
def Inv.eA(I:Inv X pins σ H s):s.heap.FunFrames X.base X.outer:=by
 have all:∀(l:Qa Env),(∀b∈kQ l,b∈X.fs)->X.bB.heap.FunFrames X.base l->s.heap.FunFrames X.base l:=by
  intro l
  induction l with
  |nil=>intro _ _;trivial
  |cons env r ih=>
   intro hs hl;obtain⟨hk,⟨L,o,hf,hn,ho,hd⟩,hr⟩:=hl;have hL:L∈X.fs:=hs L (by unfold kQ;rw[a0y,hf];exact qq);have(sl,e):=I.base.slot L o ho (I.ok.rV L hL) hL λz=>I.ok.nD L z hL;exact⟨hk,⟨L,_,hf,hn,e,hd⟩,ih (λb hb=>hs b (by unfold kQ;rw[a0y,hf];exact qp _ hb)) hr⟩
 exact all X.outer (λ_ hb=>hb) I.ok.eA
def Inv.stack(I:Inv X pins σ H s):s.heap.FunFrames X.base X.stack:=by
 rcases I.ok.ya with e|⟨e,hf⟩
 .rw[e];exact I.eA
 .rw[e]
  have(m,hn,_):=I.loc;refine .cons (by rw[I.ok.kind];decide) hf hn ?_ I.eA;exact Heap.get?_none_of_le<|qA I.ok.oR I.ok.above
def Inv.g9(I:Inv X pins σ H s):∀b∈kQ X.stack,b∈X.env.locals::X.fs:=λb hb=>by
 rcases I.ok.ya with e|⟨e,hf⟩
 .rw[e]at hb;exact qp _ hb
 .rw[e]at hb
  unfold kQ at hb;rw[a0y,hf]at hb;exact hb
def Inv.jS(I:Inv X pins σ H s):∀b∈kQ X.stack,H b=Ž:=λb hb=>by
 rcases qw.mp (I.g9 b hb)with e|hb
 .rw[e];exact I.free
 .have(_,o,ho,_):=I.ok.eA.mem hb
  exact I.base.free b o ho (I.ok.rV b hb) λz=>I.ok.nD b z hb
def Inv.step{g':Array a0S}{t':Nat}{d':Drawn}{ch:Qa Qg}(I:Inv X pins σ H s)
  (oM:∀b∈ch,(b∈X.ex\/X.bB.heap.objs.size<=b)/\b≠X.env.locals/\(∀x c,X.env.cells.lookup x=ž c->c≠b)/\∀p∈X.pn++pins,p.1≠b)
  (keep:∀b o,b≠X.env.locals->b∉X.fs->b∉ch->s.heap.get? b=ž o->H b=Ž->h'.get? b=ž o)
  (slot:∀b o,b≠X.env.locals->b∈X.fs->b∉ch->s.heap.get? b=ž o->H b=Ž->∃sl,h'.get? b=ž {o with slots:=sl}) (free:∀b o,b∉ch->s.heap.get? b=ž o->H b=Ž->H' b=Ž)
  (there:∀b o,b∉ch->s.heap.get? b=ž o->∃o',h'.get? b=ž o')
  (eS:∀b xs,H b=ž (.tup xs)->H' b=ž (.tup xs)) (dI:∀b o u,H b=ž (.aQ o u)->H' b=ž (.aQ o u)) (fO:∀b ps,H b=ž (.kF ps)->∃more,H' b=ž (.kF<|ps++more))
  (ns:∀m,s.heap.Ns X.env.locals m->h'.Ns X.env.locals m) (aF:cq X.prog X.w X.K H' h') (hg:ο g'):
  Inv X pins σ H' {s with heap:=h',gens:=g',drawn:=d',toks:=t'}:=by
 have QN:∀b o,X.bB.heap.get? b=ž o->b≠X.env.locals:=λb o e=>qj<|qi (qh e) I.ok.above;have CS:∀b o,X.bB.heap.get? b=ž o->b∉X.ex->b∉ch:=λb o e hx hb=>by
  rcases(oM b hb).1 with z|z
  .exact hx z
  .exact absurd (qi (qh e) z) (Ú _)
 have cellK:∀x c,X.env.cells.lookup x=ž c->∀v,s.heap.IsCell c v->h'.IsCell c v:=λx c e v ⟨o,ho,hd⟩=>by
  have yk:c∉ch:=λz=>(oM c z).2.2.1 x c e rfl
  by_cases hc:c∈X.fs
  .have(sl,q):=slot c o (I.oQ x c e) hc yk ho (I.bP x c e)
   exact⟨_,q,hd⟩
  .exact⟨o,keep c o (I.oQ x c e) hc yk ho<|I.bP x c e,hd⟩
 refine⟨I.ok,I.os,hg,⟨λb o e n hb hx=>?_,λb o e n hb hx=>?_,λb o e n hx=>?_,λb o e hx=>?_,λb xs e=>eS b xs<|I.base.eS b xs e,λb o xs e=>dI b o xs<|I.base.dI b o xs e,λb ps e=>?_⟩,?_,λx c e=>?_,?_,λx c e=>?_,λp hp=>?_,aF,I.len⟩
 .exact keep b o (QN b o e) hb (CS b o e hx) (I.base.keep b o e n hb hx) (I.base.free b o e n hx)
 .have(sl,e1):=I.base.slot b o e n hb hx
  have(sl',e2):=slot b _ (QN b o e) hb (CS b o e hx) e1 (I.base.free b o e n hx);exact⟨sl',e2⟩
 .have(o',e1):=I.base.there b o e hx
  exact free b o' (CS b o e hx) e1<|I.base.free b o e n hx
 .have(o',e1):=I.base.there b o e hx
  exact there b o' (CS b o e hx) e1
 .have(m1,e1):=I.base.fO b ps e
  have(m2,e2):=fO b _ e1;exact⟨m1++m2,by rw[e2,Array.append_assoc]⟩
 .have(m,hn,hl):=I.loc
  refine⟨m,ns m hn,λi x v e1 e2 e3=>?_⟩;have(u,r,l):=hl i x v e1 e2 e3;refine⟨u,r,?_⟩;rcases l with l|⟨k,c,e,z⟩
  .exact .inl l
  .exact .inr ⟨k,c,e,cellK x c e _ z⟩
 .have(v,z):=I.cell x c e
  exact⟨v,cellK x c e v z⟩
 .obtain⟨m,⟨o,_,_,ho,_⟩,_⟩:=I.loc
  exact free _ o (λz=>(oM _ z).2.1 rfl) ho I.free
 .have(v,o,ho,hd):=I.cell x c e
  exact free c o (λz=>(oM c z).2.2.1 x c e rfl) ho<|I.bP x c e
 .have(e,n,ne,nf,d):=I.pin p hp
  have yk:p.1∉ch:=λz=>(oM p.1 z).2.2.2 p hp rfl;exact⟨keep p.1 p.2 ne nf yk e n,free p.1 p.2 yk e n,ne,nf,d⟩
def Inv.un{t':Nat}(I:Inv X pins σ H s)(u:Un X.fs [] H H' s.heap h')(aF:cq X.prog X.w X.K H' h'):Inv X pins σ H' {s with heap:=h',toks:=t'}:=by
 obtain⟨m,⟨o,es,ep,ho,r⟩,_⟩:=id I.loc;have(sl,hL):=u.any ho I.free (by simp);exact I.step (g':=s.gens) (d':=s.drawn) (ch:=[]) (λ_ z=>nomatch z) (λb o _ hb _ e n=>u.keep b o e n hb (by simp)) (λb o _ hb _ e n=>u.slot b o e n hb (by simp)) (λb o _ e n=>u.free b o e n (by simp)) (λb o _ e=>u.there b o e (by simp)) u.eS u.dI u.fO (λm' hm=>by
  have(o',ue,oO,iz,r'):=hm;rw[ho]at iz;cases iz;exact⟨_,ue,oO,hL,r'⟩) aF I.bare
def Inv.call{g':Array a0S}{t':Nat}{d':Drawn}{ch:Qa Qg}(I:Inv X pins σ H s)(u:Un (kQ X.stack) ch H H' s.heap h')(aF:cq X.prog X.w X.K H' h')(hg:ο g')
  (oM:∀b∈ch,(b∈X.ex\/X.bB.heap.objs.size<=b)/\b≠X.env.locals/\(∀x c,X.env.cells.lookup x=ž c->c≠b)/\∀p∈X.pn++pins,p.1≠b):
  Inv X pins σ H' {s with heap:=h',gens:=g',drawn:=d',toks:=t'}:=by
 obtain⟨m,⟨o,es,ep,ho,r⟩,_⟩:=id I.loc;have(sl,hL):=u.any ho I.free λz=>(oM _ z).2.1 rfl;exact I.step (ch:=ch) oM (λb o hL hb hc e n=>u.keep b o e n (λz=>(qw.mp<|I.g9 b z).elim hL hb) hc) (λb o _ _ hc e n=>u.any e n hc) (λb o hc e n=>u.free b o e n hc) (λb o hc e=>u.there b o e hc) u.eS u.dI u.fO (λm' hm=>by
  have(o',ue,oO,iz,r'):=hm;rw[ho]at iz;cases iz;exact⟨_,ue,oO,hL,r'⟩) aF hg
def Inv.turned{t':Nat}{it:Qg}(I:Inv X pins σ H s)(k:∀b o,b≠it->s.heap.get? b=ž o->h'.get? b=ž o)(hn:H it=Ž)(hL:it≠X.env.locals)
  (h1:it∈X.ex\/X.bB.heap.objs.size<=it) (h2:∀x c,X.env.cells.lookup x=ž c->c≠it) (h3:∀p∈X.pn++pins,p.1≠it):Inv X pins σ H {s with heap:=h',toks:=t'}:=by
 have kK:∀b u,H b=ž u->b≠it:=λb u e z=>by rw[z,hn]at e;cases e
 refine I.step (g':=s.gens) (d':=s.drawn) (ch:=[it]) (λb hb=>?_) (λb o _ _ hc e _=>k b o (λz=>hc (by simp[z])) e) (λb o _ _ hc e _=>⟨o.slots,k b o (λz=>hc (by simp[z])) e⟩) (λ_ _ _ _ n=>n)
  (λb o hc e=>⟨o,k b o (λz=>hc (by simp[z])) e⟩) (λ_ _ e=>e) (λ_ _ _ e=>e) (λb ps e=>⟨#[],by rw[e];simp⟩) (λm hm=>?_) (λb u e=>?_) I.bare
 .have e:b=it:=by simpa using hb
  subst e;exact⟨h1,hL,h2,h3⟩
 .have(o,es,ep,ho,r):=hm
  exact⟨o,es,ep,k _ o (ī hL) ho,r⟩
 .refine(I.aF b u e).cx (λc v hc q=>k c v ?_ q) (λ_ q=>q) λ_ _ q=>q
  rcases hc with z|z
  .rw[z];exact kK b u e
  .exact kK c _ z
def Inv.tok(I:Inv X pins σ H s)(t:Nat):Inv X pins σ H {s with toks:=t}:=I.un (h':=s.heap) (t':=t) Un.refl I.aF
def Inv.kept{t':Nat}(I:Inv X pins σ H s)(k:∀b u,s.heap.get? b=ž u->h'.get? b=ž u):Inv X pins σ H {s with heap:=h',toks:=t'}:=I.un (Un.kept k) (I.aF.kept k)
def Inv.laid{a:Qg}{o:HO}{t':Nat}(I:Inv X pins σ H s)(k:∀b u,s.heap.get? b=ž u->h'.get? b=ž u)(hp:s.heap.objs.size<=a)(new:zX X.prog X.w X.K (upd H a o) h' a o):
  Inv X pins σ (upd H a o) {s with heap:=h',toks:=t'}:=I.un (Un.laid k hp<|I.aF.fresh hp) (I.aF.laid k hp new)
def Inv.write{x e:Qg}{o:HO}{t':Nat}(I:Inv X pins σ H s)(mu:yX (H x))(he:e=x\/H e=ž (.own x))(k:∀b u,b≠e->s.heap.get? b=ž u->h'.get? b=ž u)(vK:∃u,h'.get? e=ž u)
  (new:zX X.prog X.w X.K (upd H x o) h' x o):Inv X pins σ (upd H x o) {s with heap:=h',toks:=t'}:=I.un (Un.write mu he k vK) (I.aF.write mu he k vK new)
def Inv.weak{aG:Qa (Qb V)}(I:Inv X pins σ H s)(hl:aG.length=σ.length)(w:∀(i:Nat) v,aG[i]?=ž (ž v)->σ[i]?=ž (ž v)):Inv X pins aG H s :=
 ⟨I.ok,I.os,I.bare,I.base,let ⟨m,hn,t7⟩:=I.loc;⟨m,hn,λi x v e1 e2 e3=>t7 i x v e1 (w i v e2) e3⟩,I.cell,I.free,I.bP,I.pin,I.aF,hl.trans I.len⟩
def Inv.fu{rJ:Qa (Qg×Obj)}(I:Inv X pins σ H s)(h:∀p∈rJ,s.heap.get? p.1=ž p.2/\H p.1=Ž/\p.1≠X.env.locals/\p.1∉X.fs/\∀v,p.2.data≠.cell v):Inv X rJ σ H s :=
 ⟨I.ok,I.os,I.bare,I.base,I.loc,I.cell,I.free,I.bP,λp hp=>(Ï.mp hp).elim (λz=>I.pin p<|a0j _ z)<|h p,I.aF,I.len⟩
def M1{N:Qa Str}(hN:N.Nodup){i j:Nat}{x:Str}(a:N[i]?=ž x)(b:N[j]?=ž x):i=j:=by
 have(h1,e1):=qm.mp a;have(h2,e2):=qm.mp b;exact(a3M hN).mp<|e1.trans e2.symm
def NL{M:Model}{A:Qf}{E:Qc->Qd->Prop}{i:Nat}{x:Str}{v:V}{u:Qc}{Q:Unit->Qd->Prop}(I:Inv X pins σ H s)(hN:X.N.Nodup)(hi:X.N[i]?=ž x)(hx:Loc X.env.scope x)(r:zT v u)
  (h:∀s',Inv X pins (σ.set i<|some v) H s'->(∃a,ϊ a s.heap s'.heap/\(a=X.env.locals\/X.env.cells.lookup x=ž a))->Q () s') (hf:X.fn x=ż\/X.env.scope.names.lookup x=ž .local:=by first|exact .inl rfl|exact .inr rfl|assumption):đ M A (storeName X.env x u) Q E s:=by
 have(m,hn,hl):=id I.loc;have IM:(X.env.scope.kind==.class || (X.env.scope.kind==.module && X.env.locals != X.env.globals))=Ż:=by rw[I.ok.kind];rfl
 have yI:i < σ.length:=by rw[I.len];exact(qm.mp hi).1
 have oQ:=I.oQ;have tracked:∀{a:Qg} {h':Ĭ},(∃o,s.heap.get? a=ž o/\H a=Ž)->ϊ a s.heap h'->cq X.prog X.w X.K H h':=λ{a h'} ha hs b ob e=>by
  have(_,_,rR):=ha;refine(I.aF b ob e).cx (λc w' hc q=>(hs.2 c ?_).trans q) (λ_ q=>q) λ_ _ q=>q;rintro rfl;rcases hc with rfl|hc
  .rw[rR]at e;cases e
  .rw[rR]at hc;cases hc
 rcases hx with hk|hk
 .refine wpAny_storeName_local hk hn (λh' hn' hs=>?_) IM
  have(oL,_,_,yA,_):=id hn;refine h _ ⟨I.ok,I.os,I.bare,⟨λb o e n hb hx=>?_,λb o e n hb hx=>?_,I.base.free,λb o e hx=>?_,I.base.eS,I.base.dI,I.base.fO⟩,⟨_,hn',λj y v' e1 e2 e3=>?_⟩,λy c e=>?_,I.free,I.bP,λp hp=>?_,tracked ⟨oL,yA,I.free⟩ hs,by simpa using I.len⟩ ⟨_,hs,.inl rfl⟩
  .exact(hs.2 b<|qj<|qi (qh e) I.ok.above).trans (I.base.keep b o e n hb hx)
  .have(sl,e1):=I.base.slot b o e n hb hx
   exact⟨sl,(hs.2 b<|qj<|qi (qh e) I.ok.above).trans e1⟩
  .have(o',e1):=I.base.there b o e hx
   exact⟨o',(hs.2 b<|qj<|qi (qh e) I.ok.above).trans e1⟩
  .by_cases hj:j=i
   .subst hj
    rw[hi]at e1;cases e1;rw[ĝ yI]at e2;cases e2;exact⟨u,r,.inl ⟨hk,by simp⟩⟩
   .rw[qD<|ī hj]at e2
    have(u',r',q):=hl j y v' e1 e2 e3;refine⟨u',r',?_⟩;rcases q with⟨k,e⟩|⟨k,c,e,z⟩
    .refine .inl ⟨k,?_⟩
     have:y≠x:=λe=>hj<|M1 hN e1<|e▸hi;simp[this,e]
    .exact .inr ⟨k,c,e,z.sameBut hs<|oQ y c e⟩
  .have(w',z):=I.cell y c e
   exact⟨w',z.sameBut hs<|oQ y c e⟩
  .have(e,n,ne,nf,d):=I.pin p hp
   exact⟨(hs.2 p.1 ne).trans e,n,ne,nf,d⟩
 .have IH:X.fn x=ż:=by
   rcases hf with z|z
   .exact z
   .rw[z]at hk;cases hk
  have(c,hc):=I.ok.has x (.inl hk);have(w',z):=I.cell x c hc;refine wpAny_storeName_cell I.ok.kind hk hc z λh' kO hs=>?_;have(oc,Ra,Iz):=id z;refine h {s with heap:=h'} ⟨I.ok,I.os,I.bare,⟨λb o e n hb hx=>?_,λb o e n hb hx=>?_,I.base.free,λb o e hx=>?_,I.base.eS,I.base.dI,I.base.fO⟩,⟨m,hn.sameBut hs<|ī<|oQ x c hc,λj y v' e1 e2 e3=>?_⟩,λy c' e=>?_,I.free,I.bP,λp hp=>?_,tracked ⟨oc,Ra,I.bP x c hc⟩ hs,by simpa using I.len⟩ ⟨c,hs,.inr hc⟩
  .exact(hs.2 b<|qj<|qi (qh e)<|I.ok.vW x c IH hc).trans (I.base.keep b o e n hb hx)
  .have(sl,e1):=I.base.slot b o e n hb hx
   exact⟨sl,(hs.2 b<|qj<|qi (qh e)<|I.ok.vW x c IH hc).trans e1⟩
  .have(o',e1):=I.base.there b o e hx
   exact⟨o',(hs.2 b<|qj<|qi (qh e)<|I.ok.vW x c IH hc).trans e1⟩
  .by_cases hj:j=i
   .subst hj
    rw[hi]at e1;cases e1;rw[ĝ yI]at e2;cases e2;exact⟨u,r,.inr ⟨.inl hk,c,hc,kO⟩⟩
   .rw[qD<|ī hj]at e2
    have(u',r',q):=hl j y v' e1 e2 e3;refine⟨u',r',?_⟩;rcases q with q|⟨k,c',e,z'⟩
    .exact .inl q
    .refine .inr ⟨k,c',e,z'.sameBut hs ?_⟩
     rintro rfl;exact hj<|M1 hN e1<|I.ok.inj _ _ _ e hc▸hi
  .by_cases Rl:c'=c
   .subst Rl;exact⟨_,kO⟩
   .have(w2,z2):=I.cell y c' e
    exact⟨w2,z2.sameBut hs Rl⟩
  .have(e,n,ne,nf,d):=I.pin p hp
   refine⟨(hs.2 p.1 ?_).trans e,n,ne,nf,d⟩;intro q;rw[q,Ra]at e;have q':oc=p.2:=qy e;exact d w' (by rw[<-q'];exact Iz)
def B0{M:Model}{A:Qf}{E:Qc->Qd->Prop}{i:Nat}{x:Str}{v:V}{u:Qc}{Q:Unit->Qd->Prop}(I:Inv X pins σ H s)(hN:X.N.Nodup)(hi:X.N[i]?=ž x)(hx:Loc X.env.scope x)(r:zT v u)
  (h:∀s',Inv X pins (σ.set i<|some v) H s'->Q () s') (hf:X.fn x=ż\/X.env.scope.names.lookup x=ž .local:=by first|exact .inl rfl|exact .inr rfl|assumption):đ M A (storeName X.env x u) Q E s :=
 NL I hN hi hx r (λs' I' _=>h s' I') hf
def Inv.yV{s':Qd}{ch:Qa Qg}(I:Inv X pins σ H s)(ho:s'.os=s.os)(u:Un (kQ X.stack) ch H H' s.heap s'.heap)(aF:cq X.prog X.w X.K H' s'.heap)(hg:ο s'.gens)
  (oM:∀b∈ch,(b∈X.ex\/X.bB.heap.objs.size<=b)/\b≠X.env.locals/\(∀x c,X.env.cells.lookup x=ž c->c≠b)/\∀p∈X.pn++pins,p.1≠b):Inv X pins σ H' s':=by
 have(h',g',d',t',o'):=s';have e:o'=s.os:=ho;subst e;exact I.call (g':=g') (t':=t') (d':=d') u aF hg oM
end
abbrev XK:=Qc->Qb Qg->Hp->Prop
abbrev St:=Qa (Qb V)
abbrev VK:=V->Hp->Prop
abbrev TE:=St->Hp->VK->Prop
abbrev TT:=St->Hp->(Bool->Hp->Prop)->Prop
abbrev TA:=St->Hp->(Qa V->Hp->Prop)->Prop
structure Ends where
 nx:St->Hp->Prop
 rt:VK
 bk:St->Hp->Prop:=λ_ _=>False
 ct:St->Hp->Prop:=λ_ _=>False
abbrev TS:=Ends->St->Hp->Prop
def EP(X:Cx)(pins:Qa (Qg×Obj))(σ:St)(Q:VK)(u:Qc)(s':Qd):Prop:=∃v H',Inv X pins σ H' s'/\zT v u/\Q v H'
def TP(X:Cx)(pins:Qa (Qg×Obj))(σ:St)(Q:Bool->Hp->Prop)(b:Bool)(s':Qd):Prop:=∃H',Inv X pins σ H' s'/\Q b H'
def AP(X:Cx)(pins:Qa (Qg×Obj))(σ:St)(Q:Qa V->Hp->Prop)(us:Qa Qc)(s':Qd):Prop:=∃vs H',Inv X pins σ H' s'/\zV vs us/\Q vs H'
def SP(X:Cx)(pins:Qa (Qg×Obj))(D:Ends)(f:Flow)(s':Qd):Prop :=
 match f with
 |.next=>∃aG H',Inv X pins aG H' s'/\D.nx aG H'
 |.brk=>∃aG H',Inv X pins aG H' s'/\D.bk aG H'
 |.cont=>∃aG H',Inv X pins aG H' s'/\D.ct aG H'
 |.ret u=>∃v aG H',Inv X pins aG H' s'/\zT v u/\D.rt v H'
def PE(X:Cx)(e:Ĥ)(t:TE):Prop :=
 ∀(pins:Qa (Qg×Obj)) (s:Qd) (σ:St) (H:Hp) (Q:VK),Inv X pins σ H s->t σ H Q->đ (Ĕ X.prog X.w) X.A (ŀ e X.env) (EP X pins σ Q) X.xe s
def PT(X:Cx)(e:Ĥ)(t:TT):Prop :=
 ∀(pins:Qa (Qg×Obj)) (s:Qd) (σ:St) (H:Hp) (Q:Bool->Hp->Prop),Inv X pins σ H s->t σ H Q->đ (Ĕ X.prog X.w) X.A (a1V e X.env<|ŀ e X.env) (TP X pins σ Q) X.xe s
def PW(X:Cx)(e:Ĥ)(t:TT):Prop :=
 ∀(whole:Sem Qc) (pins:Qa (Qg×Obj)) (s:Qd) (σ:St) (H:Hp) (Q:Bool->Hp->Prop),Inv X pins σ H s->t σ H Q->đ (Ĕ X.prog X.w) X.A (a1V e X.env whole) (TP X pins σ Q) X.xe s
def PW.pt{X:Cx}{e:Ĥ}{t:TT}(h:PW X e t):PT X e t:=h _
def PA(X:Cx)(es:Qa Ĥ)(t:TA):Prop :=
 ∀(pos:Pos) (pins:Qa (Qg×Obj)) (s:Qd) (σ:St) (H:Hp) (Q:Qa V->Hp->Prop),Inv X pins σ H s->t σ H Q->đ (Ĕ X.prog X.w) X.A (spliced<|Ϩ pos<|ĭ es X.env) (AP X pins σ Q) X.xe s
def PS(X:Cx)(st:ķ)(t:TS):Prop :=
 ∀(pins:Qa (Qg×Obj)) (s:Qd) (σ:St) (H:Hp) (D:Ends),Inv X pins σ H s->t D σ H->đ (Ĕ X.prog X.w) X.A (exec st X.env) (SP X pins D) X.xe s
def eX(X:Cx)(st:Qa ķ)(t:TS):Prop :=
 ∀(pins:Qa (Qg×Obj)) (s:Qd) (σ:St) (H:Hp) (D:Ends),Inv X pins σ H s->t D σ H->đ (Ĕ X.prog X.w) X.A (execs st X.env) (SP X pins D) X.xe s
def aI{α:Type}{t:Sem α}{Q Q':α->Qd->Prop}{M:Model}{A:Qf}{E:Qc->Qd->Prop}{s:Qd}(h:đ M A t Q E s)(hQ:∀a s,Q a s->Q' a s):đ M A t Q' E s:=ľ h hQ λ_ _ x=>x
section
variable{X:Cx}
def bin{a b:Ĥ}{ta tb:TE}(ha:PE X a ta)(hb:PE X b tb){pins:Qa (Qg×Obj)}{s:Qd}{σ:St}{H:Hp}{R:V->V->Hp->Prop}(I:Inv X pins σ H s)(h:ta σ H λx H1=>tb σ H1 λy H2=>R x y H2)
  {α:Type} {Q:α->Qd->Prop} {f:Qc->Qc->Sem α}
  (hf:∀v u s2 x y H2,Inv X pins σ H2 s2->zT x v->zT y u->R x y H2->đ (Ĕ X.prog X.w) X.A (f v u) Q X.xe s2):
  đ (Ĕ X.prog X.w) X.A (ŀ a X.env) (λv aJ=>đ (Ĕ X.prog X.w) X.A (ŀ b X.env) (λu gF=>đ (Ĕ X.prog X.w) X.A (f v u) Q X.xe gF) X.xe aJ) X.xe s:=by
 refine aI (ha pins s σ H _ I h) λv s1 hZ=>?_;have(x,H1,I1,r1,q1):=hZ;refine aI (hb pins s1 σ H1 _ I1 q1) λu s2 hZ=>?_;have(y,H2,I2,r2,q2):=hZ;exact hf v u s2 x y H2 I2 r1 r2 q2
def eE(i:Nat):TE:=λσ H Q=>∃v,σ[i]?=ž (ž v)/\Q v H
def tC(v:V):TE:=λ_ H Q=>Q v H
def U0{i:Nat}{x:Str}{pos:Pos}(hN:X.N[i]?=ž x)(hv:Dw X.env.scope x)(hd:(x==("__debug__":Str))=Ż:=by decide)(kN:(x==("__classdict__":Str))=Ż:=by decide):PE X (.Name x pos) (eE i):=by
 intro pins s σ H Q I h;have(v,e,h):=h;have(m,hn,hl):=I.loc;have(u,r,l):=hl i x v hN e hv;have fin:EP X pins σ Q u s:=⟨v,H,I,r,h⟩;rcases l with⟨hk,hm⟩|⟨hk,c,hc,rT⟩
 .exact wpAny_Name (wpAny_loadName_local I.ok.kind hk hn hm fin) hd
 .rcases hk with hk|hk
  .exact wpAny_Name (wpAny_loadName_cell I.ok.kind hk hc rT fin) hd
  .exact wpAny_Name (wpAny_loadName_free I.ok.kind hk hc rT fin kN) hd
def UZ{i j pos}:PE X (.Constant (.int i) j pos) (tC<|.int i):=λ_ _ _ H _ I h=>wpAny_Constant_int ⟨.int i,H,I.tok _,⟨_,rfl⟩,h⟩
def zAr{b j pos}:PE X (.Constant (.bool b) j pos) (tC<|.bl b):=λ_ _ _ H _ I h=>Constant_bool ⟨.bl b,H,I,rfl,h⟩
def UY{j pos}:PE X (.Constant .none j pos) (tC .aL):=λ_ _ _ H _ I h=>Constant_none ⟨.aL,H,I,rfl,h⟩
def UX{x j pos}:PE X (.Constant (.str x) j pos) (tC<|.str x):=λ_ _ _ H _ I h=>Calls.Constant_str ⟨.str x,H,I.tok _,⟨_,rfl⟩,h⟩
def Gl(X:Cx)(x:Str):Prop:=X.env.kindOf x=ž .globalImplicit
def F3{E:Qc->Qd->Prop}{pins:Qa (Qg×Obj)}{s:Qd}{σ:St}{H:Hp}{x:Str}{u:Qc}{pos:Pos}{Q:Qc->Qd->Prop}(I:Inv X pins σ H s)(hg:Gl X x)(hm:X.mg x=ž u)(h:Q u s)
  (hd:(x==("__debug__":Str))=Ż:=by decide):đ (Ĕ X.prog X.w) X.A (ŀ (.Name x pos) X.env) Q E s :=
 a1P I.ok.kind hg (Calls.loadGlobal_global (by rw[I.ok.glob];exact I.mod.glob.keeps I.bk) hm h) hd
def rf{E:Qc->Qd->Prop}{pins:Qa (Qg×Obj)}{s:Qd}{σ:St}{H:Hp}{x:Str}{u:Qc}{pos:Pos}{Q:Qc->Qd->Prop}(I:Inv X pins σ H s)(hg:Gl X x)(hm:X.mg x=Ž)(hv:ř x=ž u)(h:Q u s)
  (hn:x ≠ "__name__":=by decide) (hd:(x==("__debug__":Str))=Ż:=by decide):đ (Ĕ X.prog X.w) X.A (ŀ (.Name x pos) X.env) Q E s:=by
 have(mb,h1,h2):=I.mod.blt;exact a1P I.ok.kind hg (Calls.loadGlobal_builtin (by rw[I.ok.glob];exact I.mod.glob.keeps I.bk) hm (by rw[I.ok.blt];exact h1.keeps I.bk) ((h2 x hn).trans hv) h) hd
def X4{x:Str}{v:V}{u:Qc}{pos:Pos}(hg:Gl X x)(hm:X.mg x=ž u)(r:zT v u)(hd:(x==("__debug__":Str))=Ż:=by decide):PE X (.Name x pos) (tC v):=
 λ_ _ _ H _ I h=>F3 I hg hm ⟨v,H,I,r,h⟩ hd
def X3{x:Str}{v:V}{u:Qc}{pos:Pos}(hg:Gl X x)(hm:X.mg x=Ž)(hv:ř x=ž u)(r:zT v u)(hn:x ≠ "__name__":=by decide)(hd:(x==("__debug__":Str))=Ż:=by decide):PE X (.Name x pos) (tC v):=
 λ_ _ _ H _ I h=>rf I hg hm hv ⟨v,H,I,r,h⟩ hn hd
variable{a b:Ĥ}{ta tb:TE}{pos:Pos}
def PC(X:Cx)(op:a2n)(a b:Ĥ)(t:TE):Prop :=
 ∀(pins:Qa (Qg×Obj)) (s:Qd) (σ:St) (H:Hp) (Q:VK),Inv X pins σ H s->t σ H Q->
  đ (Ĕ X.prog X.w) X.A (ŀ a X.env) (λv aJ=>đ (Ĕ X.prog X.w) X.A (ŀ b X.env) (λu gF=>đ (Ĕ X.prog X.w) X.A (ĩ op v u) (EP X pins σ Q) X.xe gF) X.xe aJ) X.xe s
def zpT(b:Ĥ){op:a2n}(h:op≠.In)(h2:op≠.NotIn):ś op b=Ż:=by
 have e1:(op==CmpOp.In)=Ż:=by cases op<;>first|rfl|exact absurd rfl h
 have e2:(op==CmpOp.NotIn)=Ż:=by cases op<;>first|rfl|exact absurd rfl h2
 cases b<;>simp[ś,e1,e2]
def tB(t:TE):TT:=λσ H Q=>t σ H λx H1=>∃c,x=.bl c/\Q c H1
def UW{op:a2n}{t:TE}(h:PC X op a b t)(h1:ś op b=Ż:=by first|exact zpT _ (by decide) (by decide) |rfl):PT X (.Compare a [op] [b] pos) (tB t):=by
 intro pins s σ H Q I hw;refine a3G (aI (h pins s σ H _ I hw) λv s1 h1=>aI h1 λu s2 h2=>aI h2 λc s3 hZ=>?_) h1;have(x,H1,I1,r1,q1):=hZ;have(d,rfl,q):=q1;cases r1;exact Œ ⟨H1,I1,q⟩
def UU{e:Ĥ}{t:TE}(h:PE X e t)(he:∀whole,a1V e X.env whole=(do let v <-whole;a0p e.pos;Ű [v] (truthy v)):=by intro _;rfl):PT X e (tB t):=by
 intro pins s σ H Q I hw;refine isTrue_plain (aI (h pins s σ H _ I hw) λv s1 hZ=>?_)<|he _;have(x,H1,I1,r1,q1):=hZ;have(d,rfl,q):=q1;cases r1;exact Œ ⟨H1,I1,q⟩
variable{tA oB:TT}{rest:Qa Ĥ}
def Ec(t u:TT):TT:=λσ H Q=>t σ H λc H1=>if c=ż then u σ H1 Q else Q Ż H1
def Hm(t u:TT):TT:=λσ H Q=>t σ H λc H1=>if c=ż then Q ż H1 else u σ H1 Q
def Eb(t:TT):TT:=λσ H Q=>t σ H λc H1=>Q (!c) H1
def X2(ha:PT X a tA):PW X (.BoolOp .And [a] pos) tA:=by
 intro wh pins s σ H Q I h;refine isTrue_and<|aI (ha pins s σ H Q I h) λc s1 e=>?_;cases c with
 |true=>exact isTrue_and_nil e
 |false=>exact e
def Vc(ha:PT X a tA):PW X (.BoolOp .Or [a] pos) tA:=by
 intro wh pins s σ H Q I h;refine isTrue_or<|aI (ha pins s σ H Q I h) λc s1 e=>?_;cases c with
 |false=>exact isTrue_or_nil e
 |true=>exact e
def Vb(ha:PT X a tA)(hb:PW X (.BoolOp .And (b::rest) pos) oB):PW X (.BoolOp .And (a::b::rest) pos) (Ec tA oB):=by
 intro wh pins s σ H Q I h;refine isTrue_and<|aI (ha pins s σ H _ I h) λc s1 hZ=>?_;have(H1,I1,q1):=hZ;cases c with
 |true=>exact hb wh pins s1 σ H1 Q I1 q1
 |false=>exact⟨H1,I1,q1⟩
def zAs(ha:PT X a tA)(hb:PW X (.BoolOp .Or (b::rest) pos) oB):PW X (.BoolOp .Or (a::b::rest) pos) (Hm tA oB):=by
 intro wh pins s σ H Q I h;refine isTrue_or<|aI (ha pins s σ H _ I h) λc s1 hZ=>?_;have(H1,I1,q1):=hZ;cases c with
 |true=>exact⟨H1,I1,q1⟩
 |false=>exact hb wh pins s1 σ H1 Q I1 q1
def Va(ha:PT X a tA):PT X (.UnaryOp .Not a pos) (Eb tA):=by
 intro pins s σ H Q I h;exact isTrue_not<|ha pins s σ H (λc H1=>Q (!c) H1) I h
def E1(ta tb:TE):TE:=λσ H Q=>ta σ H λx H1=>∃c,x=.bl c/\if c=ż then tb σ H1 Q else Q (.bl Ż) H1
def EZ(ta:TE):TE:=λσ H Q=>ta σ H λx H1=>∃c,x=.bl c/\Q (.bl (!c)) H1
def U9{op}{t:TE}(h:PE X a t):PE X (.BoolOp op [a] pos) t:=λpins s σ H Q I hw=>BoolOp_one<|h pins s σ H Q I hw
def U8(ha:PE X a ta)(hb:PE X (.BoolOp .And (b::rest) pos) tb):PE X (.BoolOp .And (a::b::rest) pos) (E1 ta tb):=by
 intro pins s σ H Q I h;refine BoolOp_and<|aI (ha pins s σ H _ I h) λv s1 hZ=>?_;have(x,H1,I1,r1,q1):=hZ;have(c,rfl,q1):=q1;cases r1;refine Œ ?_;cases c with
 |true=>exact hb pins s1 σ H1 Q I1 q1
 |false=>exact⟨.bl Ż,H1,I1,rfl,q1⟩
def U7(ha:PE X a ta):PE X (.UnaryOp .Not a pos) (EZ ta):=by
 intro pins s σ H Q I h;refine UnaryOp_<|aI (ha pins s σ H _ I h) λv s1 hZ=>?_;have(x,H1,I1,r1,q1):=hZ;have(c,rfl,q1):=q1;cases r1;exact not_of<|Œ ⟨.bl (!c),H1,I1,rfl,q1⟩
def Hn(t:TT)(ta tb:TE):TE:=λσ H Q=>t σ H λc H1=>if c=ż then ta σ H1 Q else tb σ H1 Q
def zpW{c:Ĥ}(hc:PT X c tA)(ha:PE X a ta)(hb:PE X b tb):PE X (.IfExp c a b pos) (Hn tA ta tb):=by
 intro pins s σ H Q I h;refine wpAny_IfExp<|aI (hc pins s σ H _ I h) λd s1 hZ=>?_;have(H1,I1,q1):=hZ;cases d with
 |true=>exact ha pins s1 σ H1 Q I1 q1
 |false=>exact hb pins s1 σ H1 Q I1 q1
end
def bE(K:qc)(H:Hp)(a:Qg)(xs:Qa V):Prop :=
 Rd H a (.lst xs)\/
  ∃(o:Obj) (aq:Array Qc) (n:Nat),K.lookup a=ž o/\o.cls=.type "list"/\o.dict=Ž/\o.data=.seq aq n/\aq.size<=ċ/\zV xs aq.toList
def cH(K:qc)(H:Hp)(a:Qg)(xs:Qa V):Prop :=
 Rd H a (.tup xs)\/
  ∃(o:Obj) (aq:Array Qc) (n:Nat),K.lookup a=ž o/\o.cls=.type "tuple"/\o.data=.seq aq n/\aq.size<=ċ/\zV xs aq.toList
noncomputable def zCF:Qc->Qb V
 |.none=>ž .aL
 |.bool b=>ž<|.bl b
 |.int i _=>ž<|.int i
 |.str x _=>ž<|.str x
 |.bytes b _=>ž<|.j0 b
 |.float b _=>ž<|.uc b
 |.ref a=>ž<|.ref a
 |.type n=>ž<|.ty n
 |_=>Ž
def zT.abs{x:V}{u:Qc}(r:zT x u):zCF u=ž x:=by
 cases x with
 |aL=>cases r;rfl
 |bl _=>cases r;rfl
 |int _=>have(t,rfl):=r;rfl
 |str _=>have(t,rfl):=r;rfl
 |j0 _=>have(t,rfl):=r;rfl
 |uc _=>have(t,rfl):=r;rfl
 |ref _=>cases r;rfl
 |ty _=>cases r;rfl
def zT.inj{x y:V}{u:Qc}(r:zT x u)(q:zT y u):x=y:=qy (r.abs.symm.trans q.abs)
def zV.inj{xs ys:Qa V}{us:Qa Qc}(h:zV xs us)(h':zV ys us):xs=ys:=by
 induction h generalizing ys with
 |nil=>cases h';rfl
 |cons r _ ih=>cases h' with
  |cons r' t'=>rw[r.inj r',ih t']
section
variable{X:Cx}{pins:Qa (Qg×Obj)}{σ:St}{H:Hp}{s:Qd}{a:Qg}{xs ys:Qa V}
def bE.of{K:qc}(h:H a=ž (.lst xs)):bE K H a xs:=.inl (.inl h)
def Inv.list(I:Inv X pins σ H s)(h:bE X.K H a xs):∃aq:Qa Qc,zV xs aq/\PlainL s.heap a aq.toArray/\xs.length<=ċ:=by
 rcases h with h|⟨o,aq,n,hk,hc,hd,hs,hz,r⟩
 .have(z,aq,n,r,e):=h.ok I.aF
  exact⟨aq,r,⟨_,n,e,rfl,rfl,rfl⟩,z⟩
 .refine⟨aq.toList,r,⟨o,n,I.bZ a o hk,hc,hd,by simpa using hs⟩,?_⟩
  have e:=r.length;simp only[ŏ]at e;omega
def Inv.tuple(I:Inv X pins σ H s)(h:cH X.K H a xs):∃aq:Qa Qc,zV xs aq/\IsTup s.heap a aq.toArray/\xs.length<=ċ:=by
 rcases h with h|⟨o,aq,n,hk,hc,hs,hz,r⟩
 .have(z,aq,r,p):=h.ok I.aF
  exact⟨aq,r,p.tup,z⟩
 .refine⟨aq.toList,r,⟨o,I.bZ a o hk,hc,n,by simpa using hs⟩,?_⟩
  have e:=r.length;simp only[ŏ]at e;omega
def Inv.iJ(I:Inv X pins σ H s)(h:bE X.K H a xs)(h':bE X.K H a ys):xs=ys:=by
 obtain⟨aq,r,⟨o,n,e,_,_,d⟩,_⟩:=I.list h;obtain⟨its',r',⟨o',n',e',_,_,d'⟩,_⟩:=I.list h';rw[e]at e';cases e';rw[d]at d';injection d' with d1 _;have:aq=its':=by simpa using congrArg a2s d1
 subst this;exact r.inj r'
def Inv.gP(I:Inv X pins σ H s)(h:cH X.K H a xs)(h':cH X.K H a ys):xs=ys:=by
 obtain⟨aq,r,⟨o,e,_,n,d⟩,_⟩:=I.tuple h;obtain⟨its',r',⟨o',e',_,n',d'⟩,_⟩:=I.tuple h';rw[e]at e';cases e';rw[d]at d';injection d' with d1 _;have:aq=its':=by simpa using congrArg a2s d1
 subst this;exact r.inj r'
end
noncomputable abbrev Cx.gE(X:Cx)(E:Qc->Qd->Prop):Cx:={X with xe:=E}
abbrev Cx.rK(X:Cx):Cx:=X.gE λ_ _=>False
def Cx.Ok.gE{X:Cx}(ok:X.Ok)(E:Qc->Qd->Prop):(X.gE E).Ok :=
 ⟨ok.mod,ok.kind,ok.glob,ok.blt,ok.above,ok.inj,ok.has,ok.vW,ok.hd,ok.frames,ok.ya,ok.Dq,ok.bs,ok.oR,ok.kJ,ok.nD,ok.eA,ok.rV⟩
def Cx.Ok.cK{X:Cx}{E:Qc->Qd->Prop}(ok:(X.gE E).Ok):X.Ok :=
 ⟨ok.mod,ok.kind,ok.glob,ok.blt,ok.above,ok.inj,ok.has,ok.vW,ok.hd,ok.frames,ok.ya,ok.Dq,ok.bs,ok.oR,ok.kJ,ok.nD,ok.eA,ok.rV⟩
section
variable{X:Cx}{pins:Qa (Qg×Obj)}{σ:St}{H:Hp}{s:Qd}{E:Qc->Qd->Prop}
def Inv.gE(I:Inv X pins σ H s)(E:Qc->Qd->Prop):Inv (X.gE E) pins σ H s:=⟨I.ok.gE E,I.os,I.bare,I.base,I.loc,I.cell,I.free,I.bP,I.pin,I.aF,I.len⟩
def Inv.cK(I:Inv (X.gE E) pins σ H s):Inv X pins σ H s:=⟨I.ok.cK,I.os,I.bare,I.base,I.loc,I.cell,I.free,I.bP,I.pin,I.aF,I.len⟩
def SP.cK{D:Ends}{f:Flow}{s':Qd}(h:SP (X.gE E) pins D f s'):SP X pins D f s':=by
 cases f with
 |next=>have(aG,H',I,q):=h;exact⟨aG,H',I.cK,q⟩
 |brk=>have(aG,H',I,q):=h;exact⟨aG,H',I.cK,q⟩
 |cont=>have(aG,H',I,q):=h;exact⟨aG,H',I.cK,q⟩
 |ret u=>have(v,aG,H',I,r,q):=h;exact⟨v,aG,H',I.cK,r,q⟩
def eX.rK{st:Qa ķ}{t:TS}(h:eX X.rK st t):eX X st t:=λpins s σ H D I hw=>
 ľ (h pins s σ H D (I.gE _) hw) (λ_ _ q=>q.cK) λ_ _ z=>ŕ z
end
section
variable{X:Cx}{st:ķ}{rest:Qa ķ}{t u:TS}{e:Ĥ}{te:TE}{pos:Pos}
def EY:TS:=λD σ H=>D.nx σ H
def AD(t u:TS):TS:=λD σ H=>t {D with nx:=u D} σ H
def X1:eX X [] EY:=λ_ _ σ H _ I h=>a0t ⟨σ,H,I,h⟩
def zpY(h1:PS X st t)(h2:eX X rest u):eX X (st::rest) (AD t u):=by
 intro pins s σ H D I h;refine wpAny_execs_cons<|aI (h1 pins s σ H {D with nx:=u D} I h) λf s1 q=>?_;cases f with
 |next=>
  have(aG,H',I',q):=q;exact h2 pins s1 aG H' D I' q
 |ret v=>exact q
 |brk=>exact q
 |cont=>exact q
def X0(h1:PS X st t):eX X [st] t:=by
 intro pins s σ H D I h;refine wpAny_execs_cons<|aI (h1 pins s σ H D I h) λf s1 q=>?_;cases f with
 |next=>exact a0t q
 |ret v=>exact q
 |brk=>exact q
 |cont=>exact q
def Inv.quiet{pins:Qa (Qg×Obj)}{σ:St}{H:Hp}{s:Qd}(I:Inv X pins σ H s):interactive X.env=Ż:=by simp[interactive,I.ok.kind]
def EW(te:TE):TS:=λD σ H=>te σ H λ_ H1=>D.nx σ H1
def Yi(he:PE X e te)(hs:ϣ e Ž pos.line X.env=pure Ż:=by rfl):PS X (.Expr e pos) (EW te):=by
 intro pins s σ H D I h;exact wpAny_Expr_any (aI (he pins s σ H _ I h) λv s1 ⟨x,H1,I1,r1,q1⟩=>⟨σ,H1,I1,q1⟩) I.quiet hs
def AJ(te:TE):TS:=λD σ H=>te σ H D.rt
def U6(he:PE X e te):PS X (.Return (ž e) pos) (AJ te):=by
 intro pins s σ H D I h;exact wpAny_Return_some<|aI (he pins s σ H _ I h) λv s1 ⟨x,H1,I1,r1,q1⟩=>⟨x,σ,H1,I1,r1,q1⟩
def Ea(c:TT)(t u:TS):TS:=λD σ H=>c σ H λb H1=>if b=ż then t D σ H1 else u D σ H1
def zAt{c:Ĥ}{a b:Qa ķ}{tc:TT}(hc:PT X c tc)(ha:eX X a t)(hb:eX X b u):PS X (.If c a b pos) (Ea tc t u):=by
 intro pins s σ H D I h;refine wpAny_If<|aI (hc pins s σ H _ I h) λd s1 hZ=>?_;have(H1,I1,q1):=hZ;cases d with
 |true=>exact ha pins s1 σ H1 D I1 q1
 |false=>exact hb pins s1 σ H1 D I1 q1
end
abbrev TG:=V->St->Hp->(St->Hp->Prop)->Prop
abbrev i3:=Qa V->St->Hp->(St->Hp->Prop)->Prop
def PG(X:Cx)(target:Ĥ)(t:TG):Prop :=
 ∀(pins:Qa (Qg×Obj)) (s:Qd) (σ:St) (H:Hp) (v:V) (u:Qc) (Q:St->Hp->Prop),Inv X pins σ H s->zT v u->t v σ H Q->
  đ (Ĕ X.prog X.w) X.A (Β target X.env u) (λ_ s'=>∃aG H',Inv X pins aG H' s'/\Q aG H') X.xe s
def r8(X:Cx)(ts:Qa Ĥ)(t:i3):Prop :=
 ∀(pins:Qa (Qg×Obj)) (s:Qd) (σ:St) (H:Hp) (vs:Qa V) (us:Qa Qc) (Q:St->Hp->Prop),Inv X pins σ H s->zV vs us->t vs σ H Q->
  đ (Ĕ X.prog X.w) X.A (a2Z ((ű ts X.env).map (·.2)) us) (λ_ s'=>∃aG H',Inv X pins aG H' s'/\Q aG H') X.xe s
abbrev AI:=V->V->V->Hp->(Hp->Prop)->Prop
def D3(X:Cx)(t:AI):Prop :=
 ∀(pins:Qa (Qg×Obj)) (s:Qd) (σ:St) (H:Hp) (o i v:V) (ov iv u:Qc) (Q:Hp->Prop),Inv X pins σ H s->zT o ov->zT i iv->zT v u->t o i v H Q->
  đ (Ĕ X.prog X.w) X.A (Λ ov iv u) (λ_ s'=>∃H',Inv X pins σ H' s'/\Q H') X.xe s
section
variable{X:Cx}{pos:Pos}
def lB(i:Nat):TG:=λv σ H Q=>Q (σ.set i<|some v) H
def Yh{i:Nat}{x:Str}(hN:X.N.Nodup)(hi:X.N[i]?=ž x)(hx:Loc X.env.scope x)(hf:X.fn x=ż\/X.env.scope.names.lookup x=ž .local:=by first|exact .inl rfl|exact .inr rfl|assumption):PG X (.Name x pos) (lB i):=by
 intro pins s σ H v u Q I r h;exact wpAny_assign_Name<|B0 I hN hi hx r (λs' I'=>⟨_,H,I',h⟩) hf
def AH:i3:=λvs σ H Q=>vs=[]/\Q σ H
def wW(t:TG)(u:i3):i3:=λvs σ H Q=>∃v r,vs=v::r/\t v σ H λaG H'=>u r aG H' Q
def Yg:r8 X [] AH:=by
 intro pins s σ H vs us Q I r h;have(e,h):=h;subst e;cases r;exact assignInOrder_nil ⟨σ,H,I,h⟩
def zp0{e:Ĥ}{es:Qa Ĥ}{t:TG}{u:i3}(h1:PG X e t)(h2:r8 X es u)
  (hs:(ű (e::es) X.env).map (·.2)=Β e X.env::(ű es X.env).map (·.2):=by rfl):r8 X (e::es) (wW t u):=by
 intro pins s σ H vs us Q I r h;have(v,vr,e1,h):=h;subst e1;cases r with
 |cons r rr=>
  rw[hs];refine a1r<|aI (h1 pins s σ H _ _ _ I r h) λ_ s1 hZ=>?_;have(eZ,H1,I1,q1):=hZ;exact h2 pins s1 eZ H1 _ _ Q I1 rr q1
def AG(K:qc)(n:Nat)(t:i3):TG:=λv σ H Q=>∃a xs,v=.ref a/\cH K H a xs/\xs.length=n/\t xs σ H Q
def T5{es:Qa Ĥ}{k:Nat}{t:i3}{n:Nat}(hc:X.calm=ż)(h:r8 X es t)
  (hn:(ű es X.env).length=n:=by rfl) (Iq:(ű es X.env).findIdx? (·.1)=Ž:=by rfl):PG X (.Tuple es k pos) (AG X.K n t):=by
 intro pins s σ H v u Q I r hw;have(a,xs,e1,hq,hl,hw):=hw;subst e1;cases r;have(aq,rv,ht,hz):=I.tuple hq;refine assign_Tuple_tuple (I.ok.hd hc) ht (by simp[hn,<-hl,rv.length]) Iq λh' hx=>?_;have I1:Inv X pins σ H {s with heap:=h'}:=I.kept (t':=s.toks) λb o e=>hx b o (qj<|qh e) e;exact h pins _ σ H xs _ Q I1 (by simpa using rv) hw
def D2(to ti:TE)(t:AI):TG:=λv σ H Q=>to σ H λo H1=>ti σ H1 λi H2=>t o i v H2 λH3=>Q σ H3
def T4{o i:Ĥ}{to ti:TE}{t:AI}(ho:PE X o to)(hi:PE X i ti)(hs:D3 X t)
  (ha:∀v,Β (.Subscript o i pos) X.env v=(do
   let ov <-Ű [v] (ŀ o X.env)
   let iv <-Ű [v,ov] (ŀ i X.env)
   a0p pos
   Ű [v,ov,iv] (Λ ov iv v)
   release [v,ov,iv] []):=by intro _;rfl):PG X (.Subscript o i pos) (D2 to ti t):=by
 intro pins s σ H v u Q I r h;rw[ha];refine qa<|Ķ<|aI (ho pins s σ H _ I h) λov s1 hZ=>?_;have(x,H1,I1,r1,q1):=hZ;refine qa<|Ķ<|aI (hi pins s1 σ H1 _ I1 q1) λiv s2 hZ=>?_;have(y,H2,I2,r2,q2):=hZ;refine qa<|π<|qa<|Ķ<|aI (hs pins s2 σ H2 x y v ov iv u _ I2 r1 r2 r q2) λ_ s3 hZ=>?_;have(H3,I3,q3):=hZ;exact wpAny_release ⟨σ,H3,I3,q3⟩
def oW(te:TE)(g:TG):TS:=λD σ H=>te σ H λx H1=>g x σ H1 D.nx
def T3{tg e:Ĥ}{te:TE}{g:TG}(he:PE X e te)(hg:PG X tg g)(hs:a1l [tg] e pos.line X.env=pure Ż:=by rfl)(hw:a1m [tg] e X.env=pure Ž:=by rfl)
  (h1:(ű [tg] X.env).map (·.2)=[Β tg X.env]:=by rfl):PS X (.Assign [tg] e pos) (oW te g):=by
 intro pins s σ H D I h;refine wpAny_Assign_stores (aI (he pins s σ H _ I h) λv s1 hZ=>?_) hs hw;have(x,H1,I1,r1,q1):=hZ;rw[h1];exact aI (hg pins s1 σ H1 x v _ I1 r1 q1) λ_ s2 q=>q
def T2{i:Nat}{x:Str}{e:Ĥ}{te:TE}{pos':Pos}(hN:X.N.Nodup)(hi:X.N[i]?=ž x)(hx:Loc X.env.scope x)(he:PE X e te)(hs:ϣ e (ž<|.Name x pos') pos.line X.env=pure Ż:=by rfl)(hf:X.fn x=ż\/X.env.scope.names.lookup x=ž .local:=by first|exact .inl rfl|exact .inr rfl|assumption):
  PS X (.Assign [.Name x pos'] e pos) (oW te<|lB i):=by
 intro pins s σ H D I h;refine wpAny_Assign_Name (aI (he pins s σ H _ I h) λv s1 hZ=>?_) hs;have(y,H1,I1,r1,q1):=hZ;exact B0 I1 hN hi hx r1 (λs2 I2=>⟨_,H1,I2,q1⟩) hf
def D1(i j:Nat)(ta:TA):TS:=λD σ H=>ta σ H λvs H1=>∃v w,vs=[v,w]/\D.nx ((σ.set i<|some v).set j<|some w) H1
def T1{i j:Nat}{x y:Str}{a b:Ĥ}{ta:TA}{px py pt:Pos}{kt k2 tJ}(hc:X.calm=ż)(hN:X.N.Nodup)(hi:X.N[i]?=ž x)(hj:X.N[j]?=ž y)(gT:i≠j)
  (hx:X.env.scope.names.lookup x=ž .local) (hy:X.env.scope.names.lookup y=ž .local) (ha:PA X [a,b] ta)
  (hw:a1m [.Tuple [.Name x px,.Name y py] kt pt] (.Tuple [a,b] k2 tJ) X.env=pure (ž [x,y]))
  (hs:a1l [.Tuple [.Name x px,.Name y py] kt pt] (.Tuple [a,b] k2 tJ) pos.line X.env=pure Ż:=by rfl):
  PS X (.Assign [.Tuple [.Name x px,.Name y py] kt pt] (.Tuple [a,b] k2 tJ) pos) (D1 i j ta):=by
 intro pins s σ H D I h;rw[exec_Assign_arm];refine qa<|π ?_;rw[hs];refine qa<|qb ?_;rw[a4c (by decide)];refine qa<|Tuple_<|aI (ha _ pins s σ H _ I h) λus s1 hZ=>?_;have(vs,H1,I1,r1,q1):=hZ;have(v,w,e1,q1):=q1;subst e1;obtain⟨u1,u2,rfl,rv,iH⟩:∃u1 u2,us=[u1,u2]/\zT v u1/\zT w u2:=by
  cases r1 with
  |cons p q=>
   cases q with
   |cons p' q'=>
    cases q';exact⟨_,_,rfl,p,p'⟩
 refine qB ?_ (by show 2<=ċ;decide);have I2:Inv X pins σ H1 {s1 with heap:=s1.heap.push {cls:=.type "tuple",data:=.seq [u1,u2].toArray}}:=I1.kept (t':=s1.toks) λb o e=>qd _ e;rw[hw];refine qa<|qb ?_;show đ (Ĕ X.prog X.w) X.A (do rule "assign.swapped-stores";let items <-unpackItems (.ref s1.heap.objs.size) 2 Ž;a2Z [λv=>bindName X.env y v,λv=>bindName X.env x v] items.reverse;pure Flow.next) _ _ _;refine qa<|a0n<|qa<|unpackItems_tuple (items:=#[u1,u2]) (I.ok.hd hc) (IsTup.new s1.heap _) λh' rN=>?_;have I3:=I2.kept (h':=h') (t':=s1.toks) λb o e=>rN b o (qj<|qh e) e;show đ _ _ (a2Z [λv=>bindName X.env y v,λv=>bindName X.env x v] [u2,u1] >>= λ_=>pure Flow.next) _ _ _;refine qa<|a1r<|wpAny_bindName<|B0 I3 hN hj (.inl hy) iH (λs2 I4=>?_)<|.inr hy;refine a1r<|wpAny_bindName<|B0 I4 hN hi (.inl hx) rv (λs3 I5=>assignInOrder_nil<|qb ?_)<|.inr hx;rw[List.set_comm _ _<|ī gT]at I5;exact⟨_,H1,I5,q1⟩
end
section
variable{X:Cx}{pos:Pos}
def FC(c:TT)(tb:TS):TS:=λD σ H=>∃W:Nat->St->Hp->Prop,(∃m,W m σ H)/\∀m σ H,W m σ H->
 c σ H λb H1=>if b=ż then ∃N:St->Hp->Prop,(∀aG H',N aG H'->∃m',m' < m/\W m' aG H')/\tb {D with nx:=N,ct:=N,bk:=D.nx} σ H1 else D.nx σ H1
def zp1{c:Ĥ}{body:Qa ķ}{tc:TT}{tb:TS}(hp:a3n (Ĕ X.prog X.w) X.A X.env X.xe)(hc:PT X c tc)(hb:eX X body tb):PS X (.While c body [] pos) (FC tc tb):=by
 intro pins s σ H D I h;obtain⟨W,⟨m0,w0⟩,turn⟩:=h;refine wpAny_While<|codeAny_whileLoop (λn s'=>∃aG H',Inv X pins aG H' s'/\W n aG H') ?_ m0 ⟨σ,H,I,w0⟩;rintro n s1 ⟨eZ,H1,I1,w1⟩;refine Ŵ hp<|aI (hc pins s1 eZ H1 _ I1<|turn n eZ H1 w1) λb s2 hZ=>?_;have(H2,I2,q2):=hZ;cases b with
 |true=>
  have(N,hN,q2):=q2;rw[a4b rfl];refine Ŵ hp<|aI (hb pins s2 eZ H2 _ I2 q2) λf s3 q3=>?_;cases f with
  |next=>
   have(eM,H3,I3,n3):=q3;have(m',hm,w3):=hN eM H3 n3;exact⟨m',hm,eM,H3,I3,w3⟩
  |cont=>
   have(eM,H3,I3,n3):=q3;have(m',hm,w3):=hN eM H3 n3;exact⟨m',hm,eM,H3,I3,w3⟩
  |brk=>exact q3
  |ret v=>exact q3
 |false=>
  rw[a4c qf];exact a0t ⟨eZ,H2,I2,q2⟩
end
structure It where
 go:Nat->Hp->Prop
 xU:Nat->Hp->V->Hp->Prop
 stop:Nat->Hp->Prop
def ir(X:Cx)(pins:Qa (Qg×Obj))(H:Hp)(b:Qg):Prop :=
 H b=Ž/\b≠X.env.locals/\b∉X.fs/\(b∈X.ex\/X.bB.heap.objs.size<=b)/\(∀x c,X.env.cells.lookup x=ž c->c≠b)/\∀p∈X.pn++pins,p.1≠b
def Inv.eW{X:Cx}{pins:Qa (Qg×Obj)}{σ:St}{H H':Hp}{s:Qd}{b:Qg}(I:Inv X pins σ H s)(hb:s.heap.objs.size<=b)(hn:H' b=Ž):ir X pins H' b:=by
 refine⟨hn,a1j<|qi I.lt hb,I.HJ hb,.inr<|qA I.sz hb,λx c e z=>?_,λp hp z=>?_⟩
 .have(v,q):=I.cell x c e
  exact absurd (qi q.lt (by rw[z];exact hb))<|Ú _
 .exact absurd (qi (qh (I.pin p hp).1) (by rw[z];exact hb)) (Ú _)
structure Turn (P:Qe) (w:Qh) (K:qc) (tg:Ĥ) (J:It) (fp:Qa Qg) (it:Qg) (tn:Nat->Ĭ->Prop):Prop where
 mem:it∈fp
 obj:∀i h,tn i h->∀b∈fp,∃o,h.get? b=ž o/\∀v,o.data≠.cell v
 keep:∀i h h',tn i h->(∀b∈fp,∀o,h.get? b=ž o->h'.get? b=ž o)->tn i h'
 item:∀(X:Cx),X.prog=P->X.w=w->X.K=K->X.calm=ż->∀(i:Nat) (pins:Qa (Qg×Obj)) (s:Qd) (σ:St) (H:Hp) (E:Qc->Qd->Prop),Inv X pins σ H s->(∀b∈fp,ir X pins H b)->tn i s.heap->J.go i H->
  đ (Ĕ P w) X.A (a2A<|.ref it) (λr s1=>∃u,r=ž u/\
   đ (Ĕ P w) X.A (a0u tg (.ref it) u) (λ_ s2=>∃x H',Inv X pins σ H' s2/\zT x u/\J.xU i H x H'/\tn (i+1) s2.heap/\∀b∈fp,H' b=Ž) E s1) E s
 done:∀(X:Cx),X.prog=P->X.w=w->X.K=K->X.calm=ż->∀(i:Nat) (pins:Qa (Qg×Obj)) (s:Qd) (σ:St) (H:Hp) (E:Qc->Qd->Prop),Inv X pins σ H s->(∀b∈fp,ir X pins H b)->tn i s.heap->J.stop i H->
  đ (Ĕ P w) X.A (a2A<|.ref it) (λr s1=>r=Ž/\Inv X pins σ H s1) E s
 self:∀(A:Qf) (i:Nat) (s:Qd) (Q:Qc->Qd->Prop) (E:Qc->Qd->Prop),tn i s.heap->Q (.ref it) s->đ (Ĕ P w) A (pyIter<|.ref it) Q E s
abbrev TI:=St->Hp->(It->Hp->Prop)->Prop
def Jj(X:Cx)(pins:Qa (Qg×Obj))(σ:St)(tg:Ĥ)(R:It->Hp->Prop)(CW:Qc)(s2:Qd):Prop :=
 ∃(it:Qg) (fp:Qa Qg) (tn:Nat->Ĭ->Prop) (J:It) (H':Hp),CW=.ref it/\Inv X pins σ H' s2/\Turn X.prog X.w X.K tg J fp it tn/\tn 0 s2.heap/\(∀b∈fp,ir X pins H' b)/\R J H'
def PI(X:Cx)(tg iter:Ĥ)(wi:TI):Prop :=
 ∀(pins:Qa (Qg×Obj)) (s:Qd) (σ:St) (H:Hp) (R:It->Hp->Prop),Inv X pins σ H s->wi σ H R->
  đ (Ĕ X.prog X.w) X.A (ŀ iter X.env) (λv s1=>đ (Ĕ X.prog X.w) X.A (pyIter v) (Jj X pins σ tg R) X.xe s1) X.xe s
def A9{M:Model}{A:Qf}{E:Qc->Qd->Prop}{s:Qd}{tg:Ĥ}{it:Qg}{u:Qc}{o:Obj}{n:String}{vs:Array Qc}{Q:Unit->Qd->Prop}(ho:s.heap.get? it=ž o)(hc:o.cls=.type n)(hd:o.data=.fields vs)
  (hn:["enumerate", "zip", "dict_itemiterator", "dict_reverseitemiterator", "odict_iterator", "itertools.zip_longest", "itertools.pairwise"].contains n=Ż) (hQ:Q () s):đ M A (a0u tg (.ref it) u) Q E s:=by
 unfold a0u;cases tg<;>first
  |exact qb hQ
  | (cases u<;>first
    |exact qb hQ
    | (refine qa<|wpAny_load ho ?_
       rw[hc,hd];show đ M A (if(["enumerate", "zip", "dict_itemiterator", "dict_reverseitemiterator", "odict_iterator", "itertools.zip_longest", "itertools.pairwise"].contains n && vs[0]?==ž (a2z _))=ż then _ else _) Q E s;rw[a4c (by intro h;rw[hn,Bool.false_and]at h;cases h)];exact qb hQ))
noncomputable def So(K:qc)(a:Qg):It :=
 ⟨λi H=>∃xs x,bE K H a xs/\xs[i]?=ž x,λi H x H'=>H'=H/\∀xs,bE K H a xs->xs[i]?=ž x,λi H=>∃xs,bE K H a xs/\xs.length<=i⟩
noncomputable def Sm(K:qc)(a:Qg):It :=
 ⟨λi H=>∃xs x,cH K H a xs/\xs[i]?=ž x,λi H x H'=>H'=H/\∀xs,cH K H a xs->xs[i]?=ž x,λi H=>∃xs,cH K H a xs/\xs.length<=i⟩
def yZ(lo:Int)(n:Nat):It:=⟨λi _=>i < n,λi H x H'=>H'=H/\x=.int (lo+i),λi _=>n<=i⟩
def zoY{P:Qe}{w:Qh}{K:qc}{tg:Ĥ}(a it:Qg):Turn P w K tg (So K a) [it] it (λi h=>h.IsListIter it a i) where
 mem:=by simp
 obj:=λi h st b hb=>by
  have e:b=it:=by simpa using hb
  subst e;have(o,e,c,d):=st;exact⟨o,e,λv z=>by rw[d]at z;cases z⟩
 keep:=λi h h' st k=>st.at λo e=>k it (by simp) o e
 item:=by
  intro X hP hw hK hc i pins s σ H E I hf st hg;subst hP hw hK;have(xs,x,hq,hx):=hg;have(aq,rv,p,hz):=I.list hq;have(u,hu,ru):=rv.get hx;have(f0,f1,f2,f3,f4,f5):=hf it (by simp);refine wpAny_pyNext_list_item st p.isList (x:=u) (by simpa using hu) λh' aA sb=>?_;have I1:Inv X pins σ H {s with heap:=h'}:=I.turned (t':=s.toks) (λb o hb e=>(sb.2 b hb).trans e) f0 f1 f3 f4 f5;have(o,e,c,d):=id aA;exact⟨u,rfl,A9 (s:={s with heap:=h'}) e c d (by decide) ⟨x,H,I1,ru,⟨rfl,λys hy=>by rw[I.iJ hy hq];exact hx⟩,aA,λb hb=>(hf b hb).1⟩⟩
 done:=by
  intro X hP hw hK hc i pins s σ H E I hf st hg;subst hP hw hK;have(xs,hq,hx):=hg;have(aq,rv,p,hz):=I.list hq;have(f0,f1,f2,f3,f4,f5):=hf it (by simp);have hl:=rv.length;exact wpAny_pyNext_list_end (I.ok.hd hc) st p.isList (by simp;omega) λh' eb=>⟨rfl,I.turned (t':=s.toks) (λb o hb e=>eb b o hb e) f0 f1 f3 f4 f5⟩
 self:=λ_ _ _ _ _ st h=>wpAny_pyIter_listiter st h
def zlS{P:Qe}{w:Qh}{K:qc}{tg:Ĥ}(a it:Qg):Turn P w K tg (Sm K a) [it] it (λi h=>h.IsTupleIter it a i) where
 mem:=by simp
 obj:=λi h st b hb=>by
  have e:b=it:=by simpa using hb
  subst e;have(o,e,c,d):=st;exact⟨o,e,λv z=>by rw[d]at z;cases z⟩
 keep:=λi h h' st k=>st.at λo e=>k it (by simp) o e
 item:=by
  intro X hP hw hK hc i pins s σ H E I hf st hg;subst hP hw hK;have(xs,x,hq,hx):=hg;have(aq,rv,p,hz):=I.tuple hq;have(u,hu,ru):=rv.get hx;have(f0,f1,f2,f3,f4,f5):=hf it (by simp);refine wpAny_pyNext_tuple_item st (show s.heap.IsTuple a aq.toArray from p) (x:=u) (by simpa using hu) λh' aA sb=>?_;have I1:Inv X pins σ H {s with heap:=h'}:=I.turned (t':=s.toks) (λb o hb e=>(sb.2 b hb).trans e) f0 f1 f3 f4 f5;have(o,e,c,d):=id aA;exact⟨u,rfl,A9 (s:={s with heap:=h'}) e c d (by decide) ⟨x,H,I1,ru,⟨rfl,λys hy=>by rw[I.gP hy hq];exact hx⟩,aA,λb hb=>(hf b hb).1⟩⟩
 done:=by
  intro X hP hw hK hc i pins s σ H E I hf st hg;subst hP hw hK;have(xs,hq,hx):=hg;have(aq,rv,p,hz):=I.tuple hq;have(f0,f1,f2,f3,f4,f5):=hf it (by simp);have hl:=rv.length;exact wpAny_pyNext_tuple_end (I.ok.hd hc) st (show s.heap.IsTuple a aq.toArray from p) (by simp;omega) λh' eb=>⟨rfl,I.turned (t':=s.toks) (λb o hb e=>eb b o hb e) f0 f1 f3 f4 f5⟩
 self:=λ_ _ _ _ _ st h=>wpAny_pyIter_tupleiter st h
def zlT{P:Qe}{w:Qh}{K:qc}{tg:Ĥ}(it:Qg)(lo:Int)(n:Nat):Turn P w K tg (yZ lo n) [it] it (λi h=>a2m h it (lo+(i:Nat) * 1) ((n:Int) - (i:Nat)) 1) where
 mem:=by simp
 obj:=λi h st b hb=>by
  have e:b=it:=by simpa using hb
  subst e;exact⟨_,st,λv z=>by
   have z':a0l _=a1o v:=z;cases z'⟩
 keep:=λi h h' st k=>k it (by simp) _ st
 item:=by
  intro X hP hw hK hc i pins s σ H E I hf st hg;subst hP hw hK;have(f0,f1,f2,f3,f4,f5):=hf it (by simp);have W:=Walks.range (prog:=X.prog) (w:=X.w) (I.ok.hd hc) it lo 1 n;refine W.item i s _ _ hg st λv h' tk hv aA kk=>?_;have(t,rfl):=hv;have I1:Inv X pins σ H {s with heap:=h',toks:=tk}:=I.turned (λb o hb e=>kk b o (by simpa using hb) e) f0 f1 f3 f4 f5;refine⟨_,rfl,A9 (s:={s with heap:=h',toks:=tk}) (n := "range_iterator") aA rfl rfl (by decide) ⟨.int<|lo+i,H,I1,⟨t,?_⟩,⟨rfl,rfl⟩,aA,λb hb=>(hf b hb).1⟩⟩;rw[Int.mul_one]
 done:=by
  intro X hP hw hK hc i pins s σ H E I hf st hg;subst hP hw hK;have(f0,f1,f2,f3,f4,f5):=hf it (by simp);exact a3u (I.ok.hd hc) st (by have:n<=i:=hg;omega) λh' eb=>⟨rfl,I.turned (t':=s.toks) (λb o hb e=>eb b o hb e) f0 f1 f3 f4 f5⟩
 self:=λ_ _ _ _ _ st h=>a3v st h
section
variable{X:Cx}{tg:Ĥ}
def E7(K:qc)(tl:TE):TI:=λσ H R=>tl σ H λx H1=>∃a,x=.ref a/\(∃xs,bE K H1 a xs)/\R (So K a) H1
def D0(K:qc)(tl:TE):TI:=λσ H R=>tl σ H λx H1=>∃a,x=.ref a/\(∃xs,cH K H1 a xs)/\R (Sm K a) H1
def Yf{l:Ĥ}{tl:TE}(hl:PE X l tl):PI X tg l (E7 X.K tl):=by
 intro pins s σ H R I h;refine aI (hl pins s σ H _ I h) λv s1 hZ=>?_;have(x,H1,I1,r1,q1):=hZ;obtain⟨a,e,⟨xs,hq⟩,q⟩:=q1;subst e;cases r1;have(aq,rv,p,hz):=I1.list hq;refine wpAny_pyIter_list p.isList ?_;refine⟨s1.heap.objs.size,[s1.heap.objs.size],_,_,H1,rfl,I1.kept (t':=s1.toks) λb o e=>qd _ e,zoY a _,⟨_,qg _ rfl,rfl,rfl⟩,λb hb=>?_,q⟩;have e:b=s1.heap.objs.size:=by simpa using hb
 subst e;exact I1.eW (qe _)<|I1.aF.fresh<|qe _
def TZ{l:Ĥ}{tl:TE}(hl:PE X l tl):PI X tg l (D0 X.K tl):=by
 intro pins s σ H R I h;refine aI (hl pins s σ H _ I h) λv s1 hZ=>?_;have(x,H1,I1,r1,q1):=hZ;obtain⟨a,e,⟨xs,hq⟩,q⟩:=q1;subst e;cases r1;have(aq,rv,p,hz):=I1.tuple hq;refine Ϟ (show s1.heap.IsTuple a aq.toArray from p) ?_;refine⟨s1.heap.objs.size,[s1.heap.objs.size],_,_,H1,rfl,I1.kept (t':=s1.toks) λb o e=>qd _ e,zlS a _,⟨_,qg _ rfl,rfl,rfl⟩,λb hb=>?_,q⟩;have e:b=s1.heap.objs.size:=by simpa using hb
 subst e;exact I1.eW (qe _)<|I1.aF.fresh<|qe _
def M0{pins:Qa (Qg×Obj)}{σ:St}{H:Hp}{s:Qd}{R:It->Hp->Prop}{E:Qc->Qd->Prop}{lo hi:Int}{t u v:Tok}{tk:Nat}(I:Inv X pins σ H s)(h1:-(2^62)<=lo)(h2:lo < 2^62)(h3:-(2^62)<=hi)(h4:hi < 2^62)
  (q:R (yZ lo (hi - lo).toNat) H):đ (Ĕ X.prog X.w) X.A (pyIter<|.ref s.heap.objs.size) (Jj X pins σ tg R) E {s with heap:=s.heap.push {cls:=.type "range",data:=.fields #[.int lo t,.int hi u,.int 1 v]},toks:=tk}:=by
 refine wpAny_pyIter_range (IsRange.new ..) (small_one h1 h2 h3 h4) ?_;have I1:Inv X pins σ H {s with heap:=s.heap.push {cls:=.type "range",data:=.fields #[.int lo t,.int hi u,.int 1 v]},toks:=tk}:=I.kept λb o e=>qd _ e;refine⟨(s.heap.push {cls:=.type "range",data:=.fields #[.int lo t,.int hi u,.int 1 v]}).objs.size,[(s.heap.push {cls:=.type "range",data:=.fields #[.int lo t,.int hi u,.int 1 v]}).objs.size],_,_,H,rfl,
  I1.kept (t':=tk) λb o e=>qd _ e,zlT _ lo (hi - lo).toNat,?_,λb hb=>?_,q⟩
 .have e1:lo+((0:Nat):Int) * 1=lo:=by simp
  have e2:(((hi - lo).toNat:Nat):Int) - ((0:Nat):Int)=ŷ lo hi 1:=by rw[rangeSize_one];split<;>omega
  show a2m _ _ (lo+((0:Nat):Int) * 1) ((((hi - lo).toNat:Nat):Int) - ((0:Nat):Int)) 1;rw[e1,e2];exact qg _ rfl
 .have e:b=(s.heap.push {cls:=.type "range",data:=.fields #[.int lo t,.int hi u,.int 1 v]}).objs.size:=by simpa using hb
  subst e;exact I1.eW (qe _)<|I1.aF.fresh<|qe _
def E5(ta:TA):TI:=λσ H R=>ta σ H λvs H1=>∃j:Int,vs=[.int j]/\-(2^62)<=j/\j < 2^62/\R (yZ 0 j.toNat) H1
def E4(ta:TA):TI:=λσ H R=>ta σ H λvs H1=>∃i j:Int,vs=[.int i,.int j]/\(-(2^62)<=i/\i < 2^62/\-(2^62)<=j/\j < 2^62)/\R (yZ i (j - i).toNat) H1
def zoZ{a:Ĥ}{ta:TA}{p pos:Pos}(hg:Gl X "range")(hm:X.mg "range"=Ž)(ha:PA X [a] ta)(hs:ĭ [a] X.env=[(Ż,ŀ a X.env)]:=by rfl):PI X tg (.Call (.Name "range" p) [a] [] pos) (E5 ta):=by
 intro pins s σ H R I h;refine Call_<|rf I hg hm boot_range<|Ø (aI (ha pos pins s σ H _ I h) λus s1 hZ=>?_) hs rfl;have(vs,H1,I1,r1,q1):=hZ;have(j,e,q1,q2,q):=q1;subst e;cases r1 with
 |cons r rr=>
  cases rr;have(t,rfl):=r;exact call_range_1<|M0 I1 (by omega) (by omega) q1 q2 (by simpa using q)
def zo0{a b:Ĥ}{ta:TA}{p pos:Pos}(hg:Gl X "range")(hm:X.mg "range"=Ž)(ha:PA X [a,b] ta)(hs:ĭ [a,b] X.env=[(Ż,ŀ a X.env),(Ż,ŀ b X.env)]:=by rfl)(oH:ĭ [b] X.env=[(Ż,ŀ b X.env)]:=by rfl):
  PI X tg (.Call (.Name "range" p) [a,b] [] pos) (E4 ta):=by
 intro pins s σ H R I h;refine Call_<|rf I hg hm boot_range<|Ø (aI (ha pos pins s σ H _ I h) λus s1 hZ=>?_) (by rw[hs,oH]) (by rw[oH];rfl);have(vs,H1,I1,r1,q1):=hZ;obtain⟨i,j,e,⟨q1,q2,q3,q4⟩,q⟩:=q1;subst e;cases r1 with
 |cons r rr=>
  cases rr with
  |cons r' rr=>
   cases rr;have(t,rfl):=r;have(t',rfl):=r';exact call_range_2<|M0 I1 q1 q2 q3 q4 q
def AF(wi:TI)(g:TG)(tb:TS):TS:=λD σ H=>wi σ H λJ H1=>∃W:Nat->Nat->St->Hp->Prop,(∃m,W 0 m σ H1)/\∀i m σ H,W i m σ H->
 (J.stop i H/\D.nx σ H)\/(J.go i H/\∃N:St->Hp->Prop,(∀aG H',N aG H'->∃m',m' < m/\W (i+1) m' aG H')/\∀x H',J.xU i H x H'->g x σ H' λgJ H2=>tb {D with nx:=N,ct:=N,bk:=D.nx} gJ H2)
noncomputable def xl(fp:Qa Qg)(h:Ĭ):Qa (Qg×Obj):=fp.filterMap λb=>(h.get? b).map λo=>(b,o)
def Cb{fp:Qa Qg}{h:Ĭ}{b:Qg}{o:Obj}(hb:b∈fp)(e:h.get? b=ž o):(b,o)∈xl fp h:=List.mem_filterMap.mpr ⟨b,hb,by rw[e];rfl⟩
def zo1{fp:Qa Qg}{h:Ĭ}{p:Qg×Obj}(hp:p∈xl fp h):p.1∈fp/\h.get? p.1=ž p.2:=by
 have(b,hb,e):=List.mem_filterMap.mp hp;cases q:h.get? b with
 |none=>rw[q]at e;cases e
 |some o=>
  rw[q]at e;have e':(b,o)=p:=qy e;subst e';exact⟨hb,q⟩
def Inv.pinned{pins:Qa (Qg×Obj)}{σ:St}{H:Hp}{s:Qd}{fp:Qa Qg}(I:Inv X pins σ H s)(hf:∀b∈fp,ir X pins H b)(ho:∀b∈fp,∃o,s.heap.get? b=ž o/\∀v,o.data≠.cell v):Inv X (pins++xl fp s.heap) σ H s :=
 I.fu λp hp=>(Ï.mp hp).elim (λz=>I.pin p<|qx _ z) λz=>by
  have(hb,e):=zo1 z;have(f0,f1,f2,_):=hf p.1 hb;have(o,e',d):=ho p.1 hb;rw[e]at e';cases e';exact⟨e,f0,f1,f2,d⟩
def Inv.fN{pins pl:Qa (Qg×Obj)}{σ:St}{H:Hp}{s:Qd}(I:Inv X (pins++pl) σ H s):Inv X pins σ H s:=I.fu λp hp=>I.pin p<|qx _<|a0j _ hp
def TY{iter:Ĥ}{body:Qa ķ}{wi:TI}{g:TG}{tb:TS}{pos:Pos}(hp:a3n (Ĕ X.prog X.w) X.A X.env X.xe)(hc:X.calm=ż)(hi:PI X tg iter wi)(hg:PG X tg g)(hb:eX X body tb)
  (hs:∀x,ϧ iter X.env x=pure x:=by intro _;rfl):PS X (.For tg iter body [] pos) (AF wi g tb):=by
 intro pins s σ H D I h;refine wpAny_For (aI (hi pins s σ H _ I h) λv s1 h1=>aI h1 λCW s2 h2=>?_) hs;obtain⟨it,fp,tn,J,H2,e,I2,T,iG,f2,W,⟨m0,w0⟩,turn⟩:=h2;subst e;have tD:∀{H':Hp},(∀b∈fp,H' b=Ž)->∀b∈fp,ir X pins H' b:=λhn b hb=>⟨hn b hb,(f2 b hb).2⟩;refine codeAny_forLoop_any (λn s'=>∃i aG H',Inv X pins aG H' s'/\tn i s'.heap/\(∀b∈fp,H' b=Ž)/\W i n aG H') ?_ m0 ⟨0,σ,H2,I2,iG,λb hb=>(f2 b hb).1,w0⟩;rintro n s3 ⟨i,eM,H3,I3,yb,yP,w3⟩;rcases turn i n eM H3 w3 with⟨stop,qn⟩|⟨go,N,hN,step⟩
 .refine Ŵ hp (aI (T.done X rfl rfl rfl hc i pins s3 eM H3 X.xe I3 (tD yP) yb stop) λr s4 hZ=>?_)
  have(hr,I4):=hZ;subst hr;exact a0t ⟨eM,H3,I4,qn⟩
 .refine Ŵ hp (aI (T.item X rfl rfl rfl hc i pins s3 eM H3 X.xe I3 (tD yP) yb go) λr s4 hZ=>?_)
  have(u,hr,h4):=hZ;subst hr;refine Ŵ hp<|aI h4 λ_ s5 hZ=>?_;have(x,H5,I5,r5,y5,tE,I9):=hZ;have Jn:=I5.pinned (tD I9) (T.obj _ _ tE);refine Ŵ hp<|aI (hg _ s5 eM H5 x u _ Jn r5<|step x H5 y5) λ_ s6 hZ=>?_;have(wg,H6,I6,q6):=hZ;refine Ŵ hp<|aI (hb _ s6 wg H6 _ I6 q6) λf s7 q7=>?_;have again:∀{l9:St} {H7:Hp},Inv X (pins++xl fp s5.heap) l9 H7 s7->N l9 H7->∃m,m < n/\∃i aG H',Inv X pins aG H' s7/\tn i s7.heap/\(∀b∈fp,H' b=Ž)/\W i m aG H':=λ{l9 H7} I7 n7=>by
   have(m',hm,w7):=hN l9 H7 n7;refine⟨m',hm,i+1,l9,H7,I7.fN,T.keep _ _ _ tE λb hb o e=>(I7.pin (b,o)<|qx _<|qx _<|Cb hb e).1,λb hb=>?_,w7⟩;have(o,e,d):=T.obj _ _ tE b hb;exact(I7.pin (b,o)<|qx _<|qx _<|Cb hb e).2.1
  cases f with
  |next=>have(l9,H7,I7,n7):=q7;exact again I7 n7
  |cont=>have(l9,H7,I7,n7):=q7;exact again I7 n7
  |brk=>have(l9,H7,I7,q7):=q7;exact⟨l9,H7,I7.fN,q7⟩
  |ret v=>have(x7,l9,H7,I7,r7,q7):=q7;exact⟨x7,l9,H7,I7.fN,r7,q7⟩
end
abbrev R2:=V->V->Hp->VK->Prop
def cp(X:Cx)(f:Qc->Qc->Sem Qc)(r:R2):Prop :=
 ∀(pins:Qa (Qg×Obj)) (s:Qd) (σ:St) (H:Hp) (x y:V) (v u:Qc) (Q:VK),Inv X pins σ H s->zT x v->zT y u->r x y H Q->
  đ (Ĕ X.prog X.w) X.A (f v u) (EP X pins σ Q) X.xe s
def Dy(X:Cx)(f:Qc->Sem Qc)(r:V->Hp->VK->Prop):Prop :=
 ∀(pins:Qa (Qg×Obj)) (s:Qd) (σ:St) (H:Hp) (x:V) (v:Qc) (Q:VK),Inv X pins σ H s->zT x v->r x H Q->
  đ (Ĕ X.prog X.w) X.A (f v) (EP X pins σ Q) X.xe s
def gO(X:Cx)(f:Qc)(r:Qa V->Hp->VK->Prop):Prop :=
 ∀(pins:Qa (Qg×Obj)) (s:Qd) (σ:St) (H:Hp) (xs:Qa V) (us:Qa Qc) (Q:VK),Inv X pins σ H s->zV xs us->r xs H Q->
  đ (Ĕ X.prog X.w) X.A (call f us) (EP X pins σ Q) X.xe s
def zCG(X:Cx)(r:V->Hp->(Bool->Hp->Prop)->Prop):Prop :=
 ∀(pins:Qa (Qg×Obj)) (s:Qd) (σ:St) (H:Hp) (x:V) (v:Qc) (Q:Bool->Hp->Prop),Inv X pins σ H s->zT x v->r x H Q->
  đ (Ĕ X.prog X.w) X.A (truthy v) (TP X pins σ Q) X.xe s
def lM(r:R2)(ta tb:TE):TE:=λσ H Q=>ta σ H λx H1=>tb σ H1 λy H2=>r x y H2 Q
def Hk(r:V->Hp->VK->Prop)(ta:TE):TE:=λσ H Q=>ta σ H λx H1=>r x H1 Q
def rI(C:Int->Int->Prop)(g:Int->Int->V):R2:=λx y H Q=>∃i j,x=.int i/\y=.int j/\C i j/\Q (g i j) H
def jg(g:Int->Int->V):R2:=λx y H Q=>∃i j,x=.int i/\y=.int j/\Q (g i j) H
def rU(g:Int->V):V->Hp->VK->Prop:=λx H Q=>∃i,x=.int i/\Q (g i) H
section
variable{X:Cx}{a b c:Ĥ}{ta tb tc:TE}{pos:Pos}
def DZ(ha:PE X a ta)(hb:PE X b tb){pins:Qa (Qg×Obj)}{s:Qd}{σ:St}{H:Hp}{R:V->V->Hp->Prop}(I:Inv X pins σ H s)
  (h:ta σ H λx H1=>tb σ H1 λy H2=>R x y H2) {Q:Qc->Qd->Prop} {f:Qc->Qc->Sem Qc}
  (hf:∀v u s2 x y H2,Inv X pins σ H2 s2->zT x v->zT y u->R x y H2->đ (Ĕ X.prog X.w) X.A (f v u) Q X.xe s2):
  đ (Ĕ X.prog X.w) X.A (ŀ a X.env) (λv aJ=>đ (Ĕ X.prog X.w) X.A (ŀ b X.env) (λu gF=>đ (Ĕ X.prog X.w) X.A (f v u) Q X.xe gF) X.xe aJ) X.xe s:=by
 refine aI (ha pins s σ H _ I h) λv s1 hZ=>?_;have(x,H1,I1,r1,q1):=hZ;refine aI (hb pins s1 σ H1 _ I1 q1) λu s2 hZ=>?_;have(y,H2,I2,r2,q2):=hZ;exact hf v u s2 x y H2 I2 r1 r2 q2
def zAu{op:Operator}{r:R2}(ho:cp X (ώ op) r)(ha:PE X a ta)(hb:PE X b tb):PE X (.BinOp a op b pos) (lM r ta tb):=by
 intro pins s σ H Q I h;exact wpAny_BinOp<|DZ ha hb I h λv u s2 x y H2 I2 rx ry q=>ho pins s2 σ H2 x y v u Q I2 rx ry q
def zAv{op:UnaryOp}{r:V->Hp->VK->Prop}(ho:Dy X (unaryOp op) r)(ha:PE X a ta):PE X (.UnaryOp op a pos) (Hk r ta):=by
 intro pins s σ H Q I h;exact UnaryOp_<|aI (ha pins s σ H _ I h) λv s1 ⟨x,H1,I1,r1,q1⟩=>ho pins s1 σ H1 x v Q I1 r1 q1
def vy{f:Qc->Qc->Sem Qc}{C:Int->Int->Prop}{g:Int->Int->Int}
  (rule:∀(i j:Int) (t u:Tok) (s:Qd) (Q:Qc->Qd->Prop) (E:Qc->Qd->Prop),C i j->Q (.int (g i j) s.toks) {s with toks:=s.toks+1}->đ (Ĕ X.prog X.w) X.A (f (.int i t)<|.int j u) Q E s):
  cp X f (rI C λi j=>.int<|g i j):=by
 intro pins s σ H x y v u Q I rx ry h;have(i,j,rfl,rfl,hc,q):=h;have(t,rfl):=rx;have(t',rfl):=ry;exact rule i j t t' s _ _ hc ⟨.int<|g i j,H,I.tok _,⟨_,rfl⟩,q⟩
def P5{f:Qc->Qc->Sem Qc}{g:Int->Int->Int}
  (rule:∀(i j:Int) (t u:Tok) (s:Qd) (Q:Qc->Qd->Prop) (E:Qc->Qd->Prop),Q (.int (g i j) s.toks) {s with toks:=s.toks+1}->đ (Ĕ X.prog X.w) X.A (f (.int i t)<|.int j u) Q E s):
  cp X f (jg λi j=>.int<|g i j):=by
 intro pins s σ H x y v u Q I rx ry h;have(i,j,rfl,rfl,q):=h;have(t,rfl):=rx;have(t',rfl):=ry;exact rule i j t t' s _ _ ⟨.int<|g i j,H,I.tok _,⟨_,rfl⟩,q⟩
def AE{f:Qc->Qc->Sem Qc}{g:Int->Int->Bool}
  (rule:∀(i j:Int) (t u:Tok) (s:Qd) (Q:Qc->Qd->Prop) (E:Qc->Qd->Prop),Q (.bool<|g i j) s->đ (Ĕ X.prog X.w) X.A (f (.int i t)<|.int j u) Q E s):
  cp X f (jg λi j=>.bl<|g i j):=by
 intro pins s σ H x y v u Q I rx ry h;have(i,j,rfl,rfl,q):=h;have(t,rfl):=rx;have(t',rfl):=ry;exact rule i j t t' s _ _ ⟨.bl<|g i j,H,I,rfl,q⟩
def As(i j:Int):Prop:=0<=j/\j<=1000000/\i.natAbs < 2^64
def uD(i j:Int):Prop:=(-(2^64) < i/\i < 2^64)\/(-(2^64) < j/\j < 2^64)
def uD.ok{i j:Int}(h:uD i j):IntMulOk i j:=by
 rcases h with⟨h1,h2⟩|⟨h1,h2⟩
 .exact .of_left (intBits_le_64 h1 h2)
 .exact .of_right (intBits_le_64 h1 h2)
def cE:cp X (ώ .Add) (jg λi j=>.int<|i+j):=P5 λ_ _ _ _ _ _ _ q=>add_int q
def n8:cp X (ώ .Sub) (jg λi j=>.int<|i - j):=P5 λ_ _ _ _ _ _ _ q=>sub_int q
def lC:cp X (ώ .Mult) (rI uD λi j=>.int<|i * j):=vy λ_ _ _ _ _ _ _ hc q=>mul_int q hc.ok
def mH:cp X (ώ .Mod) (rI (λ_ j=>0 < j) λi j=>.int<|i % j):=vy λi j _ _ _ _ _ hc q=>by
 have h1:(0:Int) < j:=hc;exact mod_int' (by omega) (by rw[Int.fmod_eq_emod_of_nonneg i (by omega)];exact q)
def TX:cp X (ώ .Pow) (rI As λi j=>.int<|i^j.toNat):=vy λ_ _ _ _ _ _ _ hc q=>pow_int_small hc.1 hc.2.1 hc.2.2 q
def unI{f:Qc->Sem Qc}{g:Int->Int}
  (rule:∀(i:Int) (t:Tok) (s:Qd) (Q:Qc->Qd->Prop) (E:Qc->Qd->Prop),Q (.int (g i) s.toks) {s with toks:=s.toks+1}->đ (Ĕ X.prog X.w) X.A (f<|.int i t) Q E s):
  Dy X f (rU λi=>.int<|g i):=by
 intro pins s σ H x v Q I rx h;have(i,rfl,q):=h;have(t,rfl):=rx;exact rule i t s _ _ ⟨.int<|g i,H,I.tok _,⟨_,rfl⟩,q⟩
def jK:Dy X (unaryOp .USub) (rU λi=>.int (-i)):=unI λ_ _ _ _ _ q=>neg_int q
end
noncomputable def DY:V->V->Bool
 |.aL,.aL=>ż |.aL,.int _=>ż |.int _,.aL=>ż |.aL,.bl _=>ż |.bl _,.aL=>ż |.aL,.str _=>ż |.str _,.aL=>ż
 |.int _,.int _=>ż |.bl _,.bl _=>ż |.str _,.str _=>ż |.j0 _,.j0 _=>ż
 |.int _,.str _=>ż |.str _,.int _=>ż |.bl _,.str _=>ż |.str _,.bl _=>ż
 |_,_=>Ż
def QB:R2:=λx y H Q=>DY x y=ż/\Q (.bl<|decide<|x=y) H
def Qz:R2:=λx y H Q=>DY x y=ż/\Q (.bl (!decide (x=y))) H
def Mv{i j:Int}:decide (V.int i=V.int j)=(i==j):=by
 rw[ϰ];simp
def Lq{i j:Bool}:decide (V.bl i=V.bl j)=(i==j):=by
 rw[ϰ];simp
def Mu{i j:Str}:decide (V.str i=V.str j)=(i==j):=by
 rw[ϰ];simp
def Mt{i j:Array UInt8}:decide (V.j0 i=V.j0 j)=(i.toList==j.toList):=by
 rw[ϰ];cases i;cases j;simp
section
variable{X:Cx}{a b c:Ĥ}{ta tb tc:TE}{pos:Pos}
def cS{pins:Qa (Qg×Obj)}{σ:St}{H:Hp}{s:Qd}{Q:VK}{k k':Bool}(I:Inv X pins σ H s)(q:Q (.bl k) H)(e:k=k'):EP X pins σ Q (.bool k') s:=by
 subst e;exact⟨.bl k,H,I,rfl,q⟩
def cu:cp X (ĩ .Eq) QB:=by
 intro pins s σ H x y v u Q I rx ry h;have(hs,q):=h;cases x with
 |aL=>
  cases rx;cases y with
  |aL=>cases ry;exact PySem.EqNone.eq_none_none<|cS I q (by simp)
  |bl j=>cases ry;exact PySem.EqNone.eq_none_bool<|cS I q (by simp)
  |int j=>have(t',rfl):=ry;exact PySem.EqNone.eq_none_int<|cS I q (by simp)
  |str j=>have(t',rfl):=ry;exact PySem.EqNone.eq_none_str<|cS I q (by simp)
  |_=>exact absurd (show Ż=ż from hs) qf
 |bl i=>
  cases rx;cases y with
  |aL=>cases ry;exact PySem.EqNone.eq_bool_none<|cS I q (by simp)
  |bl j=>cases ry;exact eq_bool<|cS I q Lq
  |str j=>have(t',rfl):=ry;exact PySem.EqMixed.eq_bool_str<|cS I q (by simp)
  |_=>exact absurd (show Ż=ż from hs) qf
 |int i=>
  have(t,rfl):=rx;cases y with
  |aL=>cases ry;exact PySem.EqNone.eq_int_none<|cS I q (by simp)
  |int j=>have(t',rfl):=ry;exact eq_int<|cS I q Mv
  |str j=>have(t',rfl):=ry;exact PySem.EqMixed.eq_int_str<|cS I q (by simp)
  |_=>exact absurd (show Ż=ż from hs) qf
 |str i=>
  have(t,rfl):=rx;cases y with
  |aL=>cases ry;exact PySem.EqNone.eq_str_none<|cS I q (by simp)
  |bl j=>cases ry;exact PySem.EqMixed.eq_str_bool<|cS I q (by simp)
  |int j=>have(t',rfl):=ry;exact PySem.EqMixed.eq_str_int<|cS I q (by simp)
  |str j=>have(t',rfl):=ry;exact eq_str<|cS I q Mu
  |_=>exact absurd (show Ż=ż from hs) qf
 |j0 i=>
  have(t,rfl):=rx;cases y with
  |j0 j=>have(t',rfl):=ry;exact PySem.W.eq_bytes<|cS I q Mt
  |_=>exact absurd (show Ż=ż from hs) qf
 |_=>cases y<;>exact absurd (show Ż=ż from hs) qf
def nU:cp X (ĩ .NotEq) Qz:=by
 intro pins s σ H x y v u Q I rx ry h;have(hs,q):=h;cases x with
 |aL=>
  cases rx;cases y with
  |aL=>cases ry;exact PySem.EqNone.ne_none_none<|cS I q (by simp)
  |bl j=>cases ry;exact PySem.EqNone.ne_none_bool<|cS I q (by simp)
  |int j=>have(t',rfl):=ry;exact PySem.EqNone.ne_none_int<|cS I q (by simp)
  |str j=>have(t',rfl):=ry;exact PySem.EqNone.ne_none_str<|cS I q (by simp)
  |_=>exact absurd (show Ż=ż from hs) qf
 |bl i=>
  cases rx;cases y with
  |aL=>cases ry;exact PySem.EqNone.ne_bool_none<|cS I q (by simp)
  |bl j=>cases ry;exact ne_bool<|cS I q<|congrArg not Lq
  |str j=>have(t',rfl):=ry;exact PySem.EqMixed.ne_bool_str<|cS I q (by simp)
  |_=>exact absurd (show Ż=ż from hs) qf
 |int i=>
  have(t,rfl):=rx;cases y with
  |aL=>cases ry;exact PySem.EqNone.ne_int_none<|cS I q (by simp)
  |int j=>have(t',rfl):=ry;exact ne_int<|cS I q<|congrArg not Mv
  |str j=>have(t',rfl):=ry;exact PySem.EqMixed.ne_int_str<|cS I q (by simp)
  |_=>exact absurd (show Ż=ż from hs) qf
 |str i=>
  have(t,rfl):=rx;cases y with
  |aL=>cases ry;exact PySem.EqNone.ne_str_none<|cS I q (by simp)
  |bl j=>cases ry;exact PySem.EqMixed.ne_str_bool<|cS I q (by simp)
  |int j=>have(t',rfl):=ry;exact PySem.EqMixed.ne_str_int<|cS I q (by simp)
  |str j=>have(t',rfl):=ry;exact ne_str<|cS I q<|congrArg not Mu
  |_=>exact absurd (show Ż=ż from hs) qf
 |j0 i=>
  have(t,rfl):=rx;cases y with
  |j0 j=>have(t',rfl):=ry;exact PySem.W.ne_bytes<|cS I q<|congrArg not Mt
  |_=>exact absurd (show Ż=ż from hs) qf
 |_=>cases y<;>exact absurd (show Ż=ż from hs) qf
def q9:cp X (ĩ .Lt) (jg λi j=>.bl<|decide<|i < j):=AE λ_ _ _ _ _ _ _ q=>lt_int q
def Kf:cp X (ĩ .LtE) (jg λi j=>.bl<|decide<|i<=j):=AE λ_ _ _ _ _ _ _ q=>le_int q
def wV:cp X (ĩ .Gt) (jg λi j=>.bl<|decide<|j < i):=AE λ_ _ _ _ _ _ _ q=>gt_int q
def Ke:cp X (ĩ .GtE) (jg λi j=>.bl<|decide<|j<=i):=AE λ_ _ _ _ _ _ _ q=>ge_int q
def Bp:cp X (ĩ .Is) (λx y H Q=>y=.aL/\Q (.bl<|decide<|x=.aL) H):=by
 intro pins s σ H x y v u Q I rx ry h;have(rfl,q):=h;cases ry;refine is_none_gen<|cS I q ?_;cases x<;>first
  | (cases rx;rfl)
  | (have(t,rfl):=rx;rfl)
def xB:cp X (ĩ .IsNot) (λx y H Q=>y=.aL/\Q (.bl (!decide (x=.aL))) H):=by
 intro pins s σ H x y v u Q I rx ry h;have(rfl,q):=h;cases ry;refine isnot_none_gen<|cS I q ?_;cases x<;>first
  | (cases rx;rfl)
  | (have(t,rfl):=rx;rfl)
def Lp(b:Ĥ){op:a2n}(h:op≠.In:=by decide)(h2:op≠.NotIn:=by decide):ś op b=Ż:=by
 have e1:(op==CmpOp.In)=Ż:=by cases op<;>first|rfl|exact absurd rfl h
 have e2:(op==CmpOp.NotIn)=Ż:=by cases op<;>first|rfl|exact absurd rfl h2
 cases b<;>simp[ś,e1,e2]
def Xi{op:a2n}{r:R2}(ho:cp X (ĩ op) r)(ha:PE X a ta)(hb:PE X b tb)(hm:ś op b=Ż):PE X (.Compare a [op] [b] pos) (lM r ta tb):=by
 intro pins s σ H Q I h;exact wpAny_Compare1 (DZ ha hb I h λv u s2 x y H2 I2 rx ry q=>ho pins s2 σ H2 x y v u Q I2 rx ry q) hm
def E2(t:TE):TT:=λσ H Q=>t σ H λx H'=>∃k,x=.bl k/\Q k H'
def Xh{op:a2n}{r:R2}(ho:cp X (ĩ op) r)(ha:PE X a ta)(hb:PE X b tb)(hm:ś op b=Ż):PT X (.Compare a [op] [b] pos) (E2<|lM r ta tb):=by
 intro pins s σ H Q I h;refine a3G (aI (ha pins s σ H _ I h) λv s1 hZ=>?_) hm;have(x,H1,I1,r1,q1):=hZ;refine aI (hb pins s1 σ H1 _ I1 q1) λu s2 hZ=>?_;have(y,H2,I2,r2,q2):=hZ;refine aI (ho pins s2 σ H2 x y v u _ I2 r1 r2 q2) λc s3 hZ=>?_;have(z,H3,I3,r3,k,e,q3):=hZ;subst e;cases r3;exact Œ ⟨H3,I3,q3⟩
def FA(r r':R2)(ta tb tc:TE):TE:=λσ H Q=>ta σ H λx H1=>tb σ H1 λy H2=>r x y H2 λz H3=>∃k,z=.bl k/\
 (if k=ż then tc σ H3 λw' H4=>r' y w' H4 Q else Q (.bl Ż) H3)
def zp8{op tN:a2n}{r r':R2}(ho:cp X (ĩ op) r)(iz:cp X (ĩ tN) r')(ha:PE X a ta)(hb:PE X b tb)(hc:PE X c tc)
  (hm:lastMarks [op,tN] [b,c]=Ż:=by with_unfolding_all rfl):PE X (.Compare a [op,tN] [b,c] pos) (FA r r' ta tb tc):=by
 intro pins s σ H Q I h;refine Compare_chain (aI (ha pins s σ H _ I h) λv s1 hZ=>?_) hm;have(x,H1,I1,r1,q1):=hZ;refine chain_link<|aI (hb pins s1 σ H1 _ I1 q1) λu s2 hZ=>?_;have(y,H2,I2,r2,q2):=hZ;refine aI (ho pins s2 σ H2 x y v u _ I2 r1 r2 q2) λd s3 hZ=>?_;have(z,H3,I3,r3,k,e,q3):=hZ;subst e;cases r3;refine Œ ?_;cases k with
 |false=>exact ite_ff ⟨.bl Ż,H3,I3,rfl,q3⟩
 |true=>
  refine ite_tt<|chain_last<|aI (hc pins s3 σ H3 _ I3 q3) λw' s4 hZ=>?_;have(z',H4,I4,r4,q4):=hZ;exact iz pins s4 σ H4 y z' u w' Q I4 r2 r4 q4
def DX(K:qc)(x:V)(H:Hp)(k:Bool):Prop :=
 match x with
 |.aL=>k=Ż
 |.bl b=>k=b
 |.int i=>k=(i != 0)
 |.str y=>y.length<=ċ/\k=((y.length:Int) != 0)
 |.j0 y=>y.size<=ċ/\k=((y.size:Int) != 0)
 |.ref p=>(∃xs,bE K H p xs/\k=!xs.isEmpty)\/(∃xs,cH K H p xs/\k=!xs.isEmpty)\/∃ao,H p=ž (.dK ao)/\k=!ao.isEmpty
 |_=>False
def zlV{κ:Type}{ao:Qa (κ×V)}{vs:Qa (κ×Qc)}(r:KV ao vs):(!vs.isEmpty)=!ao.isEmpty:=by
 cases r<;>rfl
def NS{xs:Qa V}{aq:Qa Qc}(r:zV xs aq):(!aq.toArray.isEmpty)=!xs.isEmpty:=by
 cases r<;>simp
def uV:(ċ:Nat) < 2^63:=by rw[ϵ];decide
def TV:zCG X (λx H Q=>∃k,DX X.K x H k/\Q k H):=by
 intro pins s σ H x v Q I rx h;have(k,e,q):=h;have hl:=uV;have hs:ċ=16777216:=ϵ;cases x with
 |aL=>
  cases rx;have e':k=Ż:=e;subst e';exact truthy_none ⟨H,I,q⟩
 |bl b=>
  cases rx;have e':k=b:=e;subst e';exact Œ ⟨H,I,q⟩
 |int i=>
  have(t,rfl):=rx;have e':k=(i != 0):=e;subst e';exact PySem.P.truthy_int ⟨H,I,q⟩
 |str y=>
  have(t,rfl):=rx;obtain⟨hy,e'⟩:y.length<=ċ/\k=((y.length:Int) != 0):=e;subst e';exact PySem.P.truthy_str (by omega) ⟨H,I.tok _,q⟩
 |j0 y=>
  have(t,rfl):=rx;obtain⟨hy,e'⟩:y.size<=ċ/\k=((y.size:Int) != 0):=e;subst e';exact PySem.W.truthy_bytes (by omega) ⟨H,I.tok _,q⟩
 |ref p=>
  cases rx;have e':(∃xs,bE X.K H p xs/\k=!xs.isEmpty)\/(∃xs,cH X.K H p xs/\k=!xs.isEmpty)\/∃ao,H p=ž (.dK ao)/\k=!ao.isEmpty:=e;rcases e' with⟨xs,hx,e'⟩|⟨xs,hx,e'⟩|⟨ao,hx,e'⟩
  .subst e'
   have(aq,r,pl,hz):=I.list hx;have hlen:=r.length;exact wpAny_truthy_list pl.isList (by simp only[ď];omega) ⟨H,I.tok _,by rw[NS r];exact q⟩
  .subst e'
   have(aq,r,pl,hz):=I.tuple hx;have hlen:=r.length;exact truthy_tuple pl (by simp only[ď];omega) ⟨H,I.tok _,by rw[NS r];exact q⟩
  .subst e'
   obtain⟨hz,hS,vs,r,m⟩:ao.length<=ċ/\(p==Ŀ)=Ż/\∃vs,KV ao vs/\s.heap.DictOf (dC X.prog X.w) p vs:=I.aF p _ hx;have hlen:ao.length=vs.length:=ό r;exact wpAny_truthy_dict hS m (by omega) ⟨H,I.tok _,by rw[zlV r];exact q⟩
 |_=>exact(show False from e).elim
def zp9(ha:PE X a ta)(he:∀whole,a1V a X.env whole=(do let v <-whole;a0p a.pos;Ű [v] (truthy v))):
  PT X a (λσ H Q=>ta σ H λx H'=>∃k,DX X.K x H' k/\Q k H'):=by
 intro pins s σ H Q I h;exact isTrue_plain (aI (ha pins s σ H _ I h) λv s1 ⟨x,H1,I1,r1,q1⟩=>TV pins s1 σ H1 x v Q I1 r1 q1)<|he _
def Ca:cp X (ώ .Add) (λx y H Q=>∃i j,x=.str i/\y=.str j/\i.length+j.length<=ċ/\Q (.str<|i++j) H):=by
 intro pins s σ H x y v u Q I rx ry h;have(i,j,rfl,rfl,hz,q):=h;have(t,rfl):=rx;have(t',rfl):=ry;exact add_str (λt' tk=>⟨.str<|i++j,H,I.tok _,⟨_,rfl⟩,q⟩) hz
def pw{x:V}{us:Qa Qc}(r:zV [x] us):∃u,us=[u]/\zT x u:=by
 cases r with
 |cons r1 r2=>cases r2;exact⟨_,rfl,r1⟩
def ES{x y:V}{us:Qa Qc}(r:zV [x,y] us):∃u w',us=[u,w']/\zT x u/\zT y w':=by
 cases r with
 |cons r1 r2=>
  cases r2 with
  |cons r3 r4=>cases r4;exact⟨_,_,rfl,r1,r3⟩
def xH:gO X (.builtin "abs") (λxs H Q=>∃i,xs=[.int i]/\Q (.int (if i < 0 then -i else i)) H):=by
 intro pins s σ H xs us Q I r h;have(i,rfl,q):=h;have(u,rfl,t,rfl):=pw r;exact call_abs_int λu tk=>⟨.int (if i < 0 then -i else i),H,I.tok _,⟨_,rfl⟩,q⟩
def zo3(hc:X.calm=ż):gO X (.builtin "max") (λxs H Q=>∃i j,xs=[.int i,.int j]/\Q (.int (if j > i then j else i)) H):=by
 intro pins s σ H xs us Q I r h;have(i,j,rfl,q):=h;obtain⟨u,w',rfl,⟨t,rfl⟩,⟨t',rfl⟩⟩:=ES r;refine max_two_ints (I.ok.hd hc) λh' tk k=>⟨_,H,I.kept k,?_,q⟩
 by_cases hj:j > i
 .rw[a4b hj,a4b hj];exact⟨_,rfl⟩
 .rw[a4c hj,a4c hj];exact⟨_,rfl⟩
def zo4(hc:X.calm=ż):gO X (.builtin "min") (λxs H Q=>∃i j,xs=[.int i,.int j]/\Q (.int (if j < i then j else i)) H):=by
 intro pins s σ H xs us Q I r h;have(i,j,rfl,q):=h;obtain⟨u,w',rfl,⟨t,rfl⟩,⟨t',rfl⟩⟩:=ES r;refine min_two_ints (I.ok.hd hc) λh' tk k=>⟨_,H,I.kept k,?_,q⟩
 by_cases hj:j < i
 .rw[a4b hj,a4b hj];exact⟨_,rfl⟩
 .rw[a4c hj,a4c hj];exact⟨_,rfl⟩
def GQ:gO X (.type "int") (λxs H Q=>(∃i,xs=[.int i]/\Q (.int i) H)\/∃k,xs=[.bl k]/\Q (.int (if k then 1 else 0)) H):=by
 intro pins s σ H xs us Q I r h;rcases h with⟨i,rfl,q⟩|⟨k,rfl,q⟩
 .have(u,rfl,t,rfl):=pw r
  exact call_int_int ⟨.int i,H,I,⟨_,rfl⟩,q⟩
 .have(u,rfl,r1):=pw r
  cases r1;exact call_int_bool ⟨.int (if k then 1 else 0),H,I.tok _,⟨_,rfl⟩,q⟩
end
structure jz (h:Ĭ) (x dx C:Qg) (mA:Str->Qb Qc):Prop where
 obj:h.get? x=ž (Ŝ C dx)
 ns:h.Ns1 dx mA
 ne:dx≠x
def zo5{h:Ĭ}{dx:Qg}{mA:Str->Qb Qc}(n:h.Ns1 dx mA):∃od,h.get? dx=ž od/\∀name,τ name od=ž (mA name):=by
 have(o,es,ep,ho,hd,hk,_,hm):=n;refine⟨o,ho,λname=>?_⟩;have e:=hm name;unfold nsFind findBy at e;rw[<-Array.find?_toList]at e;unfold τ;rw[hd];dsimp only;split
 .rename_i y q
  rw[q]at e;exact congrArg ž e
 .rename_i q
  rw[q]at e;have a:es.toList.any (·.refKey)=Ż:=by
   rw[List.any_eq_false];intro y hy;have(z,t,IF):=hk y (Array.mem_toList_iff.mp hy);simp[DictEntry.refKey,IF]
  have a':¬es.toList.any (·.refKey)=ż:=by rw[a];exact qf
  rw[a4c a'];exact congrArg ž e
def jz.look{h:Ĭ}{x dx C:Qg}{mA:Str->Qb Qc}(I:jz h x dx C mA):∃od,PySem.W.InstAt h x (Ŝ C dx) C (ž od)/\∀name,τ name od=ž (mA name):=
 let ⟨od,ho,hl⟩:=zo5 I.ns
 ⟨od,⟨I.obj,rfl,rfl,ho⟩,hl⟩
section
variable{prog:Qe}{w:Qh}{A:Qf}{E:Qc->Qd->Prop}{s:Qd}{K:qc}{x dx C f:Qg}{mA:Str->Qb Qc}{name:Str}{v:Qc}
def Xg{expr:Bool}{Q:Qc->Qd->Prop}(X:K.In s.heap)(I:jz s.heap x dx C mA)(hg:Ŷ K C name=ż)(hh:ϕ K C=ż)
  (ha:ė K (.ref C) name=ž Ž) (hv:mA name=ž v) (Dd:a3f v=ż) (h:Q v {s with toks:=s.toks+1}):
  đ (Ĕ prog w) A (getAttr (.ref x) name expr) Q E s:=by
 have(od,J,hl):=I.look;exact PySem.W.get_value X J (a0g hg).1 (PySem.W.findObj_own hh ha rfl (by rw[hl,hv])) Dd h
def ZI{pl:Sem Bool}{Q:Qc×Qa Qc->Qd->Prop}(X:K.In s.heap)(I:jz s.heap x dx C mA)(hg:Ŷ K C name=ż)
  (hf:ė K (.ref C) name=ž (ž<|.ref f)) (ht:Ψ K (.ref f)=ż) (hv:mA name=Ž) (h:Q (.ref f,[.ref x]) s):
  đ (Ĕ prog w) A (getMethod (.ref x) name pl) Q E s:=by
 have(od,J,hl):=I.look;exact PySem.W.method_fn X J (a0g hg).1 (a0g hg).2 hf (beq_iff_eq.mp ht) (by show(τ name od).map (·.isSome)=ž Ż;rw[hl,hv];rfl) h
def Xf{ns:Qa Str}{Q:Unit->Qd->Prop}(X:K.In s.heap)(I:jz s.heap x dx C mA)
  (hs:ė K (.ref C) "__setattr__"=ž (ž<|.builtin "object.__setattr__")) (hp:Ϲ K C=ż) (ht:a1f K C name=ž Ž) (hh:ϕ K C=ż)
  (hw:a2q mA ns) (hsz:ns.length<=ċ)
  (h:∀h',jz h' x dx C (λy=>if y=name then ž v else mA y)->ϊ dx s.heap h'->Q () {s with heap:=h',toks:=s.toks+2}):
  đ (Ĕ prog w) A (setAttr (.ref x) name v) Q E s:=by
 have(od,J,hl):=I.look;refine PySem.W.set_plain X J hs<|PySem.W.osa_open (s:={s with toks:=s.toks+1}) (r:=Ž) X J hp ht λb=>?_;have(cd,hc,oK):=PySem.W.any_some hh;have hx:s.heap.get? x=ž ⟨.ref C,ž dx,.plain,#[]⟩:=I.obj;refine qa<|qb<|qa<|qa<|wpAny_loadPart hx<|qa<|PySem.W.Looks.here (s:={s with toks:=s.toks+1}) (PySem.W.looks_clsIn X hc) ?_;rw[oK];refine qb (a:=ž dx)<|qa<|qb<|qa ?_;refine wpAny_nsSet1 (s:={s with toks:=s.toks+1}) I.ns λh' Df oH=>?_;have(oD,esD,epD,hoD,hdD,hcD):=Df.count (PySem.Within.cons name v hw);refine qa<|wpAny_lookBehind hoD (by rw[hdD];exact pastItsLine_dict<|qA hcD (by rw[qv];omega)) ?_;exact qb<|h _ ⟨(oH.2 _<|ī I.ne).trans I.obj,Df,I.ne⟩ oH
def ZH{R:ϟ->Qd->Prop}{vs:Qa Qc}{kw:Qa (Str×Qc)}(X:K.In s.heap)(hm:a1g K C=ż)
  (hi:ė K (.ref C) "__init__"=ž (ž<|.ref f)) (hf:PySem.W.typeIn K (.ref f)=ž (.type "function"))
  (h:a0q (Ĕ prog w) (A.under<|.builtin "type.__call__" ⟨.ref C::vs,kw⟩) (.call (.ref f) ⟨.ref (s.heap.objs.size+1)::vs,kw⟩) (PySem.W.InitBack (s.heap.objs.size+1) R)
   {s with heap:=(s.heap.push Ĺ).push (Ŝ C s.heap.objs.size)}):
  a0q (Ĕ prog w) A (.call (.ref C) ⟨vs,kw⟩) R s:=by
 have(hh,g,d,t,os):=s;exact PySem.W.make_core (PySem.W.makes_of X hm) (PySem.W.looks_findIn X hi) (λself=>PySem.W.bind_fn X self hf) (.inl rfl) h
end
noncomputable def iq(f:Str)(v:V):Qa (Str×V)->Qa (Str×V)
 |[]=>[(f,v)]
 | (g,x)::r=>if g=f then(g,v)::r else(g,x)::iq f v r
def Ob(f g:Str)(v:V):∀fs:Qa (Str×V),(iq f v fs).lookup g=if g=f then ž v else fs.lookup g
 |[]=>by
  show Ľ g [(f,v)]=_
  by_cases h:g=f
  .have hb:(g==f)=ż:=beq_iff_eq.mpr h
   simp only[Ľ,hb,a4b h]
  .have hb:(g==f)=Ż:=beq_eq_false_iff_ne.mpr h
   simp only[Ľ,hb,a4c h]
 | (k,x)::r=>by
  have ih:=Ob f g v r;rw[show iq f v ((k,x)::r)=(if k=f then(k,v)::r else(k,x)::iq f v r) from rfl]
  by_cases hk:k=f
  .rw[a4b hk]
   by_cases h:g=k
   .have hb:(g==k)=ż:=beq_iff_eq.mpr h
    simp only[Ľ,hb,a4b<|h.trans hk]
   .have hb:(g==k)=Ż:=beq_eq_false_iff_ne.mpr h
    simp only[Ľ,hb,a4c (λe:g=f=>h<|e.trans hk.symm)]
  .rw[a4c hk]
   by_cases h:g=k
   .have hb:(g==k)=ż:=beq_iff_eq.mpr h
    simp only[Ľ,hb,a4c (λe:g=f=>hk<|h.symm.trans e)]
   .have hb:(g==k)=Ż:=beq_eq_false_iff_ne.mpr h
    simp only[Ľ,hb];exact ih
def GP(f:Str)(v:V):∀fs:Qa (Str×V),f∈(iq f v fs).map (·.1)/\∀g,g∈fs.map (·.1)->g∈(iq f v fs).map (·.1)
 |[]=>⟨by simp[iq],λg h=>by simp at h⟩
 | (k,x)::r=>by
  have(i1,i2):=GP f v r;rw[show iq f v ((k,x)::r)=(if k=f then(k,v)::r else(k,x)::iq f v r) from rfl]
  by_cases hk:k=f
  .rw[a4b hk]
   subst hk;exact⟨by simp,λg h=>by simpa using h⟩
  .rw[a4c hk]
   refine⟨?_,λg h=>?_⟩
   .rw[Ċ]
    exact qp _ i1
   .rw[Ċ]at h ⊢
    rcases qw.mp h with e|e
    .exact qw.mpr (.inl e)
    .exact qp _ (i2 g e)
def Oa(f:Str)(v:V):∀fs:Qa (Str×V),(iq f v fs).length<=fs.length+1
 |[]=>by simp[iq]
 | (k,x)::r=>by
  have ih:=Oa f v r;rw[show iq f v ((k,x)::r)=(if k=f then(k,v)::r else(k,x)::iq f v r) from rfl]
  by_cases hk:k=f
  .rw[a4b hk,qv,qv];omega
  .rw[a4c hk,qv,qv];omega
def gM.some_of{v:V}{o:Qb Qc}(r:gM (ž v) o):∃u,o=ž u/\zT v u:=by
 cases o with
 |none=>exact(show False from r).elim
 |some u=>exact⟨u,rfl,r⟩
def gM.none_of{o:Qb Qc}(r:gM Ž o):o=Ž:=by
 cases o with
 |none=>rfl
 |some u=>exact(show False from r).elim
def zo6{v:V}{u:Qc}(r:zT v u):a3f u=ż:=by
 cases v with
 |aL=>cases(show u=Ħ from r);rfl
 |bl b=>cases(show u=a0z b from r);rfl
 |int i=>have(t,e):=(show ∃t,u=a1b i t from r);cases e;rfl
 |str x=>have(t,e):=(show ∃t,u=a1a x t from r);cases e;rfl
 |j0 b=>have(t,e):=(show ∃t,u=Value.bytes b t from r);cases e;rfl
 |uc b=>have(t,e):=(show ∃t,u=a2F b t from r);cases e;rfl
 |ref a=>cases(show u=Ĝ a from r);rfl
 |ty n=>cases(show u=a1H n from r);rfl
section
variable{P:Qe}{w:Qh}{K:qc}{H H':Hp}{h h':Ĭ}{a C dx:Qg}{fs fs':Qa (Str×V)}
def BU(aF:cq P w K H h)(e:H a=ž (.ins C dx fs)):∃mA,jz h a dx C mA/\(∀f,gM (fs.lookup f)<|mA f)/\a2q mA (fs.map (·.1))/\fs.length<=1000/\H dx=ž (.own a):=by
 have(d,z,ne,ob,mA,n,r,q):=(show zX P w K H h a (.ins C dx fs) from aF a _ e);exact⟨mA,⟨ob,n,ne⟩,r,q,z,d⟩
end
structure eY (K:qc) (C:Qg):Prop where
 pg:Ŷ K C a2u=ż
 hd:ϕ K C=ż
 po:Ϲ K C=ż
 sa:ė K (.ref C) "__setattr__"=ž (ž<|.builtin "object.__setattr__")
def eY.get{K:qc}{C:Qg}(c:eY K C)(f:Str):Ŷ K C f=ż:=c.pg
def gy(K:qc)(C:Qg)(f:Str):Prop:=ė K (.ref C) f=ž Ž
def gy.x8{K:qc}{C:Qg}{f:Str}(n:gy K C f):a1f K C f=ž Ž:=by
 unfold a1f;rw[show ė K (.ref C) f=ž Ž from n];rfl
structure uo (K:qc) (C:Qg) (m:Str) (f:Qg):Prop where
 at_:ė K (.ref C) m=ž (ž<|.ref f)
 fn:Ψ K (.ref f)=ż
 kp:ĸ K (.ref f)=ż
section
variable{X:Cx}{pins:Qa (Qg×Obj)}{σ:St}{H:Hp}{s:Qd}{a C dx:Qg}{fs:Qa (Str×V)}{f:Str}{v:V}{A:Qf}{E:Qc->Qd->Prop}
def zlW{b:Bool}{Q:Qc->Qd->Prop}(I:Inv X pins σ H s)(e:H a=ž (.ins C dx fs))(c:eY X.K C)(n:gy X.K C f)(l:fs.lookup f=ž v)
  (h:∀u s',Inv X pins σ H s'->zT v u->Q u s'):đ (Ĕ X.prog X.w) A (getAttr (.ref a) f b) Q E s:=by
 have(mA,O,r,_,_,_):=BU I.aF e;have(u,hu,ru):=gM.some_of (v:=v) (o:=mA f) (by rw[<-l];exact r f);exact Xg I.bZ O (c.get f) c.hd n hu (zo6 ru)<|h u _ (I.tok _) ru
def zlX{m:Str}{g:Qg}{pl:Sem Bool}{Q:Qc×Qa Qc->Qd->Prop}(I:Inv X pins σ H s)(e:H a=ž (.ins C dx fs))(c:eY X.K C)(k:uo X.K C m g)(l:fs.lookup m=Ž)
  (h:Q (.ref g,[.ref a]) s):đ (Ĕ X.prog X.w) A (getMethod (.ref a) m pl) Q E s:=by
 have(mA,O,r,_,_,_):=BU I.aF e;have hn:mA m=Ž:=gM.none_of (by rw[<-l];exact r m);exact ZI I.bZ O (c.get m) k.at_ k.fn hn h
def zlY{y:V}{u:Qc}{Q:Unit->Qd->Prop}(I:Inv X pins σ H s)(e:H a=ž (.ins C dx fs))(c:eY X.K C)(n:gy X.K C f)(hl:fs.length < 1000)(ry:zT y u)
  (h:∀s',Inv X pins σ (upd H a<|.ins C dx<|iq f y fs) s'->Q () s'):đ (Ĕ X.prog X.w) A (setAttr (.ref a) f u) Q E s:=by
 have(mA,O,r,wi,_,ho):=BU I.aF e;have hz:(fs.map (·.1)).length<=ċ:=by rw[ĉ,ϵ];omega
 refine Xf I.bZ O c.sa c.po n.x8 c.hd wi hz λh' O' sb=>h _ ?_;have hd:∃o,h'.get? dx=ž o:=let ⟨o,_,_,e',_⟩:=O'.ns;⟨o,e'⟩;refine I.write (x:=a) (e:=dx) (by rw[e];exact Ŗ) (.inr ho) (λb q hb z=>(sb.2 b hb).trans z) hd ?_;refine⟨by rw[zu O.ne];exact ho,?_,O.ne,O'.obj,_,O'.ns,λg=>?_,λg hg=>?_⟩
 .have:=Oa f y fs;omega
 .show gM ((iq f y fs).lookup g) (if g=f then ž u else mA g)
  rw[Ob]
  by_cases q:g=f
  .rw[a4b q,a4b q];exact ry
  .rw[a4c q,a4c q];exact r g
 .by_cases q:g=f
  .rw[q];exact(GP f y fs).1
  .refine(GP f y fs).2 g (wi g λz=>hg ?_)
   show(if g=f then ž u else mA g)=Ž;rw[a4c q];exact z
def Inv.made(I:Inv X pins σ H s):Inv X pins σ (upd (upd H s.heap.objs.size<|.own<|s.heap.objs.size+1) (s.heap.objs.size+1)<|.ins C s.heap.objs.size [])
  {s with heap:=(s.heap.push Ĺ).push (Ŝ C s.heap.objs.size)}:=by
 have e1:(s.heap.push Ĺ).get? s.heap.objs.size=ž Ĺ:=qg s.heap rfl;have e2:((s.heap.push Ĺ).push<|Ŝ C s.heap.objs.size).get? (s.heap.objs.size+1)=ž (Ŝ C s.heap.objs.size):=by
  have:=qg (s.heap.push Ĺ) (o:=Ŝ C s.heap.objs.size) rfl
  rwa[Ň]at this
 have e3:(s.heap.push Ĺ).Ns s.heap.objs.size (λ_=>Ž):=⟨Ĺ,#[],_,e1,rfl,(λe he=>absurd he (by simp)),λ_=>rfl⟩;have I1:=I.laid (a:=s.heap.objs.size) (o:=.own (s.heap.objs.size+1)) (h':=s.heap.push Ĺ) (t':=s.toks) (λb u q=>qd _ q) (qe _) ⟨_,e1⟩;refine I1.laid (a:=s.heap.objs.size+1) (o:=.ins C s.heap.objs.size []) (t':=s.toks) (λb u q=>qd _ q) (ì<|Ň _ _) ?_;have ne:s.heap.objs.size≠s.heap.objs.size+1:=qj (è _);refine⟨by rw[zu ne,zw],Ê _,ne,e2,λ_=>Ž,(Heap.Ns1.of_empty e3).at λo q=>qd _ q,λ_=>Ŗ,λy hy=>absurd rfl hy⟩
def Xe{prog:Qe}{w:Qh}{env:Env}{e:Ĥ}{f:Str}{pos:Pos}{s:Qd}{Q:Qc->Qd->Prop}(hb:Ť e f env (ŀ e env)=ŀ e env)
  (h:đ (Ĕ prog w) A (ŀ e env) (λo aJ=>đ (Ĕ prog w) A (getAttr o f ż) Q E aJ) E s):đ (Ĕ prog w) A (ŀ (.Attribute e f pos) env) Q E s :=
 Attribute_any_ h (by rw[arm_eval_Attribute,hb])
end
def wC(K:qc)(ta:TE)(f:Str):TE:=λσ H Q=>ta σ H λx H1=>∃a C dx fs v,x=.ref a/\H1 a=ž (.ins C dx fs)/\eY K C/\gy K C f/\fs.lookup f=ž v/\Q v H1
def wB(K:qc)(ta tv:TE)(f:Str):TS:=λD σ H=>tv σ H λy H1=>ta σ H1 λx H2=>∃a C dx fs,x=.ref a/\H2 a=ž (.ins C dx fs)/\eY K C/\gy K C f/\fs.length < 1000/\
 D.nx σ (upd H2 a<|.ins C dx<|iq f y fs)
section
variable{X:Cx}{o e value:Ĥ}{f:Str}{pos pos' pQ:Pos}{ta tv:TE}
def Le(he:PE X e ta)(hb:Ť e f X.env (ŀ e X.env)=ŀ e X.env):PE X (.Attribute e f pos) (wC X.K ta f):=by
 intro pins s σ H Q I h;refine Xe hb<|aI (he pins s σ H _ I h) λu s1 hZ=>?_;have(x,H1,I1,rx,a,C,dx,fs,v,ex,ea,c,n,l,q):=hZ;subst ex;obtain rfl:u=Ĝ a:=rx;exact zlW I1 ea c n l λu' s2 I2 ru=>⟨v,H1,I2,ru,q⟩
def TU(ha:PE X o ta)(hv:PE X value tv)(hs:ϣ value (ž<|.Attribute o f pos') pos.line X.env=pure Ż):PS X (.Assign [.Attribute o f pos'] value pos) (wB X.K ta tv f):=by
 intro pins s σ H D I h;refine plainObj_wpAny_Assign_Attribute (aI (hv pins s σ H _ I h) λu s1 ⟨y,H1,I1,ry,q⟩=>aI (ha pins s1 σ H1 _ I1 q) λov s2 hZ=>?_) hs;have(x,H2,I2,rx,a,C,dx,fs,ex,ea,c,n,l,q2):=hZ;subst ex;obtain rfl:ov=Ĝ a:=rx;exact zlY I2 ea c n l ry λs3 I3=>⟨σ,_,I3,q2⟩
end
section
variable{X:Cx}{pins:Qa (Qg×Obj)}{σ:St}{H:Hp}{s:Qd}{A:Qf}{E:Qc->Qd->Prop}{Q:Qc->Qd->Prop}{c:Qc}{b:Bool}
inductive dJ (K:qc) (H:Hp):V->Qc->Prop where
 |aL:dJ K H .aL (.type "NoneType")
 |bl (x:Bool):dJ K H (.bl x) (.type "bool")
 |int (i:Int):dJ K H (.int i) (.type "int")
 |str (x:Str):dJ K H (.str x) (.type "str")
 |uc (x:UInt64):dJ K H (.uc x) (.type "float")
 |lst {a:Qg} {xs:Qa V} (e:H a=ž (.lst xs)):dJ K H (.ref a) (.type "list")
 |aQ {a:Qg} {o:Obj} {xs:Qa V} (e:H a=ž (.aQ o<|.lst xs)):dJ K H (.ref a) (.type "list")
 |tup {a:Qg} {xs:Qa V} (e:bK K H a xs):dJ K H (.ref a) (.type "tuple")
 |dK {a:Qg} {ao:Qa (Key×V)} (e:H a=ž (.dK ao)):dJ K H (.ref a) (.type "dict")
 |dT {a:Qg} {ao:Qa (Qa Key×V)} (e:H a=ž (.dT ao)):dJ K H (.ref a) (.type "dict")
 |ins {a C dx:Qg} {fs:Qa (Str×V)} (e:H a=ž (.ins C dx fs)) (cl:eY K C) (ha:ė K (.ref C) "__class__"=ž (ž<|.builtin "object.__class__"))
   (hn:a0A K (.builtin "object.__class__") "__get__"=ž (ž<|.builtin "getset_descriptor.__get__")) (Q7:a1e K (.builtin "object.__class__")=ž ż)
   (hm:a1K K C (.type "object")=ž ż):dJ K H (.ref a) (.ref C)
def zo7{x:V}{u t:Qc}(I:Inv X pins σ H s)(rx:zT x u)(ty:dJ X.K H x t)(e:Ņ X.K t c=ž b)(h:∀tk,Q (.bool b) {s with toks:=tk}):
  đ (Ĕ X.prog X.w) A (call (.builtin "isinstance") [u,c]) Q E s:=by
 cases ty with
 |aL=>cases(show u=Ħ from rx);exact Ó PySem.W.kitx_none I.bZ Ŗ e (λz=>nomatch z) h
 |bl y=>cases(show u=a0z y from rx);exact Ó PySem.W.kitx_bool I.bZ Ŗ e (λz=>nomatch z) h
 |int i=>have(t,q):=(show ∃t,u=a1b i t from rx);cases q;exact Ó PySem.W.kitx_int I.bZ Ŗ e (λz=>nomatch z) h
 |str y=>have(t,q):=(show ∃t,u=a1a y t from rx);cases q;exact Ó PySem.W.kitx_str I.bZ Ŗ e (λz=>nomatch z) h
 |uc y=>have(t,q):=(show ∃t,u=a2F y t from rx);cases q;exact Ó PySem.W.kitx_float I.bZ Ŗ e (λz=>nomatch z) h
 | @lst a xs ea=>
  cases(show u=Ĝ a from rx);have(_,_,n,_,h1):=(show zX X.prog X.w X.K H s.heap a (.lst xs) from I.aF a _ ea);exact Ó a2Q I.bZ ⟨_,h1,rfl⟩ e (λz=>nomatch z) h
 | @aQ a ob xs ea=>
  cases(show u=Ĝ a from rx);have(_,_,_,n,_,h1):=(show zX X.prog X.w X.K H s.heap a (.aQ ob<|.lst xs) from I.aF a _ ea);exact Ó a2Q I.bZ ⟨_,h1,rfl⟩ e (λz=>nomatch z) h
 | @tup a xs ea=>
  cases(show u=Ĝ a from rx);rcases ea with ea|⟨o,aq,n,hk,hc,_⟩
  case inr=>exact Ó a2J I.bZ ⟨o,I.bZ a o hk,hc⟩ e (λz=>nomatch z) h
  have(_,_,_,p):=(show zX X.prog X.w X.K H s.heap a (.tup xs) from I.aF a _ ea);have(o,h1,h2,_):=p;exact Ó a2J I.bZ ⟨o,h1,h2⟩ e (λz=>nomatch z) h
 | @dK a ao ea=>
  cases(show u=Ĝ a from rx);have(_,_,vs,_,p):=(show zX X.prog X.w X.K H s.heap a (.dK ao) from I.aF a _ ea);have(o,es,ep,h1,h2,_):=p;exact Ó a2R I.bZ ⟨o,h1,h2.1⟩ e (λz=>nomatch z) h
 | @dT a ao ea=>
  cases(show u=Ĝ a from rx);have(_,_,xs,_,o,es,ep,h1,h2,_):=(show zX X.prog X.w X.K H s.heap a (.dT ao) from I.aF a _ ea);exact Ó a2R I.bZ ⟨o,h1,h2.1⟩ e (λz=>nomatch z) h
 | @ins a C dx fs ea cl ha hn Q7 hm=>
  cases(show u=Ĝ a from rx);have(mA,O,_):=BU I.aF ea;have(od,J,_):=O.look;exact Ó (PySem.W.kitx_own (cl.get _) cl.hd ha hn Q7 hm) I.bZ J e (λz=>nomatch z) h
end
structure aK (k:Nat) (A:Qf):Prop where
 hd:A.handled=Ž
 dp:A.depth+3 * k+5 < recursionLimit
 un:A.units+16 * k+200 < ϓ
 gd:A.guards=ž []
def aK.mono{j k:Nat}{A:Qf}(r:aK k A)(h:j<=k):aK j A:=⟨r.hd,by have:=r.dp;omega,by have:=r.un;omega,r.gd⟩
def aK.deeper{k:Nat}{A:Qf}(r:aK (k+1) A)(env:Env):aK k (A.deeper env):=
 ⟨r.hd,by have:=r.dp;show A.depth+1+3 * k+5 < _;omega,by have:=r.un;show A.units+3+16 * k+200 < _;omega,r.gd⟩
def zlZ{A:Qf}{C:Qg}{us:Qa Qc}{kw:Qa (Str×Qc)}:(A.under<|.builtin "type.__call__" ⟨.ref C::us,kw⟩).depth=A.depth+1:=by
 first|rfl|simp[a0J,Code.weight,Code.isCreation,Code.isGuard,Code.isCaller,Code.frames,a2w,guardIds]
def zl0{A:Qf}{C:Qg}{us:Qa Qc}{kw:Qa (Str×Qc)}:(A.under<|.builtin "type.__call__" ⟨.ref C::us,kw⟩).units=A.units+1:=by
 first|rfl|simp[a0J,Code.cUnits,Code.frames,a2w]
def aK.make{k:Nat}{A:Qf}(r:aK (k+1) A)(C:Qg)(us:Qa Qc)(kw:Qa (Str×Qc)):aK k (A.under<|.builtin "type.__call__" ⟨.ref C::us,kw⟩):=
 ⟨r.hd,by have:=r.dp;rw[zlZ];omega,by have:=r.un;rw[zl0];omega,by have:=r.gd;first|exact this|simpa [a0J,Code.isGuard,guardIds] using this⟩
def aK.depth{k:Nat}{A:Qf}(r:aK k A):A.depth < recursionLimit:=by have:=r.dp;omega
def aK.units{k:Nat}{A:Qf}(r:aK k A):A.units+64 < ϓ:=by have:=r.un;omega
def kg:TA:=λ_ H Q=>Q [] H
def kl(ta:TE)(tr:TA):TA:=λσ H Q=>ta σ H λx H1=>tr σ H1 λxs H2=>Q (x::xs) H2
section
variable{X:Cx}{e:Ĥ}{es:Qa Ĥ}{te:TE}{t:TA}{pos:Pos}
def TR:PA X [] kg:=λ_ _ _ _ H Q I h=>a3s ⟨[],H,I,.nil,h⟩
def Xd(ha:PE X e te)(hr:PA X es t)(hs:ĭ (e::es) X.env=(Ż,ŀ e X.env)::ĭ es X.env:=by rfl):PA X (e::es) (kl te t):=by
 intro pos pins s σ H Q I h;rw[hs];show đ _ _ (spliced<|(Ż,ŀ e X.env)::Ϩ pos (ĭ es X.env)) _ _ s;refine a0C<|aI (ha pins s σ H _ I h) λu s1 hZ=>?_;have(x,H1,I1,r1,q1):=hZ;exact aI (hr pos pins s1 σ H1 _ I1 q1) λus s2 ⟨xs,H2,I2,r2,q2⟩=>⟨x::xs,H2,I2,.cons r1 r2,q2⟩
def DW(t:TA):TE:=λσ H Q=>t σ H λxs H1=>xs.length<=ċ/\∀p,H1 p=Ž->Q (.ref p) (upd H1 p<|.tup xs)
def Aq(t:TA):TE:=λσ H Q=>t σ H λxs H1=>xs.length<=ċ/\∀p,H1 p=Ž->Q (.ref p) (upd H1 p<|.lst xs)
def TQ{x1}(h:PA X es t):PE X (.Tuple es x1 pos) (DW t):=by
 intro pins s σ H Q I hq;refine wpAny_Tuple_spliced<|aI (h pos pins s σ H _ I hq) λus s1 ⟨xs,H1,I1,r,z,q⟩=>⟨by rw[<-r.length];exact z,?_⟩;have hf:H1 s1.heap.objs.size=Ž:=I1.aF.fresh (qe _);refine⟨.ref s1.heap.objs.size,upd H1 s1.heap.objs.size<|.tup xs,I1.laid (t':=s1.toks) (λb u e=>qd _ e) (qe _) ?_,rfl,q _ hf⟩;exact⟨z,us,r,⟨_,qg _ rfl,rfl,⟨_,rfl⟩,.inl rfl⟩⟩
def TN(h:PA X es t):PE X (.List es pos) (Aq t):=by
 intro pins s σ H Q I hq;refine wpAny_List_spliced<|aI (h pos pins s σ H _ I hq) λus s1 ⟨xs,H1,I1,r,z,q⟩=>⟨by rw[<-r.length];exact z,?_⟩;have hf:H1 s1.heap.objs.size=Ž:=I1.aF.fresh (qe _);refine⟨.ref s1.heap.objs.size,upd H1 s1.heap.objs.size<|.lst xs,I1.laid (t':=s1.toks) (λb u e=>qd _ e) (qe _) ?_,rfl,q _ hf⟩;exact⟨z,us,0,r,qg _ rfl⟩
end
abbrev Sp:=Qa V->Hp->VK->XK->Prop
abbrev j9:=Qa Env->Hp->Qd->XK->Qc->Qd->Prop
structure jB (P:Qe) (w:Qh) (K:qc) (mg:Str->Qb Qc) (base:Ĭ) (A:Qf) (outer:Qa Env) (s:Qd) (H:Hp):Prop where
 frames:A.frames=ž outer
 mod:Mod K mg base
 bs:∀b o,base.get? b=ž o->s.heap.get? b=ž o/\H b=Ž
 oR:base.objs.size<=s.heap.objs.size
 eA:s.heap.FunFrames base outer
 rV:∀b∈kQ outer,H b=Ž
 aF:cq P w K H s.heap
 bare:ο s.gens
def CE(outer:Qa Env)(P:Qe)(w:Qh)(K:qc)(H:Hp)(s:Qd)(Q:VK)(u:Qc)(s':Qd):Prop :=
 ∃v H',s'.os=s.os/\ο s'.gens/\Un (kQ outer) [] H H' s.heap s'.heap/\cq P w K H' s'.heap/\zT v u/\Q v H'
def CR(CX:j9)(outer:Qa Env)(P:Qe)(w:Qh)(K:qc)(H:Hp)(s:Qd)(Q:VK)(E:XK)(r:ϟ)(s':Qd):Prop :=
 match r with
 |.ok (.ret u)=>CE outer P w K H s Q u s'
 |.ok _=>False
 |.error e=>CX outer H s E e s'
structure cI (P:Qe) (w:Qh) (K:qc) (mg:Str->Qb Qc) (base:Ĭ) (CX:j9) (k:Nat) (f:Qg) (fd:Š) (ps:Qa Str) (sp:Sp):Prop where
 len:∀vs H Q E,sp vs H Q E->vs.length=ps.length
 run:∀(A:Qf) (outer:Qa Env) (s:Qd) (H:Hp) (args:Args) (us:Qa Qc) (vs:Qa V) (Q:VK) (E:XK),aK k A->jB P w K mg base A outer s H->a2x s fd args (ps.zip us)->zV vs us->sp vs H Q E->
  a0q (Ĕ P w) A (.call (.ref f) args) (CR CX outer P w K H s Q E) s
def jB.make{P:Qe}{w:Qh}{K:qc}{mg:Str->Qb Qc}{base:Ĭ}{A:Qf}{outer:Qa Env}{s:Qd}{H:Hp}(e:jB P w K mg base A outer s H)(C:Qg)(us:Qa Qc)(kw:Qa (Str×Qc)):
  jB P w K mg base (A.under<|.builtin "type.__call__" ⟨.ref C::us,kw⟩) outer s H:=⟨by first|exact e.frames | (simpa [a0J,Code.envs,a2w,pushEnvs] using e.frames),e.mod,e.bs,e.oR,e.eA,e.rV,e.aF,e.bare⟩
section
variable{X:Cx}{pins:Qa (Qg×Obj)}{σ:St}{H:Hp}{s s':Qd}
def Inv.yS(I:Inv X pins σ H s):jB X.prog X.w X.K X.mg X.base X.A X.stack s H :=
 ⟨I.ok.frames,I.ok.mod,I.bs,qA I.ok.oR I.sz,I.stack,I.jS,I.aF,I.bare⟩
def Inv.after{Q:VK}{u:Qc}(I:Inv X pins σ H s)(h:CE X.stack X.prog X.w X.K H s Q u s'):EP X pins σ Q u s':=by
 have(v,H',os,bare,un,aF,r,q):=h;have(hh,g,d,t,CM):=s';obtain rfl:CM=s.os:=os;exact⟨v,H',I.call (h':=hh) (g':=g) (d':=d) (t':=t) (ch:=[]) un aF bare (λb z=>absurd z (by simp)),r,q⟩
end
def zAx(sp:Sp)(dvs:Qa V)(E:XK)(t:TA):TE:=λσ H Q=>t σ H λvs H1=>sp (vs++dvs) H1 Q E
def J9(C:Qg)(sp:Sp)(dvs:Qa V)(E:XK)(t:TA):TE:=λσ H Q=>t σ H λvs H1=>∀x dx,H1 x=Ž->H1 dx=Ž->dx≠x->
 sp (.ref x::(vs++dvs)) (upd (upd H1 dx<|.own x) x<|.ins C dx []) (λv H2=>v=.aL/\Q (.ref x) H2) E
def mD(K:qc)(fd:Š)(ps:Qa Str)(ds:Qa Qc):Prop :=
 ∀(s:Qd) (us:Qa Qc),K.In s.heap->(us++ds).length=ps.length->a2x s fd ⟨us,[]⟩ (ps.zip<|us++ds)
def mD.all{K:qc}{fd:Š}{ps:Qa Str}(h:∀us:Qa Qc,us.length=ps.length->a2D fd ⟨us,[]⟩=pure (ps.zip us)):mD K fd ps []:=λs us _ hl=>by
 rw[ş]at hl ⊢;exact .of_eq<|h us hl
def xk(CX:j9)(X:Cx)(E:XK):Prop:=∀(pins:Qa (Qg×Obj)) (σ:St) (H:Hp) (s:Qd) (e:Qc) (s':Qd),Inv X pins σ H s->CX X.stack H s E e s'->X.xe e s'
section
variable{X:Cx}{CX:j9}{k:Nat}{f C:Qg}{fd:Š}{ps:Qa Str}{sp:Sp}{dvs:Qa V}{ds:Qa Qc}{E:XK}{x m:Str}{p pos apos:Pos}{e o:Ĥ}{es:Qa Ĥ}{ta:TE}{t:TA}
def Ld{pins:Qa (Qg×Obj)}{σ:St}{H:Hp}{s:Qd}{Q:VK}{us:Qa Qc}{vs:Qa V}(F:cI X.prog X.w X.K X.mg X.base CX k f fd ps sp)(hr:aK k X.A)(hb:mD X.K fd ps ds)(hd:zV dvs ds)(hx:xk CX X E)
  (I:Inv X pins σ H s) (r:zV vs us) (h:sp (vs++dvs) H Q E):đ (Ĕ X.prog X.w) X.A (call (.ref f) us) (EP X pins σ Q) X.xe s:=by
 have r2:zV (vs++dvs) (us++ds):=r.append hd;have hl:(us++ds).length=ps.length:=by rw[<-r2.length];exact F.len _ _ _ _ h
 refine wpAny_call<|a1F (F.run X.A X.stack s H ⟨us,[]⟩ (us++ds) (vs++dvs) Q E hr I.yS (hb s us I.bZ hl) r2 h) λr s' hq=>?_;cases r with
 |error e=>exact hx pins σ H s e s' I hq
 |ok fl=>
  cases fl with
  |ret u=>exact I.after hq
  |next=>exact ŕ hq
  |brk=>exact ŕ hq
  |cont=>exact ŕ hq
def Xc(F:cI X.prog X.w X.K X.mg X.base CX k f fd ps sp)(hr:aK k X.A)(hg:Gl X x)(hm:X.mg x=ž (.ref f))(hk:ĸ X.K (.ref f)=ż)(hb:mD X.K fd ps ds)(hd:zV dvs ds)(hx:xk CX X E)
  (ha:PA X (e::es) t) (fY:(x==("__debug__":Str))=Ż:=by decide) (he:ĭ (e::es) X.env=(Ż,ŀ e X.env)::ĭ es X.env:=by rfl) (fB:(Ϩ pos<|ĭ es X.env).any (·.1)=Ż:=by rfl):
  PE X (.Call (.Name x p) (e::es) [] pos) (zAx sp dvs E t):=by
 intro pins s σ H Q I h;refine Χ<|F3 I hg hm ?_ fY;refine a2K (h₀:=X.base) I.ok.mod.eK hk (aI (ha pos pins s σ H _ I h) λus s1 ⟨vs,H1,I1,r,q⟩=>⟨I1.bZ,?_⟩) he fB;exact Ld F hr hb hd hx I1 r q
structure Mk (K:qc) (C f:Qg):Prop where
 makes:a1g K C=ż
 init:ė K (.ref C) "__init__"=ž (ž<|.ref f)
 fn:Ψ K (.ref f)=ż
 kp:ĸ K (.ref C)=ż
def ZG{pins:Qa (Qg×Obj)}{σ:St}{H:Hp}{s:Qd}{Q:VK}{us:Qa Qc}{vs:Qa V}(M:Mk X.K C f)(F:cI X.prog X.w X.K X.mg X.base CX k f fd ps sp)(hr:aK (k+1) X.A)(hb:mD X.K fd ps ds)(hd:zV dvs ds)
  (hx:xk CX X E) (I:Inv X pins σ H s) (r:zV vs us)
  (h:∀x dx,H x=Ž->H dx=Ž->dx≠x->sp (.ref x::(vs++dvs)) (upd (upd H dx<|.own x) x<|.ins C dx []) (λv H2=>v=.aL/\Q (.ref x) H2) E):
  đ (Ĕ X.prog X.w) X.A (call (.ref C) us) (EP X pins σ Q) X.xe s:=by
 have hq:=h (s.heap.objs.size+1) s.heap.objs.size (I.aF.fresh<|Ð _) (I.aF.fresh<|qe _) (qj<|è _);have I2:=Inv.made (C:=C) I;have r2:zV (V.ref (s.heap.objs.size+1)::(vs++dvs)) (Ĝ (s.heap.objs.size+1)::(us++ds)):=.cons rfl (r.append hd);have hl:(Ĝ (s.heap.objs.size+1)::us++ds).length=ps.length:=by
  have e:=r2.length;rw[F.len _ _ _ _ hq]at e;exact e.symm
 refine wpAny_call<|ZH (f:=f) I.bZ M.makes M.init (beq_iff_eq.mp M.fn)<|a1F (F.run _ X.stack _ _ ⟨Ĝ (s.heap.objs.size+1)::us,[]⟩ (Ĝ (s.heap.objs.size+1)::(us++ds)) _ _ E (hr.make C us [])
  (I2.yS.make C us []) (hb _ (Ĝ (s.heap.objs.size+1)::us) I2.bZ hl) r2 hq) λr s' p4=>?_
 cases r with
 |error e=>exact hx pins σ _ _ e s' I2 p4
 |ok fl=>
  cases fl with
  |ret u=>
   have(v,H',I3,rv,ev,q3):=I2.after p4;subst ev;exact⟨rv,⟨V.ref<|s.heap.objs.size+1,H',I3,rfl,q3⟩⟩
  |next=>exact ŕ p4
  |brk=>exact ŕ p4
  |cont=>exact ŕ p4
def ZF(M:Mk X.K C f)(F:cI X.prog X.w X.K X.mg X.base CX k f fd ps sp)(hr:aK (k+1) X.A)(hg:Gl X x)(hm:X.mg x=ž (.ref C))(hb:mD X.K fd ps ds)(hd:zV dvs ds)(hx:xk CX X E)
  (fY:(x==("__debug__":Str))=Ż:=by decide):PE X (.Call (.Name x p) [] [] pos) (J9 C sp dvs E kg):=by
 intro pins s σ H Q I h;refine Χ<|F3 I hg hm ?_ fY;exact PySem.W.callWith_K0 I.bZ M.kp<|ZG (us:=[]) M F hr hb hd hx I .nil h
end
structure bH (N P:Qa Str) (sc:a1I):Prop where
 kind:sc.kind=.function
 co:sc.isCoroutine=Ż
 gen:sc.isGenerator=Ż
 nd:N.Nodup
 pre:N.take P.length=P
 par:∀x∈P,sc.names.lookup x=ž .local\/sc.names.lookup x=ž .cell
 tP:∀y∈sc.names,y.2≠.free
def NK{Α:Str->Qb ϩ}{x:Str}:∀{binds:Qa (Str×Qc)} {m:Str->Qb Qc},(∀v,(x,v)∉binds)->bindL Α binds m x=m x
 |[],_,_=>rfl
 | (n,v)::r,m,h=>by
  unfold bindL;rw[NK λw hw=>h w<|qp _ hw];split
  .have:x≠n:=by rintro rfl;exact h v qq
   simp[this]
  .rfl
def NJ{Α:Str->Qb ϩ}{x:Str}:∀{binds:Qa (Str×Qc)} {m:Str->Qb Qc},(∀v,(x,v)∉binds)->bindC Α binds m x=m x
 |[],_,_=>rfl
 | (n,v)::r,m,h=>by
  unfold bindC;rw[NJ λw hw=>h w<|qp _ hw];split
  .rfl
  .have:x≠n:=by rintro rfl;exact h v qq
   simp[this]
def NH{Α:Str->Qb ϩ}{x:Str}{v:Qc}:∀{P:Qa Str} {vs:Qa Qc} {i:Nat} {m:Str->Qb Qc},P.Nodup->P[i]?=ž x->vs[i]?=ž v->Α x=ž .local->
  bindL Α (P.zip vs) m x=ž v
 |[],_,_,_,_,h,_,_=>by simp at h
 |_::_,[],_,_,_,_,h,_=>by simp at h
 |p::P,w::vs,0,m,nd,h1,h2,hk=>by
  simp at h1 h2;subst h1;subst h2;show bindL Α ((p,w)::P.zip vs) m p=_;unfold bindL;rw[NK λv hv=>(List.nodup_cons.mp nd).1 (a1x hv).1,a4b hk];simp
 |p::P,w::vs,i+1,m,nd,h1,h2,hk=>by
  show bindL Α ((p,w)::P.zip vs) m x=_;unfold bindL;exact NH (i:=i) (List.nodup_cons.mp nd).2 (by simpa using h1) (by simpa using h2) hk
def NG{Α:Str->Qb ϩ}{x:Str}{v:Qc}:∀{P:Qa Str} {vs:Qa Qc} {i:Nat} {m:Str->Qb Qc},P.Nodup->P[i]?=ž x->vs[i]?=ž v->Α x≠ž .local->
  bindC Α (P.zip vs) m x=ž v
 |[],_,_,_,_,h,_,_=>by simp at h
 |_::_,[],_,_,_,_,h,_=>by simp at h
 |p::P,w::vs,0,m,nd,h1,h2,hk=>by
  simp at h1 h2;subst h1;subst h2;show bindC Α ((p,w)::P.zip vs) m p=_;unfold bindC;rw[NJ λv hv=>(List.nodup_cons.mp nd).1 (a1x hv).1,a4c hk];simp
 |p::P,w::vs,i+1,m,nd,h1,h2,hk=>by
  show bindC Α ((p,w)::P.zip vs) m x=_;unfold bindC;exact NG (i:=i) (List.nodup_cons.mp nd).2 (by simpa using h1) (by simpa using h2) hk
noncomputable def gN(N:Qa Str)(vs:Qa V):St:=vs.map ž++Đ (N.length - vs.length) Ž
noncomputable def nN(CX:j9)(P:Qe)(w:Qh)(K:qc)(mg:Str->Qb Qc)(base:Ĭ)(N:Qa Str)(qual:Str)(scope:a1I)(f:Qg)(cd:Qc)(A:Qf)(outer:Qa Env)(s:Qd)(H:Hp)(E:XK):Cx where
 prog:=P
 w:=w
 K:=K
 mg:=mg
 base:=base
 A:=A.deeper (ς qual scope s.heap.objs.size f cd)
 N:=N
 bB:=s
 H₀:=H
 env:=ς qual scope s.heap.objs.size f cd
 outer:=outer
 stack:=ς qual scope s.heap.objs.size f cd::outer
 ex:=[]
 calm:=ż
 fn:=λ_=>ż
 pn:=[]
 xe:=λe s'=>đ (Ĕ P w) (A.deeper<|ς qual scope s.heap.objs.size f cd) (leaving (ς qual scope s.heap.objs.size f cd) e) (λ_ CK=>CX outer H s E e CK) (λe' CK=>CX outer H s E e' CK) s'
def MZ{sc:a1I}{n:Nat}{x:Str}(h:sc.names.lookup x=ž .cell):∃c,(ĥ n sc.names []).lookup x=ž c:=by
 have q:=a1W sc.names n [] (.inl h);exact Option.isSome_iff_exists.mp q
def zo8{CX:j9}{P:Qe}{w:Qh}{K:qc}{mg:Str->Qb Qc}{base:Ĭ}{N ps:Qa Str}{qual:Str}{scope:a1I}{f:Qg}{cd:Qc}{A:Qf}{outer:Qa Env}{s s1:Qd}{H:Hp}{E:XK}{us:Qa Qc}{vs:Qa V}
  (S:bH N ps scope) (hd:A.handled=Ž) (e0:jB P w K mg base A outer s H) (hl:vs.length=ps.length) (r:zV vs us)
  (x:InCallC s s.heap.objs.size (bindL (ς qual scope s.heap.objs.size f cd).kindOf (ps.zip us) λ_=>Ž) (ĥ (s.heap.objs.size+1) scope.names []) (bindC (ς qual scope s.heap.objs.size f cd).kindOf (ps.zip us) λ_=>Ž) s1):
  Inv (nN CX P w K mg base N qual scope f cd A outer s H E) [] (gN N vs) H s1:=by
 have fB:ps.length<=N.length:=by have:=congrArg a1t S.pre;rw[ě]at this;omega
 have(h1,tk,rfl,hk):=x.done;have yj:∀b:Qg,b∉(nN CX P w K mg base N qual scope f cd A outer s H E).ex:=λb z=>absurd (show b∈([]:Qa Qg) from z) (by simp);refine⟨⟨e0.mod,S.kind,rfl,rfl,qe _,λy z c h1 h2=>?_,λy hy=>?_,λy c _ h=>?_,λ_=>hd,Around.frames_deeper e0.frames,.inr ⟨rfl,rfl⟩,λb z=>absurd z<|yj b,e0.bs,e0.oR,λb _ _=>yj b,λb z=>absurd z<|yj b,e0.eA,e0.rV⟩,
  rfl,e0.bare,Un.kept hk,⟨_,x.toInCall.ns,λi y v h1 h2 h3=>?_⟩,λy c h=>⟨_,x.cell y c h⟩,e0.aF.fresh<|qe _,λy c h=>?_,λp hp=>absurd (show p∈([]:Qa (Qg×Obj)) from hp) (by simp),e0.aF.kept hk,?_⟩
 .exact name_of_addr x.apart (ô h1) (ô h2)
 .have hy:scope.names.lookup y=ž .cell\/scope.names.lookup y=ž .free:=hy
  rcases hy with hy|hy
  .exact MZ hy
  .exact absurd rfl (S.tP _<|ô hy)
 .exact Ý (x.above y c<|ô h)
 .have hi:i < vs.length:=by
   unfold gN at h2
   by_cases hi:i < vs.length
   .exact hi
   .rw[Ď (by simpa using hi)]at h2
    rw[Į]at h2;split at h2<;>cases h2
  have ha:vs[i]?=ž v:=by
   unfold gN at h2;rw[č (by simpa using hi),Č]at h2;cases e:vs[i]? with
   |none=>rw[e]at h2;cases h2
   |some a=>rw[e]at h2;cases h2;rfl
  have(u,hu,rv):=r.get ha;have hp:ps[i]?=ž y:=by
   rw[<-S.pre,List.getElem?_take_of_lt (by omega)];exact h1
  have QP:ps.Nodup:=by rw[<-S.pre];exact S.nd.sublist<|List.take_sublist _ _
  refine⟨u,rv,?_⟩;rcases S.par y (Ñ hp)with k|k
  .exact .inl ⟨k,NH QP hp hu k⟩
  .have(c,e):=MZ (n:=s.heap.objs.size+1) k
   refine .inr ⟨.inl k,c,e,?_⟩;have q:=x.cell y c e;rw[NG QP hp hu (by show scope.names.lookup y≠_;rw[k];decide)]at q;exact q
 .exact e0.aF.fresh (Ý<|x.above y c<|ô h)
 .unfold gN
  show _=N.length;rw[qu,ĉ,ę];omega
def zAy{CX:j9}{P:Qe}{w:Qh}{K:qc}{mg:Str->Qb Qc}{base:Ĭ}{k:Nat}{f:Qg}{name qual:Str}{params:Arguments}{body:Qa ķ}{scope:a1I}{dV kV doc pm bt ct oc:Qc}{an od:Qb Qg}
  {oE:Array (Qb Qc)} {N ps:Qa Str} {sp:Sp} (lk:K.lookup f=ž ⟨oc,od,.func<|ł name qual params body scope dV kV doc pm an bt ct,oE⟩) (kN:ϖ K bt qual=ż) (S:bH N ps scope)
  (len:∀vs H Q E,sp vs H Q E->vs.length=ps.length)
  (cb:∀(A:Qf) (outer:Qa Env) (s:Qd) (H:Hp) (vs:Qa V) (Q:VK) (E:XK),aK k (A.deeper<|ς qual scope s.heap.objs.size f bt)->sp vs H Q E->
   ∃t,eX (nN CX P w K mg base N qual scope f bt A outer s H E) body t/\t {nx:=λ_ H'=>Q .aL H',rt:=Q} (gN N vs) H):
  cI P w K mg base CX (k+1) f (ł name qual params body scope dV kV doc pm an bt ct) ps sp:=by
 refine⟨len,λA outer s H args us vs Q E hr e0 hb r nh=>?_⟩;have hl:=len _ _ _ _ nh;have KX:K.In s.heap:=e0.mod.eK.keeps λb o e=>(e0.bs b o e).1;have lim:s.heap.NoLimit:=e0.mod.nolimit.keeps λb o e=>(e0.bs b o e).1;have yF:∀y∈ps.zip us,scope.names.lookup y.1=ž .local\/(scope.names.lookup y.1=ž .cell/\((ĥ (s.heap.objs.size+1) scope.names []).lookup y.1).isSome=ż):=λ⟨n,v⟩ hy=>by
  rcases S.par n (a1x hy).1 with q|q
  .exact .inl q
  .exact .inr ⟨q,a1W _ _ _<|.inl q⟩
 refine codeAny_call_function hr.depth (KX _ _ lk) rfl S.co S.gen rfl (PySem.W.codeRec_of KX kN)<|hb _ _ _ _ ?_;refine wpAny_newFunctionEnv_cells S.kind yF λenv he s1 x=>?_;subst he;refine⟨lim.keeps x.toInCall.keep,codeAny_func ?_⟩;have(t,ht,hq):=cb A outer s H vs Q E (hr.deeper _) nh;have I:Inv (nN CX P w K mg base N qual scope f bt A outer s H E) [] (gN N vs) H s1:=zo8 S hr.hd e0 hl r x;refine ľ (ht [] s1 (gN N vs) H _ I hq) (λfl s' hs=>?_) λe s' hs=>hs;have fin:∀{aG:St} {H':Hp} {v:V} {u:Qc},Inv (nN CX P w K mg base N qual scope f bt A outer s H E) [] aG H' s'->zT v u->Q v H'->CE outer P w K H s Q u s' :=
  λ{aG H' v u} J rv q=>⟨v,H',J.os,J.bare,J.base,J.aF,rv,q⟩
 cases fl with
 |ret u=>
  have(v,aG,H',J,rv,q):=hs;exact fin J rv q
 |next=>
  have(aG,H',J,q):=hs;exact fin (v:=V.aL) (u:=Ħ) J rfl q
 |brk=>
  have(_,_,_,q):=hs;exact ŕ q
 |cont=>
  have(_,_,_,q):=hs;exact ŕ q
section
variable{X:Cx}{x:Str}{p pos:Pos}{e:Ĥ}{es:Qa Ĥ}{t:TA}{id T:String}{r:Qa V->Hp->VK->Prop}
def pS(r:Qa V->Hp->VK->Prop)(t:TA):TE:=λσ H Q=>t σ H λvs H1=>r vs H1 Q
def ZE(hc:gO X (.builtin id) r)(hg:Gl X x)(hm:X.mg x=Ž)(hv:ř x=ž (.builtin id))(ha:PA X (e::es) t)(hn:x ≠ "__name__":=by decide)(fY:(x==("__debug__":Str))=Ż:=by decide)
  (he:ĭ (e::es) X.env=(Ż,ŀ e X.env)::ĭ es X.env:=by rfl) (fB:(Ϩ pos<|ĭ es X.env).any (·.1)=Ż:=by rfl):PE X (.Call (.Name x p) (e::es) [] pos) (pS r t):=by
 intro pins s σ H Q I h;refine Χ<|rf I hg hm hv ?_ hn fY;exact PyProof.Rows.callWith_builtin1 (aI (ha pos pins s σ H _ I h) λus s1 ⟨vs,H1,I1,r1,q1⟩=>hc pins s1 σ H1 vs us Q I1 r1 q1) he fB
def zo9(hc:gO X (.type T) r)(hg:Gl X x)(hm:X.mg x=Ž)(hv:ř x=ž (.type T))(ha:PA X (e::es) t)(hn:x ≠ "__name__":=by decide)(fY:(x==("__debug__":Str))=Ż:=by decide)
  (he:ĭ (e::es) X.env=(Ż,ŀ e X.env)::ĭ es X.env:=by rfl) (fB:(Ϩ pos<|ĭ es X.env).any (·.1)=Ż:=by rfl):PE X (.Call (.Name x p) (e::es) [] pos) (pS r t):=by
 intro pins s σ H Q I h;refine Χ<|rf I hg hm hv ?_ hn fY;exact Ø (aI (ha pos pins s σ H _ I h) λus s1 ⟨vs,H1,I1,r1,q1⟩=>hc pins s1 σ H1 vs us Q I1 r1 q1) he fB
end
end Internal
variable{E:Internal.Qc->Internal.Qd->Prop}{K:Internal.qc}{H:Internal.Hp}{pins:Internal.Qa (Internal.Qg×Obj)}{i:Nat}{A:Internal.Qf}{n:Nat}{σ:Internal.St}{α:Type}{a:Internal.Qg}{js:Internal.Qa Nat}{prog:Internal.Qe}{pn:Internal.Qa Nat}{nt:Nat}{e:Ĥ}{x:Str}{p:Array Nat}{H':Internal.Hp}{es:Array a2c}{v:Internal.V}{ao:Internal.Qa (Internal.Qa Internal.Key×Internal.V)}{Q:Internal.Qc->Internal.Qd->Prop}{vs:Internal.Qa (Str×Internal.V)}{j:Nat}{b:Int}{f:Str}{te:Internal.TE}{cl:Internal.Qa (Str×Internal.Qg)}{r:Internal.Qa Internal.V->Internal.Hp->Internal.VK->Prop}{c:Str}{fd:Š}{P:Internal.Qe}{elts:Internal.Qa Ĥ}{o:Ĥ}{h:Ĭ}{mg:Str->Internal.Qb Internal.Qc}{st:ķ}{os:Internal.Qa (Internal.Qb Nat)}{ta:Internal.TE}{u:Internal.Qc}{tg:Ĥ}{ns:Internal.Qa Int}{β:Type}{a₀:Array Κ}{T:String}{scope:a1I}{it:Internal.Qg}{pQ:Pos}{N:Internal.Qa Str}{tab:Internal.Qa (Str×Internal.Qa Str)}{y:Int}{sp:Internal.Sp}{m ep:Nat}{κ:SortKind}{g:Internal.TG}{dx:Internal.Qg}{G most:Nat}{apos:Pos}{aA:a2G}{td tv:Internal.TE}{ifs:Internal.Qa Ĥ}{tt:Internal.TT}{H₀:Internal.Hp}{us:Internal.Qa Internal.Qc}{pos':Pos}{oE:Array (Internal.Qb Internal.Qc)}{tb ty:Internal.TE}{av:Internal.St}{aC:Internal.Hp}{hs:Internal.Qa Nat}{bq:Pos}{h':Ĭ}{env:Env}{iter:Ĥ}{hi:Internal.Qb Ĥ}{cmp:Nat->Nat->(Bool->Internal.Qd->Prop)->Internal.Qd->Prop}{qual:Str}{tn:Nat->Ĭ->Prop}{l:PySem.W.OpenLaw}{value elt:Ĥ}{wi:Internal.TI}{J:Type}{key:Internal.Qa Internal.K3}
namespace HT
open PySem PyProof.Rows
noncomputable def bp:List Int->List Int->Bool
 |[],[]=>Ż
 |[],_::_=>ż
 |_::_,[]=>Ż
 |x::xs,y::ys=>if x=y then bp xs ys else decide (x < y)
def zl1(x y:Int)(xs ys:List Int):bp (x::xs) (y::ys)=if x=y then bp xs ys else decide (x < y):=rfl
def zij:bp [] []=Ż:=rfl
def zhs(y:Int)(ys:List Int):bp [] (y::ys)=ż:=rfl
def zht(x:Int)(xs:List Int):bp (x::xs) []=Ż:=rfl
def ZD(A:a2P)(s:Ϗ)(a:Int)(t:Tok)(c:Int)(u:Tok):∃e,a3b A s (.int a t) (.int c u) e/\(e=ż↔a=c):=
 ⟨(a==c),a2g a t c u,by simp⟩
def ZC(A:a2P)(s:Ϗ)(a:Int)(t:Tok)(c:Int)(u:Tok)(prog:a1L)(w:World)(E:ŵ->Ϗ->Prop)(Q:ŵ->Ϗ->Prop)(h:Q (.bool<|decide<|a < c) s):
  đ (Ĕ prog w) A (richCompare .Lt (.int a t)<|.int c u) Q E s :=
 (PyProof.Rows.lt_int h:đ (Ĕ prog w) A (ĩ .Lt (.int a t)<|.int c u) Q E s)
section
open PySem.SeqAt
open PySem.AutoSeq1 (wpAny_loadPart')
open PySem.MeetsSeq PySem.MeetsSeq2 PySem.MeetsSeq3
def zik(l b:Addr)(items bJ:Array ŵ)(n n2:Nat)(dd Jc:Option Addr)(sl Hu:Array (Option ŵ))(ns ms:List Int)(hi:ϝ items.toList ns)(hj:ϝ bJ.toList ms):
  Meets (Builtin.«tuple.__lt__» ⟨[.ref l,.ref b],[]⟩)
   (λ_ R s=>s.heap.get? l=ž {cls:=.type "tuple",dict:=dd,data:=.seq items n,slots:=sl}/\s.heap.get? b=ž {cls:=.type "tuple",dict:=Jc,data:=.seq bJ n2,slots:=Hu}/\
    R (.ok<|.ret<|.bool<|bp ns ms) s):=
 .of_wp λprog w A R s h=>by
  have(hp,g,d,tk,os):=s;have(hl,hb,h):=h;have f2:=AutoSeq1.sub_tuple_tuple;have z1:items.size=ns.length:=by rw[<-hi.length];simp
  have z2:bJ.size=ms.length:=by rw[<-hj.length];simp
  wp_walk using wpAny_loadPart' hl,wpAny_loadPart' hb,a0f _ (λrest b s'=>b.1=Ž/\s'=⟨hp,g,d,tk,os⟩/\∃(vs ws:List ŵ) (lR vB:List Int),rest=vs.zip ws/\
   ϝ vs lR/\ϝ ws vB/\lR.length+bJ.size=vB.length+items.size/\R (.ok<|.ret<|.bool<|bp lR vB) ⟨hp,g,d,tk,os⟩) _
  case turn=>
   rintro⟨y,x⟩ rest b s' ⟨dh,rfl,vs,ws,lR,vB,hz,Io,Dc,hlen,hR⟩;cases Io with
   |nil=>rw[List.zip_nil_left]at hz;cases hz
   |cons a t Im=>
    cases Dc with
    |nil=>rw[List.zip_nil_right]at hz;cases hz
    |cons c u Ik=>
     rw[a0H]at hz;injection hz with hyx yz;injection hyx with hy hx;subst hy hx;rw[zl1]at hR;simp only[Ω]at hlen;have(e,he,yJ):=ZD A.in1 ⟨hp,g,d,tk,os⟩ a t c u;refine ğ<|he prog w _ _ ?_;cases e with
     |true=>
      rw[a4b<|yJ.mp rfl]at hR
      wp_walk
      exact⟨rfl,rfl,_,_,_,_,yz,Im,Ik,by omega,hR⟩
     |false=>
      rw[a4c λq=>absurd (yJ.mpr q) a3t]at hR;have hri:=ZC A.in1 ⟨hp,g,d,tk,os⟩ a t c u prog w
      wp_walk using hri
      exact⟨_,rfl,by simpa using hR⟩
  case fin=>
   rintro⟨b1,b2⟩ s' ⟨dh,rfl,vs,ws,lR,vB,hz,Io,Dc,hlen,hR⟩;simp only at dh;subst dh;have hv:bp lR vB=decide (items.size < bJ.size):=by
    cases Io with
    |nil=>
     cases Dc with
     |nil=>
      simp only[Ŋ]at hlen;rw[zij];exact(a4e (by omega)).symm
     |cons c u hw=>
      simp only[Ŋ,Ω]at hlen;rw[zhs];exact(a4d (by omega)).symm
    |cons a t hv=>
     cases Dc with
     |nil=>
      simp only[Ŋ,Ω]at hlen;rw[zht];exact(a4e (by omega)).symm
     |cons c u hw=>
      rw[a0H]at hz;cases hz
   rw[hv]at hR
   wp_walk
   exact⟨_,rfl,by simpa [Builtin.Tuple.tupleCompareSizes] using hR⟩
  case h=>
   exact⟨rfl,rfl,items.toList,bJ.toList,ns,ms,rfl,hi,hj,by omega,h⟩
end
section
variable{prog:a1L} {w:World} {A:a2P} {E:ŵ->Ϗ->Prop} {s:Ϗ}
def jq{l b:Addr}{items bJ:Array ŵ}{ns ms:List Int}{Q:ŵ->Ϗ->Prop}(hl:IsTup s.heap l items)(hb:IsTup s.heap b bJ)(hi:ϝ items.toList ns)(hj:ϝ bJ.toList ms)
  (hu:A.units < ϓ) (h:Q (.bool<|bp ns ms) s):đ (Ĕ prog w) A (ĩ .Lt (.ref l)<|.ref b) Q E s:=by
 obtain⟨⟨cls,dd,data,sl⟩,ho,hc,n,hd⟩:=id hl;obtain⟨⟨cls2,Jc,data2,Hu⟩,Rb,Dg,n2,hd2⟩:=id hb;simp only at hc hd Dg hd2;subst hc hd Dg hd2;exact richCompare_meets_room (op:=.Lt) ⟨_,ho,rfl⟩ ⟨_,Rb,rfl⟩ PySem.F.slot_tuple_lt PySem.F.entry_tuple_lt (PySem.F.args_tuple_lt_2 _ _) (zik l b items bJ n n2 dd Jc sl Hu ns ms hi hj)
  ⟨ho,Rb,show a0z (bp ns ms)≠Value.notImplemented/\Q (.bool<|bp ns ms) s from⟨(λx=>nomatch x),h⟩⟩ hu
noncomputable def aW(n d:Nat):Option Int->Nat
 |none=>d
 |some v=>if v < 0 then(v+(n:Int)).toNat else min v.toNat n
def pT(n d k:Nat):aW n d (ž (k:Int))=min k n:=by
 show(if(k:Int) < 0 then((k:Int)+(n:Int)).toNat else min (k:Int).toNat n)=min k n;rw[a4c (by omega),į]
def TM(n d:Nat)(hd:d<=n)(o:Option Int):aW n d o<=n:=by
 cases o with
 |none=>exact hd
 |some v=>
  show(if v < 0 then(v+(n:Int)).toNat else min v.toNat n)<=n
  by_cases hv:v < 0
  .rw[a4b hv];omega
  .rw[a4c hv];exact Nat.min_le_right _ _
def Ms(v:Int)(n d:Nat):(if v < 0 then max (v+(n:Int)) 0 else min v (n:Int))=((aW n d (ž v):Nat):Int):=by
 show(if v < 0 then max (v+(n:Int)) 0 else min v (n:Int))=(((if v < 0 then(v+(n:Int)).toNat else min v.toNat n):Nat):Int)
 by_cases hv:v < 0
 .simp only[a4b hv];omega
 .simp only[a4c hv];omega
def zl2(lo hi:Option Int)(n:Nat):Ϫ lo hi 1 (n:Int)=(((aW n 0 lo:Nat):Int),((aW n n hi:Nat):Int)):=by
 have h1:¬((1:Int) < 0):=by omega
 unfold Ϫ;simp only[h1,if_false];refine Prod.ext ?_ ?_
 .cases lo with
  |none=>rfl
  |some v=>exact Ms v n 0
 .cases hi with
  |none=>rfl
  |some v=>exact Ms v n n
def zl3(i j:Nat):Ŭ (i:Int) (j:Int) 1=j - i:=by
 unfold Ŭ;have h1:(1:Int) > 0:=by omega
 simp only[h1,if_true,Int.ediv_one];split<;>omega
def NR{v:ŵ}{o:Option Int}{Q:Option Int->Ϗ->Prop}(p:Ε v o)(h:Q o s):đ (Ĕ prog w) A (Builtin.Slice.slicePartIndex v) Q E s:=by
 cases p with
 |none=>exact slicePart_none h
 |int i t=>exact slicePart_int h
def Pj{sl:Addr}{vl vu:ŵ}{lo hi:Option Int}{n:Nat}{Q:Int×Int×Nat->Ϗ->Prop}(hs:s.heap.IsSliceOf sl vl vu .none)(pl:Ε vl lo)(pu:Ε vu hi)
  (h:Q (((aW n 0 lo:Nat):Int),1,aW n n hi - aW n 0 lo) s):đ (Ĕ prog w) A (a0D (.ref sl)<|pure (n:Int)) Q E s:=by
 have(os,ju,vN,lW):=id hs;unfold a0D Builtin.Slice.sliceFields;refine ğ<|ğ<|Ń ju lW (x:=vl) rfl<|ğ<|Ń ju lW (x:=vu) rfl<|ğ<|Ń ju lW (x:=.none) rfl<|Ĵ ?_;refine ğ<|slicePart_none ?_;show đ _ _ (if((1:Int)==0)=ż then _ else _) _ _ s;rw[a4c (by decide)];refine ğ<|NR pl<|ğ<|NR pu<|ğ<|Ĵ ?_;show đ _ _ (match Ϫ lo hi 1 (n:Int)with | (lo,hi)=>pure (lo,(1:Int),Ŭ lo hi 1)) _ _ s;rw[zl2 lo hi n];show đ _ _ (pure (((aW n 0 lo:Nat):Int),(1:Int),Ŭ ((aW n 0 lo:Nat):Int) ((aW n n hi:Nat):Int) 1)) _ _ s;rw[zl3];exact Ĵ h
def ZA(xs:Array ŵ)(i k:Nat):((Ğ k).filterMap λ(m:Nat)=>xs[((i:Int)+(m:Int) * 1).toNat]?).toArray=((xs.toList.drop i).take k).toArray:=by
 have e:(λ(m:Nat)=>xs[((i:Int)+(m:Int) * 1).toNat]?)=λm=>xs[i+m]?:=by
  funext m
  have:((i:Int)+(m:Int) * 1).toNat=i+m:=by omega
  rw[this]
 rw[e];have:=pick_run xs i k;rw[List.filterMap_map]at this;have e2:((λx=>xs[x]?) ∘ λx=>i+x)=λm=>xs[i+m]?:=rfl;rw[e2]at this;rw[this]
def dG{t sl:Addr}{items:Array ŵ}{vl vu:ŵ}{lo hi:Option Int}{Q:ŵ->Ϗ->Prop}(ht:IsTup s.heap t items)(hs:s.heap.IsSliceOf sl vl vu .none)(pl:Ε vl lo)(pu:Ε vu hi)
  (hw:¬(aW items.size 0 lo=0/\aW items.size items.size hi=items.size))
  (h:Q (.ref s.heap.objs.size) {s with heap:=s.heap.push {cls:=.type "tuple",data:=.seq ((items.toList.drop<|aW items.size 0 lo).take<|aW items.size items.size hi - aW items.size 0 lo).toArray}})
  (hsz:items.size<=ċ):đ (Ĕ prog w) A (Μ (.ref t)<|.ref sl) Q E s:=by
 have jW:sizeOk (.seq ((items.toList.drop<|aW items.size 0 lo).take<|aW items.size items.size hi - aW items.size 0 lo).toArray):=by
  show((items.toList.drop<|aW items.size 0 lo).take<|aW items.size items.size hi - aW items.size 0 lo).toArray.size<=ċ;rw[ď,ě,ſ,ŏ];omega
 have hj:aW items.size items.size hi<=items.size:=TM _ _ (Nat.le_refl _) hi;have(os,ju,vN,lW):=id hs;have vP:s.TypeIs (.ref sl) "slice":=⟨os,ju,vN⟩;unfold Μ
 try with_reducible refine Ķ ?_
 first|refine ğ (Ĵ ?_) |skip
 refine ğ<|a1C ht.typeIs (by decide) ?_;refine ğ (ĺ (name:=Ţ "__getitem__") ht.typeIs Ś
  (İ Ś ht.typeIs entry_tuple_getitem ?_<|args_tuple_getitem _ _))
 show đ _ _ (Ϥ (.ref t) >>= _) _ _ s;refine ğ<|tupleItemsOf_ ht ?_;refine ğ<|a0m vP ?_;rw[a4b (by decide)];refine ğ<|Pj hs pl pu ?_;have hno:¬((((aW items.size 0 lo:Nat):Int)==0 && (1:Int)==1 && (aW items.size items.size hi - aW items.size 0 lo)==items.size)=ż):=by
  intro q;rw[ġ,ġ]at q;have q1:((aW items.size 0 lo:Nat):Int)=0:=eq_of_beq q.1.1;have q2:aW items.size items.size hi - aW items.size 0 lo=items.size:=eq_of_beq q.2;exact hw ⟨by omega,by omega⟩
 show đ _ _ (if(((aW items.size 0 lo:Nat):Int)==0 && (1:Int)==1 && (aW items.size items.size hi - aW items.size 0 lo)==items.size)=ż then _ else _) _ _ s;rw[a4c hno,ZA]
 first
  |exact ğ (m:=ų _)<|Ϧ (Ĵ ⟨_,rfl,Ĵ h⟩) jW
  |exact ğ (m:=ų _)<|Ϧ (ğ<|Ĵ<|Ĵ ⟨_,rfl,Ĵ h⟩) jW
  |exact ğ<|ğ (m:=ų _)<|Ϧ (Ĵ<|Ĵ ⟨_,rfl,Ĵ h⟩) jW
  |exact ğ<|ğ (m:=ų _)<|Ϧ (Ĵ ⟨_,rfl,Ĵ h⟩) jW
end
end HT
namespace Internal
open PySem PySem.Spec PyProof.Rows
abbrev TO:=St->Hp->(Qb Int->Hp->Prop)->Prop
def PO(X:Cx)(e:Qb Ĥ)(t:TO):Prop :=
 ∀(pins:Qa (Qg×Obj)) (s:Qd) (σ:St) (H:Hp) (Q:Qb Int->Hp->Prop),Inv X pins σ H s->t σ H Q->
  đ (Ĕ X.prog X.w) X.A (evalPart e X.env) (λu s'=>∃o H',Inv X pins σ H' s'/\Ε u o/\Q o H') X.xe s
def F0:TO:=λ_ H Q=>Q Ž H
def ER(t:TE):TO:=λσ H Q=>t σ H λx H1=>∃i,x=.int i/\Q (ž i) H1
def NQ:∀{us:Qa Qc},zV (ns.map V.int) us->ϝ us ns:=by
 induction ns with
 |nil=>intro us r;rw[ı]at r;cases r;exact .nil
 |cons n ns ih=>
  intro us r;rw[Ċ]at r;cases r with
  |cons r1 r2=>
   have(t,e):=r1;subst e;exact .cons n t<|ih r2
section
variable{X:Cx}{lo:Qb Ĥ}{tl th:TO}{pos p2:Pos}
def Xb:PO X Ž F0:=by
 intro pins s σ H Q I h;rw[a2Y];exact qb ⟨Ž,H,I,.none,h⟩
def Xa(h:PE X e te):PO X (ž e) (ER te):=by
 intro pins s σ H Q I hw;rw[evalPart_some];refine aI (h pins s σ H _ I hw) λu s1 hZ=>?_;have(x,H1,I1,r1,q1):=hZ;have(i,rfl,q):=q1;have(t,rfl):=r1;exact⟨ž i,H1,I1,.int i t,q⟩
def vZ(X:Cx)(r:V->Qb Int->Qb Int->Hp->VK->Prop):Prop :=
 ∀(pins:Qa (Qg×Obj)) (s:Qd) (σ:St) (H:Hp) (x:V) (v vl vu:Qc) (lo hi:Qb Int) (sl:Qg) (Q:VK),Inv X pins σ H s->zT x v->s.heap.IsSliceOf sl vl vu .none->Ε vl lo->Ε vu hi->r x lo hi H Q->
  ∃T id,typeLookup (.type T) "__getitem__"=pure (ž<|.builtin id)/\s.TypeIs v T/\đ (Ĕ X.prog X.w) X.A (Μ v<|.ref sl) (EP X pins σ Q) X.xe s
def Hl(r:V->Qb Int->Qb Int->Hp->VK->Prop)(te:TE)(tl th:TO):TE:=λσ H Q=>te σ H λx H1=>tl σ H1 λl H2=>th σ H2 λu H3=>r x l u H3 Q
def Zz{r:V->Qb Int->Qb Int->Hp->VK->Prop}(hr:vZ X r)(he:PE X e te)(hl:PO X lo tl)(hu:PO X hi th):PE X (.Subscript e (.Slice lo hi Ž p2) pos) (Hl r te tl th):=by
 intro pins s σ H Q I h;refine Subscript_<|aI (he pins s σ H _ I h) λv s1 hZ=>?_;have(x,H1,I1,r1,q1):=hZ;refine wpAny_Slice<|aI (hl pins s1 σ H1 _ I1 q1) λvl s2 ⟨l,H2,I2,pl,q2⟩=>aI (hu pins s2 σ H2 _ I2 q2) λvu s3 hZ=>?_;have(u,H3,I3,pu,q3):=hZ;rw[a2Y];refine qb ?_;have I4:Inv X pins σ H3 {s3 with heap:=s3.heap.push {cls:=.type "slice",data:=.fields #[vl,vu,.none]}}:=I3.kept (t':=s3.toks) λb ob q=>qd _ q;have(T,id,hT,ht,hg):=hr pins {s3 with heap:=s3.heap.push {cls:=.type "slice",data:=.fields #[vl,vu,.none]}} σ H3 x v vl vu l u s3.heap.objs.size Q I4 r1 (a1z ..) pl pu q3;show đ (Ĕ X.prog X.w) X.A (a2W e (.Slice lo hi Ž p2) v<|.ref s3.heap.objs.size) (EP X pins σ Q) X.xe {s3 with heap:=s3.heap.push {cls:=.type "slice",data:=.fields #[vl,vu,.none]}};exact tail_any (ops:=[.ref s3.heap.objs.size,v]) ht hT hg (by with_unfolding_all rfl)
def k9(xs:Qa V)(lo hi:Qb Int):Qa V:=(xs.drop<|HT.aW xs.length 0 lo).take (HT.aW xs.length xs.length hi - HT.aW xs.length 0 lo)
def N9(xs:Qa V)(lo hi:Qb Int):(k9 xs lo hi).length<=xs.length:=by
 unfold k9;rw[ě,ſ];omega
def zCH(K:qc):V->Qb Int->Qb Int->Hp->VK->Prop:=λx lo hi H Q=>∃a xs,x=.ref a/\cH K H a xs/\
 ¬(HT.aW xs.length 0 lo=0/\HT.aW xs.length xs.length hi=xs.length)/\∀p,H p=Ž->Q (.ref p) (upd H p<|.tup<|k9 xs lo hi)
def TL:vZ X (zCH X.K):=by
 intro pins s σ H x v vl vu lo hi sl Q I rx hs pl pu h;have(a,xs,rfl,hx,hw,q):=h;cases rx;have(aq,r,ht,hz):=I.tuple hx;have hlen:aq.toArray.size=xs.length:=by rw[ď];exact r.length.symm
 refine⟨"tuple",_,PyProof.Rows.slot_tuple_getitem.lookup,ht.typeIs,?_⟩;refine HT.dG ht hs pl pu (by rw[hlen];exact hw) ?_ (by rw[hlen];exact hz);rw[hlen];refine⟨.ref s.heap.objs.size,_,I.laid (t':=s.toks) (o:=.tup (k9 xs lo hi)) (λb ob q=>qd _ q) (qe _) ?_,rfl,q _<|I.aF.fresh<|qe _⟩;exact⟨qA (N9 xs lo hi) hz,_,(r.drop<|HT.aW xs.length 0 lo).take<|HT.aW xs.length xs.length hi - HT.aW xs.length 0 lo,pG.new _ _⟩
def zCI(K:qc):R2:=λx y H Q=>∃a b ns ms,x=.ref a/\y=.ref b/\cH K H a (ns.map V.int)/\cH K H b (ms.map V.int)/\Q (.bl<|HT.bp ns ms) H
def TK(hu:X.A.units < ϓ):cp X (ĩ .Lt) (zCI X.K):=by
 intro pins s σ H x y v u Q I rx ry h;have(a,b,ns,ms,rfl,rfl,ha,hb,q):=h;cases rx;cases ry;have(aq,r1,p1,_):=I.tuple ha;have(jt,r2,p2,_):=I.tuple hb;have i1:ϝ aq.toArray.toList ns:=NQ r1;have i2:ϝ jt.toArray.toList ms:=NQ r2;exact HT.jq p1 p2 i1 i2 hu ⟨.bl<|HT.bp ns ms,H,I,rfl,q⟩
end
noncomputable def fA(n:Nat)(i:Int):Qb Nat:=if 0<=i then(if i < n then ž i.toNat else Ž)else if -(n:Int)<=i then ž (i+n).toNat else Ž
def bf(xs:Qa α)(i:Int):Qb α:=(fA xs.length i).bind λj=>xs[j]?
def Mr{i:Int}(h:fA n i=ž j):seqIndex? i n=ž j/\j < n/\-(n:Int)<=i/\i < n:=by
 unfold fA at h
 by_cases h0:0<=i
 .rw[a4b h0]at h
  by_cases h1:i < n
  .rw[a4b h1]at h
   have e:i.toNat=j:=qy h;exact⟨by rw[seqIndex_of h0 h1,e],by omega,by omega,h1⟩
  .rw[a4c h1]at h;cases h
 .rw[a4c h0]at h
  by_cases h1:-(n:Int)<=i
  .rw[a4b h1]at h
   have e:(i+n).toNat=j:=qy h;exact⟨by rw[a3z (by omega) h1,e],by omega,h1,by omega⟩
  .rw[a4c h1]at h;cases h
def FZ{xs:Qa α}{i:Int}{v:α}(h:bf xs i=ž v):∃j,seqIndex? i xs.length=ž j/\xs[j]?=ž v/\j < xs.length/\-(xs.length:Int)<=i/\i < xs.length:=by
 unfold bf at h;cases e:fA xs.length i with
 |none=>rw[e]at h;cases h
 |some j=>
  rw[e]at h;have(h1,h2,h3,h4):=Mr e;exact⟨j,h1,h,h2,h3,h4⟩
def jJ{xs:Qa α}{v:α}(h:xs[j]?=ž v):bf xs (j:Int)=ž v:=by
 have hj:j < xs.length:=(qm.mp h).1;have e:fA xs.length (j:Int)=ž j:=by
  unfold fA;rw[a4b (by omega),a4b (by omega)];simp
 unfold bf;rw[e];exact h
def Mq(b:Ĥ):Prop:=∀o i,a2d b Ż o i=operate [o,i] (Μ o i)
def qJ(X:Cx)(r:R2):Prop :=
 ∀(value slice:Ĥ) (pins:Qa (Qg×Obj)) (s:Qd) (σ:St) (H:Hp) (x y:V) (v u:Qc) (Q:VK),Inv X pins σ H s->zT x v->zT y u->r x y H Q->
  a2d slice Ż v u=operate [v,u] (Μ v u)->đ (Ĕ X.prog X.w) X.A (a2W value slice v u) (EP X pins σ Q) X.xe s
def MtR(X:Cx)(id:String)(r:V->Qa V->Hp->VK->Prop):Prop :=
 ∀(pins:Qa (Qg×Obj)) (s:Qd) (σ:St) (H:Hp) (x:V) (xs:Qa V) (v:Qc) (us:Qa Qc) (Q:VK),Inv X pins σ H s->zT x v->zV xs us->r x xs H Q->
  đ (Ĕ X.prog X.w) X.A (call (.builtin id)<|v::us) (EP X pins σ Q) X.xe s
section
variable{X:Cx}{a b:Ĥ}{pos:Pos}
def zAz{r:R2}(hr:qJ X r)(ha:PE X a ta)(hb:PE X b tb)(hs:Mq b):PE X (.Subscript a b pos) (lM r ta tb):=by
 intro pins s σ H Q I h;exact Subscript_<|DZ ha hb I h λv u s2 x y H2 I2 rx ry q=>hr a b pins s2 σ H2 x y v u Q I2 rx ry q<|hs _ _
def Ap(K:qc):R2:=λx y H Q=>∃p xs i v,x=.ref p/\y=.int i/\bE K H p xs/\bf xs i=ž v/\Q v H
def DU(K:qc):R2:=λx y H Q=>∃p xs i v,x=.ref p/\y=.int i/\cH K H p xs/\bf xs i=ž v/\Q v H
def Ql:R2:=λx y H Q=>∃z i c,x=.str z/\y=.int i/\z.length<=ċ/\bf z.cps.toList i=ž c/\Q (.str ⟨#[c]⟩) H
def W9:qJ X (Ap X.K):=by
 intro value slice pins s σ H x y v u Q I rx ry h hs;have(p,xs,i,z,rfl,rfl,hq,he,q):=h;cases rx;have(t,rfl):=ry;have(aq,r,pl,hz):=I.list hq;have(j,h1,h2,h3,h4,h5):=FZ he;have(w,ew,iH):=r.get h2;have hl:=r.length;have hn:=uV;have fin:EP X pins σ Q w s:=⟨z,H,I,iH,q⟩
 by_cases h0:0<=i
 .have hj:i.toNat=j:=by
   rw[seqIndex_of h0 h5]at h1;exact qy h1
  exact item_listR pl.isList h0 (by omega) (by rw[hj];simpa using ew) fin hs
 .have hj:(i+(aq.toArray.size:Int)).toNat=j:=by
   rw[a3z (by omega) h4]at h1;rw[ď,<-hl];exact qy h1
  exact a3y (x:=w) pl.isList.typeIs slot_list_getitem.lookup
   (wpAny_getItem_list_neg (Q:=λr s'=>r=w/\EP X pins σ Q r s') pl.isList (by omega) (by rw[ď]<;>omega) (by omega) (by rw[hj];simpa using ew) ⟨rfl,fin⟩) hs
def TJ:qJ X (DU X.K):=by
 intro value slice pins s σ H x y v u Q I rx ry h hs;have(p,xs,i,z,rfl,rfl,hq,he,q):=h;cases rx;have(t,rfl):=ry;have(aq,r,pl,hz):=I.tuple hq;have(j,h1,h2,h3,h4,h5):=FZ he;have(w,ew,iH):=r.get h2;have hl:=r.length;have hn:=uV;have fin:EP X pins σ Q w s:=⟨z,H,I,iH,q⟩;exact a3y (x:=w) pl.typeIs slot_tuple_getitem.lookup
  (getItem_tuple (j:=j) (Q:=λr s'=>r=w/\EP X pins σ Q r s') pl (by omega) (by omega) (by rw[ď,<-hl];exact h1) (by simpa using ew) ⟨rfl,fin⟩) hs
def FG:qJ X Ql:=by
 intro value slice pins s σ H x y v u Q I rx ry h hs;have(z,i,c,rfl,rfl,hz,he,q):=h;have(t,rfl):=rx;have(t',rfl):=ry;have(j,h1,h2,h3,h4,h5):=FZ he;have hl:z.cps.toList.length=z.length:=by simp[Str.length]
 rw[hl]at h1 h4 h5;have hn:=uV;exact tail_any (typeIs_str s z t) slot_str_getitem.lookup (getItem_str (c:=c) (by
  have e1:decide (i < -(2^63:Int))=Ż:=a4e (by omega);have e2:decide (i>=2^63)=Ż:=a4e (by omega);rw[e1,e2,Bool.or_false]) (by rw[h1];simpa using h2) ⟨.str ⟨#[c]⟩,H,I.tok _,⟨_,rfl⟩,q⟩) hs
def zl5(aq:Qa Qc)(n j:Nat)(u:Qc):ō (·.setIfInBounds j u) {cls:=.type "list",data:=.seq aq.toArray n}={cls:=.type "list",data:=.seq (aq.set j u).toArray n}:=by
 simp[ō]
def Inv.lst{s:Qd}{p:Qg}{xs:Qa V}(I:Inv X pins σ H s)(h:H p=ž (.lst xs)):
  ∃(aq:Qa Qc) (n:Nat),zV xs aq/\s.heap.get? p=ž {cls:=.type "list",data:=.seq aq.toArray n}/\xs.length<=ċ:=by
 have(z,aq,n,r,e):=I.aF p _ h;exact⟨aq,n,r,e,z⟩
def Inv.tS{s:Qd}{p:Qg}{xs ys:Qa V}{aq its':Qa Qc}{n':Nat}{f:Obj->Obj}(I:Inv X pins σ H s)(h:H p=ž (.lst xs))
  (ho:s.heap.get? p=ž {cls:=.type "list",data:=.seq aq.toArray n}) (hf:f {cls:=.type "list",data:=.seq aq.toArray n}={cls:=.type "list",data:=.seq its'.toArray n'}) (r:zV ys its') (hz:ys.length<=ċ) (t:Nat):
  Inv X pins σ (upd H p<|.lst ys) {s with heap:=s.heap.update p f,toks:=t}:=by
 have e:(s.heap.update p f).get? p=ž {cls:=.type "list",data:=.seq its'.toArray n'}:=by
  rw[a0e f ho (by rw[hf]<;>rfl),hf]
 refine I.write (x:=p) (e:=p) (by rw[h];trivial) (.inl rfl) (λb u hb q=>(ù _ _<|ī hb).trans q) ⟨_,e⟩ ?_;exact⟨hz,its',n',r,e⟩
def J8:V->V->V->Hp->(Hp->Prop)->Prop:=λo i v H Q=>∃p xs k j,o=.ref p/\i=.int k/\H p=ž (.lst xs)/\fA xs.length k=ž j/\Q (upd H p<|.lst<|xs.set j v)
def lI:D3 X J8:=by
 intro pins s σ H o i v ov iv u Q I ro ri rv h;have(p,xs,k,j,rfl,rfl,hp,hj,q):=h;cases ro;have(t,rfl):=ri;have(aq,n,r,ho,hz):=I.lst hp;have(h1,h2,h3,h4):=Mr hj;have hl:=r.length;have hn:=uV;have I':Inv X pins σ (upd H p<|.lst<|xs.set j v) {s with heap:=s.heap.update p (ō (·.setIfInBounds j u))}:=
  I.tS hp ho (zl5 aq n j u) (r.set rv j) (by rw[ĕ];exact hz) s.toks
 by_cases h0:0<=k
 .have hk:k.toNat=j:=by
   rw[seqIndex_of h0 h4]at h1;exact qy h1
  exact PySem.W.ki_setAt ho h0 (by omega) (by rw[ď,<-hl];exact h4) (by rw[hk];exact⟨_,I',q⟩)
 .have hk:(k+(aq.toArray.size:Int)).toNat=j:=by
   rw[a3z (by omega) h3]at h1;rw[ď,<-hl];exact qy h1
  exact PySem.W.ki_setBack ho (by omega) (by rw[ď,<-hl];exact h3) (by omega) (by rw[hk];exact⟨_,I',q⟩)
def zjm(lo hi:Qb Int)(n:Nat):(ύ lo hi Ž n).1=((HT.aW n 0 lo:Nat):Int)/\(ύ lo hi Ž n).2.1=((HT.aW n n hi:Nat):Int)/\(ύ lo hi Ž n).2.2=1:=by
 refine⟨?_,?_,rfl⟩
 .cases lo with
  |none=>simp[ύ,HT.aW]
  |some i=>
   simp only[ύ,HT.aW,a0W,show(1:Int) > 0 by decide,if_true]
   by_cases h:i < 0
   .simp only[h,if_true]<;>omega
   .simp only[h,if_false]<;>omega
 .cases hi with
  |none=>simp[ύ,HT.aW]
  |some i=>
   simp only[ύ,HT.aW,a0W,show(1:Int) > 0 by decide,if_true]
   by_cases h:i < 0
   .simp only[h,if_true]<;>omega
   .simp only[h,if_false]<;>omega
def zil(aq:Qa Qc)(lo hi:Qb Int):slicePick aq.toArray lo hi Ž=((aq.drop<|HT.aW aq.length 0 lo).take<|HT.aW aq.length aq.length hi - HT.aW aq.length 0 lo).toArray:=by
 have(h1,h2,h3):=zjm lo hi aq.toArray.size;unfold slicePick;rw[h1,h2,h3];simp only[sliceRange_one,pick_run,ď]<;>rfl
def D9(K:qc):V->Qb Int->Qb Int->Hp->VK->Prop:=λx lo hi H Q=>∃a xs,x=.ref a/\bE K H a xs/\∀p,H p=Ž->Q (.ref p) (upd H p<|.lst<|k9 xs lo hi)
def W8:vZ X (D9 X.K):=by
 intro pins s σ H x v vl vu lo hi sl Q I rx hs pl pu h;have(a,xs,rfl,hx,q):=h;cases rx;have(aq,r,ht,hz):=I.list hx;have hlen:=r.length;refine⟨"list",_,slot_list_getitem.lookup,ht.isList.typeIs,?_⟩;refine wpAny_getItem_list_slice ht.isList hs pl pu .none (by simp) ?_ (by rw[ď]<;>omega);rw[zil,<-hlen];refine⟨.ref s.heap.objs.size,_,I.laid (t':=s.toks) (o:=.lst (k9 xs lo hi)) (λb ob q=>qd _ q) (qe _) ?_,rfl,q _<|I.aF.fresh<|qe _⟩;exact⟨qA (N9 xs lo hi) hz,_,0,(r.drop<|HT.aW xs.length 0 lo).take<|HT.aW xs.length xs.length hi - HT.aW xs.length 0 lo,qg _ rfl⟩
noncomputable def lA:V->Bool
 |.aL=>ż
 |.bl _=>ż
 |.int _=>ż
 |.str _=>ż
 |_=>Ż
def rX:V->V->Bool
 |.aL,.aL=>ż
 |.bl a,.bl b=>a==b
 |.bl a,.int b=>(if a then 1 else 0)==b
 |.int a,.bl b=>a==(if b then 1 else 0)
 |.int a,.int b=>a==b
 |.str a,.str b=>a==b
 |_,_=>Ż
def Us{s:Qd}{y x:V}{v:Qc}(ry:zT y u)(rx:zT x v)(fy:lA y=ż)(fx:lA x=ż):a3b A s u v (rX y x):=by
 cases y with
 |aL=>
  cases ry;cases x with
  |aL=>cases rx;exact a2H _
  |bl b=>cases rx;exact SeqAt.EqAt.none_bool b
  |int b=>have(t,rfl):=rx;exact SeqAt.EqAt.none_int b t
  |str b=>have(t,rfl):=rx;exact SeqAt.EqAt.none_str b t
  |_=>exact absurd (show Ż=ż from fx) qf
 |bl a=>
  cases ry;cases x with
  |aL=>cases rx;exact SeqAt.EqAt.bool_none a
  |bl b=>cases rx;exact SeqAt.EqAt.bool_bool a b
  |int b=>have(t,rfl):=rx;exact SeqAt.EqAt.bool_int a b t
  |str b=>have(t,rfl):=rx;exact SeqAt.EqAt.bool_str a b t
  |_=>exact absurd (show Ż=ż from fx) qf
 |int a=>
  have(t',rfl):=ry;cases x with
  |aL=>cases rx;exact SeqAt.EqAt.int_none a t'
  |bl b=>cases rx;exact SeqAt.EqAt.int_bool a t' b
  |int b=>have(t,rfl):=rx;exact a2g a t' b t
  |str b=>have(t,rfl):=rx;exact a2f a t' b t
  |_=>exact absurd (show Ż=ż from fx) qf
 |str a=>
  have(t',rfl):=ry;cases x with
  |aL=>cases rx;exact SeqAt.EqAt.str_none a t'
  |bl b=>cases rx;exact SeqAt.EqAt.str_bool a t' b
  |int b=>have(t,rfl):=rx;exact a2e a t' b t
  |str b=>have(t,rfl):=rx;exact SeqAt.EqAt.str_str a t' b t
  |_=>exact absurd (show Ż=ż from fx) qf
 |_=>exact absurd (show Ż=ż from fy) qf
def jv(x:V)(u:Qc):Bool:=match u with
 |.none=>rX .aL x
 |.bool b=>rX (.bl b) x
 |.int i _=>rX (.int i) x
 |.str z _=>rX (.str z) x
 |_=>Ż
def Lc{x y:V}(r:zT y u)(f:lA y=ż):jv x u=rX y x:=by
 cases y with
 |aL=>cases r;rfl
 |bl b=>cases r;rfl
 |int i=>have(t,rfl):=r;rfl
 |str z=>have(t,rfl):=r;rfl
 |_=>exact absurd (show Ż=ż from f) qf
def BS{x:V}{xs:Qa V}(h:zV xs us):xs.all lA=ż->us.any (jv x)=xs.any λy=>rX y x:=by
 induction h with
 |nil=>exact λ_=>rfl
 |cons r _ ih=>
  intro f;rw[ϑ,ġ]at f;rw[œ,œ,Lc r f.1,ih f.2]
def xG{s:Qd}{x:V}{v:Qc}(rx:zT x v)(fx:lA x=ż):∀{xs:Qa V} {us:Qa Qc},zV xs us->xs.all lA=ż->∀u∈us,a3b A s u v<|jv x u
 |_,_,.nil,_=>λu hu=>by cases hu
 |y::xs,u::us,.cons r t,f=>λu' hu=>by
  rw[ϑ,ġ]at f;rcases qw.mp hu with rfl|hu
  .rw[Lc r f.1];exact Us r rx f.1 fx
  .exact xG rx fx t f.2 u' hu
def yt(x:V)(xs:Qa V):Bool:=xs.any λy=>rX y x
def yf(K:qc)(neg:Bool):R2:=λx y H Q=>∃p xs,y=.ref p/\(bE K H p xs\/cH K H p xs)/\lA x=ż/\xs.all lA=ż/\Q (.bl (if neg then !yt x xs else yt x xs)) H
def NF:cp X (ĩ .In) (yf X.K Ż):=by
 intro pins s σ H x y v u Q I rx ry h;have(p,xs,rfl,hq,fx,fs,q):=h;cases ry;rcases hq with hq|hq
 .have(aq,r,pl,hz):=I.list hq
  refine SeqAt.in_listAt (jv x) pl.isList (λw hw=>xG rx fx r fs w (by simpa using hw)) ⟨.bl _,H,I,rfl,?_⟩;rw[show aq.toArray.any (jv x)=aq.any (jv x) by simp,BS r fs];exact q
 .have(aq,r,pl,hz):=I.tuple hq
  refine a3A (jv x) pl (λw hw=>xG rx fx r fs w (by simpa using hw)) ⟨.bl _,H,I,rfl,?_⟩;rw[show aq.toArray.any (jv x)=aq.any (jv x) by simp,BS r fs];exact q
def zjn:cp X (ĩ .NotIn) (yf X.K ż):=by
 intro pins s σ H x y v u Q I rx ry h;have(p,xs,rfl,hq,fx,fs,q):=h;cases ry;rcases hq with hq|hq
 .have(aq,r,pl,hz):=I.list hq
  refine SeqAt.notIn_listAt (jv x) pl.isList (λw hw=>xG rx fx r fs w (by simpa using hw)) ⟨.bl _,H,I,rfl,?_⟩;rw[show aq.toArray.any (jv x)=aq.any (jv x) by simp,BS r fs];exact q
 .have(aq,r,pl,hz):=I.tuple hq
  refine SeqAt.notIn_tupleAt (jv x) pl (λw hw=>xG rx fx r fs w (by simpa using hw)) ⟨.bl _,H,I,rfl,?_⟩;rw[show aq.toArray.any (jv x)=aq.any (jv x) by simp,BS r fs];exact q
def zjo:gO X (.builtin "len") (λxs H Q=>∃p ys,xs=[.ref p]/\(bE X.K H p ys\/cH X.K H p ys)/\Q (.int ys.length) H):=by
 intro pins s σ H xs us Q I r h;have(p,ys,rfl,hq,q):=h;have(u,rfl,rx):=pw r;cases rx;have hn:=uV;rcases hq with hq|hq
 .have(aq,r',pl,hz):=I.list hq
  have hlen:=r'.length;exact Calls.call_len_list pl.isList (by simp only[ď]<;>omega) ⟨.int ys.length,H,I.tok _,⟨s.toks+1,by rw[ď,hlen]⟩,q⟩
 .have(aq,r',pl,hz):=I.tuple hq
  have hlen:=r'.length;exact len_tuple pl (by simp only[ď]<;>omega) ⟨.int ys.length,H,I.tok _,⟨s.toks+1,by rw[ď,hlen]⟩,q⟩
def zim:gO X (.type "tuple") (λxs H Q=>∃p ys,xs=[.ref p]/\((bE X.K H p ys/\∀l,H l=Ž->Q (.ref l) (upd H l<|.tup ys))\/(cH X.K H p ys/\Q (.ref p) H))):=by
 intro pins s σ H xs us Q I r h;have(p,ys,rfl,h):=h;have(u,rfl,rx):=pw r;cases rx;rcases h with⟨hq,q⟩|⟨hq,q⟩
 .have(aq,r',pl,hz):=I.list hq
  have hlen:=r'.length;refine call_tuple_list pl.isList (λh' kp=>?_) (by simp only[ď]<;>omega);have I1:Inv X pins σ H {s with heap:=h'}:=I.kept (t':=s.toks) kp;have I2:Inv X pins σ (upd H h'.objs.size<|.tup ys) {s with heap:=h'.push {cls:=.type "tuple",data:=.seq aq.toArray}}:=
   I1.laid (t':=s.toks) (λb o e=>qd _ e) (qe _) (show zX X.prog X.w X.K _ _ _ (.tup ys) from⟨hz,aq,r',pG.new _ _⟩)
  exact⟨.ref h'.objs.size,_,I2,rfl,q _<|I1.aF.fresh<|qe _⟩
 .have(aq,r',pl,hz):=I.tuple hq
  exact call_tuple_same pl ⟨.ref p,H,I,rfl,q⟩
def xX(K:qc)(T:String)(x:V)(H:Hp):Prop:=match x with
 |.str _=>T = "str"
 |.int _=>T = "int"
 |.ref p=>(T = "list"/\∃xs,bE K H p xs)\/(T = "tuple"/\∃o,K.lookup p=ž o/\o.cls=.type "tuple"/\o.dict=Ž)\/
   (T = "dict"/\((∃ao,H p=ž (.dK ao))\/∃ao,H p=ž (.dT ao)))\/(T = "set"/\∃S n,H p=ž (.set S n))
 |_=>False
def Lb{s:Qd}{x:V}{v:Qc}(I:Inv X pins σ H s)(r:zT x v)(ty:xX X.K T x H):
  s.TypeIs v T/\∀a,v=.ref a->∃ob,s.heap.get? a=ž ob/\ob.dict=Ž:=by
 cases x with
 |str z=>
  have(t,rfl):=r;cases(show T = "str" from ty);exact⟨typeIs_str s z t,λ_ e=>nomatch e⟩
 |int i=>
  have(t,rfl):=r;cases(show T = "int" from ty);exact⟨typeIs_int s i t,λ_ e=>nomatch e⟩
 |ref p=>
  cases r;rcases ty with⟨rfl,xs,hq⟩|⟨rfl,o,hk,hc,hd⟩|⟨rfl,hk⟩|⟨rfl,S,n,hk⟩
  .have(aq,_,pl,_):=I.list hq
   refine⟨pl.isList.typeIs,λa e=>?_⟩;cases e;have(o,n,e,c,hd,_):=pl;exact⟨o,e,hd⟩
  .refine⟨⟨o,I.bZ p o hk,hc⟩,λa e=>?_⟩
   cases e;exact⟨o,I.bZ _ o hk,hd⟩
  .have z:∃o,s.heap.get? p=ž o/\o.ExactDict:=by
    rcases hk with⟨ao,hk⟩|⟨ao,hk⟩
    .have(_,_,_,_,o,_,_,e,ex,_):=I.aF p _ hk
     exact⟨o,e,ex⟩
    .have(_,_,_,_,o,_,_,e,ex,_):=I.aF p _ hk
     exact⟨o,e,ex⟩
   have(o,e,ex):=z;refine⟨⟨o,e,ex.1⟩,λa e2=>?_⟩;cases e2;exact⟨o,e,ex.2.1⟩
  .have(o,_,_,_,e,ex,_):=I.aF p _ hk
   refine⟨⟨o,e,ex.1⟩,λa e2=>?_⟩;cases e2;exact⟨o,e,ex.2.1⟩
 |_=>exact ŕ ty
def CH(K:qc)(T:String)(r:V->Qa V->Hp->VK->Prop)(to:TE)(t:TA):TE:=λσ H Q=>to σ H λx H1=>xX K T x H1/\t σ H1 λxs H2=>r x xs H2 Q
variable{es:Qa Ĥ}{to:TE}{t:TA}{name:Str}{id:String}{r:V->Qa V->Hp->VK->Prop}
def zAB(pa:PlainAttrs T)(slot:Slot T name id)(tW:typeOf (.builtin id)=pure (.type "method_descriptor"))(hm:MtR X id r)(ho:PE X o to)(ha:PA X (e::es) t)
  (fZ:Ť o name X.env (ŀ o X.env)=ŀ o X.env:=by rfl)
  (nA:((Ϩ bq<|ĭ (e::es) X.env).all (λx=>!x.1) && (a2E bq<|a0L [] X.env).all (λx=>x.1.isSome)
   && decide ((e::es).length+([]:Qa a0r).length+(if([]:Qa a0r).isEmpty then 0 else 1) < 30))=ż:=by rfl)
  (fW:(apos.endLine==bq.line)=ż:=by rfl) (hs:ĭ (e::es) X.env=(Ż,ŀ e X.env)::ĭ es X.env:=by rfl) (tZ:(Ϩ bq<|ĭ es X.env).any (·.1)=Ż:=by rfl):
  PE X (.Call (.Attribute o name apos) (e::es) [] bq) (CH X.K T r to t):=by
 intro pins s σ H Q I h;refine a3w fZ nA fW rfl<|aI (ho pins s σ H _ I h) λv s1 hZ=>?_;have(x,H1,I1,r1,ty,q1):=hZ;have(h1,h2):=Lb I1 r1 ty;refine⟨T,id,pa,slot,tW,h1,h2,?_⟩;have hA:=ha bq pins s1 σ H1 _ I1 q1;rw[hs]at hA ⊢;refine ú (by show(Ż || (Ϩ bq<|ĭ es X.env).any (·.1))=Ż;rw[tZ]<;>rfl)<|a0h ?_;exact aI hA λus s2 ⟨vs,H2,I2,r2,q2⟩=>hm pins s2 σ H2 x vs v us Q I2 r1 r2 q2
end
def wc(X:Cx)(id:String)(r:V->Qa V->Hp->VK->Prop):Prop :=
 ∀(pins:Qa (Qg×Obj)) (s:Qd) (σ:St) (H:Hp) (x:V) (xs:Qa V) (v:Qc) (us:Qa Qc) (Q:VK),Inv X pins σ H s->zT x v->zV xs us->r x xs H Q->
  đ (Ĕ X.prog X.w) X.A (call (.builtin id)<|v::us) (EP X pins σ Q) X.xe s
def zV.one{x:V}(h:zV [x] us):∃u,us=[u]/\zT x u:=by
 cases h with
 |cons r t=>cases t;exact⟨_,rfl,r⟩
def zV.rep{xs:Qa V}(h:zV xs us):∀k:Nat,zV (Đ k xs).flatten (Đ k us).flatten
 |0=>.nil
 |k+1=>by
  rw[ļ,ļ,š,š];exact zV.append h<|zV.rep h k
def ND(aq:Qa Qc):∀(k:Nat) (acc:Qa Qc),
  a3q (λx1 x2=>x1++x2) acc.toArray (Đ k aq.toArray)=(acc++(Đ k aq).flatten).toArray
 |0,acc=>by simp
 |k+1,acc=>by
  have e:acc.toArray++aq.toArray=(acc++aq).toArray:=by simp
  have e2:(acc++aq)++(Đ k aq).flatten=acc++(Đ (k+1) aq).flatten:=by
   rw[ļ,š,ŉ]
  rw[<-e2,<-ND aq k (acc++aq),<-e,ļ,List.foldl_cons]
section
variable{X:Cx}{s:Qd}{l b:Qg}{xs ys zs:Qa V}
def Inv.yo{aq its':Qa Qc}{f:Array Qc->Array Qc}{t':Nat}(I:Inv X pins σ H s)(hH:H l=ž (.lst xs))
  (e:s.heap.get? l=ž {cls:=.type "list",data:=.seq aq.toArray n}) (hf:f aq.toArray=its'.toArray) (hv:zV ys its') (hz:ys.length<=ċ):
  Inv X pins σ (upd H l<|.lst ys) {s with heap:=s.heap.update l (ō f),toks:=t'}:=by
 have q:=a2L e f;rw[hf]at q;refine I.write (x:=l) (e:=l) (by rw[hH];exact trivial) (.inl rfl) (λb' u hb hu=>(ù s.heap (ō f)<|ī hb).trans hu) ⟨_,q⟩ ?_;exact⟨hz,its',_,hv,q⟩
def Inv.HU{aq:Qa Qc}{t':Nat}(I:Inv X pins σ H s)(hv:zV ys aq)(hz:ys.length<=ċ):
  Inv X pins σ (upd H s.heap.objs.size<|.lst ys) {s with heap:=s.heap.push {cls:=.type "list",data:=.seq aq.toArray},toks:=t'}:=
 I.laid (λ_ _ q=>qd _ q) (qe _) ⟨hz,aq,0,hv,qg _ rfl⟩
def Inv.fresh(I:Inv X pins σ H s):H s.heap.objs.size=Ž:=I.aF.fresh (qe _)
def Inv.tT(I:Inv X pins σ H s)(hH:H l=ž (.lst xs)):xs.length<=ċ/\∃(aq:Qa Qc) (n:Nat),zV xs aq/\xs.length=aq.length/\s.heap.get? l=ž {cls:=.type "list",data:=.seq aq.toArray n}:=by
 have(z,aq,n,r,e):=I.aF l _ hH;exact⟨z,aq,n,r,r.length,e⟩
def Gx(h:n<=ċ):ϯ n=Ż:=by
 unfold ϯ;exact a4e (by omega)
end
section
variable{X:Cx}
def FY:V->Qa V->Hp->VK->Prop:=λx vs H Q=>∃l xs y,x=.ref l/\vs=[y]/\H l=ž (.lst xs)/\xs.length < ċ/\Q .aL (upd H l<|.lst<|xs++[y])
def g8:wc X "list.append" FY:=by
 intro pins s σ H x vs v us Q I rx rv h;have(l,xs,y,rfl,rfl,hH,hz,q):=h;cases rx;have(u,rfl,ru):=rv.one;have(z,aq,n,r,hl,e):=I.tT hH;refine a2C a4a ⟨_,e,rfl⟩ a3P (a3F _ _) (a3m l aq.toArray n u (by rw[ď];omega)) ⟨e,?_⟩;refine⟨.aL,_,I.yo (its':=aq++[u]) hH e (by simp) (r.append<|.cons ru .nil) ?_,rfl,q⟩;rw[qu,Ĳ];omega
def Qk:R2:=λx y H Q=>∃l k xs,x=.ref l/\y=.int k/\H l=ž (.lst xs)/\-(2^63)<=k/\k < 2^63/\xs.length * k.toNat<=ċ/\
 ∀p,H p=Ž->Q (.ref p) (upd H p<|.lst (Đ k.toNat xs).flatten)
def W7(xs:Qa α)(k:Nat):(Đ k xs).flatten.length=k * xs.length:=by
 induction k with
 |zero=>simp
 |succ k ih=>rw[ļ,š,qu,ih,Ϡ,Ϣ]
def Bo:cp X (ώ .Mult) Qk:=by
 intro pins s σ H x y v u Q I rx ry h;have(l,k,xs,rfl,rfl,hH,h1,h2,hz,q):=h;cases rx;have(t,rfl):=ry;have(z,aq,n,r,hl,e):=I.tT hH;have hlen:aq.toArray.size * k.toNat<=ċ:=by rw[ď,<-hl];exact hz
 have IP:¬aq.toArray.size * k.toNat > (2^63 - 1) / 8:=by
  have:(ċ:Nat)<=(2^63 - 1) / 8:=by decide
  omega
 have II:¬(!Builtin.List.listFitsIndex k)=ż:=by
  rw[fitsIndex_both h1 h2];exact qf
 have yE:¬ϯ (aq.toArray.size * k.toNat)=ż:=by
  rw[Gx hlen];exact qf
 have IB:a3q (λx1 x2=>x1++x2) #[] (Đ (if aq.toArray.isEmpty=ż then 0 else k.toNat) aq.toArray)=(Đ k.toNat aq).flatten.toArray:=by
  have f0:∀m:Nat,a3q (λx1 x2=>x1++x2) #[] (Đ m aq.toArray)=(Đ m aq).flatten.toArray:=λm=>by
   have:=ND aq m [];rw[a1y]at this;exact this
  rw[f0];cases aq with
  |nil=>simp
  |cons a r'=>rw[a4c (by simp)]
 refine wpAny_binaryOp_repeat_ref (T := "list") (U := "int") (by decide) ⟨_,e,rfl⟩ (λs'=>typeIs_int s' k t) noFill_list_mul F.fills_int_mul F.slot_int_rmul repeat_list F.slot_int_index.lookup
  (a2C F.slot_int_rmul (typeIs_int s k t) F.entry_int_rmul (F.args_int_rmul_2 _ _) (int___rmul___int_list k t l aq.toArray n)
   ⟨e,rfl,⟨_,e,rfl⟩,a2C F.slot_list_mul ⟨_,e,rfl⟩ F.entry_list_mul (F.args_list_mul_2 _ _) (AutoListH.list___mul___list_int_3 l aq.toArray n k t II IP yE) ⟨e,?_⟩⟩)
 rw[IB];exact⟨.ref _,_,I.HU (t':=s.toks) (r.rep k.toNat) (by rw[W7,ϸ];exact hz),rfl,q _ I.fresh⟩
end
section
variable{w:Qh}{s:Qd}
def zpa(aq jt:Qa Qc)(a c:Nat):aq.toArray.extract 0 a++jt.toArray++aq.toArray.extract c aq.toArray.size=(aq.take a++jt++aq.drop c).toArray:=by
 apply Array.toList_inj.mp
 first
  | (simp
     exact Ϝ (by simp))
  |simp[Ϝ]
  |simp
def zl6{a c:Nat}(vO:a<=c):ύ (ž (a:Int)) (ž (c:Int)) Ž n=(((min a n:Nat):Int),((min c n:Nat):Int),1):=by
 simp only[ύ,a0W];have h1:¬((a:Int) < 0):=by omega
 have h2:¬((c:Int) < 0):=by omega
 simp only[h1,h2,if_false,show(1:Int) > 0 by decide,if_true];congr 1
 .omega
 .congr 1;omega
set_option maxRecDepth 100000 in
def zin{l b sl:Qg}{items new:Array Qc}{vl vu:Qc}{a c:Nat}{Q:Unit->Qd->Prop}
  (e:s.heap.get? l=ž {cls:=.type "list",data:=.seq items n}) (e2:PlainL s.heap b new) (oJ:l≠b)
  (hs:s.heap.IsSliceOf sl vl vu .none) (pl:Ε vl (ž (a:Int))) (pu:Ε vu (ž (c:Int))) (vO:a<=c)
  (hsz:items.size+new.size<=ċ) (h:Q () {s with heap:=s.heap.update l (ō λxs=>xs.extract 0 (min a items.size)++new++xs.extract (min c items.size) xs.size)}):
  đ (Ĕ prog w) A (Λ (.ref l) (.ref sl)<|.ref b) Q E s:=by
 have hl:s.heap.IsList l items:=PySem.IsL.isList e;have(ob,n2,e2,Dg,hd2,oH):=e2;have(os,ju,vN,lW):=id hs;have vP:s.TypeIs (.ref sl) "slice":=⟨os,ju,vN⟩;have yy:¬((rawPart Ž==a2z 0)=ż):=qf;have ni:a0Z (.ref l) (.ref b)=Ż:=by
  unfold a0Z;exact beq_eq_false_iff_ne.mpr oJ
 have ID:(max ((min a items.size:Nat):Int) ((min c items.size:Nat):Int)).toNat=min c items.size:=by omega
 have yu:((λxs:Array Qc=>xs.extract 0 (min a items.size)++new++xs.extract (min c items.size) xs.size) items).size<=ċ+1:=by
  simp only[Array.size_append,Array.size_extract];omega
 unfold Λ
 try with_reducible refine Ķ ?_
 first|refine qa (qb ?_) |skip
 refine qa<|a1C hl.typeIs (by decide) ?_;refine qa (ĺ (name:=Ţ "__setitem__") hl.typeIs slot_list_setitem
  (İ slot_list_setitem hl.typeIs entry_list_setitem ?_<|args_list_setitem _ _ _))
 show đ _ _ (a0E (.ref sl) >>= _) _ _ s;refine qa ?_;unfold a0E;refine qa<|Ϻ vP slice_no_index ?_;simp only[Option.isNone_none,if_true];refine qb ?_;show đ _ _ (typeOf (.ref sl) >>= _) _ _ s;refine qa (a0m vP ?_)
 first
  |rw[a4c (by decide)]
  |refine υ (by decide) ?_
 rw[listSliceParts_eq];refine qa<|qa<|Ń ju lW (x:=.none) rfl<|qa<|a2y .none ?_;rw[a4c yy];refine qa<|Ń ju lW (x:=vl) rfl<|qa<|a2y pl ?_;refine qa (Ń ju lW (x:=vu) rfl<|qa<|a2y pu<|qb ?_)
 first
  |simp only[ni,Ř,if_false]
  |refine υ ni ?_
  | (dsimp only
     rw[a4c (by rw[ni];exact qf)])
 refine qa (m:=a0T (.ref b) "must assign iterable to extended slice") ?_;unfold a0T;refine qa (a0m ⟨ob,e2,Dg⟩ ?_)
 first
  |refine PySem.W.KFB.if_so (by decide) ?_
  |rw[a4b (by decide)]
  |simp only[a4g,Bool.true_or,if_true]
 unfold Builtin.List.listItems;refine qa<|Φ e2 oH<|qb ?_;refine qa<|qa<|Φ e rfl<|qb ?_;refine qa<|wpAny_of_eq ((sliceIndices_raw (ž (a:Int)) (ž (c:Int)) Ž items.size (by simp)).trans<|congrArg (pure:Int×Int×Int->Sem (Int×Int×Int))<|zl6 vO) ?_;show đ _ _ (if((1:Int)==1)=ż then _ else _) _ _ s;rw[a4b (by decide)];refine qa (a0n ?_)
 first
  |simp only[Gx hsz,Ř,if_false]
  |refine υ (Gx hsz) ?_
 first|refine qa (qb ?_) |skip
 show đ _ _ (updateSeq l (λxs=>xs.extract 0 (((min a items.size:Nat):Int)).toNat++new++xs.extract (max ((min a items.size:Nat):Int) ((min c items.size:Nat):Int)).toNat xs.size) >>= _) _ _ s;rw[ID,į];refine qa<|wpAny_updateSeq (hz:=qA (é _ _) hsz) (_hz':=yu) e rfl ?_;refine qa (wpAny_letGo ?_)
 first
  |exact qa<|qb<|qb ⟨.none,rfl,qb h⟩
  |exact qb ⟨.none,rfl,qb h⟩
end
section
variable{X:Cx}
def zpb{s:Qd}{l b sl:Qg}{xs ys:Qa V}{a c:Int}{vl vu:Qc}{Q:Unit->Qd->Prop}(I:Inv X pins σ H s)
  (hH:H l=ž (.lst xs)) (hB:bE X.K H b ys) (oJ:l≠b) (hs:s.heap.IsSliceOf sl vl vu .none) (ra:zT (.int a) vl) (rc:zT (.int c) vu) (h0:0<=a) (vO:a<=c)
  (hz:xs.length+ys.length<=ċ) (h:∀s',Inv X pins σ (upd H l<|.lst<|xs.take a.toNat++ys++xs.drop c.toNat) s'->Q () s'):
  đ (Ĕ X.prog X.w) X.A (Λ (.ref l) (.ref sl)<|.ref b) Q X.xe s:=by
 have(ta,rfl):=ra;have(tc,rfl):=rc;have(z,aq,n,r,hl,e):=I.tT hH;have(jt,r2,e2,_):=I.list hB;have Rf:=r2.length;have(a',rfl):=Ù h0;have(c',rfl):=Ù (ć h0 vO);simp only[į]at h;refine zin (a:=a') (c:=c') e e2 oJ hs (.int _ _) (.int _ _) (by omega) (by rw[ď,ď];omega)<|h _ ?_;refine I.yo (its':=aq.take (min a' aq.length)++jt++aq.drop (min c' aq.length)) (t':=s.toks) hH e ?_ (by
  have e1:aq.take (min a' aq.length)=aq.take a':=by
   rcases Nat.le_total a' aq.length with c|c
   .rw[Nat.min_eq_left c]
   .rw[a3Y c,ϥ,Ϝ c]
  have e3:aq.drop (min c' aq.length)=aq.drop c':=by
   rcases Nat.le_total c' aq.length with c|c
   .rw[Nat.min_eq_left c]
   .rw[a3Y c,ε,List.drop_eq_nil_of_le c]
  rw[e1,e3];exact zV.append (zV.append (r.take _) r2)<|r.drop _) ?_
 .rw[ď]
  exact zpa aq jt _ _
 .rw[qu,qu,ě,ſ]
  omega
end
section
variable{κ:Type}[DecidableEq κ]
noncomputable def gL(ao:Qa (κ×V))(k:κ):Qb V:=(ao.find? λkv=>decide<|kv.1=k).map (·.2)
noncomputable def gC(ao:Qa (κ×V))(k:κ)(v:V):Qa (κ×V):=
 if(ao.any λkv=>decide<|kv.1=k)=ż then ao.map (λkv=>if kv.1=k then(kv.1,v)else kv)else ao++[(k,v)]
def BZ{p:κ×V}{r:Qa (κ×V)}{k:κ}(e:p.1=k):gL (p::r) k=ž p.2:=by simp[gL,ģ,e]
def BY{p:κ×V}{r:Qa (κ×V)}{k:κ}(e:¬p.1=k):gL (p::r) k=gL r k:=by simp[gL,ģ,e]
def Gw(k:κ):∀ao:Qa (κ×V),(ao.any λkv=>decide<|kv.1=k)=(gL ao k).isSome
 |[]=>rfl
 |p::r=>by
  rw[œ]
  by_cases e:p.1=k
  .simp only[BZ e,a4d e,Bool.true_or,a0v]
  .rw[BY e,a4e e,a2o];exact Gw k r
def zev(ao:Qa (κ×V))(k:κ)(v:V):(gC ao k v).length<=ao.length+1:=by
 unfold gC;split
 .rw[ĉ];omega
 .rw[qu,qv,Ŋ];omega
def gM.d9{o:Qb V}{u:Qb Qc}(r:gM o u):o.isSome=u.isSome:=by
 cases o with
 |none=>cases u with
  |none=>rfl
  |some _=>exact(show False from r).elim
 |some _=>cases u with
  |none=>exact(show False from r).elim
  |some _=>rfl
def gM.getD{o:Qb V}{u:Qb Qc}{d:V}{d':Qc}(r:gM o u)(rd:zT d d'):zT (o.getD d) (u.getD d'):=by
 cases o with
 |none=>cases u with
  |none=>exact rd
  |some _=>exact(show False from r).elim
 |some _=>cases u with
  |none=>exact(show False from r).elim
  |some _=>exact r
def KV.val{ao:Qa (κ×V)}{vs:Qa (κ×Qc)}(r:KV ao vs)(k:κ):gM (gL ao k) (a1E vs k):=by
 unfold KV at r
 induction r with
 |nil=>exact Ŗ
 | @cons p q ps qs h t ih=>
  have(h1,h2):=h
  by_cases e:p.1=k
  .have e':q.1=k:=h1.symm.trans e
   have b:a1E (q::qs) k=ž q.2:=by simp[a1E,ģ,e']
   rw[BZ e,b];exact h2
  .have e':¬q.1=k:=λz=>e<|h1.trans z
   have b:a1E (q::qs) k=a1E qs k:=by simp[a1E,ģ,e']
   rw[BY e,b];exact ih
def KV.any{ao:Qa (κ×V)}{vs:Qa (κ×Qc)}(r:KV ao vs)(k:κ):(ao.any λkv=>decide<|kv.1=k)=vs.any λkv=>decide (kv.1=k):=by
 unfold KV at r
 induction r with
 |nil=>rfl
 |cons h t ih=>rw[œ,œ,ih,h.1]
def KV.jf{ao:Qa (κ×V)}{vs:Qa (κ×Qc)}(r:KV ao vs)(k:κ){y:V}(ry:zT y u):
  KV (ao.map λkv=>if kv.1=k then(kv.1,y)else kv) (vs.map λkv=>if kv.1=k then(kv.1,u)else kv):=by
 unfold KV at r ⊢
 induction r with
 |nil=>exact .nil
 | @cons p q ps qs h t ih=>
  rw[Ċ,Ċ];refine .cons ?_ ih;have(h1,h2):=h
  by_cases e:p.1=k
  .rw[a4b e,a4b<|h1.symm.trans e];exact⟨h1,ry⟩
  .rw[a4c e,a4c λz=>e<|h1.trans z];exact⟨h1,h2⟩
def KV.put{ao:Qa (κ×V)}{vs:Qa (κ×Qc)}(r:KV ao vs)(k:κ){y:V}(ry:zT y u):KV (gC ao k y) (stored vs k u):=by
 unfold gC stored;rw[r.any k]
 by_cases e:(vs.any λkv=>decide<|kv.1=k)=ż
 .rw[a4b e,a4b e];exact r.jf k ry
 .rw[a4c e,a4c e];exact a1i r ⟨rfl,ry⟩
def KV.length{ao:Qa (κ×V)}{vs:Qa (κ×Qc)}(r:KV ao vs):ao.length=vs.length:=ό r
end
def uI{w:Qh}{k:Key}(r:zT (kV k) u):(dC P w).is k u=ż:=by
 cases k with
 |inl i=>have(t,e):=(show ∃t,u=a1b i t from r);subst e;exact zkr P w i t
 |inr x=>have(t,e):=(show ∃t,u=a1a x t from r);subst e;exact zks P w x t
def GO{w:Qh}:∀{ks:Qa Key} {us:Qa Qc},zV (ks.map kV) us->ItemsAre (dC P w) ks us
 |[],_,r=>by rw[ı]at r;cases r;exact .nil
 |k::ks,_,r=>by
  rw[Ċ]at r;cases r with
  |cons h t=>exact .cons (uI h)<|GO t
abbrev KT(K:qc)(H:Hp):Qa (Qa Key×V)->Qa (Qa Key×Qg×Qc)->Prop:=ϲ λp q=>p.1=q.1/\bK K H q.2.1 (p.1.map kV)/\zT p.2 q.2.2
def KT.val{xs:Qa (Qa Key×Qg×Qc)}(r:KT K H ao xs)(k:Qa Key):gM (gL ao k) ((Θ xs k).map (·.2)):=by
 induction r with
 |nil=>exact Ŗ
 | @cons p q ps qs h t ih=>
  have(h1,_,h2):=h
  by_cases e:p.1=k
  .have e':q.1=k:=h1.symm.trans e
   have b:Θ (q::qs) k=ž q.2:=by simp[Θ,ģ,e']
   rw[BZ e,b];exact h2
  .have e':¬q.1=k:=λz=>e<|h1.trans z
   have b:Θ (q::qs) k=Θ qs k:=by simp[Θ,ģ,e']
   rw[BY e,b];exact ih
def KT.jf{xs:Qa (Qa Key×Qg×Qc)}(r:KT K H ao xs)(k:Qa Key){y:V}(ry:zT y u):
  KT K H (ao.map λkv=>if kv.1=k then(kv.1,y)else kv) (xs.map<|putAt k u):=by
 induction r with
 |nil=>exact .nil
 | @cons p q ps qs h t ih=>
  rw[Ċ,Ċ];refine .cons ?_ ih;have(h1,h2,h3):=h;unfold putAt
  by_cases e:p.1=k
  .rw[a4b e,a4b<|h1.symm.trans e];exact⟨h1,h2,ry⟩
  .rw[a4c e,a4c λz=>e<|h1.trans z];exact⟨h1,h2,h3⟩
def KT.put{xs:Qa (Qa Key×Qg×Qc)}(r:KT K H ao xs)(k:Qa Key){b:Qg}{y:V}(hb:bK K H b (k.map kV))(ry:zT y u):
  KT K H (gC ao k y) (storedH xs k b u):=by
 have e:(ao.any λkv=>decide<|kv.1=k)=(Θ xs k).isSome:=by
  rw[Gw,(r.val k).d9,a0F]
 unfold gC storedH;rw[e]
 by_cases q:(Θ xs k).isSome=ż
 .rw[a4b q,a4b q];exact r.jf k ry
 .rw[a4c q,a4c q];exact a1i r ⟨rfl,hb,ry⟩
def KT.keeps{xs:Qa (Qa Key×Qg×Qc)}(r:KT K H ao xs)(ht:∀b ys,H b=ž (.tup ys)->H' b=ž (.tup ys)):KT K H' ao xs :=
 Paired.hJ r λ_ _ z=>⟨z.1,z.2.1.keeps ht,z.2.2⟩
section
variable{w:Qh}
def J7{u:HO}(ok:cq P w K H h)(e:Rd H a u):zX P w K H h a u:=e.ok ok
def xg{ao:Qa (Key×V)}(ok:cq P w K H h)(e:Rd H a (.dK ao)):ao.length<=ċ/\(a==Ŀ)=Ż/\∃vs,KV ao vs/\h.DictOf (dC P w) a vs :=
 show zX P w K H h a (.dK ao) from J7 ok e
def zAD{ao:Qa (Key×V)}(ok:cq P w K H h)(e:H a=ž (.dK ao)):ao.length<=ċ/\(a==Ŀ)=Ż/\∃vs,KV ao vs/\h.DictOf (dC P w) a vs:=xg ok (.inl e)
def Bm{ks:Qa Key}(eK:K.In h)(ok:cq P w K H h)(e:bK K H a (ks.map kV)):(a0U<|dC P w).is h ks a:=by
 rcases e with e|⟨o,aq,n,hk,hc,hs,_,r,_⟩
 case inr=>exact⟨o,aq,n,eK a o hk,hc,hs,by simpa using GO r⟩
 obtain⟨_,aq,r,o,h1,h2,⟨n,h3⟩,_⟩:=(show zX P w K H h a (.tup<|ks.map kV) from ok a _ e);exact⟨o,aq.toArray,n,h1,h2,h3,by simpa using GO r⟩
def w9(eK:K.In h)(ok:cq P w K H h)(e:Rd H a (.dT ao)):ao.length<=ċ/\(a==Ŀ)=Ż/\
  ∃xs,KT K H ao xs/\h.DictOfH (a0U<|dC P w) a xs:=by
 have(z,y,xs,r,o,es,ep,h1,h2,h3,h4,h5):=(show zX P w K H h a (.dT ao) from J7 ok e);refine⟨z,y,xs,r,o,es,ep,h1,h2,h3,h4,λx hx=>?_,h5⟩;have all:∀{l:Qa (Qa Key×V)} {m:Qa (Qa Key×Qg×Qc)},KT K H l m->∀x∈m,(a0U<|dC P w).is h x.1 x.2.1:=by
  intro l m q
  induction q with
  |nil=>intro x hx;exact nomatch hx
  | @cons p q ps qs hq t ih=>
   intro x hx;rcases qw.mp hx with e|hx
   .subst e
    exact Bm eK ok (by rw[<-hq.1];exact hq.2.1)
   .exact ih x hx
 exact all r x hx
def zAE(eK:K.In h)(ok:cq P w K H h)(e:H a=ž (.dT ao)):ao.length<=ċ/\(a==Ŀ)=Ż/\
  ∃xs,KT K H ao xs/\h.DictOfH (a0U<|dC P w) a xs:=w9 eK ok (.inl e)
end
def sH(K:qc)(H:Hp)(a:Qg)(y:V)(r:Qb V):Prop :=
 (∃ao k,Rd H a (.dK ao)/\y=kV k/\r=gL ao k)\/∃ao k b,Rd H a (.dT ao)/\y=.ref b/\bK K H b (k.map kV)/\r=gL ao k
def qR(K:qc)(H:Hp)(a:Qg)(y v:V)(H':Hp):Prop :=
 (∃ao k,H a=ž (.dK ao)/\y=kV k/\ao.length < ċ/\H'=upd H a (.dK<|gC ao k v))\/
 ∃ao k b,H a=ž (.dT ao)/\y=.ref b/\bK K H b (k.map kV)/\ao.length < ċ/\H'=upd H a (.dT<|gC ao k v)
def qR.k{ao:Qa (Key×V)}{k:Key}(e:H a=ž (.dK ao))(hl:ao.length < ċ):qR K H a (kV k) v (upd H a<|.dK<|gC ao k v):=.inl ⟨ao,k,e,rfl,hl,rfl⟩
def qR.t{b:Qg}{k:Qa Key}(e:H a=ž (.dT ao))(eb:bK K H b (k.map kV))(hl:ao.length < ċ):
  qR K H a (.ref b) v (upd H a<|.dT<|gC ao k v):=.inr ⟨ao,k,b,e,rfl,eb,hl,rfl⟩
section
variable{X:Cx}{s:Qd}{y:V}{r:Qc}{o:Qb V}
def Inv.RJ(I:Inv X pins σ H s):Ŀ < s.heap.objs.size:=by
 have h:Ě < s.heap.objs.size:=(I.mod.glob.keeps I.bk).lt;exact ý (by decide) h
def zpc(hu:A.units+1 < ϓ)(I:Inv X pins σ H s)(g:sH X.K H a y (ž v))(ry:zT y u)(h:∀w' s',Inv X pins σ H s'->zT v w'->Q w' s'):
  đ (Ĕ X.prog X.w) A (Μ (.ref a) u) Q E s:=by
 rcases g with⟨ao,k,e,ey,l⟩|⟨ao,k,b,e,ey,eb,l⟩
 .subst ey
  have(z,hd,vs,rel,dd):=xg I.aF e;have(w',hw,iH):=gM.some_of (v:=v) (o:=a1E vs k) (by rw[l];exact rel.val k);exact wpAny_getItem_of (uI ry) dd.mapOf hw<|h w' _ (I.tok _) iH
 .subst ey
  cases(show u=Ĝ b from ry);have(z,hd,xs,rel,dd):=w9 I.bZ I.aF e;have(w',hw,iH):=gM.some_of (v:=v) (o:=(Θ xs k).map (·.2)) (by rw[l];exact rel.val k);have(p,hp,vI):=qt.mp hw;refine wpAny_getItem_heap (a1q hu) (Bm I.bZ I.aF eb) dd hp ?_;rw[vI];exact h w' _ (I.tok _) iH
def FW{t':Nat}{ob:HO}(I:Inv X pins σ H s)(mu:yX (H a))(hs:ϊ a s.heap h')(he:∃q,h'.get? a=ž q)(new:zX X.prog X.w X.K (upd H a ob) h' a ob):
  Inv X pins σ (upd H a ob) {s with heap:=h',toks:=t'}:=
 I.write (x:=a) (e:=a) mu (.inl rfl) (λb q hb z=>(hs.2 b hb).trans z) he new
def Ur{w:Qh}{ao:Qa (Key×V)}{vs:Qa (Key×Qc)}(z:ao.length<=ċ)(hd:(a==Ŀ)=Ż)(rel:KV ao vs)(dd:h'.DictOf (dC P w) a vs):
  zX P w K H' h' a (.dK ao):=⟨z,hd,vs,rel,dd⟩
def zpd{Q:Unit->Qd->Prop}(hu:A.units+1 < ϓ)(I:Inv X pins σ H s)(g:qR X.K H a y v H')(ry:zT y u)(rv:zT v r)(h:∀s',Inv X pins σ H' s'->Q () s'):
  đ (Ĕ X.prog X.w) A (Λ (.ref a) u r) Q E s:=by
 rcases g with⟨ao,k,e,ey,l,eH⟩|⟨ao,k,b,e,ey,eb,l,eH⟩
 .subst ey eH
  have(z,hd,vs,rel,dd):=zAD I.aF e;have hz:vs.length<=ċ:=by rw[<-rel.length];exact z
  have hl:(gC ao k v).length<=ċ:=by have:=zev ao k v;omega
  refine wpAny_setItem_pairs (hsz:=hz) (uI ry) dd λh' vT hs=>h _ ?_;have he:∃q,h'.get? a=ž q:=let ⟨q,_,_,hq,_⟩:=vT;⟨q,hq⟩;exact FW I (by rw[e];exact Ŗ) hs he<|Ur hl hd (rel.put k rv) vT
 .subst ey eH
  cases(show u=Ĝ b from ry);have(z,hd,xs,rel,dd):=zAE I.bZ I.aF e;have hz:xs.length<=ċ:=by rw[<-ό rel];exact z
  have hl:(gC ao k v).length<=ċ:=by have:=zev ao k v;omega
  refine wpAny_setItem_heap (hsz:=hz) (a1q hu) (Bm I.bZ I.aF eb) dd λh' vT hs=>h _ ?_;have(q,es,ep,hq,h2,h3,h4,_,h5):=vT;refine FW I (by rw[e];exact Ŗ) hs ⟨q,hq⟩ ⟨hl,hd,_,(rel.put k eb rv).keeps λc ys ec=>?_,q,es,ep,hq,h2,h3,h4,h5⟩;rw[zu (uJ ec e (λz=>nomatch z))];exact ec
end
def Ao(i:Ĥ):Prop:=∀ov iv,a2d i Ż ov iv=operate [ov,iv] (Μ ov iv)
def Mp{w:Qh}{s:Qd}{slice:Ĥ}{pos:Pos}{id:String}
  (hl:typeLookup (.type T) "__getitem__"=pure (ž<|.builtin id)) (hs:Ao slice)
  (h:đ (Ĕ prog w) A (ŀ value env) (λo aJ=>đ (Ĕ prog w) A (ŀ slice env) (λi gF=>gF.TypeIs o T/\đ (Ĕ prog w) A (Μ o i) Q E gF) E aJ) E s):
  đ (Ĕ prog w) A (ŀ (.Subscript value slice pos) env) Q E s:=by
 refine Subscript_<|ľ h (λo aJ Ie=>ľ Ie (λi gF tV=>?_) λ_ _ x=>x) λ_ _ x=>x;have(hT,tV):=tV;unfold a2W;refine qa ?_;rw[getitemInPython_of_ne hT.not_modules];refine qa<|Ϻ hT hl ?_;have fin:đ (Ĕ prog w) A (a2d slice Ż o i) (λr x9=>đ (Ĕ prog w) A (letTemporaryGo value o r >>= λ_=>pure r) Q E x9) E gF:=by
  rw[hs o i];exact wpAny_operating (ľ tV (λr x9 Ic=>qa<|wpAny_letTemporaryGo<|qb Ic) λ_ _ x=>x)
 first
  |exact qb<|qa fin
  |exact qa<|qb<|qa fin
  |exact qa fin
def zkD{X:Cx}{s:Qd}{y:V}{o:Qb V}(I:Inv X pins σ H s)(g:sH X.K H a y o):s.TypeIs (.ref a) "dict":=by
 rcases g with⟨ao,k,e,_,_⟩|⟨ao,k,b,e,_,_,_⟩
 .have(_,_,vs,_,dd):=xg I.aF e
  exact dd.typeIs
 .have(_,_,xs,_,dd):=w9 I.bZ I.aF e
  exact dd.typeIs
def EO(K:qc)(td ty:TE):TE:=λσ H Q=>td σ H λx H1=>ty σ H1 λy H2=>∃a v,x=.ref a/\sH K H2 a y (ž v)/\Q v H2
def EN(K:qc)(td ty tv:TE):TS:=λD σ H=>tv σ H λv H1=>td σ H1 λx H2=>ty σ H2 λy H3=>∃a H4,x=.ref a/\qR K H3 a y v H4/\D.nx σ H4
section
variable{X:Cx}{i:Ĥ}{pos:Pos}
def W6(hu:X.A.units+1 < ϓ)(ho:PE X o td)(hi:PE X i ty)(hs:Ao i):PE X (.Subscript o i pos) (EO X.K td ty):=by
 intro pins s σ H Q I h;refine Mp PySem.F.slot_dict_getitem.lookup hs<|aI (ho pins s σ H _ I h) λu s1 ⟨x,H1,I1,rx,q1⟩=>aI (hi pins s1 σ H1 _ I1 q1) λiv s2 hZ=>?_;have(y,H2,I2,ry,a,v,ex,g,q2):=hZ;subst ex;obtain rfl:u=Ĝ a:=rx;exact⟨zkD I2 g,zpc hu I2 g ry λw' s3 I3 iH=>⟨v,H2,I3,iH,q2⟩⟩
def W5(hu:X.A.units+1 < ϓ)(ho:PE X o td)(hi:PE X i ty)(hv:PE X value tv)(hs:ϣ value (ž<|.Subscript o i pos') pos.line X.env=pure Ż):
  PS X (.Assign [.Subscript o i pos'] value pos) (EN X.K td ty tv):=by
 intro pins s σ H D I h;refine a3x (aI (hv pins s σ H _ I h) λr s1 hZ=>?_) hs;have(v,H1,I1,rv,q1):=hZ;refine aI (ho pins s1 σ H1 _ I1 q1) λu s2 hZ=>?_;have(x,H2,I2,rx,q2):=hZ;refine aI (hi pins s2 σ H2 _ I2 q2) λiv s3 hZ=>?_;have(y,H3,I3,ry,a,H4,ex,g,q3):=hZ;subst ex;obtain rfl:u=Ĝ a:=rx;exact zpd hu I3 g ry rv λs4 I4=>⟨σ,H4,I4,q3⟩
end
def Zy{w:Qh}(h:Ĭ)(hb:Ŀ < h.objs.size):zX P w K H (h.push {cls:=.type "dict",data:=.dict #[]}) h.objs.size (.dK []):=
 ⟨Ê _,beq_eq_false_iff_ne.mpr<|ī<|qj hb,[],.nil,Heap.DictOf.new h⟩
def Zx{w:Qh}(h:Ĭ)(hb:Ŀ < h.objs.size):zX P w K H (h.push {cls:=.type "dict",data:=.dict #[]}) h.objs.size (.dT []):=
 ⟨Ê _,beq_eq_false_iff_ne.mpr<|ī<|qj hb,[],.nil,_,#[],0,qg _ rfl,⟨rfl,rfl,rfl⟩,rfl,rfl,List.nodup_nil⟩
def FF:TE:=λ_ H Q=>∀p,H p=Ž->Q (.ref p) (upd H p<|.dK [])
def FE:TE:=λ_ H Q=>∀p,H p=Ž->Q (.ref p) (upd H p<|.dT [])
section
variable{X:Cx}{pos:Pos}
def Zw:PE X (.Dict [] [] pos) FF:=λpins s σ H Q I h=>
 wpAny_Dict_empty ⟨.ref s.heap.objs.size,_,I.laid (a:=s.heap.objs.size) (o:=.dK []) (t':=s.toks) (λ_ _ q=>qd _ q) (qe _)<|Zy s.heap I.RJ,rfl,h _<|I.aF.fresh<|qe _⟩
def Zv:PE X (.Dict [] [] pos) FE:=λpins s σ H Q I h=>
 wpAny_Dict_empty ⟨.ref s.heap.objs.size,_,I.laid (a:=s.heap.objs.size) (o:=.dT []) (t':=s.toks) (λ_ _ q=>qd _ q) (qe _)<|Zx s.heap I.RJ,rfl,h _<|I.aF.fresh<|qe _⟩
end
structure M2 (X:Cx) (o:Ĥ) (m:Str) (apos:Pos) (e f:Ĥ) (bq:Pos):Prop where
 base:Ť o m X.env (ŀ o X.env)=ŀ o X.env
 yQ:((Ϩ bq<|ĭ [e,f] X.env).all (λx=>!x.1) && (a2E bq<|a0L [] X.env).all (λx=>x.1.isSome)
  && decide (([e,f]:Qa Ĥ).length+([]:Qa a0r).length+(if([]:Qa a0r).isEmpty then 0 else 1) < 30))=ż
 line:(apos.endLine==bq.line)=ż
 trees:Ϩ bq (ĭ [e,f] X.env)=[(Ż,ŀ e X.env),(Ż,ŀ f X.env)]
def Jm(H:Hp)(a:Qg):Prop:=(∃ao,Rd H a<|.dK ao)\/∃ao,Rd H a<|.dT ao
def Uq{X:Cx}{s:Qd}(I:Inv X pins σ H s)(d:Jm H a):
  s.TypeIs (.ref a) "dict"/\(∀b,Ĝ a=.ref b->∃ob,s.heap.get? b=ž ob/\ob.dict=Ž)/\(a==Ŀ)=Ż:=by
 rcases d with⟨ao,e⟩|⟨ao,e⟩
 .have(_,hd,vs,_,dd):=xg I.aF e
  refine⟨dd.typeIs,λb q=>?_,hd⟩;cases q;have(ob,_,_,h1,h2,_):=dd;exact⟨ob,h1,h2.2.1⟩
 .have(_,hd,xs,_,dd):=w9 I.bZ I.aF e
  refine⟨dd.typeIs,λb q=>?_,hd⟩;cases q;have(ob,_,_,h1,h2,_):=dd;exact⟨ob,h1,h2.2.1⟩
section
variable{X:Cx}{s:Qd}{y d:V}{r:Qc}{o:Qb V}
def Uo(hu:A.units+1 < ϓ)(I:Inv X pins σ H s)(g:sH X.K H a y o)(ry:zT y u)(rd:zT d r)(h:∀w' s',Inv X pins σ H s'->zT (o.getD d) w'->Q w' s'):
  đ (Ĕ X.prog X.w) A (call (.builtin "dict.get") [.ref a,u,r]) Q E s:=by
 rcases g with⟨ao,k,e,ey,l⟩|⟨ao,k,b,e,ey,eb,l⟩
 .subst ey
  have(z,hd,vs,rel,dd):=xg I.aF e;refine call_meetsIn η dd.typeIs a1Y (a1Q _ _ _) (meets_dict_get_default (dC X.prog X.w) a (uI ry) hd r) ⟨_,dd.mapOf,h _ _ (I.tok _) ?_⟩;rw[l];exact(rel.val k).getD rd
 .subst ey
  cases(show u=Ĝ b from ry);have(z,hd,xs,rel,dd):=w9 I.bZ I.aF e;refine call_meetsIn η dd.typeIs a1Y (a1Q _ _ _) (meetsH_dict_get_default (a0U<|dC X.prog X.w) a b hd r) ⟨a1q hu,k,xs,Bm I.bZ I.aF eb,dd,h _ _ (I.tok _) ?_⟩;rw[l];exact(rel.val k).getD rd
end
def Fj(K:qc)(td ty tx:TE):TE:=λσ H Q=>td σ H λx H1=>∃a,x=.ref a/\Jm H1 a/\ty σ H1 λy H2=>tx σ H2 λz H3=>∃o,sH K H3 a y o/\Q (o.getD z) H3
section
variable{X:Cx}{f:Ĥ}{tx:TE}
def Zu(hu:X.A.units+1 < ϓ)(ho:PE X o td)(he:PE X e ty)(hf:PE X f tx)(m:M2 X o "get" apos e f bq):PE X (.Call (.Attribute o "get" apos) [e,f] [] bq) (Fj X.K td ty tx):=by
 intro pins s σ H Q I h;refine wpAny_Call_method m.base m.yQ m.line PySem.F.plainAttrs_dict η PySem.F.type_dict_get<|aI (ho pins s σ H _ I h) λu s1 hZ=>?_;have(x,H1,I1,rx,a,ex,d,q1):=hZ;subst ex;obtain rfl:u=Ĝ a:=rx;have(t1,t2,_):=Uq I1 d;refine⟨t1,t2,?_⟩;rw[m.trees];refine ú rfl<|a0h<|a0C<|aI (he pins s1 σ H1 _ I1 q1) λiv s2 hZ=>?_;have(y,H2,I2,ry,q2):=hZ;refine a0C<|aI (hf pins s2 σ H2 _ I2 q2) λfv s3 hZ=>?_;have(z,H3,I3,rz,ov,g,q3):=hZ;refine a3s ?_;exact Uo hu I3 g ry rz λw' s4 I4 iH=>⟨_,H3,I4,iH,q3⟩
end
end Internal
namespace SG
open PySem PySem.W PySem.Calls PyProof.Rows
def zgW{P:Params}{h:Ĭ}:∀(ns:List Int) (vs:List ŵ),WellAll P h vs (ns.map WData.int)->ϝ vs ns:=by
 intro ns
 induction ns with
 |nil=>
  intro vs w;rw[ı]at w;cases w;exact .nil
 |cons n ns ih=>
  intro vs w;rw[Ċ]at w;cases w with
  |cons a b=>
   cases a;exact .cons _ _<|ih _ b
def zpe{l:OpenLaw}{n:Nat}(hn:l.most=ž n){P:Params}{h:Ĭ}{args:List WData}{vals:List ŵ}
  (p6:l.row.toRowW.claim.pre args=ż) (Ij:WellAll P h vals args):
  ∃a vs ns,vals=[Ĝ a]/\args=[WData.list<|ns.map WData.int]/\h.get? a=ž {cls:=.type "list",data:=.seq vs.toArray}/\ϝ vs ns/\ns.length<=n:=by
 have hsh:WShape.hasAll [] args [.list .int]=ż:=(pre_splitW p6).1;have hc:l.pre.holds [] {args:=args}=ż:=(pre_splitW p6).2;have(d,r,rfl,h1,h2):=hasAllW_cons hsh;obtain rfl:=hasAllW_nil h2;have(xs,rfl,h3):=hasW_list h1;have(ns,rfl):=items_int h3;have hlen:ns.length<=n:=by
  unfold OpenLaw.pre at hc;have h4:(WTm.not<|.lt (.lit<|.int (n:Int))<|.len<|.arg 0).holds [] {args:=[.list<|ns.map .int]}=ż:=by
   have h4:=(holds_andW hc).1;rw[hn]at h4;exact h4
  have h5:=condW_of h4 (w_not<|w_lt w_lit<|w_len_list<|w_arg rfl);rw[ĉ]at h5;refine Nat.le_of_not_lt λq=>?_;have q':(n:Int) < ((ns.length:Nat):Int):=by omega
  first
   | (rw[a4d q']at h5;exact absurd h5 (by decide))
   | (simp at h5;omega)
 cases Ij with
 |cons w1 w2=>
  cases w2;cases w1 with
  |list ho ub=>exact⟨_,_,ns,rfl,rfl,ho,zgW ns _ ub,hlen⟩
def zpf(l:OpenLaw)(args:List WData):l.row.toRowW.claim.post args (.bool ż) args=ż :=
 postW_of (r:=l.row.toRowW) (X:=(ż==ż))
  (show WShape.has [] (.bool ż) .bool=ż by first|rfl|decide|simp[WShape.has,WShape.arms,WShape.armsAll])
  (show(WTm.eq .res<|.lit<|.bool ż).value [] {args:=args,res:=ž (.bool ż),after:=args}=ž (.bool<|true==ż) from w_eq_bool (w_res rfl) w_lit) rfl
def iQ{l:OpenLaw}{n:Nat}{q:a1L}{loose:List Str}{XP:(Str->Option ŵ)->Ĭ->Prop}{YP:World->Ĭ->Prop}{d:DefRec}
  (hn:l.most=ž n) (yK:d.params.defaults=[])
  (call:∀(w:World) (bB aJ:Ϗ) (mg mb:Str->Option ŵ) (fa:Addr) (o:Obj) (pm cd doc:ŵ) (a:Addr) (vs:List ŵ) (ns:List Int),
   Ground q loose [] XP w bB mg mb aJ.heap->YP w aJ.heap->
   aJ.heap.get? fa=ž o->o.data=.func (docDef d.name d.params d.body d.scope pm cd doc)->aJ.heap.CodeRec cd d.name->mg d.name=ž (.ref fa)->
   aJ.heap.get? a=ž {cls:=.type "list",data:=.seq vs.toArray}->ϝ vs ns->ns.length<=n->aJ.gens=#[]->
   a0q (Ĕ l.prog w) a1G (.call (.ref fa) ⟨[.ref a],[]⟩) (λr s'=>r=.ok (.ret<|.bool ż)/\OldK aJ.heap s'.heap/\s'.os=aJ.os/\ο s'.gens) aJ):
  WalkO q loose XP YP l.row.toRowW d [] (λf vs=>a3e f vs):=by
 intro w bB aJ mg mb G Y fa o pm cd doc dV kV ho hd kN hD yC hg args vals as p6 hlay hrd Ij hlo;obtain rfl:dV=.none:=Dflts.none hD yK;obtain rfl:kV=.none:=Dflts.noKw hD;have(a,vs,ns,rfl,rfl,t5,hints,hlen):=zpe hn p6 Ij;refine enter_call<|a1F (call w bB aJ mg mb fa o pm cd doc a vs ns G Y ho (fd_plain hd) kN yC t5 hints hlen hg) λr s' hq=>?_;have(rfl,h2,h3,h4):=hq;exact⟨.inl ⟨.bool ż,.bool ż,[],rfl,λ_=>rfl,.bool ż,zpf l _,λ_=>⟨a1S,λ_ hm=>(nomatch hm)⟩⟩,h2,h3,h4⟩
end SG
namespace Internal
open PySem PySem.Spec PyProof.Rows
def zpg{vs:Qa Qc}(h:ϝ vs ns):zV (ns.map V.int) vs:=by
 induction h with
 |nil=>exact .nil
 |cons n t _ ih=>exact .cons ⟨t,rfl⟩ ih
def An(H:Hp):Prop:=∀b,H b=Ž\/∃o xs,H b=ž (.aQ o<|.lst xs)
def Zt{w:Qh}{mb:Str->Qb Qc}{CX:j9}{k:Nat}{fa:Qg}{aJ:Qd}{vs:Qa Qc}
  (KX:K.In aJ.heap) (yB:aJ.heap.Ns Ě mg) (hb:aJ.heap.Ns builtinsNs mb) (hbb:∀x:Str,x ≠ "__name__"->mb x=ř x) (IE:aJ.heap.NoLimit) (hg:aJ.gens=#[])
  (ha:aJ.heap.get? a=ž {cls:=.type "list",data:=.seq vs.toArray}) (hi:ϝ vs ns) (hl:ns.length<=ċ) (hr:aK k a1G)
  (F:∀base:Ĭ,K.In base->base.Ns Ě mg->cI P w K mg base CX k fa fd [x] sp) (yN:∀(s:Qd) (u:Qc),a2x s fd ⟨[u],[]⟩ [(x,u)])
  (nh:∀H:Hp,An H->bE K H a (ns.map V.int)->sp [.ref a] H (λv _=>v=.bl ż) λ_ _ _=>False)
  (IY:∀H e s',CX [] H aJ (λ_ _ _=>False) e s'->False):
  a0q (Ĕ P w) a1G (.call (.ref fa) ⟨[.ref a],[]⟩) (λr s'=>r=.ok (.ret<|.bool ż)/\OldK aJ.heap s'.heap/\s'.os=aJ.os/\ο s'.gens) aJ:=by
 have rv:=zpg hi;have HV:=hi.length;have core:∀H:Hp,An H->bE K H a (ns.map V.int)->cq P w K H aJ.heap->(∀b,H b≠Ž->b=a)->(H a≠Ž->K.lookup a=Ž)->
   a0q (Ĕ P w) a1G (.call (.ref fa) ⟨[.ref a],[]⟩) (λr s'=>r=.ok (.ret<|.bool ż)/\OldK aJ.heap s'.heap/\s'.os=aJ.os/\ο s'.gens) aJ:=by
  intro H hO hS aF hA hK;have j7:∀{b:Qg} {o:Obj},aJ.heap.get? b=ž o->H b=Ž->(oX aJ.heap H).get? b=ž o:=λe n=>zpS e n;have yj:∀{b:Qg} {o:Obj} {es:Array a2c} {ep:Nat},aJ.heap.get? b=ž o->o.data=.dict es ep->H b=Ž:=λ{b o es ep} e d=>by
   cases q:H b with
   |none=>rfl
   |some u=>
    have e':b=a:=hA b (by rw[q];simp);subst e';rw[ha]at e;cases e;have d':Data.seq vs.toArray _=Data.dict es ep:=d;cases d'
  have CO:∀{b:Qg} {m:Str->Qb Qc},aJ.heap.Ns b m->(oX aJ.heap H).Ns b m:=λ{b m} ⟨o,es,ep,e,d,r⟩=>⟨o,es,ep,j7 e<|yj e d,d,r⟩;have Rq:K.In (oX aJ.heap H):=λb o e=>j7 (KX b o e) (by
   cases q:H b with
   |none=>rfl
   |some u=>
    have e':b=a:=hA b (by rw[q];simp);subst e';rw[hK (by rw[q];simp)]at e;cases e)
  have hM:Mod K mg (oX aJ.heap H):=⟨Rq,CO yB,⟨mb,CO hb,hbb⟩,let ⟨mc,h1,h2⟩:=IE;⟨mc,CO h1,h2⟩⟩;have e0:jB P w K mg (oX aJ.heap H) a1G [] aJ H:=⟨rfl,hM,λb o e=>X6 e,ì<|zoX _ _,trivial,λb hb=>absurd (show b∈([]:Qa Qg) from hb) (by simp),aF,.of_eq hg⟩;refine a1F ((F _ Rq<|CO yB).run a1G [] aJ H ⟨[.ref a],[]⟩ [.ref a] [.ref a] _ _ hr e0 (yN aJ<|.ref a) (.cons rfl .nil)<|nh H hO hS) λr s' h=>?_;cases r with
  |error e=>exact(IY H e s' h).elim
  |ok fl=>
   cases fl with
   |next=>exact ŕ h
   |brk=>exact ŕ h
   |cont=>exact ŕ h
   |ret u=>
    have(v,H',os,bare,un,Iy,r',q):=h;have q':v=.bl ż:=q;subst q';obtain rfl:u=a0z ż:=r';refine⟨rfl,OldK.of_keep λb o e=>?_,os,bare⟩;cases q:H b with
    |none=>exact un.keep b o e q (by intro z;exact absurd (show b∈([]:Qa Qg) from z) (by simp)) (by simp)
    |some u=>
     rcases hO b with z|⟨ob,xs,z⟩
     .rw[q]at z;cases z
     .have z2:=un.dI b ob _ z
      have(e1,_):=aF b _ z;have(e2,_):=Iy b _ z2;rw[e]at e1;cases e1;exact e2
 cases hk:K.lookup a with
 |some o=>
  have e:=KX a o hk;rw[ha]at e;cases e;refine core (λ_=>Ž) (λ_=>.inl rfl) (.inr ⟨_,vs.toArray,_,hk,rfl,rfl,rfl,by rw[ď,HV];exact hl,by simpa using rv⟩) (λb u z=>by have z':(Ž:Qb HO)=ž u:=z;cases z') (λb z=>absurd rfl z) λz=>absurd rfl z
 |none=>
  refine core (λb=>if b=a then ž (.aQ {cls:=.type "list",data:=.seq vs.toArray}<|.lst<|ns.map V.int)else Ž) (λb=>?_) (.inl<|.inr ⟨{cls:=.type "list",data:=.seq vs.toArray},a4b rfl⟩) (λb u z=>?_) (λb z=>?_) λ_=>hk
  .by_cases hb:b=a
   .exact .inr ⟨_,_,a4b hb⟩
   .exact .inl (a4c hb)
  .by_cases hb:b=a
   .have z':=(a4b hb).symm.trans z
    cases z';subst hb;exact⟨ha,by rw[ĉ];exact hl,vs,_,rv,ha⟩
   .have z':=(a4c hb).symm.trans z
    cases z'
  .by_cases hb:b=a
   .exact hb
   .exact absurd (a4c hb) z
def pP{k:Nat}{q:Qe}{loose:Qa Str}{XP:(Str->Qb Qc)->Ĭ->Prop}{YP:Qh->Ĭ->Prop}{d:DefRec}{K:Params->qc}{CX:Qh->j9}{sp:Qh->Sp}
  (hn:l.most=ž n) (Df:n<=ċ) (yK:d.params.defaults=[]) (hr:aK k a1G)
  (hY:∀(w:Qh) (h:Ĭ),YP w h->(K w.params).In h)
  (F:∀(w:Qh) (mg:Str->Qb Qc) (fa:Qg) (h:Ĭ),(K w.params).In h->h.Ns Ě mg->mg d.name=ž (.ref fa)->
   ∃fd:Š,(∀(s:Qd) (u:Qc),a2x s fd ⟨[u],[]⟩ [(x,u)])/\
    ∀base:Ĭ,(K w.params).In base->base.Ns Ě mg->cI l.prog w (K w.params) mg base (CX w) k fa fd [x] (sp w))
  (nh:∀(w:Qh) (H:Hp) (a:Qg) (ns:Qa Int),ns.length<=n->An H->bE (K w.params) H a (ns.map V.int)->sp w [.ref a] H (λv _=>v=.bl ż) λ_ _ _=>False)
  (IY:∀(w:Qh) (H:Hp) (s:Qd) (e:Qc) (s':Qd),CX w [] H s (λ_ _ _=>False) e s'->False):
  a3J q loose XP YP l.row.toRowW d [] (λf vs=>a3e f vs):=by
 refine SG.iQ hn yK λw bB aJ mg mb fa o pm cd doc a vs ns G Y ho hd kN yC t5 hints hlen hg=>?_;have KX:=hY w _ Y;have(fd,hb,hF):=F w mg fa _ KX G.T.g yC;exact Zt KX G.T.g G.T.b G.T.builtins G.T.nolimit hg t5 hints (qA hlen Df) hr hF hb (λH hO hS=>nh w H a ns hlen hO hS) λH e s'=>IY w H aJ e s'
noncomputable def oh(s:ķ):Arguments:=match s with
 |.FunctionDef _ a _ _ _ _ _ _ _ _=>a
 |_=>{posonlyargs:=[],args:=[],vararg:=Ž,kwonlyargs:=[],kw_defaults:=[],kwarg:=Ž,defaults:=[]}
def i9(s:ķ):Qa ķ:=match s with
 |.FunctionDef _ _ b _ _ _ _ _ _ _=>b
 |_=>[]
def eI(s:ķ):a1I:=match s with
 |.FunctionDef _ _ _ _ _ _ sc _ _ _=>sc
 |_=>{kind:=.function,names:=[],isGenerator:=Ż,isCoroutine:=Ż}
abbrev iR:j9:=λ_ _ _ _ _ _=>False
abbrev E0:XK:=λ_ _ _=>False
def EM{X:Cx}:xk iR X E0:=λ_ _ _ _ _ _ _ h=>h.elim
structure jA (K:qc) (x qual:Str) (st:ķ) (f:Qg) (fd:Š):Prop where
 ex:∃(oc:Qc) (od:Qb Qg) (kV doc pm:Qc) (an:Qb Qg) (bt ct:Qc) (oE:Array (Qb Qc)),
  fd=ł x qual (oh st) (i9 st) (eI st) .none kV doc pm an bt ct/\K.lookup f=ž ⟨oc,od,.func fd,oE⟩/\ϖ K bt qual=ż
 kp:ĸ K (.ref f)=ż
section
variable{w:Qh}{base:Ĭ}
def jA.ok{f:Qg}{ps:Qa Str}{k:Nat}(F:jA K x qual st f fd)(S:bH N ps (eI st))(len:∀vs H Q E,sp vs H Q E->vs.length=ps.length)
  (cb:∀(bt:Qc) (A:Qf) (outer:Qa Env) (s:Qd) (H:Hp) (vs:Qa V) (Q:VK) (E:XK),aK k (A.deeper<|ς qual (eI st) s.heap.objs.size f bt)->sp vs H Q E->
   ∃t,eX (nN iR P w K mg base N qual (eI st) f bt A outer s H E).rK (i9 st) t/\t {nx:=λ_ H'=>Q .aL H',rt:=Q} (gN N vs) H):cI P w K mg base iR (k+1) f fd ps sp:=by
 have(oc,od,kV,doc,pm,an,bt,ct,oE,rfl,lk,kN):=F.ex;refine zAy lk kN S len λA outer s H vs Q E hr nh=>?_;have(t,h,q):=cb bt A outer s H vs Q E hr nh;exact⟨t,h.rK,q⟩
def jA.binds{f:Qg}{ps:Qa Str}(F:jA K x qual st f fd)
  (h:∀(kV doc pm:Qc) (an:Qb Qg) (bt ct:Qc) (us:Qa Qc),us.length=ps.length->a2D (ł x qual (oh st) (i9 st) (eI st) .none kV doc pm an bt ct) ⟨us,[]⟩=pure (ps.zip us)):mD K fd ps []:=by
 have(oc,od,kV,doc,pm,an,bt,ct,oE,rfl,lk,kN):=F.ex;exact .all<|h kV doc pm an bt ct
def Fi{f:Qg}{oc:Qc}{od an:Qb Qg}{kV doc pm bt ct:Qc}(l:K.lookup f=ž ⟨oc,od,.func<|ł x qual (oh st) (i9 st) (eI st) .none kV doc pm an bt ct,oE⟩)
  (c:ϖ K bt qual=ż) (k:ĸ K (.ref f)=ż):jA K x qual st f (ł x qual (oh st) (i9 st) (eI st) .none kV doc pm an bt ct):=⟨⟨oc,od,kV,doc,pm,an,bt,ct,oE,rfl,l,c⟩,k⟩
end
def Ba{k:Nat}(hr:aK k A):A.units+1 < ϓ:=È (Nat.add_le_add_left (by decide:1<=64) _) hr.units
section
variable{X:Cx}
def pv(i:Nat){pos:Pos}(hN:X.N[i]?=ž x:=by rfl)(hv:Dw X.env.scope x:=by first|exact a0V rfl|exact a0b (a0V rfl) |exact a0b<|a0b rfl)(hd:(x==("__debug__":Str))=Ż:=by decide)
  (kN:(x==("__classdict__":Str))=Ż:=by decide):PE X (.Name x pos) (eE i):=U0 hN hv hd kN
end
def eD(H H':Hp):Prop:=∀b o,H b=ž o->H' b=ž o
def eD.refl(H:Hp):eD H H:=λ_ _ h=>h
end Internal
set_option maxHeartbeats 4000000
namespace Internal
open PySem PySem.Spec PyProof.Rows
inductive bz (X:Cx):Qa (Str×Qg)->Qa Str->Qa Nat->Prop where
 |nil:bz X [] [] []
 |cons {x:Str} {c:Qg} {j:Nat} {cl:Qa (Str×Qg)} {xs:Qa Str} {js:Qa Nat} (hN:X.N[j]?=ž x) (hk:X.env.scope.names.lookup x=ž .cell\/X.env.scope.names.lookup x=ž .free)
   (hc:X.env.cells.lookup x=ž c) (t:bz X cl xs js):bz X ((x,c)::cl) (x::xs) (j::js)
noncomputable def eQ(X:Cx)(scope:a1I)(cl:Qa (Str×Qg))(Nc:Qa Str)(C:Qg)(s:Qd)(H:Hp)(ex:Qa Qg):Cx :=
 {X with bB:=s,H₀:=H,env:=compEnvC scope (ĥ (C+1) scope.names cl) C X.env,N:=Nc,outer:=X.stack,stack:=X.stack,ex:=ex,fn:=λx=>scope.names.lookup x==ž .cell,pn:=[],xe:=λ_ _=>False}
noncomputable def c0(nt:Nat)(js:Qa Nat)(σ:St):St:=Đ nt Ž++js.map λj=>σ.getD j Ž
def Wk(a b:St):Prop:=a.length=b.length/\∀(i:Nat) (v:V),a[i]?=ž (ž v)->b[i]?=ž (ž v)
def Um{a:St}{x:Qb V}(h:a[i]?=ž Ž):Wk a (a.set i x):=by
 refine⟨by simp,λj v e=>?_⟩;have ne:i≠j:=by intro z;rw[z,e]at h;cases h
 rw[qD ne];exact e
def FV(h:i < nt):(c0 nt js σ)[i]?=ž Ž:=by
 unfold c0;rw[č (by simpa using h),Į,a4b h]
def rE{X:Cx}{xs:Qa Str}(f:bz X cl xs js):∀x c,cl.lookup x=ž c->X.env.cells.lookup x=ž c:=by
 induction f with
 |nil=>intro x c e;cases e
 | @cons y d j cl xs js hN hk hc t ih=>
  intro x c e;rw[Ę]at e
  by_cases q:x=y
  .subst q
   rw[a4g]at e;injection e with e1;rw[<-e1];exact hc
  .rw[beq_eq_false_iff_ne.mpr q]at e
   exact ih x c e
def NC{X:Cx}{xs:Qa Str}(f:bz X cl xs js):∀x,x∈xs->∃c,cl.lookup x=ž c:=by
 induction f with
 |nil=>intro x m;cases m
 | @cons y d j cl xs js hN hk hc t ih=>
  intro x m;rw[Ę]
  by_cases q:x=y
  .subst q
   rw[a4g];exact⟨d,rfl⟩
  .rw[beq_eq_false_iff_ne.mpr q]
   rcases qw.mp m with z|z
   .exact absurd z q
   .exact ih x z
def ZT{X:Cx}{xs:Qa Str}(f:bz X cl xs js):∀(i:Nat) (x:Str) (σ:St) (v:V),xs[i]?=ž x->(js.map λj=>σ.getD j Ž)[i]?=ž (ž v)->
  ∃j:Nat,X.N[j]?=ž x/\σ[j]?=ž (ž v)/\(X.env.scope.names.lookup x=ž .cell\/X.env.scope.names.lookup x=ž .free)/\(∃c,X.env.cells.lookup x=ž c):=by
 induction f with
 |nil=>intro i x σ v e;simp at e
 | @cons y d j cl xs js hN hk hc t ih=>
  intro i x σ v e1 e2;cases i with
  |zero=>
   simp only[Ϙ,a2l]at e1;subst e1;refine⟨j,hN,?_,hk,d,hc⟩;simp only[Ċ,Ϙ,a2l]at e2;rw[qC]at e2;cases q:σ[j]? with
   |none=>rw[q]at e2;cases e2
   |some o=>rw[q]at e2;simp at e2;rw[e2]
  |succ i=>
   exact ih i x σ v (by simpa using e1) (by simpa using e2)
def G5:∀{names:Qa (Str×ϩ)} {x:Str} {k:ϩ},
  (names.map λ(n,k)=>if(k==Ź && env.scope.kind==.function && env.kindOf n==ž .cell)then(n,Ŏ)else(n,k)).lookup x=ž k->
  ∃k0,names.lookup x=ž k0/\(x,k0)∈names/\(k=k0\/(k0=.free/\k=.cell)):=by
 intro names
 induction names with
 |nil=>intro x k e;cases e
 |cons p r ih=>
  intro x k e;have(n,kn):=p
  by_cases q:x=n
  .subst q
   refine⟨kn,by rw[Ę,a4g],qq,?_⟩;rw[Ċ]at e;change Ľ x ((if(kn==Ź && env.scope.kind==.function && env.kindOf x==ž .cell)=ż then(x,Ŏ)else(x,kn))::_)=_ at e
   by_cases hh:(kn==Ź && env.scope.kind==.function && env.kindOf x==ž .cell)=ż
   .rw[a4b hh,Ę,a4g]at e
    injection e with e1;refine .inr ⟨?_,e1.symm⟩;simp only[ġ]at hh;exact by simpa using hh.1.1
   .rw[a4c hh,Ę,a4g]at e
    injection e with e1;exact .inl e1.symm
  .rw[Ċ]at e
   change Ľ x ((if(kn==Ź && env.scope.kind==.function && env.kindOf n==ž .cell)=ż then(n,Ŏ)else(n,kn))::_)=_ at e;have e':(r.map λ(n,k)=>if(k==Ź && env.scope.kind==.function && env.kindOf n==ž .cell)then(n,Ŏ)else(n,k)).lookup x=ž k:=by
    by_cases hh:(kn==Ź && env.scope.kind==.function && env.kindOf n==ž .cell)=ż
    .rw[a4b hh,Ę,beq_eq_false_iff_ne.mpr q]at e
     exact e
    .rw[a4c hh,Ę,beq_eq_false_iff_ne.mpr q]at e
     exact e
   have(k0,h1,h2,h3):=ih e';refine⟨k0,by rw[Ę,beq_eq_false_iff_ne.mpr q];exact h1,qp _ h2,h3⟩
def zph{X:Cx}{xs:Qa Str}(f:bz X cl xs js):js.length=xs.length:=by
 induction f with
 |nil=>rfl
 |cons _ _ _ _ ih=>simp[ih]
structure v5 (scope:a1I) (xs:Qa Str):Prop where
 kind:scope.kind=.function
 cell:∀y∈scope.names,y.2=.cell->scope.names.lookup y.1=ž .cell
 names:∀y∈scope.names,y.2=.local->scope.names.lookup y.1=ž .local
 free:∀y∈scope.names,y.2=.free->y.1∈xs
 fk:∀x∈xs,scope.names.lookup x=ž .free
def n6:∀(ns:Qa (Str×ϩ)) (n:Nat) (acc:Qa (Str×Qg)),ĥ n ns acc=ĥ n ns []++acc
 |[],_,_=>rfl
 | (x,k)::r,n,acc=>by
  unfold ĥ;split
  .rw[n6 r (n+1)<|(x,n)::acc,n6 r (n+1) [(x,n)],ŉ]
   rfl
  .exact n6 r n acc
def Fh:∀(ns:Qa (Str×ϩ)) (n:Nat) {x:Str} {c:Qg},(x,c)∈ĥ n ns []->(x,Ŏ)∈ns
 |[],_,_,_,h=>by cases h
 | (y,k)::r,n,x,c,h=>by
  unfold ĥ at h;split at h
  .rename_i hk
   rw[n6,a3Z]at h;rcases h with h|h
   .exact qp _ (Fh r _ h)
   .cases qr.mp h
    cases eq_of_beq hk;exact qq
  .exact qp _ (Fh r _ h)
def Bk:∀(ns:Qa (Str×ϩ)) (n:Nat) {x:Str},(x,Ŏ)∈ns->∃c,(ĥ n ns []).lookup x=ž c
 |[],_,_,h=>by cases h
 | (y,k)::r,n,x,h=>by
  unfold ĥ;rcases qw.mp h with e|h'
  .cases e
   rw[a4b (by rfl:(Ŏ==Ŏ)=ż),n6,ŧ];cases(ĥ (n+1) r []).lookup y with
   |none=>exact⟨n,by rw[Ę,a4g];rfl⟩
   |some c=>exact⟨c,rfl⟩
  .split
   .have(c,e):=Bk r (n+1) h'
    rw[n6,ŧ,e];exact⟨c,rfl⟩
   .exact Bk r n h'
def uZ{ns:Qa (Str×ϩ)}{acc:Qa (Str×Qg)}{c:Qg}(h:(ĥ n ns acc).lookup x=ž c):(ĥ n ns []).lookup x=ž c\/(acc.lookup x=ž c/\(ĥ n ns []).lookup x=Ž):=by
 rw[n6,ŧ]at h;cases e:(ĥ n ns []).lookup x with
 |none=>rw[e]at h;exact .inr ⟨h,rfl⟩
 |some d=>rw[e]at h;exact .inl h
def J6{ns:Qa (Str×ϩ)}{acc:Qa (Str×Qg)}{c:Qg}(h:(ĥ n ns []).lookup x=ž c):(ĥ n ns acc).lookup x=ž c:=by
 rw[n6,ŧ,h];rfl
def ZS{M:Model}{s:Qd}{globals:Qg}{bs:Qg}{Q:Env->Qd->Prop}
  (hQ:∀h1,h1.Ns s.heap.objs.size (λ_=>Ž)->(∀b o,s.heap.get? b=ž o->h1.get? b=ž o)->CellsOk h1 (s.heap.objs.size+1) (ĥ (s.heap.objs.size+1) scope.names [])->
   Q (newEnv scope s.heap.objs.size globals (ĥ (s.heap.objs.size+1) scope.names cl) qual Ž .none (ž env) bs) {s with heap:=h1}):
  đ M A (a2B scope globals cl [] qual Ž .none (ž env) bs) Q E s:=by
 simp only[a2B,a0v,if_true];refine qa<|wpAny_alloc ?_;refine qa<|wpAny_layCells _ (λname kind cells=>by cases hkc:kind==Ŏ<;>simp[hkc]) _ _ _ _ ?_;have ok:=cellsFrom_ok scope.names (s.heap.push {cls:=.type "dict",data:=.dict #[]}) (s.heap.objs.size+1) [] ⟨λ_ _ hm=>(nomatch hm),a1S⟩ (by rw[Ň];exact qe _);rw[Ň]at ok;rw[show({s with heap:=s.heap.push {cls:=.type "dict",data:=.dict #[]}}:Qd).heap.objs.size=s.heap.objs.size+1 from Ň ..];rw[List.forIn_nil];exact qa<|qb<|qb<|hQ _ ((Heap.Ns.new s.heap<|.type "dict").keeps<|pushCells_keeps _ _) (λb o e=>pushCells_keeps _ _ b o<|qd _ e) ok
section
variable{X:Cx}{s:Qd}{xs:Qa Str}{ts:Qa Str}{fp:Qa Qg}{C:Qg}
def Mn{hx:Ĭ}(I:Inv X pins σ H s)(S:v5 scope xs)(f:bz X cl xs js)(ck:CellsOk hx (C+1) (ĥ (C+1) scope.names []))(hC:s.heap.objs.size<=C)(hf:∀b∈fp,ir X pins H b)(hl:∀b∈fp,b < s.heap.objs.size):
  (eQ X scope cl (ts++xs) C s H fp).Ok where
 mod:=I.ok.mod
 kind:=S.kind
 glob:=I.ok.glob
 blt:=I.ok.blt
 above:=hC
 inj:=λx y c e1 e2=>by
  have no:∀{x y:Str},(ĥ (C+1) scope.names []).lookup x=ž c->cl.lookup y=ž c->False:=λz1 z2=>by
   have(v,o,q,_):=I.cell _ c (rE f _ c z2);have q1:=qh q;have q2:=(ck.empty _ _<|mem_of_lookup z1).2;exact Ú _<|qi q1<|qA hC<|qA (Ð C) q2
  rcases uZ e1 with z1|⟨z1,_⟩<;>rcases uZ e2 with z2|⟨z2,_⟩
  .exact name_of_addr ck.apart (mem_of_lookup z1) (mem_of_lookup z2)
  .exact(no z1 z2).elim
  .exact(no z2 z1).elim
  .exact I.ok.inj x y c (rE f x c z1) (rE f y c z2)
 has:=λx h=>by
  have z:∃k0,scope.names.lookup x=ž k0/\(x,k0)∈scope.names/\(k0=Ź\/k0=Ŏ):=by
   rcases h with h|h
   .have(k0,h1,h2,h3):=G5 (env:=X.env) (names:=scope.names) h
    rcases h3 with h3|h3
    .exact⟨k0,h1,h2,.inr h3.symm⟩
    .exact⟨k0,h1,h2,.inl h3.1⟩
   .have(k0,h1,h2,h3):=G5 (env:=X.env) (names:=scope.names) h
    rcases h3 with h3|h3
    .exact⟨k0,h1,h2,.inl h3.symm⟩
    .cases h3.2
  have(k0,_,h2,h3):=z;show ∃c,(ĥ (C+1) scope.names cl).lookup x=ž c;rcases h3 with h3|h3
  .have(c,e):=NC f x (S.free _ h2 h3)
   rw[n6,ŧ,e];cases(ĥ (C+1) scope.names []).lookup x with
   |none=>exact⟨c,rfl⟩
   |some d=>exact⟨d,rfl⟩
  .subst h3
   have(c,e):=Bk scope.names (C+1) h2;exact⟨c,J6 e⟩
 vW:=λx c h e=>by
  have(d,q):=Bk scope.names (C+1) (mem_of_lookup<|eq_of_beq h);have e':(ĥ (C+1) scope.names cl).lookup x=ž c:=e;rw[J6 q]at e';cases e';have:=(ck.empty _ _<|mem_of_lookup q).2;show s.heap.objs.size<=c;omega
 hd:=I.ok.hd
 frames:=I.ok.frames
 ya:=.inl rfl
 Dq:=λb hb=>⟨qj<|qi (hl b hb) hC,λx c e=>by
  rcases uZ e with z|⟨z,_⟩
  .have q1:=(ck.empty _ _<|mem_of_lookup z).2
   exact a1j<|qi (hl b hb)<|qA hC<|qA (Ð C) q1
  .exact(hf b hb).2.2.2.2.1 x c (rE f x c z)⟩
 bs:=I.bs
 oR:=qA I.ok.oR I.sz
 kJ:=λb o e hb=>by
  rcases(hf b hb).2.2.2.1 with z|z
  .exact I.ok.kJ b o e z
  .exact absurd (qi (qh (I.ok.bs b o e).1) z) (Ú _)
 nD:=λb hb z=>by
  rcases qw.mp (I.g9 b z)with q|q
  .exact(hf b hb).2.1 q
  .exact(hf b hb).2.2.1 q
 eA:=I.stack
 rV:=I.jS
def ZR{m:Str->Qb Qc}{h1:Ĭ}{tk:Nat}(I:Inv X pins σ H s)(S:v5 scope xs)(f:bz X cl xs js)(oG:ts.length=nt)(hC:s.heap.objs.size<=C)(hf:∀b∈fp,ir X pins H b)(hl:∀b∈fp,b < s.heap.objs.size)
  (hk:∀b o,s.heap.get? b=ž o->h1.get? b=ž o) (hn:h1.Ns C m) (ck:CellsOk h1 (C+1) (ĥ (C+1) scope.names [])):Inv (eQ X scope cl (ts++xs) C s H fp) [] (c0 nt js σ) H {s with heap:=h1,toks:=tk} where
 ok:=Mn I S f ck hC hf hl
 os:=rfl
 bare:=I.bare
 base:=Un.kept hk
 loc:=by
  refine⟨m,hn,λi x v e1 e2 e3=>?_⟩;have hi:nt<=i:=by
   rcases χ i nt with z|z
   .rw[FV z]at e2;cases e2
   .exact z
  have Dt:xs[i - nt]?=ž x:=by
   have z:(ts++xs)[i]?=ž x:=e1;rw[Ď (by omega),oG]at z;exact z
  have e2':(js.map λj=>σ.getD j Ž)[i - nt]?=ž (ž v):=by
   unfold c0 at e2;rw[Ď (by simpa using hi),ę]at e2;exact e2
  have(j,hN,hσ,Rh,c,hc):=ZT f (i - nt) x σ v Dt e2';have(m0,_,rQ):=I.loc;have(u,r,lk):=rQ j x v hN hσ (.inr Rh);refine⟨u,r,.inr ⟨?_,?_⟩⟩
  .rcases e3 with z|z|z
   .have hx:x∈xs:=Ñ Dt
    have(k0,h1,h2,h3):=G5 (env:=X.env) (names:=scope.names) z;have q:=S.fk x hx;rw[h1]at q;cases q;rcases h3 with h3|h3
    .cases h3
    .cases h3.2
   .exact .inl z
   .exact .inr z
  .have(c',kO):=NC f x (Ñ Dt)
   have no:(ĥ (C+1) scope.names []).lookup x=Ž:=by
    cases e:(ĥ (C+1) scope.names []).lookup x with
    |none=>rfl
    |some d=>
     have z:=S.cell _ (Fh _ _<|mem_of_lookup e) rfl;rw[S.fk x<|List.mem_of_getElem? Dt]at z;cases z
   refine⟨c',?_,?_⟩
   .show(ĥ (C+1) scope.names cl).lookup x=ž c'
    rw[n6,ŧ,no,kO];rfl
   have q:=rE f x c' kO;rcases lk with⟨l1,_⟩|⟨_,c'',l2,l3⟩
   .exfalso
    have QY:X.env.scope.names.lookup x=ž .local:=l1;rcases Rh with z|z<;>rw[z]at QY<;>cases QY
   .rw[q]at l2
    cases l2;exact l3.keeps hk
 cell:=λx c e=>by
  rcases uZ e with z|⟨z,_⟩
  .exact⟨_,(ck.empty _ _<|mem_of_lookup z).1⟩
  .have(v,z):=I.cell x c (rE f x c z)
   exact⟨v,z.keeps hk⟩
 free:=I.aF.fresh hC
 bP:=λx c e=>by
  rcases uZ e with z|⟨z,_⟩
  .exact I.aF.fresh (by have:=(ck.empty _ _<|mem_of_lookup z).2;omega)
  .exact I.bP x c (rE f x c z)
 pin:=λp hp=>by cases hp
 aF:=I.aF.kept hk
 len:=by
  show(c0 nt js σ).length=(ts++xs).length;unfold c0;rw[qu,qu,ę,ĉ,oG];rw[zph f]
def NB{w:Qh}{o:HO}(x:cq P w K H h)(hn:H a=Ž)(new:zX P w K (upd H a o) h a o):cq P w K (upd H a o) h:=λb u e=>by
 by_cases hb:b=a
 .subst hb;rw[zw]at e;cases e;exact new
 .rw[zu hb]at e
  exact(x b u e).cx (λ_ _ _ q=>q) (λc q=>(zu<|kA q hn).trans q) λc ys q=>(zu<|kA q hn).trans q
def Ni{fs ex:Qa Qg}{H1:Hp}{h1:Ĭ}{o:HO}(u:Un fs ex H H1 h h1)(hn:H1 a=Ž)(ha:h.objs.size<=a):Un fs ex H (upd H1 a o) h h1 where
 keep:=u.keep
 slot:=u.slot
 free:=λb ob q n hx=>(zu<|qj<|qi (qh q) ha).trans (u.free b ob q n hx)
 there:=u.there
 eS:=λb ys q=>(zu<|kA (u.eS b ys q) hn).trans (u.eS b ys q)
 dI:=λb ob ys q=>(zu<|kA (u.dI b ob ys q) hn).trans (u.dI b ob ys q)
 fO:=λb ps q=>by
  have(more,e):=u.fO b ps q;exact⟨more,(zu<|kA e hn).trans e⟩
def qQ(X:Cx)(ifs:Qa Ĥ)(t:TT):Prop :=
 ∀(pins:Qa (Qg×Obj)) (s:Qd) (σ:St) (H:Hp) (Q:Bool->Hp->Prop),Inv X pins σ H s->t σ H Q->
  đ (Ĕ X.prog X.w) X.A (forIn ifs ż λc r=>if r=ż then do let ok <-a1V c X.env (ŀ c X.env);pure (Ρ ok)else pure (Ρ r)) (TP X pins σ Q) X.xe s
def D8:TT:=λ_ H Q=>Q ż H
def ZQ{X:Cx}:qQ X [] D8:=λ_ _ _ H _ I h=>wpAny_tests_nil ⟨H,I,h⟩
def ZP{X:Cx}{c:Ĥ}{t:TT}(h:PT X c t):qQ X [c] t:=λpins s σ H Q I q=>wpAny_tests_one<|h pins s σ H Q I q
def D7{t:Sem α}{Q Q':α->Qd->Prop}{M:Model}{s:Qd}(h:đ M A t Q (λ_ _=>False) s)(hQ:∀a s,Q a s->Q' a s):đ M A t Q' E s:=ľ h hQ λ_ _ x=>x.elim
def zmd{w:Qh}{R:ϟ->Qd->Prop}{s:Qd}{target:Ĥ}{pos:Pos}{it acc:Qc}(I:Nat->Qd->Prop)
  (turn:∀n s,I n s->∀E,đ (Ĕ prog w) A (a2A it) (λr s1=>match r with
   |none=>R (.ok .next) s1
   |some v=>đ (Ĕ prog w) A (a0u target it v) (λ_ s2=>đ (Ĕ prog w) A (Β target env v) (λ_ s3=>
     đ (Ĕ prog w) A (forIn ifs ż λc r=>if r=ż then do let ok <-a1V c env (ŀ c env);pure (Ρ ok)else pure (Ρ r)) (λok s4=>
      (ok=ż->đ (Ĕ prog w) A (ŀ elt env) (λx s5=>đ (Ĕ prog w) A (call (.builtin "list.append") [acc,x]) (λ_ s6=>∃m,m < n/\I m s6) E s5) E s4)/\
      (ok=Ż->∃m,m < n/\I m s4)) E s3) E s2) E s1) E s)
  (n:Nat) (h:I n s):a0q (Ĕ prog w) A (.compLoop (.ListComp elt [⟨target,iter,ifs,0⟩] scope pos) 0 it acc env) R s:=by
 refine codeAny_loop rfl I (λn s hI=>?_) n h;show đ _ A ((compTurn _ 0 it acc env).onRaise (λx=>do noteFrame x env;theTreesLotGoes x)) _ _ s;refine wpAny_noted ?_;rw[compTurn_list];refine qa<|π<|qa<|ľ (turn n s hI _) (λr s1 h1=>?_) λ_ _ z=>z;cases r with
 |none=>exact qb h1
 |some v=>
  refine qa<|ľ h1 (λ_ s2 h2=>?_) λ_ _ z=>z;refine qa<|ľ h2 (λ_ s3 h3=>?_) λ_ _ z=>z;refine qa<|ľ h3 (λok s4 h4=>?_) λ_ _ z=>z;cases ok with
  |false=>exact qb ⟨rfl,h4.2 rfl⟩
  |true=>
   refine qa<|qa<|ľ (h4.1 rfl) (λx s5 h5=>?_) λ_ _ z=>z;exact qa<|ľ h5 (λ_ s6 h6=>qb<|qb ⟨rfl,h6⟩) λ_ _ z=>z
def Qj(J:It)(kY:St)(g:TG)(tt:TT)(te:TE)(Z:Qa V->Hp->Prop)(H1:Hp):Prop :=
 ∃W:Nat->Nat->Qa V->Hp->Prop,(∃m,W 0 m [] H1)/\∀i m ys H,W i m ys H->
  (J.stop i H/\Z ys H)\/(J.go i H/\ys.length < ċ/\∃N:Qa V->Hp->Prop,(∀jQ H',N jQ H'->∃m',m' < m/\W (i+1) m' jQ H')/\
   ∀x H',J.xU i H x H'->g x kY H' λgJ H2=>tt gJ H2 λb H3=>if b=ż then te gJ H3 λy H4=>N (ys++[y]) H4 else N ys H3)
def GW(kY:St)(g:TG):Prop:=∀x H (Q:St->Hp->Prop),g x kY H Q->g x kY H λgJ H2=>Wk kY gJ/\Q gJ H2
def NP{pos:Pos}{J:It}{Z:Qa V->Hp->Prop}{RR:Qc->Qg->ϟ->Qd->Prop}
  (hc:X.calm=ż) (I:Inv X pins σ H s) (S:v5 scope xs) (f:bz X cl xs js) (oG:ts.length=nt) (T:Turn X.prog X.w X.K tg J fp it tn) (st:tn 0 s.heap) (hf:∀b∈fp,ir X pins H b)
  (hg:∀C s H ex,PG (eQ X scope cl (ts++xs) C s H ex) tg g) (ht:∀C s H ex,qQ (eQ X scope cl (ts++xs) C s H ex) ifs tt) (he:∀C s H ex,PE (eQ X scope cl (ts++xs) C s H ex) elt te)
  (gw:GW (c0 nt js σ) g) (h:Qj J (c0 nt js σ) g tt te Z H)
  (hRR:∀(D C:Qg) (m:Str->Qb Qc) (s':Qd) (ys:Qa V) (H':Hp),Z ys H'->H' D=Ž->Inv X pins σ (upd H' D<|.lst ys) s'->s'.heap.Ns C m->upd H' D (.lst ys) C=Ž->C≠X.env.locals->
   (∀x c,X.env.cells.lookup x=ž c->c≠C)->X.bB.heap.objs.size<=C->(∀p∈X.pn++pins,p.1≠C)->RR (.ref D) C (.ok .next) s'):
  đ (Ĕ X.prog X.w) X.A (newList []) (λacc s3=>đ (Ĕ X.prog X.w) X.A (a2B scope X.env.globals cl [] X.env.qual Ž .none<|some X.env) (λyU s4=>
   a0q (Ĕ X.prog X.w) X.A (.compStart (.ListComp elt [⟨tg,iter,ifs,0⟩] scope pos) 0 (.ref it) acc {yU with scope:=relabel scope X.env}) (RR acc yU.locals) s4) E s3) E s:=by
 refine qB<|ZS λh1 IC pZ ck=>?_;dsimp only at IC pZ ck ⊢;generalize IU:s.heap.push {cls:=.type "list",dict:=Ž,data:=.seq ([]:Qa Qc).toArray}=G at IC pZ ck ⊢;have vQ:G.objs.size=s.heap.objs.size+1:=by rw[<-IU,Ň]
 have hC:s.heap.objs.size<=G.objs.size:=by rw[vQ];exact Ð _
 have Rr:s.heap.objs.size≠G.objs.size:=by rw[vQ];exact qj<|è _
 have hl:∀b∈fp,b < s.heap.objs.size:=λb hb=>by
  have(o,e,_):=T.obj _ _ st b hb;exact qh e
 have old:∀b o,s.heap.get? b=ž o->h1.get? b=ž o:=λb o e=>
  pZ b o (IU▸qd _ e)
 have hD1:h1.get? s.heap.objs.size=ž {cls:=.type "list",data:=.seq ([]:Qa Qc).toArray}:=pZ _ _ (IU▸qg _ rfl);have J0:Inv (eQ X scope cl (ts++xs) G.objs.size s H fp) [] (c0 nt js σ) H {s with heap:=h1}:=ZR (tk:=s.toks) I S f oG hC hf hl old IC ck;obtain⟨W,⟨m0,w0⟩,turn⟩:=h;have CI:tn 0 h1:=T.keep _ _ _ st λb hb o e=>old b o e;have hDn:H s.heap.objs.size=Ž:=I.aF.fresh (qe _);have Aa:∀b∈fp,s.heap.objs.size≠b:=λb hb z=>absurd (hl b hb) (by rw[<-z];exact Ú _);have Ja:∀{H':Hp} {pl:Qa (Qg×Obj)},(∀b∈fp,H' b=Ž)->(∀p∈pl,p.1=s.heap.objs.size)->∀b∈fp,ir (eQ X scope cl (ts++xs) G.objs.size s H fp) pl H' b:=λ{H' pl} hn hp b hb=>by
  refine⟨hn b hb,qj<|qi (hl b hb) hC,λz=>?_,.inl hb,λx c e=>((Mn I S f ck hC hf hl (ts:=ts)).Dq b hb).2 x c e,λp lU z=>?_⟩
  .rcases qw.mp (I.g9 b z)with q|q
   .exact(hf b hb).2.1 q
   .exact(hf b hb).2.2.1 q
  .rcases Ï.mp lU with q|q
   .cases q
   .exact Aa b hb ((hp p q).symm.trans z)
 have loop:a0q (Ĕ X.prog X.w) X.A (.compLoop (.ListComp elt [⟨tg,iter,ifs,0⟩] scope pos) 0 (.ref it) (.ref s.heap.objs.size)<|compEnvC scope (ĥ (G.objs.size+1) scope.names cl) G.objs.size X.env) (RR (.ref s.heap.objs.size) G.objs.size)
   {s with heap:=h1}:=by
  refine zmd (λn s'=>∃i ys aq nn H',Inv (eQ X scope cl (ts++xs) G.objs.size s H fp) [] (c0 nt js σ) H' s'/\tn i s'.heap/\(∀b∈fp,H' b=Ž)/\H' s.heap.objs.size=Ž/\
   s'.heap.get? s.heap.objs.size=ž {cls:=.type "list",data:=.seq (a0Y aq) nn}/\zV ys aq/\ys.length<=ċ/\W i n ys H') ?_ m0
   ⟨0,[],[],0,H,J0,CI,λb hb=>(hf b hb).1,hDn,hD1,.nil,Ê _,w0⟩
  rintro n s3 ⟨i,ys,aq,nn,H3,I3,yb,yP,d3,o3,r3,z3,w3⟩ E';have oQ:s.heap.objs.size≠(eQ X scope cl (ts++xs) G.objs.size s H fp).env.locals:=Rr;have Su:Inv (eQ X scope cl (ts++xs) G.objs.size s H fp) [(s.heap.objs.size,{cls:=.type "list",data:=.seq aq.toArray nn})] (c0 nt js σ) H3 s3:=I3.fu λp hp=>by
   have e:p=(s.heap.objs.size,{cls:=.type "list",data:=.seq aq.toArray nn}):=by simpa using hp
   subst e;refine⟨o3,d3,oQ,λz=>?_,λv z=>by cases z⟩;have(_,ob,e,_):=I.stack.mem z;exact absurd (qh e)<|Ú _
  have HA:∀p∈[(s.heap.objs.size,({cls:=.type "list",data:=.seq aq.toArray nn}:Obj))],p.1=s.heap.objs.size:=λp hp=>by
   have e:p=(s.heap.objs.size,{cls:=.type "list",data:=.seq aq.toArray nn}):=by simpa using hp
   rw[e]
  rcases turn i n ys H3 w3 with⟨stop,qz⟩|⟨go,hsz,N,hN,step⟩
  .refine aI (T.done (eQ X scope cl (ts++xs) G.objs.size s H fp) rfl rfl rfl hc i _ s3 _ H3 E' Su (Ja yP HA) yb stop) λr s4 hZ=>?_
   have(hr,I4):=hZ;subst hr;have o4:s4.heap.get? s.heap.objs.size=ž {cls:=.type "list",data:=.seq aq.toArray nn}:=(I4.pin _<|qx _ qq).1;have(m4,n4,_):=I4.loc;have hk4:cq X.prog X.w X.K (upd H3 s.heap.objs.size<|.lst ys) s4.heap:=NB I4.aF d3 ⟨z3,aq,nn,r3,o4⟩;have un4:Un (kQ X.stack) fp H (upd H3 s.heap.objs.size<|.lst ys) s.heap s4.heap:=Ni I4.base d3 (qe _);refine hRR _ _ m4 s4 ys H3 qz d3 (I.yV I4.os un4 hk4 I4.bare λb hb=>⟨(hf b hb).2.2.2.1,(hf b hb).2.1,(hf b hb).2.2.2.2.1,λp hp=>(hf b hb).2.2.2.2.2 p hp⟩) n4 ?_ ?_ ?_ ?_ ?_
   .rw[zu<|ī Rr]
    exact I4.free
   .exact λz=>absurd I.lt (by rw[<-z];exact Nat.not_lt.mpr hC)
   .intro x c e z
    have(v,ob,q,_):=I.cell x c e;exact absurd (qh q) (by rw[z];exact Nat.not_lt.mpr hC)
   .exact qA I.sz hC
   .intro p hp z
    have q:=(I.pin p hp).1;exact absurd (qh q) (by rw[z];exact Nat.not_lt.mpr hC)
  .refine aI (T.item (eQ X scope cl (ts++xs) G.objs.size s H fp) rfl rfl rfl hc i _ s3 _ H3 E' Su (Ja yP HA) yb go) λr s4 hZ=>?_
   have(u,hr,h4):=hZ;subst hr;refine aI h4 λ_ s5 hZ=>?_;have(x,H5,I5,r5,y5,tE,I9):=hZ;have Jn:=I5.pinned (Ja I9 HA) (T.obj _ _ tE);refine D7 (hg _ _ _ _ _ s5 _ H5 x u _ Jn r5<|gw _ _ _<|step x H5 y5) λ_ s6 hZ=>?_;have(wg,H6,I6,Qq,q6):=hZ;refine D7 (ht _ _ _ _ _ s6 wg H6 _ I6 q6) λok s7 hZ=>?_;have(H7,I7,q7):=hZ;have after:∀{H8:Hp} {s8:Qd},Inv (eQ X scope cl (ts++xs) G.objs.size s H fp) ([(s.heap.objs.size,({cls:=.type "list",data:=.seq aq.toArray nn}:Obj))]++xl fp s5.heap) wg H8 s8->
     tn (i+1) s8.heap/\(∀b∈fp,H8 b=Ž)/\H8 s.heap.objs.size=Ž/\s8.heap.get? s.heap.objs.size=ž {cls:=.type "list",data:=.seq aq.toArray nn}/\
      Inv (eQ X scope cl (ts++xs) G.objs.size s H fp) [] (c0 nt js σ) H8 s8:=λ{H8 s8} I8=>by
    have dd:=I8.pin (s.heap.objs.size,({cls:=.type "list",data:=.seq aq.toArray nn}:Obj)) (qx _<|a0j _ qq);refine⟨T.keep _ _ _ tE λb hb o e=>(I8.pin (b,o)<|qx _<|qx _<|Cb hb e).1,λb hb=>?_,dd.2.1,dd.1,?_⟩
    .have(o,e,d):=T.obj _ _ tE b hb
     exact(I8.pin (b,o)<|qx _<|qx _<|Cb hb e).2.1
    .exact(I8.weak Qq.1 Qq.2).fu λp hp=>by cases hp
   refine⟨λaF=>?_,λaF=>?_⟩
   .subst aF
    rw[a4b rfl]at q7;refine D7 (he _ _ _ _ _ s7 wg H7 _ I7 q7) λv s8 hZ=>?_;have(y,H8,I8,ry,q8):=hZ;have(st8,fr8,d8,o8,I8'):=after I8;have(m',hm,w8):=hN _ _ q8;refine a2C a4a ⟨_,o8,rfl⟩ a3P (a3F _ _) (a3m s.heap.objs.size aq.toArray nn v (by rw[ď,<-r3.length];omega)) ⟨o8,?_⟩;have(_,f1,_,f3,f4,_):=(⟨d8,oQ,trivial,.inr<|qe _,λx c e=>by
     rcases uZ e with z|⟨z,_⟩
     .exact a1j (qi (È hC<|è _) (ck.empty _ _<|mem_of_lookup z).2)
     .have(v0,ob,q,_):=I.cell x c (rE f x c z)
      exact a1j (qh q) |>.symm,trivial⟩:H8 s.heap.objs.size=Ž/\s.heap.objs.size≠(eQ X scope cl (ts++xs) G.objs.size s H fp).env.locals/\True/\(s.heap.objs.size∈fp\/s.heap.objs.size<=s.heap.objs.size)/\
      (∀x c,(ĥ (G.objs.size+1) scope.names cl).lookup x=ž c->c≠s.heap.objs.size)/\True)
    have q:=a2L o8 (λx=>x.push v);have hp:aq.toArray.push v=(aq++[v]).toArray:=by simp
    rw[hp]at q;refine⟨m',hm,i+1,ys++[y],aq++[v],_,H8,I8'.turned (t':=s8.toks) (it:=s.heap.objs.size) (λb o hb e=>(ù s8.heap _<|ī hb).trans e) d8 f1 f3 f4 (λp hp=>by cases hp),?_,fr8,d8,q,r3.append<|.cons ry .nil,?_,w8⟩
    .exact T.keep _ _ _ st8 λb hb o e=>(ù s8.heap _<|Aa b hb).trans e
    .rw[qu,Ĳ]
     omega
   .subst aF
    rw[a4c qf]at q7;have(st7,fr7,d7,o7,I7'):=after I7;have(m',hm,w7):=hN _ _ q7;exact⟨m',hm,i+1,ys,aq,nn,H7,I7',st7,fr7,d7,o7,r3,z3,w7⟩
 exact codeAny_compStart_list loop<|T.self _ _ _ _ _ CI loop
def vw(wi:TI)(nt:Nat)(js:Qa Nat)(g:TG)(tt:TT)(te:TE):TE:=λσ H Q=>wi σ H λJ H1=>
 Qj J (c0 nt js σ) g tt te (λys H2=>∀D,H2 D=Ž->Q (.ref D) (upd H2 D<|.lst ys)) H1
def zAG{pos:Pos}(nt:Nat)(ts:Qa Str)(oG:ts.length=nt)(hc:X.calm=ż)(S:v5 scope xs)(f:bz X cl xs js)(iM:closureFor scope X.env=pure cl)
  (hi:PI X tg iter wi) (hg:∀C s H ex,PG (eQ X scope cl (ts++xs) C s H ex) tg g) (gw:∀σ:St,GW (c0 nt js σ) g) (ht:∀C s H ex,qQ (eQ X scope cl (ts++xs) C s H ex) ifs tt)
  (he:∀C s H ex,PE (eQ X scope cl (ts++xs) C s H ex) elt te) (hs:∀x,ϧ iter X.env x=pure x:=by intro _;rfl):
  PE X (.ListComp elt [⟨tg,iter,ifs,0⟩] scope pos) (vw wi nt js g tt te):=by
 intro pins s σ H Q I h;rw[eval_ListComp];refine a2V (use:=Ž) rfl hs iM S.kind S.names<|aI (hi pins s σ H _ I h) λv s1 h1=>aI h1 λCW s2 h2=>?_;have(it,fp,tn,J,H2,e,I2,T,iG,f2,q):=h2;subst e;refine NP (RR:=λacc C=>compPost (Ĕ X.prog X.w) X.A X.xe Ž (EP X pins σ Q) acc C) hc I2 S f oG T iG f2 hg ht he (gw σ) q ?_;intro D C m s' ys H' z hD I' hn IX Di Dh vQ IW;refine⟨m,hn,λh' oI=>⟨.ref D,_,I'.turned (it:=C) (λb o hb e=>oI.extBut b o hb e) IX Di (.inr vQ) Dh IW,rfl,z D hD⟩⟩
end
section
variable{X:Cx}
def pq(_ j:Int):Prop:=0 < j/\j.natAbs.log2 < 9000
def mL:cp X (ώ .FloorDiv) (rI pq λi j=>.int<|i / j):=vy λi j _ _ _ _ _ hc q=>by
 have h1:(0:Int) < j:=hc.1;exact floordiv_int (by omega) (by rw[Ζ i (by omega)];exact q)<|.inl<|Γ hc.2
def uH(_ j:Int):Prop:=j≠0/\j.natAbs.log2 < 9000
def Nh:cp X (ώ .FloorDiv) (rI uH λi j=>.int<|i.fdiv j):=vy λi j _ _ _ _ _ hc q=>
 floordiv_int hc.1 q (.inl<|Γ hc.2)
def B9{k:Nat}(hk:0 < k)(h:n < 2^k):n.log2 < k:=by
 by_cases hn:n=0
 .subst hn;exact hk
 .exact(a3g hn).mpr h
def W4{i j:Int}(h:0 < j)(h2:j<=2^128):pq i j:=⟨h,ý (B9 (k:=129) (by decide) (by omega)) (by decide)⟩
def D6(K:qc):Qa V->Hp->VK->Prop:=λxs H Q=>∃x t T b,xs=[x,.ty T]/\dJ K H x t/\Ņ K t (.type T)=ž b/\Q (.bl b) H
def ZO:gO X (.builtin "isinstance") (D6 X.K):=by
 intro pins s σ H xs us Q I r h;have(x,t,T,b,rfl,ty,e,q):=h;have(u,u',rfl,rx,rt):=ES r;cases rt;exact zo7 I rx ty e λtk=>⟨.bl b,H,I.tok tk,rfl,q⟩
end
def Mm(h:i < nt):∀σ:St,GW (c0 nt js σ) (lB i):=λσ x H Q q=>⟨Um<|FV h,q⟩
def SameBut(p:Qg)(H H':Hp):Prop:=∀b o,b≠p->H b=ž o->H' b=ž o
def jP{p:Qg}(h:H p=Ž)(o:HO):eD H (upd H p o):=λb u q=>by rw[zu<|kA q h];exact q
def Bl(mg:Str->Qb Qc)(xs:Qa Str):Prop:=∀x,x∈xs->mg x=Ž
def Bl.nil:Bl mg []:=λ_ h=>by cases h
def Bl.cons{xs:Qa Str}(h:mg x=Ž)(t:Bl mg xs):Bl mg (x::xs):=λy m=>by
 rcases qw.mp m with e|e
 .rw[e];exact h
 .exact t y e
noncomputable def dz:Ĥ->Bool
 |.Starred _ _=>Ż
 |_=>ż
def jc{es:Qa Ĥ}(h:dz e=ż):ĭ (e::es) env=(Ż,ŀ e env)::ĭ es env:=by
 cases e<;>first|rfl|cases h
def rB{pos:Pos}:∀{es:Qa Ĥ},es.all dz=ż->(Ϩ pos<|ĭ es env).any (·.1)=Ż
 |[],_=>rfl
 |e::es,h=>by
  rw[ϑ,ġ]at h;rw[jc h.1];show(Ż || (Ϩ pos<|ĭ es env).any (·.1))=Ż;rw[a2o];exact rB h.2
section
variable{X:Cx}{es:Qa Ĥ}{t:TA}{id:String}{p pos:Pos}
def zCJ(ha:PE X e te)(hr:PA X es t)(hs:dz e=ż:=by rfl):PA X (e::es) (kl te t):=Xd ha hr (jc hs)
def zAH(hc:gO X (.builtin id) r)(hg:Gl X x)(hm:X.mg x=Ž)(hv:ř x=ž (.builtin id))(ha:PA X (e::es) t)(hn:x ≠ "__name__":=by decide)(fY:(x==("__debug__":Str))=Ż:=by decide)
  (he:dz e=ż:=by rfl) (fB:es.all dz=ż:=by rfl):PE X (.Call (.Name x p) (e::es) [] pos) (pS r t):=ZE hc hg hm hv ha hn fY (jc he) (rB fB)
def zAI(hc:gO X (.type T) r)(hg:Gl X x)(hm:X.mg x=Ž)(hv:ř x=ž (.type T))(ha:PA X (e::es) t)(hn:x ≠ "__name__":=by decide)(fY:(x==("__debug__":Str))=Ż:=by decide)
  (he:dz e=ż:=by rfl) (fB:es.all dz=ż:=by rfl):PE X (.Call (.Name x p) (e::es) [] pos) (pS r t):=zo9 hc hg hm hv ha hn fY (jc he) (rB fB)
end
structure Jr (P:Qe) (w:Qh) (K:qc) (mg:Str->Qb Qc) (base:Ĭ) (x:Str) (k:Nat) (ps:Qa Str) (sp:Sp):Prop where
 ex:∃(f:Qg) (fd:Š),cI P w K mg base iR k f fd ps sp/\mD K fd ps []/\ĸ K (.ref f)=ż/\mg x=ž (.ref f)
def Am(sp:Sp)(t:TA):TE:=λσ H Q=>t σ H λvs H1=>sp vs H1 Q E0
section
variable{X:Cx}{k:Nat}{ps:Qa Str}{p pos:Pos}{es:Qa Ĥ}{t:TA}
def Ul(C:Jr X.prog X.w X.K X.mg X.base x k ps sp)(hr:aK k X.A)(hg:Gl X x)(ha:PA X (e::es) t)(fY:(x==("__debug__":Str))=Ż:=by decide)
  (he:dz e=ż:=by rfl) (fB:es.all dz=ż:=by rfl):PE X (.Call (.Name x p) (e::es) [] pos) (Am sp t):=by
 have(f,fd,F,hb,hk,hm):=C.ex;intro pins s σ H Q I h;refine Xc (dvs:=[]) (E:=E0) F hr hg hm hk hb .nil EM ha fY (jc he) (rB fB) pins s σ H Q I ?_;show t σ H λvs H1=>sp (vs++[]) H1 Q E0;have z:(λ(vs:Qa V) (H1:Hp)=>sp (vs++[]) H1 Q E0)=λvs H1=>sp vs H1 Q E0:=by
  funext vs H1
  rw[ş]
 rw[z];exact h
end
def EV(t:TS):TS:=λD σ H=>∃J:St->Hp->Prop,t {D with nx:=J} σ H/\∀aG H',J aG H'->D.nx aG H'
def W3{X:Cx}{t:TS}(h:PS X st t):PS X st (EV t):=by
 intro pins s σ H D I ⟨J,q,z⟩;refine aI (h pins s σ H _ I q) λf s' r=>?_;cases f with
 |next=>have(aG,H',I',j):=r;exact⟨aG,H',I',z _ _ j⟩
 |brk=>exact r
 |cont=>exact r
 |ret u=>exact r
def Ng(x y:Int)(hx:0<=x)(hy:0 < y):ē y (x % y)=ē x y:=by
 have(a,rfl):=Ù hx;have(b,rfl):=Ù (í hy);rw[<-Int.natCast_emod];show Nat.gcd b (a % b)=Nat.gcd a b;rw[Nat.gcd_comm a b,Nat.gcd_comm b<|a % b];exact(Nat.gcd_rec b a).symm
def FU(x y:Int):ē (if x < 0 then -x else x) y=ē x y:=by
 split
 .exact Int.neg_gcd
 .rfl
structure Wr (p:Prop):Prop where
 run:p
def qZ{xs:Qa Str}(h:Bl mg xs)(m:x∈xs):mg x=Ž:=h x m
def BR{X:Cx}{C:Qg}{s:Qd}{ex:Qa Qg}(h:decide N.Nodup=ż):(eQ X scope cl N C s H ex).N.Nodup:=a4f h
noncomputable def mf(X:Cx)(js:Qa Nat):Qa Str:=js.map λj=>X.N.getD j ""
def nM(X:Cx)(js:Qa Nat):Qa (Str×Qg):=(mf X js).map λx=>(x,(X.env.cells.lookup x).getD 0)
noncomputable def pR:Ĥ->Qa Str
 |.Name x _=>[x]
 |.Tuple es _ _=>es.flatMap λe=>match e with
  |.Name x _=>[x]
  |.Tuple fs _ _=>fs.filterMap λe=>match e with
   |.Name x _=>ž x
   |_=>Ž
  |_=>[]
 |_=>[]
def DB(nt:Nat)(g:TG):Prop:=∀(js:Qa Nat) (σ eZ:St),Wk (c0 nt js σ) eZ->∀x H (Q:St->Hp->Prop),g x eZ H Q->g x eZ H λgJ H2=>Wk (c0 nt js σ) gJ/\Q gJ H2
def uz(nt:Nat)(g:i3):Prop:=∀(js:Qa Nat) (σ eZ:St),Wk (c0 nt js σ) eZ->∀x H (Q:St->Hp->Prop),g x eZ H Q->g x eZ H λgJ H2=>Wk (c0 nt js σ) gJ/\Q gJ H2
def ZN(h:i < nt):DB nt (lB i):=by
 intro js σ eZ w x H Q q;refine⟨⟨by rw[ĕ];exact w.1,λj v e=>?_⟩,q⟩;have ne:i≠j:=by
  rintro rfl;rw[FV h]at e;cases e
 rw[qD ne];exact w.2 j v e
def Nf:uz nt AH:=λjs σ eZ w x H Q q=>⟨q.1,w,q.2⟩
def zpj{gs:i3}(h1:DB nt g)(h2:uz nt gs)(mono:∀v σ H (Q Q':St->Hp->Prop),(∀aG H',Q aG H'->Q' aG H')->g v σ H Q->g v σ H Q'):uz nt (wW g gs):=by
 intro js σ eZ w x H Q q;have(v,r,e,k):=q;refine⟨v,r,e,mono _ _ _ _ _ (λaG H' hZ=>?_)<|h1 js σ eZ w v H _ k⟩;have(w',q'):=hZ;exact h2 js σ aG w' r H' Q q'
def L7{gs:i3}(h:uz nt gs):DB nt (AG K n gs):=by
 intro js σ eZ w x H Q q;have(a,xs,e,s,l,k):=q;exact⟨a,xs,e,s,l,h js σ eZ w xs H Q k⟩
def J5(h:DB nt g):∀σ:St,GW (c0 nt js σ) g:=λσ x H Q q=>h js σ _ ⟨rfl,λ_ _ e=>e⟩ x H Q q
def zpk:∀v σ H (Q Q':St->Hp->Prop),(∀aG H',Q aG H'->Q' aG H')->lB i v σ H Q->lB i v σ H Q':=λv σ H Q Q' h q=>h _ _ q
def NA{gs:i3}(h:i < nt)(h2:uz nt gs):uz nt (wW (lB i) gs):=zpj (ZN h) h2 zpk
section
variable{X:Cx}{pos p:Pos}{a b c:Ĥ}{es rest:Qa Ĥ}{t:TA}{rd:R2}{id:String}{tA oB:TT}{Hs body:Qa ķ}{ts us:TS}{gs:i3}
def ae(hN:X.N[i]?=ž x:=by rfl)(hv:Dw X.env.scope x:=by first|exact a0V rfl|exact a0b (a0V rfl) |exact a0b<|a0b rfl)(hd:(x==("__debug__":Str))=Ż:=by decide)
  (kN:(x==("__classdict__":Str))=Ż:=by decide):Wr (PE X (.Name x pos)<|eE i):=⟨pv i hN hv hd kN⟩
def zf{n:Int}:Wr (PE X (.Constant (.int n) j pos)<|tC<|.int n):=⟨UZ⟩
def fi{n:Bool}:Wr (PE X (.Constant (.bool n) j pos)<|tC<|.bl n):=⟨zAr⟩
def jI:Wr (PE X (.Constant .none j pos)<|tC .aL):=⟨UY⟩
def zQ{n:Str}:Wr (PE X (.Constant (.str n) j pos)<|tC<|.str n):=⟨UX⟩
def nZ(hv:ř x=ž u)(r:zT v u)(hg:Gl X x:=by exact rfl)(hm:X.mg x=Ž:=by exact qZ ‹Bl _ _› (by decide))(hn:x ≠ "__name__":=by decide)(hd:(x==("__debug__":Str))=Ż:=by decide):Wr (PE X (.Name x pos)<|tC v):=⟨X3 hg hm hv r hn hd⟩
def zM{op:Operator}(ho:cp X (ώ op) rd)(ha:Wr (PE X a ta))(hb:Wr (PE X b tb)):Wr (PE X (.BinOp a op b pos)<|lM rd ta tb):=⟨zAu ho ha.run hb.run⟩
def jE{op:UnaryOp}{r:V->Hp->VK->Prop}(ho:Dy X (unaryOp op) r)(ha:Wr (PE X a ta)):Wr (PE X (.UnaryOp op a pos)<|Hk r ta):=⟨zAv ho ha.run⟩
def w_not(ha:Wr (PE X a ta)):Wr (PE X (.UnaryOp .Not a pos)<|EZ ta):=⟨U7 ha.run⟩
def w6{op:a2n}(ho:cp X (ĩ op) rd)(ha:Wr (PE X a ta))(hb:Wr (PE X b tb))(hm:ś op b=Ż:=by first|exact Lp _|rfl):Wr (PE X (.Compare a [op] [b] pos)<|lM rd ta tb):=⟨Xi ho ha.run hb.run hm⟩
def zv{op:a2n}(ho:cp X (ĩ op) rd)(ha:Wr (PE X a ta))(hb:Wr (PE X b tb))(hm:ś op b=Ż:=by first|exact Lp _|rfl):Wr (PT X (.Compare a [op] [b] pos)<|E2<|lM rd ta tb):=⟨Xh ho ha.run hb.run hm⟩
def W2{op tN:a2n}{Qy:R2}{tc:TE}(ho:cp X (ĩ op) rd)(iz:cp X (ĩ tN) Qy)(ha:Wr (PE X a ta))(hb:Wr (PE X b tb))(hc:Wr (PE X c tc))(hm:lastMarks [op,tN] [b,c]=Ż:=by rfl):
  Wr (PE X (.Compare a [op,tN] [b,c] pos)<|FA rd Qy ta tb tc):=⟨zp8 ho iz ha.run hb.run hc.run hm⟩
def J4{op}(h:Wr (PE X a te)):Wr (PE X (.BoolOp op [a] pos) te):=⟨U9 h.run⟩
def J3(ha:Wr (PE X a ta))(hb:Wr (PE X (.BoolOp .And (b::rest) pos) tb)):Wr (PE X (.BoolOp .And (a::b::rest) pos)<|E1 ta tb):=⟨U8 ha.run hb.run⟩
def rC(ha:Wr (PT X a tA)):Wr (PW X (.BoolOp .And [a] pos) tA):=⟨X2 ha.run⟩
def jb(ha:Wr (PT X a tA)):Wr (PW X (.BoolOp .Or [a] pos) tA):=⟨Vc ha.run⟩
def pF(ha:Wr (PT X a tA))(hb:Wr (PW X (.BoolOp .And (b::rest) pos) oB)):Wr (PW X (.BoolOp .And (a::b::rest) pos)<|Ec tA oB):=⟨Vb ha.run hb.run⟩
def dZ(ha:Wr (PT X a tA))(hb:Wr (PW X (.BoolOp .Or (b::rest) pos) oB)):Wr (PW X (.BoolOp .Or (a::b::rest) pos)<|Hm tA oB):=⟨zAs ha.run hb.run⟩
def fG(h:Wr (PW X e tA)):Wr (PT X e tA):=⟨h.run.pt⟩
def ix(ha:Wr (PT X a tA)):Wr (PT X (.UnaryOp .Not a pos)<|Eb tA):=⟨Va ha.run⟩
def fK(h:Wr (PE X e te))(he:∀whole,a1V e X.env whole=(do let v <-whole;a0p e.pos;Ű [v] (truthy v)):=by intro _;rfl):Wr (PT X e<|tB te):=⟨UU h.run he⟩
def Qi(K:qc)(ta:TE):TT:=λσ H Q=>ta σ H λx H'=>∃k,DX K x H' k/\Q k H'
def sO(hc:Wr (PT X c tA))(ha:Wr (PE X a ta))(hb:Wr (PE X b tb)):Wr (PE X (.IfExp c a b pos)<|Hn tA ta tb):=⟨zpW hc.run ha.run hb.run⟩
def ze:Wr (PA X [] kg):=⟨TR⟩
def af(ha:Wr (PE X e te))(hr:Wr (PA X es t))(hs:dz e=ż:=by rfl):Wr (PA X (e::es)<|kl te t):=⟨zCJ ha.run hr.run hs⟩
def bG{x1}(h:Wr (PA X es t)):Wr (PE X (.Tuple es x1 pos)<|DW t):=⟨TQ h.run⟩
def eF(h:Wr (PA X es t)):Wr (PE X (.List es pos)<|Aq t):=⟨TN h.run⟩
def bA(hc:gO X (.builtin id) r)(hv:ř x=ž (.builtin id))(ha:Wr (PA X (e::es) t))(hg:Gl X x:=by exact rfl)(hm:X.mg x=Ž:=by exact qZ ‹Bl _ _› (by decide))(hn:x ≠ "__name__":=by decide)(fY:(x==("__debug__":Str))=Ż:=by decide)
  (he:dz e=ż:=by rfl) (fB:es.all dz=ż:=by rfl):Wr (PE X (.Call (.Name x p) (e::es) [] pos)<|pS r t):=⟨zAH hc hg hm hv ha.run hn fY he fB⟩
def k8(hc:gO X (.type T) r)(hv:ř x=ž (.type T))(ha:Wr (PA X (e::es) t))(hg:Gl X x:=by exact rfl)(hm:X.mg x=Ž:=by exact qZ ‹Bl _ _› (by decide))(hn:x ≠ "__name__":=by decide)(fY:(x==("__debug__":Str))=Ż:=by decide)
  (he:dz e=ż:=by rfl) (fB:es.all dz=ż:=by rfl):Wr (PE X (.Call (.Name x p) (e::es) [] pos)<|pS r t):=⟨zAI hc hg hm hv ha.run hn fY he fB⟩
def zB{k:Nat}{ps:Qa Str}(ha:Wr (PA X (e::es) t))(C:Jr X.prog X.w X.K X.mg X.base x k ps sp:=by assumption)(hr:aK k X.A:=by exact aK.mono ‹aK _ _› (by decide))(hg:Gl X x:=by exact rfl)(fY:(x==("__debug__":Str))=Ż:=by decide)
  (he:dz e=ż:=by rfl) (fB:es.all dz=ż:=by rfl):Wr (PE X (.Call (.Name x p) (e::es) [] pos)<|Am sp t):=⟨Ul C hr hg ha.run fY he fB⟩
def zn(hr:qJ X rd)(ha:Wr (PE X a ta))(hb:Wr (PE X b tb))(hs:Mq b:=by exact λ_ _=>rfl):Wr (PE X (.Subscript a b pos)<|lM rd ta tb):=⟨zAz hr ha.run hb.run hs⟩
def FT:Wr (PO X Ž F0):=⟨Xb⟩
def sU(h:Wr (PE X e te)):Wr (PO X (ž e)<|ER te):=⟨Xa h.run⟩
def BQ{r:V->Qb Int->Qb Int->Hp->VK->Prop}{lo:Qb Ĥ}{tl th:TO}{p2:Pos}(hr:vZ X r)(he:Wr (PE X e te))(hl:Wr (PO X lo tl))(hu:Wr (PO X hi th)):Wr (PE X (.Subscript e (.Slice lo hi Ž p2) pos)<|Hl r te tl th):=⟨Zz hr he.run hl.run hu.run⟩
def tj{ta:TA}(ha:Wr (PA X [a] ta))(hg:Gl X "range":=by exact rfl)(hm:X.mg "range"=Ž:=by exact qZ ‹Bl _ _› (by decide))(hs:dz a=ż:=by rfl):Wr (PI X tg (.Call (.Name "range" p) [a] [] pos)<|E5 ta):=⟨zoZ hg hm ha.run<|jc hs⟩
def GH{ta:TA}(ha:Wr (PA X [a,b] ta))(hg:Gl X "range":=by exact rfl)(hm:X.mg "range"=Ž:=by exact qZ ‹Bl _ _› (by decide))(hs:dz a=ż:=by rfl)(oH:dz b=ż:=by rfl):Wr (PI X tg (.Call (.Name "range" p) [a,b] [] pos)<|E4 ta):=
 ⟨zo0 hg hm ha.run ((jc hs).trans (by rw[jc oH];rfl))<|jc oH⟩
def zD(hN:X.N.Nodup:=by first|assumption|exact BR rfl)(hi:X.N[i]?=ž x:=by rfl)(hx:Loc X.env.scope x:=by first|exact a0V rfl|exact a0b rfl)(hf:X.fn x=ż\/X.env.scope.names.lookup x=ž .local:=by first|exact .inl rfl|exact .inr rfl|assumption):Wr (PG X (.Name x pos)<|lB i):=⟨Yh hN hi hx hf⟩
def kz:Wr (r8 X [] AH):=⟨Yg⟩
def eJ(h1:Wr (PG X e g))(h2:Wr (r8 X es gs))(hs:(ű (e::es) X.env).map (·.2)=Β e X.env::(ű es X.env).map (·.2):=by rfl):Wr (r8 X (e::es)<|wW g gs):=⟨zp0 h1.run h2.run hs⟩
def lG{ti:TE}{xZ:AI}(ho:Wr (PE X o ta))(hi:Wr (PE X e ti))(hs:D3 X xZ)
  (hh:∀v,Β (.Subscript o e pos) X.env v=(do
   let ov <-Ű [v] (ŀ o X.env)
   let iv <-Ű [v,ov] (ŀ e X.env)
   a0p pos
   Ű [v,ov,iv] (Λ ov iv v)
   release [v,ov,iv] []):=by intro _;rfl):Wr (PG X (.Subscript o e pos)<|D2 ta ti xZ):=⟨T4 ho.run hi.run hs hh⟩
def uU:Wr (qQ X [] D8):=⟨ZQ⟩
def Lo(h:Wr (PT X c tA)):Wr (qQ X [c] tA):=⟨ZP h.run⟩
def wG(hi:Wr (PI X tg iter wi))(hg:∀{C s H ex},Wr<|PG (eQ X scope (nM X js) (pR tg++mf X js) C s H ex) tg g)(ht:∀{C s H ex},Wr<|qQ (eQ X scope (nM X js) (pR tg++mf X js) C s H ex) ifs tt)
  (he:∀{C s H ex},Wr<|PE (eQ X scope (nM X js) (pR tg++mf X js) C s H ex) elt te)
  (f:bz X (nM X js) (mf X js) js:=by repeat (first|exact bz.nil|refine bz.cons rfl (by first|exact a0V rfl|exact a0b rfl) rfl ?_)) (iM:closureFor scope X.env=pure (nM X js):=by rfl) (S:v5 scope (mf X js):=by exact⟨rfl,a4f rfl,a4f rfl,a4f rfl,a4f rfl⟩) (oG:(pR tg).length=nt:=by rfl) (hc:X.calm=ż:=by rfl) (gw:∀σ:St,GW (c0 nt js σ) g:=by first|exact Mm (by decide) |exact J5<|L7 (by repeat (first|exact Nf|refine NA (by decide) ?_))) (hs:∀x,ϧ iter X.env x=pure x:=by intro _;rfl):
  Wr (PE X (.ListComp elt [⟨tg,iter,ifs,0⟩] scope pos)<|vw wi nt js g tt te):=⟨zAG nt (pR tg) oG hc S f iM hi.run (λC s H ex=>hg.run) gw (λC s H ex=>ht.run) (λC s H ex=>he.run) hs⟩
def D5(K:qc):Qa V->Hp->VK->Prop:=λxs H Q=>∃p ys,xs=[.ref p]/\(bE K H p ys\/cH K H p ys)/\Q (.int ys.length) H
def Nb(K:qc):Qa V->Hp->VK->Prop:=λxs H Q=>∃p ys,xs=[.ref p]/\((bE K H p ys/\∀l,H l=Ž->Q (.ref l) (upd H l<|.tup ys))\/(cH K H p ys/\Q (.ref p) H))
def nS(hK:X.K=K:=by rfl):gO X (.builtin "isinstance") (D6 K):=hK▸ZO
def cQ(hK:X.K=K:=by rfl):gO X (.builtin "len") (D5 K):=hK▸zjo
def pL(hK:X.K=K:=by rfl):gO X (.type "tuple") (Nb K):=hK▸zim
def zG(hK:X.K=K:=by rfl):qJ X (Ap K):=hK▸W9
def zp(hK:X.K=K:=by rfl):qJ X (DU K):=hK▸TJ
def P9(hK:X.K=K:=by rfl):cp X (ĩ .In) (yf K Ż):=hK▸NF
def L6(hK:X.K=K:=by rfl):cp X (ĩ .NotIn) (yf K ż):=hK▸zjn
def EU(hK:X.K=K:=by rfl):vZ X (D9 K):=hK▸W8
def FR{l:Ĥ}{tl:TE}(hl:Wr (PE X l tl))(hK:X.K=K:=by rfl):Wr (PI X tg l<|E7 K tl):=hK▸⟨Yf hl.run⟩
def lF{l:Ĥ}{tl:TE}(hl:Wr (PE X l tl))(hK:X.K=K:=by rfl):Wr (PI X tg l<|D0 K tl):=hK▸⟨TZ hl.run⟩
def ku{k:Nat}(h:Wr (r8 X es gs))(hK:X.K=K:=by rfl)(hc:X.calm=ż:=by rfl)(hn:(ű es X.env).length=n:=by rfl)(Iq:(ű es X.env).findIdx? (·.1)=Ž:=by rfl):Wr (PG X (.Tuple es k pos)<|AG K n gs):=hK▸⟨T5 hc h.run hn Iq⟩
def J2(ha:Wr (PE X a ta))(hK:X.K=K:=by rfl)(he:∀whole,a1V a X.env whole=(do let v <-whole;a0p a.pos;Ű [v] (truthy v)):=by intro _;rfl):Wr (PT X a<|Qi K ta):=hK▸⟨zp9 ha.run he⟩
def zN:Wr (eX X [] EY):=⟨X1⟩
def aB(h1:Wr (PS X st ts))(h2:Wr (eX X Hs us)):Wr (eX X (st::Hs)<|AD ts us):=⟨zpY h1.run h2.run⟩
def zA(h1:Wr (PS X st ts)):Wr (eX X [st] ts):=⟨X0 h1.run⟩
def gX(he:Wr (PE X e te))(hs:ϣ e Ž pos.line X.env=pure Ż:=by rfl):Wr (PS X (.Expr e pos)<|EW te):=⟨Yi he.run hs⟩
def zH(he:Wr (PE X e te)):Wr (PS X (.Return (ž e) pos)<|AJ te):=⟨U6 he.run⟩
def bh{sa sb:Qa ķ}(hc:Wr (PT X c tA))(ha:Wr (eX X sa ts))(hb:Wr (eX X sb us)):Wr (PS X (.If c sa sb pos)<|Ea tA ts us):=⟨zAt hc.run ha.run hb.run⟩
def pE(h:Wr (PS X st ts)):Wr (PS X st<|EV ts):=⟨W3 h.run⟩
def L5(hc:Wr (PT X c tA))(hb:Wr (eX X body ts))(hp:a3n (Ĕ X.prog X.w) X.A X.env X.xe:=by first|exact a2T|exact a2v):Wr (PS X (.While c body [] pos)<|FC tA ts):=⟨zp1 hp hc.run hb.run⟩
def fJ(hi:Wr (PI X tg iter wi))(hg:Wr (PG X tg g))(hb:Wr (eX X body ts))(hp:a3n (Ĕ X.prog X.w) X.A X.env X.xe:=by first|exact a2T|exact a2v)(hc:X.calm=ż:=by rfl)(hs:∀x,ϧ iter X.env x=pure x:=by intro _;rfl):
  Wr (PS X (.For tg iter body [] pos)<|AF wi g ts):=⟨TY hp hc hi.run hg.run hb.run hs⟩
def zK(he:Wr (PE X e te))(hN:X.N.Nodup:=by first|assumption|exact BR rfl)(hi:X.N[i]?=ž x:=by rfl)(hx:Loc X.env.scope x:=by first|exact a0V rfl|exact a0b rfl)(hs:ϣ e (ž<|.Name x pos') pos.line X.env=pure Ż:=by rfl)(hf:X.fn x=ż\/X.env.scope.names.lookup x=ž .local:=by first|exact .inl rfl|exact .inr rfl|assumption):
  Wr (PS X (.Assign [.Name x pos'] e pos)<|oW te<|lB i):=⟨T2 hN hi hx he.run hs hf⟩
def iu(he:Wr (PE X e te))(hg:Wr (PG X tg g))(hs:a1l [tg] e pos.line X.env=pure Ż:=by rfl)(hw:a1m [tg] e X.env=pure Ž:=by rfl)(h1:(ű [tg] X.env).map (·.2)=[Β tg X.env]:=by rfl):
  Wr (PS X (.Assign [tg] e pos)<|oW te g):=⟨T3 he.run hg.run hs hw h1⟩
def sN{y:Str}{ta:TA}{px py pt:Pos}{kt k2 tJ}(ha:Wr (PA X [a,b] ta))(hc:X.calm=ż:=by rfl)(hN:X.N.Nodup:=by first|assumption|exact BR rfl)(hi:X.N[i]?=ž x:=by rfl)(hj:X.N[j]?=ž y:=by rfl)(gT:i≠j:=by decide)
  (hx:X.env.scope.names.lookup x=ž .local:=by rfl) (hy:X.env.scope.names.lookup y=ž .local:=by rfl)
  (hw:a1m [.Tuple [.Name x px,.Name y py] kt pt] (.Tuple [a,b] k2 tJ) X.env=pure (ž [x,y]):=by rfl)
  (hs:a1l [.Tuple [.Name x px,.Name y py] kt pt] (.Tuple [a,b] k2 tJ) pos.line X.env=pure Ż:=by rfl):
  Wr (PS X (.Assign [.Tuple [.Name x px,.Name y py] kt pt] (.Tuple [a,b] k2 tJ) pos)<|D1 i j ta):=⟨T1 hc hN hi hj gT hx hy ha.run hw hs⟩
end
def jA.QK{w:Qh}{base:Ĭ}{f:Qg}{ps:Qa Str}{k:Nat}(F:jA K x qual st f fd)(S:bH N ps (eI st))(len:∀vs H Q E,sp vs H Q E->vs.length=ps.length)
  (cb:∀(bt:Qc) (A:Qf) (outer:Qa Env) (s:Qd) (H:Hp) (vs:Qa V) (Q:VK) (E:XK),aK k (A.deeper<|ς qual (eI st) s.heap.objs.size f bt)->sp vs H Q E->
   ∃t,Wr (eX (nN iR P w K mg base N qual (eI st) f bt A outer s H E).rK (i9 st) t)/\t {nx:=λ_ H'=>Q .aL H',rt:=Q} (gN N vs) H):cI P w K mg base iR (k+1) f fd ps sp :=
 F.ok S len λbt A outer s H vs Q E hr h=>let ⟨t,w,q⟩:=cb bt A outer s H vs Q E hr h;⟨t,w.run,q⟩
mutual
inductive DV (K:qc) (H:Hp):V->ϗ->Prop
 |aL:DV K H .aL .none
 |bl (b:Bool):DV K H (.bl b) (.bool b)
 |int (i:Int):DV K H (.int i) (.int i)
 |str (x:Str):DV K H (.str x) (.str x)
 |lst {a:Qg} {xs:Qa V} {ds:Qa ϗ} (h:bE K H a xs) (t:kW K H xs ds):DV K H (.ref a) (.list ds)
 |tup {a:Qg} {xs:Qa V} {ds:Qa ϗ} (h:cH K H a xs) (t:kW K H xs ds):DV K H (.ref a) (.tuple ds)
inductive kW (K:qc) (H:Hp):Qa V->Qa ϗ->Prop
 |nil:kW K H [] []
 |cons {v:V} {d:ϗ} {vs:Qa V} {ds:Qa ϗ} (h:DV K H v d) (t:kW K H vs ds):kW K H (v::vs) (d::ds)
end
section
variable{X:Cx}{s:Qd}
def kW.reads(I:Inv X pins σ H s){v:Qa V}{d:Qa ϗ}{u:Qa Qc}(h:kW X.K H v d)(r:zV v u):∃as,ReadsAll s.heap u d as:=by
 refine kW.rec (motive_1:=λv d _=>∀{u:Qc},zT v u->∃as,Reads s.heap u d as) (motive_2:=λv d _=>∀{u:Qa Qc},zV v u->∃as,ReadsAll s.heap u d as) (λ{u} r=>?_) (λb {u} r=>?_) (λi {u} r=>?_) (λx {u} r=>?_) (λ{a xs ds} h _ t {u} r=>?_) (λ{a xs ds} h _ t {u} r=>?_) (λ{u} r=>?_) (λ{v d vs ds} _ _ a b {u} r=>?_) h r
 .cases r;exact⟨_,.none⟩
 .cases r;exact⟨_,.bool b⟩
 .have(t,rfl):=r;exact⟨_,.int i t⟩
 .have(t,rfl):=r;exact⟨_,.str x t⟩
 .cases r
  obtain⟨aq,rv,⟨o,n,e1,e2,e3,e4⟩,hz⟩:=I.list h;have(as,q):=t rv;exact⟨_,.list e1 e2 e4 q⟩
 .cases r
  obtain⟨aq,rv,⟨o,e1,e2,n,e4⟩,hz⟩:=I.tuple h;have(as,q):=t rv;exact⟨_,.tuple e1 e2 e4 q⟩
 .cases r;exact⟨_,.nil⟩
 .cases r with
  |cons r1 r2=>
   have(a1,q1):=a r1;have(a2,q2):=b r2;exact⟨_,.cons q1 q2⟩
def DV.reads(I:Inv X pins σ H s){d:ϗ}(h:DV X.K H v d)(r:zT v u):∃as,Reads s.heap u d as:=by
 have(_,q):=kW.reads I (.cons h .nil) (.cons r .nil);cases q;exact⟨_,‹_›⟩
end
section
variable{X:Cx}{pos p:Pos}{a b c:Ĥ}{es rest:Qa Ĥ}{t:TA}{rd:R2}{id:String}{tA oB:TT}{Hs body:Qa ķ}{ts us:TS}{gs:i3}
def ET{y:Str}{py yc:Pos}(hi:Wr (PI X tg iter wi))(hg:∀{C s H ex},Wr<|PG (eQ X scope (nM X js) (pR tg++mf X js) C s H ex) tg g)(ht:∀{C s H ex},Wr<|qQ (eQ X scope (nM X js) (pR tg++mf X js) C s H ex) ifs tt)
  (he:∀{C s H ex},Wr<|PE (eQ X scope (nM X js) (pR tg++mf X js) C s H ex) elt te)
  (hN:X.N.Nodup:=by first|assumption|exact BR rfl) (nv:X.N[i]?=ž y:=by rfl) (hy:Loc X.env.scope y:=by first|exact a0V rfl|exact a0b rfl)
  (f:bz X (nM X js) (mf X js) js:=by repeat (first|exact bz.nil|refine bz.cons rfl (by first|exact a0V rfl|exact a0b rfl) rfl ?_)) (iM:closureFor scope X.env=pure (nM X js):=by rfl) (S:v5 scope (mf X js):=by exact⟨rfl,a4f rfl,a4f rfl,a4f rfl,a4f rfl⟩) (oG:(pR tg).length=nt:=by rfl) (hc:X.calm=ż:=by rfl) (gw:∀σ:St,GW (c0 nt js σ) g:=by first|exact Mm (by decide) |exact J5<|L7 (by repeat (first|exact Nf|refine NA (by decide) ?_))) (hs:∀x,ϧ iter X.env x=pure x:=by intro _;rfl)
  (hsw:ϣ (.ListComp elt [⟨tg,iter,ifs,0⟩] scope pos) (ž<|.Name y py) yc.line X.env=pure ż:=by rfl)
  (hf:X.fn y=ż\/X.env.scope.names.lookup y=ž .local:=by first|exact .inl rfl|exact .inr rfl|assumption):
  Wr (PS X (.Assign [.Name y py] (.ListComp elt [⟨tg,iter,ifs,0⟩] scope pos) yc)<|oW (vw wi nt js g tt te)<|lB i):=by
 refine⟨?_⟩;intro pins s σ H D I h;rw[exec_Assign_Name_used _ _ _ _ hsw];refine qa<|π<|qa ?_;show đ _ X.A (do let _ <-comprehension (.ListComp elt [⟨tg,iter,ifs,0⟩] scope pos) scope X.env _ (newList []) Ż (ŀ iter X.env) (ž<|Β (.Name y py) X.env)) _ _ s;refine qa<|ľ (a2V (use:=ž (Β (.Name y py) X.env)) (Q:=λ_ s'=>SP X pins D .next s') rfl hs iM S.kind S.names
  (aI (hi.run pins s σ H _ I h) λv s1 h1=>aI h1 λCW s2 h2=>?_)) (λ_ s' hq=>qb<|qb hq) λ_ _ e=>e
 have(it,fp,tn,J,H2,e,I2,T,iG,f2,q):=h2;subst e;refine NP (RR:=λacc C=>compPost (Ĕ X.prog X.w) X.A X.xe (ž<|Β (.Name y py) X.env) (λ_ s'=>SP X pins D .next s') acc C) hc I2 S f oG T iG f2 (λC s H ex=>hg.run) (λC s H ex=>ht.run) (λC s H ex=>he.run) (gw σ) q ?_;intro D' C m s' ys H' z hD I' hn IX Di Dh vQ IW;show đ _ _ (Β (.Name y py) X.env<|.ref D') _ _ _;refine wpAny_assign_Name<|NL (v:=.ref D') I' hN nv hy rfl (λCK I'' hZ=>?_) hf;have(a,sb,ha):=hZ;have ne:C≠a:=by
  rcases ha with rfl|ha
  .exact Di
  .exact(Dh _ _ ha).symm
 exact⟨m,hn.sameBut sb ne,λh' oI=>⟨_,_,I''.turned (it:=C) (λb o hb e=>oI.extBut b o hb e) IX Di (.inr vQ) Dh IW,z D' hD⟩⟩
def gU{name:Str}{r:V->Qa V->Hp->VK->Prop}(K:qc)(hK:X.K=K)(pa:PlainAttrs T)(slot:Slot T name id)(tW:typeOf (.builtin id)=pure (.type "method_descriptor"))(hm:wc X id r)(ho:Wr (PE X o te))(ha:Wr (PA X (e::es) t))
  (fZ:Ť o name X.env (ŀ o X.env)=ŀ o X.env:=by rfl)
  (nA:((Ϩ bq<|ĭ (e::es) X.env).all (λx=>!x.1) && (a2E bq<|a0L [] X.env).all (λx=>x.1.isSome)
   && decide ((e::es).length+([]:Qa a0r).length+(if([]:Qa a0r).isEmpty then 0 else 1) < 30))=ż:=by rfl)
  (fW:(apos.endLine==bq.line)=ż:=by rfl) (hs:dz e=ż:=by rfl) (fB:es.all dz=ż:=by rfl):
  Wr (PE X (.Call (.Attribute o name apos) (e::es) [] bq)<|CH K T r te t):=hK▸⟨zAB pa slot tW hm ho.run ha.run fZ nA fW (jc hs)<|rB fB⟩
def sQ(hg:Gl X x)(hm:X.mg x=ž u)(r:zT v u)(hd:(x==("__debug__":Str))=Ż:=by decide):Wr (PE X (.Name x pos)<|tC v):=⟨X4 hg hm r hd⟩
def L4:∀{ys:Qa Str} {us:Qa Qc},zV (ys.map V.str) us->StrsAre us ys
 |[],_,r=>by cases r;exact .nil
 |y::ys,_,r=>by
  cases r with
  |cons r1 r2=>
   have(t,rfl):=r1;exact .cons y t<|L4 r2
def J1(K:qc):V->Qa V->Hp->VK->Prop:=λx vs H Q=>∃sep a ys,x=.str sep/\vs=[.ref a]/\bE K H a (ys.map V.str)/\(ys.map (·.length)).sum+ys.length * sep.length<=16777216/\Q (.str<|ζ sep ys) H
def L3(K:qc)(hK:X.K=K:=by rfl):wc X "str.join" (J1 K):=by
 intro pins s σ H x vs v us Q I rx rv h;have(sep,a,ys,rfl,rfl,hS,hz,q):=h;have(t,rfl):=rx;have(u,rfl,ru):=rv.one;cases ru;subst hK;have(aq,r,pl,_):=I.list hS;exact join_list pl.isList (by simpa using L4 r) hz λt' k=>⟨.str _,H,I.tok _,⟨_,rfl⟩,q⟩
noncomputable def uy(x:Str)(n:Int):Str:=if n < 1 then a2u else if(n==1 || x.length==0)=ż then x else⟨(Đ n.toNat x.cps).foldl (·++·) #[]⟩
def zme:cp X (ώ .Mult) (λx y H Q=>∃z n,x=.str z/\y=.int n/\0<=n/\n<=1/\Q (.str<|uy z n) H):=by
 intro pins s σ H x y v u Q I rx ry h;have(z,n,rfl,rfl,h0,h1,q):=h;have(t,rfl):=rx;have(t',rfl):=ry;rcases(by omega:n=0\/n=1)with rfl|rfl
 .exact PySem.P.mul_str_none (by decide) (by decide) ⟨.str _,H,I.tok _,⟨_,rfl⟩,q⟩
 .refine PySem.P.mul_str (by decide) (λ_ z=>by simp at z) (λ_ z=>by simp at z) ?_
  rw[a4c (by decide),a4b (by rfl)];exact⟨.str _,H,I,⟨_,rfl⟩,q⟩
end
structure Kp (H H':Hp):Prop where
 tup:∀b xs,H b=ž (.tup xs)->H' b=ž (.tup xs)
 aQ:∀b o u,H b=ž (.aQ o u)->H' b=ž (.aQ o u)
 own:∀b x,H b=ž (.own x)->H' b=ž (.own x)
def Kp.refl(H:Hp):Kp H H:=⟨λ_ _ h=>h,λ_ _ _ h=>h,λ_ _ h=>h⟩
def Kp.trans{H1 H2:Hp}(a:Kp H H1)(b:Kp H1 H2):Kp H H2:=⟨λx y h=>b.tup x y<|a.tup x y h,λx y z h=>b.aQ x y z<|a.aQ x y z h,λx y h=>b.own x y<|a.own x y h⟩
def eD.kp(s:eD H H'):Kp H H':=⟨λ_ _ h=>s _ _ h,λ_ _ _ h=>s _ _ h,λ_ _ h=>s _ _ h⟩
def Kp.Hv{xs:Qa V}(e:Kp H H')(h:cH K H a xs):cH K H' a xs:=by
 rcases h with (h|⟨o,h⟩) |h
 .exact .inl (.inl<|e.tup _ _ h)
 .exact .inl (.inr ⟨o,e.aQ _ _ _ h⟩)
 .exact .inr h
mutual
inductive DT (K:qc) (H:Hp):V->ϗ->Prop
 |aL:DT K H .aL .none
 |bl (b:Bool):DT K H (.bl b) (.bool b)
 |int (i:Int):DT K H (.int i) (.int i)
 |str (x:Str):DT K H (.str x) (.str x)
 |tup {a:Qg} {xs:Qa V} {ds:Qa ϗ} (h:cH K H a xs) (t:kX K H xs ds):DT K H (.ref a) (.tuple ds)
inductive kX (K:qc) (H:Hp):Qa V->Qa ϗ->Prop
 |nil:kX K H [] []
 |cons {v:V} {d:ϗ} {vs:Qa V} {ds:Qa ϗ} (h:DT K H v d) (t:kX K H vs ds):kX K H (v::vs) (d::ds)
end
mutual
def DT.kp(e:Kp H H'):∀{v:V} {d:ϗ},DT K H v d->DT K H' v d
 |_,_,.aL=>.aL
 |_,_,.bl b=>.bl b
 |_,_,.int i=>.int i
 |_,_,.str x=>.str x
 |_,_,.tup h t=>.tup (e.Hv h)<|kX.kp e t
def kX.kp(e:Kp H H'):∀{v:Qa V} {d:Qa ϗ},kX K H v d->kX K H' v d
 |_,_,.nil=>.nil
 |_,_,.cons h t=>.cons (DT.kp e h)<|kX.kp e t
end
mutual
def DT.dv:∀{v:V} {d:ϗ},DT K H v d->DV K H v d
 |_,_,.aL=>.aL
 |_,_,.bl b=>.bl b
 |_,_,.int i=>.int i
 |_,_,.str x=>.str x
 |_,_,.tup h t=>.tup h<|kX.dv t
def kX.dv:∀{v:Qa V} {d:Qa ϗ},kX K H v d->kW K H v d
 |_,_,.nil=>.nil
 |_,_,.cons h t=>.cons (DT.dv h)<|kX.dv t
end
end Internal
namespace HT
open PySem PyProof.Rows
open PySem.SeqAt
open PySem.MeetsSeq PySem.MeetsSeq2 PySem.MeetsSeq3
section
variable{prog:a1L} {w:World} {A:a2P} {E:ŵ->Ϗ->Prop} {s:Ϗ}
def dH{t sl:Addr}{items:Array ŵ}{vl vu:ŵ}{lo hi:Option Int}{Q:ŵ->Ϗ->Prop}(ht:IsTup s.heap t items)(hs:s.heap.IsSliceOf sl vl vu .none)(pl:Ε vl lo)(pu:Ε vu hi)
  (hw:aW items.size 0 lo=0/\aW items.size items.size hi=items.size) (h:Q (.ref t) s):đ (Ĕ prog w) A (Μ (.ref t)<|.ref sl) Q E s:=by
 have(os,ju,vN,lW):=id hs;have vP:s.TypeIs (.ref sl) "slice":=⟨os,ju,vN⟩;unfold Μ
 try with_reducible refine Ķ ?_
 first|refine ğ (Ĵ ?_) |skip
 refine ğ<|a1C ht.typeIs (by decide) ?_;refine ğ (ĺ (name:=Ţ "__getitem__") ht.typeIs Ś
  (İ Ś ht.typeIs entry_tuple_getitem ?_<|args_tuple_getitem _ _))
 show đ _ _ (Ϥ (.ref t) >>= _) _ _ s;refine ğ<|tupleItemsOf_ ht ?_;refine ğ<|a0m vP ?_;rw[a4b (by decide)];refine ğ<|Pj hs pl pu ?_;have Ig:(((aW items.size 0 lo:Nat):Int)==0 && (1:Int)==1 && (aW items.size items.size hi - aW items.size 0 lo)==items.size)=ż:=by
  rw[hw.1,hw.2];simp
 show đ _ _ (if(((aW items.size 0 lo:Nat):Int)==0 && (1:Int)==1 && (aW items.size items.size hi - aW items.size 0 lo)==items.size)=ż then _ else _) _ _ s;rw[a4b Ig];refine ğ (m:=Builtin.Tuple.tupleIsExact _)<|ğ<|a0m ht.typeIs<|Ĵ ?_;rw[a4b (by decide)];exact ğ<|a0n<|Ĵ ⟨_,rfl,Ĵ h⟩
end
end HT
namespace Internal
open PySem PySem.Spec PyProof.Rows
def Jl(hi:Int)(n:Nat):It:=⟨λi _=>i < n,λi H x H'=>H'=H/\x=.int (hi - i),λi _=>n<=i⟩
def zpm{w:Qh}(it:Qg)(hi:Int)(n:Nat):Turn P w K tg (Jl hi n) [it] it (λi h=>a2m h it (hi+(i:Nat) * (-1)) ((n:Int) - (i:Nat)) (-1)) where
 mem:=by simp
 obj:=λi h st b hb=>by
  have e:b=it:=by simpa using hb
  subst e;exact⟨_,st,λv z=>by
   have z':a0l _=a1o v:=z;cases z'⟩
 keep:=λi h h' st k=>k it (by simp) _ st
 item:=by
  intro X hP hw hK hc i pins s σ H E I hf st hg;subst hP hw hK;have(f0,f1,f2,f3,f4,f5):=hf it (by simp);have W:=Walks.range (prog:=X.prog) (w:=X.w) (I.ok.hd hc) it hi (-1) n;refine W.item i s _ _ hg st λv h' tk hv aA kk=>?_;have(t,rfl):=hv;have I1:Inv X pins σ H {s with heap:=h',toks:=tk}:=I.turned (λb o hb e=>kk b o (by simpa using hb) e) f0 f1 f3 f4 f5;refine⟨_,rfl,A9 (s:={s with heap:=h',toks:=tk}) (n := "range_iterator") aA rfl rfl (by decide) ⟨.int<|hi - i,H,I1,⟨t,?_⟩,⟨rfl,rfl⟩,aA,λb hb=>(hf b hb).1⟩⟩;rw[ϭ,Int.mul_one];rfl
 done:=by
  intro X hP hw hK hc i pins s σ H E I hf st hg;subst hP hw hK;have(f0,f1,f2,f3,f4,f5):=hf it (by simp);exact a3u (I.ok.hd hc) st (by have:n<=i:=hg;omega) λh' eb=>⟨rfl,I.turned (t':=s.toks) (λb o hb e=>eb b o hb e) f0 f1 f3 f4 f5⟩
 self:=λ_ _ _ _ _ st h=>a3v st h
def OJ(a b:Int):ŷ a b (-1)=if b < a then a - b else 0:=by
 unfold ŷ;rw[a4c (by decide)];have e:(-(-1:Int))=1:=by decide
 rw[e,Int.ediv_one];split<;>omega
def zmf{a:Int}(ha:-(2^62)<=a)(ha':a < 2^62)(hb:-(2^62)<=b)(dh:b < 2^62):a1B a b (-1)=ż:=by
 unfold a1B;rw[OJ];simp only[Builtin.Range.rangeFitsLong,ġ,Bool.or_eq_true,decide_eq_true_eq,beq_iff_eq,show ¬((-1:Int) > 0) by decide,if_false];split<;>omega
section
variable{X:Cx}
def W1{s:Qd}{R:It->Hp->Prop}{lo hi:Int}{t u v:Tok}{tk:Nat}(I:Inv X pins σ H s)(h1:-(2^62)<=lo)(h2:lo < 2^62)(h3:-(2^62)<=hi)(h4:hi < 2^62)
  (q:R (Jl hi (hi - lo).toNat) H):đ (Ĕ X.prog X.w) X.A (pyIter<|.ref s.heap.objs.size) (Jj X pins σ tg R) E {s with heap:=s.heap.push {cls:=.type "range",data:=.fields #[.int hi t,.int lo u,.int (-1) v]},toks:=tk}:=by
 refine wpAny_pyIter_range (IsRange.new ..) (zmf h3 h4 h1 h2) ?_;have I1:Inv X pins σ H {s with heap:=s.heap.push {cls:=.type "range",data:=.fields #[.int hi t,.int lo u,.int (-1) v]},toks:=tk}:=I.kept λb o e=>qd _ e;refine⟨(s.heap.push {cls:=.type "range",data:=.fields #[.int hi t,.int lo u,.int (-1) v]}).objs.size,[(s.heap.push {cls:=.type "range",data:=.fields #[.int hi t,.int lo u,.int (-1) v]}).objs.size],_,_,H,rfl,
  I1.kept (t':=tk) λb o e=>qd _ e,zpm _ hi (hi - lo).toNat,?_,λb hb=>?_,q⟩
 .have e1:hi+((0:Nat):Int) * (-1)=hi:=by simp
  have e2:(((hi - lo).toNat:Nat):Int) - ((0:Nat):Int)=ŷ hi lo (-1):=by rw[OJ];split<;>omega
  show a2m _ _ (hi+((0:Nat):Int) * (-1)) ((((hi - lo).toNat:Nat):Int) - ((0:Nat):Int)) (-1);rw[e1,e2];exact qg _ rfl
 .have e:b=(s.heap.push {cls:=.type "range",data:=.fields #[.int hi t,.int lo u,.int (-1) v]}).objs.size:=by simpa using hb
  subst e;exact I1.eW (qe _)<|I1.aF.fresh<|qe _
def JZ(ta:TA):TI:=λσ H R=>ta σ H λvs H1=>∃i j:Int,vs=[.int i,.int j,.int (-1)]/\(-(2^62)<=i/\i < 2^62/\-(2^62)<=j/\j < 2^62)/\R (Jl i (i - j).toNat) H1
def Ln{a b c:Ĥ}{ta:TA}{p pos:Pos}(ha:Wr (PA X [a,b,c] ta))(hg:Gl X "range":=by exact rfl)(hm:X.mg "range"=Ž:=by exact qZ ‹Bl _ _› (by decide))(h1:dz a=ż:=by rfl)(h2:dz b=ż:=by rfl)(h3:dz c=ż:=by rfl):
  Wr (PI X tg (.Call (.Name "range" p) [a,b,c] [] pos)<|JZ ta):=by
 refine⟨?_⟩;intro pins s σ H R I h;refine Call_<|rf I hg hm boot_range<|Ø (aI (ha.run pos pins s σ H _ I h) λus s1 hZ=>?_) (jc h1)<|rB (by rw[ϑ,ϑ,h2,h3];rfl);have(vs,H1,I1,r1,q1):=hZ;obtain⟨i,j,e,⟨q1,q2,q3,q4⟩,q⟩:=q1;subst e;cases r1 with
 |cons r rr=>
  cases rr with
  |cons r' rr'=>
   cases rr' with
   |cons r2 rr2=>
    cases rr2;have(t,rfl):=r;have(t',rfl):=r';have(t2,rfl):=r2;exact call_range_3 (by decide) (W1 I1 q3 q4 q1 q2 q)<|.inl<|Γ (by decide +kernel)
end
section
variable{X:Cx}
def zV.at{xs:Qa V}(h:zV xs us)(e:us[i]?=ž u):∃x,xs[i]?=ž x/\zT x u:=by
 induction h generalizing i with
 |nil=>simp at e
 |cons r _ ih=>cases i with
  |zero=>cases(show ž _=ž _ from e);exact⟨_,rfl,r⟩
  |succ i=>exact ih e
def ZM{s:Qd}{p:Qg}{xs:Qa V}(I:Inv X pins σ H s)(hh:A.handled=Ž)(hq:bE X.K H p xs\/cH X.K H p xs)
  (h:∀(it:Qg) (fp wr:Qa Qg) (n:Nat) (P:Nat->Qc->Prop) (St:Nat->Ĭ->Prop) (s2:Qd),Walks X.prog X.w A it fp wr n P St->St 0 s2.heap->(∀b∈fp,b < s2.heap.objs.size)->n=xs.length->(∀i v,P i v->∃x,xs[i]?=ž x/\zT x v)->
   (∀h' tk,(∀b o,b∉wr->s2.heap.get? b=ž o->h'.get? b=ž o)->Inv X pins σ H {s2 with heap:=h',toks:=tk})->Q (.ref it) s2):
  đ (Ĕ X.prog X.w) A (pyIter<|.ref p) Q E s:=by
 rcases hq with hq|hq
 .have(aq,r,pl,hz):=I.list hq
  have hp:p < s.heap.objs.size:=by
   have(o,n,e,_):=pl;exact qh e
  have ne:p≠s.heap.objs.size:=qj hp;refine wpAny_pyIter_list pl.isList<|h s.heap.objs.size [s.heap.objs.size,p] [s.heap.objs.size] aq.toArray.size _ _ _ (Walks.list hh _ p ne aq.toArray) ⟨⟨_,qg _ rfl,rfl,rfl⟩,?_⟩ (λb hb=>?_) (by rw[ď];exact r.length.symm) (λi v e=>zV.at r (by simpa using e)) λh' tk hk=>?_
  .have(o,n,e,c,d,f):=pl
   exact⟨o,qd _ e,c,n,f⟩
  .rw[Ň]
   rcases qw.mp hb with z|z
   .rw[z];exact è _
   .rw[qr.mp z];exact Þ hp
  .exact I.kept λb u e=>hk b u (λz=>absurd (qh e) (by rw[qr.mp z];exact Ú _))<|qd _ e
 .have(aq,r,pl,hz):=I.tuple hq
  have hp:p < s.heap.objs.size:=by
   have(o,e,_):=pl;exact qh e
  have ne:p≠s.heap.objs.size:=qj hp;refine Ϟ (show s.heap.IsTuple p aq.toArray from pl)<|h s.heap.objs.size [s.heap.objs.size,p] [s.heap.objs.size] aq.toArray.size _ _ _ (Walks.tuple hh _ p ne aq.toArray) ⟨⟨_,qg _ rfl,rfl,rfl⟩,?_⟩ (λb hb=>?_) (by rw[ď];exact r.length.symm) (λi v e=>zV.at r (by simpa using e)) λh' tk hk=>?_
  .have(o,e,c,n,f):=pl
   exact⟨o,qd _ e,c,n,f⟩
  .rw[Ň]
   rcases qw.mp hb with z|z
   .rw[z];exact è _
   .rw[qr.mp z];exact Þ hp
  .exact I.kept λb u e=>hk b u (λz=>absurd (qh e) (by rw[qr.mp z];exact Ú _))<|qd _ e
end
section
variable{X:Cx}
def Nz(val:Nat->Int):∀k,a2t (λi j=>decide<|val i > val j) k<=k/\∀i,i<=k->val i<=val (a2t (λi j=>decide<|val i > val j) k)
 |0=>⟨qe _,λi hi=>by cases Nat.le_zero.mp hi;exact à _⟩
 |k+1=>by
  have(h1,h2):=Nz val k;unfold a2t
  by_cases c:val (k+1) > val (a2t (λi j=>decide<|val i > val j) k)
  .rw[a4b<|a4d c]
   refine⟨qe _,λi hi=>?_⟩;rcases χ i (k+1)with z|z
   .have:=h2 i (by omega)
    omega
   .have:i=k+1:=by omega
    subst this;exact à _
  .rw[a4c (by rw[a4e c];exact qf)]
   refine⟨by omega,λi hi=>?_⟩;rcases χ i (k+1)with z|z
   .exact h2 i (by omega)
   .have:i=k+1:=by omega
    subst this;omega
end
section
variable{w:Qh}{s:Qd}
def zmg{t:Qg}{items:Array Qc}{x:Qc}(hi:s.heap.IsTupleIter it t i)(ht:s.heap.IsTuple t items)(hx:items[i]?=ž x)
  (q:∀h',h'.IsTupleIter it t (i+1)->ϊ it s.heap h'->Q x {s with heap:=h'}):đ (Ĕ prog w) A (ť<|.ref it) Q E s:=by
 have(oi,e1,e2,e3):=id hi;have(ot,f1,f2,nt,f3):=ht;unfold ť;refine qa (ĺ (name:=Ţ "__next__") hi.typeIs Η
  (İ Η hi.typeIs a3U ?_<|args_tupleiter_next _))
 show đ _ _ (field (.ref it) 0 >>= _) _ _ s;refine qa<|Ń e1 e3 (x:=.ref t) rfl ?_;show đ _ _ (if(Ĝ t==Ħ)=ż then _ else _) _ _ s;rw[a4c (show ¬((Ĝ t==Ħ)=ż) from qf)];show đ _ _ (field (.ref it) 1 >>= _) _ _ s;refine qa<|Ń e1 e3 (x:=.int i 0) rfl ?_;show đ _ _ (seqItems? (.ref t) >>= _) _ _ s;refine qa<|Φ f1 f3 ?_;simp only[į,hx];refine qa<|a0K e1 e3 (by simp)<|qb ⟨x,rfl,qb<|q _ ?_<|ă ..⟩;refine⟨_,a0e _ e1<|a2U<|a0Q e3 _,(Obj.cls_mapFields ..).trans e2,?_⟩;rw[a0Q e3];simp[a2z]
def zpn{t:Qg}{items:Array Qc}(hh:A.handled=Ž)(hi:s.heap.IsTupleIter it t i)(ht:s.heap.IsTuple t items)(hx:items[i]?=Ž)
  (q:∀h' e,Heap.ExtBut it s.heap h'->(∃o,h'.get? e=ž o/\o.cls=.type "StopIteration")->E (.ref e) {s with heap:=h'}):đ (Ĕ prog w) A (ť<|.ref it) Q E s:=by
 have(oi,e1,e2,e3):=id hi;have(ot,f1,f2,nt,f3):=ht;unfold ť;refine qa (ĺ (name:=Ţ "__next__") hi.typeIs Η
  (İ Η hi.typeIs a3U ?_<|args_tupleiter_next _))
 show đ _ _ (field (.ref it) 0 >>= _) _ _ s;refine qa<|Ń e1 e3 (x:=.ref t) rfl ?_;show đ _ _ (if(Ĝ t==Ħ)=ż then _ else _) _ _ s;rw[a4c (show ¬((Ĝ t==Ħ)=ż) from qf)];show đ _ _ (field (.ref it) 1 >>= _) _ _ s;refine qa<|Ń e1 e3 (x:=.int i 0) rfl ?_;show đ _ _ (seqItems? (.ref t) >>= _) _ _ s;refine qa<|Φ f1 f3 ?_;simp only[į,hx];refine qa<|a0n<|qa<|a0K e1 e3 (by simp) ?_;show đ _ _ (newExc (.type "StopIteration") [] >>= _) _ _ _;refine qa ?_;simp only[newExc,newTuple];refine qa<|qB ?_ (by show(0:Nat)<=ċ;exact Ê _);refine qa (m:=a0M _ _)<|wpAny_of_eq (a:=Ħ) (by first|rfl | (simp only[a0M];rfl)) ?_;refine qB ?_ (by first|trivial|size_fits);simp only[raiseNew];refine qa (wpAny_handled ?_)
 first|rw[show A.in1.handled=Ž from hh] |rw[hh]
 refine qa<|qb<|wpAny_throw ?_;exact q _ _ (((ă ..).extBut.push _).push _) ⟨_,qg _ rfl,rfl⟩
end
def N8{w:Qh}(hh:A.handled=Ž)(it t:Qg)(ne:t≠it)(items:Array Qc):
  Draws prog w A it [it,t] items.size (λi v=>items[i]?=ž v) (λi h=>h.IsTupleIter it t i/\h.IsTuple t items) where
 live:=λ_ _ st=>let ⟨o,ho,_⟩:=st.1;⟨o,ho⟩
 frame:=λ_ _ _ st hk=>by
  obtain⟨⟨o,a1,a2,a3⟩,⟨o2,b1,b2⟩⟩:=st;exact⟨⟨o,hk it (by simp) o a1,a2,a3⟩,⟨o2,hk t (by simp) o2 b1,b2⟩⟩
 item:=λi s Q E hi st q=>by
  refine zmg st.1 st.2 (x:=items[i]) (by simp[hi]) λh' IG oI=>?_;exact q _ h' s.toks (by simp[hi]) ⟨IG,st.2.extBut oI.extBut ne⟩ oI
 done:=λs Q E st q=>zpn hh st.1 st.2 (by simp) q
def Z9(t:Qg)(items:Array Qc)(n:Nat)(nE:Qb Qg)(sl:Array (Qb Qc)):
  Meets (Builtin.«enumerate.__new__» ⟨[.type "enumerate",.ref t],[]⟩) (λ_ R s=>s.heap.get? t=ž {cls:=.type "tuple",dict:=nE,data:=.seq items n,slots:=sl}/\
   R (.ok<|.ret<|.ref (s.heap.push {cls:=.type "tuple_iterator",data:=.fields #[.ref t,.int 0 0]}).objs.size)
    {s with heap:=(s.heap.push {cls:=.type "tuple_iterator",data:=.fields #[.ref t,.int 0 0]}).push {cls:=.type "enumerate",data:=.fields #[.none,.bool Ż,.ref s.heap.objs.size,a2z 0,.none,.none]}}):=
 .of_wp λprog w A R s h=>by
  have(hp,g,d,tk,os):=s;have(hl,h):=h;have hsub:=sub_enumerate;have hT:Heap.IsTuple (Shared.heap ⟨hp,g,d,tk,os⟩) t items:=⟨_,hl,rfl,n,rfl⟩
  wp_walk using ŝ hl
  refine wpAny_stack_any λst=>qb ?_;split
  .rename_i c _ _ _ _ _
   cases(c==a1H "enumerate")
   .wp_walk using ŝ hl,Ϟ hT
    exact⟨_,rfl,h⟩
   .wp_walk using ŝ hl,Ϟ hT
    exact⟨_,rfl,h⟩
  .wp_walk using ŝ hl,Ϟ hT
   exact⟨_,rfl,h⟩
section
variable{w:Qh}{s:Qd}
def zmh{t:Qg}{items:Array Qc}(hT:s.heap.IsTuple t items)
  (h:∀h',IsEnum h' (s.heap.objs.size+1) s.heap.objs.size 0 .none->h'.IsTupleIter s.heap.objs.size t 0->(∀b o,s.heap.get? b=ž o->h'.get? b=ž o)->Q (.ref<|s.heap.objs.size+1) {s with heap:=h'}):
  đ (Ĕ prog w) A (call (.type "enumerate") [.ref t]) Q E s:=by
 obtain⟨⟨c,nE,dt,sl⟩,hl,hc,n,hd⟩:=hT;replace hc:c=.type "tuple":=hc;replace hd:dt=.seq items n:=hd;subst hc hd;refine callType_new F.called_enumerate (by decide) (F.typeCall_enumerate_1 _) (F.newCall_enumerate_1 _) (λobj=>F.args_object_init_2 obj _) F.entry_enumerate_new
  (Z9 t items n nE sl) ⟨hl,?_⟩
 have hz:(s.heap.push {cls:=.type "tuple_iterator",data:=.fields #[.ref t,.int 0 0]}).objs.size=s.heap.objs.size+1:=Ň ..;show _/\_;rw[hz];have he:IsEnum ((s.heap.push {cls:=.type "tuple_iterator",data:=.fields #[.ref t,.int 0 0]}).push
   {cls:=.type "enumerate",data:=.fields #[.none,.bool Ż,.ref s.heap.objs.size,a2z 0,.none,.none]}) (s.heap.objs.size+1) s.heap.objs.size 0 .none:=by
  have z:=qg (s.heap.push {cls:=.type "tuple_iterator",data:=.fields #[.ref t,.int 0 0]})
   (o:={cls:=.type "enumerate",data:=.fields #[.none,.bool Ż,.ref s.heap.objs.size,a2z 0,.none,.none]}) rfl
  rw[hz]at z;exact z
 exact⟨⟨_,he,rfl⟩,h _ he ⟨_,qd _<|qg _ rfl,rfl,rfl⟩ λb o x=>qd _<|qd _ x⟩
end
section
variable{X:Cx}{s:Qd}
def Inv.dD{t':Nat}{wr:Qa Qg}(I:Inv X pins σ H s)(k:∀b o,b∉wr->s.heap.get? b=ž o->h'.get? b=ž o)(hf:∀b∈wr,ir X pins H b):Inv X pins σ H {s with heap:=h',toks:=t'}:=by
 have kK:∀b u,H b=ž u->b∉wr:=λb u e z=>by rw[(hf b z).1]at e;cases e
 refine I.step (g':=s.gens) (d':=s.drawn) (ch:=wr) (λb hb=>?_) (λb o _ _ hc e _=>k b o hc e) (λb o _ _ hc e _=>⟨o.slots,k b o hc e⟩) (λ_ _ _ _ n=>n)
  (λb o hc e=>⟨o,k b o hc e⟩) (λ_ _ e=>e) (λ_ _ _ e=>e) (λb ps e=>⟨#[],by rw[e];simp⟩) (λm hm=>?_) (λb u e=>?_) I.bare
 .have(_,z1,_,z3,z4,z5):=hf b hb
  exact⟨z3,z1,z4,z5⟩
 .have(o,es,ep,ho,r):=hm
  exact⟨o,es,ep,k _ o (λz=>(hf _ z).2.1 rfl) ho,r⟩
 .refine(I.aF b u e).cx (λc v hc q=>k c v ?_ q) (λ_ q=>q) λ_ _ q=>q
  rcases hc with z|z
  .rw[z];exact kK b u e
  .exact kK c _ z
def Inv.mU{o:HO}(I:Inv X pins σ H s)(f:ir X pins H a)(ha:X.bB.heap.objs.size<=a)(new:zX X.prog X.w X.K (upd H a o) s.heap a o):Inv X pins σ (upd H a o) s:=by
 have(f0,f1,f2,f3,f4,f5):=f;refine⟨I.ok,I.os,I.bare,Ni I.base f0 ha,I.loc,I.cell,?_,λx c e=>?_,λp hp=>?_,NB I.aF f0 new,I.len⟩
 .rw[zu<|ī f1]
  exact I.free
 .rw[zu<|f4 x c e]
  exact I.bP x c e
 .have(p1,p2,p3):=I.pin p hp
  refine⟨p1,?_,p3⟩;rw[zu<|f5 p hp];exact p2
end
def Sq(K:qc)(a:Qg):It :=
 ⟨λi H=>∃xs x,cH K H a xs/\xs[i]?=ž x,λi H x H'=>∃T,H T=Ž/\x=.ref T/\∀xs v,cH K H a xs->xs[i]?=ž v->H'=upd H T (.tup [.int i,v]),λi H=>∃xs,cH K H a xs/\xs.length=i⟩
def Z8{w:Qh}{k:Nat}{pos:Pos}(e it t:Qg)(t8:e≠it)(yx:t≠e)(yw:t≠it):
  Turn P w K (.Tuple elts k pos) (Sq K t) [e,it] e (λi h=>(∃old,IsEnum h e it i old)/\h.IsTupleIter it t i) where
 mem:=by simp
 obj:=λi h st b hb=>by
  obtain⟨⟨old,he⟩,⟨o,ho,_,hd⟩⟩:=st;rcases qw.mp hb with z|z
  .subst z
   exact⟨_,he,λv q=>by
    have q':a0l _=a1o v:=q;cases q'⟩
  .rw[qr.mp z]
   exact⟨o,ho,λv q=>by rw[hd]at q;cases q⟩
 keep:=λi h h' st kk=>by
  obtain⟨⟨old,he⟩,⟨o,ho,hc,hd⟩⟩:=st;exact⟨⟨old,kk e (by simp) _ he⟩,⟨o,kk it (by simp) _ ho,hc,hd⟩⟩
 item:=by
  intro X hP hw hK hc i pins s σ H E I hf st hg;subst hP hw hK;have(xs,x,hq,hx):=hg;have(aq,rv,ht,hz):=I.tuple hq;have hi:i < aq.toArray.size:=by
   rw[ď,<-rv.length];exact(qm.mp hx).1
  have W:=a3a (N8 (prog:=X.prog) (w:=X.w) (A:=X.A.in1) (I.ok.hd hc) it t yw aq.toArray) e t8 (by simp[t8,ī yx]) (by simp);refine W.item i s _ _ hi ⟨st.1,st.2,ht⟩ λT vals h1 tk hP hT m9 mid kk=>?_;refine⟨_,rfl,W.go elts k pos i T {s with heap:=h1,toks:=tk} _ _ mid λh2 iG tU=>?_⟩;have(tt,u,hu,rfl):=hP;have apart:=W.apart _ _ _ mid;have I2:Inv X pins σ H {s with heap:=h2,toks:=tk}:=I.dD (wr:=[e,it]) (λb o hb q=>tU b o hb<|kk b o hb q) hf;have fT:ir X pins H T:=I.eW hT (I.aF.fresh hT);have ru:zT x u:=by
   have(u',eu,r):=rv.get hx;have:u'=u:=by
    have z:aq[i]?=ž u:=by simpa using hu
    rw[eu]at z;exact qy z
   rw[<-this];exact r
  have(oT,g1,g2,nT,g3):=m9;have I3:Inv X pins σ (upd H T<|.tup [.int i,x]) {s with heap:=h2,toks:=tk}:=I2.mU fT (qA I.sz hT) ⟨by show 2<=ċ;decide,[.int i tt,u],.cons ⟨tt,rfl⟩<|.cons ru .nil,oT,tU T oT apart g1,g2,⟨nT,g3⟩,.inr ⟨_,_,_,rfl⟩⟩;refine⟨.ref T,_,I3,rfl,⟨T,I.aF.fresh hT,rfl,λiF v p4 hv=>?_⟩,⟨?_,iG.2.1⟩,λb hb=>?_⟩
  .have:=I.gP hq p4
   subst this;rw[hx]at hv;cases hv;rfl
  .exact iG.1
  .have ne:b≠T:=λz=>apart (by rw[<-z];exact hb)
   rw[zu ne];exact(hf b hb).1
 done:=by
  intro X hP hw hK hc i pins s σ H E I hf st hg;subst hP hw hK;have(xs,hq,hl):=hg;have(aq,rv,ht,hz):=I.tuple hq;have hi:i=aq.toArray.size:=by
   rw[ď,<-rv.length];exact hl.symm
  have W:=a3a (N8 (prog:=X.prog) (w:=X.w) (A:=X.A.in1) (I.ok.hd hc) it t yw aq.toArray) e t8 (by simp[t8,ī yx]) (by simp);refine W.done s _ _ ?_ λh1 tk kk=>⟨rfl,I.dD (wr:=[e,it]) kk hf⟩;rw[<-hi];exact⟨st.1,st.2,ht⟩
 self:=λ_ _ _ _ _ st h=>by
  obtain⟨⟨old,he⟩,_⟩:=st;exact ξ he h
section
variable{X:Cx}{k:Nat}
def JY(K:qc)(ta:TA):TI:=λσ H R=>ta σ H λvs H1=>∃a,vs=[.ref a]/\(∃xs,cH K H1 a xs)/\R (Sq K a) H1
def L1{a:Ĥ}{ta:TA}{p pos:Pos}(ha:Wr (PA X [a] ta))(hK:X.K=K:=by rfl)(hg:Gl X "enumerate":=by exact rfl)(hm:X.mg "enumerate"=Ž:=by exact qZ ‹Bl _ _› (by decide))(hs:dz a=ż:=by rfl):
  Wr (PI X (.Tuple elts k pQ) (.Call (.Name "enumerate" p) [a] [] pos)<|JY K ta):=by
 subst hK;refine⟨?_⟩;intro pins s σ H R I h;refine Call_<|rf I hg hm boot_enumerate<|Ø (aI (ha.run pos pins s σ H _ I h) λus s1 hZ=>?_) (jc hs) rfl;have(vs,H1,I1,r1,q1):=hZ;obtain⟨t,e,⟨xs,hq⟩,q⟩:=q1;subst e;have(u,rfl,ru):=pw r1;cases ru;have(aq,rv,ht,hz):=I1.tuple hq;have tl:t < s1.heap.objs.size:=by
  have(o,e,_):=ht;exact qh e
 refine zmh (show s1.heap.IsTuple t aq.toArray from ht) λh' he hit kk=>?_;have I2:Inv X pins σ H1 {s1 with heap:=h'}:=I1.kept (t':=s1.toks) kk;refine ξ he ?_;refine⟨s1.heap.objs.size+1,[s1.heap.objs.size+1,s1.heap.objs.size],_,_,H1,rfl,I2,Z8 (s1.heap.objs.size+1) s1.heap.objs.size t (a3X _) (qj<|Þ tl)<|qj tl,⟨⟨_,he⟩,hit⟩,λb hb=>?_,q⟩;rcases qw.mp hb with z|z
 .subst z
  exact I1.eW (Ð _)<|I1.aF.fresh<|Ð _
 .rw[qr.mp z]
  exact I1.eW (qe _)<|I1.aF.fresh<|qe _
end
section
variable{X:Cx}{pos:Pos}{i v:Ĥ}{k:Nat}
def FQ:Wr (PE X (.Dict [] [] pos) FF):=⟨Zw⟩
def W0:Wr (PE X (.Dict [] [] pos) FE):=⟨Zv⟩
def uT(hr:aK k X.A)(ho:Wr (PE X o td))(hi:Wr (PE X i ty))(hs:Ao i:=by intro _ _;rfl):Wr (PE X (.Subscript o i pos)<|EO X.K td ty):=⟨W6 (Ba hr) ho.run hi.run hs⟩
def Fg(hr:aK k X.A)(ho:Wr (PE X o td))(hi:Wr (PE X i ty))(hv:Wr (PE X v tv))(hs:ϣ v (ž<|.Subscript o i pos') pos.line X.env=pure Ż:=by rfl):
  Wr (PS X (.Assign [.Subscript o i pos'] v pos)<|EN X.K td ty tv):=⟨W5 (Ba hr) ho.run hi.run hv.run hs⟩
end
end Internal
namespace Internal
open PySem PySem.W PyProof.Rows
section
def fh(lt:Nat->Nat->Bool)(n:Nat):KasT α->(α->Prop)->Prop
 |.ret a,Q=>Q a
 |.ask i j k,Q=>i < n/\j < n/\fh lt n (k<|lt i j) Q
def fh.bind{lt:Nat->Nat->Bool}{f:α->KasT β}{Q:β->Prop}:∀{t:KasT α},fh lt n t (λa=>fh lt n (f a) Q)->fh lt n (t.bind f) Q
 |.ret _,h=>h
 |.ask _ _ _,⟨h1,h2,h3⟩=>⟨h1,h2,fh.bind h3⟩
def fh.wp{lt:Nat->Nat->Bool}{Q:α->Prop}{Q':α->Qd->Prop}{s:Qd}(hc:∀i j (C:Bool->Qd->Prop),i < n->j < n->C (lt i j) s->cmp i j C s)(hQ:∀a,Q a->Q' a s):
  ∀{t:KasT α},fh lt n t Q->t.kasWp cmp Q' s
 |.ret _,h=>hQ _ h
 |.ask i j k,⟨h1,h2,h3⟩=>hc i j _ h1 h2<|fh.wp hc hQ h3
end
section
variable{rk:Nat->Int}
noncomputable def KR(rk:Nat->Int)(p:Array Nat)(i:Nat):Int:=rk (p.getD i 0)
noncomputable def jV(rk:Nat->Int)(i j:Nat):Bool:=decide (rk i < rk j)
def Pm(n:Nat)(p:Array Nat):Prop:=p.Perm (Ğ n).toArray
def Pm.size(h:Pm n p):p.size=n:=by
 have:=h.size_eq;simpa using this
def Pm.lt(h:Pm n p)(hi:i < n):p.getD i 0 < n:=by
 have hs:=h.size;have nv:i < p.size:=by omega
 have e:p.getD i 0=p[i]:=by simp[Array.getD,nv]
 rw[e];have m:p[i]∈(Ğ n).toArray:=(h.mem_iff).mp (Array.getElem_mem nv);simpa using m
def xF{q:Array Nat}(h:p[i]?=q[j]?):KR rk p i=KR rk q j:=by
 have e:∀(x:Array Nat) (k:Nat),x.getD k 0=(x[k]?).getD 0:=λx k=>by simp
 unfold KR;rw[e,e,h]
def Bj(hj:j<=p.size)(k:Nat):KR rk (kas_rev p i j) k=if i<=k/\k < j then KR rk p (i+j - 1 - k)else KR rk p k:=by
 have e:=getElem?_mirror_all (xs:=p) (i:=i) hj k;unfold kas_rev
 by_cases h:i<=k/\k < j
 .rw[a4b h]at e ⊢
  exact xF e
 .rw[a4c h]at e ⊢
  exact xF e
def Ny{src d:Nat}(hs:src < p.size)(hd:d<=src)(k:Nat):KR rk (bubble p src d) k=if k=src - d then KR rk p src else if src - d < k/\k<=src then KR rk p (k - 1)else KR rk p k:=by
 have e:=getElem?_bubble hs d hd k
 by_cases h1:k=src - d
 .rw[a4b h1]at e ⊢;exact xF e
 .rw[a4c h1]at e ⊢
  by_cases h2:src - d < k/\k<=src
  .rw[a4b h2]at e ⊢;exact xF e
  .rw[a4c h2]at e ⊢;exact xF e
def Pm.rev(h:Pm n p)(i j:Nat):Pm n (kas_rev p i j):=(mirror_perm p i j _).trans h
def Pm.bubble(h:Pm n p)(i d:Nat):Pm n (PyProof.Rows.bubble p i d):=(bubble_perm p i d).trans h
def Up(rk:Nat->Int)(p:Array Nat)(m:Nat):Prop:=∀i j,i<=j->j < m->KR rk p i<=KR rk p j
def Dn(rk:Nat->Int)(p:Array Nat)(m:Nat):Prop:=∀i j,i<=j->j < m->KR rk p j<=KR rk p i
def Up.more(h:Up rk p m)(h1:1<=m)(hm:KR rk p (m - 1)<=KR rk p m):Up rk p (m+1):=λi j gT hj=>by
 by_cases e:j=m
 .subst e
  by_cases e2:i=j
  .subst e2;exact à _
  .exact ć (h i (j - 1) (by omega) (by omega)) hm
 .exact h i j gT (by omega)
def Dn.more(h:Dn rk p m)(h1:1<=m)(hm:KR rk p m<=KR rk p (m - 1)):Dn rk p (m+1):=λi j gT hj=>by
 by_cases e:j=m
 .subst e
  by_cases e2:i=j
  .subst e2;exact à _
  .exact ć hm (h i (j - 1) (by omega) (by omega))
 .exact h i j gT (by omega)
def ym(c:rk i < rk j):jV rk i j=ż:=a4d c
def yn(c:¬rk i < rk j):jV rk i j=Ż:=a4e c
def Na(hp:Pm n p){Q:Nat->Prop}:∀(f m:Nat),1<=m->m+f<=n->Up rk p m->(∀m',m<=m'->m'<=m+f->Up rk p m'->(m' < m+f->KR rk p m' < KR rk p (m' - 1))->Q m')->fh (jV rk) n (kas_asc p f m) Q:=by
 intro f
 induction f with
 |zero=>exact λm _ _ hu h=>h m (qe _) (qe _) hu λz=>absurd z<|Ú _
 |succ f ih=>
  intro m h1 hf hu h;refine⟨hp.lt (by omega),hp.lt (by omega),?_⟩
  by_cases c:rk (p.getD m 0) < rk (p.getD (m - 1) 0)
  .rw[ym c]
   dsimp only;rw[a4b rfl];exact h m (qe _) (by omega) hu λ_=>c
  .rw[yn c]
   dsimp only;rw[a4c qf];exact ih (m+1) (by omega) (by omega) (hu.more h1<|Int.not_lt.mp c) λm' a b c2 d=>h m' (by omega) (by omega) c2 λz=>d (by omega)
def y9(rk:Nat->Int)(p:Array Nat)(m q:Nat):Prop:=q+1<=m/\∀i,m - (q+1)<=i->i < m->KR rk p i=KR rk p (m - 1)
def P8(h:1<=m):y9 rk p m 0:=⟨h,λi a b=>by
 have:i=m - 1:=by omega
 rw[this]⟩
def L0{q:Nat}(hm:m<=p.size)(h:y9 rk p m q)(k:Nat):KR rk (kas_rev p (m - (q+1)) m) k=KR rk p k:=by
 rw[Bj hm];split
 .rw[h.2 _ (by omega) (by have:=h.1;omega),h.2 k (by omega) (by omega)]
 .rfl
def Dn.congr{p':Array Nat}(h:Dn rk p m)(e:∀k,KR rk p' k=KR rk p k):Dn rk p' m:=λi j gT hj=>by
 rw[e,e];exact h i j gT hj
def Z7{Q:Array Nat×Nat×Nat->Prop}:∀(f:Nat) (p:Array Nat) (m q:Nat),Pm n p->1<=m->m+f<=n->Dn rk p m->y9 rk p m q->
  (∀p' m' q',Pm n p'->1<=m'->m'<=m+f->Dn rk p' m'->y9 rk p' m' q'->Q (p',m',q'))->fh (jV rk) n (kas_desc f p m q) Q:=by
 intro f
 induction f with
 |zero=>exact λp m q hp h1 _ hd he h=>h p m q hp h1 (qe _) hd he
 |succ f ih=>
  intro p m q hp h1 hf hd he h;have hs:=hp.size;refine⟨hp.lt (by omega),hp.lt (by omega),?_⟩
  by_cases c:rk (p.getD m 0) < rk (p.getD (m - 1) 0)
  .rw[ym c]
   dsimp only;rw[a4b rfl];have hd2:Dn rk p (m+1):=hd.more h1 (í c);have one:∀x:Array Nat,y9 rk x (m+1) 0:=λx=>P8 (by omega)
   by_cases hq:q > 0
   .rw[a4b hq]
    have e:=L0 (by omega) he;exact ih _ (m+1) 0 (hp.rev _ _) (by omega) (by omega) (hd2.congr e) (one _) λp' m' q' a b c d e=>h p' m' q' a b (by omega) d e
   .rw[a4c hq]
    exact ih p (m+1) 0 hp (by omega) (by omega) hd2 (one _) λp' m' q' a b c d e=>h p' m' q' a b (by omega) d e
  .rw[yn c]
   dsimp only;rw[a4c qf];refine⟨hp.lt (by omega),hp.lt (by omega),?_⟩
   by_cases c2:rk (p.getD (m - 1) 0) < rk (p.getD m 0)
   .rw[ym c2]
    dsimp only;rw[a4b rfl];exact h p m q hp h1 (by omega) hd he
   .rw[yn c2]
    dsimp only;rw[a4c qf];have eq:KR rk p m=KR rk p (m - 1):=Int.le_antisymm (Int.not_lt.mp c2) (Int.not_lt.mp c);refine ih p (m+1) (q+1) hp (by omega) (by omega) (hd.more h1<|Int.le_of_eq eq) ⟨by have:=he.1;omega,λi a b=>?_⟩ λp' m' q' a b c d e=>h p' m' q' a b (by omega) d e;rw[show m+1 - 1=m by omega,eq]
    by_cases im:i=m
    .rw[im,eq]
    .exact he.2 i (by omega) (by omega)
def Run(rk:Nat->Int)(n:Nat)(r:Nat×Array Nat):Prop:=Pm n r.2/\r.1<=n/\Up rk r.2 r.1
def NV(hp:Pm n p)(h1:1<=m)(hm:m<=n)(hd:Dn rk p m){Q:Nat×Array Nat->Prop}(h:∀r,Run rk n r->Q r):fh (jV rk) n (kas_tail3 m n p) Q:=by
 have hs:=hp.size;refine fh.bind<|Na (hp.rev 0 m) (n - m) m h1 (by omega) (λi j gT hj=>?_) λm' a b c _=>h (m',_) ⟨hp.rev 0 m,by show m'<=n;omega,c⟩;rw[Bj (by omega),Bj (by omega),a4b ⟨by omega,by omega⟩,a4b ⟨by omega,hj⟩];exact hd _ _ (by omega) (by omega)
def O1(hp:Pm n p)(h1:1<=m)(hm:m+1<=n)(hd:Dn rk p (m+1)){Q:Nat×Array Nat->Prop}(h:∀r,Run rk n r->Q r):fh (jV rk) n (kas_descPart m n p) Q:=by
 refine fh.bind<|Z7 (n - (m+1)) p (m+1) 0 hp (by omega) (by omega) hd (P8 (by omega)) λp' m' q' gI a b d e=>?_;have hs:=gI.size;show fh (jV rk) n (if q' > 0 then _ else _) Q;split
 .exact NV (gI.rev _ _) a (by omega) (d.congr<|L0 (by omega) e) h
 .exact NV gI a (by omega) d h
def zmj(hp:Pm n p)(h1:1<=n){Q:Nat×Array Nat->Prop}(h:∀r,Run rk n r->Q r):fh (jV rk) n (kas_count n p) Q:=by
 have hs:=hp.size;refine fh.bind<|Na hp (n - 1) 1 (qe _) (by omega) (λi j gT hj=>by
  have:i=j:=by omega
  subst this;exact à _) λm a b u l=>?_
 by_cases e:m=n
 .rw[a4b (by simpa using e)]
  exact h _ ⟨hp,by show m<=n;omega,u⟩
 rw[a4c (by simpa using e)];have l:=l (by omega)
 by_cases m1:m > 1
 .rw[a4b m1]
  refine⟨hp.lt (by omega),hp.lt (by omega),?_⟩
  by_cases c:rk (p.getD 0 0) < rk (p.getD (m - 1) 0)
  .rw[ym c]
   dsimp only;rw[a4b rfl];exact h _ ⟨hp,by show m<=n;omega,u⟩
  .rw[yn c]
   dsimp only;rw[a4c qf];have all:∀i,i < m->KR rk p i=KR rk p 0:=λi hi=>Int.le_antisymm (ć (u i (m - 1) (by omega) (by omega))<|Int.not_lt.mp c)<|u 0 i (by omega) hi;have ek:∀k,KR rk (kas_rev p 0 m) k=KR rk p k:=λk=>by
    rw[Bj (by omega)];split
    .rw[all _ (by omega),all k (by omega)]
    .rfl
   refine O1 (hp.rev 0 m) (by omega) (by omega) (Dn.congr (p:=p) (λi j gT hj=>?_) ek) h
   by_cases jm:j=m
   .subst jm
    by_cases ij:i=j
    .subst ij;exact à _
    .rw[all i (by omega),<-all (j - 1) (by omega)]
     exact í l
   .rw[all i (by omega),all j (by omega)]
    exact à _
 .rw[a4c m1]
  have:m=1:=by omega
  subst this;refine O1 hp (by omega) (by omega) (λi j gT hj=>?_) h
  by_cases ij:i=j
  .subst ij;exact à _
  .have e1:i=0:=by omega
   have e2:j=1:=by omega
   subst e1;subst e2;exact í l
def zmk{k:Nat}(hp:Pm n p)(hk:k < n){Q:Nat->Prop}(h:∀l,l<=k->(∀i,i < l->KR rk p i<=KR rk p k)->(∀i,l<=i->i < k->KR rk p k<=KR rk p i)->Q l)(hu:Up rk p k):
  ∀(f l r:Nat),l<=r->r<=k->r - l<=f->(∀i,i < l->KR rk p i<=KR rk p k)->(∀i,r<=i->i < k->KR rk p k<=KR rk p i)->fh (jV rk) n (kas_place p k f l r) Q:=by
 intro f
 induction f with
 |zero=>exact λl r a b c d e=>h l (by omega) d λi hi=>e i (by omega)
 |succ f ih=>
  intro l r a b c d e;unfold kas_place
  by_cases g:l>=r
  .rw[a4b g]
   exact h l (by omega) d λi hi=>e i (by omega)
  .rw[a4c g]
   refine⟨hp.lt hk,hp.lt (by omega),?_⟩
   by_cases x:rk (p.getD k 0) < rk (p.getD ((l+r) / 2) 0)
   .rw[ym x]
    dsimp only;rw[a4b rfl];exact ih l ((l+r) / 2) (by omega) (by omega) (by omega) d λi hi hik=>ć (í x)<|hu _ i hi hik
   .rw[yn x]
    dsimp only;rw[a4c qf];exact ih ((l+r) / 2+1) r (by omega) (by omega) (by omega) (λi hi=>ć (hu i ((l+r) / 2) (by omega) (by omega))<|Int.not_lt.mp x) e
def M9{Q:Array Nat->Prop}(h:∀p,Pm n p->Up rk p n->Q p):∀(f:Nat) (p:Array Nat) (k:Nat),Pm n p->1<=k->k+f=n->Up rk p k->fh (jV rk) n (kas_bin f p k) Q:=by
 intro f
 induction f with
 |zero=>exact λp k hp _ e hu=>h p hp (by rw[<-e];exact hu)
 |succ f ih=>
  intro p k hp h1 e hu;have hs:=hp.size;refine fh.bind (zmk hp (by omega) (λl hl a b=>?_) hu k 0 k (by omega) (qe _) (by omega) (λi hi=>absurd hi<|Ą _) λi a b=>by omega);refine ih _ (k+1) (hp.bubble _ _) (by omega) (by omega) λi j gT hj=>?_;rw[Ny (by omega) (by omega),Ny (by omega) (by omega),show k - (k - l)=l by omega]
  by_cases il:i=l
  .rw[a4b il]
   by_cases jl:j=l
   .rw[a4b jl];exact à _
   .rw[a4c jl]
    split
    .exact b _ (by omega) (by omega)
    .omega
  .rw[a4c il]
   by_cases jl:j=l
   .rw[a4b jl]
    split
    .omega
    .exact a i (by omega)
   .rw[a4c jl]
    split<;>split
    .exact hu _ _ (by omega) (by omega)
    .omega
    .exact hu _ _ (by omega) (by omega)
    .exact hu _ _ (by omega) (by omega)
def Z6(h2:1<=n){Q:Array Nat->Prop}(h:∀p,Pm n p->Up rk p n->Q p):fh (jV rk) n (kas_sort n) Q:=by
 refine fh.bind<|zmj (a2O _) h2 λr hZ=>?_;have(hp,hr,hu):=hZ;split
 .rename_i c
  by_cases z:r.1=0
  .rw[z]
   exact M9 h (n - max 0 1) r.2 (max 0 1) hp (by decide) (by have:max 0 1=1:=rfl;omega) λi j gT hj=>by
    have:max 0 1=1:=rfl;have:i=j:=by omega
    subst this;exact à _
  .have e:max r.1 1=r.1:=by omega
   rw[e];exact M9 h (n - r.1) r.2 r.1 hp (by omega) (by omega) hu
 .have:r.1=n:=by omega
  exact h _ hp (by rw[<-this];exact hu)
end
end Internal
namespace Internal
open PySem PySem.Spec PyProof.Rows
open PySem.AutoSeq1 (wpAny_loadPart')
open MeetsSeq MeetsSeq2 MeetsSeq3 SeqRoads2
noncomputable def fe:Qa Int->Qa Int->Bool
 |[],[]=>Ż
 |[],_::_=>ż
 |_::_,[]=>Ż
 |a::as,b::bs=>if a=b then fe as bs else decide (a < b)
end Internal
namespace Internal
open PySem PySem.Spec PySem.W PyProof.Rows
section
variable{w:Qh}{s:Qd}
def zCK(prog:Qe)(w:Qh)(A:Qf)(rk:Nat->Int)(vs:Qa Qc)(κ:SortKind)(s:Qd):Prop :=
 ∀i j (C:Bool->Qd->Prop),i < vs.length->j < vs.length->C (jV rk i j) s->đ (Ĕ prog w) A (keyLt' κ (vs.getD i Ħ)<|vs.getD j Ħ) C (λ_ _=>False) s
def zjA{rk:Nat->Int}{vs:Qa Qc}{P:PySem.Fin->Qd->Prop}(ho:s.heap.get? a=ž (ϻ "list" vs.toArray n))(Rx:vs.length < 64)
  (hk:2<=vs.length->∀h':Ĭ,(∀b o,b≠a->s.heap.get? b=ž o->h'.get? b=ž o)->∀Q:SortKind->Qd->Prop,(∀κ,zCK prog w A rk vs κ {s with heap:=h'}->Q κ {s with heap:=h'})->đ (Ĕ prog w) A (keyKind' vs.toArray) Q (λ_ _=>False) {s with heap:=h'})
  (h:∀p:Array Nat,Pm vs.length p->Up rk p vs.length->P (.done<|.ret .none) {s with heap:=sortedHeap s.heap a vs (a0Y<|p.toList.map λi=>vs.getD i Ħ)}):
  đ (Ĕ prog w) A (Builtin.«list.sort» ⟨[.ref a],[]⟩) P E s:=by
 have line:(64:Nat)<=ċ:=by decide
 have ha:a < s.heap.objs.size:=qh ho;obtain⟨e1,Rc⟩:∃e1,(s.heap.update a<|ō λ_=>#[]).get? a=ž (ϻ "list" #[] e1):=⟨_,get?_update_seq ho λ_=>#[]⟩;have old:∀b o,(s.heap.update a<|ō λ_=>#[]).get? b=ž o->(((s.heap.update a<|ō λ_=>#[]).push<|ϻ "tuple" vs.toArray 0).push<|ϻ "list" #[] 0).get? b=ž o :=
  λb o e=>qd _<|qd _ e
 have De:=old _ _ Rc;have keep:∀b o,b≠a->s.heap.get? b=ž o->(((s.heap.update a<|ō λ_=>#[]).push<|ϻ "tuple" vs.toArray 0).push<|ϻ "list" #[] 0).get? b=ž o :=
  λb o ne e=>old b o (by rw[a3i _ _ _ _ ne];exact e)
 rw[list_sort_plain];refine qa<|listItems_at ho rfl<|qa<|a2X ho rfl (qa<|seqEpoch_at Rc rfl<|qa<|wpAny_newTuple (qa<|wpAny_newList (Ķ ?_) ?_) ?_) ?_ ?_
 case refine_2=>exact Ê _
 case refine_3=>show vs.length<=_;omega
 case refine_4=>show vs.toArray.size<=_;rw[ď];omega
 case refine_5=>exact Ê _
 show đ (Ĕ prog w) A _ P E {s with heap:=((s.heap.update a<|ō λ_=>#[]).push<|ϻ "tuple" vs.toArray 0).push (ϻ "list" #[] 0)};dsimp only;generalize hH:((s.heap.update a<|ō λ_=>#[]).push<|ϻ "tuple" vs.toArray 0).push (ϻ "list" #[] 0)=h6 at *;have hsz:vs.toArray.size=vs.length:=by simp
 have fin:∀p:Array Nat,Pm vs.length p->Up rk p vs.length->P (.done<|.ret .none) {s with heap:=h6.update a (ō λ_=>a0Y<|p.toList.map λi=>vs.getD i Ħ)}:=λp a1 a2=>by
  have:=h p a1 a2;unfold sortedHeap at this;rw[hH]at this;exact this
 by_cases h2:vs.toArray.size < 2
 .rw[a4b h2,a4b h2]
  refine qa<|qb ?_;rw[StateT.run_pure];refine qa<|qb ?_;dsimp only;have hz:(vs.toArray.zip vs.toArray).size=vs.length:=by simp
  have IQ:arrOf (SortSt.mk' general' (vs.toArray.zip vs.toArray) #[] 7 Ž)=(Ğ vs.length).toArray.map (kas_item<|vs.toArray.zip vs.toArray):=by
   have:=kas_range (vs.toArray.zip vs.toArray);rw[hz]at this;exact this.symm
  have e:=kat_snds (ks:=vs) (vs:=vs) rfl IQ;rw[e];refine qa<|seqEpoch_at De rfl<|qa<|a2X De rfl ?_ ?_ ?_
  .show đ _ _ (if(e1 != e1)=ż then _ else _) _ _ _
   rw[bne_self_eq_false,a4c qf];refine qb<|fin _ (a2O _) λi j gT hj=>?_;have:i=j:=by omega
   subst this;exact à _
  .exact Ê _
  .rw[ď,ĉ]
   simp;omega
 .rw[a4c h2,a4c h2]
  have Dj:2<=vs.length:=by omega
  refine qa<|ľ (hk Dj h6 keep _ λκ ask=>?_) (λ_ _ x=>x) λ_ _ x=>x.elim;refine qa<|ľ (kat_run (ks:=vs) (Q:=λaA s'=>s'={s with heap:=h6}/\∃p:Array Nat,Pm vs.length p/\Up rk p vs.length/\arrOf aA=p.map (kas_item<|vs.toArray.zip vs.toArray)/\failedOf aA=Ž) (G:=λp s'=>s'={s with heap:=h6}/\Pm vs.length p/\Up rk p vs.length) rfl Dj Rx
   (λp aA s' _ a2 a3 a4=>⟨a4.1,p,a4.2.1,a4.2.2,a2,a3⟩) (fh.wp (lt:=jV rk) (n:=vs.length) ask (λp hp=>⟨rfl,hp⟩)<|Z6 (by omega) λp a1 a2=>⟨a1,a2⟩)) ?_ λ_ _ x=>x
  rintro⟨⟨⟩,aA⟩ s' ⟨rfl,p,a1,a2,IQ,hf⟩;dsimp only;have e:=kat_snds (ks:=vs) (vs:=vs) rfl IQ;rw[e,hf];refine qa<|seqEpoch_at De rfl<|qa<|a2X De rfl ?_ ?_ ?_
  .show đ _ _ (if(e1 != e1)=ż then _ else _) _ _ _
   rw[bne_self_eq_false,a4c qf];exact qb<|fin p a1 a2
  .exact Ê _
  .rw[ď,ĉ,ŏ,a1.size]
   omega
end
def BP:∀a:Qa Int,fe a a=Ż
 |[]=>rfl
 |a::as=>by unfold fe;rw[a4b rfl];exact BP as
def GN:∀{a b c:Qa Int},fe a b=ż->fe b c=ż->fe a c=ż
 |[],[],_,h,_=>by cases h
 |[],_::_,[],_,h=>by cases h
 |[],_::_,_::_,_,_=>rfl
 |_::_,[],_,h,_=>by cases h
 |_::_,_::_,[],_,h=>by cases h
 |a::as,b::bs,c::cs,h1,h2=>by
  unfold fe at h1 h2 ⊢
  by_cases e1:a=b
  .subst e1
   rw[a4b rfl]at h1
   by_cases e2:a=c
   .rw[a4b e2]at h2 ⊢
    exact GN h1 h2
   .rw[a4c e2]at h2 ⊢
    exact h2
  .rw[a4c e1]at h1
   have l1:=a4f h1
   by_cases e2:b=c
   .subst e2
    rw[a4c e1];exact h1
   .rw[a4c e2]at h2
    have l2:=a4f h2;rw[a4c (by omega)];exact a4d (by omega)
def GL:∀{a b:Qa Int},a≠b->fe a b=ż\/fe b a=ż
 |[],[],h=>absurd rfl h
 |[],_::_,_=>.inl rfl
 |_::_,[],_=>.inr rfl
 |a::as,b::bs,h=>by
  unfold fe
  by_cases e:a=b
  .subst e
   rw[a4b rfl,a4b rfl];exact GL λz=>h (by rw[z])
  .rw[a4c e,a4c λz=>e z.symm]
   rcases(by omega:a < b\/b < a)with z|z
   .exact .inl (a4d z)
   .exact .inr (a4d z)
def M8{p q:α->Bool}:∀{l:Qa α} {x:α},(∀y∈l,p y=ż->q y=ż)->x∈l->q x=ż->p x=Ż->l.countP p < l.countP q
 |y::l,x,h,m,hq,hp=>by
  rw[a3N,a3N];have le:l.countP p<=l.countP q:=List.countP_mono_left λz hz=>h z<|qp _ hz;rcases qw.mp m with e|m
  .subst e
   rw[hp,hq];simp;omega
  .have:=M8 (λz hz=>h z<|qp _ hz) m hq hp
   by_cases c:p y=ż
   .rw[c,h y qq c]
    simp;omega
   .rw[a4c c]
    split<;>omega
def qP(ps:Qa (Qa Int))(i:Nat):Int:=((Ğ ps.length).countP λk=>fe (ps.getD k []) (ps.getD i []):Nat)
def GG{ps:Qa (Qa Int)}(hi:i < ps.length)(h:fe (ps.getD i []) (ps.getD j [])=ż):qP ps i < qP ps j:=by
 unfold qP;have:=M8 (p:=λk=>fe (ps.getD k [])<|ps.getD i []) (q:=λk=>fe (ps.getD k [])<|ps.getD j []) (l:=Ğ ps.length) (x:=i) (λy _ hy=>GN hy h) (ç.mpr hi) h (BP _);omega
def GR{ps:Qa (Qa Int)}(h:ps.Nodup)(hi:i < ps.length)(hj:j < ps.length)(ne:i≠j):ps.getD i []≠ps.getD j []:=by
 have e:∀k (hk:k < ps.length),ps.getD k []=ps[k]:=λk hk=>by simp[hk]
 rw[e i hi,e j hj];intro z;rcases Nat.lt_or_gt_of_ne ne with l|l
 .exact ò.mp h i j hi hj l z
 .exact ò.mp h j i hj hi l z.symm
def WZ{ps:Qa (Qa Int)}(h:ps.Nodup)(hi:i < ps.length)(hj:j < ps.length):jV (qP ps) i j=fe (ps.getD i []) (ps.getD j []):=by
 cases c:fe (ps.getD i []) (ps.getD j [])with
 |true=>exact a4d<|GG hi c
 |false=>
  refine a4e λz=>?_
  by_cases e:i=j
  .subst e;omega
  .rcases GL (GR h hi hj e)with y|y
   .rw[c]at y;cases y
   .have:=GG hj y
    omega
def Pm.list(h:Pm n p):p.toList.Perm (Ğ n):=by
 have:=h.toList;simpa using this
def Uk{ps:Qa (Qa Int)}(h:ps.Nodup)(hp:Pm ps.length p)(hu:Up (qP ps) p ps.length):(p.toList.map λi=>ps.getD i []).Pairwise λa b=>fe a b=ż:=by
 have hs:=hp.size;have hl:=hp.list;have nd:p.toList.Nodup:=hl.nodup_iff.mpr List.nodup_range;refine List.pairwise_map.mpr<|ò.mpr λi j hi hj gT=>?_;have e:∀k (hk:k < p.toList.length),KR (qP ps) p k=qP ps p.toList[k]:=λk hk=>by
  unfold KR;have hW:k < p.size:=by simpa using hk
  congr 1;simp[Array.getD,hW]
 have m:∀k (hk:k < p.toList.length),p.toList[k] < ps.length:=λk hk=>ç.mp<|hl.mem_iff.mp<|ó hk;have le:=hu i j (by omega) (by rw[ŏ]at hj;omega);rw[e i hi,e j hj]at le;have ne:p.toList[i]≠p.toList[j]:=ò.mp nd i j hi hj gT;rcases GL (GR h (m i hi) (m j hj) ne)with z|z
 .exact z
 .have:=GG (m j hj) z
  omega
def ZL{aq:Array Qc}(t:IsTup h a aq)(k:∀o,h.get? a=ž o->h'.get? a=ž o):IsTup h' a aq:=by
 have(o,e,r):=t;exact⟨o,k o e,r⟩
def Nx{vs:Qa V}(r:zV vs us):∀is:Qa Nat,(∀i∈is,i < vs.length)->zV (is.map λi=>vs.getD i .aL) (is.map λi=>us.getD i Ħ)
 |[],_=>.nil
 |i::is,h=>by
  have hi:=h i qq;have(u,e,ru):=r.get (qo hi);refine .cons ?_<|Nx r is λj hj=>h j<|qp _ hj;show zT (vs.getD i .aL) (us.getD i Ħ);rw[qC,qC,qo hi,e];exact ru
end Internal
namespace Internal
open PySem PySem.Spec PyProof.Rows
def sF(h:Ĭ)(d:Qg)(es:Array a2c)(ep:Nat):Prop:=∃o,h.get? d=ž o/\o.ExactDict/\o.data=.dict es ep
def sF.typeIs{s:Qd}{d:Qg}(r:sF s.heap d es ep):s.TypeIs (.ref d) "dict":=by
 have(o,e,x,_):=r;exact⟨o,e,x.1⟩
def zmm{R:α->β->Prop}{xs:Qa α}{ys:Qa β}(h:ϲ R xs ys):∀(i:Nat) (x:α),xs[i]?=ž x->∃y,ys[i]?=ž y/\R x y:=by
 induction h with
 |nil=>intro i x h;simp at h
 |cons r _ ih=>intro i x h;cases i with
  |zero=>cases(show ž _=ž x from h);exact⟨_,rfl,r⟩
  |succ i=>exact ih i x h
section
variable{X:Cx}
def Inv.freeze{s:Qd}(I:Inv X pins σ H s)(e:H a=ž (.dT ao)):∃o,s.heap.get? a=ž o/\Inv X pins σ (upd H a<|.aQ o<|.dT ao) s:=by
 have ok:=(show zX X.prog X.w X.K H s.heap a (.dT ao) from I.aF a _ e);have(z,y,xs,r,o,es,ep,h1,h2):=id ok;refine⟨o,h1,?_⟩;have HG:zX X.prog X.w X.K (upd H a<|.aQ o<|.dT ao) s.heap a (.dT ao):=ok.cx (λ_ _ _ q=>q) (λb q=>by rw[zu<|uJ q e (by intro z;cases z)];exact q) λb ys q=>by rw[zu<|uJ q e (by intro z;cases z)];exact q
 exact I.write (t':=s.toks) (h':=s.heap) (by rw[e];trivial) (.inl rfl) (λ_ _ _ q=>q) ⟨o,h1⟩ ⟨h1,HG⟩
end
open PySem.W (Looks)
noncomputable def zCL(C p:Qg):Obj:={cls:=.ref C,data:=.fields #[.ref p,.none,.none,.none,.bool Ż,.none]}
noncomputable abbrev xV:Qa Qc:=[.type "ValueError",.type "Exception",.type "BaseException",.type "object"]
structure XC (K:qc) (C:Qg):Prop where
 at_:∃nm q N bs bm sn sub ab col dd k0 k1 k2 k3 k5,K.lookup C=ž (excClassObj nm q C N bs bm ż sn sub ab col dd k0 k1 k2 k3 k5 "ValueError.__new__")/\ϱ K xV bm=ż
 ga:ė K (.ref C) "__getattribute__"=ž (ž<|.builtin "BaseException.__getattribute__")
 gh:ė K (.ref C) "__getattr__"=ž Ž
 sa:ė K (.ref C) "__setattr__"=ž (ž<|.builtin "object.__setattr__")
end Internal
namespace Internal
open PySem PySem.Spec PyProof.Rows
open PySem.W (Looks InstAt)
end Internal
namespace Internal
open PySem PySem.Spec PyProof.Rows
open PySem.W (Looks InstAt)
structure XI (K:qc) (C:Qg):Prop where
 cl:XC K C
 ca:ė K (.ref C) "__class__"=ž (ž<|.builtin "object.__class__")
 cg:a0A K (.builtin "object.__class__") "__get__"=ž (ž<|.builtin "getset_descriptor.__get__")
 ct:a1e K (.builtin "object.__class__")=ž ż
 cm:a1K K C (.type "object")=ž ż
end Internal
namespace Internal
open PySem PySem.Spec PyProof.Rows
open PySem.W (Looks InstAt)
def XV(H:Hp)(a C:Qg)(fs:Qa (Str×V)):Prop:=∃ox,H a=ž (.aQ ox<|.own 0)/\ox.cls=.ref C/\PySem.W.notCls ox=ż/\
 ((fs=[]/\ox.dict=Ž)\/∃od dx,ox.dict=ž dx/\H dx=ž (.aQ od<|.xd fs))
end Internal
namespace Internal
open PySem PySem.Spec PyProof.Rows
open PySem.W (Looks InstAt)
end Internal
namespace Internal
open PySem PySem.Spec PyProof.Rows
open PySem.W (Looks InstAt)
def zCM(a C:Qg)(d tb:Qb Qg)(h:Ĭ):Prop:=∃oe vs,h.get? a=ž oe/\oe.cls=.ref C/\oe.dict=d/\oe.data=.fields vs/\vs[1]?=ž (tb.elim .none .ref)/\(tb=Ž->∃p,oe={zCL C p with dict:=d})
def pTb(T:Qg)(h:Ĭ):Prop:=∃oT ts,h.get? T=ž oT/\oT.data=.fields ts/\ts[3]?=ž .none
def zCN(a C:Qg)(d tb:Qb Qg):HO:=.ext (zCM a C d tb)
def xTb(T:Qg):HO:=.ext (pTb T)
def zCO(H:Hp)(a C:Qg)(fs:Qa (Str×V)):Prop:=∃d tb,H a=ž (zCN a C d tb)/\(∀T,tb=ž T->H T=ž (xTb T)/\T≠a)/\
 ((fs=[]/\d=Ž)\/∃od dx,d=ž dx/\H dx=ž (.aQ od<|.xd fs))
end Internal
namespace Internal
open PySem PySem.Spec PyProof.Rows
open PySem.W (Looks InstAt)
abbrev gn:=St->Qg->Hp->Prop
def CXv(P:Qe)(w:Qh)(K:qc):j9:=λouter H s E e s'=>∃a H',e=.ref a/\s'.os=s.os/\ο s'.gens/\Un (kQ outer) [] H H' s.heap s'.heap/\cq P w K H' s'.heap/\E e Ž H'
end Internal
namespace Internal
open PySem PySem.Spec PyProof.Rows
open PySem.W (Looks InstAt)
noncomputable abbrev Cx.body(X:Cx)(pn:Qa (Qg×Obj))(E:Qc->Qd->Prop):Cx:={X with pn:=pn,xe:=E}
end Internal
namespace Internal
open PySem PySem.Spec PyProof.Rows
abbrev D:=ϗ
noncomputable def vF:Key->D
 |.inl i=>.int i
 |.inr x=>.str x
def vD(ks:Qa Key):D:=.tuple (ks.map vF)
def PL(K:qc)(H:Hp)(a:Qg)(xs:Qa V):Prop :=
 (∃o,H a=ž (.aQ o<|.lst xs))\/∃(o:Obj) (aq:Array Qc) (n:Nat),K.lookup a=ž o/\o.cls=.type "list"/\o.dict=Ž/\o.data=.seq aq n/\aq.size<=ċ/\zV xs aq.toList
def XN(K:qc)(n:Str)(C:Qg):Prop:=Ģ K Ě n=ž (ž<|.ref C)
noncomputable def HM:Qa (D×D)->Bool
 | (.none,_)::_=>Ż
 | (.bool _,_)::_=>Ż
 |_=>ż
def bK.sq{xs:Qa V}(h:bK K H a xs):cH K H a xs:=by
 rcases h with h|⟨o,i,n,a,b,c,d,e,_⟩
 .exact .inl (.inl h)
 .exact .inr ⟨o,i,n,a,b,c,d,e⟩
def bK.kp{xs:Qa V}(e:Kp H H')(h:bK K H a xs):bK K H' a xs:=h.keeps e.tup
mutual
inductive DF (K:qc) (H:Hp):V->D->Prop
 |aL:DF K H .aL .none
 |bl (b:Bool):DF K H (.bl b) (.bool b)
 |int (i:Int):DF K H (.int i) (.int i)
 |str (x:Str):DF K H (.str x) (.str x)
 |tup {a:Qg} {xs:Qa V} {ds:Qa D} (h:bK K H a xs) (t:aN K H xs ds):DF K H (.ref a) (.tuple ds)
 |lst {a:Qg} {xs:Qa V} {ds:Qa D} (h:PL K H a xs) (t:aN K H xs ds):DF K H (.ref a) (.list ds)
 |nE {a:Qg} {o:Obj} {ws:Qa (Qa Key×V)} {ao:Qa (D×D)} (h:H a=ž (.aQ o<|.dT ws)) (t:oV K H ws ao):DF K H (.ref a) (.dict ao)
 |exc {a C:Qg} {n:Str} {fs:Qa (Str×V)} {ds:Qa (D×D)} (h:XV H a C fs) (e:XN K n C) (t:se K H fs ds):DF K H (.ref a) (.dict<|(.none,.str n)::ds)
 |obj {a C dx:Qg} {o:Obj} {n:Str} {fs:Qa (Str×V)} {ds:Qa (D×D)} (h:H a=ž (.aQ o<|.ins C dx fs)) (e:XN K n C) (t:se K H fs ds):DF K H (.ref a) (.dict<|(.bool ż,.str n)::ds)
inductive aN (K:qc) (H:Hp):Qa V->Qa D->Prop
 |nil:aN K H [] []
 |cons {v:V} {d:D} {vs:Qa V} {ds:Qa D} (h:DF K H v d) (t:aN K H vs ds):aN K H (v::vs) (d::ds)
inductive oV (K:qc) (H:Hp):Qa (Qa Key×V)->Qa (D×D)->Prop
 |nil:oV K H [] []
 |cons {k:Qa Key} {v:V} {d:D} {vs:Qa (Qa Key×V)} {ds:Qa (D×D)} (h:DF K H v d) (t:oV K H vs ds):oV K H ((k,v)::vs) ((vD k,d)::ds)
inductive se (K:qc) (H:Hp):Qa (Str×V)->Qa (D×D)->Prop
 |nil:se K H [] []
 |cons {k:Str} {v:V} {d:D} {vs:Qa (Str×V)} {ds:Qa (D×D)} (h:DF K H v d) (t:se K H vs ds):se K H ((k,v)::vs) ((.str k,d)::ds)
end
def XV.kp{C:Qg}{fs:Qa (Str×V)}(e:Kp H H')(h:XV H a C fs):XV H' a C fs:=by
 have(ox,h1,h2,h3,h4):=h;refine⟨ox,e.aQ _ _ _ h1,h2,h3,?_⟩;rcases h4 with h4|⟨od,dx,h5,h6⟩
 .exact .inl h4
 .exact .inr ⟨od,dx,h5,e.aQ _ _ _ h6⟩
def PL.kp{xs:Qa V}(e:Kp H H')(h:PL K H a xs):PL K H' a xs:=by
 rcases h with⟨o,h⟩|h
 .exact .inl ⟨o,e.aQ _ _ _ h⟩
 .exact .inr h
def PL.sq{xs:Qa V}(h:PL K H a xs):bE K H a xs:=by
 rcases h with⟨o,h⟩|h
 .exact .inl (.inr ⟨o,h⟩)
 .exact .inr h
def aN.kp(e:Kp H H'){v:Qa V}{d:Qa D}(h:aN K H v d):aN K H' v d :=
 aN.rec (motive_1:=λv d _=>DF K H' v d) (motive_2:=λv d _=>aN K H' v d) (motive_3:=λv d _=>oV K H' v d) (motive_4:=λv d _=>se K H' v d)
  .aL .bl .int .str (λh _ t=>.tup (h.keeps e.tup) t) (λh _ t=>.lst (h.kp e) t) (λh _ t=>.nE (e.aQ _ _ _ h) t) (λh n _ t=>.exc (h.kp e) n t) (λh n _ t=>.obj (e.aQ _ _ _ h) n t)
  .nil (λ_ _ a b=>.cons a b) .nil (λ_ _ a b=>.cons a b) .nil (λ_ _ a b=>.cons a b) h
def DF.kp(e:Kp H H'){d:D}(h:DF K H v d):DF K H' v d:=by
 cases aN.kp e (.cons h .nil);assumption
section
def aN.ind{P:Qa V->Qa D->Prop}(n:P [] [])(c:∀{v d vs ds},DF K H v d->aN K H vs ds->P vs ds->P (v::vs) (d::ds)){vs:Qa V}{ds:Qa D}(h:aN K H vs ds):P vs ds :=
 aN.rec (motive_1:=λ_ _ _=>True) (motive_2:=λv d _=>P v d) (motive_3:=λ_ _ _=>True) (motive_4:=λ_ _ _=>True) trivial (λ_=>trivial) (λ_=>trivial) (λ_=>trivial) (λ_ _ _=>trivial) (λ_ _ _=>trivial) (λ_ _ _=>trivial) (λ_ _ _ _=>trivial) (λ_ _ _ _=>trivial) n (λh t _ q=>c h t q) trivial (λ_ _ _ _=>trivial) trivial (λ_ _ _ _=>trivial) h
def aN.app{vs ws:Qa V}{ds es:Qa D}(h:aN K H vs ds)(q:aN K H ws es):aN K H (vs++ws) (ds++es):=
 h.ind (P:=λvs ds=>aN K H (vs++ws)<|ds++es) q λa _ t=>.cons a t
def aN.snoc{d:D}(h:DF K H v d){vs:Qa V}{ds:Qa D}(t:aN K H vs ds):aN K H (vs++[v]) (ds++[d]):=t.app (.cons h .nil)
def aN.len:∀{vs:Qa V} {ds:Qa D},aN K H vs ds->vs.length=ds.length
 |_,_,.nil=>rfl
 |_,_,.cons _ t=>congrArg (·+1)<|aN.len t
def aN.get{vs:Qa V}{ds:Qa D}{d:D}(h:aN K H vs ds)(e:ds[i]?=ž d):∃v,vs[i]?=ž v/\DF K H v d:=by
 refine h.ind (P:=λvs ds=>∀i:Nat,ds[i]?=ž d->∃v,vs[i]?=ž v/\DF K H v d) (λi e=>?_) (λh _ t i e=>?_) i e
 .simp at e
 .cases i with
  |zero=>cases(show ž _=ž _ from e);exact⟨_,rfl,h⟩
  |succ i=>exact t i e
def aN.get'{vs:Qa V}{ds:Qa D}(h:aN K H vs ds)(e:vs[i]?=ž v):∃d,ds[i]?=ž d/\DF K H v d:=by
 refine h.ind (P:=λvs ds=>∀i:Nat,vs[i]?=ž v->∃d,ds[i]?=ž d/\DF K H v d) (λi e=>?_) (λh _ t i e=>?_) i e
 .simp at e
 .cases i with
  |zero=>cases(show ž _=ž _ from e);exact⟨_,rfl,h⟩
  |succ i=>exact t i e
def aN.take:∀{vs:Qa V} {ds:Qa D} (n:Nat),aN K H vs ds->aN K H (vs.take n) (ds.take n)
 |_,_,0,_=>by simpa using aN.nil
 |_,_,n+1,.nil=>by simpa using aN.nil
 |_,_,n+1,.cons h t=>.cons h<|aN.take n t
def aN.drop:∀{vs:Qa V} {ds:Qa D} (n:Nat),aN K H vs ds->aN K H (vs.drop n) (ds.drop n)
 |_,_,0,q=>q
 |_,_,n+1,.nil=>by simpa using aN.nil
 |_,_,n+1,.cons h t=>aN.drop n t
def aN.set{d:D}(h:DF K H v d):∀{vs:Qa V} {ds:Qa D} (n:Nat),aN K H vs ds->aN K H (vs.set n v) (ds.set n d)
 |_,_,_,.nil=>.nil
 |_,_,0,.cons _ t=>.cons h t
 |_,_,n+1,.cons a t=>.cons a<|aN.set h n t
end
inductive PU where
 |d (x:D) |l (xs:Qa D) |t (ao:Qa (Qa Key×D)) |x (ao:Qa (Qa K3×D))
inductive U where
 |d (x:D)
 |l (xs:Qa D) |t (ao:Qa (Qa Key×D)) |k (ao:Qa (Key×D))
 |o (c:Str) (fs:Qa (Str×PU))
noncomputable def U.own:U->Bool
 |.d _=>Ż
 |_=>ż
def dR{κ:Type}(K:qc)(H:Hp):Qa (κ×V)->Qa (κ×D)->Prop:=ϲ λp q=>p.1=q.1/\DF K H p.2 q.2
noncomputable def eL(C dx:Qg)(vs:Qa (Str×V)):Qa (Qg×HO)->HO
 |[]=>.ins C dx vs
 | (b,p)::r=>.sub b p<|eL C dx vs r
inductive FO (K:qc) (H:Hp):Qa (Str×V)->Qa (Qg×HO)->Qa (Str×PU)->Prop
 |nil:FO K H [] [] []
 |d {n:Str} {v:V} {x:D} {vs:Qa (Str×V)} {ps:Qa (Qg×HO)} {fs:Qa (Str×PU)} (h:DF K H v x) (t:FO K H vs ps fs):FO K H ((n,v)::vs) ps ((n,.d x)::fs)
 |l {n:Str} {b:Qg} {us:Qa V} {xs:Qa D} {vs:Qa (Str×V)} {ps:Qa (Qg×HO)} {fs:Qa (Str×PU)} (h:aN K H us xs) (t:FO K H vs ps fs):FO K H ((n,.ref b)::vs) ((b,.lst us)::ps) ((n,.l xs)::fs)
 |t {n:Str} {b:Qg} {us:Qa (Qa Key×V)} {xs:Qa (Qa Key×D)} {vs:Qa (Str×V)} {ps:Qa (Qg×HO)} {fs:Qa (Str×PU)} (h:dR K H us xs) (t:FO K H vs ps fs):FO K H ((n,.ref b)::vs) ((b,.dT us)::ps) ((n,.t xs)::fs)
 |x {n:Str} {b:Qg} {us:Qa (Qa K3×V)} {xs:Qa (Qa K3×D)} {vs:Qa (Str×V)} {ps:Qa (Qg×HO)} {fs:Qa (Str×PU)} (h:dR K H us xs) (t:FO K H vs ps fs):FO K H ((n,.ref b)::vs) ((b,.dX us)::ps) ((n,.x xs)::fs)
def Rp(K:qc)(H:Hp)(v:V):U->Prop
 |.d x=>DF K H v x
 |.l xs=>∃a us,v=.ref a/\H a=ž (.lst us)/\aN K H us xs
 |.t ao=>∃a ws,v=.ref a/\H a=ž (.dT ws)/\dR K H ws ao
 |.k ao=>∃a ws,v=.ref a/\H a=ž (.dK ws)/\dR K H ws ao
 |.o c fs=>∃a C dx vs ps,v=.ref a/\H a=ž (eL C dx vs ps)/\ps≠[]/\XN K c C/\(ps.map (·.1)).Nodup/\FO K H vs ps fs/\dx∉ps.map (·.1)/\∀q∈ps,H q.1=ž (.own a)
def Mo:HO->Prop
 |.lst _=>True
 |.dT _=>True
 |.dK _=>True
 |.sub _ _ _=>True
 |_=>False
def Mo.eL{C:Qg}{ps:Qa (Qg×HO)}(h:ps≠[]):Mo (eL C dx vs ps):=by
 cases ps with
 |nil=>exact absurd rfl h
 |cons p r=>trivial
def Rp.own{u:U}(h:Rp K H v u)(o:u.own=ż):∃a c,v=.ref a/\H a=ž c/\Mo c:=by
 cases u with
 |d x=>cases o
 |l xs=>have(a,us,e,q,_):=h;exact⟨a,_,e,q,trivial⟩
 |t xs=>have(a,us,e,q,_):=h;exact⟨a,_,e,q,trivial⟩
 |k xs=>have(a,us,e,q,_):=h;exact⟨a,_,e,q,trivial⟩
 |o c fs=>have(a,C,dx,vs,ps,e,q,n,_):=h;exact⟨a,_,e,q,Mo.eL n⟩
def dR.kp{κ:Type}(e:Kp H H'){ws:Qa (κ×V)}{ao:Qa (κ×D)}(h:dR K H ws ao):dR K H' ws ao:=Paired.hJ h λ_ _ z=>⟨z.1,z.2.kp e⟩
def FO.kp(e:Kp H H'){ps:Qa (Qg×HO)}{fs:Qa (Str×PU)}(h:FO K H vs ps fs):FO K H' vs ps fs:=by
 induction h with
 |nil=>exact .nil
 |d h _ ih=>exact .d (h.kp e) ih
 |l h _ ih=>exact .l (h.kp e) ih
 |t h _ ih=>exact .t (h.kp e) ih
 |x h _ ih=>exact .x (h.kp e) ih
def Rp.kp{u:U}(h:Rp K H v u)(e:Kp H H')(o:u.own=ż->∀a c,v=.ref a->H a=ž c->H' a=ž c):Rp K H' v u:=by
 cases u with
 |d x=>exact DF.kp e h
 |l xs=>have(a,us,ev,q,t):=h;exact⟨a,us,ev,o rfl a _ ev q,t.kp e⟩
 |t xs=>have(a,us,ev,q,t):=h;exact⟨a,us,ev,o rfl a _ ev q,t.kp e⟩
 |k xs=>have(a,us,ev,q,t):=h;exact⟨a,us,ev,o rfl a _ ev q,t.kp e⟩
 |o c fs=>have(a,C,dx,vs,ps,ev,q,n,x,nd,t,d,w):=h;exact⟨a,C,dx,vs,ps,ev,o rfl a _ ev q,n,x,nd,t.kp e,d,λz hz=>e.own _ _<|w z hz⟩
abbrev En:=Qa (Qb U)
def Ow(ρ:En)(σ:St)(a:Qg):Prop:=∃(i:Nat) (u:U),ρ[i]?=ž (ž u)/\u.own=ż/\σ[i]?=ž (ž<|.ref a)
structure Rs (K:qc) (ρ:En) (σ:St) (H:Hp):Prop where
 len:ρ.length=σ.length
 rep:∀(i:Nat) (u:U),ρ[i]?=ž (ž u)->∃v,σ[i]?=ž (ž v)/\Rp K H v u
 apart:∀(i j:Nat) (u w:U),ρ[i]?=ž (ž u)->ρ[j]?=ž (ž w)->u.own=ż->w.own=ż->σ[i]?=σ[j]?->i=j
def y8(A:Qg->Prop)(H H':Hp):Prop:=∀a o,H a=ž o->¬A a->H' a=ž o
structure ic (ρ au:En):Prop where
 len:au.length=ρ.length
 own:∀(i:Nat) (u:U),au[i]?=ž (ž u)->u.own=ż->∃w,ρ[i]?=ž (ž w)/\w.own=ż
 live:∀(i:Nat) (u:U),ρ[i]?=ž (ž u)->∃w,au[i]?=ž (ž w)
def Nw(H:Hp)(v:V)(u:U):Prop:=u.own=ż->∃a,v=.ref a/\H a=Ž
structure Go (K:qc) (ρ:En) (σ:St) (H:Hp) (au:En) (H':Hp):Prop where
 rs:Rs K au σ H'
 fr:y8 (Ow ρ σ) H H'
 shr:ic ρ au
 dm:∀a,H' a=Ž->H a=Ž
section
variable{ρ au dA:En}{sd:Hp}
def Rs.ow(r:Rs K ρ σ H)(o:Ow ρ σ a):∃c,H a=ž c/\Mo c:=by
 have(i,u,e,ou,es):=o;have(v,ev,p):=r.rep i u e;rw[es]at ev;cases ev;have(b,c,eb,q,m):=p.own ou;cases eb;exact⟨c,q,m⟩
def y8.kp(r:Rs K ρ σ H)(f:y8 (Ow ρ σ) H H'):Kp H H':=by
 refine⟨λb xs h=>f b _ h λo=>?_,λb ob u h=>f b _ h λo=>?_,λb x h=>f b _ h λo=>?_⟩
 all_goals
  have(c,q,m):=r.ow o;rw[h]at q;cases q;exact m
def ic.refl(ρ:En):ic ρ ρ:=⟨rfl,λi u e o=>⟨u,e,o⟩,λi u e=>⟨u,e⟩⟩
def ic.trans(a:ic ρ au)(b:ic au dA):ic ρ dA:=⟨b.1.trans a.1,λi u e o=>let ⟨w,e',o'⟩:=b.2 i u e o;a.2 i w e' o',λi u e=>let ⟨w,e'⟩:=a.3 i u e;b.3 i w e'⟩
def ic.ow(s:ic ρ au)(o:Ow au σ a):Ow ρ σ a:=by
 have(i,u,e,ou,es):=o;have(w,e',o'):=s.2 i u e ou;exact⟨i,w,e',o',es⟩
def Go.refl(r:Rs K ρ σ H):Go K ρ σ H ρ H:=⟨r,λ_ _ h _=>h,ic.refl _,λ_ h=>h⟩
def Go.trans(a:Go K ρ σ H au H')(b:Go K au σ H' dA sd):Go K ρ σ H dA sd :=
 ⟨b.rs,λc o h n=>b.fr c o (a.fr c o h n) λz=>n<|a.shr.ow z,a.shr.trans b.shr,λc h=>a.dm c<|b.dm c h⟩
def Go.kp(r:Rs K ρ σ H)(g:Go K ρ σ H au H'):Kp H H':=g.fr.kp r
def Go.cx{u:U}(r:Rs K ρ σ H)(g:Go K ρ σ H au H')(h:Rp K H v u)(n:u.own=ż->∃a,v=.ref a/\¬Ow ρ σ a):Rp K H' v u:=by
 refine h.kp (g.kp r) λo a c ev q=>?_;have(b,eb,nb):=n o;cases ev;cases eb;exact g.fr _ _ q nb
def Nw.out{u:U}(r:Rs K ρ σ H)(n:Nw H v u):u.own=ż->∃a,v=.ref a/\¬Ow ρ σ a:=λo=>by
 have(a,e,h):=n o;refine⟨a,e,λz=>?_⟩;have(c,q,_):=r.ow z;rw[h]at q;cases q
def eD.dm(s:eD H H'):∀a,H' a=Ž->H a=Ž:=λa h=>by
 cases e:H a with
 |none=>rfl
 |some o=>rw[s a o e]at h;cases h
def Go.grow(r:Rs K ρ σ H)(s:eD H H'):Go K ρ σ H ρ H' :=
 ⟨⟨r.len,λi u e=>let ⟨v,ev,p⟩:=r.rep i u e;⟨v,ev,p.kp s.kp λ_ a c _ q=>s a c q⟩,r.apart⟩,λa o h _=>s a o h,ic.refl _,s.dm⟩
end
inductive Ar where
 |s (i:Nat) |u (x:U)
noncomputable def Ar.get(ρ:En):Ar->Qb U
 |.s i=>(ρ[i]?).join
 |.u x=>ž x
def mr(K:qc)(ρ:En)(σ:St)(H H':Hp)(v:V):Ar->Prop
 |.s i=>σ[i]?=ž (ž v)/\∃u,ρ[i]?=ž (ž u)
 |.u x=>Rp K H' v x/\Nw H v x
abbrev ME:=En->Qb (Ar×En)
abbrev MA:=En->Qb (Qa Ar×En)
abbrev MT:=En->Qb (Bool×En)
def VE(K:qc)(t:TE)(m:ME):Prop :=
 ∀(ρ:En) (σ:St) (H:Hp) (a:Ar) (au:En) (Q:VK),Rs K ρ σ H->m ρ=ž (a,au)->(∀v H',Go K ρ σ H au H'->mr K au σ H H' v a->Q v H')->t σ H Q
def VT(K:qc)(t:TT)(m:MT):Prop :=
 ∀(ρ:En) (σ:St) (H:Hp) (b:Bool) (au:En) (Q:Bool->Hp->Prop),Rs K ρ σ H->m ρ=ž (b,au)->(∀H',Go K ρ σ H au H'->Q b H')->t σ H Q
structure DD (K:qc) (ρ:En) (σ:St) (H H':Hp) (vs:Qa V) (as:Qa Ar):Prop where
 len:vs.length=as.length
 ar:∀(i:Nat) (a:Ar),as[i]?=ž a->∃v,vs[i]?=ž v/\mr K ρ σ H H' v a
 ap:∀(i j:Nat) (x y:U),as[i]?=ž (.u x)->as[j]?=ž (.u y)->x.own=ż->y.own=ż->vs[i]?=vs[j]?->i=j
def kR(K:qc)(t:TA)(m:MA):Prop :=
 ∀(ρ:En) (σ:St) (H:Hp) (as:Qa Ar) (au:En) (Q:Qa V->Hp->Prop),Rs K ρ σ H->m ρ=ž (as,au)->(∀vs H',Go K ρ σ H au H'->DD K au σ H H' vs as->Q vs H')->t σ H Q
section
variable{ρ au dA:En}{sd:Hp}{a:Ar}{u:U}
def Nw.mono(n:Nw H' v u)(h:∀a,H' a=Ž->H a=Ž):Nw H v u:=λo=>let ⟨a,e,q⟩:=n o;⟨a,e,h a q⟩
def Nw.pV(r:Rs K ρ σ H)(g:Go K ρ σ H au H')(n:Nw H v u):u.own=ż->∃a,v=.ref a/\¬Ow au σ a:=λo=>by
 have(b,e,q):=n.out r o;exact⟨b,e,λz=>q<|g.shr.ow z⟩
def mr.later(r:Rs K ρ σ H)(g1:Go K ρ σ H au H')(g2:Go K au σ H' dA sd)(h:mr K au σ H H' v a)(e:a.get dA=ž u):Rp K sd v u:=by
 cases a with
 |s i=>
  have(es,_):=h;have e':dA[i]?=ž (ž u):=by
   cases q:dA[i]? with
   |none=>rw[show Ar.get dA (.s i)=(dA[i]?).join from rfl,q]at e;cases e
   |some o=>
    rw[show Ar.get dA (.s i)=(dA[i]?).join from rfl,q]at e;cases o with
    |none=>cases e
    |some x=>cases e;rfl
  have(w,ew,p):=g2.rs.rep i u e';rw[es]at ew;cases ew;exact p
 |u x=>
  cases(show ž x=ž u from e);exact g2.cx g1.rs h.1<|h.2.pV r g1
def mr.now(r:Rs K ρ σ H)(g1:Go K ρ σ H au H')(h:mr K au σ H H' v a)(e:a.get au=ž u):Rp K H' v u:=h.later r g1 (Go.refl g1.rs) e
def Nw.data{x:D}:Nw H v (.d x):=λo=>by cases o
noncomputable def zd(i:Nat):ME:=λρ=>match ρ[i]? with
 |some (ž _)=>ž (.s i,ρ)
 |_=>Ž
def zc:VE K (eE i) (zd i):=by
 intro ρ σ H a au Q r e q;unfold zd at e;split at e
 .rename_i u eu
  cases e;have(v,ev,p):=r.rep i u eu;exact⟨v,ev,q v H (Go.refl r) ⟨ev,u,eu⟩⟩
 .cases e
noncomputable def mC(x:D):ME:=λρ=>ž (.u<|.d x,ρ)
def CD{c:V}{x:D}(h:∀H,DF K H c x):VE K (tC c) (mC x):=by
 intro ρ σ H a au Q r e q;cases e;exact q _ _ (Go.refl r) ⟨h H,Nw.data⟩
def zg{n:Int}:VE K (tC<|.int n) (mC<|.int n):=CD λ_=>.int n
def zR{n:Str}:VE K (tC<|.str n) (mC<|.str n):=CD λ_=>.str n
def e9{n:Bool}:VE K (tC<|.bl n) (mC<|.bool n):=CD λ_=>.bl n
def jH:VE K (tC .aL) (mC .none):=CD λ_=>.aL
def VO(K:qc)(r:R2)(f:U->U->Qb U):Prop :=
 ∀(x y:V) (a b u:U) (H:Hp) (Q:VK),Rp K H x a->Rp K H y b->f a b=ž u->(∀v H',eD H H'->Rp K H' v u->Nw H v u->Q v H')->r x y H Q
def ah(f:U->U->Qb U)(ma mb:ME):ME:=λρ=>(ma ρ).bind λp=>(mb p.2).bind λq=>(p.1.get q.2).bind λx=>(q.1.get q.2).bind λy=>(f x y).bind λu=>ž (.u u,q.2)
def bQ{o:Qb α}{f:α->Qb β}{b:β}(h:o.bind f=ž b):∃a,o=ž a/\f a=ž b:=Option.bind_eq_some_iff.mp h
def zh{r:R2}{f:U->U->Qb U}{ma mb:ME}(h:VO K r f)(ha:VE K ta ma)(hb:VE K tb mb):VE K (lM r ta tb) (ah f ma mb):=by
 intro ρ σ H a au Q rs e q;obtain⟨⟨a1,aw⟩,e1,e⟩:=bQ e;obtain⟨⟨b1,aD⟩,e2,e⟩:=bQ e;have(x,ex,e):=bQ e;have(y,ey,e):=bQ e;have(u,eu,e):=bQ e;cases e;refine ha ρ σ H a1 aw _ rs e1 λv1 H1 g1 k1=>hb aw σ H1 b1 aD _ g1.rs e2 λv2 H2 g2 k2=>?_;refine h _ _ x y u H2 _ (k1.later rs g1 g2 ex) (k2.now g1.rs g2 ey) eu λv H3 s p n=>?_;exact q v H3 ((g1.trans g2).trans<|Go.grow g2.rs s) ⟨p,n.mono (g1.trans g2).dm⟩
def VU(K:qc)(r:V->Hp->VK->Prop)(f:U->Qb U):Prop :=
 ∀(x:V) (a u:U) (H:Hp) (Q:VK),Rp K H x a->f a=ž u->(∀v H',eD H H'->Rp K H' v u->Nw H v u->Q v H')->r x H Q
def bY(f:U->Qb U)(ma:ME):ME:=λρ=>(ma ρ).bind λp=>(p.1.get p.2).bind λx=>(f x).bind λu=>ž (.u u,p.2)
def jD{r:V->Hp->VK->Prop}{f:U->Qb U}{ma:ME}(h:VU K r f)(ha:VE K ta ma):VE K (Hk r ta) (bY f ma):=by
 intro ρ σ H a au Q rs e q;obtain⟨⟨a1,aw⟩,e1,e⟩:=bQ e;have(x,ex,e):=bQ e;have(u,eu,e):=bQ e;cases e;refine ha ρ σ H a1 aw _ rs e1 λv1 H1 g1 k1=>?_;refine h _ x u H1 _ (k1.now rs g1 ex) eu λv H3 s p n=>?_;exact q v H3 (g1.trans<|Go.grow g1.rs s) ⟨p,n.mono g1.dm⟩
noncomputable def zj:MA:=λρ=>ž ([],ρ)
noncomputable def zb(me:ME)(ma:MA):MA:=λρ=>(me ρ).bind λp=>(ma p.2).bind λq=>ž (p.1::q.1,q.2)
def zi:kR K kg zj:=by
 intro ρ σ H as au Q r e q;cases e;exact q [] H (Go.refl r) ⟨rfl,λi a e=>by simp at e,λi j x y e=>by simp at e⟩
def za{t:TA}{me:ME}{ma:MA}(he:VE K te me)(ha:kR K t ma):kR K (kl te t) (zb me ma):=by
 intro ρ σ H as au Q r e q;obtain⟨⟨a1,aw⟩,e1,e⟩:=bQ e;obtain⟨⟨Dv,aD⟩,e2,e⟩:=bQ e;cases e;refine he ρ σ H a1 aw _ r e1 λv1 H1 g1 k1=>ha aw σ H1 Dv _ _ g1.rs e2 λvs H2 g2 s2=>?_;have HC:∀x,a1=.u x->x.own=ż->∃b c,v1=.ref b/\H1 b=ž c:=λx ea o=>by
  subst ea;have(b,c,eb,hb,_):=k1.1.own o;exact⟨b,c,eb,hb⟩
 have oth:∀(j:Nat) (y:U),Dv[j]?=ž (.u y)->y.own=ż->∃b,vs[j]?=ž (.ref b)/\H1 b=Ž:=λj y ej o=>by
  have(v,ev,k):=s2.ar j _ ej;have(b,eb,hb):=k.2 o;subst eb;exact⟨b,ev,hb⟩
 have ne:∀(x:U) (j:Nat) (y:U),a1=.u x->x.own=ż->Dv[j]?=ž (.u y)->y.own=ż->ž v1≠vs[j]?:=λx j y ea ox ej oy z=>by
  have(b,c,e1,h1):=HC x ea ox;have(b',e2,h2):=oth j y ej oy;rw[e2,e1]at z;cases z;rw[h1]at h2;cases h2
 refine q (v1::vs) H2 (g1.trans g2) ⟨by simp[s2.len],λi a ei=>?_,λi j x y ei ej ox oy ev=>?_⟩
 .cases i with
  |zero=>
   cases(show ž a1=ž a from ei);refine⟨v1,rfl,?_⟩;cases a1 with
   |s k=>
    have(es,w,ew):=k1;exact⟨es,g2.shr.live k w ew⟩
   |u x=>exact⟨g2.cx g1.rs k1.1<|k1.2.pV r g1,k1.2⟩
  |succ i=>
   have(v,ev,k):=s2.ar i a ei;refine⟨v,ev,?_⟩;cases a with
   |s k'=>exact k
   |u x=>exact⟨k.1,k.2.mono g1.dm⟩
 .cases i with
  |zero=>
   cases j with
   |zero=>rfl
   |succ j=>exact absurd ev<|ne x j y (qy ei) ox ej oy
  |succ i=>
   cases j with
   |zero=>exact absurd ev.symm<|ne y i x (qy ej) oy ei ox
   |succ j=>exact congrArg (·+1)<|s2.ap i j x y ei ej ox oy ev
end
open Classical in
def oN(c:Int->Int->Prop)(g:Int->Int->D):U->U->Qb U
 |.d (.int i),.d (.int j)=>if c i j then ž (.d<|g i j)else Ž
 |_,_=>Ž
noncomputable def fI(g:Int->Int->D):U->U->Qb U
 |.d (.int i),.d (.int j)=>ž<|.d<|g i j
 |_,_=>Ž
section
def DF.int_inv{i:Int}(h:DF K H v (.int i)):v=.int i:=by cases h;rfl
def DF.str_inv(h:DF K H v (.str x)):v=.str x:=by cases h;rfl
def DF.dw{b:Bool}(h:DF K H v (.bool b)):v=.bl b:=by cases h;rfl
def DF.aV{ds:Qa D}(h:DF K H v (.tuple ds)):∃a xs,v=.ref a/\bK K H a xs/\aN K H xs ds:=by cases h with|tup h t=>exact⟨_,_,rfl,h,t⟩
def DF.lst_inv{ds:Qa D}(h:DF K H v (.list ds)):∃a xs,v=.ref a/\PL K H a xs/\aN K H xs ds:=by cases h with|lst h t=>exact⟨_,_,rfl,h,t⟩
def DF.jZ{ds:Qa (D×D)}(h:DF K H v (.dict ds))(nx:HM ds=ż):∃a o ws,v=.ref a/\H a=ž (.aQ o<|.dT ws)/\oV K H ws ds:=by
 cases h with
 |nE h t=>exact⟨_,_,_,rfl,h,t⟩
 |exc h n t=>cases nx
 |obj h n t=>cases nx
def uG{c:Int->Int->Prop}{g:Int->Int->V}{gd:Int->Int->D}(h:∀i j H,DF K H (g i j)<|gd i j):VO K (rI c g) (oN c gd):=by
 intro x y a b u H Q ha hb e q;unfold oN at e;split at e
 .rename_i i j
  split at e
  .rename_i hc
   cases e;exact⟨i,j,DF.int_inv ha,DF.int_inv hb,hc,q _ _ (λ_ _ z=>z) (h i j H) Nw.data⟩
  .cases e
 .cases e
def ux{g:Int->Int->V}{gd:Int->Int->D}(h:∀i j H,DF K H (g i j)<|gd i j):VO K (jg g) (fI gd):=by
 intro x y a b u H Q ha hb e q;unfold fI at e;split at e
 .rename_i i j
  cases e;exact⟨i,j,DF.int_inv ha,DF.int_inv hb,q _ _ (λ_ _ z=>z) (h i j H) Nw.data⟩
 .cases e
def bO:=fI λi j=>.int<|i+j
def kf:=fI λi j=>.int<|i - j
def ip:=oN uD λi j=>.int<|i * j
def jC:=oN (λ_ j=>0 < j) λi j=>.int<|i % j
def jG:=oN pq λi j=>.int<|i / j
def A0:=oN uH λi j=>.int<|i.fdiv j
def AB:=oN As λi j=>.int<|i^j.toNat
def lX:=fI λi j=>.bool<|decide<|i < j
def Dl:=fI λi j=>.bool<|decide<|i<=j
def qG:=fI λi j=>.bool<|decide<|j < i
def Dm:=fI λi j=>.bool<|decide<|j<=i
def cD:VO K (jg λi j=>.int<|i+j) bO:=ux λi j H=>.int _
def nY:VO K (jg λi j=>.int<|i - j) kf:=ux λi j H=>.int _
def lE:VO K (rI uD λi j=>.int<|i * j) ip:=uG λi j H=>.int _
def mG:VO K (rI (λ_ j=>0 < j) λi j=>.int<|i % j) jC:=uG λi j H=>.int _
def mN:VO K (rI pq λi j=>.int<|i / j) jG:=uG λi j H=>.int _
def LZ:VO K (rI uH λi j=>.int<|i.fdiv j) A0:=uG λi j H=>.int _
def Uj:VO K (rI As λi j=>.int<|i^j.toNat) AB:=uG λi j H=>.int _
def qY:VO K (jg λi j=>.bl<|decide<|i < j) lX:=ux λi j H=>.bl _
def JX:VO K (jg λi j=>.bl<|decide<|i<=j) Dl:=ux λi j H=>.bl _
def w5:VO K (jg λi j=>.bl<|decide<|j < i) qG:=ux λi j H=>.bl _
def JW:VO K (jg λi j=>.bl<|decide<|j<=i) Dm:=ux λi j H=>.bl _
noncomputable def e8:U->Qb U
 |.d (.int i)=>ž<|.d<|.int (-i)
 |_=>Ž
def jM:VU K (rU λi=>.int (-i)) e8:=by
 intro x a u H Q ha e q;unfold e8 at e;split at e
 .rename_i i
  cases e;exact⟨i,DF.int_inv ha,q _ _ (λ_ _ z=>z) (.int _) Nw.data⟩
 .cases e
noncomputable def U.py:U->Qb D
 |.d x=>ž x
 |.l xs=>ž<|.list xs
 |_=>Ž
def aN.dv{v:Qa V}{d:Qa D}(h:aN K H v d):ŭ d=Ż->kW K H v d :=
 aN.rec (motive_1:=λv d _=>d.hasDict=Ż->DV K H v d) (motive_2:=λv d _=>ŭ d=Ż->kW K H v d) (motive_3:=λ_ _ _=>True) (motive_4:=λ_ _ _=>True)
  (λ_=>.aL) (λb _=>.bl b) (λi _=>.int i) (λx _=>.str x) (λh _ t q=>.tup (bK.sq h)<|t (by simpa [ţ] using q)) (λh _ t q=>.lst h.sq<|t (by simpa [ţ] using q))
  (λ_ _ _ q=>by simp[ţ]at q) (λ_ _ _ _ q=>by simp[ţ]at q) (λ_ _ _ _ q=>by simp[ţ]at q)
  (λ_=>.nil) (λ_ _ a b q=>by
   simp only[ŭ,Bool.or_eq_false_iff]at q;exact .cons (a q.1)<|b q.2) trivial (λ_ _ _ _=>trivial) trivial (λ_ _ _ _=>trivial) h
def DF.dv{d:D}(h:DF K H v d)(q:d.hasDict=Ż):DV K H v d:=by
 cases aN.dv (.cons h .nil) (by simp[ŭ,q]);assumption
def Rp.dv{u:U}{x:D}(h:Rp K H v u)(e:u.py=ž x)(q:x.hasDict=Ż):DV K H v x:=by
 cases u with
 |d y=>cases e;exact DF.dv h q
 |l xs=>
  cases e;have(a,us,rfl,h1,h2):=h;exact .lst (bE.of h1)<|aN.dv h2 (by simpa [ţ] using q)
 |t=>cases e
 |k=>cases e
 |o=>cases e
mutual
def xO:∀(x:D),x.canLay0=ż->x.hasDict=Ż
 |.none,_=>rfl
 |.bool _,_=>rfl
 |.int _,_=>rfl
 |.str _,_=>rfl
 |.list xs,h=>by simp only[ţ];exact bT xs (by simpa [a0a] using h)
 |.tuple xs,h=>by simp only[ţ];exact bT xs (by simpa [a0a] using h)
 |.dict _,h=>by simp[a0a]at h
def bT:∀(xs:Qa D),Ϛ xs=ż->ŭ xs=Ż
 |[],_=>rfl
 |x::xs,h=>by
  simp only[Ϛ,ġ]at h;simp only[ŭ,xO x h.1,bT xs h.2];rfl
end
def AA(K:qc)(neg:Bool):R2:=λx y H Q=>∃a b,DV K H x a/\DV K H y b/\ń a=ż/\ń b=ż/\Q (.bl (if neg=ż then !PyData.eqv a b else ϴ a b)) H
def Ff{X:Cx}(K:qc)(hK:X.K=K){k:Nat}(hr:aK k X.A):cp X (ĩ .Eq) (AA K Ż):=by
 subst hK;intro pins s σ H x y v u Q I rx ry h;have(a,b,da,db,sa,sb,q):=h;have(as,ra):=DV.reads I da rx;have(bs,rb):=DV.reads I db ry;exact SeqAt.compareEq_shaped ra rb sa sb hr.units ⟨.bl _,H,I,rfl,q⟩
def By{X:Cx}(K:qc)(hK:X.K=K){k:Nat}(hr:aK k X.A):cp X (ĩ .NotEq) (AA K ż):=by
 subst hK;intro pins s σ H x y v u Q I rx ry h;have(a,b,da,db,sa,sb,q):=h;have(as,ra):=DV.reads I da rx;have(bs,rb):=DV.reads I db ry;exact SeqAt.compareNe_shaped ra rb sa sb hr.units ⟨.bl _,H,I,rfl,q⟩
def iV(neg:Bool)(a b:U):Qb U:=a.py.bind λx=>b.py.bind λy=>if ń x=ż/\ń y=ż then ž (.d<|.bool (if neg=ż then !PyData.eqv x y else ϴ x y))else Ž
def xv(neg:Bool):VO K (AA K neg) (iV neg):=by
 intro x y a b u H Q ha hb e q;have(dx,ex,e):=bQ e;have(dy,ey,e):=bQ e;split at e
 .rename_i hs
  cases e;exact⟨dx,dy,ha.dv ex<|xO _<|ë hs.1,hb.dv ey<|xO _<|ë hs.2,hs.1,hs.2,q _ _ (λ_ _ z=>z) (.bl _) Nw.data⟩
 .cases e
def aN.bf{xs:Qa V}{ds:Qa D}{i:Int}{d:D}(h:aN K H xs ds)(e:Internal.bf ds i=ž d):∃v,Internal.bf xs i=ž v/\DF K H v d:=by
 unfold Internal.bf at e ⊢;have(j,ej,e):=bQ e;have(v,ev,k):=h.get e;refine⟨v,?_,k⟩;rw[h.len,ej];exact ev
def zP:U->U->Qb U
 |.l ds,.d (.int i)=>(bf ds i).map .d
 |.d (.list ds),.d (.int i)=>(bf ds i).map .d
 |_,_=>Ž
def zx:U->U->Qb U
 |.d (.tuple ds),.d (.int i)=>(bf ds i).map .d
 |_,_=>Ž
def zz:VO K (Ap K) zP:=by
 intro x y a b u H Q ha hb e q;unfold zP at e;split at e
 .rename_i ds i
  have(d,ed,rfl):=qt.mp e;have(p,us,rfl,h1,h2):=ha;have(v,ev,k):=h2.bf ed;exact⟨p,us,i,v,rfl,DF.int_inv hb,bE.of h1,ev,q _ _ (λ_ _ z=>z) k Nw.data⟩
 .rename_i ds i
  have(d,ed,rfl):=qt.mp e;have(p,us,rfl,h1,h2):=DF.lst_inv ha;have(v,ev,k):=h2.bf ed;exact⟨p,us,i,v,rfl,DF.int_inv hb,h1.sq,ev,q _ _ (λ_ _ z=>z) k Nw.data⟩
 .cases e
def zk:VO K (DU K) zx:=by
 intro x y a b u H Q ha hb e q;unfold zx at e;split at e
 .rename_i ds i
  have(d,ed,rfl):=qt.mp e;have(p,us,rfl,h1,h2):=DF.aV ha;have(v,ev,k):=h2.bf ed;exact⟨p,us,i,v,rfl,DF.int_inv hb,(bK.sq h1),ev,q _ _ (λ_ _ z=>z) k Nw.data⟩
 .cases e
end
section
variable{ρ au:En}
def jL{c:HO}(h:H a=ž c)(m:Mo c)(o:HO):Kp H (upd H a o):=by
 refine⟨λb xs e=>?_,λb ob u e=>?_,λb x e=>?_⟩
 all_goals
  rw[zu<|uJ e h (by rintro rfl;exact m)];exact e
def Go.own{u u':U}{o:HO}(r:Rs K ρ σ H)(e:ρ[i]?=ž (ž u))(ou:u.own=ż)(es:σ[i]?=ž (ž<|.ref a))(p:Rp K (upd H a o) (.ref a) u'):Go K ρ σ H (ρ.set i<|some u') (upd H a o):=by
 have hi:i < ρ.length:=(qm.mp e).1;have(c,hc,mc):=r.ow ⟨i,u,e,ou,es⟩;have kp:=jL hc mc o;refine⟨⟨by rw[ĕ];exact r.len,λj w ej=>?_,λj k w w' ej ek oj ok ue=>?_⟩,λb ob hb n=>?_,⟨ą,λj w ej oj=>?_,λj w ej=>?_⟩,λb hb=>?_⟩
 .by_cases hj:i=j
  .subst hj
   rw[ĝ hi]at ej;cases ej;exact⟨_,es,p⟩
  .rw[qD hj]at ej
   have(v,ev,q):=r.rep j w ej;refine⟨v,ev,q.kp kp λow b c' eb hb=>?_⟩;have ne:b≠a:=by
    rintro rfl;exact hj<|r.apart i j u w e ej ou ow (by rw[es,ev,eb])
   rw[zu ne];exact hb
 .have own:∀(j:Nat) (w:U),(ρ.set i<|some u')[j]?=ž (ž w)->w.own=ż->∃w',ρ[j]?=ž (ž w')/\w'.own=ż:=λj w ej oj=>by
   by_cases hj:i=j
   .subst hj;exact⟨u,e,ou⟩
   .rw[qD hj]at ej;exact⟨w,ej,oj⟩
  have(x,ex,ox):=own j w ej oj;have(y,ey,oy):=own k w' ek ok;exact r.apart j k x y ex ey ox oy ue
 .have ne:b≠a:=by
   rintro rfl;exact n ⟨i,u,e,ou,es⟩
  rw[zu ne];exact hb
 .by_cases hj:i=j
  .subst hj;exact⟨u,e,ou⟩
  .rw[qD hj]at ej;exact⟨w,ej,oj⟩
 .by_cases hj:i=j
  .subst hj;exact⟨u',Û hi⟩
  .exact⟨w,by rw[qD hj];exact ej⟩
 .by_cases dh:b=a
  .subst dh;rw[zw]at hb;cases hb
  .rw[zu dh]at hb;exact hb
def Rp.fw{u:U}(h:Rp K H v u)(o:u.own=ż):∃a,v=.ref a:=let ⟨a,_,e,_⟩:=h.own o;⟨a,e⟩
def Fz(K:qc)(H:Hp)(v:V)(H':Hp):Prop :=
 (∃a xs o,v=.ref a/\K.lookup a=Ž/\H a=ž (.lst xs)/\H'=upd H a (.aQ o<|.lst xs))\/(∃a xs o,v=.ref a/\K.lookup a=Ž/\H a=ž (.dT xs)/\H'=upd H a (.aQ o<|.dT xs))\/
  ((∀a,v=.ref a->(∀xs,H a≠ž (.lst xs))/\∀xs,H a≠ž (.dT xs))/\H'=H)
def Ho(K:qc)(t:TE):TE:=λσ H Q=>t σ H λv H1=>∀H2,Fz K H1 v H2->Q v H2
def Inv.qE{X:Cx}{s:Qd}{xs:Qa V}(I:Inv X pins σ H s)(e:H a=ž (.lst xs)):∃o,s.heap.get? a=ž o/\Inv X pins σ (upd H a<|.aQ o<|.lst xs) s:=by
 have ok:=(show zX X.prog X.w X.K H s.heap a (.lst xs) from I.aF a _ e);have(z,aq,n,r,h1):=id ok;refine⟨_,h1,?_⟩;have HG:zX X.prog X.w X.K (upd H a<|.aQ {cls:=.type "list",data:=.seq aq.toArray n}<|.lst xs) s.heap a (.lst xs):=⟨z,aq,n,r,h1⟩;exact I.write (t':=s.toks) (h':=s.heap) (by rw[e];trivial) (.inl rfl) (λ_ _ _ q=>q) ⟨_,h1⟩ ⟨h1,HG⟩
def zAM{X:Cx}{t:TE}(h:PE X e t):PE X e (Ho X.K t):=by
 intro pins s σ H Q I q;refine aI (h pins s σ H _ I q) λu s1 hZ=>?_;have(v,H1,I1,r,k):=hZ;have nk:∀a c,H1 a=ž c->X.K.lookup a=Ž:=λa c ea=>by
  cases q:X.K.lookup a with
  |none=>rfl
  |some o=>rw[(I1.bs a o<|I1.ok.mod.eK a o q).2]at ea;cases ea
 by_cases c1:∃a xs,v=.ref a/\H1 a=ž (.lst xs)
 .have(a,xs,ev,ea):=c1
  have(o,_,I2):=I1.qE ea;exact⟨v,_,I2,r,k _<|.inl ⟨a,xs,o,ev,nk a _ ea,ea,rfl⟩⟩
 .by_cases c2:∃a xs,v=.ref a/\H1 a=ž (.dT xs)
  .have(a,xs,ev,ea):=c2
   have(o,_,I2):=I1.freeze ea;exact⟨v,_,I2,r,k _<|.inr<|.inl ⟨a,xs,o,ev,nk a _ ea,ea,rfl⟩⟩
  .exact⟨v,H1,I1,r,k _<|.inr<|.inr ⟨λa ev=>⟨λxs z=>c1 ⟨a,xs,ev,z⟩,λxs z=>c2 ⟨a,xs,ev,z⟩⟩,rfl⟩⟩
def nL{X:Cx}{t:TE}(h:Wr (PE X e t))(hK:X.K=K:=by rfl):Wr (PE X e<|Ho K t):=hK▸⟨zAM h.run⟩
def U.fz:U->Qb D
 |.d x=>ž x
 |.l xs=>ž<|.list xs
 |.t ao=>ž<|.dict<|ao.map λp=>(vD p.1,p.2)
 |.k _=>Ž
 |.o _ _=>Ž
def gR(me:ME):ME:=λρ=>(me ρ).bind λp=>(p.1.get p.2).bind λu=>u.fz.bind λx=>ž (.u<|.d x,match p.1 with |.s i=>p.2.set i (ž<|.d x) |.u _=>p.2)
def Ui{ws:Qa (Qa Key×V)}{ao:Qa (Qa Key×D)}(h:dR K H ws ao):oV K H ws (ao.map λp=>(vD p.1,p.2)):=by
 induction h with
 |nil=>exact .nil
 | @cons p q ps qs hq t ih=>
  have(k,v):=p;have(k',d):=q;have(e,hd):=hq;cases(show k=k' from e);exact .cons hd ih
def Fz.rp{u:U}{x:D}(h:Fz K H v H')(p:Rp K H v u)(e:u.fz=ž x):DF K H' v x/\(u.own=Ż->H'=H)/\(u.own=ż->∃a o,v=.ref a/\H'=upd H a o):=by
 cases u with
 |d y=>
  cases e;have k:H'=H:=by
   rcases h with⟨a,xs,o,rfl,nk,ea,_⟩|⟨a,xs,o,rfl,nk,ea,_⟩|⟨_,rfl⟩
   .exfalso
    cases(show DF K H _ _ from p)with
    |tup h _=>
     rcases h with h|⟨ob,aq,n,hk,_⟩
     .rw[ea]at h;cases h
     .rw[nk]at hk;cases hk
    |lst h _=>
     rcases h with⟨o,h⟩|⟨ob,aq,n,hk,_⟩
     .rw[ea]at h;cases h
     .rw[nk]at hk;cases hk
    |nE h _=>rw[ea]at h;cases h
    |exc h _ _=>have(_,h,_):=h;rw[ea]at h;cases h
    |obj h _ _=>rw[ea]at h;cases h
   .exfalso
    cases(show DF K H _ _ from p)with
    |tup h _=>
     rcases h with h|⟨ob,aq,n,hk,_⟩
     .rw[ea]at h;cases h
     .rw[nk]at hk;cases hk
    |lst h _=>
     rcases h with⟨o,h⟩|⟨ob,aq,n,hk,_⟩
     .rw[ea]at h;cases h
     .rw[nk]at hk;cases hk
    |nE h _=>rw[ea]at h;cases h
    |exc h _ _=>have(_,h,_):=h;rw[ea]at h;cases h
    |obj h _ _=>rw[ea]at h;cases h
   .rfl
  subst k;exact⟨p,λ_=>rfl,λz=>by cases z⟩
 |l xs=>
  cases e;have(a,us,rfl,ea,ds):=p;rcases h with⟨a',iF,o,ev,_,iO,rfl⟩|⟨a',iF,o,ev,_,iO,_⟩|⟨z,_⟩
  .cases ev
   rw[ea]at iO;cases iO;exact⟨.lst (.inl ⟨o,zw⟩)<|ds.kp<|jL ea trivial _,(λz=>by cases z),λ_=>⟨a,_,rfl,rfl⟩⟩
  .cases ev
   rw[ea]at iO;cases iO
  .exact absurd ea ((z a rfl).1 us)
 |t xs=>
  cases e;have(a,us,rfl,ea,ds):=p;rcases h with⟨a',iF,o,ev,_,iO,_⟩|⟨a',iF,o,ev,_,iO,rfl⟩|⟨z,_⟩
  .cases ev
   rw[ea]at iO;cases iO
  .cases ev
   rw[ea]at iO;cases iO;exact⟨.nE zw<|Ui<|ds.kp<|jL ea trivial _,(λz=>by cases z),λ_=>⟨a,_,rfl,rfl⟩⟩
  .exact absurd ea ((z a rfl).2 us)
 |k xs=>cases e
 |o=>cases e
def nK{t:TE}{m:ME}(h:VE K t m):VE K (Ho K t) (gR m):=by
 intro ρ σ H a au Q r e q;obtain⟨⟨b,aw⟩,e1,e⟩:=bQ e;have(u,eu,e):=bQ e;have(x,ex,e):=bQ e;cases e;refine h ρ σ H b aw _ r e1 λv H1 g1 k1=>λH2 fz=>?_;have p:=k1.now r g1 eu;have(d,f1,f2):=fz.rp p ex;cases b with
 |s i=>
  have ei:aw[i]?=ž (ž u):=by
   have z:(aw[i]?).join=ž u:=eu;cases q:aw[i]? with
   |none=>rw[q]at z;cases z
   |some o=>rw[q]at z;cases o with
    |none=>cases z
    |some w=>cases z;rfl
  have hi:i < aw.length:=(qm.mp ei).1
  by_cases ou:u.own=ż
  .have(a,o,rfl,rfl):=f2 ou
   exact q _ _ (g1.trans<|Go.own (u':=.d x) g1.rs ei ou k1.1 d) ⟨d,Nw.data⟩
  .have pW:u.own=Ż:=by simpa using ou
   cases f1 pW;cases u with
   |d y=>
    cases ex;have es:aw.set i (ž<|.d x)=aw:=by
     apply Ξ;intro j
     by_cases hj:i=j
     .subst hj;rw[ĝ hi,ei]
     .rw[qD hj]
    show Q v H1;refine q v H1 ?_ ⟨d,Nw.data⟩;show Go K ρ σ H (aw.set i<|some<|.d x) H1;rw[es];exact g1
   |l=>cases pW
   |t=>cases pW
   |k=>cases pW
   |o=>cases pW
 |u w=>
  cases(show ž w=ž u from eu)
  by_cases ou:u.own=ż
  .have(a,o,rfl,rfl):=f2 ou
   have(a',iO,HP):=k1.2 ou;cases iO;obtain⟨c,hc,mc⟩:∃c,H1 a=ž c/\Mo c:=by
    have(b,c,eb,hb,m):=p.own ou;cases eb;exact⟨c,hb,m⟩
   have nw:¬Ow aw σ a:=by
    have(b,eb,nb):=k1.2.pV r g1 ou;cases eb;exact nb
   have kp:=jL hc mc o;refine q _ _ ⟨⟨g1.rs.len,λj y ej=>?_,g1.rs.apart⟩,λb ob hb n=>?_,g1.shr,λb hb=>?_⟩ ⟨d,Nw.data⟩
   .have(v,ev,p'):=g1.rs.rep j y ej
    refine⟨v,ev,p'.kp kp λoy b c' eb hb=>?_⟩;have ne:b≠a:=by
     rintro rfl;subst eb;exact nw ⟨j,y,ej,oy,ev⟩
    rw[zu ne];exact hb
   .have ne:b≠a:=by
     rintro rfl;rw[HP]at hb;cases hb
    rw[zu ne];exact g1.fr b ob hb n
   .by_cases dh:b=a
    .subst dh;exact HP
    .rw[zu dh]at hb;exact g1.dm b hb
  .have pW:u.own=Ż:=by simpa using ou
   cases f1 pW;exact q v H1 g1 ⟨d,Nw.data⟩
end
section
variable{ρ au:En}
def bW(ρ:En):Qa Ar->Qb (Qa U)
 |[]=>ž []
 |a::as=>(a.get ρ).bind λu=>(bW ρ as).bind λus=>ž<|u::us
noncomputable def kj:Qa U->Qb (Qa D)
 |[]=>ž []
 |.d x::us=>(kj us).bind λxs=>ž<|x::xs
 |_::_=>Ž
def DA(K:qc)(H:Hp):Qa V->Qa U->Prop:=ϲ λv u=>Rp K H v u
def Uh{vs:Qa V}{as:Qa Ar}{us:Qa U}(len:vs.length=as.length)(h:∀(i:Nat) (a:Ar),as[i]?=ž a->∃v,vs[i]?=ž v/\∀u,a.get ρ=ž u->Rp K H v u)(e:bW ρ as=ž us):DA K H vs us:=by
 induction as generalizing vs us with
 |nil=>
  cases e;cases vs with
  |nil=>exact .nil
  |cons=>simp at len
 |cons a as ih=>
  have(u,eu,e):=bQ e;have(jd,yR,e):=bQ e;cases e;cases vs with
  |nil=>simp at len
  |cons v vs=>
   have(v',ev,k):=h 0 a rfl;cases(show ž v=ž v' from ev);exact .cons (k u eu)<|ih (by simpa using len) (λi b eb=>h (i+1) b eb) yR
def DD.pU{vs:Qa V}{as:Qa Ar}{us:Qa U}(r:Rs K ρ σ H)(g:Go K ρ σ H au H')(s:DD K au σ H H' vs as)(e:bW au as=ž us):DA K H' vs us :=
 Uh s.len (λi a ea=>let ⟨v,ev,k⟩:=s.ar i a ea;⟨v,ev,λu eu=>k.now r g eu⟩) e
def Lm{vs:Qa V}{us:Qa U}{ds:Qa D}(h:DA K H vs us)(e:kj us=ž ds):aN K H vs ds:=by
 induction h generalizing ds with
 |nil=>cases e;exact .nil
 | @cons v u vs us hv t ih=>
  cases u with
  |d x=>
   have(xs,ex,e):=bQ (show(kj us).bind (λxs=>ž<|x::xs)=ž ds from e);cases e;exact .cons hv<|ih ex
  |l=>cases e
  |t=>cases e
  |k=>cases e
  |o=>cases e
def aX(ma:MA):ME:=λρ=>(ma ρ).bind λp=>(bW p.2 p.1).bind λus=>(kj us).bind λds=>if ds.length<=ċ then ž (.u<|.d<|.tuple ds,p.2)else Ž
def cC(ma:MA):ME:=λρ=>(ma ρ).bind λp=>(bW p.2 p.1).bind λus=>(kj us).bind λds=>if ds.length<=ċ then ž (.u<|.l ds,p.2)else Ž
def bF{t:TA}{m:MA}(h:kR K t m):VE K (DW t) (aX m):=by
 intro ρ σ H a au Q r e q;obtain⟨⟨as,aw⟩,e1,e⟩:=bQ e;have(us,eu,e):=bQ e;have(ds,ed,e):=bQ e;split at e
 .rename_i hz
  cases e;refine h ρ σ H as _ _ r e1 λvs H1 g1 s1=>?_;have dd:=Lm (s1.pU r g1 eu) ed;refine⟨by rw[dd.len];exact hz,λp hp=>?_⟩;have sm:=jP hp (.tup vs);exact q _ _ (g1.trans<|Go.grow g1.rs sm) ⟨.tup (.inl zw)<|dd.kp sm.kp,Nw.data⟩
 .cases e
def fq{t:TA}{m:MA}(h:kR K t m):VE K (Aq t) (cC m):=by
 intro ρ σ H a au Q r e q;obtain⟨⟨as,aw⟩,e1,e⟩:=bQ e;have(us,eu,e):=bQ e;have(ds,ed,e):=bQ e;split at e
 .rename_i hz
  cases e;refine h ρ σ H as _ _ r e1 λvs H1 g1 s1=>?_;have dd:=Lm (s1.pU r g1 eu) ed;refine⟨by rw[dd.len];exact hz,λp hp=>?_⟩;have sm:=jP hp (.lst vs);exact q _ _ (g1.trans<|Go.grow g1.rs sm) ⟨⟨p,_,rfl,zw,dd.kp sm.kp⟩,λ_=>⟨p,rfl,g1.dm p hp⟩⟩
 .cases e
def VC(K:qc)(r:Qa V->Hp->VK->Prop)(f:Qa U->Qb U):Prop :=
 ∀(vs:Qa V) (us:Qa U) (u:U) (H:Hp) (Q:VK),DA K H vs us->f us=ž u->(∀v H',eD H H'->Rp K H' v u->Nw H v u->Q v H')->r vs H Q
def aS(f:Qa U->Qb U)(ma:MA):ME:=λρ=>(ma ρ).bind λp=>(bW p.2 p.1).bind λus=>(f us).bind λu=>ž (.u u,p.2)
def bu{f:Qa U->Qb U}{t:TA}{m:MA}(hc:VC K r f)(h:kR K t m):VE K (pS r t) (aS f m):=by
 intro ρ σ H a au Q rs e q;obtain⟨⟨as,aw⟩,e1,e⟩:=bQ e;have(us,eu,e):=bQ e;have(u,ef,e):=bQ e;cases e;refine h ρ σ H as _ _ rs e1 λvs H1 g1 s1=>hc vs us u H1 _ (s1.pU rs g1 eu) ef λv H2 s p n=>?_;exact q v H2 (g1.trans<|Go.grow g1.rs s) ⟨p,n.mono g1.dm⟩
noncomputable def f1(f:U->Qb U):Qa U->Qb U
 |[u]=>f u
 |_=>Ž
def uw{f:U->Qb U}(h:∀(v:V) (a u:U) (H:Hp) (Q:VK),Rp K H v a->f a=ž u->(∀v H',eD H H'->Rp K H' v u->Nw H v u->Q v H')->r [v] H Q):VC K r (f1 f):=by
 intro vs us u H Q hr e q;cases hr with
 |nil=>cases e
 |cons h1 t=>
  cases t with
  |nil=>exact h _ _ _ _ _ h1 e q
  |cons=>cases e
noncomputable def U.items:U->Qb (Qa D)
 |.d (.tuple xs)=>ž xs
 |.d (.list xs)=>ž xs
 |.l xs=>ž xs
 |_=>Ž
def Rp.items{u:U}{xs:Qa D}(h:Rp K H v u)(e:u.items=ž xs):∃p ys,v=.ref p/\(bE K H p ys\/cH K H p ys)/\aN K H ys xs:=by
 cases u with
 |d x=>
  cases x with
  |tuple ds=>cases e;have(a,ys,rfl,h1,h2):=DF.aV h;exact⟨a,ys,rfl,.inr<|(bK.sq h1),h2⟩
  |list ds=>cases e;have(a,ys,rfl,h1,h2):=DF.lst_inv h;exact⟨a,ys,rfl,.inl h1.sq,h2⟩
  |_=>cases e
 |l ds=>cases e;have(a,ys,rfl,h1,h2):=h;exact⟨a,ys,rfl,.inl<|bE.of h1,h2⟩
 |t=>cases e
 |k=>cases e
 |o=>cases e
def bN(u:U):Qb U:=u.items.map λxs=>.d<|.int xs.length
def cR:VC K (D5 K) (f1 bN):=uw λv a u H Q h e q=>by
 have(xs,ex,rfl):=qt.mp e;have(p,ys,rfl,s,d):=h.items ex;exact⟨p,ys,rfl,s,q _ _ (λ_ _ z=>z) (by rw[d.len];exact .int _) Nw.data⟩
def gx(u:U):Qb U:=u.items.map λxs=>.d<|.tuple xs
def pM:VC K (Nb K) (f1 gx):=uw λv a u H Q h e q=>by
 have(xs,ex,rfl):=qt.mp e;cases a with
 |d x=>
  cases x with
  |tuple ds=>
   cases ex;have(a,ys,rfl,h1,h2):=DF.aV h;exact⟨a,ys,rfl,.inr ⟨(bK.sq h1),q _ _ (λ_ _ z=>z) (.tup h1 h2) Nw.data⟩⟩
  |list ds=>
   cases ex;have(a,ys,rfl,h1,h2):=DF.lst_inv h;refine⟨a,ys,rfl,.inl ⟨h1.sq,λl hl=>?_⟩⟩;have sm:=jP hl (.tup ys);exact q _ _ sm (.tup (.inl zw)<|h2.kp sm.kp) Nw.data
  |_=>cases ex
 |l ds=>
  cases ex;have(a,ys,rfl,h1,h2):=h;refine⟨a,ys,rfl,.inl ⟨bE.of h1,λl hl=>?_⟩⟩;have sm:=jP hl (.tup ys);exact q _ _ sm (.tup (.inl zw)<|h2.kp sm.kp) Nw.data
 |t=>cases ex
 |k=>cases ex
 |o=>cases ex
def qO:U->Qb U
 |.d (.int i)=>ž<|.d<|.int (if i < 0 then -i else i)
 |_=>Ž
def xu:VC K (λxs H Q=>∃i,xs=[.int i]/\Q (.int (if i < 0 then -i else i)) H) (f1 qO):=uw λv a u H Q h e q=>by
 unfold qO at e;split at e
 .rename_i i
  cases e;cases DF.int_inv h;exact⟨i,rfl,q _ _ (λ_ _ z=>z) (.int _) Nw.data⟩
 .cases e
def ph:U->Qb U
 |.d (.int i)=>ž<|.d<|.int i
 |.d (.bool k)=>ž<|.d<|.int (if k then 1 else 0)
 |_=>Ž
def Gk:VC K (λxs H Q=>(∃i,xs=[.int i]/\Q (.int i) H)\/∃k,xs=[.bl k]/\Q (.int (if k then 1 else 0)) H) (f1 ph):=uw λv a u H Q h e q=>by
 unfold ph at e;split at e
 .rename_i i
  cases e;cases DF.int_inv h;exact .inl ⟨i,rfl,q _ _ (λ_ _ z=>z) (.int _) Nw.data⟩
 .rename_i i
  cases e;cases DF.dw h;exact .inr ⟨i,rfl,q _ _ (λ_ _ z=>z) (.int _) Nw.data⟩
 .cases e
def AZ:Qa U->Qb U
 |[.d<|.int i,.d<|.int j]=>ž<|.d<|.int (if j > i then j else i)
 |_=>Ž
def Xz:VC K (λxs H Q=>∃i j,xs=[.int i,.int j]/\Q (.int (if j > i then j else i)) H) AZ:=by
 intro vs us u H Q hr e q;unfold AZ at e;split at e
 .rename_i i j
  cases e;cases hr with
  |cons h1 t=>
   cases t with
   |cons h2 t=>
    cases t;cases DF.int_inv h1;cases DF.int_inv h2;exact⟨i,j,rfl,q _ _ (λ_ _ z=>z) (.int _) Nw.data⟩
 .cases e
def mB(me:ME):MT:=λρ=>(me ρ).bind λp=>(p.1.get p.2).bind λu=>match u with |.d (.bool b)=>ž (b,p.2) |_=>Ž
def dS{t:TE}{m:ME}(h:VE K t m):VT K (tB t) (mB m):=by
 intro ρ σ H b au Q r e q;obtain⟨⟨a,aw⟩,e1,e⟩:=bQ e;have(u,eu,e):=bQ e;split at e
 .cases e
  refine h ρ σ H a _ _ r e1 λv H1 g1 k1=>?_;exact⟨_,DF.dw<|k1.now r g1 eu,q _ g1⟩
 .cases e
def zq{t:TE}{m:ME}(h:VE K t m):VT K (E2 t) (mB m):=dS h
noncomputable def i4(ma mb:MT):MT:=λρ=>(ma ρ).bind λp=>if p.1=ż then mb p.2 else ž (Ż,p.2)
noncomputable def cZ(ma mb:MT):MT:=λρ=>(ma ρ).bind λp=>if p.1=ż then ž (ż,p.2)else mb p.2
noncomputable def gB(ma:MT):MT:=λρ=>(ma ρ).bind λp=>ž (!p.1,p.2)
def pC{ta tb:TT}{ma mb:MT}(ha:VT K ta ma)(hb:VT K tb mb):VT K (Ec ta tb) (i4 ma mb):=by
 intro ρ σ H b au Q r e q;obtain⟨⟨c,aw⟩,e1,e⟩:=bQ e;refine ha ρ σ H c aw _ r e1 λH1 g1=>?_;dsimp only at e;split at e
 .rename_i hc
  rw[a4b hc];exact hb aw σ H1 b au _ g1.rs e λH2 g2=>q H2<|g1.trans g2
 .rename_i hc
  rw[a4c hc];cases e;exact q H1 g1
def dY{ta tb:TT}{ma mb:MT}(ha:VT K ta ma)(hb:VT K tb mb):VT K (Hm ta tb) (cZ ma mb):=by
 intro ρ σ H b au Q r e q;obtain⟨⟨c,aw⟩,e1,e⟩:=bQ e;refine ha ρ σ H c aw _ r e1 λH1 g1=>?_;dsimp only at e;split at e
 .rename_i hc
  rw[a4b hc];cases e;exact q H1 g1
 .rename_i hc
  rw[a4c hc];exact hb aw σ H1 b au _ g1.rs e λH2 g2=>q H2<|g1.trans g2
def iw{ta:TT}{ma:MT}(ha:VT K ta ma):VT K (Eb ta) (gB ma):=by
 intro ρ σ H b au Q r e q;obtain⟨⟨c,aw⟩,e1,e⟩:=bQ e;cases e;exact ha ρ σ H c _ _ r e1 λH1 g1=>q H1 g1
def w4(ma mb:ME):ME:=λρ=>(mB ma ρ).bind λp=>if p.1=ż then mb p.2 else ž (.u<|.d<|.bool Ż,p.2)
def D4{a:Ar}{H1 H2:Hp}{aw aD:En}(g1:Go K ρ σ H aw H1)(h:mr K aD σ H1 H2 v a):mr K aD σ H H2 v a:=by
 cases a with
 |s i=>exact h
 |u x=>exact⟨h.1,h.2.mono g1.dm⟩
def Ll{ma mb:ME}(ha:VE K ta ma)(hb:VE K tb mb):VE K (E1 ta tb) (w4 ma mb):=by
 intro ρ σ H a au Q r e q;obtain⟨⟨c,aw⟩,e1,e⟩:=bQ e;refine dS ha ρ σ H c aw (λc H1=>if c=ż then tb σ H1 Q else Q (.bl Ż) H1) r e1 λH1 g1=>?_;dsimp only at e;split at e
 .rename_i hc
  rw[a4b hc];exact hb aw σ H1 a au _ g1.rs e λv H2 g2 k=>q v H2 (g1.trans g2)<|D4 g1 k
 .rename_i hc
  rw[a4c hc];cases e;exact q _ H1 g1 ⟨.bl _,Nw.data⟩
def AY(ma:ME):ME:=λρ=>(mB ma ρ).bind λp=>ž (.u<|.d<|.bool (!p.1),p.2)
def Ug{ma:ME}(ha:VE K ta ma):VE K (EZ ta) (AY ma):=by
 intro ρ σ H a au Q r e q;obtain⟨⟨c,aw⟩,e1,e⟩:=bQ e;cases e;exact dS ha ρ σ H c _ (λc H1=>Q (.bl (!c)) H1) r e1 λH1 g1=>q _ H1 g1 ⟨.bl _,Nw.data⟩
noncomputable def jo(mt:MT)(ma mb:ME):ME:=λρ=>(mt ρ).bind λp=>if p.1=ż then ma p.2 else mb p.2
def sE{mt:MT}{ma mb:ME}(ht:VT K tt mt)(ha:VE K ta ma)(hb:VE K tb mb):VE K (Hn tt ta tb) (jo mt ma mb):=by
 intro ρ σ H a au Q r e q;obtain⟨⟨c,aw⟩,e1,e⟩:=bQ e;refine ht ρ σ H c aw _ r e1 λH1 g1=>?_;dsimp only at e;split at e
 .rename_i hc
  rw[a4b hc];exact ha aw σ H1 a au _ g1.rs e λv H2 g2 k=>q v H2 (g1.trans g2)<|D4 g1 k
 .rename_i hc
  rw[a4c hc];exact hb aw σ H1 a au _ g1.rs e λv H2 g2 k=>q v H2 (g1.trans g2)<|D4 g1 k
def U.tz:U->Qb Bool
 |.d .none=>ž Ż
 |.d (.bool b)=>ž b
 |.d (.int i)=>ž<|i != 0
 |.d (.str x)=>if x.length<=ċ then ž ((x.length:Int) != 0)else Ž
 |.d (.tuple xs)=>ž (!xs.isEmpty)
 |.d (.list xs)=>ž (!xs.isEmpty)
 |.l xs=>ž (!xs.isEmpty)
 |_=>Ž
def GY{ys:Qa V}{xs:Qa D}(h:aN K H ys xs):(!xs.isEmpty)=!ys.isEmpty:=by cases h<;>rfl
def wF(ma:ME):MT:=λρ=>(ma ρ).bind λp=>(p.1.get p.2).bind λu=>u.tz.bind λb=>ž (b,p.2)
def Lk{ma:ME}(ha:VE K ta ma):VT K (Qi K ta) (wF ma):=by
 intro ρ σ H b au Q r e q;obtain⟨⟨a,aw⟩,e1,e⟩:=bQ e;have(u,eu,e):=bQ e;have(c,ec,e):=bQ e;cases e;refine ha ρ σ H a _ _ r e1 λv H1 g1 k1=>⟨_,?_,q _ g1⟩;have p:=k1.now r g1 eu;cases u with
 |d x=>
  cases(show DF K H1 v x from p)with
  |aL=>cases ec;rfl
  |bl=>cases ec;rfl
  |int=>cases ec;rfl
  |str x=>
   unfold U.tz at ec;dsimp only at ec;split at ec
   .cases ec;exact⟨by assumption,rfl⟩
   .cases ec
  |tup h t=>cases ec;exact .inr<|.inl ⟨_,(bK.sq h),GY t⟩
  |lst h t=>cases ec;exact .inl ⟨_,h.sq,GY t⟩
  |nE=>cases ec
  |exc=>cases ec
  |obj=>cases ec
 |l xs=>cases ec;have(a,us,rfl,h1,h2):=p;exact .inl ⟨_,bE.of h1,GY h2⟩
 |t=>cases ec
 |k=>cases ec
 |o=>cases ec
end
section
variable{ρ au:En}
abbrev FD:=Qa U->Qb (U×Qa U)
noncomputable def sm(xs:Qa U):En:=xs.map ž
noncomputable def d0(vs:Qa V):St:=vs.map ž
def mW(K:qc)(n:Nat)(f:FD):Sp:=λvs H Q _=>∃us r outs,us.length=n/\Rs K (sm us) (d0 vs) H/\f us=ž (r,outs)/\
 ∀v H',Go K (sm us) (d0 vs) H (sm outs) H'->Rp K H' v r->Nw H v r->Q v H'
noncomputable def wb:En->Qa Ar->Qa U->En
 |ρ,.s j::as,o::os=>wb (ρ.set j<|some o) as os
 |ρ,.u _::as,_::os=>wb ρ as os
 |ρ,_,_=>ρ
def gK(ρ:En):Qa Ar->Bool
 |[]=>ż
 |.s j::as=>(match ρ[j]? with|some (ž u)=>!u.own || !(as.any λa=>match a with |.s k=>decide (k=j) |_=>Ż) |_=>ż) && gK ρ as
 |.u _::as=>gK ρ as
def zF(f:FD)(ma:MA):ME:=λρ=>(ma ρ).bind λp=>if gK p.2 p.1=ż then(bW p.2 p.1).bind λus=>(f us).bind λo=>ž (.u o.1,wb p.2 p.1 o.2)else Ž
def BX:∀{as:Qa Ar} {us:Qa U},bW ρ as=ž us->us.length=as.length
 |[],us,e=>by cases e;rfl
 |a::as,us,e=>by
  have(u,eu,e):=bQ e;have(jd,yR,e):=bQ e;cases e;simp[BX yR]
def LY:∀{as:Qa Ar} {us:Qa U} {i:Nat} {a:Ar},bW ρ as=ž us->as[i]?=ž a->∃u,us[i]?=ž u/\a.get ρ=ž u
 |[],us,i,a,e,ea=>by simp at ea
 |b::as,us,i,a,e,ea=>by
  have(u,eu,e):=bQ e;have(jd,yR,e):=bQ e;cases e;cases i with
  |zero=>cases(show ž b=ž a from ea);exact⟨u,rfl,eu⟩
  |succ i=>exact LY (i:=i) yR ea
def GF:∀{as:Qa Ar} {us:Qa U} {i:Nat} {u:U},bW ρ as=ž us->us[i]?=ž u->∃a,as[i]?=ž a/\a.get ρ=ž u:=λ{as us i u} e eu=>by
 have hi:i < as.length:=by rw[<-BX e];exact(qm.mp eu).1
 have(u',e1,e2):=LY e (qo hi);rw[eu]at e1;cases e1;exact⟨_,qo hi,e2⟩
def JV{u:U}(e:Ar.get ρ (.s j)=ž u):ρ[j]?=ž (ž u):=by
 have z:(ρ[j]?).join=ž u:=e;cases q:ρ[j]? with
 |none=>rw[q]at z;cases z
 |some o=>
  rw[q]at z;cases o with
  |none=>cases z
  |some w=>cases z;rfl
def LX:∀{as:Qa Ar} {p q j:Nat} {u:U},gK ρ as=ż->as[p]?=ž (.s j)->as[q]?=ž (.s j)->ρ[j]?=ž (ž u)->u.own=ż->p=q
 |[],p,q,j,u,_,e,_,_,_=>by simp at e
 |a::as,p,q,j,u,d,ep,eq,ej,ou=>by
  have dd:gK ρ as=ż:=by
   cases a with
   |s k=>unfold gK at d;rw[ġ]at d;exact d.2
   |u=>exact d
  have yi:∀{q':Nat},a=.s j->as[q']?=ž (.s j)->False:=λ{q'} ea Dr=>by
   subst ea;unfold gK at d;rw[ġ,ej]at d;have d1:=d.1;dsimp only at d1;rw[ou]at d1;have m:(as.any λa=>match a with |.s k=>decide (k=j) |_=>Ż)=ż:=List.any_eq_true.mpr ⟨.s j,Ñ Dr,by simp⟩;rw[m]at d1;cases d1
  cases p with
  |zero=>
   cases q with
   |zero=>rfl
   |succ q=>exact(yi (qy ep) eq).elim
  |succ p=>
   cases q with
   |zero=>exact(yi (qy eq) ep).elim
   |succ q=>exact congrArg (·+1)<|LX dd ep eq ej ou
def gZ{us:Qa U}{u:U}:(sm us)[i]?=ž (ž u)↔us[i]?=ž u:=by
 unfold sm;rw[Č];cases us[i]?<;>simp
def uS{vs:Qa V}:(d0 vs)[i]?=ž (ž v)↔vs[i]?=ž v:=by
 unfold d0;rw[Č];cases vs[i]?<;>simp
def AX:∀{as:Qa Ar} {os:Qa U} {ρ:En} {j:Nat} {w:U},(wb ρ as os)[j]?=ž (ž w)->as.length=os.length->(∃p:Nat,as[p]?=ž (Ar.s j)/\os[p]?=ž w)\/(ρ[j]?=ž (ž w)/\∀p:Nat,as[p]?≠ž (Ar.s j))
 |[],os,ρ,j,w,e,_=>.inr ⟨by cases os<;>exact e,λp z=>by simp at z⟩
 |a::as,[],ρ,j,w,e,l=>by simp at l
 |.u x::as,o::os,ρ,j,w,e,l=>by
  rcases AX (as:=as) (os:=os) (ρ:=ρ) (show(wb ρ as os)[j]?=ž (ž w) from e) (by simpa using l)with⟨p,h1,h2⟩|⟨h1,h2⟩
  .exact .inl ⟨p+1,h1,h2⟩
  .refine .inr ⟨h1,λp z=>?_⟩
   cases p with
   |zero=>cases(show ž (Ar.u x)=ž (.s j) from z)
   |succ p=>exact h2 p z
 |.s k::as,o::os,ρ,j,w,e,l=>by
  rcases AX (as:=as) (os:=os) (ρ:=ρ.set k (ž o)) (show(wb (ρ.set k<|some o) as os)[j]?=ž (ž w) from e) (by simpa using l)with⟨p,h1,h2⟩|⟨h1,h2⟩
  .exact .inl ⟨p+1,h1,h2⟩
  .by_cases hk:k=j
   .subst hk
    have hl:k < (ρ.set k<|some o).length:=(qm.mp h1).1;rw[ĕ]at hl;rw[ĝ hl]at h1;exact .inl ⟨0,rfl,by cases h1;rfl⟩
   .rw[qD hk]at h1
    refine .inr ⟨h1,λp z=>?_⟩;cases p with
    |zero=>cases(show ž (Ar.s k)=ž (.s j) from z);exact hk rfl
    |succ p=>exact h2 p z
def Bx:∀(ρ:En) (as:Qa Ar) (os:Qa U),(wb ρ as os).length=ρ.length
 |ρ,[],os=>by cases os<;>rfl
 |ρ,.s k::as,[]=>rfl
 |ρ,.u k::as,[]=>rfl
 |ρ,.s k::as,o::os=>by show(wb (ρ.set k<|some o) as os).length=_;rw[Bx];exact ą
 |ρ,.u k::as,o::os=>Bx ρ as os
def BN:∀{as:Qa Ar} {os:Qa U} {ρ:En} {j:Nat} {w:U},ρ[j]?=ž (ž w)->∃w',(wb ρ as os)[j]?=ž (ž w')
 |[],os,ρ,j,w,e=>⟨w,by cases os<;>exact e⟩
 |.s k::as,[],ρ,j,w,e=>⟨w,e⟩
 |.u k::as,[],ρ,j,w,e=>⟨w,e⟩
 |.u k::as,o::os,ρ,j,w,e=>BN (as:=as) (os:=os) e
 |.s k::as,o::os,ρ,j,w,e=>by
  by_cases hk:k=j
  .subst hk
   exact BN (as:=as) (os:=os) (w:=o)<|Û (qm.mp e).1
  .exact BN (as:=as) (os:=os) (w:=w) (by rw[qD hk];exact e)
def Ue{as:Qa Ar}{us:Qa U}{vs:Qa V}{aw:En}{H1:Hp}(rs:Rs K ρ σ H)(g1:Go K ρ σ H aw H1)(s1:DD K aw σ H H1 vs as)(dj:gK aw as=ż)(eu:bW aw as=ž us):
  Rs K (sm us) (d0 vs) H1/\∀(outs:Qa U) (H2:Hp),Go K (sm us) (d0 vs) H1 (sm outs) H2->Go K ρ σ H (wb aw as outs) H2:=by
 have rp:=s1.pU rs g1 eu;have lus:=BX eu;have lvs:=s1.len;have adr:∀(i:Nat) (u:U),us[i]?=ž u->u.own=ż->∃b,vs[i]?=ž (.ref b)/\((∃j,as[i]?=ž (.s j)/\σ[j]?=ž (ž<|.ref b)/\aw[j]?=ž (ž u))\/(as[i]?=ž (.u u)/\H b=Ž)):=λi u ei ou=>by
  have(a,ea,eg):=GF eu ei;have(v,ev,k):=s1.ar i a ea;have p:=k.now rs g1 eg;have(b,rfl):=p.fw ou;refine⟨b,ev,?_⟩;cases a with
  |s j=>exact .inl ⟨j,ea,k.1,JV eg⟩
  |u x=>
   cases(show ž x=ž u from eg);have(b',eb,hb):=k.2 ou;cases eb;exact .inr ⟨ea,hb⟩
 have apart:∀(i j:Nat) (u w:U),us[i]?=ž u->us[j]?=ž w->u.own=ż->w.own=ż->vs[i]?=vs[j]?->i=j:=λi j u w ei ej ou ow ev=>by
  have(b,vb,hb):=adr i u ei ou;have(c,vc,hc):=adr j w ej ow;have bc:b=c:=by rw[vb,vc]at ev;cases ev;rfl
  subst bc;rcases hb with⟨x,ax,sx,rx⟩|⟨ax,nx⟩
  .rcases hc with⟨y,ay,sy,ry⟩|⟨ay,ny⟩
   .have xy:x=y:=g1.rs.apart x y u w rx ry ou ow (by rw[sx,sy])
    subst xy;exact LX dj ax ay rx ou
   .exfalso
    have(w',fC,tL):=g1.shr.own x u rx ou;have(c',kO,_):=rs.ow ⟨x,w',fC,tL,sx⟩;rw[ny]at kO;cases kO
  .rcases hc with⟨y,ay,sy,ry⟩|⟨ay,ny⟩
   .exfalso
    have(w',fC,tL):=g1.shr.own y w ry ow;have(c',kO,_):=rs.ow ⟨y,w',fC,tL,sy⟩;rw[nx]at kO;cases kO
   .exact s1.ap i j u w ax ay ou ow ev
 have tG:Rs K (sm us) (d0 vs) H1:=by
  refine⟨by unfold sm d0;rw[ĉ,ĉ];omega,λi u ei=>?_,λi j u w ei ej ou ow ev=>?_⟩
  .have rZ:=gZ.mp ei
   have(a,ea,eg):=GF eu rZ;have(v,ev,k):=s1.ar i a ea;exact⟨v,uS.mpr ev,k.now rs g1 eg⟩
  .have rZ:=gZ.mp ei
   have l8:=gZ.mp ej;refine apart i j u w rZ l8 ou ow ?_;have(b,vb,_):=adr i u rZ ou;have(c,vc,_):=adr j w l8 ow;rw[uS.mpr vb,uS.mpr vc]at ev;rw[vb,vc];exact qy ev
 refine⟨tG,λouts H2 g2=>?_⟩;have lo:outs.length=us.length:=by have:=g2.shr.len;unfold sm at this;simpa using this
 have yr:=g2.kp tG;have HD:∀b,Ow (sm us) (d0 vs) b->Ow aw σ b\/H b=Ž:=λb ⟨i,u,ei,ou,es⟩=>by
  have(c,vc,hc):=adr i u (gZ.mp ei) ou;rw[uS.mp es]at vc;cases vc;rcases hc with⟨j,_,sj,rj⟩|⟨_,nb⟩
  .exact .inl ⟨j,u,rj,ou,sj⟩
  .exact .inr nb
 have tM:∀(i:Nat) (w:U),outs[i]?=ž w->∃x,vs[i]?=ž x/\Rp K H2 x w:=λi w ei=>by
  have(x,ex,px):=g2.rs.rep i w (gZ.mpr ei);exact⟨x,uS.mp ex,px⟩
 have QU:as.length=outs.length:=by omega
 have hE:∀(j:Nat) (w:U),(wb aw as outs)[j]?=ž (ž w)->w.own=ż->∃w',aw[j]?=ž (ž w')/\w'.own=ż:=λj w ej ow=>by
  rcases AX ej QU with⟨p,ap,op⟩|⟨h1,_⟩
  .have(w',fC,tL):=g2.shr.own p w (gZ.mpr op) ow
   have(a,ea,eg):=GF eu (gZ.mp fC);rw[ap]at ea;cases ea;exact⟨w',JV eg,tL⟩
  .exact⟨w,h1,ow⟩
 refine⟨⟨by rw[Bx];exact g1.rs.len,λj w ej=>?_,λi j u w ei ej ou ow es=>?_⟩,λb ob hb nb=>?_,?_,λb hb=>g1.dm b<|g2.dm b hb⟩
 .rcases AX ej QU with⟨p,ap,op⟩|⟨h1,h2⟩
  .have(x,vx,px):=tM p w op
   have(v',l7,k'):=s1.ar p _ ap;rw[vx]at l7;cases l7;exact⟨x,k'.1,px⟩
  .have(x,ex,px):=g1.rs.rep j w h1
   refine⟨x,ex,px.kp yr λow b c eb hb=>?_⟩;refine g2.fr b c hb λ⟨i,u,ei,ou,es⟩=>?_;have(c',Qr,kO):=adr i u (gZ.mp ei) ou;rw[uS.mp es]at Qr;cases Qr;subst eb;rcases kO with⟨k,ak,sk,rk⟩|⟨_,nb⟩
   .have:k=j:=g1.rs.apart k j u w rk h1 ou ow (by rw[sk,ex])
    subst this;exact h2 i ak
   .have(w',fC,tL):=g1.shr.own j w h1 ow
    have(c'',yM,_):=rs.ow ⟨j,w',fC,tL,ex⟩;rw[nb]at yM;cases yM
 .have(x,ex,ox):=hE i u ei ou
  have(y,ey,oy):=hE j w ej ow;exact g1.rs.apart i j x y ex ey ox oy es
 .refine g2.fr b ob (g1.fr b ob hb nb) λz=>?_
  rcases HD b z with z|z
  .exact nb (g1.shr.ow z)
  .rw[z]at hb;cases hb
 .refine⟨by rw[Bx];exact g1.shr.len,λj w ej ow=>?_,λj w ej=>?_⟩
  .have(x,ex,ox):=hE j w ej ow
   exact g1.shr.own j x ex ox
  .have(x,ex):=g1.shr.live j w ej
   exact BN ex
def JU:∀ρ as au,zj ρ=ž (as,au)->as.length=0:=λρ as au e=>by cases e;rfl
def Lj{me:ME}{ma:MA}(h:∀ρ as au,ma ρ=ž (as,au)->as.length=n):∀ρ as au,zb me ma ρ=ž (as,au)->as.length=n+1:=λρ as au e=>by
 obtain⟨⟨a1,aw⟩,e1,e⟩:=bQ e;obtain⟨⟨Dv,aD⟩,e2,e⟩:=bQ e;cases e;simp[h _ _ _ e2]
def zC{f:FD}{t:TA}{m:MA}(n:Nat)(h:kR K t m)(hn:∀ρ as au,m ρ=ž (as,au)->as.length=n:=by repeat (first|exact JU|refine Lj ?_)):VE K (Am (mW K n f) t) (zF f m):=by
 intro ρ σ H a au Q rs e q;obtain⟨⟨as,aw⟩,e1,e⟩:=bQ e;dsimp only at e;split at e
 .rename_i dj
  have(us,eu,e):=bQ e;obtain⟨⟨r,outs⟩,ef,e⟩:=bQ e;cases e;refine h ρ σ H as aw _ rs e1 λvs H1 g1 s1=>?_;have(tG,back):=Ue rs g1 s1 dj eu;exact⟨us,r,outs,by rw[BX eu];exact hn _ _ _ e1,tG,ef,λv H2 g2 p n2=>q v H2 (back outs H2 g2) ⟨p,n2.mono g1.dm⟩⟩
 .cases e
end
inductive Fl where
 |nx (ρ:En) |bk (ρ:En) |ct (ρ:En) |rt (u:U) (ρ:En) |ex (x:D) (ρ:En)
def P7(K:qc)(H:Hp)(a:Qg)(x:D):Prop:=∃n C fs ds,x=.dict ((.none,.str n)::ds)/\zCO H a C fs/\XN K n C/\se K H fs ds
structure Sn (K:qc) (pn:Qa Nat) (av:St) (A:Qg->Prop) (H₀ aC:Hp) (ρ:En) (σ:St) (H:Hp):Prop where
 rs:Rs K ρ σ H
 fr:y8 A H₀ H
 ow:∀(i:Nat) (u:U) (a:Qg),ρ[i]?=ž (ž u)->u.own=ż->σ[i]?=ž (ž<|.ref a)->(i∈pn/\A a)\/H₀ a=Ž
 pin:∀i∈pn,σ[i]?=av[i]?
 dm:∀a,H a=Ž->H₀ a=Ž
 kp:Kp aC H
def Sv:gn:=λ_ _ _=>False
def zCP(K:qc)(pn:Qa Nat)(EX:gn)(av:St)(A:Qg->Prop)(H₀ aC:Hp)(D:Ends):Fl->Prop
 |.nx ρ=>∀σ H,Sn K pn av A H₀ aC ρ σ H->D.nx σ H
 |.bk ρ=>∀σ H,Sn K pn av A H₀ aC ρ σ H->D.bk σ H
 |.ct ρ=>∀σ H,Sn K pn av A H₀ aC ρ σ H->D.ct σ H
 |.rt u ρ=>∀v σ H,Sn K pn av A H₀ aC ρ σ H->Rp K H v u->Nw H₀ v u->D.rt v H
 |.ex x ρ=>∀a σ H,Sn K pn av A H₀ aC ρ σ H->H₀ a=Ž->P7 K H a x->EX σ a H
abbrev MS:=En->Qb Fl
def VS(K:qc)(pn:Qa Nat)(EX:gn)(t:TS)(m:MS):Prop :=
 ∀(av:St) (A:Qg->Prop) (H₀ aC:Hp) (ρ:En) (σ:St) (H:Hp) (f:Fl) (D:Ends),Sn K pn av A H₀ aC ρ σ H->m ρ=ž f->zCP K pn EX av A H₀ aC D f->t D σ H
section
variable{EX:gn}{A:Qg->Prop}{kS:Hp}{ρ au:En}
def Sn.go(s:Sn K pn av A H₀ aC ρ σ H)(g:Go K ρ σ H au H'):Sn K pn av A H₀ aC au σ H':=by
 refine⟨g.rs,λa o h n=>g.fr a o (s.fr a o h n) λ⟨i,u,e,ou,es⟩=>?_,λi u a e o es=>?_,s.pin,λa h=>s.dm a<|g.dm a h,s.kp.trans<|g.kp s.rs⟩
 .rcases s.ow i u a e ou es with z|z
  .exact n z.2
  .rw[z]at h;cases h
 .have(w,e',o'):=g.shr.own i u e o
  exact s.ow i w a e' o' es
def Sn.re(s:Sn K pn av A H₀ kS ρ σ H)(k:Kp aC kS):Sn K pn av A H₀ aC ρ σ H:=⟨s.rs,s.fr,s.ow,s.pin,s.dm,k.trans s.kp⟩
def Sn.at(s:Sn K pn av A H₀ aC ρ σ H):Sn K pn av A H₀ H ρ σ H:=⟨s.rs,s.fr,s.ow,s.pin,s.dm,Kp.refl H⟩
def Sn.set{u:U}(s:Sn K pn av A H₀ aC ρ σ H)(hi:i∉pn)(p:Rp K H v u)(n:u.own=ż->∃a,v=.ref a/\H₀ a=Ž/\¬Ow ρ σ a):Sn K pn av A H₀ aC (ρ.set i<|some u) (σ.set i<|some v) H:=by
 have ll:=s.rs.len;have inv:∀(j:Nat) (w:U),(ρ.set i<|some u)[j]?=ž (ž w)->(j=i/\w=u/\i < ρ.length)\/(j≠i/\ρ[j]?=ž (ž w)):=λj w e=>by
  by_cases hj:i=j
  .subst hj
   have hl:=(qm.mp e).1;rw[ĕ]at hl;rw[ĝ hl]at e;cases e;exact .inl ⟨rfl,rfl,hl⟩
  .rw[qD hj]at e
   exact .inr ⟨ī hj,e⟩
 have sat:∀j,j≠i->(σ.set i<|some v)[j]?=σ[j]?:=λj h=>qD<|ī h;have jT:i < ρ.length->(σ.set i<|some v)[i]?=ž (ž v):=λh=>Û (by omega);refine⟨⟨by rw[ĕ,ĕ];exact ll,λj w e=>?_,λj k x y ej ek ox oy es=>?_⟩,s.fr,λj w a e o es=>?_,λj hj=>?_,s.dm,s.kp⟩
 .rcases inv j w e with⟨rfl,rfl,hl⟩|⟨hj,e'⟩
  .exact⟨v,jT hl,p⟩
  .rw[sat j hj]
   exact s.rs.rep j w e'
 .rcases inv j x ej with⟨rfl,rfl,hl⟩|⟨hj,l8⟩
  .rcases inv k y ek with⟨rfl,rfl,_⟩|⟨hk,rY⟩
   .rfl
   .exfalso
    have(a,rfl,_,na):=n ox;rw[jT hl,sat k hk]at es;exact na ⟨k,y,rY,oy,es.symm⟩
  .rcases inv k y ek with⟨rfl,rfl,hl⟩|⟨hk,rY⟩
   .exfalso
    have(a,rfl,_,na):=n oy;rw[jT hl,sat j hj]at es;exact na ⟨j,x,l8,ox,es⟩
   .rw[sat j hj,sat k hk]at es
    exact s.rs.apart j k x y l8 rY ox oy es
 .rcases inv j w e with⟨rfl,rfl,hl⟩|⟨hj,e'⟩
  .rw[jT hl]at es
   cases es;have(b,eb,hb,_):=n o;cases eb;exact .inr hb
  .rw[sat j hj]at es
   exact s.ow j w a e' o es
 .rw[sat j λz=>hi<|z▸hj]
  exact s.pin j hj
def mr.own{a:Ar}{u:U}(r:Rs K ρ σ H)(g:Go K ρ σ H au H')(k:mr K au σ H H' v a)(e:a.get au=ž u)(nc:∀j,a=.s j->u.own=Ż):Nw H v u/\(u.own=ż->∃b,v=.ref b/\¬Ow au σ b):=by
 cases a with
 |s j=>exact⟨(λo=>by rw[nc j rfl]at o;cases o),λo=>by rw[nc j rfl]at o;cases o⟩
 |u x=>
  cases(show ž x=ž u from e);exact⟨k.2,k.2.pV r g⟩
noncomputable def put(p:Ar×En):Qb (U×En):=match p.1 with
 |.s i=>match p.2[i]? with
  |some (ž<|.d x)=>ž (.d x,p.2)
  |_=>Ž
 |.u u=>ž (u,p.2)
def Li{a:Ar}{u:U}{aw aD:En}(e:put (a,aw)=ž (u,aD)):aD=aw/\a.get aw=ž u/\∀j,a=.s j->u.own=Ż:=by
 cases a with
 |s i=>
  unfold put at e;dsimp only at e;split at e
  .rename_i x ex
   cases e;refine⟨rfl,?_,λ_ _=>rfl⟩;show(aw[i]?).join=_;rw[ex];rfl
  .cases e
 |u x=>
  cases e;exact⟨rfl,rfl,λj z=>by cases z⟩
def zJ(i:Nat)(me:ME):MS:=λρ=>(me ρ).bind λp=>(put p).bind λq=>ž<|.nx<|q.2.set i<|some q.1
def zI{me:ME}(h:VE K te me)(hi:i∉pn:=by decide):VS K pn EX (oW te<|lB i) (zJ i me):=by
 intro av A H₀ aC ρ σ H f D s e k;obtain⟨⟨a,aw⟩,e1,e⟩:=bQ e;obtain⟨⟨u,aD⟩,e2,e3⟩:=bQ e;clear e;have(rfl,eg,nc):=Li e2;cases e3;refine h ρ σ H a aD _ s.rs e1 λv H1 g1 k1=>?_;have(n1,n2):=k1.own s.rs g1 eg nc;have s1:=s.go g1;refine k _ _<|s1.set hi (k1.now s.rs g1 eg) λo=>?_;have(b,rfl,hb):=n2 o;have(b',eb,dh):=n1 o;cases eb;exact⟨b,rfl,s.dm b dh,hb⟩
noncomputable def zr(m1 m2:MS):MS:=λρ=>(m1 ρ).bind λf=>match f with
 |.nx au=>m2 au
 |f=>ž f
def zo{t1 t2:TS}{m1 m2:MS}(h1:VS K pn EX t1 m1)(h2:VS K pn EX t2 m2):VS K pn EX (AD t1 t2) (zr m1 m2):=by
 intro av A H₀ aC ρ σ H f D s e k;have(f1,e1,e):=bQ e;refine h1 av A H₀ aC ρ σ H f1 _ s e1 ?_;cases f1 with
 |nx aw=>exact λeZ H1 s1=>h2 av A H₀ aC aw eZ H1 f D s1 e k
 |bk aw=>cases e;exact k
 |ct aw=>cases e;exact k
 |rt u aw=>cases e;exact k
 |ex x aw=>cases e;exact k
noncomputable def zS:MS:=λρ=>ž<|.nx ρ
def zO:VS K pn EX EY zS:=λav A H₀ aC ρ σ H f D s e k=>by cases e;exact k σ H s
noncomputable def aT(mt:MT)(m1 m2:MS):MS:=λρ=>(mt ρ).bind λp=>if p.1=ż then m1 p.2 else m2 p.2
def zU{t1 t2:TS}{mt:MT}{m1 m2:MS}(ht:VT K tt mt)(h1:VS K pn EX t1 m1)(h2:VS K pn EX t2 m2):VS K pn EX (Ea tt t1 t2) (aT mt m1 m2):=by
 intro av A H₀ aC ρ σ H f D s e k;obtain⟨⟨c,aw⟩,e1,e⟩:=bQ e;refine ht ρ σ H c aw _ s.rs e1 λH1 g1=>?_;dsimp only at e;split at e
 .rename_i hc
  rw[a4b hc];exact h1 av A H₀ aC aw σ H1 f D (s.go g1) e k
 .rename_i hc
  rw[a4c hc];exact h2 av A H₀ aC aw σ H1 f D (s.go g1) e k
def pB{t:TS}{m:MS}(h:VS K pn EX t m):VS K pn EX (EV t) m:=by
 intro av A H₀ aC ρ σ H f D s e k;cases f with
 |nx aw=>exact⟨λaG H'=>Sn K pn av A H₀ aC aw aG H',h av A H₀ aC ρ σ H _ _ s e λaG H' s'=>s',λaG H' s'=>k aG H' s'⟩
 |bk aw=>exact⟨D.nx,h av A H₀ aC ρ σ H _ _ s e k,λ_ _ z=>z⟩
 |ct aw=>exact⟨D.nx,h av A H₀ aC ρ σ H _ _ s e k,λ_ _ z=>z⟩
 |rt u aw=>exact⟨D.nx,h av A H₀ aC ρ σ H _ _ s e k,λ_ _ z=>z⟩
 |ex x aw=>exact⟨D.nx,h av A H₀ aC ρ σ H _ _ s e k,λ_ _ z=>z⟩
noncomputable def cT(me:ME):MS:=λρ=>(me ρ).bind λp=>ž<|.nx p.2
def gW{me:ME}(h:VE K te me):VS K pn EX (EW te) (cT me):=by
 intro av A H₀ aC ρ σ H f D s e k;obtain⟨⟨a,aw⟩,e1,e⟩:=bQ e;cases e;exact h ρ σ H a _ _ s.rs e1 λv H1 g1 k1=>k σ H1<|s.go g1
def zW(me:ME):MS:=λρ=>(me ρ).bind λp=>(put p).bind λq=>ž<|.rt q.1 q.2
def zL{me:ME}(h:VE K te me):VS K pn EX (AJ te) (zW me):=by
 intro av A H₀ aC ρ σ H f D s e k;obtain⟨⟨a,aw⟩,e1,e⟩:=bQ e;obtain⟨⟨u,aD⟩,e2,e3⟩:=bQ e;clear e;have(rfl,eg,nc):=Li e2;cases e3;refine h ρ σ H a _ _ s.rs e1 λv H1 g1 k1=>?_;have(n1,n2):=k1.own s.rs g1 eg nc;exact k v σ H1 (s.go g1) (k1.now s.rs g1 eg)<|n1.mono s.dm
def qX(pn:Qa Nat)(i:Nat):MS:=λρ=>if i∈pn then Ž else(match ρ[i]? with
 |some (ž u)=>ž<|.rt u<|ρ.set i Ž
 |_=>Ž)
def Fe:VS K pn EX (AJ<|eE i) (qX pn i):=by
 intro av A H₀ aC ρ σ H f D s e k;unfold qX at e;split at e
 .cases e
 rename_i hi;split at e
 .rename_i u eu
  cases e;have(v,ev,p):=s.rs.rep i u eu;have back:∀(j:Nat) (w:U),(ρ.set i Ž)[j]?=ž (ž w)->ρ[j]?=ž (ž w):=λj w e=>by
   by_cases hj:i=j
   .subst hj
    have hl:=(qm.mp e).1;rw[ĕ]at hl;rw[ĝ hl]at e;cases e
   .rw[qD hj]at e
    exact e
  refine⟨v,ev,k v σ H ⟨⟨by rw[ĕ];exact s.rs.len,λj w e=>s.rs.rep j w<|back j w e,λa b x y ea eb=>s.rs.apart a b x y (back a x ea)<|back b y eb⟩,s.fr,λj w a e=>s.ow j w a<|back j w e,s.pin,s.dm,s.kp⟩ p λo=>?_⟩;have(a,rfl):=p.fw o;rcases s.ow i u a eu o ev with z|z
  .exact absurd z.1 hi
  .exact⟨a,rfl,z⟩
 .cases e
end
section
variable{EX:gn}{A:Qg->Prop}{kS:Hp}{ρ au:En}
def Lh(K:qc)(J:It)(aC:Hp)(ds:Qa D):Prop:=∀H,Kp aC H->∀i:Nat,(∀d,ds[i]?=ž d->J.go i H/\∀x H',J.xU i H x H'->eD H H'/\DF K H' x d)/\(i=ds.length->J.stop i H)
abbrev MI:=En->Qb (Qa D×En)
def VI(K:qc)(wi:TI)(mi:MI):Prop :=
 ∀(ρ:En) (σ:St) (H:Hp) (ds:Qa D) (au:En) (R:It->Hp->Prop),Rs K ρ σ H->mi ρ=ž (ds,au)->(∀J H',Go K ρ σ H au H'->Lh K J H' ds->R J H')->wi σ H R
noncomputable def mq:U->Qb (Qa D)
 |.d (.list xs)=>ž xs
 |_=>Ž
def iU:U->Qb (Qa D)
 |.d (.tuple xs)=>ž xs
 |_=>Ž
def eT(f:U->Qb (Qa D))(me:ME):MI:=λρ=>(me ρ).bind λp=>(p.1.get p.2).bind λu=>(f u).bind λds=>ž (ds,p.2)
def Gj{me:ME}(h:VE K te me):VI K (E7 K te) (eT mq me):=by
 intro ρ σ H ds au R r e q;obtain⟨⟨a,aw⟩,e1,e⟩:=bQ e;have(u,eu,e):=bQ e;have(xs,ex,e):=bQ e;cases e;refine h ρ σ H a _ _ r e1 λv H1 g1 k1=>?_;have p:=k1.now r g1 eu;unfold mq at ex;split at ex
 .cases ex
  have(b,ys,rfl,h1,h2):=DF.lst_inv p;refine⟨b,rfl,⟨ys,h1.sq⟩,q _ _ g1 λH2 k i=>⟨λd ed=>?_,λei=>?_⟩⟩
  .have(v,ev,dv):=(h2.kp k).get ed
   refine⟨⟨ys,v,(h1.kp k).sq,ev⟩,λx H' y=>?_⟩;have(rfl,y):=y;have:=y ys (h1.kp k).sq;rw[ev]at this;cases this;exact⟨λ_ _ z=>z,dv⟩
  .exact⟨ys,(h1.kp k).sq,by rw[h2.len];omega⟩
 .cases ex
def lD{me:ME}(h:VE K te me):VI K (D0 K te) (eT iU me):=by
 intro ρ σ H ds au R r e q;obtain⟨⟨a,aw⟩,e1,e⟩:=bQ e;have(u,eu,e):=bQ e;have(xs,ex,e):=bQ e;cases e;refine h ρ σ H a _ _ r e1 λv H1 g1 k1=>?_;have p:=k1.now r g1 eu;unfold iU at ex;split at ex
 .cases ex
  have(b,ys,rfl,h1,h2):=DF.aV p;refine⟨b,rfl,⟨ys,(bK.sq h1)⟩,q _ _ g1 λH2 k i=>⟨λd ed=>?_,λei=>?_⟩⟩
  .have(v,ev,dv):=(h2.kp k).get ed
   refine⟨⟨ys,v,(bK.kp k h1).sq,ev⟩,λx H' y=>?_⟩;have(rfl,y):=y;have:=y ys ((bK.kp k h1).sq);rw[ev]at this;cases this;exact⟨λ_ _ z=>z,dv⟩
  .exact⟨ys,(bK.kp k h1).sq,by rw[h2.len];omega⟩
 .cases ex
noncomputable def gD(lo:Int)(n:Nat):Qa D:=(Ğ n).map λi=>.int<|lo+(i:Nat)
def lK(lo:Int)(n:Nat):(gD lo n).length=n:=by simp[gD]
def B4{lo:Int}{d:D}(h:(gD lo n)[i]?=ž d):i < n/\d=.int (lo+(i:Nat)):=by
 have hl:=(qm.mp h).1;rw[lK]at hl;refine⟨hl,?_⟩;unfold gD at h;rw[Č,ϳ hl]at h;cases h;rfl
def NT{lo:Int}:Lh K (yZ lo n) aC (gD lo n):=λH k i=>⟨λd ed=>by
  have(hi,rfl):=B4 ed;refine⟨hi,λx H' y=>?_⟩;have(rfl,rfl):=y;exact⟨λ_ _ z=>z,.int _⟩,λei=>by rw[lK]at ei;exact ì ei.symm⟩
def lz(ma:MA):MI:=λρ=>(ma ρ).bind λp=>(bW p.2 p.1).bind λus=>match us with
 |[.d<|.int j]=>if -(2^62)<=j/\j < 2^62 then ž (gD 0 j.toNat,p.2)else Ž
 |_=>Ž
def pe(ma:MA):MI:=λρ=>(ma ρ).bind λp=>(bW p.2 p.1).bind λus=>match us with
 |[.d<|.int i,.d<|.int j]=>if -(2^62)<=i/\i < 2^62/\-(2^62)<=j/\j < 2^62 then ž (gD i (j - i).toNat,p.2)else Ž
 |_=>Ž
def sY{ta:TA}{ma:MA}(h:kR K ta ma):VI K (E5 ta) (lz ma):=by
 intro ρ σ H ds au R r e q;obtain⟨⟨as,aw⟩,e1,e⟩:=bQ e;have(us,eu,e):=bQ e;refine h ρ σ H as aw _ r e1 λvs H1 g1 s1=>?_;have rp:=s1.pU r g1 eu;dsimp only at e;split at e
 .split at e
  .rename_i j hc
   cases e;cases rp with
   |cons h1 t=>
    cases t;cases DF.int_inv h1;exact⟨j,rfl,hc.1,hc.2,q _ _ g1 NT⟩
  .cases e
 .cases e
def Gi{ta:TA}{ma:MA}(h:kR K ta ma):VI K (E4 ta) (pe ma):=by
 intro ρ σ H ds au R r e q;obtain⟨⟨as,aw⟩,e1,e⟩:=bQ e;have(us,eu,e):=bQ e;refine h ρ σ H as aw _ r e1 λvs H1 g1 s1=>?_;have rp:=s1.pU r g1 eu;dsimp only at e;split at e
 .split at e
  .rename_i i j hc
   cases e;cases rp with
   |cons h1 t=>
    cases t with
    |cons h2 t=>
     cases t;cases DF.int_inv h1;cases DF.int_inv h2;exact⟨i,j,rfl,hc,q _ _ g1 NT⟩
  .cases e
 .cases e
noncomputable def kC:Nat->Qa D->Qa D
 |_,[]=>[]
 |i,d::ds=>.tuple [.int (i:Nat),d]::kC (i+1) ds
def vg:∀{ds:Qa D} {n i:Nat} {d:D},(kC n ds)[i]?=ž d->∃x,ds[i]?=ž x/\d=.tuple [.int ((n+i:Nat):Int),x]
 |[],n,i,d,h=>by simp[kC]at h
 |x::ds,n,0,d,h=>by cases h;exact⟨x,rfl,rfl⟩
 |x::ds,n,i+1,d,h=>by
  have(y,ey,ed):=vg (ds:=ds) (n:=n+1) (i:=i) h;exact⟨y,ey,by rw[ed];congr 3;omega⟩
def xQ:∀(ds:Qa D) (n:Nat),(kC n ds).length=ds.length
 |[],_=>rfl
 |_::ds,n=>congrArg (·+1)<|xQ ds<|n+1
def wZ(ma:MA):MI:=λρ=>(ma ρ).bind λp=>(bW p.2 p.1).bind λus=>match us with
 |[.d<|.tuple ds]=>ž (kC 0 ds,p.2)
 |_=>Ž
def LW{ta:TA}{ma:MA}(h:kR K ta ma):VI K (JY K ta) (wZ ma):=by
 intro ρ σ H ds au R r e q;obtain⟨⟨as,aw⟩,e1,e⟩:=bQ e;have(us,eu,e):=bQ e;refine h ρ σ H as aw _ r e1 λvs H1 g1 s1=>?_;have rp:=s1.pU r g1 eu;dsimp only at e;split at e
 .rename_i xs
  cases e;cases rp with
  |cons h1 t=>
   cases t;have(b,ys,rfl,h1,h2):=DF.aV h1;refine⟨b,rfl,⟨ys,(bK.sq h1)⟩,q _ _ g1 λH2 k i=>⟨λd ed=>?_,λei=>?_⟩⟩
   .have(x,ex,rfl):=vg ed
    have(v,ev,dv):=(h2.kp k).get ex;refine⟨⟨ys,v,(bK.kp k h1).sq,ev⟩,λx H' y=>?_⟩;have(T,nT,rfl,y):=y;cases y ys v ((bK.kp k h1).sq) ev;have sm:=jP nT (.tup [.int i,v]);refine⟨sm,.tup (.inl zw)<|.cons ?_<|.cons (dv.kp sm.kp) .nil⟩;rw[Ū];exact .int _
   .exact⟨ys,(bK.kp k h1).sq,by rw[xQ]at ei;rw[h2.len];exact ei.symm⟩
 .cases e
abbrev MG:=D->En->Qb En
def zCQ(pn:Qa Nat)(mg:MG):Prop:=∀d ρ au,mg d ρ=ž au->au.length=ρ.length/\∀i∈pn,au[i]?=ρ[i]?
def zAO(pn:Qa Nat)(mg:Qa D->En->Qb En):Prop:=∀ds ρ au,mg ds ρ=ž au->au.length=ρ.length/\∀i∈pn,au[i]?=ρ[i]?
structure qH (K:qc) (pn:Qa Nat) (g:TG) (mg:MG):Prop where
 run:∀(av:St) (A:Qg->Prop) (H₀ aC:Hp) (ρ:En) (σ:St) (H:Hp) (v:V) (d:D) (au:En) (Q:St->Hp->Prop),Sn K pn av A H₀ aC ρ σ H->DF K H v d->mg d ρ=ž au->(∀aG,Sn K pn av A H₀ aC au aG H->Q aG H)->g v σ H Q
 ok:zCQ pn mg
structure Dx (K:qc) (pn:Qa Nat) (g:i3) (mg:Qa D->En->Qb En):Prop where
 run:∀(av:St) (A:Qg->Prop) (H₀ aC:Hp) (ρ:En) (σ:St) (H:Hp) (vs:Qa V) (ds:Qa D) (au:En) (Q:St->Hp->Prop),Sn K pn av A H₀ aC ρ σ H->aN K H vs ds->mg ds ρ=ž au->(∀aG,Sn K pn av A H₀ aC au aG H->Q aG H)->g vs σ H Q
 ok:zAO pn mg
noncomputable def zy(i:Nat):MG:=λd ρ=>ž<|ρ.set i<|some<|.d d
def zE(hi:i∉pn:=by decide):qH K pn (lB i) (zy i) where
 run:=by
  intro av A H₀ aC ρ σ H v d au Q s h e q;cases e;exact q _ (s.set hi (u:=.d d) h λo=>by cases o)
 ok:=λd ρ au e=>by
  cases e;exact⟨ą,λj hj=>qD (by rintro rfl;exact hi hj)⟩
def gv:Qa D->En->Qb En:=λds ρ=>match ds with |[]=>ž ρ|_=>Ž
noncomputable def zY(g:MG)(gs:Qa D->En->Qb En):Qa D->En->Qb En:=λds ρ=>match ds with
 |d::ds=>(g d ρ).bind λaw=>gs ds aw
 |[]=>Ž
def kr:Dx K pn AH gv where
 run:=by
  intro av A H₀ aC ρ σ H vs ds au Q s h e q;cases h with
  |nil=>cases e;exact⟨rfl,q σ s⟩
  |cons=>cases e
 ok:=λds ρ au e=>by
  cases ds with
  |nil=>cases e;exact⟨rfl,λ_ _=>rfl⟩
  |cons=>cases e
def eG{gs:i3}{mg:MG}{tQ:Qa D->En->Qb En}(h1:qH K pn g mg)(h2:Dx K pn gs tQ):Dx K pn (wW g gs) (zY mg tQ) where
 run:=by
  intro av A H₀ aC ρ σ H vs ds au Q s h e q;cases h with
  |nil=>cases e
  | @cons v d vs ds hv t=>
   have(aw,e1,e):=bQ (show(mg d ρ).bind (λaw=>tQ ds aw)=ž au from e);exact⟨v,vs,rfl,h1.run av A H₀ aC ρ σ H v d aw _ s hv e1 λeZ s1=>h2.run av A H₀ aC aw eZ H vs ds au Q s1 t e q⟩
 ok:=λds ρ au e=>by
  cases ds with
  |nil=>cases e
  |cons d ds=>
   have(aw,e1,e):=bQ (show(mg d ρ).bind (λaw=>tQ ds aw)=ž au from e);have(a1,a2):=h1.ok d ρ aw e1;have(b1,b2):=h2.ok ds aw au e;exact⟨b1.trans a1,λi hi=>(b2 i hi).trans<|a2 i hi⟩
def fj(n:Nat)(gs:Qa D->En->Qb En):MG:=λd ρ=>match d with
 |.tuple ds=>if ds.length=n then gs ds ρ else Ž
 |_=>Ž
def ko{gs:i3}{tQ:Qa D->En->Qb En}(h:Dx K pn gs tQ):qH K pn (AG K n gs) (fj n tQ) where
 run:=by
  intro av A H₀ aC ρ σ H v d au Q s hd e q;unfold fj at e;split at e
  .split at e
   .rename_i ds hl
    have(a,xs,rfl,h1,h2):=DF.aV hd;exact⟨a,xs,rfl,(bK.sq h1),by rw[h2.len];exact hl,h.run av A H₀ aC ρ σ H xs ds au Q s h2 e q⟩
   .cases e
  .cases e
 ok:=λd ρ au e=>by
  unfold fj at e;split at e
  .split at e
   .exact h.ok _ _ _ e
   .cases e
  .cases e
def nJ(me:ME)(mg:MG):MS:=λρ=>(me ρ).bind λp=>(p.1.get p.2).bind λu=>match u with
 |.d d=>(mg d p.2).bind λau=>ž<|.nx au
 |_=>Ž
def wY{me:ME}{mg:MG}(h:VE K te me)(hg:qH K pn g mg):VS K pn EX (oW te g) (nJ me mg):=by
 intro av A H₀ aC ρ σ H f D s e k;obtain⟨⟨a,aw⟩,e1,e⟩:=bQ e;have(u,eu,e):=bQ e;refine h ρ σ H a aw _ s.rs e1 λv H1 g1 k1=>?_;have p:=k1.now s.rs g1 eu;dsimp only at e;split at e
 .have(aD,e2,e3):=bQ e
  cases e3;exact hg.run av A H₀ aC aw σ H1 v _ aD _ (s.go g1) p e2 λaG s'=>k aG H1 s'
 .cases e
def nI(i j:Nat)(ma:MA):MS:=λρ=>(ma ρ).bind λp=>(bW p.2 p.1).bind λus=>match us with
 |[.d x,.d y]=>ž<|.nx<|(p.2.set i<|some<|.d x).set j<|some<|.d y
 |_=>Ž
def sM{ta:TA}{ma:MA}(h:kR K ta ma)(hi:i∉pn:=by decide)(hj:j∉pn:=by decide):VS K pn EX (D1 i j ta) (nI i j ma):=by
 intro av A H₀ aC ρ σ H f D s e k;obtain⟨⟨as,aw⟩,e1,e⟩:=bQ e;have(us,eu,e):=bQ e;refine h ρ σ H as aw _ s.rs e1 λvs H1 g1 s1=>?_;have rp:=s1.pU s.rs g1 eu;dsimp only at e;split at e
 .rename_i x y
  cases e;cases rp with
  | @cons v _ vs _ h1 t=>
   cases t with
   | @cons w _ _ _ h2 t=>
    cases t;have sn:=(s.go g1).set hi (u:=.d x) h1 λo=>by cases o
    exact⟨v,w,rfl,k _ _ (sn.set hj (u:=.d y) h2 λo=>by cases o)⟩
 .cases e
noncomputable def gu(mg:MG)(mb:MS):Qa D->En->Qb Fl
 |[],ρ=>ž<|.nx ρ
 |d::ds,ρ=>(mg d ρ).bind λaw=>(mb aw).bind λf=>match f with
  |.nx aD=>gu mg mb ds aD
  |.ct aD=>gu mg mb ds aD
  |.bk aD=>ž<|.nx aD
  |.rt u aD=>ž<|.rt u aD
  |.ex x aD=>ž<|.ex x aD
def dN(mi:MI)(mg:MG)(mb:MS):MS:=λρ=>(mi ρ).bind λp=>gu mg mb p.1 p.2
def gr{tb:TS}{mi:MI}{mg:MG}{mb:MS}(hi:VI K wi mi)(hg:qH K pn g mg)(hb:VS K pn EX tb mb):VS K pn EX (AF wi g tb) (dN mi mg mb):=by
 intro av A H₀ aC ρ σ H f D s e k;obtain⟨⟨ds,aw⟩,e1,e⟩:=bQ e;refine hi ρ σ H ds aw _ s.rs e1 λJ H1 g1 run=>?_;have s1:=(s.go g1).at;have pY:Kp aC H1:=(s.go g1).kp;refine⟨λi m aG H'=>m=ds.length - i/\i<=ds.length/\∃au,Sn K pn av A H₀ H1 au aG H'/\gu mg mb (ds.drop i) au=ž f,⟨ds.length,by simp,Ê _,aw,s1,e⟩,?_⟩;rintro i m aG H' ⟨rfl,nv,au,s',el⟩
 by_cases cG:i < ds.length
 .rw[Ι cG]at el
  have(aD,e2,el):=bQ (show(mg ds[i] au).bind _=ž f from el);have(fb,eb,el):=bQ el;have(go,yl):=(run H' s'.kp i).1 ds[i] (qo cG);refine .inr ⟨go,λeM H3=>∃iB,Sn K pn av A H₀ H1 iB eM H3/\gu mg mb (ds.drop<|i+1) iB=ž f,λeM H3 ⟨iB,s3,e3⟩=>⟨ds.length - (i+1),by omega,rfl,cG,iB,s3,e3⟩,λx H2 y=>?_⟩;have(sm,dx):=yl x H2 y;have s2:=s'.go (Go.grow s'.rs sm);refine hg.run av A H₀ H1 au aG H2 x ds[i] aD _ s2 dx e2 λeM s3=>?_;refine hb av A H₀ H1 aD eM H2 fb _ s3 eb ?_;cases fb with
  |nx dM=>exact λfD H4 s4=>⟨dM,s4,el⟩
  |ct dM=>exact λfD H4 s4=>⟨dM,s4,el⟩
  |bk dM=>cases el;exact λfD H4 s4=>k fD H4<|s4.re pY
  |rt u dM=>cases el;exact λv fD H4 s4 p n=>k v fD H4 (s4.re pY) p n
  |ex x dM=>cases el;exact λa fD H4 s4 p n=>k a fD H4 (s4.re pY) p n
 .have ei:i=ds.length:=by omega
  subst ei;rw[ε]at el;cases el;exact .inl ⟨(run H' s'.kp _).2 rfl,k aG H'<|s'.re pY⟩
def iE(mt:MT)(mb:MS):Nat->En->Qb Fl
 |0,_=>Ž
 |n+1,ρ=>(mt ρ).bind λp=>if p.1=ż then(mb p.2).bind λf=>match f with
  |.nx aD=>iE mt mb n aD
  |.ct aD=>iE mt mb n aD
  |.bk aD=>ž<|.nx aD
  |.rt u aD=>ž<|.rt u aD
  |.ex x aD=>ž (.ex x aD)else ž (.nx p.2)
open Classical in
def sT(mt:MT)(mb:MS):MS:=λρ=>if h:∃n,(iE mt mb n ρ).isSome=ż then iE mt mb h.choose ρ else Ž
def LV{tb:TS}{mt:MT}{mb:MS}(ht:VT K tt mt)(hb:VS K pn EX tb mb):VS K pn EX (FC tt tb) (sT mt mb):=by
 intro av A H₀ aC ρ σ H f D s e k;unfold sT at e;split at e
 .rename_i hn
  generalize hn.choose=n at e;refine⟨λm aG H'=>∃au,Sn K pn av A H₀ aC au aG H'/\iE mt mb m au=ž f,⟨n,ρ,s,e⟩,?_⟩;rintro m aG H' ⟨au,s',el⟩;cases m with
  |zero=>cases el
  |succ m=>
   obtain⟨⟨b,aw⟩,e1,el⟩:=bQ (show(mt au).bind _=ž f from el);refine ht au aG H' b aw _ s'.rs e1 λH1 g1=>?_;dsimp only at el;split at el
   .rename_i hc
    rw[a4b hc];have(fb,eb,el):=bQ el;refine⟨λgJ H2=>∃aD,Sn K pn av A H₀ aC aD gJ H2/\iE mt mb m aD=ž f,λgJ H2 ⟨aD,s2,e2⟩=>⟨m,è m,aD,s2,e2⟩,?_⟩;refine hb av A H₀ aC aw aG H1 fb _ (s'.go g1) eb ?_;cases fb with
    |nx dM=>exact λfD H4 s4=>⟨dM,s4,el⟩
    |ct dM=>exact λfD H4 s4=>⟨dM,s4,el⟩
    |bk dM=>cases el;exact λfD H4 s4=>k fD H4 s4
    |rt u dM=>cases el;exact λv fD H4 s4 p n=>k v fD H4 s4 p n
    |ex x dM=>cases el;exact λa fD H4 s4 p n=>k a fD H4 s4 p n
   .rename_i hc
    rw[a4c hc];cases el;exact k aG H1<|s'.go g1
 .cases e
def Cn{mt:MT}{mb:MS}:∀{n:Nat} {ρ:En} {f:Fl},iE mt mb n ρ=ž f->∀k,iE mt mb (n+k) ρ=ž f
 |0,_,_,e,_=>by cases e
 |n+1,ρ,f,e,k=>by
  rw[show n+1+k=(n+k)+1 by omega];obtain⟨⟨b,aw⟩,e1,e⟩:=bQ (show(mt ρ).bind _=ž f from e);show(mt ρ).bind _=ž f;rw[e1];show(if b=ż then _ else _)=_;dsimp only at e;split at e
  .rename_i hc
   rw[a4b hc];have(fb,eb,e):=bQ e;rw[eb];cases fb with
   |nx aD=>exact Cn (n:=n) e k
   |ct aD=>exact Cn (n:=n) e k
   |bk aD=>exact e
   |rt u aD=>exact e
   |ex x aD=>exact e
  .rename_i hc
   rw[a4c hc];exact e
def ZK{mt:MT}{mb:MS}{ρ:En}{f:Fl}(e:iE mt mb n ρ=ž f):sT mt mb ρ=ž f:=by
 have h:∃n,(iE mt mb n ρ).isSome=ż:=⟨n,by rw[e];rfl⟩;unfold sT;rw[dif_pos h];have(f',RG):=Option.isSome_iff_exists.mp h.choose_spec;rw[RG];have a:=Cn e h.choose;have b:=Cn RG n;rw[Ϣ,b]at a;exact a
end
section
variable{A:Qg->Prop}{kS:Hp}{ρ au:En}
noncomputable def hX(nt:Nat)(js:Qa Nat)(ρ:En):En:=Đ nt Ž++js.map λj=>ρ.getD j Ž
noncomputable def reset(nt:Nat)(ρ:En):En:=Đ nt Ž++ρ.drop nt
noncomputable def back:Qa Nat->Qa (Qb U)->En->En
 |j::js,ž u::us,ρ=>back js us<|ρ.set j<|some u
 |_::js,Ž::us,ρ=>back js us ρ
 |_,_,ρ=>ρ
def iK(nt:Nat)(mg:MG)(mt:MT)(me:ME):Qa D->En->Qa D->Qb (Qa D×En)
 |[],ρ,ys=>ž (ys,ρ)
 |d::ds,ρ,ys=>if ys.length < ċ then(mg d ρ).bind λaw=>(mt aw).bind λb=>if b.1=ż then(me b.2).bind λp=>(p.1.get p.2).bind λu=>(match u with
   |.d y=>iK nt mg mt me ds (reset nt p.2)<|ys++[y]
   |_=>Ž)else iK nt mg mt me ds (reset nt b.2) ys else Ž
def gQ(mi:MI)(nt:Nat)(js:Qa Nat)(mg:MG)(mt:MT)(me:ME):ME:=λρ=>(mi ρ).bind λp=>(iK nt mg mt me p.1 (hX nt js p.2) []).bind λq=>ž (.u<|.l q.1,back js (q.2.drop nt) p.2)
noncomputable def k7(nt n:Nat):Qa Nat:=(Ğ n).map (nt+·)
def BM:i∈k7 nt n↔nt<=i/\i < nt+n:=by
 unfold k7;rw[List.mem_map];constructor
 .rintro⟨a,ha,rfl⟩
  have:=ç.mp ha;omega
 .intro h
  exact⟨i - nt,ç.mpr (by omega),by omega⟩
def xt{u:U}(h:(hX nt js ρ)[i]?=ž (ž u)):∃p j,i=nt+p/\js[p]?=ž j/\ρ[j]?=ž (ž u):=by
 unfold hX at h
 by_cases hi:i < nt
 .rw[č (by simpa using hi),Į,a4b hi]at h
  cases h
 .rw[Ď (by simp;omega),ę,Č]at h
  have(j,ej,e):=qt.mp h;refine⟨i - nt,j,by omega,ej,?_⟩;rw[qC]at e;cases q:ρ[j]? with
  |none=>rw[q]at e;cases e
  |some o=>rw[q]at e;exact congrArg ž e
def JT{p:Nat}(h:js[p]?=ž j):(c0 nt js σ)[nt+p]?=ž (σ.getD j Ž):=by
 unfold c0;rw[Ď (by simp),ę,ν,Č,h];rfl
def Lg:(c0 nt js σ).length=nt+js.length:=by unfold c0;simp
def LU:(hX nt js ρ).length=nt+js.length:=by unfold hX;simp
def uu(ρ:En)(σ:St)(js:Qa Nat)(a:Qg):Prop:=∃(p j:Nat) (u:U),js[p]?=ž j/\ρ[j]?=ž (ž u)/\u.own=ż/\σ[j]?=ž (ž<|.ref a)
def Xy(r:Rs K ρ σ H)(nd:js.Nodup):Sn K (k7 nt js.length) (c0 nt js σ) (uu ρ σ js) H H (hX nt js ρ) (c0 nt js σ) H:=by
 have sat:∀{p j:Nat} {v:V},js[p]?=ž j->σ[j]?=ž (ž v)->(c0 nt js σ)[nt+p]?=ž (ž v):=λ{p j v} hp hv=>by
  rw[JT hp,qC,hv];rfl
 refine⟨⟨by rw[LU,Lg],λi u e=>?_,λi k u w ei ek ou ow es=>?_⟩,λ_ _ h _=>h,λi u a e o es=>?_,λ_ _=>rfl,λ_ h=>h,Kp.refl H⟩
 .have(p,j,rfl,hj,hr):=xt e
  have(v,ev,q):=r.rep j u hr;exact⟨v,sat hj ev,q⟩
 .have(p,j,rfl,hj,hr):=xt ei
  have(p',j',rfl,yH,tY):=xt ek;have(v,ev,_):=r.rep j u hr;have(v',l7,_):=r.rep j' w tY;rw[sat hj ev,sat yH l7]at es;have:j=j':=r.apart j j' u w hr tY ou ow (by rw[ev,l7];exact es);subst this;have l1:=(qm.mp hj);have l2:=(qm.mp yH);have(h1,e1):=l1;have(h2,e2):=l2;have:=(a3M nd).mp (e1.trans e2.symm);omega
 .have(p,j,rfl,hj,hr):=xt e
  have(v,ev,_):=r.rep j u hr;rw[sat hj ev]at es;cases es;exact .inl ⟨BM.mpr ⟨by omega,by have:=(qm.mp hj).1;omega⟩,p,j,u,hj,hr,o,ev⟩
def Sn.reset{kY:St}{aD:En}{gJ:St}(s:Sn K (k7 nt n) kY A H₀ aC aD gJ H)(l1:aD.length=nt+n)(l2:kY.length=nt+n):Sn K (k7 nt n) kY A H₀ aC (Internal.reset nt aD) kY H:=by
 have bk:∀(i:Nat) (u:U),(Internal.reset nt aD)[i]?=ž (ž u)->nt<=i/\i < nt+n/\aD[i]?=ž (ž u):=λi u e=>by
  unfold Internal.reset at e
  by_cases hi:i < nt
  .rw[č (by simpa using hi),Į,a4b hi]at e
   cases e
  .rw[Ď (by simp;omega),ę,Ũ,show nt+(i - nt)=i by omega]at e
   have:=(qm.mp e).1;exact⟨by omega,by omega,e⟩
 have pin:∀i,nt<=i->i < nt+n->kY[i]?=gJ[i]?:=λi h1 h2=>(s.pin i<|BM.mpr ⟨h1,h2⟩).symm;have ll:(Internal.reset nt aD).length=nt+n:=by unfold Internal.reset;simp;omega
 refine⟨⟨by omega,λi u e=>?_,λi j u w ei ej ou ow es=>?_⟩,s.fr,λi u a e o es=>?_,λ_ _=>rfl,s.dm,s.kp⟩
 .have(h1,h2,e'):=bk i u e
  rw[pin i h1 h2];exact s.rs.rep i u e'
 .have(h1,h2,rZ):=bk i u ei
  have(h3,h4,l8):=bk j w ej;rw[pin i h1 h2,pin j h3 h4]at es;exact s.rs.apart i j u w rZ l8 ou ow es
 .have(h1,h2,e'):=bk i u e
  rw[pin i h1 h2]at es;exact s.ow i u a e' o es
def BL:∀{js:Qa Nat} {us:Qa (Qb U)} {ρ:En} {j:Nat} {w:U},(back js us ρ)[j]?=ž (ž w)->(∃p:Nat,js[p]?=ž j/\us[p]?=ž (ž w))\/(ρ[j]?=ž (ž w)/\∀p:Nat,js[p]?=ž j->∀x,us[p]?≠ž (ž x))
 |[],us,ρ,j,w,e=>.inr ⟨by cases us<;>exact e,λp z=>by simp at z⟩
 |k::js,[],ρ,j,w,e=>.inr ⟨e,λp z x=>by simp⟩
 |k::js,Ž::us,ρ,j,w,e=>by
  rcases BL (js:=js) (us:=us) (ρ:=ρ) (show(back js us ρ)[j]?=ž (ž w) from e)with⟨p,h1,h2⟩|⟨h1,h2⟩
  .exact .inl ⟨p+1,h1,h2⟩
  .refine .inr ⟨h1,λp z x=>?_⟩
   cases p with
   |zero=>intro q;cases q
   |succ p=>exact h2 p z x
 |k::js,ž u::us,ρ,j,w,e=>by
  rcases BL (js:=js) (us:=us) (ρ:=ρ.set k (ž u)) (show(back js us<|ρ.set k<|some u)[j]?=ž (ž w) from e)with⟨p,h1,h2⟩|⟨h1,h2⟩
  .exact .inl ⟨p+1,h1,h2⟩
  .by_cases hk:k=j
   .subst hk
    have hl:k < (ρ.set k<|some u).length:=(qm.mp h1).1;rw[ĕ]at hl;rw[ĝ hl]at h1;exact .inl ⟨0,rfl,by cases h1;rfl⟩
   .rw[qD hk]at h1
    refine .inr ⟨h1,λp z x=>?_⟩;cases p with
    |zero=>cases(show ž k=ž j from z);exact absurd rfl hk
    |succ p=>exact h2 p z x
def BW:∀(js:Qa Nat) (us:Qa (Qb U)) (ρ:En),(back js us ρ).length=ρ.length
 |[],us,ρ=>by cases us<;>rfl
 |_::js,[],ρ=>rfl
 |_::js,Ž::us,ρ=>BW js us ρ
 |j::js,ž u::us,ρ=>by show(back js us<|ρ.set j<|some u).length=_;rw[BW];exact ą
def B3:∀{js:Qa Nat} {us:Qa (Qb U)} {ρ:En} {j:Nat} {w:U},ρ[j]?=ž (ž w)->∃w',(back js us ρ)[j]?=ž (ž w')
 |[],us,ρ,j,w,e=>⟨w,by cases us<;>exact e⟩
 |_::js,[],ρ,j,w,e=>⟨w,e⟩
 |_::js,Ž::us,ρ,j,w,e=>B3 (js:=js) (us:=us) e
 |k::js,ž u::us,ρ,j,w,e=>by
  by_cases hk:k=j
  .subst hk
   exact B3 (js:=js) (us:=us) (w:=u)<|Û (qm.mp e).1
  .exact B3 (js:=js) (us:=us) (w:=w) (by rw[qD hk];exact e)
def Sn.comp_back{aD:En}(r:Rs K ρ σ H)(s:Sn K (k7 nt js.length) (c0 nt js σ) (uu ρ σ js) H aC aD (c0 nt js σ) H')(l:aD.length=nt+js.length)(sh:ic (hX nt js ρ) aD):
  Go K ρ σ H (back js (aD.drop nt) ρ) H':=by
 have xW:∀(p:Nat) (w:U),(aD.drop nt)[p]?=ž (ž w)->aD[nt+p]?=ž (ž w):=λp w e=>by rw[Ũ]at e;exact e
 have kp:Kp H H':=by
  refine⟨λb xs h=>s.fr b _ h λ⟨p,j,u,hj,hr,ou,es⟩=>?_,λb ob u h=>s.fr b _ h λ⟨p,j,u,hj,hr,ou,es⟩=>?_,λb x h=>s.fr b _ h λ⟨p,j,u,hj,hr,ou,es⟩=>?_⟩
  all_goals
   have(c,q,m):=r.ow ⟨j,u,hr,ou,es⟩;rw[h]at q;cases q;exact m
 have HE:∀(p j:Nat) (w:U),js[p]?=ž j->(aD.drop nt)[p]?=ž (ž w)->w.own=ż->∃x,ρ[j]?=ž (ž x)/\x.own=ż:=λp j w hj e o=>by
  have(x,ex,ox):=sh.own (nt+p) w (xW p w e) o;have(p',j',ep,yH,hr):=xt ex;have:p'=p:=by omega
  subst this;rw[hj]at yH;cases yH;exact⟨x,hr,ox⟩
 have own:∀(j:Nat) (w:U),(back js (aD.drop nt) ρ)[j]?=ž (ž w)->w.own=ż->∃x,ρ[j]?=ž (ž x)/\x.own=ż:=λj w e o=>by
  rcases BL e with⟨p,hj,hu⟩|⟨h1,_⟩
  .exact HE p j w hj hu o
  .exact⟨w,h1,o⟩
 refine⟨⟨by rw[BW];exact r.len,λj w e=>?_,λi j u w ei ej ou ow es=>?_⟩,λa o h n=>s.fr a o h λ⟨p,j,u,hj,hr,ou,es⟩=>n ⟨j,u,hr,ou,es⟩,⟨BW _ _ _,own,λj w e=>B3 e⟩,s.dm⟩
 .rcases BL e with⟨p,hj,hu⟩|⟨h1,h2⟩
  .have(v,ev,q):=s.rs.rep (nt+p) w (xW p w hu)
   rw[JT hj]at ev;refine⟨v,?_,q⟩;rw[qC]at ev;cases z:σ[j]? with
   |none=>rw[z]at ev;cases ev
   |some o=>rw[z]at ev;exact congrArg ž<|qy ev
  .have(v,ev,q):=r.rep j w h1
   refine⟨v,ev,q.kp kp λow a c ea hc=>s.fr a c hc λ⟨p,j',u,hj,hr,ou,es⟩=>?_⟩;subst ea;have:j'=j:=r.apart j' j u w hr h1 ou ow (by rw[es,ev]);subst this;have e1:(hX nt js ρ)[nt+p]?=ž (ž u):=by
    unfold hX;rw[Ď (by simp),ę,ν,Č,hj];show ž (ρ.getD j' Ž)=_;rw[qC,hr];rfl
   have(w',fC):=sh.live _ _ e1;exact h2 p hj w' (by rw[Ũ];exact fC)
 .have(x,ex,ox):=own i u ei ou
  have(y,ey,oy):=own j w ej ow;exact r.apart i j x y ex ey ox oy es
def ic.tH{kc aw:En}(l:kc.length=nt+n)(h0:∀i,i < nt->kc[i]?=ž Ž)(l1:aw.length=nt+n)(own:∀(i:Nat) (u:U),nt<=i->aw[i]?=ž (ž u)->u.own=ż->∃w,kc[i]?=ž (ž w)/\w.own=ż)(live:∀(i:Nat) (u:U),nt<=i->kc[i]?=ž (ž u)->∃w,aw[i]?=ž (ž w)):ic kc (Internal.reset nt aw):=by
 have at':∀i,nt<=i->(Internal.reset nt aw)[i]?=aw[i]?:=λi hi=>by
  unfold Internal.reset;rw[Ď (by simp;omega),ę,Ũ,show nt+(i - nt)=i by omega]
 have lo:∀i,i < nt->(Internal.reset nt aw)[i]?=ž Ž:=λi hi=>by
  unfold Internal.reset;rw[č (by simpa using hi),Į,a4b hi]
 refine⟨by unfold Internal.reset;simp;omega,λi u e o=>?_,λi u e=>?_⟩
 .by_cases hi:i < nt
  .rw[lo i hi]at e;cases e
  .rw[at' i (by omega)]at e
   exact own i u (by omega) e o
 .by_cases hi:i < nt
  .rw[h0 i hi]at e;cases e
  .rw[at' i (by omega)]
   exact live i u (by omega) e
def M7{aw:En}(h:i < nt):(Internal.reset nt aw)[i]?=ž Ž:=by
 unfold Internal.reset;rw[č (by simpa using h),Į,a4b h]
def Ud(h:i < nt):(hX nt js ρ)[i]?=ž Ž:=by
 unfold hX;rw[č (by simpa using h),Į,a4b h]
def Sl(K:qc)(js:Qa Nat)(wi:TI)(mi:MI):Prop :=
 ∀(ρ:En) (σ:St) (H:Hp) (ds:Qa D) (au:En) (R:It->Hp->Prop),Rs K ρ σ H->mi ρ=ž (ds,au)->(∀J H',Go K ρ σ H au H'->(∀H2,Kp H' H2->y8 (uu au σ js) H' H2->∀i:Nat,(∀d,ds[i]?=ž d->J.go i H2/\∀x H3,J.xU i H2 x H3->eD H2 H3/\DF K H3 x d)/\(i=ds.length->J.stop i H2))->R J H')->wi σ H R
def JS{mi:MI}{mg:MG}{mt:MT}{me:ME}(hi:Sl K js wi mi)(hg:qH K (k7 nt js.length) g mg)(ht:VT K tt mt)(he:VE K te me)(nd:js.Nodup:=by decide):
  VE K (vw wi nt js g tt te) (gQ mi nt js mg mt me):=by
 intro ρ σ H a au Q r e q;obtain⟨⟨ds,aw⟩,e1,e⟩:=bQ e;obtain⟨⟨zs,Ac⟩,e2,e⟩:=bQ e;cases e;refine hi ρ σ H ds aw _ r e1 λJ H1 g1 run=>?_;have s1:=Xy (nt:=nt) (js:=js) g1.rs nd;refine⟨λi m ys H'=>m=ds.length - i/\i<=ds.length/\∃kc yd,Sn K (k7 nt js.length) (c0 nt js σ) (uu aw σ js) H1 H1 kc (c0 nt js σ) H'/\ic (hX nt js aw) kc/\(∀k,k < nt->kc[k]?=ž Ž)/\aN K H' ys yd/\iK nt mg mt me (ds.drop i) kc yd=ž (zs,Ac),
  ⟨ds.length,by simp,Ê _,_,[],s1,ic.refl _,λk hk=>Ud hk,.nil,e2⟩,?_⟩
 rintro i m ys H' ⟨rfl,nv,kc,yd,s',sh,lo,dy,el⟩;have lc:kc.length=nt+js.length:=by rw[sh.len,LU]
 by_cases cG:i < ds.length
 .rw[Ι cG]at el
  unfold iK at el;split at el
  .rename_i hz
   have(aD,e3,el):=bQ el;obtain⟨⟨b,iB⟩,e4,el⟩:=bQ el;have(l2,p2):=hg.ok _ _ _ e3;have(go,yl):=(run H' s'.kp s'.fr i).1 ds[i] (qo cG);refine .inr ⟨go,by rw[dy.len];exact hz,λjQ H2=>∃ka CA,Sn K (k7 nt js.length) (c0 nt js σ) (uu aw σ js) H1 H1 ka (c0 nt js σ) H2/\ic (hX nt js aw) ka/\(∀k,k < nt->ka[k]?=ž Ž)/\aN K H2 jQ CA/\iK nt mg mt me (ds.drop<|i+1) ka CA=ž (zs,Ac),
    λjQ H2 ⟨ka,CA,z⟩=>⟨ds.length - (i+1),by omega,rfl,cG,ka,CA,z⟩,λx H2 y=>?_⟩
   have(sm,dx):=yl x H2 y;have s2:=s'.go (Go.grow s'.rs sm);refine hg.run _ _ _ _ kc _ H2 x ds[i] aD _ s2 dx e3 λeM s3=>?_;have toEnd:∀{dM:En} {H4:Hp},Go K aD eM H2 dM H4->Sn K (k7 nt js.length) (c0 nt js σ) (uu aw σ js) H1 H1 (Internal.reset nt dM) (c0 nt js σ) H4/\ic (hX nt js aw) (Internal.reset nt dM):=λ{dM H4} g4=>by
    have l4:dM.length=nt+js.length:=by rw[g4.shr.len,l2,lc]
    refine⟨(s3.go g4).reset l4 Lg,sh.trans<|ic.tH lc lo l4 (λk u hk ek ou=>?_) λk u hk ek=>?_⟩
    .have(w,ew,ow):=g4.shr.own k u ek ou
     have lk:k < nt+js.length:=by rw[<-l2.trans lc];exact(qm.mp ew).1
     rw[p2 k<|BM.mpr ⟨hk,lk⟩]at ew;exact⟨w,ew,ow⟩
    .have lk:k < nt+js.length:=by rw[<-lc];exact(qm.mp ek).1
     rw[<-p2 k (BM.mpr ⟨hk,lk⟩)]at ek;exact g4.shr.live k u ek
   refine ht aD eM H2 b iB _ s3.rs e4 λH3 g3=>?_;dsimp only at el;split at el
   .rename_i hb
    rw[a4b hb];obtain⟨⟨a4,dM⟩,e5,el⟩:=bQ el;have(u,e6,el):=bQ el;refine he iB eM H3 a4 dM _ g3.rs e5 λv H4 g4 k4=>?_;have pv:=k4.now g3.rs g4 e6;dsimp only at el;split at el
    .rename_i yv
     have(sn,sr):=toEnd (g3.trans g4);exact⟨_,_,sn,sr,λk hk=>M7 hk,((dy.kp sm.kp).kp<|(g3.trans g4).kp s3.rs).snoc pv,el⟩
    .cases el
   .rename_i hb
    rw[a4c hb];have(sn,sr):=toEnd g3;exact⟨_,_,sn,sr,λk hk=>M7 hk,(dy.kp sm.kp).kp<|g3.kp s3.rs,el⟩
  .cases el
 .have ei:i=ds.length:=by omega
  subst ei;rw[ε]at el;cases el;refine .inl ⟨(run H' s'.kp s'.fr _).2 rfl,λDa hD=>?_⟩;have gb:=Sn.comp_back g1.rs s' lc sh;have sm:=jP hD (.lst ys);exact q _ _ ((g1.trans gb).trans<|Go.grow gb.rs sm) ⟨⟨Da,ys,rfl,zw,dy.kp sm.kp⟩,λ_=>⟨Da,rfl,(g1.trans gb).dm _ hD⟩⟩
def sD{mi:MI}{mg:MG}{mt:MT}{me:ME}(hi:VI K wi mi)(hg:qH K (k7 nt js.length) g mg)(ht:VT K tt mt)(he:VE K te me)(nd:js.Nodup:=by decide):
  VE K (vw wi nt js g tt te) (gQ mi nt js mg mt me):=JS (λρ σ H ds au R r e q=>hi ρ σ H ds au R r e λJ H' g run=>q J H' g λH2 k _=>run H2 k) hg ht he nd
end
section
variable{EX:gn}{A:Qg->Prop}{kS:Hp}{ρ au:En}
def iD(pn:Qa Nat)(ρ:En):Nat->Qa U->Qb (Qa U)
 |_,[]=>ž []
 |i,u::us=>(if i∈pn then(ρ[i]?).join.bind λo=>if o.own=ż/\u.own=Ż then Ž else ž o else if u.own=ż then Ž else ž u).bind λo=>(iD pn ρ (i+1) us).bind λos=>ž<|o::os
def bM(n:Nat)(pn:Qa Nat)(m:MS):FD:=λus=>(m<|sm us++Đ (n - us.length) Ž).bind λf=>match f with
 |.rt u ρ=>(iD pn ρ 0 us).bind λos=>ž (u,os)
 |.nx ρ=>(iD pn ρ 0 us).bind λos=>ž (.d .none,os)
 |_=>Ž
def M6:∀{us os:Qa U} {i:Nat},iD pn ρ i us=ž os->os.length=us.length
 |[],os,i,e=>by cases e;rfl
 |u::us,os,i,e=>by
  have(o,e1,e):=bQ e;have(CM,e2,e):=bQ e;cases e;simp[M6 e2]
def xA:∀{us os:Qa U} {i p:Nat} {o:U},iD pn ρ i us=ž os->os[p]?=ž o->∃u,us[p]?=ž u/\((i+p∈pn/\ρ[i+p]?=ž (ž o)/\(o.own=ż->u.own=ż))\/(i+p∉pn/\o=u/\u.own=Ż))
 |[],os,i,p,o,e,ep=>by cases e;simp at ep
 |u::us,os,i,p,o,e,ep=>by
  have(o1,e1,e):=bQ e;have(CM,e2,e):=bQ e;cases e;cases p with
  |zero=>
   cases(show ž o1=ž o from ep);refine⟨u,rfl,?_⟩;rw[ϋ];split at e1
   .rename_i hi
    have(o2,e3,e1):=bQ e1;split at e1
    .cases e1
    .rename_i hc
     cases e1;refine .inl ⟨hi,?_,λoo=>?_⟩
     .cases q:ρ[i]? with
      |none=>rw[q]at e3;cases e3
      |some x=>rw[q]at e3;cases x with
       |none=>cases e3
       |some y=>cases e3;rfl
     .cases hu:u.own with
      |true=>rfl
      |false=>exact absurd ⟨oo,hu⟩ hc
   .rename_i hi
    split at e1
    .cases e1
    .rename_i hc
     cases e1;exact .inr ⟨hi,rfl,by simpa using hc⟩
  |succ p=>
   have(u',eu,h):=xA (i:=i+1) (p:=p) e2 ep;refine⟨u',eu,?_⟩;rw[show i+(p+1)=i+1+p by omega];exact h
def M5:∀{us os:Qa U} {i p:Nat} {u:U},iD pn ρ i us=ž os->us[p]?=ž u->u.own=ż->i+p∈pn
 |[],os,i,p,u,e,ep,_=>by simp at ep
 |u::us,os,i,p,u',e,ep,o=>by
  have(o1,e1,e):=bQ e;have(CM,e2,e):=bQ e;cases p with
  |zero=>
   cases(show ž u=ž u' from ep);rw[ϋ];split at e1
   .assumption
   .first|cases e1 | (rw[a4b o]at e1;cases e1)
  |succ p=>
   rw[show i+(p+1)=i+1+p by omega];exact M5 (i:=i+1) (p:=p) e2 ep o
def xE{vs:Qa V}(h:i < vs.length):(gN N vs)[i]?=(d0 vs)[i]?:=by
 unfold gN d0;rw[č (by simpa using h)]
def ZJ{us os:Qa U}{vs:Qa V}{SH:En}(r:Rs K (sm us) (d0 vs) H)(hl:us.length<=N.length)(ho:iD pn SH 0 us=ž os):
  Sn K pn (gN N vs) (Ow (sm us)<|d0 vs) H H (sm us++Đ (N.length - us.length) Ž) (gN N vs) H:=by
 have lv:us.length=vs.length:=by have:=r.len;unfold sm d0 at this;simpa using this
 have inv:∀(i:Nat) (u:U),(sm us++Đ (N.length - us.length) Ž)[i]?=ž (ž u)->i < us.length/\(sm us)[i]?=ž (ž u):=λi u e=>by
  by_cases hi:i < us.length
  .rw[č (by unfold sm;simpa using hi)]at e
   exact⟨hi,e⟩
  .rw[Ď (by unfold sm;simp;omega),Į]at e
   split at e<;>cases e
 refine⟨⟨?_,λi u e=>?_,λi j u w ei ej ou ow es=>?_⟩,λ_ _ h _=>h,λi u a e o es=>?_,λ_ _=>rfl,λ_ h=>h,Kp.refl H⟩
 .unfold gN sm;simp;omega
 .have(hi,e'):=inv i u e
  rw[xE (by omega)];exact r.rep i u e'
 .have(hi,rZ):=inv i u ei
  have(hj,l8):=inv j w ej;rw[xE (by omega),xE (by omega)]at es;exact r.apart i j u w rZ l8 ou ow es
 .have(hi,e'):=inv i u e
  rw[xE (by omega)]at es;have:=M5 ho (gZ.mp e') o;rw[Ū]at this;exact .inl ⟨this,i,u,e',o,es⟩
def Lf{us os:Qa U}{vs:Qa V}{aG:St}(r:Rs K (sm us) (d0 vs) H)(s:Sn K pn (gN N vs) (Ow (sm us)<|d0 vs) H H au aG H')(ho:iD pn au 0 us=ž os):Go K (sm us) (d0 vs) H (sm os) H':=by
 have lv:us.length=vs.length:=by have:=r.len;unfold sm d0 at this;simpa using this
 have lo:=M6 ho;have vX:∀{p:Nat} {o:U},os[p]?=ž o->p < vs.length:=λ{p o} e=>by have:=(qm.mp e).1;omega
 have pin:∀{p:Nat} {o:U},os[p]?=ž o->p∈pn->aG[p]?=(d0 vs)[p]?:=λ{p o} e hp=>by rw[s.pin p hp,xE<|vX e]
 refine⟨⟨by unfold sm d0;simp;omega,λp o e=>?_,λp q o o' ep eq oo HF es=>?_⟩,s.fr,⟨by unfold sm;simp;omega,λp o e oo=>?_,λp u e=>?_⟩,s.dm⟩
 .have e':=gZ.mp e
  have(u,eu,h):=xA ho e';rw[Ū]at h;rcases h with⟨hp,hr,_⟩|⟨_,rfl,ou⟩
  .have(v,ev,q):=s.rs.rep p o hr
   rw[pin e' hp]at ev;exact⟨v,ev,q⟩
  .have(v,ev,q):=r.rep p o (gZ.mpr eu)
   exact⟨v,ev,q.kp s.kp λoo=>by rw[ou]at oo;cases oo⟩
 .have oO:=gZ.mp ep
  have Dr:=gZ.mp eq;have(u,eu,h):=xA ho oO;have(u',RD,h'):=xA ho Dr;rw[Ū]at h h';rcases h with⟨hp,hr,_⟩|⟨_,rfl,ou⟩
  .rcases h' with⟨hq,tY,_⟩|⟨_,rfl,pW⟩
   .rw[<-pin oO hp,<-pin Dr hq]at es
    exact s.rs.apart p q o o' hr tY oo HF es
   .rw[pW]at HF;cases HF
  .rw[ou]at oo;cases oo
 .have e':=gZ.mp e
  have(u,eu,h):=xA ho e';rcases h with⟨_,_,h⟩|⟨_,rfl,ou⟩
  .exact⟨u,gZ.mpr eu,h oo⟩
  .rw[ou]at oo;cases oo
 .have e':=gZ.mp e
  have hp:p < os.length:=by have:=(qm.mp e').1;omega
  exact⟨os[p],gZ.mpr<|qo hp⟩
def jA.QL{w:Qh}{base:Ĭ}{f:Qg}{ps:Qa Str}{k nn:Nat}{m:MS}(F:jA K x qual st f fd)(S:bH N ps (eI st))(nq:ps.length=n)(hN:N.length=nn)(vJ:n<=nn)
  (cb:∀(bt:Qc) (A:Qf) (outer:Qa Env) (s:Qd) (H:Hp) (E:XK),aK k (A.deeper<|ς qual (eI st) s.heap.objs.size f bt)->
   ∃t,Wr (eX (nN iR P w K mg base N qual (eI st) f bt A outer s H E).rK (i9 st) t)/\VS K pn Sv t m):cI P w K mg base iR (k+1) f fd ps (mW K n<|bM nn pn m):=by
 refine F.QK S (λvs H Q E h=>?_) λbt A outer s H vs Q E hr h=>?_
 .have(us,r,outs,hl,rs,_):=h
  have:=rs.len;unfold sm d0 at this;simp at this;omega
 have(us,r,outs,hl,rs,ef,q):=h;have(t,wt,vt):=cb bt A outer s H E hr;refine⟨t,wt,?_⟩;have(fl,em,ef):=bQ ef;have go:∀(au:En),iD pn au 0 us=ž outs->Sn K pn (gN N vs) (Ow (sm us)<|d0 vs) H H (sm us++Đ (N.length - us.length) Ž) (gN N vs) H:=λau ho=>ZJ rs (by omega) ho;subst hN;cases fl with
 |nx au=>
  have(os,eo,ef):=bQ (show(iD pn au 0 us).bind _=_ from ef);cases ef;refine vt _ _ _ _ _ _ _ (.nx au) _ (go au eo) em λaG H' s'=>?_;exact q _ _ (Lf rs s' eo) .aL Nw.data
 |rt u au=>
  have(os,eo,ef):=bQ (show(iD pn au 0 us).bind _=_ from ef);cases ef;refine vt _ _ _ _ _ _ _ (.rt r au) _ (go au eo) em λv aG H' s' p n'=>?_;exact q _ _ (Lf rs s' eo) p n'
 |bk=>cases ef
 |ct=>cases ef
 |ex=>cases ef
end
section
variable{EX:gn}{ρ au:En}
def cU(i:Nat)(me:ME):ME:=λρ=>match ρ[i]? with
 |some (ž<|.l _)=>(me ρ).bind λp=>(p.1.get p.2).bind λu=>match u,p.2[i]? with
  |.d x,ž (ž<|.l xs)=>if xs.length < ċ then ž (.u<|.d .none,p.2.set i<|some<|.l<|xs++[x])else Ž
  |_,_=>Ž
 |_=>Ž
def iC{me:ME}(h:VE K te me):VE K (CH K "list" FY (eE i)<|kl te kg) (cU i me):=by
 intro ρ σ H a au Q r e q;unfold cU at e;split at e
 .rename_i xs0 e0
  obtain⟨⟨b,aw⟩,e1,e⟩:=bQ e;have(u,eu,e):=bQ e;have(v0,eB,p0):=r.rep i _ e0;have(l,us0,rfl,rQ,_):=p0;refine⟨_,eB,.inl ⟨rfl,us0,bE.of rQ⟩,?_⟩;refine h ρ σ H b aw _ r e1 λv H1 g1 k1=>?_;have pv:=k1.now r g1 eu;dsimp only at e;split at e
  .rename_i x xs ex
   split at e
   .rename_i hz
    cases e;have(w,ew,p1):=g1.rs.rep i _ ex;have(l',us,rfl,hl,ds):=p1;rw[eB]at ew;cases ew;refine⟨l,us,v,rfl,rfl,hl,by rw[ds.len];exact hz,q _ _ (g1.trans<|Go.own (u':=.l (xs++[x])) g1.rs ex rfl eB ?_) ⟨.aL,Nw.data⟩⟩;have kp:=jL hl trivial (.lst<|us++[v]);exact⟨l,_,rfl,zw,(ds.kp kp).snoc<|DF.kp kp pv⟩
   .cases e
  .cases e
 .cases e
def jO{o:Qb (Qb U)}{u:U}(e:o.join=ž u):o=ž (ž u):=by
 cases o with
 |none=>cases e
 |some x=>cases x with
  |none=>cases e
  |some y=>cases e;rfl
def iW(i:Nat)(me mi:ME):MS:=λρ=>(ρ[i]?).join.bind λ_=>(me ρ).bind λp=>(mi p.2).bind λq=>(p.1.get q.2).bind λu=>(q.1.get q.2).bind λw=>match u,w,q.2[i]? with
 |.d x,.d<|.int k,ž (ž<|.l xs)=>(fA xs.length k).bind λj=>ž<|.nx<|q.2.set i<|some<|.l<|xs.set j x
 |_,_,_=>Ž
def lJ{ti:TE}{me mi:ME}(h:VE K te me)(hi:VE K ti mi):VS K pn EX (oW te<|D2 (eE i) ti J8) (iW i me mi):=by
 intro av A H₀ aC ρ σ H f D s e k;replace e:=bQ e;have(w0,e0,e):=e;replace e:=bQ e;obtain⟨⟨a,aw⟩,e1,e⟩:=e;replace e:=bQ e;obtain⟨⟨b,aD⟩,e2,e⟩:=e;replace e:=bQ e;have(u,eu,e):=e;replace e:=bQ e;have(w,ew,e):=e;have(v0,eB,_):=s.rs.rep i w0 (jO e0);refine h ρ σ H a aw _ s.rs e1 λv H1 g1 k1=>⟨v0,eB,?_⟩;refine hi aw σ H1 b aD _ g1.rs e2 λy H2 g2 k2=>?_;have pv:=k1.later s.rs g1 g2 eu;have py:=k2.now g1.rs g2 ew;dsimp only at e;split at e
 .rename_i x n xs ex
  replace e:=bQ e;have(j,ej,e):=e;cases e;have(w',fC,p1):=g2.rs.rep i _ ex;have(l,us,rfl,hl,ds):=p1;rw[eB]at fC;cases fC;refine⟨l,us,n,j,rfl,DF.int_inv py,hl,by rw[ds.len];exact ej,k _ _<|(s.go<|g1.trans g2).go<|Go.own (u':=.l (xs.set j x)) g2.rs ex rfl eB ?_⟩;have kp:=jL hl trivial (.lst<|us.set j v);exact⟨l,_,rfl,zw,(ds.kp kp).set (DF.kp kp pv) j⟩
 .cases e
noncomputable def oY:Qa D->Qb (Qa Key)
 |[]=>ž []
 |.int i::ds=>(oY ds).bind λks=>ž<|.inl i::ks
 |.str x::ds=>(oY ds).bind λks=>ž<|.inr x::ks
 |_::_=>Ž
def gY:D->Qb (Qa Key)
 |.tuple ds=>oY ds
 |_=>Ž
def qN:D->Qb Key
 |.int i=>ž<|.inl i
 |.str x=>ž<|.inr x
 |_=>Ž
def Gh:∀ks:Qa Key,oY (ks.map vF)=ž ks
 |[]=>rfl
 |.inl i::ks=>by show(oY<|ks.map vF).bind _=_;rw[Gh ks];rfl
 |.inr x::ks=>by show(oY<|ks.map vF).bind _=_;rw[Gh ks];rfl
def M4(ks:Qa Key):gY (vD ks)=ž ks:=Gh ks
def Fd:∀{ds:Qa D} {ks:Qa Key} {xs:Qa V},aN K H xs ds->oY ds=ž ks->xs=ks.map kV
 |[],ks,xs,h,e=>by cases e;cases h;rfl
 |d::ds,ks,xs,h,e=>by
  cases h with
  |cons h1 t=>
   cases d with
   |int i=>
    have(m7,e1,e):=bQ (show(oY ds).bind (λks=>ž<|Ϸ i::ks)=ž ks from e);cases e;rw[Fd t e1,DF.int_inv h1];rfl
   |str x=>
    have(m7,e1,e):=bQ (show(oY ds).bind (λks=>ž<|Ο x::ks)=ž ks from e);cases e;rw[Fd t e1,DF.str_inv h1];rfl
   |_=>cases e
def BK{d:D}{ks:Qa Key}(h:DF K H v d)(e:gY d=ž ks):∃b,v=.ref b/\bK K H b (ks.map kV):=by
 cases d with
 |tuple ds=>
  have(b,xs,rfl,h1,h2):=DF.aV h;exact⟨b,rfl,by rw[<-Fd h2 e];exact h1⟩
 |_=>cases e
def Fc{d:D}{k:Key}(h:DF K H v d)(e:qN d=ž k):v=kV k:=by
 cases d with
 |int i=>cases e;exact DF.int_inv h
 |str x=>cases e;exact DF.str_inv h
 |_=>cases e
section
variable{κ:Type}[DecidableEq κ]
noncomputable def eO(ao:Qa (κ×D))(k:κ):Qb D:=(ao.find? λkv=>decide<|kv.1=k).map (·.2)
noncomputable def fE(ao:Qa (κ×D))(k:κ)(d:D):Qa (κ×D):=if(ao.any λkv=>decide<|kv.1=k)=ż then ao.map (λkv=>if kv.1=k then(kv.1,d)else kv)else ao++[(k,d)]
def dR.val{ws:Qa (κ×V)}{ao:Qa (κ×D)}(h:dR K H ws ao)(k:κ):(∃v d,gL ws k=ž v/\eO ao k=ž d/\DF K H v d)\/(gL ws k=Ž/\eO ao k=Ž):=by
 induction h with
 |nil=>exact .inr ⟨rfl,rfl⟩
 | @cons p q ps qs hq t ih=>
  unfold gL eO at ih ⊢;rw[ģ,ģ]
  by_cases hk:p.1=k
  .have hW:q.1=k:=hq.1▸hk
   rw[a4d hk,a4d hW];exact .inl ⟨_,_,rfl,rfl,hq.2⟩
  .have hW:¬q.1=k:=λz=>hk<|hq.1.trans z
   rw[a4e hk,a4e hW];exact ih
def dR.any{ws:Qa (κ×V)}{ao:Qa (κ×D)}(h:dR K H ws ao)(k:κ):(ws.any λkv=>decide<|kv.1=k)=(ao.any λkv=>decide<|kv.1=k):=by
 induction h with
 |nil=>rfl
 | @cons p q ps qs hq t ih=>rw[œ,œ,ih,hq.1]
def dR.jf{ws:Qa (κ×V)}{ao:Qa (κ×D)}(h:dR K H ws ao)(k:κ){d:D}(hd:DF K H v d):dR K H (ws.map λkv=>if kv.1=k then(kv.1,v)else kv) (ao.map λkv=>if kv.1=k then(kv.1,d)else kv):=by
 induction h with
 |nil=>exact .nil
 | @cons p q ps qs hq t ih=>
  refine .cons ?_ ih;dsimp only
  by_cases hk:p.1=k
  .have hW:q.1=k:=hq.1▸hk
   rw[a4b hk,a4b hW];exact⟨hq.1,hd⟩
  .have hW:¬q.1=k:=λz=>hk<|hq.1.trans z
   rw[a4c hk,a4c hW];exact hq
def dR.put{ws:Qa (κ×V)}{ao:Qa (κ×D)}(h:dR K H ws ao)(k:κ){d:D}(hd:DF K H v d):dR K H (gC ws k v) (fE ao k d):=by
 unfold gC fE;rw[h.any k];split
 .exact h.jf k hd
 .exact a1i h ⟨rfl,hd⟩
def dR.len{ws:Qa (κ×V)}{ao:Qa (κ×D)}(h:dR K H ws ao):ws.length=ao.length:=ό h
end
def AW(ao:Qa (D×D))(k:Qa Key):Qb D:=(ao.find? λkv=>decide<|gY kv.1=ž k).map (·.2)
def oV.val{ws:Qa (Qa Key×V)}{ao:Qa (D×D)}(h:oV K H ws ao)(k:Qa Key):(∃v d,gL ws k=ž v/\AW ao k=ž d/\DF K H v d)\/(gL ws k=Ž/\AW ao k=Ž):=by
 induction ws generalizing ao with
 |nil=>cases h;exact .inr ⟨rfl,rfl⟩
 |cons p ws ih=>
  cases h with
  | @cons k' v d _ ds hv t=>
   unfold gL AW at ih ⊢;rw[ģ,ģ]
   by_cases hk:k'=k
   .have hW:gY (vD k')=ž k:=by rw[M4,hk]
    rw[a4d hk,a4d hW];exact .inl ⟨_,_,rfl,rfl,hv⟩
   .have hW:¬gY (vD k')=ž k:=by rw[M4];exact λz=>hk<|qy z
    rw[a4e hk,a4e hW];exact ih t
def nH(u y:U):Qb (Qb D):=match u,y with
 |.t ao,.d y=>(gY y).map λk=>eO ao k
 |.k ao,.d y=>(qN y).map λk=>eO ao k
 |.d (.dict ao),.d y=>if HM ao=ż then(gY y).map λk=>AW ao k else Ž
 |_,_=>Ž
def LS{u y:U}{o:Qb D}{x:V}(hu:Rp K H x u)(hy:Rp K H v y)(e:nH u y=ž o):∃a,x=.ref a/\((∃w d,o=ž d/\sH K H a v (ž w)/\DF K H w d)\/(o=Ž/\sH K H a v Ž)):=by
 unfold nH at e;split at e
 .rename_i ao y
  have(k,ek,rfl):=qt.mp e;have(a,ws,rfl,h1,h2):=hu;have(b,rfl,hb):=BK hy ek;refine⟨a,rfl,?_⟩;rcases h2.val k with⟨w,d,e1,e2,p⟩|⟨e1,e2⟩
  .exact .inl ⟨w,d,e2,.inr ⟨ws,k,b,.inl h1,rfl,hb,e1.symm⟩,p⟩
  .exact .inr ⟨e2,.inr ⟨ws,k,b,.inl h1,rfl,hb,e1.symm⟩⟩
 .rename_i ao y
  have(k,ek,rfl):=qt.mp e;have(a,ws,rfl,h1,h2):=hu;cases Fc hy ek;refine⟨a,rfl,?_⟩;rcases h2.val k with⟨w,d,e1,e2,p⟩|⟨e1,e2⟩
  .exact .inl ⟨w,d,e2,.inl ⟨ws,k,.inl h1,rfl,e1.symm⟩,p⟩
  .exact .inr ⟨e2,.inl ⟨ws,k,.inl h1,rfl,e1.symm⟩⟩
 .rename_i ao y
  split at e
  rotate_left
  .cases e
  rename_i nx;have(k,ek,rfl):=qt.mp e;have(a,ob,ws,rfl,h1,h2):=DF.jZ hu nx;have(b,rfl,hb):=BK hy ek;refine⟨a,rfl,?_⟩;rcases h2.val k with⟨w,d,e1,e2,p⟩|⟨e1,e2⟩
  .exact .inl ⟨w,d,e2,.inr ⟨ws,k,b,.inr ⟨ob,h1⟩,rfl,hb,e1.symm⟩,p⟩
  .exact .inr ⟨e2,.inr ⟨ws,k,b,.inr ⟨ob,h1⟩,rfl,hb,e1.symm⟩⟩
 .cases e
def jF(md my:ME):ME:=λρ=>(md ρ).bind λp=>(my p.2).bind λq=>(p.1.get q.2).bind λu=>(q.1.get q.2).bind λy=>(nH u y).bind λo=>o.bind λd=>ž (.u<|.d d,q.2)
def uR{md my:ME}(hd:VE K td md)(hy:VE K ty my):VE K (EO K td ty) (jF md my):=by
 intro ρ σ H a au Q r e q;obtain⟨⟨a1,aw⟩,e1,e⟩:=bQ e;obtain⟨⟨b1,aD⟩,e2,e⟩:=bQ e;have(u,eu,e):=bQ e;have(y,ey,e):=bQ e;have(o,eo,e):=bQ e;have(d,ed,e):=bQ e;cases e;refine hd ρ σ H a1 aw _ r e1 λv1 H1 g1 k1=>hy aw σ H1 b1 _ _ g1.rs e2 λv2 H2 g2 k2=>?_;have(b,rfl,h):=LS (k1.later r g1 g2 eu) (k2.now g1.rs g2 ey) eo;rcases h with⟨w,d',rfl,g,p⟩|⟨rfl,_⟩
 .cases ed
  exact⟨b,w,rfl,g,q w H2 (g1.trans g2) ⟨p,Nw.data⟩⟩
 .cases ed
noncomputable def pJ:ME:=λρ=>ž (.u<|.k [],ρ)
def Gg:VE K FF pJ:=by
 intro ρ σ H a au Q r e q;cases e;intro p hp;have sm:=jP hp (.dK []);exact q _ _ (Go.grow r sm) ⟨⟨p,[],rfl,zw,.nil⟩,λ_=>⟨p,rfl,hp⟩⟩
def lx(i:Nat)(my mv:ME):MS:=λρ=>(ρ[i]?).join.bind λ_=>(mv ρ).bind λp=>(my p.2).bind λq=>(p.1.get q.2).bind λx=>(q.1.get q.2).bind λy=>match x,y,q.2[i]? with
 |.d x,.d y,ž (ž<|.t ao)=>(gY y).bind λk=>if ao.length < ċ then ž (.nx<|q.2.set i<|some<|.t<|fE ao k x)else Ž
 |.d x,.d y,ž (ž<|.k ao)=>(qN y).bind λk=>if ao.length < ċ then ž (.nx<|q.2.set i<|some<|.k<|fE ao k x)else Ž
 |_,_,_=>Ž
def Fb{my mv:ME}(hy:VE K ty my)(hv:VE K tv mv):VS K pn EX (EN K (eE i) ty tv) (lx i my mv):=by
 intro av A H₀ aC ρ σ H f D s e k;replace e:=bQ e;have(w0,e0,e):=e;replace e:=bQ e;obtain⟨⟨a,aw⟩,e1,e⟩:=e;replace e:=bQ e;obtain⟨⟨b,aD⟩,e2,e⟩:=e;replace e:=bQ e;have(u,eu,e):=e;replace e:=bQ e;have(w,ew,e):=e;have(v0,eB,_):=s.rs.rep i w0 (jO e0);refine hv ρ σ H a aw _ s.rs e1 λv H1 g1 k1=>⟨v0,eB,?_⟩;refine hy aw σ H1 b aD _ g1.rs e2 λy H2 g2 k2=>?_;have pv:=k1.later s.rs g1 g2 eu;have py:=k2.now g1.rs g2 ew;dsimp only at e;split at e
 .rename_i x yd ao ex
  replace e:=bQ e;have(ks,ek,e):=e;split at e
  .rename_i hz
   cases e;have(w',fC,p1):=g2.rs.rep i _ ex;have(l,us,rfl,hl,ds):=p1;rw[eB]at fC;cases fC;have(kb,rfl,yG):=BK py ek;refine⟨l,_,rfl,qR.t hl yG (by rw[ds.len];exact hz),k _ _<|(s.go<|g1.trans g2).go<|Go.own (u':=.t (fE ao ks x)) g2.rs ex rfl eB ?_⟩;have kp:=jL hl trivial (.dT<|gC us ks v);exact⟨l,_,rfl,zw,(ds.kp kp).put ks<|DF.kp kp pv⟩
  .cases e
 .rename_i x yd ao ex
  replace e:=bQ e;have(ks,ek,e):=e;split at e
  .rename_i hz
   cases e;have(w',fC,p1):=g2.rs.rep i _ ex;have(l,us,rfl,hl,ds):=p1;rw[eB]at fC;cases fC;cases Fc py ek;refine⟨l,_,rfl,qR.k hl (by rw[ds.len];exact hz),k _ _<|(s.go<|g1.trans g2).go<|Go.own (u':=.k (fE ao ks x)) g2.rs ex rfl eB ?_⟩;have kp:=jL hl trivial (.dK<|gC us ks v);exact⟨l,_,rfl,zw,(ds.kp kp).put ks<|DF.kp kp pv⟩
  .cases e
 .cases e
end
section
variable{ρ au:En}
abbrev MO:=En->Qb (Qb Int×En)
def ur(K:qc)(t:TO)(m:MO):Prop :=
 ∀(ρ:En) (σ:St) (H:Hp) (o:Qb Int) (au:En) (Q:Qb Int->Hp->Prop),Rs K ρ σ H->m ρ=ž (o,au)->(∀H',Go K ρ σ H au H'->Q o H')->t σ H Q
noncomputable def uY:MO:=λρ=>ž (Ž,ρ)
def nR(me:ME):MO:=λρ=>(me ρ).bind λp=>(p.1.get p.2).bind λu=>match u with |.d (.int i)=>ž (ž i,p.2) |_=>Ž
def Gf:ur K F0 uY:=λρ σ H o au Q r e q=>by cases e;exact q H<|Go.refl r
def sX{me:ME}(h:VE K te me):ur K (ER te) (nR me):=by
 intro ρ σ H o au Q r e q;replace e:=bQ e;obtain⟨⟨a,aw⟩,e1,e⟩:=e;replace e:=bQ e;have(u,eu,e):=e;refine h ρ σ H a aw _ r e1 λv H1 g1 k1=>?_;have p:=k1.now r g1 eu;dsimp only at e;split at e
 .rename_i i
  cases e;exact⟨i,DF.int_inv p,q _ g1⟩
 .cases e
def kZ(xs:Qa D)(lo hi:Qb Int):Qa D:=(xs.drop<|HT.aW xs.length 0 lo).take (HT.aW xs.length xs.length hi - HT.aW xs.length 0 lo)
def aN.cut{xs:Qa V}{ds:Qa D}(h:aN K H xs ds)(lo hi:Qb Int):aN K H (k9 xs lo hi) (kZ ds lo hi):=by
 unfold k9 kZ;rw[h.len];exact(h.drop _).take _
def Jg(K:qc)(r:V->Qb Int->Qb Int->Hp->VK->Prop)(f:U->Qb Int->Qb Int->Qb U):Prop :=
 ∀(x:V) (a u:U) (lo hi:Qb Int) (H:Hp) (Q:VK),Rp K H x a->f a lo hi=ž u->(∀v H',eD H H'->Rp K H' v u->Nw H v u->Q v H')->r x lo hi H Q
def tR(f:U->Qb Int->Qb Int->Qb U)(me:ME)(ml mh:MO):ME:=λρ=>(me ρ).bind λp=>(ml p.2).bind λl=>(mh l.2).bind λh=>(p.1.get h.2).bind λx=>(f x l.1 h.1).bind λu=>ž (.u u,h.2)
def Az{r:V->Qb Int->Qb Int->Hp->VK->Prop}{f:U->Qb Int->Qb Int->Qb U}{tl th:TO}{me:ME}{ml mh:MO}(hs:Jg K r f)(he:VE K te me)(hl:ur K tl ml)(hh:ur K th mh):VE K (Hl r te tl th) (tR f me ml mh):=by
 intro ρ σ H a au Q rs e q;obtain⟨⟨a1,aw⟩,e1,e⟩:=bQ e;obtain⟨⟨lo,aD⟩,e2,e⟩:=bQ e;obtain⟨⟨hi,iB⟩,e3,e⟩:=bQ e;have(x,ex,e):=bQ e;have(u,eu,e):=bQ e;cases e;refine he ρ σ H a1 aw _ rs e1 λv1 H1 g1 k1=>hl aw σ H1 lo aD _ g1.rs e2 λH2 g2=>hh aD σ H2 hi _ _ g2.rs e3 λH3 g3=>?_;refine hs _ x u lo hi H3 _ (k1.later rs g1 (g2.trans g3) ex) eu λv H4 s p n=>?_;have g:=g1.trans (g2.trans g3);exact q v H4 (g.trans<|Go.grow g.rs s) ⟨p,n.mono g.dm⟩
def sC(u:U)(lo hi:Qb Int):Qb U:=match u with
 |.l xs=>ž<|.l<|kZ xs lo hi
 |.d (.list xs)=>ž<|.l<|kZ xs lo hi
 |_=>Ž
def Ge:Jg K (D9 K) sC:=by
 intro x a u lo hi H Q p e q;unfold sC at e;split at e
 .cases e
  have(b,us,rfl,h1,h2):=p;refine⟨b,us,rfl,bE.of h1,λl hl=>?_⟩;have sm:=jP hl (.lst<|k9 us lo hi);exact q _ _ sm ⟨l,_,rfl,zw,(h2.cut lo hi).kp sm.kp⟩ λ_=>⟨l,rfl,hl⟩
 .cases e
  have(b,us,rfl,h1,h2):=DF.lst_inv p;refine⟨b,us,rfl,h1.sq,λl hl=>?_⟩;have sm:=jP hl (.lst<|k9 us lo hi);exact q _ _ sm ⟨l,_,rfl,zw,(h2.cut lo hi).kp sm.kp⟩ λ_=>⟨l,rfl,hl⟩
 .cases e
def P6(K:qc):V->Qb Int->Qb Int->Hp->VK->Prop:=λx lo hi H Q=>∃a xs,x=.ref a/\bK K H a xs/\∀p H',eD H H'->bK K H' p (k9 xs lo hi)->Q (.ref p) H'
def zCR{X:Cx}:vZ X (P6 X.K):=by
 intro pins s σ H x v vl vu lo hi sl Q I rx hs pl pu h;have(a,xs,rfl,rN,q):=h;have hx:cH X.K H a xs:=rN.sq
 by_cases hw:HT.aW xs.length 0 lo=0/\HT.aW xs.length xs.length hi=xs.length
 .cases rx
  have(aq,r,ht,hz):=I.tuple hx;have hlen:aq.toArray.size=xs.length:=by rw[ď];exact r.length.symm
  refine⟨"tuple",_,PyProof.Rows.slot_tuple_getitem.lookup,ht.typeIs,?_⟩;refine HT.dH ht hs pl pu (by rw[hlen];exact hw) ⟨.ref a,H,I,rfl,q a H (eD.refl _) ?_⟩;unfold k9;rw[hw.1,hw.2];simpa using rN
 .exact TL pins s σ H _ v vl vu lo hi sl Q I rx hs pl pu ⟨a,xs,rfl,hx,hw,λp hp=>q p _ (jP hp _)<|.inl zw⟩
def Ay(u:U)(lo hi:Qb Int):Qb U:=match u with
 |.d (.tuple xs)=>ž<|.d<|.tuple<|kZ xs lo hi
 |_=>Ž
def Uc:Jg K (P6 K) Ay:=by
 intro x a u lo hi H Q p e q;unfold Ay at e;split at e
 .cases e
  have(b,us,rfl,h1,h2):=DF.aV p;exact⟨b,us,rfl,h1,λl H' sm hl=>q _ _ sm (.tup hl<|(h2.cut lo hi).kp sm.kp) Nw.data⟩
 .cases e
def N7{r:α->α->Prop}(as:∀a b,r a b->¬r b a):∀{L M:Qa α},L.Perm M->L.Pairwise r->M.Pairwise r->L=M
 |[],M,p,_,_=>(List.nil_perm.mp p).symm▸rfl
 |a::L,[],p,_,_=>by have:=p.length_eq;simp at this
 |a::L,b::M,p,h1,h2=>by
  have(a1,a2):=Ĉ.mp h1;have(b1,b2):=Ĉ.mp h2;have e:a=b:=by
   rcases qw.mp (p.mem_iff.mp<|qq (a:=a) (l:=L))with z|z
   .exact z
   .rcases qw.mp (p.mem_iff.mpr<|qq (a:=b) (l:=M))with y|y
    .exact y.symm
    .exact absurd (b1 a z) (as a b<|a1 b y)
  subst e;rw[N7 as p.cons_inv a2 b2]
def U.lst:U->Qb (Qa D)
 |.l xs=>ž xs
 |.d (.list xs)=>ž xs
 |_=>Ž
def Rp.lst{u:U}{xs:Qa D}(h:Rp K H v u)(e:u.lst=ž xs):∃p ys,v=.ref p/\bE K H p ys/\aN K H ys xs:=by
 cases u with
 |d x=>
  cases x with
  |list ds=>cases e;have(a,ys,rfl,h1,h2):=DF.lst_inv h;exact⟨a,ys,rfl,h1.sq,h2⟩
  |_=>cases e
 |l ds=>cases e;have(a,ys,rfl,h1,h2):=h;exact⟨a,ys,rfl,bE.of h1,h2⟩
 |t=>cases e
 |k=>cases e
 |o=>cases e
end
section
variable{ρ au:En}
def zAQ(ma:MA):ME:=λρ=>(ma ρ).bind λp=>(bW p.2 p.1).bind λus=>match us with
 |[.d<|.int j]=>if(-(2^62)<=j/\j < 2^62)/\j.toNat<=ċ then ž (.u<|.l<|gD 0 j.toNat,p.2)else Ž
 |_=>Ž
noncomputable def iT:MT:=λρ=>ž (ż,ρ)
def uQ:VT K D8 iT:=λρ σ H b au Q r e q=>by cases e;exact q H<|Go.refl r
noncomputable def sV:D->Qb V
 |.none=>ž .aL
 |.bool b=>ž<|.bl b
 |.int i=>ž<|.int i
 |.str x=>ž<|.str x
 |_=>Ž
def Ax{x:D}{w:V}(h:DF K H v x)(e:sV x=ž w):v=w:=by
 cases h<;>cases e<;>rfl
def aZ(neg:Bool):U->U->Qb U
 |.d x,.d y=>(sV x).bind λv=>(sV y).bind λw=>if DY v w=ż then ž (.d<|.bool (if neg=ż then !decide (v=w)else decide (v=w)))else Ž
 |_,_=>Ž
def zZ:VO K QB (aZ Ż):=by
 intro x y a b u H Q ha hb e q;unfold aZ at e;split at e
 .have(v,ev,e):=bQ e
  have(w,ew,e):=bQ e;split at e
  .rename_i hs
   cases e;cases Ax ha ev;cases Ax hb ew;exact⟨hs,q _ _ (λ_ _ z=>z) (.bl _) Nw.data⟩
  .cases e
 .cases e
def nX:VO K Qz (aZ ż):=by
 intro x y a b u H Q ha hb e q;unfold aZ at e;split at e
 .have(v,ev,e):=bQ e
  have(w,ew,e):=bQ e;split at e
  .rename_i hs
   cases e;cases Ax ha ev;cases Ax hb ew;exact⟨hs,q _ _ (λ_ _ z=>z) (.bl _) Nw.data⟩
  .cases e
 .cases e
def qW:U->Bool
 |.d .none=>ż
 |_=>Ż
def dB(neg:Bool):U->U->Qb U
 |a,.d .none=>ž<|.d<|.bool (if neg=ż then !qW a else qW a)
 |_,_=>Ž
def LR{a:U}(h:Rp K H v a):decide (v=.aL)=qW a:=by
 cases a with
 |d x=>cases(show DF K H v x from h)<;>simp[qW]
 |l=>have(_,_,rfl,_):=h;simp[qW]
 |t=>have(_,_,rfl,_):=h;simp[qW]
 |k=>have(_,_,rfl,_):=h;simp[qW]
 |o=>have(_,_,_,_,_,rfl,_):=h;simp[qW]
def Bw:VO K (λx y H Q=>y=.aL/\Q (.bl<|decide<|x=.aL) H) (dB Ż):=by
 intro x y a b u H Q ha hb e q;unfold dB at e;split at e
 .cases e
  refine⟨by cases hb;rfl,?_⟩;rw[LR ha];exact q _ _ (λ_ _ z=>z) (.bl _) Nw.data
 .cases e
def xx:VO K (λx y H Q=>y=.aL/\Q (.bl (!decide (x=.aL))) H) (dB ż):=by
 intro x y a b u H Q ha hb e q;unfold dB at e;split at e
 .cases e
  refine⟨by cases hb;rfl,?_⟩;rw[LR ha];exact q _ _ (λ_ _ z=>z) (.bl _) Nw.data
 .cases e
def Ub{F:FD}{E:XK}(hO:An H)(hS:bE K H a (ns.map V.int))(h:∃outs,F [.d<|.list<|ns.map .int]=ž (.d<|.bool ż,outs)):mW K 1 F [.ref a] H (λv _=>v=.bl ż) E:=by
 have(outs,ho):=h;have pl:PL K H a (ns.map V.int):=by
  rcases hS with (h|⟨o,h⟩) |h
  .rcases hO a with z|⟨o,xs,z⟩
   .rw[z]at h;cases h
   .rw[z]at h;cases h
  .exact .inl ⟨o,h⟩
  .exact .inr h
 have dd:aN K H (ns.map V.int) (ns.map Ŕ):=by
  clear ho hS pl
  induction ns with
  |nil=>exact .nil
  |cons n ns ih=>exact .cons (.int n) ih
 refine⟨[.d<|.list<|ns.map .int],.d<|.bool ż,outs,rfl,⟨rfl,λi u e=>?_,λi j u w ei ej ou ow es=>?_⟩,ho,λv H' g p n=>DF.dw p⟩
 .have e':=gZ.mp e
  cases i with
  |zero=>cases e';exact⟨.ref a,rfl,DF.lst pl dd⟩
  |succ i=>simp at e'
 .have e':=gZ.mp ei
  cases i with
  |zero=>cases e';cases ou
  |succ i=>simp at e'
end
section
variable{ρ:En}{me ma mb mk mi md my mv:ME}{mA mK:MA}{mt mu:MT}{m1 m2:MS}{u:U}{x:D}{f:U->U->Qb U}
def bd{a:α}{f:α->Qb β}:(ž a).bind f=f a:=rfl
def Vm{u:U}:Ar.get ρ (.u u)=ž u:=rfl
def Z3:Ar.get ρ (.s i)=(ρ[i]?).join:=rfl
def znu{u:U}:(ž<|some u).join=ž u:=rfl
def Ua:zd i ρ=(ρ[i]?).join.bind λ_=>ž (.s i,ρ):=by
 unfold zd;cases ρ[i]? with
 |none=>rfl
 |some o=>cases o<;>rfl
def zCS:mC x ρ=ž (.u<|.d x,ρ):=rfl
def zAR:ah f ma mb ρ=(ma ρ).bind λp=>(mb p.2).bind λq=>(p.1.get q.2).bind λx=>(q.1.get q.2).bind λy=>(f x y).bind λu=>ž (.u u,q.2):=rfl
def zAS{f:U->Qb U}:bY f ma ρ=(ma ρ).bind λp=>(p.1.get p.2).bind λx=>(f x).bind λu=>ž (.u u,p.2):=rfl
def T9:zj ρ=ž ([],ρ):=rfl
def Xx:zb me mA ρ=(me ρ).bind λp=>(mA p.2).bind λq=>ž (p.1::q.1,q.2):=rfl
def zkZ:bW ρ []=ž []:=rfl
def NY{a:Ar}{as:Qa Ar}:bW ρ (a::as)=(a.get ρ).bind λu=>(bW ρ as).bind λus=>ž (u::us):=rfl
def ziZ:kj []=ž []:=rfl
def zhN{us:Qa U}:kj (.d x::us)=(kj us).bind λxs=>ž (x::xs):=rfl
def T8:aX mA ρ=(mA ρ).bind λp=>(bW p.2 p.1).bind λus=>(kj us).bind λds=>if ds.length<=ċ then ž (.u<|.d<|.tuple ds,p.2)else Ž:=rfl
def T7:cC mA ρ=(mA ρ).bind λp=>(bW p.2 p.1).bind λus=>(kj us).bind λds=>if ds.length<=ċ then ž (.u<|.l ds,p.2)else Ž:=rfl
def zAT{f:Qa U->Qb U}:aS f mA ρ=(mA ρ).bind λp=>(bW p.2 p.1).bind λus=>(f us).bind λu=>ž (.u u,p.2):=rfl
def T6{f:FD}:zF f mA ρ=(mA ρ).bind λp=>if gK p.2 p.1=ż then(bW p.2 p.1).bind λus=>(f us).bind λo=>ž (.u o.1,wb p.2 p.1 o.2)else Ž:=rfl
def zk0:gK ρ []=ż:=rfl
def Z2{as:Qa Ar}:gK ρ (.u u::as)=gK ρ as:=rfl
def UC{as:Qa Ar}:gK ρ (.s j::as)=((match ρ[j]? with|some (ž u)=>!u.own || !(as.any λa=>match a with |.s k=>decide (k=j) |_=>Ż) |_=>ż) && gK ρ as):=rfl
def zAU{as:Qa Ar}{o:U}{os:Qa U}:wb ρ (.s j::as) (o::os)=wb (ρ.set j<|some o) as os:=rfl
def zAV{as:Qa Ar}{o:U}{os:Qa U}:wb ρ (.u u::as) (o::os)=wb ρ as os:=rfl
def Z1:wb ρ [] []=ρ:=rfl
noncomputable def nG(m2:MS):Fl->Qb Fl
 |.nx au=>m2 au
 |f=>ž f
def bind_fn{o:Qb α}{f g:α->Qb β}(h:∀a,f a=g a):o.bind f=o.bind g:=by cases o with|none=>rfl|some a=>exact h a
def UB:zr m1 m2 ρ=(m1 ρ).bind (nG m2):=bind_fn λf=>by cases f<;>rfl
def znv:nG m2 (.nx ρ)=m2 ρ:=rfl
def znw:nG m2 (.rt u ρ)=ž (.rt u ρ):=rfl
noncomputable def U.dat:U->Qb U
 |.d x=>ž<|.d x
 |_=>Ž
def Vl:U.dat (.d x)=ž (.d x):=rfl
def Vk:put (.s i,ρ)=(ρ[i]?).join.bind λu=>u.dat.bind λd=>ž (d,ρ):=by
 unfold put;dsimp only;cases ρ[i]? with
 |none=>rfl
 |some o=>
  cases o with
  |none=>rfl
  |some u=>cases u<;>rfl
def Vj:put (.u u,ρ)=ž (u,ρ):=rfl
def UA:zJ i me ρ=(me ρ).bind λp=>(put p).bind λq=>ž (.nx<|q.2.set i<|some q.1):=rfl
def Uz:zW me ρ=(me ρ).bind λp=>(put p).bind λq=>ž (.rt q.1 q.2):=rfl
def Xw:qX pn i ρ=if i∈pn then Ž else(ρ[i]?).join.bind λu=>ž (.rt u<|ρ.set i Ž):=by
 unfold qX;split
 .rfl
 .cases ρ[i]? with
  |none=>rfl
  |some o=>cases o<;>rfl
def Xv:zS ρ=ž (.nx ρ):=rfl
def Xu:cT me ρ=(me ρ).bind λp=>ž (.nx p.2):=rfl
def Uy:aT mt m1 m2 ρ=(mt ρ).bind λp=>if p.1=ż then m1 p.2 else m2 p.2:=rfl
def zAW:jo mt ma mb ρ=(mt ρ).bind λp=>if p.1=ż then ma p.2 else mb p.2:=rfl
def U.ui:U->Qb Bool
 |.d (.bool b)=>ž b
 |_=>Ž
def Vi{b:Bool}:U.ui (.d<|.bool b)=ž b:=rfl
def zCT:mB me ρ=(me ρ).bind λp=>(p.1.get p.2).bind λu=>u.ui.bind λb=>ž (b,p.2):=by
 unfold mB;congr 1
 funext p
 congr 1
 funext u
 cases u with
 |d x=>cases x<;>rfl
 |l=>rfl
 |t=>rfl
 |k=>rfl
 |o=>rfl
def Ux:i4 mt mu ρ=(mt ρ).bind λp=>if p.1=ż then mu p.2 else ž (Ż,p.2):=rfl
def zAX:cZ mt mu ρ=(mt ρ).bind λp=>if p.1=ż then ž (ż,p.2)else mu p.2:=rfl
def Uw:gB mt ρ=(mt ρ).bind λp=>ž (!p.1,p.2):=rfl
def Xt:w4 ma mb ρ=(mB ma ρ).bind λp=>if p.1=ż then mb p.2 else ž (.u<|.d<|.bool Ż,p.2):=rfl
def Xs:AY ma ρ=(mB ma ρ).bind λp=>ž (.u<|.d<|.bool (!p.1),p.2):=rfl
def Uv:wF ma ρ=(ma ρ).bind λp=>(p.1.get p.2).bind λu=>u.tz.bind λb=>ž (b,p.2):=rfl
def znx{n:Int}:U.tz (.d<|.int n)=ž (n != 0):=rfl
def Uu:iT ρ=ž (ż,ρ):=rfl
noncomputable def U.lo:U->Qb (Qa D)
 |.l xs=>ž xs
 |_=>Ž
def zAY{xs:Qa D}:U.lo (.l xs)=ž xs:=rfl
def U.da:U->Qb D
 |.d x=>ž x
 |_=>Ž
def zAZ:U.da (.d x)=ž x:=rfl
def U.num:U->Qb Int
 |.d (.int i)=>ž i
 |_=>Ž
def Vh{n:Int}:U.num (.d<|.int n)=ž n:=rfl
def Ut:cU i me ρ=(ρ[i]?).join.bind λw=>w.lo.bind λ_=>(me ρ).bind λp=>(p.1.get p.2).bind λu=>u.da.bind λx=>(p.2[i]?).join.bind λw=>w.lo.bind λxs=>if xs.length < ċ then ž (.u<|.d .none,p.2.set i<|some<|.l<|xs++[x])else Ž:=by
 unfold cU;cases ρ[i]? with
 |none=>rfl
 |some o=>
  cases o with
  |none=>rfl
  |some w=>
   cases w with
   |l xs0=>
    show((me ρ).bind _)=((me ρ).bind _);congr 1
    funext p
    congr 1
    funext u
    cases u with
    |d x=>
     show(match U.d x,p.2[i]? with |.d x,ž (ž<|.l xs)=>_|_,_=>Ž)=((p.2[i]?).join.bind _);cases p.2[i]? with
     |none=>rfl
     |some o=>
      cases o with
      |none=>rfl
      |some w=>cases w<;>rfl
    |l=>rfl
    |t=>rfl
    |k=>rfl
    |o=>rfl
   |d=>rfl
   |t=>rfl
   |k=>rfl
   |o=>rfl
def Z0:iW i me mi ρ=(ρ[i]?).join.bind λ_=>(me ρ).bind λp=>(mi p.2).bind λq=>(p.1.get q.2).bind λu=>(q.1.get q.2).bind λw=>u.da.bind λx=>w.num.bind λk=>(q.2[i]?).join.bind λz=>z.lo.bind λxs=>(fA xs.length k).bind λj=>ž (.nx<|q.2.set i<|some<|.l<|xs.set j x):=by
 unfold iW;congr 1;funext _;congr 1;funext p;congr 1;funext q;congr 1;funext u;congr 1;funext w;cases u with
 |d x=>
  cases w with
  |d y=>
   cases y with
   |int k=>
    show(match U.d x,U.d<|.int k,q.2[i]? with |.d x,.d<|.int k,ž (ž<|.l xs)=>_|_,_,_=>Ž)=((q.2[i]?).join.bind _);cases q.2[i]? with
    |none=>rfl
    |some o=>
     cases o with
     |none=>rfl
     |some w=>cases w<;>rfl
   |_=>rfl
  |l=>rfl
  |t=>rfl
  |k=>rfl
  |o=>rfl
 |l=>rfl
 |t=>rfl
 |k=>rfl
 |o=>rfl
def Xr:jF md my ρ=(md ρ).bind λp=>(my p.2).bind λq=>(p.1.get q.2).bind λu=>(q.1.get q.2).bind λy=>(nH u y).bind λo=>o.bind λd=>ž (.u<|.d d,q.2):=rfl
noncomputable def CV(x:D):Ar×En->En
 | (.s i,ρ)=>ρ.set i<|some<|.d x
 | (.u _,ρ)=>ρ
def zA0:gR me ρ=(me ρ).bind λp=>(p.1.get p.2).bind λu=>u.fz.bind λx=>ž (.u<|.d x,CV x p):=by
 unfold gR;congr 1;funext p;congr 1;funext u;congr 1;funext x;have(a,aw):=p;cases a<;>rfl
def Vg:CV x (.s i,ρ)=ρ.set i (ž<|.d x):=rfl
def Ve:CV x (.u u,ρ)=ρ:=rfl
def zA1:U.fz (.d x)=ž x:=rfl
def zA2{xs:Qa D}:U.fz (.l xs)=ž (.list xs):=rfl
def zA3{g:U->Qb (Qa D)}:eT g me ρ=(me ρ).bind λp=>(p.1.get p.2).bind λu=>(g u).bind λds=>ž (ds,p.2):=rfl
def ZZ{xs:Qa D}:mq (.d<|.list xs)=ž xs:=rfl
def ZY{xs:Qa D}:iU (.d<|.tuple xs)=ž xs:=rfl
def Aw:Qa U->Qb (Qa D)
 |[.d<|.int j]=>if -(2^62)<=j/\j < 2^62 then ž (gD 0 j.toNat)else Ž
 |_=>Ž
def S1{n:Int}:Aw [.d<|.int n]=if -(2^62)<=n/\n < 2^62 then ž (gD 0 n.toNat)else Ž:=rfl
def Xq:lz mA ρ=(mA ρ).bind λp=>(bW p.2 p.1).bind λus=>(Aw us).bind λds=>ž (ds,p.2):=bind_fn λp=>bind_fn λus=>match us with
 |[]=>rfl
 |[.d<|.int j]=>by
  show(if _ then _ else _)=(if _ then _ else _:Qb (Qa D)).bind _;split<;>rfl
 |[.d .none]=>rfl
 |[.d<|.bool _]=>rfl
 |[.d<|.str _]=>rfl
 |[.d<|.list _]=>rfl
 |[.d<|.tuple _]=>rfl
 |[.d<|.dict _]=>rfl
 |[.l _]=>rfl
 |[.t _]=>rfl
 |[.k _]=>rfl
 |[.o _ _]=>rfl
 |.d x::b::us=>by cases x<;>rfl
 |.l x::b::us=>rfl
 |.t x::b::us=>rfl
 |.k x::b::us=>rfl
 |.o x y::b::us=>rfl
def S0{mI:MI}{mg:MG}:dN mI mg m1 ρ=(mI ρ).bind λp=>gu mg m1 p.1 p.2:=rfl
def zA4{mI:MI}{mg:MG}:gQ mI nt js mg mt me ρ=(mI ρ).bind λp=>(iK nt mg mt me p.1 (hX nt js p.2) []).bind λq=>ž (.u<|.l q.1,back js (q.2.drop nt) p.2):=rfl
def zA5{f:U->Qb Int->Qb Int->Qb U}{ml mh:MO}:tR f me ml mh ρ=(me ρ).bind λp=>(ml p.2).bind λl=>(mh l.2).bind λh=>(p.1.get h.2).bind λx=>(f x l.1 h.1).bind λu=>ž (.u u,h.2):=rfl
def Z5:uY ρ=ž (Ž,ρ):=rfl
def Xp:nR me ρ=(me ρ).bind λp=>(p.1.get p.2).bind λu=>u.num.bind λi=>ž (ž i,p.2):=bind_fn λp=>bind_fn λu=>by
 cases u with
 |d x=>cases x<;>rfl
 |l=>rfl
 |t=>rfl
 |k=>rfl
 |o=>rfl
def DP:Qa U->Qb (D×D)
 |[.d x,.d y]=>ž (x,y)
 |_=>Ž
def ZX{y:D}:DP [.d x,.d y]=ž (x,y):=rfl
def SY:nI i j mA ρ=(mA ρ).bind λp=>(bW p.2 p.1).bind λus=>(DP us).bind λz=>ž (.nx<|(p.2.set i<|some<|.d z.1).set j<|some<|.d z.2):=by
 refine bind_fn λp=>bind_fn λus=>?_
 match us with
 |[]=>rfl
 |[a]=>cases a<;>rfl
 |[.d x,.d y]=>rfl
 |[.d x,.l y]=>rfl
 |[.d x,.t y]=>rfl
 |[.d x,.k y]=>rfl
 |[.d x,.o _ _]=>rfl
 |[.l x,b]=>rfl
 |[.t x,b]=>rfl
 |[.k x,b]=>rfl
 |[.o _ _,b]=>rfl
 |a::b::c::us=>cases a<;>(try rfl)<;>(cases b<;>rfl)
def SX{mg:MG}:nJ me mg ρ=(me ρ).bind λp=>(p.1.get p.2).bind λu=>u.da.bind λd=>(mg d p.2).bind λau=>ž (.nx au):=by
 unfold nJ;congr 1;funext p;congr 1;funext u;cases u<;>rfl
def ZW:zy i x ρ=ž (ρ.set i<|some<|.d x):=rfl
def Xo{gs:Qa D->En->Qb En}{ds:Qa D}:fj n gs (.tuple ds) ρ=if ds.length=n then gs ds ρ else Ž:=rfl
def ZV{g:MG}{gs:Qa D->En->Qb En}{ds:Qa D}:zY g gs (x::ds) ρ=(g x ρ).bind λaw=>gs ds aw:=rfl
def Xn:gv [] ρ=ž ρ:=rfl
def uN{c:Int->Int->Prop}{g:Int->Int->D}{a:Int}(h:c a b):oN c g (.d<|.int a) (.d<|.int b)=ž (.d<|g a b):=by
 unfold oN;dsimp only;rw[a4b h]
def Vd{a:Int}:bO (.d<|.int a) (.d<|.int b)=ž (.d<|.int<|a+b):=rfl
def VP{a:Int}:kf (.d<|.int a) (.d<|.int b)=ž (.d<|.int<|a - b):=rfl
def Kb{a:Int}(h:uD a b):ip (.d<|.int a) (.d<|.int b)=ž (.d<|.int<|a * b):=uN h
def zA6{a:Int}(h:0 < b):jC (.d<|.int a) (.d<|.int b)=ž (.d<|.int<|a % b):=uN (c:=λ_ j=>0 < j) h
def xr{a:Int}(h:pq a b):jG (.d<|.int a) (.d<|.int b)=ž (.d<|.int<|a / b):=uN h
def Bv{a:Int}(h:uH a b):A0 (.d<|.int a) (.d<|.int b)=ž (.d<|.int<|a.fdiv b):=uN h
def zA7{a:Int}(h:As a b):AB (.d<|.int a) (.d<|.int b)=ž (.d<|.int<|a^b.toNat):=uN h
def zA8{a:Int}:lX (.d<|.int a) (.d<|.int b)=ž (.d<|.bool<|decide<|a < b):=rfl
def zA9{a:Int}:Dl (.d<|.int a) (.d<|.int b)=ž (.d<|.bool<|decide<|a<=b):=rfl
def zBa{a:Int}:qG (.d<|.int a) (.d<|.int b)=ž (.d<|.bool<|decide<|b < a):=rfl
def zBb{a:Int}:Dm (.d<|.int a) (.d<|.int b)=ž (.d<|.bool<|decide<|b<=a):=rfl
def VN{a:Int}:e8 (.d<|.int a)=ž (.d<|.int (-a)):=rfl
def VM{a:Int}:qO (.d<|.int a)=ž (.d<|.int (if a < 0 then -a else a)):=rfl
def ZU{b:Bool}:ph (.d<|.bool b)=ž (.d<|.int (if b then 1 else 0)):=rfl
def Y2{a:Int}:AZ [.d<|.int a,.d<|.int b]=ž (.d<|.int (if b > a then b else a)):=rfl
def zBc{f:U->Qb U}:f1 f [u]=f u:=rfl
def VL{xs:Qa D}:bN (.l xs)=ž (.d<|.int xs.length):=rfl
def VJ{xs:Qa D}:bN (.d<|.tuple xs)=ž (.d<|.int xs.length):=rfl
def VH{xs:Qa D}:bN (.d<|.list xs)=ž (.d<|.int xs.length):=rfl
def zny{xs:Qa D}:gx (.l xs)=ž (.d<|.tuple xs):=rfl
def VG{xs:Qa D}{k:Int}:zP (.l xs) (.d<|.int k)=(bf xs k).map .d:=rfl
def VF{xs:Qa D}{k:Int}:zP (.d<|.list xs) (.d<|.int k)=(bf xs k).map .d:=rfl
def VD{xs:Qa D}{k:Int}:zx (.d<|.tuple xs) (.d<|.int k)=(bf xs k).map .d:=rfl
def VB{xs:Qa D}{lo hi:Qb Int}:sC (.l xs) lo hi=ž (.l<|kZ xs lo hi):=rfl
def VA{xs:Qa D}{lo hi:Qb Int}:sC (.d<|.list xs) lo hi=ž (.l<|kZ xs lo hi):=rfl
def Vz{a:Int}:aZ Ż (.d<|.int a) (.d<|.int b)=ž (.d<|.bool<|decide<|a=b):=by
 show ž (U.d<|.bool<|decide<|V.int a=V.int b)=_;congr 3;exact decide_eq_decide.mpr ⟨λh=>by cases h;rfl,λh=>by rw[h]⟩
def Vy{a:Int}:aZ ż (.d<|.int a) (.d<|.int b)=ž (.d<|.bool (!decide (a=b))):=by
 show ž (U.d<|.bool (!decide (V.int a=V.int b)))=_;congr 4;exact decide_eq_decide.mpr ⟨λh=>by cases h;rfl,λh=>by rw[h]⟩
def Vx{a b:Str}:aZ Ż (.d<|.str a) (.d<|.str b)=ž (.d<|.bool<|decide<|a=b):=by
 show ž (U.d<|.bool<|decide<|V.str a=V.str b)=_;congr 3;exact decide_eq_decide.mpr ⟨λh=>by cases h;rfl,λh=>by rw[h]⟩
def Vw{a b:Str}:aZ ż (.d<|.str a) (.d<|.str b)=ž (.d<|.bool (!decide (a=b))):=by
 show ž (U.d<|.bool (!decide (V.str a=V.str b)))=_;congr 4;exact decide_eq_decide.mpr ⟨λh=>by cases h;rfl,λh=>by rw[h]⟩
def sA(pn:Qa Nat)(us:Qa U):Fl->Qb (U×Qa U)
 |.rt u ρ=>(iD pn ρ 0 us).bind λos=>ž (u,os)
 |.nx ρ=>(iD pn ρ 0 us).bind λos=>ž (.d .none,os)
 |_=>Ž
def SW{us:Qa U}:bM n pn m1 us=(m1<|sm us++Đ (n - us.length) Ž).bind (sA pn us):=by
 exact bind_fn λf=>by cases f<;>rfl
def znz{us:Qa U}:sA pn us (.rt u ρ)=(iD pn ρ 0 us).bind λos=>ž (u,os):=rfl
def zk1:iD pn ρ n []=ž []:=rfl
def zi1{us:Qa U}:iD pn ρ n (u::us)=(if n∈pn then(ρ[n]?).join.bind λo=>if o.own=ż/\u.own=Ż then Ž else ž o else if u.own=ż then Ž else ž u).bind λo=>(iD pn ρ (n+1) us).bind λos=>ž (o::os):=rfl
def Vv:U.own (.d x)=Ż:=rfl
def Vu{xs:Qa D}:U.own (.l xs)=ż:=rfl
def Y1:sm []=[]:=rfl
def znA{us:Qa U}:sm (u::us)=ž u::sm us:=rfl
def zBd{a:α}{xs:Qa α}:bf (a::xs) 0=ž a:=by
 unfold bf fA;rw[a4b (by decide),a4b (by simp only[qv];omega)];rfl
def zBe{a b:α}{xs:Qa α}:bf (a::b::xs) 1=ž b:=by
 unfold bf fA;rw[a4b (by decide),a4b (by simp only[qv];omega)];rfl
def zBf{a b c:α}{xs:Qa α}:bf (a::b::c::xs) 2=ž c:=by
 unfold bf fA;rw[a4b (by decide),a4b (by simp only[qv];omega)];rfl
def zBg:fA (n+1) 0=ž 0:=by
 unfold fA;rw[a4b (by decide),a4b (by omega)];rfl
def zBh:fA (n+1+1) 1=ž 1:=by
 unfold fA;rw[a4b (by decide),a4b (by omega)];rfl
def Ed{a:Int}(h:b.natAbs < 18446744073709551616):ip (.d<|.int a) (.d<|.int b)=ž (.d<|.int<|a * b):=Kb (.inr ⟨by omega,by omega⟩)
def zBi{a:Int}(h:a.natAbs < 18446744073709551616):ip (.d<|.int a) (.d<|.int b)=ž (.d<|.int<|a * b):=Kb (.inl ⟨by omega,by omega⟩)
def zBj{a:Int}(h:0 < b):jC (.d<|.int a) (.d<|.int b)=ž (.d<|.int<|a % b):=zA6 h
def zBk{a:Int}(h:0 < b)(h2:b<=340282366920938463463374607431768211456):jG (.d<|.int a) (.d<|.int b)=ž (.d<|.int<|a / b):=xr (W4 h (by omega))
theorem zBl{a:Int}(h:0<=b)(h2:b<=1000000)(h3:a.natAbs < 18446744073709551616):AB (.d<|.int a) (.d<|.int b)=ž (.d<|.int<|a^b.toNat):=zA7 ⟨h,h2,by omega⟩
theorem zl:ċ=16777216:=rfl
theorem znB:reset nt ρ=Đ nt Ž++ρ.drop nt:=rfl
theorem Vt:hX nt js ρ=Đ nt Ž++js.map λj=>ρ.getD j Ž:=rfl
noncomputable def oF(j:Nat):Qa Ar->Bool
 |[]=>ż
 |.u _::as=>oF j as
 |.s k::as=>!decide (k=j) && oF j as
theorem E9:∀{as:Qa Ar},oF j as=!(as.any λa=>match a with |.s k=>decide (k=j) |_=>Ż)
 |[]=>rfl
 |.u _::as=>by rw[œ];exact E9 (as:=as)
 |.s k::as=>by
  unfold oF;rw[œ,E9 (as:=as),Bool.not_or]
def vU:Qb U->Bool
 |some u=>!u.own
 |none=>ż
theorem Vs:vU (ž<|.d x)=ż:=rfl
theorem Vr{xs:Qa D}:vU (ž<|.l xs)=Ż:=rfl
theorem znC:oF j []=ż:=rfl
theorem Vq{as:Qa Ar}:oF j (.u u::as)=oF j as:=rfl
theorem Vp{k:Nat}{as:Qa Ar}:oF j (.s k::as)=(!decide (k=j) && oF j as):=rfl
theorem znD{as:Qa Ar}:gK ρ (.s j::as)=((oF j as || vU (ρ[j]?).join) && gK ρ as):=by
 rw[UC,E9];congr 1;cases ρ[j]? with
 |none=>simp[vU]
 |some o=>
  cases o with
  |none=>simp[vU]
  |some u=>simp[vU,Bool.or_comm]
theorem Y0{us:Qa (Qb U)}:back (j::js) (ž u::us) ρ=back js us (ρ.set j<|some u):=rfl
theorem YZ{us:Qa (Qb U)}:back [] us ρ=ρ:=by cases us<;>rfl
end
structure XT (K:qc) (tab:Qa (Str×Qa Str)) (fl:Qa Str):Prop where
 cl:∀n ups C,tab.lookup n=ž ups->XN K n C->XI K C/\∀f∈fl,gy K C f
 is:∀n ups C,tab.lookup n=ž ups->XN K n C->∀c C',(tab.lookup c).isSome=ż->XN K c C'->Ņ K (.ref C) (.ref C')=ž (decide (c=n) || ups.contains c)
 m9:∀n ups C,tab.lookup n=ž ups->XN K n C->Ņ K (.ref C) (.type "ValueError")=ž (ups.contains ("ValueError":Str))
section
noncomputable def pA:U->U->Qb U
 |.d (.str i),.d (.str j)=>if i.length+j.length<=ċ then ž (.d<|.str<|i++j)else Ž
 |_,_=>Ž
theorem BJ:VO K (λx y H Q=>∃i j,x=.str i/\y=.str j/\i.length+j.length<=ċ/\Q (.str<|i++j) H) pA:=by
 intro x y a b u H Q ha hb e q;unfold pA at e;split at e
 .split at e
  .rename_i i j hc
   cases e;exact⟨i,j,DF.str_inv ha,DF.str_inv hb,hc,q _ _ (eD.refl H) (DF.str _) Nw.data⟩
  .cases e
 .cases e
def so:U->U->Qb U
 |.d (.str z),.d (.int i)=>if z.length<=ċ then(bf z.cps.toList i).map λc=>.d (.str ⟨#[c]⟩)else Ž
 |_,_=>Ž
theorem E8:VO K Ql so:=by
 intro x y a b u H Q ha hb e q;unfold so at e;split at e
 .split at e
  .rename_i z i hc
   have(c,ec,rfl):=qt.mp e;exact⟨z,i,c,DF.str_inv ha,DF.int_inv hb,hc,ec,q _ _ (eD.refl H) (DF.str _) Nw.data⟩
  .cases e
 .cases e
def CT(ty:U->Bool)(f:U->U->Qb U)(mo ma:ME):ME:=λρ=>(mo ρ).bind λp=>(p.1.get p.2).bind λx0=>if ty x0=ż then(ma p.2).bind λq=>(p.1.get q.2).bind λx=>(q.1.get q.2).bind λy=>(f x y).bind λu=>ž (.u u,q.2)else Ž
theorem PK{r:V->Qa V->Hp->VK->Prop}{ty:U->Bool}{f:U->U->Qb U}{to:TE}{mo ma:ME}(ht:∀(x:V) (a:U) (H:Hp),Rp K H x a->ty a=ż->xX K T x H)(h:VO K (λx y H Q=>r x [y] H Q) f)
  (ho:VE K to mo) (ha:VE K ta ma):VE K (CH K T r to<|kl ta kg) (CT ty f mo ma):=by
 intro ρ σ H a au Q rs e q;obtain⟨⟨a1,aw⟩,e1,e⟩:=bQ e;have(x0,ex0,e):=bQ e;split at e
 rotate_left
 .cases e
 rename_i tW;obtain⟨⟨b1,aD⟩,e2,e⟩:=bQ e;have(x,ex,e):=bQ e;have(y,ey,e):=bQ e;have(u,eu,e):=bQ e;cases e;refine ho ρ σ H a1 aw _ rs e1 λv1 H1 g1 k1=>⟨ht _ _ _ (k1.now rs g1 ex0) tW,ha aw σ H1 b1 aD _ g1.rs e2 λv2 H2 g2 k2=>?_⟩;refine h _ _ x y u H2 _ (k1.later rs g1 g2 ex) (k2.now g1.rs g2 ey) eu λv H3 s p n=>?_;exact q v H3 ((g1.trans g2).trans<|Go.grow g2.rs s) ⟨p,n.mono (g1.trans g2).dm⟩
noncomputable def tyL:U->Bool
 |.l _=>ż
 |.d (.list _)=>ż
 |_=>Ż
def xY:U->Bool
 |.d (.str _)=>ż
 |_=>Ż
theorem KZ(x:V)(a:U)(H:Hp)(h:Rp K H x a)(e:xY a=ż):xX K "str" x H:=by
 unfold xY at e;split at e
 .cases DF.str_inv h;rfl
 .cases e
def wz:D->Qb Str
 |.str x=>ž x
 |_=>Ž
theorem Nk{us:Qa V}{ds:Qa D}{ys:Qa Str}(h:aN K H us ds):ds.mapM wz=ž ys->us=ys.map V.str:=by
 refine h.ind (P:=λus ds=>∀ys,ds.mapM wz=ž ys->us=ys.map V.str) (λys e=>?_) (λ{v d vs ds} h t ih ys e=>?_) ys
 .cases e;rfl
 .rw[ŗ]at e
  have(y,e1,e):=bQ e;have(jQ,e2,e):=bQ e;cases e;cases d with
  |str x=>cases e1;cases DF.str_inv h;rw[ih _ e2];rfl
  |_=>cases e1
def uM:U->U->Qb U
 |.d (.str sep),.l ds=>(ds.mapM wz).bind λys=>if(ys.map (·.length)).sum+ys.length * sep.length<=16777216 then ž (.d<|.str<|ζ sep ys)else Ž
 |.d (.str sep),.d (.list ds)=>(ds.mapM wz).bind λys=>if(ys.map (·.length)).sum+ys.length * sep.length<=16777216 then ž (.d<|.str<|ζ sep ys)else Ž
 |_,_=>Ž
theorem Mc:VO K (λx y H Q=>J1 K x [y] H Q) uM:=by
 intro x y a b u H Q ha hb e q;unfold uM at e;split at e
 .have(ys,ey,e):=bQ e
  split at e
  .rename_i hc
   cases e;have(l,us,rfl,h1,h2):=hb;cases Nk h2 ey;exact⟨_,l,ys,DF.str_inv ha,rfl,bE.of h1,hc,q _ _ (eD.refl H) (DF.str _) Nw.data⟩
  .cases e
 .have(ys,ey,e):=bQ e
  split at e
  .rename_i hc
   cases e;have(l,us,rfl,h1,h2):=DF.lst_inv hb;cases Nk h2 ey;exact⟨_,l,ys,DF.str_inv ha,rfl,h1.sq,hc,q _ _ (eD.refl H) (DF.str _) Nw.data⟩
  .cases e
 .cases e
noncomputable def vS:D->Qb V
 |.none=>ž .aL
 |.bool b=>ž<|.bl b
 |.int i=>ž<|.int i
 |.str x=>ž<|.str x
 |_=>Ž
theorem Gc{w:V}{d:D}(h:DF K H v d)(e:vS d=ž w):v=w/\lA w=ż:=by
 cases d with
 |none=>cases e;cases h;exact⟨rfl,rfl⟩
 |bool b=>cases e;cases DF.dw h;exact⟨rfl,rfl⟩
 |int i=>cases e;cases DF.int_inv h;exact⟨rfl,rfl⟩
 |str x=>cases e;cases DF.str_inv h;exact⟨rfl,rfl⟩
 |_=>cases e
theorem Mb:∀{us:Qa V} {ds:Qa D} {ws:Qa V},aN K H us ds->ds.mapM vS=ž ws->us=ws/\ws.all lA=ż
 |_,_,ws,.nil,e=>by cases e;exact⟨rfl,rfl⟩
 |_,_,ws,.cons h t,e=>by
  rw[ŗ]at e;have(y,e1,e):=bQ e;have(jQ,e2,e):=bQ e;cases e;have(rfl,f1):=Gc h e1;have(rfl,f2):=Mb t e2;exact⟨rfl,by rw[ϑ,f1,f2];rfl⟩
end
def Qo(K:qc)(C:Qg):Data->Bool
 |.cls cd=>cd.mro.head?==ž (.ref C) && !cd.hasDel && cd.hasDict && ϱ K xV cd.mro.tail
 |_=>Ż
def CB(K:qc)(C:Qg)(o:Obj):Bool:=o.cls==.type "type" && Qo K C o.data && o.slots.toList.length==6 && o.slots.toList[4]?==ž (ž<|.builtin "ValueError.__new__")
def DO(K:qc)(C:Qg):Bool:=(K.lookup C).any (CB K C)
def Av(K:qc)(C:Qg):Bool:=DO K C && ė K (.ref C) "__getattribute__"==ž (ž<|.builtin "BaseException.__getattribute__") && ė K (.ref C) "__getattr__"==ž Ž &&
 ė K (.ref C) "__setattr__"==ž (ž<|.builtin "object.__setattr__") && ė K (.ref C) "__class__"==ž (ž<|.builtin "object.__class__") &&
 a0A K (.builtin "object.__class__") "__get__"==ž (ž<|.builtin "getset_descriptor.__get__") && a1e K (.builtin "object.__class__")==ž ż && a1K K C (.type "object")==ž ż
def XO(K:qc)(C:Qg)(o:Obj):Prop:=∃nm qn N bs bm sn sub ab col dd k0 k1 k2 k3 k5,o=(excClassObj nm qn C N bs bm ż sn sub ab col dd k0 k1 k2 k3 k5 "ValueError.__new__")/\ϱ K xV bm=ż
theorem uL{l:Qa α}(h:l.length=n+1):∃a t,l=a::t/\t.length=n:=by
 cases l with
 |nil=>cases h
 |cons a t=>exact⟨a,t,rfl,a0w h⟩
theorem zBn{l:Qa α}{x:α}(h:l.length=6)(e:l[4]?=ž x):∃k0 k1 k2 k3 k5,l=[k0,k1,k2,k3,x,k5]:=by
 have(k0,l1,rfl,h1):=uL h;have(k1,l2,rfl,h2):=uL h1;have(k2,l3,rfl,h3):=uL h2;have(k3,l4,rfl,h4):=uL h3;have(k4,l5,rfl,h5):=uL h4;have(k5,l6,rfl,h6):=uL h5;cases ä.mp h6;cases e;exact⟨k0,k1,k2,k3,k5,rfl⟩
theorem zBo{C:Qg}{c:Qc}{dd:Qb Qg}{cd:ClassData}{l:Array (Qb Qc)}(q1:c=.type "type")(q2:Qo K C (.cls cd)=ż)(q3:l.toList.length=6)(q4:l.toList[4]?=ž (ž<|.builtin "ValueError.__new__")):XO K C ⟨c,dd,.cls cd,l⟩:=by
 have q2:(cd.mro.head?==ž (.ref C) && !cd.hasDel && cd.hasDict && ϱ K xV cd.mro.tail)=ż:=q2;simp only[ġ,beq_iff_eq,Bool.not_eq_true']at q2;obtain⟨⟨⟨hm,IL⟩,yL⟩,ht⟩:=q2;have(nm,bs,mro,ns,qn,hd,sn,sub,ab,col,del):=cd;cases mro with
 |nil=>cases hm
 |cons v bm=>
  cases hm;cases q1;cases IL;cases yL;have(k0,k1,k2,k3,k5,e):=zBn q3 q4;obtain⟨l⟩:=l;cases e;exact⟨nm,qn,ns,bs,bm,sn,sub,ab,col,dd,k0,k1,k2,k3,k5,rfl,ht⟩
theorem zBp{C:Qg}{o:Obj}(q:CB K C o=ż):XO K C o:=by
 unfold CB at q;simp only[ġ,beq_iff_eq]at q;obtain⟨⟨⟨q1,q2⟩,q3⟩,q4⟩:=q;have(c,dd,dt,l):=o;cases dt with
 |cls cd=>exact zBo q1 q2 q3 q4
 |_=>cases q2
theorem zBq{C:Qg}(q:DO K C=ż):∃nm qn N bs bm sn sub ab col dd k0 k1 k2 k3 k5,K.lookup C=ž (excClassObj nm qn C N bs bm ż sn sub ab col dd k0 k1 k2 k3 k5 "ValueError.__new__")/\ϱ K xV bm=ż:=by
 unfold DO at q;cases ho:K.lookup C with
 |none=>rw[ho]at q;cases q
 |some o=>
  rw[ho]at q;have(nm,qn,N,bs,bm,sn,sub,ab,col,dd,k0,k1,k2,k3,k5,e,t):=zBp (show CB K C o=ż from q);exact⟨nm,qn,N,bs,bm,sn,sub,ab,col,dd,k0,k1,k2,k3,k5,by rw[e],t⟩
theorem zBr{C:Qg}(q:Av K C=ż):XI K C:=by
 unfold Av at q;simp only[ġ,beq_iff_eq]at q;obtain⟨⟨⟨⟨⟨⟨⟨h1,h2⟩,h3⟩,h4⟩,h5⟩,h6⟩,h7⟩,h8⟩:=q;exact⟨⟨zBq h1,h2,h3,h4⟩,h5,h6,h7,h8⟩
noncomputable def wy(K:qc)(n:Str):Qb Qg:=match Ģ K Ě n with
 |some (ž<|.ref C)=>ž C
 |_=>Ž
theorem Ma{n:Str}{C:Qg}(h:XN K n C):wy K n=ž C:=by
 unfold wy;rw[show Ģ K Ě n=ž (ž<|.ref C) from h]
def DN(K:qc)(tab:Qa (Str×Qa Str))(fl:Qa Str):Bool:=tab.all λp=>match wy K p.1 with
 |some C=>Av K C && fl.all (λf=>ė K (.ref C) f==ž Ž) && Ņ K (.ref C) (.type "ValueError")==ž (p.2.contains ("ValueError":Str)) &&
   tab.all λp'=>match wy K p'.1 with
    |some C'=>Ņ K (.ref C) (.ref C')==ž (decide (p'.1=p.1) || p.2.contains p'.1)
    |none=>Ż
 |none=>Ż
theorem GX:∀{l:Qa (Str×β)} {n:Str} {b:β},l.lookup n=ž b->(n,b)∈l
 |[],_,_,e=>by cases e
 | (m,c)::l,n,b,e=>by
  rw[Ę]at e;cases q:(n==m)with
  |true=>
   rw[q]at e;cases e;rw[beq_iff_eq.mp q];exact qq
  |false=>
   rw[q]at e;exact qp _<|GX e
theorem zBs{fl:Qa Str}(h:DN K tab fl=ż):XT K tab fl:=by
 unfold DN at h;have one:∀n ups C,tab.lookup n=ž ups->XN K n C->(Av K C && fl.all (λf=>ė K (.ref C) f==ž Ž) && Ņ K (.ref C) (.type "ValueError")==ž (ups.contains ("ValueError":Str)) &&
   tab.all λp'=>match wy K p'.1 with
    |some C'=>Ņ K (.ref C) (.ref C')==ž (decide (p'.1=n) || ups.contains p'.1)
    |none=>Ż)=ż:=λn ups C hn xn=>by
  have z:=List.all_eq_true.mp h (n,ups) (GX hn);dsimp only at z;rw[Ma xn]at z;exact z
 refine⟨λn ups C hn xn=>?_,λn ups C hn xn c C' hc xc=>?_,λn ups C hn xn=>?_⟩
 .have z:=one n ups C hn xn
  simp only[ġ]at z;refine⟨zBr z.1.1.1,λf hf=>?_⟩;exact beq_iff_eq.mp<|List.all_eq_true.mp z.1.1.2 f hf
 .have z:=one n ups C hn xn
  simp only[ġ]at z;have(Hi,hu'):=Option.isSome_iff_exists.mp hc;have y:=List.all_eq_true.mp z.2 (c,Hi) (GX hu');dsimp only at y;rw[Ma xc]at y;exact beq_iff_eq.mp y
 .have z:=one n ups C hn xn
  simp only[ġ]at z;exact beq_iff_eq.mp z.1.2
abbrev RX(α:Type):=(α×En) ⊕ (D×En)
abbrev MX:=En->Qb (RX Ar)
abbrev MXA:=En->Qb (RX<|Qa Ar)
section
variable{EX:gn}{ρ au:En}{A:Qg->Prop}
def mXR(n f:Str)(ma:MA):En->Qb (D×En):=λρ=>(ma ρ).bind λp=>(bW p.2 p.1).bind λus=>(kj us).bind λds=>match ds with
 |[x]=>ž (.dict [(.none,.str n),(.str f,x)],p.2)
 |_=>Ž
def under(tab:Qa (Str×Qa Str))(c:Str):D->Bool
 |.dict ((.none,.str n)::_)=>match tab.lookup n with|some ups=>ups.contains c|none=>Ż
 |_=>Ż
end
abbrev FX:=Qa U->Qb ((U×Qa U) ⊕ (D×Qa U))
def spX(K:qc)(n:Nat)(f:FX):Sp:=λvs H Q E=>∃us r,us.length=n/\Rs K (sm us) (d0 vs) H/\f us=ž r/\match r with
 |.inl o=>∀v H',Go K (sm us) (d0 vs) H (sm o.2) H'->Rp K H' v o.1->Nw H v o.1->Q v H'
 |.inr o=>∀a H',Go K (sm us) (d0 vs) H (sm o.2) H'->H a=Ž->P7 K H' a o.1->E (.ref a) Ž H'
structure Jq (P:Qe) (w:Qh) (K:qc) (mg:Str->Qb Qc) (base:Ĭ) (x:Str) (k:Nat) (ps:Qa Str) (sp:Sp):Prop where
 ex:∃(f:Qg) (fd:Š),cI P w K mg base (CXv P w K) k f fd ps sp/\mD K fd ps []/\ĸ K (.ref f)=ż/\mg x=ž (.ref f)
noncomputable def tyD:D->Qb String
 |.none=>ž "NoneType"
 |.bool _=>ž "bool"
 |.int _=>ž "int"
 |.str _=>ž "str"
 |.tuple _=>ž "tuple"
 |_=>Ž
def Qu:U->Qb String
 |.d x=>tyD x
 |.l _=>ž "list"
 |_=>Ž
noncomputable def m9(t T:String):Bool:=t==T || (t == "bool" && T == "int")
noncomputable def EJ:Qa String:=["NoneType", "bool", "int", "str", "tuple", "list"]
theorem Xm(K:qc):∀t∈EJ,∀T∈["int", "bool", "str", "tuple", "list"],Ņ K (.type t) (.type T)=ž (m9 t T):=by
 have hm:∀T∈["int", "bool", "str", "tuple", "list"],PySem.W.kitMeta T=ż:=by decide +kernel
 have hs:∀t∈EJ,∀T∈["int", "bool", "str", "tuple", "list"],(PySem.fastBuiltinMro t).map (·.contains (a1H T))=ž (m9 t T):=by decide +kernel
 intro t ht T hT;unfold Ņ;split
 .rename_i q
  have e:t=T:=Value.type.inj (beq_iff_eq.mp q);subst e;unfold m9;simp
 .unfold PySem.W.kitCls PySem.W.subIn
  simp only[hm T hT,if_true];exact hs t ht T hT
def i7(T:String)(u:U):Qb U:=(Qu u).bind λt=>if t∈EJ/\T∈["int", "bool", "str", "tuple", "list"]then ž (.d<|.bool<|m9 t T)else Ž
section
theorem SV{u:U}{t:String}(h:Rp K H v u)(e:Qu u=ž t):dJ K H v (.type t):=by
 cases u with
 |d x=>
  cases x with
  |none=>cases e;cases h;exact .aL
  |bool b=>cases e;cases DF.dw h;exact .bl _
  |int i=>cases e;cases DF.int_inv h;exact .int _
  |str x=>cases e;cases DF.str_inv h;exact .str _
  |tuple ds=>cases e;have(a,ys,rfl,h1,_):=DF.aV h;exact .tup h1
  |list ds=>cases e
  |dict ds=>cases e
 |l xs=>cases e;have(a,us,rfl,h1,_):=h;exact .lst h1
 |t ao=>cases e
 |k ao=>cases e
 |o=>cases e
theorem nQ{me:ME}(h:VE K te me):VE K (pS (D6 K)<|kl te<|kl (tC<|.ty T) kg) (bY (i7 T) me):=by
 intro ρ σ H a au Q rs e q;obtain⟨⟨a1,aw⟩,e1,e⟩:=bQ e;have(x,ex,e):=bQ e;have(u,eu,e):=bQ e;cases e;refine h ρ σ H a1 _ _ rs e1 λv1 H1 g1 k1=>?_;have p:=k1.now rs g1 ex;unfold i7 at eu;have(t,et,eu):=bQ eu;split at eu
 .rename_i hc
  cases eu;exact⟨v1,.type t,T,_,rfl,SV p et,Xm K t hc.1 T hc.2,q _ _ g1 ⟨DF.bl _,Nw.data⟩⟩
 .cases eu
def wx(x:D)(ds:Qa D):Qb Bool:=(vS x).bind λw=>(ds.mapM vS).bind λws=>ž<|yt w ws
def nC(neg:Bool)(a b:U):Qb U:=match a with
 |.d x=>b.items.bind λds=>(wx x ds).bind λr=>ž<|.d<|.bool (if neg=ż then !r else r)
 |_=>Ž
theorem A5(neg:Bool):VO K (yf K neg) (nC neg):=by
 intro x y a b u H Q ha hb e q;cases a with
 |d d=>
  have(ds,e1,e):=bQ (show b.items.bind _=ž u from e);have(r,e2,e):=bQ e;have(w,e3,e2):=bQ e2;have(ws,e4,e2):=bQ e2;cases e2;cases e;have(p,ys,rfl,sq,df):=hb.items e1;have(rfl,f1):=Gc ha e3;have(rfl,f2):=Mb df e4;exact⟨p,_,rfl,sq,f1,f2,q _ _ (eD.refl H) (by cases neg<;>exact DF.bl _) Nw.data⟩
 |_=>cases e
noncomputable def blD:D->Qb Bool
 |.bool b=>ž b
 |_=>Ž
def Bu(f f':U->U->Qb U)(ma mb mc:ME):ME:=λρ=>(ma ρ).bind λp=>(mb p.2).bind λq=>(p.1.get q.2).bind λx=>(q.1.get q.2).bind λy=>(f x y).bind λr=>match r with
 |.d (.bool ż)=>(mc q.2).bind λs=>(q.1.get s.2).bind λy'=>(s.1.get s.2).bind λz=>(f' y' z).bind λu=>ž (.u u,s.2)
 |.d (.bool Ż)=>ž (.u<|.d<|.bool Ż,q.2)
 |_=>Ž
theorem Xl{r r':R2}{f f':U->U->Qb U}{tc:TE}{ma mb mc:ME}(h:VO K r f)(h':VO K r' f')(ha:VE K ta ma)(hb:VE K tb mb)(hc:VE K tc mc):VE K (FA r r' ta tb tc) (Bu f f' ma mb mc):=by
 intro ρ σ H a au Q rs e q;obtain⟨⟨a1,aw⟩,e1,e⟩:=bQ e;obtain⟨⟨b1,aD⟩,e2,e⟩:=bQ e;have(x,ex,e):=bQ e;have(y,ey,e):=bQ e;have(rr,er,e):=bQ e;refine ha ρ σ H a1 aw _ rs e1 λv1 H1 g1 k1=>hb aw σ H1 b1 aD _ g1.rs e2 λv2 H2 g2 k2=>?_;refine h _ _ x y rr H2 _ (k1.later rs g1 g2 ex) (k2.now g1.rs g2 ey) er λv H3 s p n=>?_;have g3:=Go.grow g2.rs s;split at e
 .cases DF.dw p
  refine⟨ż,rfl,?_⟩;rw[a4b rfl];obtain⟨⟨c1,iB⟩,e3,e⟩:=bQ e;have(y',ey',e):=bQ e;have(z,ez,e):=bQ e;have(u,eu,e):=bQ e;cases e;refine hc aD σ H3 c1 _ _ g3.rs e3 λv3 H4 g4 k4=>?_;refine h' _ _ y' z u H4 _ (k2.later g1.rs g2 (g3.trans g4) ey') (k4.now g3.rs g4 ez) eu λw H5 s5 p5 n5=>?_;exact q w H5 ((((g1.trans g2).trans g3).trans g4).trans<|Go.grow g4.rs s5) ⟨p5,n5.mono λb hb=>(g1.trans g2).dm b<|g3.dm b<|g4.dm b hb⟩
 .cases DF.dw p
  cases e;refine⟨Ż,rfl,?_⟩;rw[a4c (by decide)];exact q _ H3 ((g1.trans g2).trans g3) ⟨DF.bl _,Nw.data⟩
 .cases e
def xh:U->U->Qb U
 |.d (.str z),.d (.int n)=>if 0<=n/\n<=1 then ž (.d<|.str<|uy z n)else Ž
 |_,_=>Ž
theorem Xk:VO K (λx y H Q=>∃z n,x=.str z/\y=.int n/\0<=n/\n<=1/\Q (.str<|uy z n) H) xh:=by
 intro x y a b u H Q ha hb e q;unfold xh at e;split at e
 .split at e
  .rename_i z n hc
   cases e;exact⟨z,n,DF.str_inv ha,DF.int_inv hb,hc.1,hc.2,q _ _ (eD.refl H) (DF.str _) Nw.data⟩
  .cases e
 .cases e
end
section
variable{X:Cx}
def wd(K:qc)(g:Qg)(ws:Qa Str):Prop:=∃(o:Obj) (aq:Array Qc) (n:Nat),K.lookup g=ž o/\o.cls=.type "tuple"/\o.data=.seq aq n/\aq.size<=ċ/\zV (ws.map V.str) aq.toList
theorem wd.sq{g:Qg}{ws:Qa Str}(h:wd K g ws):cH K H g (ws.map V.str):=.inr h
def PJ(K:qc)(ws:Qa Str):R2:=λx y H Q=>∃g,y=.ref g/\wd K g ws/\((lA x=ż/\Q (.bl<|yt x<|ws.map V.str) H)\/∃ds,DV K H x (.tuple ds)/\ń (.tuple ds)=ż/\Q (.bl Ż) H)
theorem SU(K:qc)(hK:X.K=K){k:Nat}(hr:aK k X.A)(ws:Qa Str)(hws:∀z∈ws,(Ĩ z).canLay0=ż):cp X (ĩ .In) (PJ K ws):=by
 subst hK;intro pins s σ H x y v u Q I rx ry h;have(g,rfl,gw,h):=h;rcases h with⟨fx,q⟩|⟨ds,dv,sh,q⟩
 .refine NF pins s σ H x (.ref g) v u Q I rx ry ⟨g,_,rfl,.inr gw.sq,fx,?_,q⟩
  simp[lA]
 .cases ry
  have(aq,r,pl,hz):=I.tuple gw.sq;have(as,ra):=DV.reads I dv rx;refine a3A (λ_=>Ż) pl (λw hw=>?_) ⟨.bl _,H,I,rfl,?_⟩
  .have hw':w∈aq:=by simpa using hw
   have(j,hj,ej):=a0x hw';have hl:=r.length;have hj2:j < ws.length:=by rw[ĉ]at hl;omega
   have(u',e1,e2):=r.get (i:=j) (x:=.str (ws[j]'(by rw[ĉ]at hl;omega))) (by rw[Č,qo (by rw[ĉ]at hl;omega)];rfl);rw[qo hj,ej]at e1;cases e1;have(t,rfl):=e2;have z:=SeqAt.eqAt_reads (.str ws[j]) (.tuple ds) X.A.in1 s (.str ws[j] t) v [] as (Reads.str ..) ra (hws _<|ó _) (ë sh) (by
    have h1:=hr.units;have h2:min (Ĩ ws[j]).depth (ϙ ds).depth<=(Ĩ ws[j]).depth:=a1M _ _;have h3:(Ĩ ws[j]).depth=0:=by simp[Ϯ]
    have h4:X.A.in1.units<=X.A.units+1:=by simp[Around.in1]
    omega)
   rw[show ϴ (.str ws[j]) (.tuple ds)=Ż by simp[ϴ]]at z;exact z
  .rw[show(aq.toArray.any λ_=>Ż)=Ż by simp];exact q
def uq(ws:Qa Str):U->Qb U
 |.d (.tuple ds)=>if ń (.tuple ds)=ż then ž (.d<|.bool Ż)else Ž
 |.d x=>(vS x).bind λw=>ž<|.d<|.bool<|yt w<|ws.map V.str
 |_=>Ž
theorem zBu{g:Qg}{ws:Qa Str}{me:ME}(gw:wd K g ws)(h:VE K te me):VE K (lM (PJ K ws) te<|tC<|.ref g) (bY (uq ws) me):=by
 intro ρ σ H a au Q rs e q;obtain⟨⟨a1,aw⟩,e1,e⟩:=bQ e;have(x,ex,e):=bQ e;have(u,eu,e):=bQ e;cases e;refine h ρ σ H a1 _ _ rs e1 λv1 H1 g1 k1=>?_;have p:=k1.now rs g1 ex;refine⟨g,rfl,gw,?_⟩;unfold uq at eu;split at eu
 .rename_i ds
  split at eu
  .rename_i hc
   cases eu;exact .inr ⟨ds,Rp.dv (u:=.d (.tuple ds)) p rfl<|xO _<|ë hc,hc,q _ _ g1 ⟨DF.bl _,Nw.data⟩⟩
  .cases eu
 .have(w,ew,eu):=bQ eu
  cases eu;have(rfl,f1):=Gc p ew;exact .inl ⟨f1,q _ _ g1 ⟨DF.bl _,Nw.data⟩⟩
 .cases eu
end
def oU(K:qc)(g:Qg)(ns:Qa Int):Prop:=∃(o:Obj) (aq:Array Qc) (n:Nat),K.lookup g=ž o/\o.cls=.type "tuple"/\o.data=.seq aq n/\aq.size<=ċ/\zV (ns.map V.int) aq.toList
section
variable{X:Cx}
theorem oU.sq{g:Qg}(h:oU K g ns):cH K H g (ns.map V.int):=.inr h
theorem Nj:∀(ns:Qa Int),kW K H (ns.map V.int)<|ns.map Ŕ
 |[]=>.nil
 |n::ns=>.cons (.int n)<|Nj ns
theorem oU.dv{g:Qg}(h:oU K g ns):DV K H (.ref g) (.tuple<|ns.map Ŕ):=.tup h.sq (Nj ns)
def wu(neg:Bool)(ns:Qa Int)(a:U):Qb U:=iV neg a (.d<|.tuple<|ns.map Ŕ)
theorem Ka{neg:Bool}{g:Qg}{me:ME}(gt:oU K g ns)(h:VE K te me):VE K (lM (AA K neg) te<|tC<|.ref g) (bY (wu neg ns) me):=by
 intro ρ σ H a au Q rs e q;obtain⟨⟨a1,aw⟩,e1,e⟩:=bQ e;have(x,ex,e):=bQ e;have(u,eu,e):=bQ e;cases e;refine h ρ σ H a1 _ _ rs e1 λv1 H1 g1 k1=>?_;have p:=k1.now rs g1 ex;have(dx,e2,eu):=bQ eu;have(dy,e3,eu):=bQ eu;cases e3;split at eu
 .rename_i hs
  cases eu;exact⟨dx,_,p.dv e2<|xO _<|ë hs.1,gt.dv,hs.1,hs.2,q _ _ g1 ⟨DF.bl _,Nw.data⟩⟩
 .cases eu
end
inductive E3 {a b c:Type} (p:a->b->c->Prop):Prop
 |mk (xa xb xc) (y:p xa xb xc):E3 p
inductive E6 {a b c d e f:Type} (p:a->b->c->d->e->f->Prop):Prop
 |mk (xa xb xc xd xe xf) (y:p xa xb xc xd xe xf):E6 p
theorem nr{α:Sort _}{a b:α}(h:a=b):a=b:=h
structure Ph {α:Type} (a:α):Type where
 n:Nat
def Wo(o:Qb α)(Q:α->Prop):Prop:=∃a,o=ž a/\Q a
def Co(f:α->Qb β)(t:Ph f)(Q:β->Prop)(a:α):Prop:=Wo (f a) Q
section
variable{a:α}{o:Qb α}{f:α->Qb β}{Q:α->Prop}{R:β->Prop}
theorem dU:Wo (ž a) Q=Q a:=propext ⟨λ⟨_,e,h⟩=>(by cases e;exact h),λh=>⟨a,rfl,h⟩⟩
theorem zt:Wo (o.bind f) R=Wo o (Co f ⟨0⟩ R):=propext (by
 cases o with
 |none=>exact⟨λ⟨_,e,_⟩=>(by cases e),λ⟨_,e,_⟩=>(by cases e)⟩
 |some a=>rw[dU];exact Iff.rfl)
theorem kh{t:Ph f}:Co f t R a=Wo (f a) R:=rfl
theorem Wo.mono(h:Wo o Q){Q':α->Prop}(k:∀a,Q a->Q' a):Wo o Q':=h.elim λa z=>⟨a,z.1,k a z.2⟩
theorem nP{c:Prop}[Decidable c]{x y:Qb α}(h:c->Wo x Q)(h':¬c->Wo y Q):Wo (if c then x else y) Q:=by
 split
 .exact h ‹_›
 .exact h' ‹_›
end
section
variable{ρ:En}{me ma mb mc mk mi md my mv mo:ME}{mA mK:MA}{mt mu:MT}{mI:MI}{mg:MG}{m1 m2:MS}{u:U}{x:D}{mx:MX}{mXA:MXA}
variable{QE:Ar×En->Prop}{QA:Qa Ar×En->Prop}{QT:Bool×En->Prop}{QS:Fl->Prop}{QI:Qa D×En->Prop}{QO:Qb Int×En->Prop}{QG:En->Prop}{QX:RX Ar->Prop}{QXA:RX (Qa Ar)->Prop}{QR:D×En->Prop}{QF:U×Qa U->Prop}{QFX:(U×Qa U) ⊕ (D×Qa U)->Prop}
theorem Mh:Wo (zd i ρ) QE=Wo (ρ[i]?).join (Co (λ_=>ž (.s i,ρ)) ⟨0⟩ QE):=by rw[Ua,zt]
theorem Js:Wo (mC x ρ) QE=QE (.u<|.d x,ρ):=by rw[zCS,dU]
def Au(f:U->U->Qb U)(a:Ar)(q:Ar×En):Qb (Ar×En):=(a.get q.2).bind λx=>(q.1.get q.2).bind λy=>(f x y).bind λu=>ž (.u u,q.2)
def HY(f:U->U->Qb U)(mb:ME)(p:Ar×En):Qb (Ar×En):=(mb p.2).bind (Au f p.1)
theorem Vo{f:U->U->Qb U}:Wo (ah f ma mb ρ) QE=Wo (ma ρ) (Co (HY f mb) ⟨0⟩ QE):=by rw[zAR,zt];rfl
theorem YY{f:U->U->Qb U}{p:Ar×En}:Wo (HY f mb p) QE=Wo (mb p.2) (Co (Au f p.1) ⟨0⟩ QE):=by unfold HY;rw[zt]
theorem zBv{f:U->Qb U}:Wo (bY f ma ρ) QE=Wo (ma ρ) (Co (λp=>(p.1.get p.2).bind λx=>(f x).bind λu=>ž (.u u,p.2)) ⟨0⟩ QE):=by rw[zAS,zt]
theorem Ml:Wo (zj ρ) QA=QA ([],ρ):=by rw[T9,dU]
theorem Xj:Wo (zb me mA ρ) QA=Wo (me ρ) (Co (λp=>(mA p.2).bind λq=>ž (p.1::q.1,q.2)) ⟨0⟩ QA):=by rw[Xx,zt]
theorem YX:Wo (aX mA ρ) QE=Wo (mA ρ) (Co (λp=>(bW p.2 p.1).bind λus=>(kj us).bind λds=>if ds.length<=ċ then ž (.u<|.d<|.tuple ds,p.2)else Ž) ⟨0⟩ QE):=by rw[T8,zt]
theorem YW:Wo (cC mA ρ) QE=Wo (mA ρ) (Co (λp=>(bW p.2 p.1).bind λus=>(kj us).bind λds=>if ds.length<=ċ then ž (.u<|.l ds,p.2)else Ž) ⟨0⟩ QE):=by rw[T7,zt]
theorem zBw{f:Qa U->Qb U}:Wo (aS f mA ρ) QE=Wo (mA ρ) (Co (λp=>(bW p.2 p.1).bind λus=>(f us).bind λu=>ž (.u u,p.2)) ⟨0⟩ QE):=by rw[zAT,zt]
theorem SS{f:FD}:Wo (zF f mA ρ) QE=Wo (mA ρ) (Co (λp=>if gK p.2 p.1=ż then(bW p.2 p.1).bind λus=>(f us).bind λo=>ž (.u o.1,wb p.2 p.1 o.2)else Ž) ⟨0⟩ QE):=by rw[T6,zt]
theorem Gb:Wo (zr m1 m2 ρ) QS=Wo (m1 ρ) (Co (nG m2) ⟨0⟩ QS):=by rw[UB,zt]
theorem KY:Wo (zJ i me ρ) QS=Wo (me ρ) (Co (λp=>(put p).bind λq=>ž<|.nx<|q.2.set i<|some q.1) ⟨0⟩ QS):=by rw[UA,zt]
theorem YV:Wo (zW me ρ) QS=Wo (me ρ) (Co (λp=>(put p).bind λq=>ž<|.rt q.1 q.2) ⟨0⟩ QS):=by rw[Uz,zt]
theorem znI:Wo (qX pn i ρ) QS=Wo (if i∈pn then Ž else(ρ[i]?).join.bind λu=>ž<|.rt u<|ρ.set i Ž) QS:=by rw[Xw]
theorem Np:Wo (zS ρ) QS=QS (.nx ρ):=by rw[Xv,dU]
theorem XQ:Wo (cT me ρ) QS=Wo (me ρ) (Co (λp=>ž<|.nx p.2) ⟨0⟩ QS):=by rw[Xu,zt]
theorem SR:Wo (aT mt m1 m2 ρ) QS=Wo (mt ρ) (Co (λp=>if p.1=ż then m1 p.2 else m2 p.2) ⟨0⟩ QS):=by rw[Uy,zt]
theorem YU:Wo (jo mt ma mb ρ) QE=Wo (mt ρ) (Co (λp=>if p.1=ż then ma p.2 else mb p.2) ⟨0⟩ QE):=by rw[zAW,zt]
theorem zCU:Wo (mB me ρ) QT=Wo (me ρ) (Co (λp=>(p.1.get p.2).bind λu=>u.ui.bind λb=>ž (b,p.2)) ⟨0⟩ QT):=by rw[zCT,zt]
theorem YT:Wo (i4 mt mu ρ) QT=Wo (mt ρ) (Co (λp=>if p.1=ż then mu p.2 else ž (Ż,p.2)) ⟨0⟩ QT):=by rw[Ux,zt]
theorem Vn:Wo (cZ mt mu ρ) QT=Wo (mt ρ) (Co (λp=>if p.1=ż then ž (ż,p.2)else mu p.2) ⟨0⟩ QT):=by rw[zAX,zt]
theorem YS:Wo (gB mt ρ) QT=Wo (mt ρ) (Co (λp=>ž (!p.1,p.2)) ⟨0⟩ QT):=by rw[Uw,zt]
theorem znJ:Wo (w4 ma mb ρ) QE=Wo (mB ma ρ) (Co (λp=>if p.1=ż then mb p.2 else ž (.u<|.d<|.bool Ż,p.2)) ⟨0⟩ QE):=by rw[Xt,zt]
theorem znK:Wo (AY ma ρ) QE=Wo (mB ma ρ) (Co (λp=>ž (.u<|.d<|.bool (!p.1),p.2)) ⟨0⟩ QE):=by rw[Xs,zt]
theorem YR:Wo (wF ma ρ) QT=Wo (ma ρ) (Co (λp=>(p.1.get p.2).bind λu=>u.tz.bind λb=>ž (b,p.2)) ⟨0⟩ QT):=by rw[Uv,zt]
theorem YQ:Wo (iT ρ) QT=QT (ż,ρ):=by rw[Uu,dU]
theorem YO:Wo (cU i me ρ) QE=Wo (ρ[i]?).join (Co (λw=>w.lo.bind λ_=>(me ρ).bind λp=>(p.1.get p.2).bind λu=>u.da.bind λx=>(p.2[i]?).join.bind λw=>w.lo.bind λxs=>if xs.length < ċ then ž (.u<|.d .none,p.2.set i<|some<|.l<|xs++[x])else Ž) ⟨0⟩ QE):=by rw[Ut,zt]
theorem zk5:Wo (iW i me mi ρ) QS=Wo (ρ[i]?).join (Co (λ_=>(me ρ).bind λp=>(mi p.2).bind λq=>(p.1.get q.2).bind λu=>(q.1.get q.2).bind λw=>u.da.bind λx=>w.num.bind λk=>(q.2[i]?).join.bind λz=>z.lo.bind λxs=>(fA xs.length k).bind λj=>ž<|.nx<|q.2.set i<|some<|.l<|xs.set j x) ⟨0⟩ QS):=by rw[Z0,zt]
def A4(w:U)(y x:D):Qb U:=match w with
 |.t ao=>(gY y).bind λk=>if ao.length < ċ then ž (.t<|fE ao k x)else Ž
 |.k ao=>(qN y).bind λk=>if ao.length < ċ then ž (.k<|fE ao k x)else Ž
 |_=>Ž
theorem XM:lx i my mv ρ=(ρ[i]?).join.bind λ_=>(mv ρ).bind λp=>(my p.2).bind λq=>(p.1.get q.2).bind λx=>(q.1.get q.2).bind λy=>x.da.bind λx=>y.da.bind λy=>(q.2[i]?).join.bind λw=>(A4 w y x).bind λz=>ž (.nx<|q.2.set i<|some z):=by
 unfold lx;refine bind_fn λ_=>bind_fn λp=>bind_fn λq=>bind_fn λx=>bind_fn λy=>?_;cases x with
 |l=>rfl
 |t=>rfl
 |k=>rfl
 |o=>rfl
 |d x=>
  cases y with
  |l=>rfl
  |t=>rfl
  |k=>rfl
  |o=>rfl
  |d y=>
   show _=((q.2[i]?).join.bind _);cases q.2[i]? with
   |none=>rfl
   |some o=>
    cases o with
    |none=>rfl
    |some w=>
     cases w with
     |l=>rfl
     |d=>rfl
     |o=>rfl
     |t ao=>
      show(gY y).bind _=((gY y).bind _).bind _;cases gY y with
      |none=>rfl
      |some k=>
       show(if _ then _ else _)=(if _ then _ else _:Qb U).bind _;split<;>rfl
     |k ao=>
      show(qN y).bind _=((qN y).bind _).bind _;cases qN y with
      |none=>rfl
      |some k=>
       show(if _ then _ else _)=(if _ then _ else _:Qb U).bind _;split<;>rfl
theorem znM:Wo (lx i my mv ρ) QS=Wo (ρ[i]?).join (Co (λ_=>(mv ρ).bind λp=>(my p.2).bind λq=>(p.1.get q.2).bind λx=>(q.1.get q.2).bind λy=>x.da.bind λx=>y.da.bind λy=>(q.2[i]?).join.bind λw=>(A4 w y x).bind λz=>ž<|.nx<|q.2.set i<|some z) ⟨0⟩ QS):=by rw[XM,zt]
theorem znN:Wo (jF md my ρ) QE=Wo (md ρ) (Co (λp=>(my p.2).bind λq=>(p.1.get q.2).bind λu=>(q.1.get q.2).bind λy=>(nH u y).bind λo=>o.bind λd=>ž (.u<|.d d,q.2)) ⟨0⟩ QE):=by rw[Xr,zt]
theorem zk6:Wo (pJ ρ) QE=QE (.u<|.k [],ρ):=by show Wo (ž _) QE=_;rw[dU]
theorem V1:Wo (gR me ρ) QE=Wo (me ρ) (Co (λp=>(p.1.get p.2).bind λu=>u.fz.bind λx=>ž (.u<|.d x,CV x p)) ⟨0⟩ QE):=by rw[zA0,zt]
theorem V0{g:U->Qb (Qa D)}:Wo (eT g me ρ) QI=Wo (me ρ) (Co (λp=>(p.1.get p.2).bind λu=>(g u).bind λds=>ž (ds,p.2)) ⟨0⟩ QI):=by rw[zA3,zt]
theorem VZ{n:Int}(h:-4611686018427387904<=n)(h2:n < 4611686018427387904):Aw [.d<|.int n]=ž (gD 0 n.toNat):=by rw[S1,a4b ⟨by omega,by omega⟩]
theorem znO:Wo (lz mA ρ) QI=Wo (mA ρ) (Co (λp=>(bW p.2 p.1).bind λus=>(Aw us).bind λds=>ž (ds,p.2)) ⟨0⟩ QI):=by rw[Xq,zt]
def DM:Qa U->Qb (Qa D)
 |[.d<|.int i,.d<|.int j]=>if -(2^62)<=i/\i < 2^62/\-(2^62)<=j/\j < 2^62 then ž (gD i (j - i).toNat)else Ž
 |_=>Ž
theorem VY{a:Int}(h:-4611686018427387904<=a)(h2:a < 4611686018427387904)(h3:-4611686018427387904<=b)(h4:b < 4611686018427387904):DM [.d<|.int a,.d<|.int b]=ž (gD a (b - a).toNat):=by
 show(if _ then _ else _)=_;rw[a4b ⟨by omega,by omega,by omega,by omega⟩]
theorem XJ:pe mA ρ=(mA ρ).bind λp=>(bW p.2 p.1).bind λus=>(DM us).bind λds=>ž (ds,p.2):=bind_fn λp=>bind_fn λus=>by
 match us with
 |[]=>rfl
 |[.d<|.int i,.d<|.int j]=>
  show(if _ then _ else _)=(if _ then _ else _:Qb (Qa D)).bind _;split<;>rfl
 |[.d x]=>cases x<;>rfl
 |[.l _]=>rfl
 |[.t _]=>rfl
 |[.k _]=>rfl
 |[.o _ _]=>rfl
 |[.d x,.d y]=>cases x<;>(try rfl)<;>(cases y<;>(try rfl)<;>(show(if _ then _ else _)=(if _ then _ else _:Qb (Qa D)).bind _;split<;>rfl))
 |[.d x,.l y]=>cases x<;>rfl
 |[.d x,.t y]=>cases x<;>rfl
 |[.d x,.k y]=>cases x<;>rfl
 |[.d x,.o _ _]=>cases x<;>rfl
 |[.l _,_]=>rfl
 |[.t _,_]=>rfl
 |[.k _,_]=>rfl
 |[.o _ _,_]=>rfl
 |a::b::c::us=>
  cases a with
  |d x=>cases x<;>(try rfl)<;>(cases b with
   |d y=>cases y<;>rfl
   |l=>rfl
   |t=>rfl
   |o=>rfl
   |k=>rfl)
  |l=>rfl
  |t=>rfl
  |k=>rfl
  |o=>rfl
theorem znP:Wo (pe mA ρ) QI=Wo (mA ρ) (Co (λp=>(bW p.2 p.1).bind λus=>(DM us).bind λds=>ž (ds,p.2)) ⟨0⟩ QI):=by rw[XJ,zt]
def EI:Qa U->Qb (Qa D)
 |[.d<|.tuple ds]=>ž<|kC 0 ds
 |_=>Ž
theorem znQ{ds:Qa D}:EI [.d<|.tuple ds]=ž (kC 0 ds):=rfl
theorem XH:wZ mA ρ=(mA ρ).bind λp=>(bW p.2 p.1).bind λus=>(EI us).bind λds=>ž (ds,p.2):=bind_fn λp=>bind_fn λus=>by
 match us with
 |[]=>rfl
 |[.d x]=>cases x<;>rfl
 |[.l _]=>rfl
 |[.t _]=>rfl
 |[.k _]=>rfl
 |[.o _ _]=>rfl
 |.d x::b::us=>cases x<;>rfl
 |.l x::b::us=>rfl
 |.t x::b::us=>rfl
 |.k x::b::us=>rfl
 |.o x y::b::us=>rfl
theorem znR:Wo (wZ mA ρ) QI=Wo (mA ρ) (Co (λp=>(bW p.2 p.1).bind λus=>(EI us).bind λds=>ž (ds,p.2)) ⟨0⟩ QI):=by rw[XH,zt]
theorem YN:Wo (dN mI mg m1 ρ) QS=Wo (mI ρ) (Co (λp=>gu mg m1 p.1 p.2) ⟨0⟩ QS):=by rw[S0,zt]
theorem YM:Wo (gQ mI nt js mg mt me ρ) QE=Wo (mI ρ) (Co (λp=>(iK nt mg mt me p.1 (hX nt js p.2) []).bind λq=>ž (.u<|.l q.1,back js (q.2.drop nt) p.2)) ⟨0⟩ QE):=by rw[zA4,zt]
theorem VX{f:U->Qb Int->Qb Int->Qb U}{ml mh:MO}:Wo (tR f me ml mh ρ) QE=Wo (me ρ) (Co (λp=>(ml p.2).bind λl=>(mh l.2).bind λh=>(p.1.get h.2).bind λx=>(f x l.1 h.1).bind λu=>ž (.u u,h.2)) ⟨0⟩ QE):=by rw[zA5,zt]
theorem zi4:Wo (uY ρ) QO=QO (Ž,ρ):=by rw[Z5,dU]
theorem znS:Wo (nR me ρ) QO=Wo (me ρ) (Co (λp=>(p.1.get p.2).bind λu=>u.num.bind λi=>ž (ž i,p.2)) ⟨0⟩ QO):=by rw[Xp,zt]
theorem YL:Wo (nI i j mA ρ) QS=Wo (mA ρ) (Co (λp=>(bW p.2 p.1).bind λus=>(DP us).bind λz=>ž<|.nx<|(p.2.set i<|some<|.d z.1).set j<|some<|.d z.2) ⟨0⟩ QS):=by rw[SY,zt]
theorem YK:Wo (nJ me mg ρ) QS=Wo (me ρ) (Co (λp=>(p.1.get p.2).bind λu=>u.da.bind λd=>(mg d p.2).bind λau=>ž<|.nx au) ⟨0⟩ QS):=by rw[SX,zt]
theorem zk7:Wo (zy i x ρ) QG=QG (ρ.set i<|some<|.d x):=by rw[ZW,dU]
theorem znT{gs:Qa D->En->Qb En}{ds:Qa D}:Wo (fj n gs (.tuple ds) ρ) QG=Wo (if ds.length=n then gs ds ρ else Ž) QG:=by rw[Xo]
theorem zk8{g:MG}{gs:Qa D->En->Qb En}{ds:Qa D}:Wo (zY g gs (x::ds) ρ) QG=Wo (g x ρ) (Co (λaw=>gs ds aw) ⟨0⟩ QG):=by rw[ZV,zt]
theorem znU:Wo (gv [] ρ) QG=QG ρ:=by rw[Xn,dU]
theorem VW{ty:U->Bool}{f:U->U->Qb U}:Wo (CT ty f mo ma ρ) QE=Wo (mo ρ) (Co (λp=>(p.1.get p.2).bind λx0=>if ty x0=ż then(ma p.2).bind λq=>(p.1.get q.2).bind λx=>(q.1.get q.2).bind λy=>(f x y).bind λu=>ž (.u u,q.2)else Ž) ⟨0⟩ QE):=by
 show Wo (ő _ _) QE=_;rw[zt]
theorem VV{z:Str}:xY (.d<|.str z)=ż:=rfl
theorem Zk{f f':U->U->Qb U}:Bu f f' ma mb mc ρ=(ma ρ).bind λp=>(mb p.2).bind λq=>(p.1.get q.2).bind λx=>(q.1.get q.2).bind λy=>(f x y).bind λr=>r.ui.bind λb=>if b=ż then(mc q.2).bind λs=>(q.1.get s.2).bind λy'=>(s.1.get s.2).bind λz=>(f' y' z).bind λu=>ž (.u u,s.2)else ž (.u<|.d<|.bool Ż,q.2):=by
 refine bind_fn λp=>bind_fn λq=>bind_fn λx=>bind_fn λy=>bind_fn λr=>?_;cases r with
 |d x=>cases x with
  |bool b=>cases b<;>rfl
  |_=>rfl
 |l=>rfl
 |t=>rfl
 |k=>rfl
 |o=>rfl
theorem zk9{f f':U->U->Qb U}:Wo (Bu f f' ma mb mc ρ) QE=Wo (ma ρ) (Co (λp=>(mb p.2).bind λq=>(p.1.get q.2).bind λx=>(q.1.get q.2).bind λy=>(f x y).bind λr=>r.ui.bind λb=>if b=ż then(mc q.2).bind λs=>(q.1.get s.2).bind λy'=>(s.1.get s.2).bind λz=>(f' y' z).bind λu=>ž (.u u,s.2)else ž (.u<|.d<|.bool Ż,q.2)) ⟨0⟩ QE):=by rw[Zk,zt]
def x1:Qa D->Qb D
 |[x]=>ž x
 |_=>Ž
theorem Zj{us:Qa U}:Wo (bM n pn m1 us) QF=Wo (m1<|sm us++Đ (n - us.length) Ž) (Co (sA pn us) ⟨0⟩ QF):=by rw[SW,zt]
def sL(Q:Fl->Prop)(P:En->Prop):Fl->Prop
 |.nx ρ=>P ρ
 |.ct ρ=>P ρ
 |.bk ρ=>Q<|.nx ρ
 |.rt u ρ=>Q<|.rt u ρ
 |.ex x ρ=>Q<|.ex x ρ
theorem zla{Q:Fl->Prop}{P:En->Prop}:sL Q P (.nx ρ)=P ρ:=rfl
theorem iX{Q:Fl->Prop}(P:Nat->En->Prop){ds:Qa D}(h0:P 0 ρ)(st:∀i d ρ,ds[i]?=ž d->P i ρ->Wo (mg d ρ) (Co m1 ⟨0⟩<|sL Q<|P<|i+1))(hQ:∀ρ,P ds.length ρ->Q (.nx ρ)):Wo (gu mg m1 ds ρ) Q:=by
 have main:∀(es:Qa D) (n:Nat) (ρ:En),n+es.length=ds.length->(∀i,es[i]?=ds[n+i]?)->P n ρ->Wo (gu mg m1 es ρ) Q:=by
  intro es
  induction es with
  |nil=>
   intro n ρ hn _ hp;show Wo (ž _) Q;rw[dU];rw[Ŋ,ϋ]at hn;exact hQ ρ<|hn▸hp
  |cons d es ih=>
   intro n ρ hn he hp;have e0:=he 0;rw[Ϙ,ϋ]at e0;have(aw,e1,f,e2,k):=st n d ρ e0.symm hp;have mY:∀aD,P (n+1) aD->Wo (gu mg m1 es aD) Q:=λaD z=>ih (n+1) aD (by rw[qv]at hn;omega) (λi=>by
    have:=he (i+1);rw[a2r]at this;rw[this,show n+(i+1)=n+1+i by omega]) z
   unfold gu;rw[zt];refine⟨aw,e1,?_⟩;rw[kh,zt];refine⟨f,e2,?_⟩;rw[kh];cases f with
   |nx aD=>exact mY aD k
   |ct aD=>exact mY aD k
   |bk aD=>exact⟨_,rfl,k⟩
   |rt u aD=>exact⟨_,rfl,k⟩
   |ex x aD=>exact⟨_,rfl,k⟩
 exact main ds 0 ρ (by omega) (λi=>by rw[Ū]) h0
theorem rA{g:α->D}{Q:Fl->Prop}(P:Qa α->Qa α->En->Prop){as:Qa α}(h0:P [] as ρ)(st:∀bs a cs ρ,as=bs++a::cs->P bs (a::cs) ρ->Wo (mg (g a) ρ) (Co m1 ⟨0⟩<|sL Q<|P (bs++[a]) cs))(hQ:∀ρ,P as [] ρ->Q (.nx ρ)):Wo (gu mg m1 (as.map g) ρ) Q:=by
 have main:∀(cs bs:Qa α) (ρ:En),as=bs++cs->P bs cs ρ->Wo (gu mg m1 (cs.map g) ρ) Q:=by
  intro cs
  induction cs with
  |nil=>
   intro bs ρ e hp;rw[ş]at e;subst e;exact⟨_,rfl,hQ ρ hp⟩
  |cons a cs ih=>
   intro bs ρ e hp;have(aw,e1,f,e2,k):=st bs a cs ρ e hp;have mY:∀aD,P (bs++[a]) cs aD->Wo (gu mg m1 (cs.map g) aD) Q:=λaD z=>ih (bs++[a]) aD (by rw[e,ŉ];rfl) z;rw[Ċ];unfold gu;rw[zt];refine⟨aw,e1,?_⟩;rw[kh,zt];refine⟨f,e2,?_⟩;rw[kh];cases f with
   |nx aD=>exact mY aD k
   |ct aD=>exact mY aD k
   |bk aD=>exact⟨_,rfl,k⟩
   |rt u aD=>exact⟨_,rfl,k⟩
   |ex x aD=>exact⟨_,rfl,k⟩
 exact main as [] ρ rfl h0
def vE(nt:Nat)(me:ME)(ys:Qa D)(P:En->Qa D->Prop)(p:Bool×En):Prop:=if p.1=ż then Wo (me p.2) (Co (λq=>(q.1.get q.2).bind λu=>u.da.bind λy=>ž (reset nt q.2,ys++[y])) ⟨0⟩ λz=>P z.1 z.2)else P (reset nt p.2) ys
theorem K7{ys:Qa D}{P:En->Qa D->Prop}:vE nt me ys P (ż,ρ)=Wo (me ρ) (Co (λq=>(q.1.get q.2).bind λu=>u.da.bind λy=>ž (reset nt q.2,ys++[y])) ⟨0⟩ λz=>P z.1 z.2):=rfl
theorem VR{ys:Qa D}{P:En->Qa D->Prop}:vE nt me ys P (Ż,ρ)=P (reset nt ρ) ys:=rfl
theorem A3{Q:Qa D×En->Prop}(P:Nat->En->Qa D->Prop){ds:Qa D}(hz:ds.length<=ċ)(hP:∀i ρ ys,P i ρ ys->ys.length<=i)(h0:P 0 ρ [])(st:∀i d ρ ys,ds[i]?=ž d->P i ρ ys->Wo (mg d ρ) (Co mt ⟨0⟩<|vE nt me ys<|P<|i+1))(hQ:∀ρ ys,P ds.length ρ ys->Q (ys,ρ)):Wo (iK nt mg mt me ds ρ []) Q:=by
 have main:∀(es:Qa D) (n:Nat) (ρ:En) (ys:Qa D),n+es.length=ds.length->(∀i,es[i]?=ds[n+i]?)->P n ρ ys->Wo (iK nt mg mt me es ρ ys) Q:=by
  intro es
  induction es with
  |nil=>
   intro n ρ ys hn _ hp;rw[Ŋ,ϋ]at hn;exact⟨_,rfl,hQ ρ ys<|hn▸hp⟩
  |cons d es ih=>
   intro n ρ ys hn he hp;have e0:=he 0;rw[Ϙ,ϋ]at e0;obtain⟨aw,e1,⟨b,aD⟩,e2,k⟩:=st n d ρ ys e0.symm hp;have hl:=hP _ _ _ hp;rw[qv]at hn;have mY:∀aD Cz,P (n+1) aD Cz->Wo (iK nt mg mt me es aD Cz) Q:=λaD Cz z=>ih (n+1) aD Cz (by omega) (λi=>by
    have:=he (i+1);rw[a2r]at this;rw[this,show n+(i+1)=n+1+i by omega]) z
   unfold iK;rw[a4b (by omega),zt];refine⟨aw,e1,?_⟩;rw[kh,zt];refine⟨_,e2,?_⟩;rw[kh];cases b with
   |false=>rw[a4c qf];exact mY _ _ k
   |true=>
    rw[a4b rfl,zt];have(q,e3,k):=k;refine⟨q,e3,?_⟩;rw[kh,zt]at k ⊢;have(u,e4,k):=k;refine⟨u,e4,?_⟩;rw[kh,zt]at k;have(y,e5,z,e6,k):=k;cases u with
    |d y'=>cases e5;cases e6;exact mY _ _ k
    |l=>cases e5
    |t=>cases e5
    |k=>cases e5
    |o=>cases e5
 exact main ds 0 ρ [] (by omega) (λi=>by rw[Ū]) h0
theorem MP{Q:Fl->Prop}(P:Nat->En->Prop)(k:Nat)(h0:P k ρ)(st:∀k ρ,P k ρ->Wo (mt ρ) λp=>if p.1=ż then Wo (m1 p.2) (sL Q λau=>∃k',k' < k/\P k' au)else Q (.nx p.2)):Wo (sT mt m1 ρ) Q:=by
 have main:∀(k:Nat) (ρ:En),P k ρ->∃n f,iE mt m1 n ρ=ž f/\Q f:=by
  intro k
  induction k using Nat.strongRecOn with
  |ind k ih=>
   intro ρ hp;obtain⟨⟨b,aw⟩,e1,z⟩:=st k ρ hp;cases b with
   |false=>
    rw[a4c qf]at z;exact⟨1,_,by unfold iE;rw[e1];rfl,z⟩
   |true=>
    rw[a4b rfl]at z;have(f,e2,z):=z;have mY:∀aD,(∃k',k' < k/\P k' aD)->f=.nx aD\/f=.ct aD->∃n f,iE mt m1 n ρ=ž f/\Q f:=by
     rintro aD ⟨k',hk,gI⟩ hf;have(n,f',e3,q):=ih k' hk aD gI;refine⟨n+1,f',?_,q⟩;unfold iE;rw[e1,bd,a4b rfl,e2,bd];rcases hf with rfl|rfl<;>exact e3
    cases f with
    |nx aD=>exact mY aD z<|.inl rfl
    |ct aD=>exact mY aD z<|.inr rfl
    |bk aD=>exact⟨1,_,by unfold iE;rw[e1,bd,a4b rfl,e2];rfl,z⟩
    |rt u aD=>exact⟨1,_,by unfold iE;rw[e1,bd,a4b rfl,e2];rfl,z⟩
    |ex u aD=>exact⟨1,_,by unfold iE;rw[e1,bd,a4b rfl,e2];rfl,z⟩
 have(n,f,e,q):=main k ρ h0;exact⟨f,ZK e,q⟩
end
theorem g7{o:Qb α}{b:α}(h:Wo o (λa=>a=b)):o=ž b:=by
 have(a,e,rfl):=h;exact e
theorem wH:ċ=16777216:=Eq.trans zl (Eq.symm<|Eq.symm<|ϋ _)
theorem Zi{dc:Decidable (n < 16777216)}{a b:Qb α}(h:n < 16777216):(if n < 16777216 then a else b)=a:=a4b h
theorem Ga{xs:Qa α}{r:Int}(h0:0<=r)(h1:r < (xs.length:Int)):∃a,bf xs r=ž a/\a∈xs/\xs[r.toNat]?=ž a:=by
 have hk:r.toNat < xs.length:=by omega
 have ek:r=((r.toNat:Nat):Int):=by omega
 have q:bf xs ((r.toNat:Nat):Int)=ž xs[r.toNat]:=jJ (qo hk);rw[<-ek]at q;exact⟨_,q,ó hk,qo hk⟩
theorem Fy{xs:Qa D}{r:Int}{Q:U->Prop}(h0:0<=r)(h1:r < (xs.length:Int))(k:∀a∈xs,Q<|.d a):Wo ((bf xs r).map U.d) Q:=by
 have(a,e,m,_):=Ga h0 h1;rw[e];exact⟨_,rfl,k a m⟩
theorem SQ{f:α->D}{xs:Qa α}{r:Int}{Q:U->Prop}(h0:0<=r)(h1:r < (xs.length:Int))(k:∀a∈xs,xs[r.toNat]?=ž a->Q (.d<|f a)):Wo ((bf (xs.map f) r).map U.d) Q:=by
 have(a,e,m,z):=Ga (xs:=xs.map f) h0 (by rw[ĉ];exact h1);rw[Č]at z;have(b,hb,rfl):=qt.mp z;rw[e];exact⟨_,rfl,k b (Ñ hb) hb⟩
theorem Kd{lo:Int}{d:D}(h:(gD lo n)[i]?=ž d):i < n/\d=.int (lo+(i:Nat)):=B4 h
theorem xq{lo:Int}:(gD lo n).length=n:=by
 unfold gD;rw[ĉ,Ν]
theorem Kc{ρ:En}{mg:MG}{m1:MS}{Q:Fl->Prop}(P:Nat->En->Prop)(h0:P 0 ρ)(st:∀i ρ,i < n->P i ρ->Wo (mg (.int<|0+(i:Nat)) ρ) (Co m1 ⟨0⟩<|sL Q<|P<|i+1))(hQ:∀ρ,P n ρ->Q (.nx ρ)):Wo (gu mg m1 (gD 0 n) ρ) Q :=
 iX P h0 (λi d ρ hd hp=>by
  have(hi,rfl):=Kd hd;exact st i ρ hi hp) λρ hp=>hQ ρ (by rw[xq]at hp;exact hp)
theorem L9{ρ:En}{mg:MG}{mt:MT}{me:ME}{Q:Qa D×En->Prop}(P:Nat->En->Qa D->Prop)(hz:n<=ċ)(h0:P 0 ρ [])(hP:∀i ρ ys,P i ρ ys->ys.length<=i)(st:∀i ρ ys,i < n->P i ρ ys->Wo (mg (.int<|0+(i:Nat)) ρ) (Co mt ⟨0⟩<|vE nt me ys<|P<|i+1))(hQ:∀ρ ys,P n ρ ys->Q (ys,ρ)):Wo (iK nt mg mt me (gD 0 n) ρ []) Q :=
 A3 P (by rw[xq];exact hz) hP h0 (λi d ρ ys hd hp=>by
  have(hi,rfl):=Kd hd;exact st i ρ ys hi hp) λρ ys hp=>hQ ρ ys (by rw[xq]at hp;exact hp)
def bL(n:Nat)(z:Str):Prop:=z.length<=n/\∀c∈z.cps.toList,c < 128
theorem bL.mono{z:Str}(h:bL n z)(hm:n<=m):bL m z:=⟨qA h.1 hm,h.2⟩
theorem bL.app{y:Str}(hx:bL n x)(hy:bL m y):bL (n+m) (x++y):=⟨by rw[PySem.Str.length_append];have:=hx.1;have:=hy.1;omega,λc hc=>by
 rw[PySem.Str.cps_append,Array.toList_append,a3Z]at hc;exact hc.elim (hx.2 c)<|hy.2 c⟩
theorem bL.one{c:Nat}(h:c < 128):bL 1 ⟨#[c]⟩:=⟨qe _,λd hd=>by
 cases qr.mp hd;exact h⟩
theorem bL.join:∀{ys:Qa Str},(∀z∈ys,bL n z)->bL (ys.length * n) (PySem.Str.join "" ys)
 |[],_=>⟨Ê _,λc hc=>by cases hc⟩
 |[x],h=>(h x qq).mono (by simp)
 |x::y::r,h=>by
  have:=((h x qq).app (show bL 0 "" from⟨qe _,λc hc=>by cases hc⟩)).app (bL.join λz hz=>h z<|qp _ hz);exact this.mono (by simp only[qv,ϛ];omega)
theorem Z4{ys:Qa Str}(h:∀z∈ys,bL n z):bL (ys.length * n) (ζ "" ys):=by
 show bL _ (a3W "" ys);rw[PySem.StrLaws.glued_eq_join];exact bL.join h
theorem SO{y:Str}(h:x.length+y.length<=16777216):pA (.d<|.str x) (.d<|.str y)=ž (.d<|.str<|x++y):=by
 unfold pA;dsimp only;rw[a4b (by rw[zl];exact h)]
theorem xp{y:Str}{Q:U->Prop}(hx:bL n x)(hy:bL m y)(hn:n+m<=1000)(k:bL (n+m) (x++y)->Q (.d<|.str<|x++y)):Wo (pA (.d<|.str x)<|.d<|.str y) Q:=by
 rw[SO (by have:=hx.1;have:=hy.1;omega)];exact⟨_,rfl,k<|hx.app hy⟩
theorem BI{z:Str}{r:Int}{Q:U->Prop}(h0:0<=r)(h1:r < (z.length:Int))(hz:z.length<=1000)(k:∀c∈z.cps.toList,Q<|.d<|.str ⟨#[c]⟩):Wo (so (.d<|.str z)<|.d<|.int r) Q:=by
 have hl:z.length=z.cps.toList.length:=by rw[ŏ];rfl
 have(c,e,m,_):=Ga (xs:=z.cps.toList) h0 (by rw[<-hl];exact h1);unfold so;dsimp only;rw[a4b (by rw[zl];omega),e];exact⟨_,rfl,k c m⟩
theorem NO:∀(zs:Qa Str),(zs.map Ĩ).mapM wz=ž zs
 |[]=>rfl
 |z::zs=>by
  rw[Ċ,ŗ,NO zs];rfl
theorem MN:∀{ys:Qa Str},(∀z∈ys,z.length<=n)->(ys.map (·.length)).sum<=ys.length * n
 |[],_=>by simp
 |y::ys,h=>by
  have:=MN (ys:=ys) λz hz=>h z<|qp _ hz;have:=h y qq;simp only[Ċ,Ė,qv,ϛ];omega
theorem L8{zs:Qa Str}{Q:U->Prop}(h:∀z∈zs,bL n z)(hl:zs.length<=m)(hm:m * n<=1000)(k:bL (m * n) (ζ "" zs)->Q (.d<|.str<|ζ "" zs)):Wo (uM (.d<|.str "")<|.l<|zs.map Ĩ) Q:=by
 have h1:=MN (n:=n) λz hz=>(h z hz).1;have h2:zs.length * n<=m * n:=Á _ hl;unfold uM;dsimp only;rw[NO,bd,a4b (by rw[show(("":Str)).length=0 by decide,Nat.mul_zero];omega)];exact⟨_,rfl,k<|(Z4 h).mono h2⟩
theorem GD:∀(zs:Qa Str),(zs.map Ĩ).mapM vS=ž (zs.map V.str)
 |[]=>rfl
 |z::zs=>by
  rw[Ċ,ŗ,GD zs];rfl
theorem Zh{xs:Qa D}{lo hi:Qb Int}:Ay (.d<|.tuple xs) lo hi=ž (.d<|.tuple<|kZ xs lo hi):=rfl
theorem UT{i:Int}:i7 "int" (.d<|.int i)=ž (.d<|.bool ż):=rfl
theorem US{i:Int}:i7 "bool" (.d<|.int i)=ž (.d<|.bool Ż):=rfl
theorem UR{xs:Qa D}:i7 "tuple" (.d<|.tuple xs)=ž (.d<|.bool ż):=rfl
theorem Zg{a b:String}:(Ϭ a=Ϭ b)=(a=b):=propext ⟨λh=>by
 rw[a0P,a0P]at h;have h1:=congrArg (λz:Str=>z.cps.toList) h;dsimp only at h1;exact String.toList_inj.mp<|a3p (λx y e=>Char.ext<|UInt32.toNat_inj.mp e) |>.mp h1,λh=>by rw[h]⟩
structure gA (k M:Nat) (d:D):Prop where
 lay:d.canLay0=ż
 iP:d.depth<=k
 shw:d.showable=ż
 len:d.shown.length<=M
theorem gA.mono{k M k' M':Nat}{d:D}(h:gA k M d)(h1:k<=k')(h2:M<=M'):gA k' M' d:=⟨h.lay,qA h.iP h1,h.shw,qA h.len h2⟩
theorem F9{i:Int}(h:i.natAbs < 10^n)(h0:0 < n:=by decide)(h1:n<=470:=by decide):gA 0 (n+1) (.int i):=by
 refine⟨rfl,by simp[Ϯ],?_,?_⟩
 .show decide (i.natAbs.log2 < 1920)=ż
  refine a4d ?_
  by_cases z:i.natAbs=0
  .rw[z];decide
  .have e1:10^n<=16^n:=a3o (by decide) n
   have e2:16^n=2^(4 * n):=by rw[Nat.pow_mul]
   have e3:i.natAbs < 2^(4 * n):=by rw[<-e2];exact qi h e1
   exact qi ((a3g z).mpr e3) (by omega)
 .show(Ϭ<|toString i).length<=n+1
  rw[PySem.ofString_length];exact PySem.int_text_length_le10 h0 h
theorem XG{z:Str}(h:bL n z):gA 0 (10 * n+2) (.str z):=by
 refine⟨?_,by simp[Ϯ],rfl,?_⟩
 .show z.cps.all (· < 0x110000)=ż
  rw[Array.all_eq_true'];intro c hc;have:=h.2 c (Array.mem_toList_iff.mpr hc);exact a4d (by omega)
 .have:=PySem.StrLaws.reprText_len z λc hc=>ý (h.2 c hc) (by decide)
  have:=h.1;show(reprText z).length<=_;omega
theorem F8{k M:Nat}:∀{ds:Qa D},(∀d∈ds,gA k M d)->Ϛ ds=ż/\θ ds<=k/\a2S ds=ż/\((Ŧ ds).map (·.length)).sum+2 * ds.length<=ds.length * (M+2)
 |[],_=>⟨rfl,by simp[θ],rfl,by simp[Ŧ]⟩
 |d::ds,h=>by
  have(a0,a1,a2,a3):=F8 (ds:=ds) λx hx=>h x<|qp _ hx;have(b0,b1,b2,b3):=h d qq;refine⟨?_,?_,?_,?_⟩
  .show(d.canLay0 && Ϛ ds)=ż
   rw[a0,b0];rfl
  .simp only[θ]
   omega
  .show(d.showable && a2S ds)=ż
   rw[a2,b2];rfl
  .show((d.shown::Ŧ ds).map (·.length)).sum+_<=_
   rw[Ċ,Ė,qv,ϛ,Nat.one_mul];omega
theorem xD{k M:Nat}{ds:Qa D}(h:∀d∈ds,gA k M d)(hn:ds.length<=n):gA (k+1) (n * (M+2)+3) (.tuple ds):=by
 have(a0,a1,a2,a3):=F8 h;refine⟨a0,?_,a2,?_⟩
 .simp only[Ϯ]
  omega
 .have:=tupleText_len_le (Ŧ ds)
  have e:=a2k ds;have m:ds.length * (M+2)<=n * (M+2):=Á _ hn;show(tupleText<|Ŧ ds).length<=_;omega
theorem Zf{k M:Nat}{ds:Qa D}(h:∀d∈ds,gA k M d)(hn:ds.length<=n):gA (k+1) (n * (M+2)+3) (.list ds):=by
 have(a0,a1,a2,a3):=F8 h;refine⟨a0,?_,a2,?_⟩
 .simp only[Ϯ]
  omega
 .have:=listText_len_le (Ŧ ds)
  have e:=a2k ds;have m:ds.length * (M+2)<=n * (M+2):=Á _ hn;show(listText<|Ŧ ds).length<=_;omega
theorem gA.shaped{k M:Nat}{d:D}(h:gA k M d)(hk:k<=64):ń d=ż:=by
 unfold ń;rw[h.lay,Bool.true_and];exact a4d<|qA h.iP hk
theorem gA.RE{k M k' M':Nat}{a b:D}{neg:Bool}(ha:gA k M a)(hb:gA k' M' b)(hk:k<=64)(hW:k'<=64):iV neg (.d a) (.d b)=ž (.d<|.bool (if neg=ż then !PyData.eqv a b else ϴ a b)):=by
 have ea:U.py (.d a)=ž a:=rfl;have eb:U.py (.d b)=ž b:=rfl;unfold iV;rw[ea,bd,eb,bd,a4b ⟨ha.shaped hk,hb.shaped hW⟩]
section
noncomputable def zC7:U->Qb U
 |.d (.int i)=>if i.natAbs.log2 < 1920 then ž (.d<|.str<|toString i)else Ž
 |.d (.str z)=>if z.length<=ċ then ž (.d<|.str z)else Ž
 |_=>Ž
abbrev MJ:=En->Str->Qb (Str×En)
def U.sr:U->Qb Str
 |.d (.str z)=>ž z
 |_=>Ž
end
end Internal
namespace Internal
open PySem PySem.Spec PyProof.Rows PySem.NumText
noncomputable abbrev ts(n:Int):Str:=Ϭ (toString n)
end Internal
namespace Internal
open PySem PySem.Spec PyProof.Rows
section
variable{X:Cx}{f:Ĥ}{tx:TE}{k:Nat}
theorem XF(hr:aK k X.A)(ho:Wr (PE X o td))(he:Wr (PE X e ty))(hf:Wr (PE X f tx))(m:M2 X o "get" apos e f bq):Wr (PE X (.Call (.Attribute o "get" apos) [e,f] [] bq)<|Fj X.K td ty tx):=⟨Zu (Ba hr) ho.run he.run hf.run m⟩
end
section
def uK:U->Bool
 |.t _=>ż
 |.k _=>ż
 |.d (.dict ao)=>HM ao
 |_=>Ż
theorem Ze{x:V}{u:U}(h:Rp K H x u)(e:uK u=ż):∃a,x=.ref a/\Jm H a:=by
 unfold uK at e;split at e
 .have(a,ws,rfl,h1,_):=h
  exact⟨a,rfl,.inr ⟨_,.inl h1⟩⟩
 .have(a,ws,rfl,h1,_):=h
  exact⟨a,rfl,.inl ⟨_,.inl h1⟩⟩
 .have(a,ob,ws,rfl,h1,_):=DF.jZ h e
  exact⟨a,rfl,.inr ⟨_,.inr ⟨ob,h1⟩⟩⟩
 .cases e
def xo(md my mx:ME):ME:=λρ=>(md ρ).bind λp=>(p.1.get p.2).bind λu0=>if uK u0=ż then(my p.2).bind λq=>(mx q.2).bind λz=>(p.1.get z.2).bind λu=>(q.1.get z.2).bind λy=>(z.1.get z.2).bind λx=>(nH u y).bind λo=>match x with
 |.d x=>ž (.u<|.d<|o.getD x,z.2)
 |_=>Ž else Ž
theorem XE{tx:TE}{md my mx:ME}(hd:VE K td md)(hy:VE K ty my)(hx:VE K tx mx):VE K (Fj K td ty tx) (xo md my mx):=by
 intro ρ σ H a au Q r e q;obtain⟨⟨a1,aw⟩,e1,e⟩:=bQ e;have(u0,e0,e):=bQ e;split at e
 rotate_left
 .cases e
 rename_i hu0;obtain⟨⟨b1,aD⟩,e2,e⟩:=bQ e;obtain⟨⟨c1,iB⟩,e3,e⟩:=bQ e;have(u,eu,e):=bQ e;have(y,ey,e):=bQ e;have(x,ex,e):=bQ e;have(o,eo,e):=bQ e;split at e
 rotate_left
 .cases e
 cases e;refine hd ρ σ H a1 aw _ r e1 λv1 H1 g1 k1=>?_;have(b,rfl,hb):=Ze (k1.now r g1 e0) hu0;refine⟨b,rfl,hb,hy aw σ H1 b1 _ _ g1.rs e2 λv2 H2 g2 k2=>hx aD σ H2 c1 _ _ g2.rs e3 λv3 H3 g3 k3=>?_⟩;have(b',eb,h):=LS (k1.later r g1 (g2.trans g3) eu) (k2.later g1.rs g2 g3 ey) eo;cases eb;have p3:=k3.now g2.rs g3 ex;rcases h with⟨w,d',rfl,g,p⟩|⟨rfl,g⟩
 .exact⟨_,g,q w H3 ((g1.trans g2).trans g3) ⟨p,Nw.data⟩⟩
 .exact⟨_,g,q v3 H3 ((g1.trans g2).trans g3) ⟨p3,Nw.data⟩⟩
end
theorem Zd:Manifest.canonical (String.map (λc=>if(c.isAlphanum || c=='_' || c=='.')=ż then c else '_') "dict_itemiterator.__iter__") ++ "" = "dict_keyiterator.__iter__":=by decide +kernel
theorem Zc:entryFor table "dict_itemiterator.__iter__"=ž Builtin.«dict_keyiterator.__iter__»:=entryFor_alias (by kernel_rfl) (by kernel_rfl) Zd (by kernel_rfl)
section
variable{w:Qh}{s:Qd}{d:Qg}{ok ov:Qc}
theorem wK{T:Qc}{vs:Array Qc}{x:Qc}{Q:Unit->Qd->Prop}(e:s.heap.get? it=ž {cls:=T,data:=.fields vs})(hj:j < vs.size)
  (q:∀h':Ĭ,h'.get? it=ž {cls:=T,data:=.fields (vs.setIfInBounds j x)}->h'.objs.size=s.heap.objs.size->(∀b o,b≠it->s.heap.get? b=ž o->h'.get? b=ž o)->Q () {s with heap:=h'}):đ (Ĕ prog w) A (setField (.ref it) j x) Q E s:=by
 refine a0K e rfl hj<|q _ ?_ ?_ λb o hb z=>?_
 .exact a0e _ e (a2U<|a0Q rfl _)
 .exact a3O ..
 .exact((ă ..).2 b hb).trans z
theorem zpA{Q:Qb Qc->Qd->Prop}(k:a2M s.heap it d i es.size ep ok ov)(r:sF s.heap d es ep){x:a2c}(hx:es[i]?=ž x)
  (q:∀h':Ĭ,IsItemIterOut h' it d (i+1) es.size ep x.key x.val s.heap.objs.size->h'.get? s.heap.objs.size=ž {cls:=.type "tuple",data:=.seq #[x.key,x.val]}->(∀b o,b≠it->s.heap.get? b=ž o->h'.get? b=ž o)->Q (ž<|.ref s.heap.objs.size) {s with heap:=h'}):đ (Ĕ prog w) A (a2A<|.ref it) Q E s:=by
 have kT:s.TypeIs (.ref it) "dict_itemiterator":=⟨_,k,rfl⟩;have(o,e,_,dat):=r;have kK:s.heap.objs.size≠it:=ī (qj<|qh k);unfold a2A;refine qa<|wpAny_attempt (ĺ (name:=Ţ "__next__") kT Ö
  (İ Ö kT a1O ?_<|a1A _))
 refine qa<|qb<|qa<|qa ?_;refine qa<|ũ kT<|qb<|qa<|wpAny_fieldsOf k rfl ?_;simp only[show ϒ "dict_itemiterator"=ż by decide,if_true];show đ _ _ (if(Ĝ d==Ħ)=ż then _ else _) _ _ s;rw[a4c (show ¬((Ĝ d==Ħ)=ż) from qf)];refine qa<|qb<|qa<|a1D e dat ?_;rw[a4c (by simp)];refine qa<|qb<|qa<|a2p e dat ?_;rw[a4c (by simp)];refine qb ?_;simp only[show ¬((i:Int) < 0) from by omega,if_false,į,hx];refine qa<|qa<|ũ kT<|qb<|qa<|a0o kT ?_;show đ _ _ (setField (.ref it) 3 (a2z<|(i:Int)+1) >>= _) _ _ s;refine qa<|wK k (by simp) λh1 k1 z1 f1=>?_;refine qa<|Ķ ?_;have Q2:Shared.TypeIs {s with heap:=h1} (.ref it) "dict_itemiterator":=⟨_,k1,rfl⟩;refine qa<|a0o Q2 ?_;show đ _ _ (a3S (.ref it) _ >>= _) _ _ _;refine qa<|a0o Q2 ?_;show đ _ _ (Τ (.ref it) 6 x.key x.val) _ _ _;unfold Τ;simp only[newTuple];refine qa<|qB ?_ (by show(2:Nat)<=ċ;decide);have k2:(h1.push {cls:=.type "tuple",data:=.seq #[x.key,x.val]}).get? it=_:=qd _ k1;have t2:(h1.push {cls:=.type "tuple",data:=.seq #[x.key,x.val]}).get? h1.objs.size=_:=qg _ rfl;have f2:∀b o,b≠it->s.heap.get? b=ž o->(h1.push {cls:=.type "tuple",data:=.seq #[x.key,x.val]}).get? b=ž o:=λb o hb z=>qd _<|f1 b o hb z;rw[z1]at t2;show đ _ _ _ _ _ {s with heap:=h1.push {cls:=.type "tuple",data:=.seq #[x.key,x.val]}};generalize h1.push {cls:=.type "tuple",data:=.seq #[x.key,x.val]}=h2 at k2 t2 f2 ⊢;rw[z1];unfold a3Q;refine qa<|qa<|Ń k2 rfl (x:=.none) rfl<|qb ?_;show đ _ _ (if ż=ż then _ else _) _ _ _;rw[a4b rfl];show đ _ _ (field (.ref it) 6 >>= _) _ _ _;refine qa<|Ń k2 rfl (x:=ok) rfl ?_;refine qa<|Ń k2 rfl (x:=ov) rfl ?_;refine qa<|wK k2 (by simp) λh3 k3 z3 f3=>?_;refine qa<|wK k3 (by simp) λh4 k4 z4 f4=>?_;refine qa<|wK k4 (by simp) λh5 k5 z5 f5=>?_;refine qa<|wK k5 (by simp) λh6 k6 z6 f6=>?_;refine qa<|wpAny_letGo<|qb<|qb ⟨_,rfl,qb<|q _ ?_ ?_ λb o hb z=>?_⟩
 .show h6.get? it=_
  rw[k6];rfl
 .exact f6 _ _ kK (f5 _ _ kK<|f4 _ _ kK<|f3 _ _ kK t2)
 .exact f6 b o hb (f5 b o hb<|f4 b o hb<|f3 b o hb<|f2 b o hb z)
theorem Zb{Q:Qb Qc->Qd->Prop}(hh:A.handled=Ž)(k:a2M s.heap it d i es.size ep ok ov)(r:sF s.heap d es ep)(hx:es.size<=i)
  (q:∀h':Ĭ,Heap.ExtBut it s.heap h'->Q Ž {s with heap:=h'}):đ (Ĕ prog w) A (a2A<|.ref it) Q E s:=by
 have kT:s.TypeIs (.ref it) "dict_itemiterator":=⟨_,k,rfl⟩;have(o,e,_,dat):=r;unfold a2A;refine qa<|wpAny_attempt (ĺ (name:=Ţ "__next__") kT Ö
  (İ Ö kT a1O ?_<|a1A _))
 refine qa<|qb<|qa<|qa ?_;refine qa<|ũ kT<|qb<|qa<|wpAny_fieldsOf k rfl ?_;simp only[show ϒ "dict_itemiterator"=ż by decide,if_true];show đ _ _ (if(Ĝ d==Ħ)=ż then _ else _) _ _ s;rw[a4c (show ¬((Ĝ d==Ħ)=ż) from qf)];refine qa<|qb<|qa<|a1D e dat ?_;rw[a4c (by simp)];refine qa<|qb<|qa<|a2p e dat ?_;rw[a4c (by simp)];refine qb ?_;simp only[show ¬((i:Int) < 0) from by omega,if_false,į,Array.getElem?_eq_none hx];refine qa<|qa<|ũ kT<|qb ?_;show đ _ _ (setField (.ref it) 2 .none >>= _) _ _ s;refine qa<|a0K k rfl (by simp) ?_;show đ _ _ (newExc (.type "StopIteration") [] >>= _) _ _ _;refine qa ?_;simp only[newExc,newTuple];refine qa<|qB ?_ (by show(0:Nat)<=ċ;exact Ê _);refine qa (m:=a0M _ _)<|wpAny_of_eq (a:=Ħ) (by first|rfl | (simp only[a0M];rfl)) ?_;refine qB ?_ (by first|trivial|size_fits);simp only[raiseNew];refine qa<|wpAny_handled ?_;rw[show A.in1.handled=Ž from hh];refine qa<|qb<|wpAny_throw ?_;refine qa<|a1U (T := "StopIteration") (b:=ż) ⟨_,qg _ rfl,rfl⟩ isSubtype_stop ?_;exact qb<|q _<|((ă ..).extBut.push _).push _
theorem zpB(hd:(d==Ŀ)=Ż)(r:sF s.heap d es ep)
  (q:Q (.ref s.heap.objs.size) {s with heap:=s.heap.push {cls:=.type "dict_items",data:=.fields #[.ref d]}}):đ (Ĕ prog w) A (call (.builtin "dict.items") [.ref d]) Q E s:=by
 have hT:=r.typeIs;have(o,e,_,dat):=r;refine İ F.slot_dict_items hT F.entry_dict_items ?_<|F.args_dict_items_1 _;unfold Builtin.«dict.items» Builtin.Dict.noArgs;refine qa<|qa<|wpAny_notOrdered_dict hT ?_;refine qa<|qb ?_;refine qa<|qb<|qb ?_;unfold Builtin.Dict.showsAll;rw[hd,a4c qf];refine qa<|qb ?_;unfold newFields;exact qa<|qB<|qb ⟨_,rfl,q⟩
theorem zpC{v:Qg}(hv:s.heap.IsItemsView v d)(r:sF s.heap d es ep)
  (q:∀h':Ĭ,a2M h' s.heap.objs.size d 0 es.size ep .none .none->(∀b o,s.heap.get? b=ž o->h'.get? b=ž o)->Q (.ref s.heap.objs.size) {s with heap:=h'}):đ (Ĕ prog w) A (pyIter<|.ref v) Q E s:=by
 have(o,e,_,dat):=r;have(o2,e2,c2,d2):=id hv;have hT:=hv.typeIs (s:=s);refine wpAny_pyIter_slot hT a3j<|İ a3j hT F.entry_dict_items_iter ?_<|F.args_dict_items_iter_1 _;unfold Builtin.«dict_items.__iter__»;refine qa<|qb ?_;unfold a3T;refine qa<|qa<|Ń e2 d2 (x:=.ref d) rfl<|qb ?_;unfold a3R;refine qa<|qa<|a1D e dat<|qa<|a2p e dat ?_;unfold newFields;refine qB (qb ⟨_,rfl, "dict_itemiterator",_,⟨_,qg _ rfl,rfl⟩,Ö.lookup,?_⟩) (by rw[show ϒ "dict_itemiterator"=ż by decide,a4b rfl];show(8:Nat)<=ċ+2;decide);exact q _ (qg _ rfl) λb o z=>qd _ z
end
noncomputable def hK:Key->Int
 |.inl i=>hashInt i
 |.inr _=>0
def hT(ks:Qa Key):Int:=reduceHash (ĳ<|ks.map hK)
def A2(i j:Int):Prop:=i.natAbs.log2 < 1000000/\j.natAbs.log2 < 1000000
theorem MM{n:Int}(h:n.natAbs.log2 < 1000000):Builtin.Int.intBits n<=2^20:=by
 refine intBits_le ?_
 by_cases z:n.natAbs=0
 .rw[z];exact Nat.two_pow_pos _
 .exact qi ((a3g z).mp h) (Í (by decide) (by decide))
section
variable{X:Cx}
theorem og:cp X (ώ .Mult) (rI A2 λi j=>.int<|i * j):=vy λ_ _ _ _ _ _ _ hc q=>mul_int q<|IntMulOk.of_bits (MM hc.1)<|MM hc.2
end
section
def lq:=oN A2 λi j=>.int<|i * j
theorem n9:VO K (rI A2 λi j=>.int<|i * j) lq:=uG λi j H=>.int _
noncomputable def A1:Qa U->Qb U
 |[.d<|.int i,.d<|.int j]=>ž<|.d<|.int (if j < i then j else i)
 |_=>Ž
theorem XD:VC K (λxs H Q=>∃i j,xs=[.int i,.int j]/\Q (.int (if j < i then j else i)) H) A1:=by
 intro vs us u H Q hr e q;unfold A1 at e;split at e
 .rename_i i j
  cases e;cases hr with
  |cons h1 t=>
   cases t with
   |cons h2 t=>
    cases t;cases DF.int_inv h1;cases DF.int_inv h2;exact⟨i,j,rfl,q _ _ (λ_ _ z=>z) (.int _) Nw.data⟩
 .cases e
end
section
variable{ρ:En}{me ma mb mc mk mi md my mv mx mo:ME}{mA mK:MA}{mt mu:MT}{mI:MI}{mg:MG}{m1 m2:MS}{u:U}{x:D}
variable{QE:Ar×En->Prop}{QI:Qa D×En->Prop}
theorem zlf:Wo (xo md my mx ρ) QE=Wo (md ρ) (Co (λp=>(p.1.get p.2).bind λu0=>if uK u0=ż then(my p.2).bind λq=>(mx q.2).bind λz=>(p.1.get z.2).bind λu=>(q.1.get z.2).bind λy=>(z.1.get z.2).bind λx=>(nH u y).bind λo=>x.da.bind λx=>ž (.u<|.d<|o.getD x,z.2)else Ž) ⟨0⟩ QE):=by
 have e:xo md my mx ρ=(md ρ).bind λp=>(p.1.get p.2).bind λu0=>if uK u0=ż then(my p.2).bind λq=>(mx q.2).bind λz=>(p.1.get z.2).bind λu=>(q.1.get z.2).bind λy=>(z.1.get z.2).bind λx=>(nH u y).bind λo=>x.da.bind λx=>ž (.u<|.d<|o.getD x,z.2)else Ž:=by
  unfold xo;refine bind_fn λp=>bind_fn λu0=>?_;split
  .refine bind_fn λq=>bind_fn λz=>bind_fn λu=>bind_fn λy=>bind_fn λx=>bind_fn λo=>?_
   cases x<;>rfl
  .rfl
 rw[e,zt]
theorem zn0{ao:Qa (Key×D)}:uK (.k ao)=ż:=rfl
theorem Za{a:Int}:A1 [.d<|.int a,.d<|.int b]=ž (.d<|.int (if b < a then b else a)):=rfl
theorem nW{a:Int}(h:a.natAbs.log2 < 1000000)(h2:b.natAbs.log2 < 1000000):lq (.d<|.int a) (.d<|.int b)=ž (.d<|.int<|a * b):=uN (c:=A2) ⟨h,h2⟩
theorem K6{g:α->D}{b:α->Bool}{e:α->D}{as:Qa α}{Q:Qa D×En->Prop}(hz:as.length<=ċ)
  (st:∀a∈as,∀ys,Wo (mg (g a) ρ)<|Co mt ⟨0⟩<|vE nt me ys λau zs=>au=ρ/\zs=if b a=ż then ys++[e a]else ys) (q:Q ((as.filter b).map e,ρ)):Wo (iK nt mg mt me (as.map g) ρ []) Q:=by
 refine A3 (λi au ys=>au=ρ/\ys=((as.take i).filter b).map e) (by rw[ĉ];exact hz) (λi au ys h=>?_) ⟨rfl,rfl⟩ (λi d au ys hd h=>?_) λau ys h=>?_
 .rw[h.2,ĉ]
  exact qA (þ _ _) (by rw[ě];exact a1M _ _)
 .have(rfl,rfl):=h
  rw[Č]at hd;have(a,ha,rfl):=qt.mp hd;have:=st a (Ñ ha) (((as.take i).filter b).map e);have en:((as.take<|i+1).filter b).map e=if b a=ż then((as.take i).filter b).map e++[e a]else((as.take i).filter b).map e:=by
   rw[a0i,ha,a3r,Ē];show _++(([a]:Qa α).filter b).map e=_;rw[δ];split<;>simp
  rw[en];exact this
 .have(rfl,rfl):=h
  rw[ĉ,Ϝ<|qe _];exact q
end
end Internal
namespace Internal
open PySem
noncomputable def mn(n d:Int):Int:=(if d < 0 then -n else n) / (ē n d:Nat)
noncomputable def lh(n d:Int):Int:=(if d < 0 then -d else d) / (ē n d:Nat)
theorem zpD{n d:Int}(hd:d≠0):mn n d * d=n * lh n d/\1<=lh n d/\ē (mn n d) (lh n d)=1/\lh n d<=d.natAbs/\(mn n d).natAbs<=n.natAbs:=by
 have hg:0 < ē n d:=Ë n hd;have(u,hu):=Ā n d;have(v,hv):=ü n d;have Ri:(0:Int) < (ē n d:Nat):=Int.natCast_pos.mpr hg;have hc:ē (n / (ē n d:Nat)) (d / (ē n d:Nat))=1:=ß hg;unfold mn lh;generalize (ē n d:Nat)=g at *;have Dk:(g:Int)≠0:=by omega
 have eu:n / (g:Int)=u:=by rw[hu];exact É u Dk
 have ev:d / (g:Int)=v:=by rw[hv];exact É v Dk
 have RD:(-n) / (g:Int)=-u:=by rw[hu,<-ϭ];exact É (-u) Dk
 have l7:(-d) / (g:Int)=-v:=by rw[hv,<-ϭ];exact É (-v) Dk
 rw[eu,ev]at hc;have g1:1<=g:=hg;have an:n.natAbs=g * u.natAbs:=by rw[hu,ň];rfl
 have ad:d.natAbs=g * v.natAbs:=by rw[hv,ň];rfl
 have lu:u.natAbs<=n.natAbs:=by rw[an];exact Î _ hg
 have lv:v.natAbs<=d.natAbs:=by rw[ad];exact Î _ hg
 by_cases c:d < 0
 .rw[a4b c,a4b c,RD,l7]
  have hv0:v < 0:=by
   rcases(by omega:v < 0\/0<=v)with z|z
   .exact z
   .have:=a0s (í Ri) z
    omega
  refine⟨?_,by omega,?_,by omega,by omega⟩
  .rw[hu,hv]
   simp only[Int.neg_mul,ϭ,Int.neg_inj]
   ac_rfl
  .rw[Int.neg_gcd,Int.gcd_neg]
   exact hc
 .rw[a4c c,a4c c,eu,ev]
  have hv0:0 < v:=by
   rcases(by omega:0 < v\/v<=0)with z|z
   .exact z
   .have:=a0s (í Ri) (show 0<=-v by omega)
    rw[ϭ,<-hv]at this;omega
  refine⟨?_,by omega,hc,by omega,by omega⟩;rw[hu,hv]
  ac_rfl
theorem GC{n d N D:Int}(hd:d≠0)(h1:1<=D)(hc:ē N D=1)(he:N * d=n * D):N=mn n d/\D=lh n d:=by
 have(e,y1,c,_,_):=zpD (n:=n) hd;generalize mn n d=x at *;generalize lh n d=y at *;have k:N * y=x * D:=by
  have z:(N * y) * d=(x * D) * d:=by grind
  exact ā hd z
 have d1:D∣y:=by
  have t:D∣N * y:=⟨x,by rw[k];ac_rfl⟩;have u:=î.mpr t;rw[ω,hc]at u;simpa using u
 have d2:y∣D:=by
  have t:y∣x * D:=⟨N,by rw[<-k];ac_rfl⟩;have u:=î.mpr t;rw[ω,c]at u;simpa using u
 have l1:=Int.le_of_dvd (by omega) d1;have l2:=Int.le_of_dvd (by omega) d2;have e2:D=y:=by omega
 refine⟨?_,e2⟩;rw[e2]at k;exact ā (by omega) k
theorem XB{a c d:Int}(hb:1<=b)(hd:1<=d)(ca:ē a b=1)(cc:ē c d=1){g t l:Int}(eg:g=(ē b d:Nat))(et:t=a * (d / g)+c * (b / g))(el:l=(ē t g:Nat)):
  t / l=mn (a * d+c * b) (b * d)/\b / g * (d / l)=lh (a * d+c * b) (b * d):=by
 have gp:0 < ē b d:=Ë b (by omega);have g0:0 < g:=by omega
 obtain⟨u,hu⟩:g∣b:=by rw[eg];exact Ā b d
 obtain⟨v,hv⟩:g∣d:=by rw[eg];exact ü b d
 have eu:b / g=u:=by rw[hu];exact É u (by omega)
 have ev:d / g=v:=by rw[hv];exact É v (by omega)
 have Du:ē u v=1:=by
  have z:=ß gp;rw[<-eg,eu,ev]at z;exact z
 have lp:0 < ē t g:=Ë t (by omega);obtain⟨s,hs⟩:l∣t:=by rw[el];exact Ā t g
 obtain⟨k,hk⟩:l∣g:=by rw[el];exact ü t g
 have l0:0 < l:=by omega
 have es:t / l=s:=by rw[hs];exact É s (by omega)
 have ek:g / l=k:=by rw[hk];exact É k (by omega)
 have ed:d / l=k * v:=by rw[hv,hk,Int.mul_assoc];exact É _ (by omega)
 have csk:ē s k=1:=by
  have z:=ß lp;rw[<-el,es,ek]at z;exact z
 rw[es,eu,ed];rw[eu,ev]at et;have cau:ē a u=1:=by
  have z:ē a u∣ē a b:=ê a ⟨g,by rw[hu];ac_rfl⟩;rw[ca]at z;exact Nat.dvd_one.mp z
 have ccv:ē c v=1:=by
  have z:ē c v∣ē c d:=ê c ⟨g,by rw[hv];ac_rfl⟩;rw[cc]at z;exact Nat.dvd_one.mp z
 have ctu:ē t u=1:=by
  rw[et,a2b,ϐ cau,ω];exact Du
 have ctv:ē t v=1:=by
  rw[et,Int.add_comm,a2b,ϐ ccv];exact Du
 have csu:ē s u=1:=by
  have z:ē s u∣ē t u:=ï u ⟨l,by rw[hs];ac_rfl⟩;rw[ctu]at z;exact Nat.dvd_one.mp z
 have csv:ē s v=1:=by
  have z:ē s v∣ē t v:=ï v ⟨l,by rw[hs];ac_rfl⟩;rw[ctv]at z;exact Nat.dvd_one.mp z
 have k0:0 < k:=á (by rw[<-hk];exact g0) l0;have u0:0 < u:=á (by rw[<-hu];omega) g0;have v0:0 < v:=á (by rw[<-hv];omega) g0;refine GC (ø (by omega) (by omega)) ?_ ?_ ?_
 .have:=a3h u0 (a3h k0 v0)
  omega
 .rw[ŋ csu,ŋ csk]
  exact csv
 .have e1:a * d+c * b=g * t:=by rw[et];grind
  rw[e1];grind
theorem XA{a c d:Int}(hb:1<=b)(hd:1<=d)(ca:ē a b=1)(cc:ē c d=1){g h:Int}(eg:g=(ē a d:Nat))(eh:h=(ē c b:Nat)):
  a / g * (c / h)=mn (a * c) (b * d)/\b / h * (d / g)=lh (a * c) (b * d):=by
 have gp:0 < ē a d:=Ë a (by omega);have hp:0 < ē c b:=Ë c (by omega);have g0:0 < g:=by omega
 have h0:0 < h:=by omega
 obtain⟨u,hu⟩:g∣a:=by rw[eg];exact Ā a d
 obtain⟨v,hv⟩:g∣d:=by rw[eg];exact ü a d
 obtain⟨x,hx⟩:h∣c:=by rw[eh];exact Ā c b
 obtain⟨y,hy⟩:h∣b:=by rw[eh];exact ü c b
 have eu:a / g=u:=by rw[hu];exact É u (by omega)
 have ev:d / g=v:=by rw[hv];exact É v (by omega)
 have ex:c / h=x:=by rw[hx];exact É x (by omega)
 have ey:b / h=y:=by rw[hy];exact É y (by omega)
 have Du:ē u v=1:=by
  have z:=ß gp;rw[<-eg,eu,ev]at z;exact z
 have cxy:ē x y=1:=by
  have z:=ß hp;rw[<-eh,ex,ey]at z;exact z
 have cuy:ē u y=1:=by
  have z:ē u y∣ē a b:=Nat.dvd_trans (ï y ⟨g,by rw[hu];ac_rfl⟩) (ê a ⟨h,by rw[hy];ac_rfl⟩);rw[ca]at z;exact Nat.dvd_one.mp z
 have cxv:ē x v=1:=by
  have z:ē x v∣ē c d:=Nat.dvd_trans (ï v ⟨h,by rw[hx];ac_rfl⟩) (ê c ⟨g,by rw[hv];ac_rfl⟩);rw[cc]at z;exact Nat.dvd_one.mp z
 have v0:0 < v:=á (by rw[<-hv];omega) g0;have y0:0 < y:=á (by rw[<-hy];omega) h0;rw[eu,ev,ex,ey];refine GC (ø (by omega) (by omega)) ?_ ?_ ?_
 .have:=a3h y0 v0
  omega
 .rw[ϐ (n:=u) (k:=x)]
  .rw[ŋ cxy];exact cxv
  .rw[ŋ cuy];exact Du
 .grind
theorem ML(n d:Int){g:Int}(hg:0 < g):n.fdiv (if d < 0 then 0 - g else g)=(if d < 0 then -n else n) / g:=by
 split
 .rw[Int.zero_sub,<-Ζ _ (a2N hg)]
  have:=Int.neg_fdiv_neg (-n) g;rw[Int.neg_neg]at this;exact this
 .rw[Ζ _<|a2N hg]
theorem Y9(x y:Int):ē (if x < 0 then -x else x) (if y < 0 then -y else y)=ē x y:=by
 rw[FU];split
 .exact Int.gcd_neg
 .rfl
theorem F7{n d:Int}(hd:d≠0):mn n d=(Ī n d).num/\lh n d=((Ī n d).den:Int):=by
 have h:=GC (n:=n) (d:=d) (N:=(Ī n d).num) (D:=((Ī n d).den:Int)) hd (by have:=(Ī n d).den_pos;omega) (by
  have:=(Ī n d).reduced;exact this) (by
  have e:Ī (Ī n d).num ((Ī n d).den:Int)=Ī n d:=a0O _;rw[Rat.divInt_eq_divInt_iff (by have:=(Ī n d).den_pos;omega) hd]at e;rw[e])
 exact⟨h.1.symm,h.2.symm⟩
noncomputable def fR(r:Rat):D:=.tuple [.int r.num,.int (r.den:Int)]
theorem SN{n d:Int}(hd:d≠0):ϙ [.int<|mn n d,.int<|lh n d]=fR (Ī n d):=by
 have(e1,e2):=F7 (n:=n) hd;rw[e1,e2];rfl
theorem qL(r:Rat):1<=(r.den:Int):=by have:=r.den_pos;omega
theorem vV(r:Rat):ē r.num (r.den:Int)=1:=by
 have:=r.reduced;exact this
theorem Mg(a b:Rat):Ī (a.num * b.den+b.num * a.den) ((a.den:Int) * b.den)=a+b:=by
 rw[Rat.add_def',<-a3V,a0d]
theorem Mf(a b:Rat):Ī (a.num * b.num) ((a.den:Int) * b.den)=a * b:=by
 rw[Rat.mul_def',<-a3V,a0d]
theorem GB(r:Rat):r * (r.den:Rat)=(r.num:Rat):=by
 have e:(r.num:Rat) / ((r.den:Int):Rat)=r:=by rw[<-a3I];exact a0O r
 have n:((r.den:Int):Rat)≠0:=λh=>by
  have:=Ć.mp (show((r.den:Int):Rat)=((0:Int):Rat) from h);have:=r.den_pos;omega
 have:=Rat.div_mul_cancel (a:=(r.num:Rat)) n;rw[e]at this;exact this
def Bd(M B:Nat)(r:Rat):Prop:=∃k:Int,r * (M:Rat)=(k:Rat)/\k.natAbs<=B
section
variable{M N B C:Nat}{r s:Rat}
theorem Bd.le(h:Bd M B r)(c:B<=C):Bd M C r:=let ⟨k,e,b⟩:=h;⟨k,e,qA b c⟩
theorem Bd.size(hM:0 < M)(h:Bd M B r):r.den<=M/\r.num.natAbs<=B:=by
 have(k,e,b):=h;have e2:r.num * (M:Int)=k * (r.den:Int):=by
  have h1:=GB r;have h2:((r.num * (M:Int):Int):Rat)=((k * (r.den:Int):Int):Rat):=by
   rw[Ō,Ō,<-h1,<-e,Ő,Ő,Ů,Ů,a1d (r.den:Rat)]
  exact Ć.mp h2
 have dv:(r.den:Int)∣(M:Int):=by
  have t:(r.den:Int)∣r.num * (M:Int):=⟨k,by rw[e2,Int.mul_comm]⟩;have u:=î.mpr t;rw[ω,vV]at u;simpa using u
 have(c,hc):=dv;have dp:(0:Int) < r.den:=by have:=r.den_pos;omega
 have c0:0 < c:=by
  rcases(by omega:0 < c\/c<=0)with z|z
  .exact z
  .have:=a0s (í dp) (show 0<=-c by omega)
   rw[ϭ,<-hc]at this;omega
 have ek:k=r.num * c:=by
  rw[hc]at e2;have:k * (r.den:Int)=(r.num * c) * (r.den:Int):=by rw[<-e2];ac_rfl
  exact ā (by omega) this
 constructor
 .have:(r.den:Int) * 1<=(r.den:Int) * c:=Int.mul_le_mul_of_nonneg_left (by omega) (by omega)
  omega
 .rw[ek,ň]at b
  exact qA (Æ _ (by omega)) b
theorem Bd.add(h:Bd M B r)(h':Bd M C s):Bd M (B+C) (r+s):=by
 have(k,e,b):=h;have(l,f,c):=h';exact⟨k+l,by rw[Rat.add_mul,e,f,Rat.intCast_add],qA (Int.natAbs_add_le _ _)<|a1Z b c⟩
theorem Bd.mul(h:Bd M B r)(h':Bd N C s):Bd (M * N) (B * C) (r * s):=by
 have(k,e,b):=h;have(l,f,c):=h';refine⟨k * l,?_,by rw[ň];exact Ü b c⟩;rw[Ō,<-e,<-f,a1J];grind
theorem Bd.neg(h:Bd M B r):Bd M B (-r):=by
 have(k,e,b):=h;exact⟨-k,by rw[Rat.neg_mul,e,Rat.intCast_neg],by rw[a2a];exact b⟩
theorem Bd.zero:Bd M B 0:=⟨0,by rw[a1c];rfl,Ê _⟩
theorem Bd.wide(h:Bd M B r)(c:Nat):Bd (M * c) (B * c) r:=by
 have(k,e,b):=h;refine⟨k * c,?_,by rw[ň,Ġ];exact Á _ b⟩;rw[Ō,<-e,a1J,Ő,Ů]
theorem Bd.one:Bd 1 1 1:=⟨1,by rw[a1u];rfl,qe _⟩
end
abbrev Pq(α:Type):=Qa (Qa Int×α)
section
noncomputable def look(p:Pq α)(k:Qa Int):Qb α:=(p.find? λt=>decide<|t.1=k).map (·.2)
noncomputable def wA(p:Pq α)(k:Qa Int)(x:α):Pq α:=if(p.any λt=>decide<|t.1=k)=ż then p.map (λt=>if t.1=k then(t.1,x)else t)else p++[(k,x)]
theorem Wm(p:Pq α)(k:Qa Int)(x:α):(wA p k x).length<=p.length+1:=by
 unfold wA;split
 .rw[ĉ];omega
 .rw[qu];exact qe _
end
def ins(x:Qa Int×α):Pq α->Pq α
 |[]=>[x]
 |y::l=>if fe x.1 y.1=ż then x::y::l else y::ins x l
def CJ:Pq α->Pq α
 |[]=>[]
 |x::l=>ins x<|CJ l
noncomputable def nz(p:Pq Rat):Pq Rat:=p.filter λt=>decide<|t.2≠0
noncomputable def iv(m:Nat)(r:Rat):Int:=r.num * ((m:Int) / (r.den:Int))
theorem Bd.dvd{M B:Nat}{r:Rat}(h:Bd M B r):r.den∣M:=by
 have(k,e,b):=h;have e2:r.num * (M:Int)=k * (r.den:Int):=by
  have h1:=GB r;have h2:((r.num * (M:Int):Int):Rat)=((k * (r.den:Int):Int):Rat):=by
   rw[Ō,Ō,<-h1,<-e,Ő,Ő,Ů,Ů,a1d (r.den:Rat)]
  exact Ć.mp h2
 have t:(r.den:Int)∣r.num * (M:Int):=⟨k,by rw[e2,Int.mul_comm]⟩;have u:=î.mpr t;rw[ω,vV]at u;have u:(r.den:Int)∣(M:Int):=by simpa using u
 exact Int.natCast_dvd_natCast.mp u
noncomputable abbrev kL(ks:Qa Int):Qa Key:=ks.map Ϸ
section
variable{c:α->D}
def vC(c:α->D)(p:Pq α):Qa (Qa Key×D):=p.map λt=>(kL t.1,c t.2)
theorem SM(p:Pq α):(vC c p).length=p.length:=Ô ..
end
theorem UQ{r:Rat}:zx (.d<|fR r) (.d<|.int 0)=ž (.d<|.int r.num):=rfl
theorem UP{r:Rat}:zx (.d<|fR r) (.d<|.int 1)=ž (.d<|.int (r.den:Int)):=rfl
theorem Fx{g:α->D}{e:α->D}{as:Qa α}{mg:MG}{mt:MT}{me:ME}{ρ:En}{Q:Qa D×En->Prop}(hz:as.length<=16777216)
  (st:∀a∈as,∀ys,Wo (mg (g a) ρ)<|Co mt ⟨0⟩<|vE nt me ys λau zs=>au=ρ/\zs=ys++[e a]) (q:Q (as.map e,ρ)):Wo (iK nt mg mt me (as.map g) ρ []) Q:=by
 refine K6 (b:=λ_=>ż) (e:=e) (by rw[wH];exact hz) (λa ha ys=>?_) ?_
 .simp only[if_true]
  exact st a ha ys
 .rw[show as.filter (λ_=>ż)=as from List.filter_eq_self.mpr λ_ _=>rfl]
  exact q
theorem NN(r:Rat):ń (fR r)=ż:=by
 unfold ń fR;simp[a0a,Ϛ,Ϯ,θ]
theorem SK(a b:Rat):ϴ (fR a) (fR b)=decide (a=b):=by
 unfold fR;simp only[ϴ,PyData.eqvAll];rw[ϰ,decide_eq_true_iff];constructor
 .intro h
  simp only[ġ,beq_iff_eq]at h;exact Rat.ext h.1 (by omega)
 .rintro rfl
  simp
theorem F6{a b:Rat}{neg:Bool}:iV neg (.d<|fR a) (.d<|fR b)=ž (.d<|.bool (if neg=ż then !decide (a=b)else decide (a=b))):=by
 show(ž<|fR a).bind _=_;rw[bd];show(ž<|fR b).bind _=_;rw[bd,a4b ⟨NN a,NN b⟩,SK]
theorem K5{r:Rat}(h1:r.num.natAbs < 10^n)(h2:r.den < 10^n)(h0:0 < n:=by decide)(h3:n<=470:=by decide):gA 1 (2 * (n+1+2)+3) (fR r):=by
 refine xD (λd hd=>?_)<|qe _;rcases qw.mp hd with rfl|hd
 .exact F9 h1 h0 h3
 .rw[qr.mp hd]
  exact F9 (by rw[Ġ];exact h2) h0 h3
noncomputable def mon:Qa (Rat×Int)->Rat
 |[]=>1
 |t::l=>t.1^t.2.toNat * mon l
def mono(pt:Qa Rat)(e:Qa Int):Rat:=mon (pt.zip e)
theorem SJ{n d:Int}{M:Nat}(hd:0 < d)(h:d∣(M:Int))(h0:0 < M):Bd M (n.natAbs * M) (Ī n d):=by
 have(c,hc):=h;have c0:0 < c:=by
  rcases(by omega:0 < c\/c<=0)with z|z
  .exact z
  .have:=a0s (í hd) (show 0<=-c by omega)
   rw[ϭ,<-hc]at this;omega
 have dr:((d:Int):Rat)≠0:=λz=>by
  have:=Ć.mp (show((d:Int):Rat)=((0:Int):Rat) from z);omega
 refine⟨n * c,?_,?_⟩
 .have e:(M:Rat)=((d:Int):Rat) * ((c:Int):Rat):=by rw[<-Ō,<-hc,Ő]
  rw[e,a3I,Ō];grind
 .rw[ň]
  refine æ _ ?_;have:1 * c<=d * c:=Int.mul_le_mul_of_nonneg_right (by omega) (by omega);omega
end Internal
namespace Internal
open PySem PySem.Spec PyProof.Rows
open PySem.AutoSeq1 (wpAny_loadPart')
theorem Me{vs:Qa V}{ds:Qa D}(h:aN K H vs ds):∀n:Nat,aN K H (Đ n vs).flatten (Đ n ds).flatten
 |0=>.nil
 |n+1=>by
  rw[ļ,ļ,š,š];exact h.app<|Me h n
end Internal
namespace Internal
open PySem PySem.Spec PyProof.Rows
section
variable{ρ aw au:En}
theorem BH{w:U}{x:D}(h:w.da=ž x):w=.d x:=by
 cases w<;>first | (cases h;rfl) |cases h
end
def Al(K:qc)(a:Qg):It :=
 ⟨λi H=>∃xs x,bE K H a xs/\xs[i]?=ž x,λi H x H'=>∃T,H T=Ž/\x=.ref T/\∀xs v,bE K H a xs->xs[i]?=ž v->H'=upd H T (.tup [.int i,v]),λi H=>∃xs,bE K H a xs/\xs.length=i⟩
theorem zmD{w:Qh}{k:Nat}{pos:Pos}(e it t:Qg)(t8:e≠it)(yx:t≠e)(yw:t≠it):
  Turn P w K (.Tuple elts k pos) (Al K t) [e,it] e (λi h=>(∃old,IsEnum h e it i old)/\h.IsListIter it t i) where
 mem:=by simp
 obj:=λi h st b hb=>by
  obtain⟨⟨old,he⟩,⟨o,ho,_,hd⟩⟩:=st;rcases qw.mp hb with z|z
  .subst z
   exact⟨_,he,λv q=>by
    have q':a0l _=a1o v:=q;cases q'⟩
  .rw[qr.mp z]
   exact⟨o,ho,λv q=>by rw[hd]at q;cases q⟩
 keep:=λi h h' st kk=>by
  obtain⟨⟨old,he⟩,⟨o,ho,hc,hd⟩⟩:=st;exact⟨⟨old,kk e (by simp) _ he⟩,⟨o,kk it (by simp) _ ho,hc,hd⟩⟩
 item:=by
  intro X hP hw hK hc i pins s σ H E I hf st hg;subst hP hw hK;have(xs,x,hq,hx):=hg;have(aq,rv,ht,hz):=I.list hq;have hi:i < aq.toArray.size:=by
   rw[ď,<-rv.length];exact(qm.mp hx).1
  have W:=a3l (prog:=X.prog) (w:=X.w) (A:=X.A) (I.ok.hd hc) e it t t8 yx yw aq.toArray;refine W.item i s _ _ hi ⟨st.1,st.2,ht.isList⟩ λT vals h1 tk hP hT m9 mid kk=>?_;refine⟨_,rfl,W.go elts k pos i T {s with heap:=h1,toks:=tk} _ _ mid λh2 iG tU=>?_⟩;have(tt,u,hu,rfl):=hP;have apart:=W.apart _ _ _ mid;have I2:Inv X pins σ H {s with heap:=h2,toks:=tk}:=I.dD (wr:=[e,it]) (λb o hb q=>tU b o hb<|kk b o hb q) hf;have fT:ir X pins H T:=I.eW hT (I.aF.fresh hT);have ru:zT x u:=by
   have(u',eu,r):=rv.get hx;have:u'=u:=by
    have z:aq[i]?=ž u:=by simpa using hu
    rw[eu]at z;exact qy z
   rw[<-this];exact r
  have(oT,g1,g2,nT,g3):=m9;have I3:Inv X pins σ (upd H T<|.tup [.int i,x]) {s with heap:=h2,toks:=tk}:=I2.mU fT (qA I.sz hT) ⟨by show 2<=ċ;decide,[.int i tt,u],.cons ⟨tt,rfl⟩<|.cons ru .nil,oT,tU T oT apart g1,g2,⟨nT,g3⟩,.inr ⟨_,_,_,rfl⟩⟩;refine⟨.ref T,_,I3,rfl,⟨T,I.aF.fresh hT,rfl,λiF v p4 hv=>?_⟩,⟨?_,iG.2.1⟩,λb hb=>?_⟩
  .have:=I.iJ hq p4
   subst this;rw[hx]at hv;cases hv;rfl
  .exact iG.1
  .have ne:b≠T:=λz=>apart (by rw[<-z];exact hb)
   rw[zu ne];exact(hf b hb).1
 done:=by
  intro X hP hw hK hc i pins s σ H E I hf st hg;subst hP hw hK;have(xs,hq,hl):=hg;have(aq,rv,ht,hz):=I.list hq;have hi:i=aq.toArray.size:=by
   rw[ď,<-rv.length];exact hl.symm
  have W:=a3l (prog:=X.prog) (w:=X.w) (A:=X.A) (I.ok.hd hc) e it t t8 yx yw aq.toArray;refine W.done s _ _ ?_ λh1 tk kk=>⟨rfl,I.dD (wr:=[e,it]) kk hf⟩;rw[<-hi];exact⟨st.1,st.2,ht.isList⟩
 self:=λ_ _ _ _ _ st h=>by
  obtain⟨⟨old,he⟩,_⟩:=st;exact ξ he h
section
variable{X:Cx}{k:Nat}
def K4(K:qc)(ta:TA):TI:=λσ H R=>ta σ H λvs H1=>∃a,vs=[.ref a]/\(∃xs,bE K H1 a xs)/\R (Al K a) H1
theorem Y8{a:Ĥ}{ta:TA}{p pos:Pos}(ha:Wr (PA X [a] ta))(hK:X.K=K:=by rfl)(hg:Gl X "enumerate":=by exact rfl)(hm:X.mg "enumerate"=Ž:=by exact qZ ‹Bl _ _› (by decide))(hs:dz a=ż:=by rfl):
  Wr (PI X (.Tuple elts k pQ) (.Call (.Name "enumerate" p) [a] [] pos)<|K4 K ta):=by
 subst hK;refine⟨?_⟩;intro pins s σ H R I h;refine Call_<|rf I hg hm boot_enumerate<|Ø (aI (ha.run pos pins s σ H _ I h) λus s1 hZ=>?_) (jc hs) rfl;have(vs,H1,I1,r1,q1):=hZ;obtain⟨t,e,⟨xs,hq⟩,q⟩:=q1;subst e;have(u,rfl,ru):=pw r1;cases ru;have(aq,rv,ht,hz):=I1.list hq;have tl:t < s1.heap.objs.size:=by
  have(o,n,e,_):=ht;exact qh e
 refine call_enumerate_list ht.isList λh' he hit _ kk=>?_;have I2:Inv X pins σ H1 {s1 with heap:=h'}:=I1.kept (t':=s1.toks) kk;refine ξ he ?_;refine⟨s1.heap.objs.size+1,[s1.heap.objs.size+1,s1.heap.objs.size],_,_,H1,rfl,I2,zmD (s1.heap.objs.size+1) s1.heap.objs.size t (a3X _) (qj<|Þ tl)<|qj tl,⟨⟨_,he⟩,hit⟩,λb hb=>?_,q⟩;rcases qw.mp hb with z|z
 .subst z
  exact I1.eW (Ð _)<|I1.aF.fresh<|Ð _
 .rw[qr.mp z]
  exact I1.eW (qe _)<|I1.aF.fresh<|qe _
end
noncomputable def u7(hi:Int)(n:Nat):Qa D:=(Ğ n).map λi=>.int<|hi - (i:Nat)
theorem Cm(hi:Int)(n:Nat):(u7 hi n).length=n:=by simp[u7]
theorem GZ{hi:Int}{d:D}(h:(u7 hi n)[i]?=ž d):i < n/\d=.int (hi - (i:Nat)):=by
 have hl:=(qm.mp h).1;rw[Cm]at hl;refine⟨hl,?_⟩;unfold u7 at h;rw[Č,ϳ hl]at h;cases h;rfl
def A8:Qa U->Qb (Qa D)
 |[.d<|.int i,.d<|.int j,.d<|.int (-1)]=>if -(2^62)<=i/\i < 2^62/\-(2^62)<=j/\j < 2^62 then ž (u7 i (i - j).toNat)else Ž
 |_=>Ž
def A7(ma:MA):MI:=λρ=>(ma ρ).bind λp=>(bW p.2 p.1).bind λus=>(A8 us).bind λds=>ž (ds,p.2)
theorem Md{ta:TA}{ma:MA}(h:kR K ta ma):VI K (JZ ta) (A7 ma):=by
 intro ρ σ H ds au R r e q;obtain⟨⟨as,aw⟩,e1,e⟩:=bQ e;have(us,eu,e):=bQ e;have(zs,ez,e):=bQ e;cases e;refine h ρ σ H as aw _ r e1 λvs H1 g1 s1=>?_;have rp:=s1.pU r g1 eu;unfold A8 at ez;split at ez
 .split at ez
  rotate_left
  .cases ez
  rename_i i j hc;cases ez;cases rp with
  |cons h1 t=>
   cases t with
   |cons h2 t=>
    cases t with
    |cons h3 t=>
     cases t;cases DF.int_inv h1;cases DF.int_inv h2;cases DF.int_inv h3;refine⟨i,j,rfl,hc,q _ _ g1 λH k n=>⟨λd ed=>?_,λei=>?_⟩⟩
     .have(hi,rfl):=GZ ed
      refine⟨hi,λx H' y=>?_⟩;have(rfl,rfl):=y;exact⟨λ_ _ z=>z,.int _⟩
     .rw[Cm]at ei
      exact ì ei.symm
 .cases ez
section
variable{ρ:En}{mk mv:ME}{mA:MA}{f:Qa D->Qa D}{QE:Ar×En->Prop}{QI:Qa D×En->Prop}
theorem zn7:Wo (A7 mA ρ) QI=Wo (mA ρ) (Co (λp=>(bW p.2 p.1).bind λus=>(A8 us).bind λds=>ž (ds,p.2)) ⟨0⟩ QI):=by
 show Wo (ő _ _) QI=_;rw[zt]
theorem Gy{i j:Int}(h:-1000000<=i)(h2:i < 1000000)(h3:-1000000<=j)(h4:j < 1000000):A8 [.d<|.int i,.d<|.int j,.d<|.int (-1)]=ž (u7 i (i - j).toNat):=by
 show(if _ then _ else _)=_;rw[a4b ⟨by omega,by omega,by omega,by omega⟩]
end
end Internal
namespace Internal
open PySem
noncomputable def ch:Nat->Nat->Nat
 |_,0=>1
 |0,_+1=>0
 |n+1,k+1=>ch n k+ch n (k+1)
end Internal
namespace Internal
open PySem PySem.Spec PyProof.Rows
open PySem.AutoSeq1 (wpAny_loadPart')
open MeetsSeq MeetsSeq2 MeetsSeq3 SeqRoads2
end Internal
namespace Internal
open PySem PySem.Spec PyProof.Rows
def JC(K:qc)(g:Qa Int->Qa Int->Bool):R2:=λx y H Q=>∃a b ns ms,x=.ref a/\y=.ref b/\cH K H a (ns.map V.int)/\cH K H b (ms.map V.int)/\Q (.bl<|g ns ms) H
section
noncomputable def inD:D->Qb Int
 |.int i=>ž i
 |_=>Ž
theorem F5{us:Qa V}{ds:Qa D}{bs:Qa Int}(h:aN K H us ds):ds.mapM inD=ž bs->us=bs.map V.int:=by
 refine h.ind (P:=λus ds=>∀ys,ds.mapM inD=ž ys->us=ys.map V.int) (λys e=>?_) (λ{v d vs ds} h t ih ys e=>?_) bs
 .cases e;rfl
 .rw[ŗ]at e
  have(y,e1,e):=bQ e;have(jQ,e2,e):=bQ e;cases e;cases d with
  |int x=>cases e1;cases DF.int_inv h;rw[ih _ e2];rfl
  |_=>cases e1
def A6(g:Qa Int->Qa Int->Bool):U->U->Qb U
 |.d (.tuple xs),.d (.tuple ys)=>(xs.mapM inD).bind λa=>(ys.mapM inD).bind λb=>ž<|.d<|.bool<|g a b
 |_,_=>Ž
theorem Wl{g:Qa Int->Qa Int->Bool}:VO K (JC K g) (A6 g):=by
 intro x y a b u H Q ha hb e q;unfold A6 at e;split at e
 .have(n1,e1,e):=bQ e
  have(n2,e2,e):=bQ e;cases e;have(p,us,rfl,h1,h2):=DF.aV ha;have(p',jd,rfl,h1',Dj):=DF.aV hb;cases F5 h2 e1;cases F5 Dj e2;exact⟨p,p',n1,n2,rfl,rfl,(bK.sq h1),(bK.sq h1'),q _ _ (eD.refl H) (DF.bl _) Nw.data⟩
 .cases e
theorem zn9{g:Qa Int->Qa Int->Bool}{a c d:Int}:A6 g (.d<|.tuple [.int a,.int b]) (.d<|.tuple [.int c,.int d])=ž (.d<|.bool<|g [a,b] [c,d]):=rfl
end
end Internal
namespace HT
open PySem PySem.Spec PyProof.Rows
end HT
namespace Internal
open PySem PySem.Spec PyProof.Rows
def JB(K:qc):Qa V->Hp->VK->Prop:=λxs H Q=>∃(p:Qg) (ns:Qa Int) (m:Int),xs=[.ref p]/\cH K H p (ns.map V.int)/\m∈ns/\(∀x∈ns,x<=m)/\Q (.int m) H
theorem SI{X:Cx}(K:qc)(hK:X.K=K)(hc:X.calm=ż):gO X (.builtin "max") (JB K):=by
 subst hK;intro pins s σ H xs us Q I r h;have(p,ns,m,rfl,hq,z1,z2,q):=h;have(u,rfl,ru):=pw r;cases ru;have val:∀{i:Nat} {v:Qc},(∃x,(ns.map V.int)[i]?=ž x/\zT x v)->∃t,v=.int (ns.getD i 0) t/\ns[i]?=ž (ns.getD i 0):=λ{i v} hx=>by
  have(x,ex,rx):=hx;rw[Č]at ex;cases eb:ns[i]? with
  |none=>rw[eb]at ex;cases ex
  |some b=>
   rw[eb]at ex;cases ex;have(t,rfl):=rx;have ew:ns.getD i 0=b:=by rw[qC,eb];rfl
   exact⟨t,by rw[ew],by rw[ew]⟩
 have h0:0 < ns.length:=List.length_pos_of_mem z1;refine call_max_walk<|ZM I (I.ok.hd hc) (.inr hq) λit fp wr n P St s2 W st hfp hn hP hI=>⟨it,fp,wr,n,P,St,_,rfl,W,st,hfp,by rw[hn,ĉ];exact h0,CmpOf.ints_gt (λi=>ns.getD i 0) (λi v hv=>let ⟨t,e,_⟩:=val (hP i v hv);⟨t,e⟩),λv h' tk hv hk=>?_⟩;rw[ĉ]at hn;have(t,rfl,ei):=val (hP _ v hv);have(b1,b2):=Nz (λi=>ns.getD i 0) (n - 1);have e:m=ns.getD (a2t (λi j=>decide<|ns.getD i 0 > ns.getD j 0)<|n - 1) 0:=by
  have le1:=z2 _ (Ñ ei);have(k,hk,ek):=a0x z1;have le2:=b2 k (by omega);have rY:ns.getD k 0=m:=by rw[qC,qo hk,ek];rfl
  have le2':ns.getD k 0<=ns.getD (a2t (λi j=>decide<|ns.getD i 0 > ns.getD j 0)<|n - 1) 0:=le2;omega
 exact⟨.int m,H,hI h' tk hk,⟨t,by rw[e]⟩,q⟩
section
noncomputable def wJ:U->Qb U
 |.d (.tuple [.int i,.int j])=>ž<|.d<|.int (if j > i then j else i)
 |_=>Ž
theorem Wj:VC K (JB K) (f1 wJ):=uw λv a u H Q h e q=>by
 unfold wJ at e;split at e
 .rename_i i j
  cases e;have(p,us,rfl,h1,h2):=DF.aV h;cases F5 h2 (bs:=[i,j]) rfl;refine⟨p,[i,j],_,rfl,(bK.sq h1),?_,?_,q _ _ (eD.refl H) (DF.int _) Nw.data⟩
  .split<;>simp
  .intro x hx
   simp only[qw,a1n,or_false]at hx;split<;>rcases hx with rfl|rfl<;>omega
 .cases e
end
end Internal
namespace Internal
open PySem PySem.Calls PySem.Spec PyProof.Rows
end Internal
namespace Internal
open PySem PySem.Spec PyProof.Rows
end Internal
namespace Internal
open PySem
end Internal
namespace Internal
open PySem PySem.Spec PyProof.Rows
section
variable{ρ au aw:En}{H1:Hp}
def yT(nt:Nat)(mg:MG)(mt:MT)(mk mv:ME):Qa D->En->Qa (Qa Key×D)->Qb (Qa (Qa Key×D)×En)
 |[],ρ,ys=>ž (ys,ρ)
 |d::ds,ρ,ys=>if ys.length < ċ then(mg d ρ).bind λaw=>(mt aw).bind λb=>if b.1=ż then(mk b.2).bind λp=>(mv p.2).bind λq=>(p.1.get q.2).bind λuk=>(q.1.get q.2).bind λuv=>uk.da.bind λdk=>uv.da.bind λdv=>(gY dk).bind λk=>
   yT nt mg mt mk mv ds (reset nt q.2) (fE ys k dv)else yT nt mg mt mk mv ds (reset nt b.2) ys else Ž
end
section
variable{X:Cx}
theorem MK:∀(ns:Qa Int),aN K H (ns.map V.int)<|ns.map Ŕ
 |[]=>.nil
 |n::ns=>.cons (.int n)<|MK ns
theorem Bt{g:Qg}(gt:oU K g ns)(hn:ns≠[]:=by decide):VE K (tC<|.ref g) (mC<|.tuple<|ns.map Ŕ):=by
 intro ρ σ H a au Q rs e q;cases e;have(o,i,n,z1,z2,z3,z4,z5):=gt;refine q _ _ (Go.refl rs) ⟨DF.tup (.inr ⟨o,i,n,z1,z2,z3,z4,z5,?_⟩)<|MK ns,Nw.data⟩;cases ns with
 |nil=>exact absurd rfl hn
 |cons a r=>exact⟨a,_,rfl⟩
end
section
variable{c:β->D}{mI:MI}{mg:MG}{mt:MT}{mk mv me ma:ME}{mA:MA}{ρ:En}{QE:Ar×En->Prop}{QT:Bool×En->Prop}
def zCV(nt:Nat)(mk mv:ME)(ys:Qa (Qa Key×D))(P:En->Qa (Qa Key×D)->Prop)(p:Bool×En):Prop :=
 if p.1=ż then Wo (mk p.2) (Co (λp=>(mv p.2).bind λq=>(p.1.get q.2).bind λuk=>(q.1.get q.2).bind λuv=>uk.da.bind λdk=>uv.da.bind λdv=>(gY dk).bind λk=>ž (reset nt q.2,fE ys k dv)) ⟨0⟩ λz=>P z.1 z.2)else P (reset nt p.2) ys
def dcP(l:Pq β):Pq β:=l.foldl (λys t=>wA ys t.1 t.2) []
theorem Y7{g:α->D}{b:α->Bool}{k:α->Qa Int}{v:α->β}{as:Qa α}{Q:Qa (Qa Key×D)×En->Prop}(hz:as.length<=16777216)
  (st:∀a∈as,∀ys:Pq β,Wo (mg (g a) ρ)<|Co mt ⟨0⟩<|zCV nt mk mv (vC c ys) λau zs=>au=ρ/\zs=vC c (if b a=ż then wA ys (k a) (v a)else ys))
  (q:Q (vC c<|dcP<|(as.filter b).map λa=>(k a,v a),ρ)):Wo (yT nt mg mt mk mv (as.map g) ρ []) Q:=by
 have main:∀(es:Qa α) (acc:Pq β),(∀a∈es,a∈as)->acc.length+es.length<=16777216->Q (vC c<|((es.filter b).map λa=>(k a,v a)).foldl (λys t=>wA ys t.1 t.2) acc,ρ)->Wo (yT nt mg mt mk mv (es.map g) ρ<|vC c acc) Q:=by
  intro es
  induction es with
  |nil=>intro acc _ _ q;exact⟨_,rfl,q⟩
  |cons a es ih=>
   intro acc hm hl q;rw[qv]at hl;obtain⟨aw,e1,⟨bb,aD⟩,e2,kk⟩:=st a (hm a qq) acc;rw[Ċ];unfold yT;rw[a4b (by rw[SM];show _ < 16777216;omega),zt];refine⟨aw,e1,?_⟩;rw[kh,zt];refine⟨_,e2,?_⟩;rw[kh];rw[δ]at q;have pl:=Wm acc (k a) (v a);cases bb with
   |false=>
    have(e3,e4):=kk;rw[a4c qf,e3,e4]
    by_cases hb:b a=ż
    .rw[a4b hb]
     rw[a4b hb]at q;exact ih _ (λx hx=>hm x<|qp _ hx) (by omega) q
    .rw[a4c hb]
     rw[a4c hb]at q;exact ih _ (λx hx=>hm x<|qp _ hx) (by omega) q
   |true=>
    rw[a4b rfl,zt];have(p,e3,kk):=kk;refine⟨p,e3,?_⟩;rw[kh];have(z,e4,e5,e6):=kk;have(q1,f1,e4):=bQ e4;have(uk,f2,e4):=bQ e4;have(uv,f3,e4):=bQ e4;have(dk,f4,e4):=bQ e4;have(dv,f5,e4):=bQ e4;have(kk,f6,e4):=bQ e4;cases e4;rw[f1,bd,f2,bd,f3,bd,f4,bd,f5,bd,f6,bd];dsimp only at e5 e6;rw[e5,e6]
    by_cases hb:b a=ż
    .rw[a4b hb]
     rw[a4b hb]at q;exact ih _ (λx hx=>hm x<|qp _ hx) (by omega) q
    .rw[a4c hb]
     rw[a4c hb]at q;exact ih _ (λx hx=>hm x<|qp _ hx) (by omega) q
 exact main as [] (λ_ h=>h) (by simpa using hz) q
end
section
variable{X:Cx}{pos:Pos}{i v f:Ĥ}{tx:TE}{k:Nat}(K:qc)(hK:X.K=K)
include hK
end
end Internal
namespace Internal
open PySem PySem.Calls PySem.Spec PyProof.Rows
end Internal
namespace Internal
open PySem PySem.Spec PyProof.Rows
section
noncomputable def i6:U->U->Qb U
 |.l xs,.d (.int k)=>if -1000000 < k/\k < 1000000/\xs.length * k.toNat<=ċ then ž (.l (Đ k.toNat xs).flatten)else Ž
 |_,_=>Ž
theorem Br:VO K Qk i6:=by
 intro x y a b u H Q ha hb e q;unfold i6 at e;split at e
 .split at e
  .rename_i xs k hz
   cases e;have(p,us,rfl,h1,h2):=ha;cases DF.int_inv hb;refine⟨p,k,us,rfl,rfl,h1,by omega,by omega,by rw[h2.len];exact hz.2.2,λr hr=>?_⟩;have s:=jP hr (.lst (Đ k.toNat us).flatten);exact q _ _ s ⟨r,_,rfl,zw,(Me h2 _).kp s.kp⟩ λ_=>⟨r,rfl,hr⟩
  .cases e
 .cases e
end
theorem DL:∀{us:Qa α},us.length=1->∃a,us=[a]
 |[a],_=>⟨a,rfl⟩
theorem sG:∀{us:Qa α},us.length=2->∃a b,us=[a,b]
 |[a,b],_=>⟨a,b,rfl⟩
theorem DK{us:Qa α}(h:us.length=3):∃a b c,us=[a,b,c]:=by
 cases us with
 |nil=>cases h
 |cons a us=>
  have(b,c,rfl):=sG (a0w h);exact⟨a,b,c,rfl⟩
theorem DJ{us:Qa α}(h:us.length=4):∃a b c d,us=[a,b,c,d]:=by
 cases us with
 |nil=>cases h
 |cons a us=>
  have(b,c,d,rfl):=DK (a0w h);exact⟨a,b,c,d,rfl⟩
theorem zCW{us:Qa α}(h:us.length=5):∃a b c d e,us=[a,b,c,d,e]:=by
 cases us with
 |nil=>cases h
 |cons a us=>
  have(b,c,d,e,rfl):=DJ (a0w h);exact⟨a,b,c,d,e,rfl⟩
structure Zs where
 P:Qe
 w:Qh
 K:qc
 mg:Str->Qb Qc
 base:Ĭ
def cF(K:qc)(x:Str)(st:ķ):Prop:=∃(f:Qg) (fd:Š),jA K x x st f fd/\Ģ K Ě x=ž (ž<|.ref f)
theorem fnK{f:Qg}{oc:Qc}{od an:Qb Qg}{kV doc pm bt ct:Qc}(a:Ģ K Ě x=ž (ž<|.ref f))(l:K.lookup f=ž ⟨oc,od,.func<|ł x x (oh st) (i9 st) (eI st) .none kV doc pm an bt ct,oE⟩)
  (c:ϖ K bt x=ż) (k:ĸ K (.ref f)=ż):cF K x st:=⟨f,_,Fi l c k,a⟩
def cJ(Z:Zs)(x:Str)(st:ķ):Prop:=∃(f:Qg) (fd:Š),jA Z.K x x st f fd/\Z.mg x=ž (.ref f)
theorem cF.z{w:Qh}{base:Ĭ}(a:cF K x st)(X:K.In h)(G:h.Ns Ě mg):cJ ⟨P,w,K,mg,base⟩ x st:=by
 have(f,fd,F,g):=a;exact⟨f,fd,F,Ă X G g⟩
abbrev Zs.C(Z:Zs)(x:Str)(k:Nat)(ps:Qa Str)(n:Nat)(F:FD):Prop:=Jr Z.P Z.w Z.K Z.mg Z.base x k ps (mW Z.K n F)
abbrev Zs.X(Z:Zs)(x:Str)(k:Nat)(ps:Qa Str)(n:Nat)(F:FX):Prop:=Jq Z.P Z.w Z.K Z.mg Z.base x k ps (spX Z.K n F)
section
variable{Z:Zs}{ps:Qa Str}{k nn:Nat}{m:MS}{f:Qg}
abbrev EL(Z:Zs)(x:Str)(st:ķ)(k:Nat)(pn:Qa Nat)(m:MS)(N:Qa Str)(f:Qg):Prop:=∀{bt:Qc} {A:Qf} {outer:Qa Env} {s:Qd} {H:Hp} {E:XK},N.Nodup->aK k (A.deeper<|ς x (eI st) s.heap.objs.size f bt)->
 ∃t,VS Z.K pn Sv t m/\Wr (eX (nN iR Z.P Z.w Z.K Z.mg Z.base N x (eI st) f bt A outer s H E).rK (i9 st) t)
theorem QH(F:jA Z.K x x st f fd)(N:Qa Str)(cb:EL Z x st k pn m N f)(S:bH N ps (eI st):=by exact⟨rfl,rfl,rfl,by decide +kernel,rfl,by decide +kernel,by decide +kernel⟩)(nq:ps.length=n:=by rfl)(hN:N.length=nn:=by rfl)(vJ:n<=nn:=by decide):
  cI Z.P Z.w Z.K Z.mg Z.base iR (k+1) f fd ps (mW Z.K n<|bM nn pn m):=F.QL S nq hN vJ λbt A outer s H E hr=>let ⟨t,a,b⟩:=cb S.nd hr;⟨t,b,a⟩
theorem cM(A:cJ Z x st)(N:Qa Str)(cb:∀{f},EL Z x st k pn m N f)(S:bH N ps (eI st):=by exact⟨rfl,rfl,rfl,by decide +kernel,rfl,by decide +kernel,by decide +kernel⟩)(nq:ps.length=n:=by rfl)(hN:N.length=nn:=by rfl)(vJ:n<=nn:=by decide)
  (hb:∀(kV doc pm:Qc) (an:Qb Qg) (bt ct:Qc) (us:Qa Qc),us.length=ps.length->a2D (ł x x (oh st) (i9 st) (eI st) .none kV doc pm an bt ct) ⟨us,[]⟩=pure (ps.zip us):=by
   intro _ _ _ _ _ _ us hl
   first
   | (have(_,rfl):=DL hl;rfl)
   | (have(_,_,rfl):=sG hl;rfl)
   | (have(_,_,_,rfl):=DK hl;rfl)
   | (have(_,_,_,_,rfl):=DJ hl;rfl)
   | (have(_,_,_,_,_,rfl):=zCW hl;rfl)
   | (cases(List.eq_nil_of_length_eq_zero hl);rfl)):Z.C x (k+1) ps n (bM nn pn m):=
 let ⟨f,fd,F,g⟩:=A;⟨⟨f,fd,QH F N cb S nq hN vJ,F.binds hb,F.kp,g⟩⟩
end
end Internal
namespace Internal
open PySem
section
variable{a:α}{f:α->Qb β}{R:β->Prop}{t:Ph f}
theorem UO:Wo (ž a) (Co f t R)=Wo (f a) R:=dU
theorem UN{x:Fl}{Q:Fl->Prop}{P:En->Prop}:Wo (ž x) (sL Q P)=sL Q P x:=dU
end
end Internal
namespace Internal
open PySem PySem.Spec PyProof.Rows
end Internal
namespace Internal
open PySem PySem.Spec
def Tt(b:Bool):Prop:=b=ż
theorem UM{b:Bool}(h:b=ż):Tt b:=h
noncomputable def vX(ρ:En)(i:Nat):Bool:=((ρ[i]?).join).isSome
noncomputable def gt(ρ:En)(i:Nat):U:=((ρ[i]?).join).getD (.d .none)
theorem zBx{ρ:En}:gt ρ i=((ρ[i]?).join).getD (.d .none):=rfl
theorem zBy{u v:U}:(ž u:Qb U).getD v=u:=rfl
theorem Lz{ρ:En}(h:vX ρ i=ż):(ρ[i]?).join=ž (gt ρ i):=by
 unfold vX at h;unfold gt;cases e:(ρ[i]?).join with
 |none=>rw[e]at h;cases h
 |some u=>rfl
def um(ρ:En):Ar->Bool
 |.s i=>vX ρ i
 |.u _=>ż
def ag(ρ:En):Ar->U
 |.s i=>gt ρ i
 |.u x=>x
theorem zBz{ρ:En}:ag ρ (.s i)=gt ρ i:=rfl
theorem zBA{ρ:En}{x:U}:ag ρ (.u x)=x:=rfl
theorem BG{ρ:En}{a:Ar}(h:um ρ a=ż):a.get ρ=ž (ag ρ a):=by
 cases a with
 |s i=>exact Lz h
 |u x=>rfl
def gs(ρ:En)(as:Qa Ar):Qa U:=as.map (ag ρ)
theorem zBB{ρ:En}:gs ρ []=[]:=rfl
theorem zBC{ρ:En}{a:Ar}{as:Qa Ar}:gs ρ (a::as)=ag ρ a::gs ρ as:=rfl
theorem Fw{ρ:En}:∀{as:Qa Ar},as.all (um ρ)=ż->bW ρ as=ž (gs ρ as)
 |[],_=>rfl
 |a::as,h=>by
  rw[ϑ,Bool.and_eq_true_iff]at h;rw[NY,BG h.1,bd,Fw h.2];rfl
noncomputable def Dz{α:Type}(m:En->Qb α)(ρ:En):Qb α:=m ρ
def Cu(ρ:En)(t:Ph ρ)(Q:Ar×En->Prop)(u:U):Prop:=Q (.u u,ρ)
def Cw(ρ:En)(as:Qa Ar)(t:Ph ρ)(Q:Ar×En->Prop)(o:U×Qa U):Prop:=Q (.u o.1,wb ρ as o.2)
def HX(f:U->Qb U)(p:Ar×En):Qb (Ar×En):=(p.1.get p.2).bind λx=>(f x).bind λu=>ž (.u u,p.2)
noncomputable def JA(mA:MA)(p:Ar×En):Qb (Qa Ar×En):=(mA p.2).bind λq=>ž (p.1::q.1,q.2)
noncomputable def K0(a:Ar)(q:Qa Ar×En):Qb (Qa Ar×En):=ž (a::q.1,q.2)
def HZ(f:Qa U->Qb U)(p:Qa Ar×En):Qb (Ar×En):=(bW p.2 p.1).bind λus=>(f us).bind λu=>ž (.u u,p.2)
def Ak(f:FD)(p:Qa Ar×En):Qb (Ar×En):=if gK p.2 p.1=ż then(bW p.2 p.1).bind λus=>(f us).bind λo=>ž (.u o.1,wb p.2 p.1 o.2)else Ž
def DI(i:Nat)(p:Ar×En):Qb Fl:=(put p).bind λq=>ž<|.nx<|q.2.set i<|some q.1
def kB(p:Ar×En):Qb (Bool×En):=(p.1.get p.2).bind λu=>u.ui.bind λb=>ž (b,p.2)
noncomputable def CU(m1 m2:MS)(p:Bool×En):Qb Fl:=if p.1=ż then m1 p.2 else m2 p.2
noncomputable def EK(p:Ar×En):Qb Fl:=ž (.nx p.2)
section
variable{γ:Type}{ρ:En}{ma mb me:ME}{mA:MA}{mt:MT}{m1 m2:MS}{u x y:U}{d:D}{a b:Ar}{as:Qa Ar}{f:U->Qb U}{f2:U->U->Qb U}{fl:Qa U->Qb U}{F:FD}
variable{QE:Ar×En->Prop}{QA:Qa Ar×En->Prop}{QT:Bool×En->Prop}{QS:Fl->Prop}
theorem UL{m:En->Qb α}{Q:α->Prop}:Wo (Dz m ρ) Q=Wo (m ρ) Q:=rfl
theorem UK{g:Ar×En->Qb β}{t:Ph ρ}{t2:Ph g}{R:β->Prop}:Cu ρ t (Co g t2 R) u=Wo (g (.u u,ρ)) R:=rfl
theorem Y6{g:Ar×En->Qb β}{t:Ph g}{R:β->Prop}(h:Tt (vX ρ i)):Wo (zd i ρ) (Co g t R)=Wo (g (.s i,ρ)) R:=by
 rw[Mh,Lz h,dU,kh,dU];rfl
theorem zBD{g:Ar×En->Qb β}{t:Ph g}{R:β->Prop}:Wo (mC d ρ) (Co g t R)=Wo (g (.u<|.d d,ρ)) R:=Js
theorem zob(h:Tt (um ρ a && um ρ b)):Wo (Au f2 a (b,ρ)) QE=Wo (f2 (ag ρ a)<|ag ρ b) (Cu ρ ⟨0⟩ QE):=by
 have(h1,h2):=Bool.and_eq_true_iff.mp h;unfold Au;rw[BG h1,bd,BG h2,bd,zt];exact congrArg (Wo _)<|funext λ_=>dU
theorem UJ:Wo (bY f ma ρ) QE=Wo (ma ρ) (Co (HX f) ⟨0⟩ QE):=zBv
theorem Y5(h:Tt (um ρ a)):Wo (HX f (a,ρ)) QE=Wo (f<|ag ρ a) (Cu ρ ⟨0⟩ QE):=by
 unfold HX;rw[BG h,bd,zt];exact congrArg (Wo _)<|funext λ_=>dU
theorem zoc:Wo (zb me mA ρ) QA=Wo (me ρ) (Co (JA mA) ⟨0⟩ QA):=Xj
theorem zlk:Wo (JA mA (a,ρ)) QA=Wo (mA ρ) (Co (K0 a) ⟨0⟩ QA):=zt
theorem zi8{g:Qa Ar×En->Qb β}{t:Ph g}{R:β->Prop}:Wo (K0 a (as,ρ)) (Co g t R)=Wo (g (a::as,ρ)) R:=dU
theorem Y4{g:Qa Ar×En->Qb β}{t:Ph g}{R:β->Prop}:Wo (zj ρ) (Co g t R)=Wo (g ([],ρ)) R:=Ml
theorem UI:Wo (aS fl mA ρ) QE=Wo (mA ρ) (Co (HZ fl) ⟨0⟩ QE):=zBw
theorem Y3(h:Tt (as.all<|um ρ)):Wo (HZ fl (as,ρ)) QE=Wo (fl<|gs ρ as) (Cu ρ ⟨0⟩ QE):=by
 unfold HZ;rw[Fw h,bd,zt];exact congrArg (Wo _)<|funext λ_=>dU
theorem Zr:Wo (zF F mA ρ) QE=Wo (mA ρ) (Co (Ak F) ⟨0⟩ QE):=SS
theorem zod(h:Tt (gK ρ as && as.all (um ρ))):Wo (Ak F (as,ρ)) QE=Wo (F<|gs ρ as) (Cw ρ as ⟨0⟩ QE):=by
 have(h1,h2):=Bool.and_eq_true_iff.mp h;unfold Ak;rw[a4b h1,Fw h2,bd,zt];exact congrArg (Wo _)<|funext λ_=>dU
theorem UH{us:Qa U}{g:Ar×En->Qb β}{t:Ph ρ}{t2:Ph g}{R:β->Prop}:Cw ρ as t (Co g t2 R) (u,us)=Wo (g (.u u,wb ρ as us)) R:=rfl
theorem Zq:Wo (zJ i me ρ) QS=Wo (me ρ) (Co (DI i) ⟨0⟩ QS):=KY
theorem zoe{t:Ph (nG m2)}:Wo (DI i (.u u,ρ)) (Co (nG m2) t QS)=Wo (Dz m2<|ρ.set i<|some u) QS:=dU
theorem zBE:Wo (mB me ρ) QT=Wo (me ρ) (Co kB ⟨0⟩ QT):=zCU
theorem UG{c:Bool}{g:Bool×En->Qb β}{t:Ph g}{R:β->Prop}:Wo (kB (.u<|.d<|.bool c,ρ)) (Co g t R)=Wo (g (c,ρ)) R:=dU
theorem Zp:Wo (aT mt m1 m2 ρ) QS=Wo (mt ρ) (Co (CU m1 m2) ⟨0⟩ QS):=SR
theorem Zo:Wo (CU m1 m2 (ż,ρ)) QS=Wo (m1 ρ) QS:=rfl
theorem Zn:Wo (CU m1 m2 (Ż,ρ)) QS=Wo (m2 ρ) QS:=rfl
theorem zof:Wo (cT me ρ) QS=Wo (me ρ) (Co EK ⟨0⟩ QS):=XQ
theorem zll{t:Ph (nG m2)}:Wo (EK (a,ρ)) (Co (nG m2) t QS)=Wo (Dz m2 ρ) QS:=dU
theorem zog{t:Ph (nG m2)}:Wo (zS ρ) (Co (nG m2) t QS)=Wo (Dz m2 ρ) QS:=Np
theorem zoh{p:Qa Ar×En}:Ak F p=if gK p.2 p.1=ż then(bW p.2 p.1).bind λus=>(F us).bind λo=>ž (.u o.1,wb p.2 p.1 o.2)else Ž:=rfl
theorem zoi{p:Ar×En}:DI i p=(put p).bind λq=>ž (.nx<|q.2.set i<|some q.1):=rfl
theorem UE{p:Ar×En}:kB p=(p.1.get p.2).bind λu=>u.ui.bind λb=>ž (b,p.2):=rfl
theorem Zm{p:Bool×En}:CU m1 m2 p=if p.1=ż then m1 p.2 else m2 p.2:=rfl
theorem zlm{p:Ar×En}:EK p=ž (.nx p.2):=rfl
end
end Internal
namespace Internal
open PySem PySem.Spec PyProof.Rows
section
variable{w:Qh}
theorem bK.obj{vs:Qa V}(eK:K.In h)(ok:cq P w K H h)(e:bK K H a vs):∃o items n,h.get? a=ž o/\o.cls=.type "tuple"/\o.data=.seq items n/\zV vs items.toList:=by
 rcases e with e|⟨o,aq,n,hk,hc,hs,_,r,_⟩
 case inr=>exact⟨o,aq,n,eK a o hk,hc,hs,r⟩
 obtain⟨_,aq,r,o,h1,h2,⟨n,h3⟩,_⟩:=(show zX P w K H h a (.tup vs) from ok a _ e);exact⟨o,aq.toArray,n,h1,h2,h3,by simpa using r⟩
theorem P2:∀{ks:Qa Key} {us:Qa Qc},zV (ks.map kV) us->aY (Ib P w) h ks us
 |[],_,r=>by rw[ı]at r;cases r;exact .nil
 |k::ks,_,r=>by
  rw[Ċ]at r;cases r with
  |cons h t=>exact .cons (uI h)<|P2 t
theorem N0.is{ks:Qa Key}(eK:K.In h)(ok:cq P w K H h)(e:N0 K H ks a):gq (Ib P w) h ks a:=by
 have(o,aq,n,h1,h2,h3,r):=bK.obj eK ok e;exact⟨o,aq,n,h1,h2,h3,P2 r⟩
theorem P1[DecidableEq J]{I:IK P w J}{R:Qa J->Qg->Prop}(hR:∀ks b,R ks b->gq I h ks b):∀{xs:Qa (Key ⊕ Qa J)} {vs:Qa V} {us:Qa Qc},ϲ (NI R) xs vs->zV vs us->aY (vH I) h xs us
 |[],_,_,p,r=>by cases p;cases r;exact .nil
 |x::xs,_,_,p,r=>by
  cases p with
  | @cons _ v _ vs' hx t=>
   cases r with
   |cons rv rt=>
    refine .cons ?_<|P1 hR t rt;cases x with
    |inl k=>cases(show v=kV k from hx);exact uI rv
    |inr ks=>
     have(b,rfl,hb):=(show ∃b,v=.ref b/\R ks b from hx);cases rv;exact⟨b,rfl,hR ks b hb⟩
theorem iA.is[DecidableEq J]{I:IK P w J}{R:Qa J->Qg->Prop}{xs:Qa (Key ⊕ Qa J)}(eK:K.In h)(ok:cq P w K H h)(hR:∀ks b,R ks b->gq I h ks b)(e:iA K H R xs a):gq (vH I) h xs a:=by
 have(vs,e1,e2):=e;have(o,aq,n,h1,h2,h3,r):=bK.obj eK ok e1;exact⟨o,aq,n,h1,h2,h3,P1 hR e2 r⟩
theorem N3.is{xs:Qa K3}(eK:K.In h)(ok:cq P w K H h)(e:N3 K H xs a):(wX P w).is h xs a :=
 iA.is eK ok (λ_ _ e=>iA.is eK ok (λ_ _ e=>iA.is eK ok (λ_ _ e=>iA.is eK ok (λ_ _ e=>N0.is eK ok e) e) e) e) e
end
abbrev KX(K:qc)(H:Hp):Qa (Qa K3×V)->Qa (Qa K3×Qg×Qc)->Prop:=ϲ λp q=>p.1=q.1/\N3 K H p.1 q.2.1/\zT p.2 q.2.2
section
variable{ao:Qa (Qa K3×V)}{xs:Qa (Qa K3×Qg×Qc)}
theorem KX.val(r:KX K H ao xs)(k:Qa K3):gM (gL ao k) ((Θ xs k).map (·.2)):=by
 induction r with
 |nil=>exact Ŗ
 | @cons p q ps qs h t ih=>
  have(h1,_,h2):=h
  by_cases e:p.1=k
  .have e':q.1=k:=h1.symm.trans e
   have b:Θ (q::qs) k=ž q.2:=by simp[Θ,ģ,e']
   rw[BZ e,b];exact h2
  .have e':¬q.1=k:=λz=>e<|h1.trans z
   have b:Θ (q::qs) k=Θ qs k:=by simp[Θ,ģ,e']
   rw[BY e,b];exact ih
theorem KX.jf(r:KX K H ao xs)(k:Qa K3){y:V}(ry:zT y u):
  KX K H (ao.map λkv=>if kv.1=k then(kv.1,y)else kv) (xs.map<|putAt k u):=by
 induction r with
 |nil=>exact .nil
 | @cons p q ps qs h t ih=>
  rw[Ċ,Ċ];refine .cons ?_ ih;have(h1,h2,h3):=h;unfold putAt
  by_cases e:p.1=k
  .rw[a4b e,a4b<|h1.symm.trans e];exact⟨h1,h2,ry⟩
  .rw[a4c e,a4c λz=>e<|h1.trans z];exact⟨h1,h2,h3⟩
theorem KX.put(r:KX K H ao xs)(k:Qa K3){b:Qg}{y:V}(hb:N3 K H k b)(ry:zT y u):KX K H (gC ao k y) (storedH xs k b u):=by
 have e:(ao.any λkv=>decide<|kv.1=k)=(Θ xs k).isSome:=by
  rw[Gw,(r.val k).d9,a0F]
 unfold gC storedH;rw[e]
 by_cases q:(Θ xs k).isSome=ż
 .rw[a4b q,a4b q];exact r.jf k ry
 .rw[a4c q,a4c q];exact a1i r ⟨rfl,hb,ry⟩
theorem KX.keeps(r:KX K H ao xs)(ht:∀b ys,H b=ž (.tup ys)->H' b=ž (.tup ys)):KX K H' ao xs:=Paired.hJ r λ_ _ z=>⟨z.1,z.2.1.keeps ht,z.2.2⟩
end
theorem AO{w:Qh}{ao:Qa (Qa K3×V)}(eK:K.In h)(ok:cq P w K H h)(e:H a=ž (.dX ao)):ao.length<=ċ/\(a==Ŀ)=Ż/\
  ∃xs,KX K H ao xs/\h.DictOfH (wX P w) a xs:=by
 have(z,y,xs,r,o,es,ep,h1,h2,h3,h4,h5):=(show zX P w K H h a (.dX ao) from ok a _ e);refine⟨z,y,xs,r,o,es,ep,h1,h2,h3,h4,λx hx=>?_,h5⟩;have all:∀{l:Qa (Qa K3×V)} {m:Qa (Qa K3×Qg×Qc)},KX K H l m->∀x∈m,(wX P w).is h x.1 x.2.1:=by
  intro l m q
  induction q with
  |nil=>intro x hx;exact nomatch hx
  | @cons p q ps qs hq t ih=>
   intro x hx;rcases qw.mp hx with e|hx
   .subst e
    exact N3.is eK ok (by rw[<-hq.1];exact hq.2.1)
   .exact ih x hx
 exact all r x hx
theorem Fv{w:Qh}(hu:A.units+6 < ϓ):(wX P w).room A.in1:=by
 show A.units+1+(4+1) < ϓ;omega
def DC(K:qc)(H:Hp)(a:Qg)(y:V)(r:Qb V):Prop:=∃ao k b,H a=ž (.dX ao)/\y=.ref b/\N3 K H k b/\r=gL ao k
def Sw(K:qc)(H:Hp)(a:Qg)(y v:V)(H':Hp):Prop:=∃ao k b,H a=ž (.dX ao)/\y=.ref b/\N3 K H k b/\ao.length < ċ/\H'=upd H a (.dX<|gC ao k v)
section
variable{X:Cx}{s:Qd}{y:V}{o:Qb V}{r:Qc}
theorem zpE(hu:A.units+6 < ϓ)(I:Inv X pins σ H s)(g:DC X.K H a y (ž v))(ry:zT y u)(h:∀w' s',Inv X pins σ H s'->zT v w'->Q w' s'):
  đ (Ĕ X.prog X.w) A (Μ (.ref a) u) Q E s:=by
 have(ao,k,b,e,rfl,eb,l):=g;cases(show u=Ĝ b from ry);have(z,hd,xs,rel,dd):=AO I.bZ I.aF e;have(w',hw,iH):=gM.some_of (v:=v) (o:=(Θ xs k).map (·.2)) (by rw[l];exact rel.val k);have(p,hp,vI):=qt.mp hw;refine wpAny_getItem_heap (Fv hu) (N3.is I.bZ I.aF eb) dd hp ?_;rw[vI];exact h w' _ (I.tok _) iH
theorem Wi(hu:A.units+6 < ϓ)(I:Inv X pins σ H s)(g:DC X.K H a y o)(ry:zT y u)(h:∀s',Inv X pins σ H s'->Q (.bool (!o.isSome)) s'):
  đ (Ĕ X.prog X.w) A (ĩ .NotIn u<|.ref a) Q E s:=by
 have(ao,k,b,e,rfl,eb,l):=g;cases(show u=Ĝ b from ry);have(z,hd,xs,rel,dd):=AO I.bZ I.aF e;refine wpAny_notIn_heap (Fv hu) (N3.is I.bZ I.aF eb) hd dd ?_;have q:=(rel.val k).d9;rw[a0F]at q;rw[<-q,<-l];exact h _<|I.tok _
theorem zpF{Q:Unit->Qd->Prop}(hu:A.units+6 < ϓ)(I:Inv X pins σ H s)(g:Sw X.K H a y v H')(ry:zT y u)(rv:zT v r)(h:∀s',Inv X pins σ H' s'->Q () s'):
  đ (Ĕ X.prog X.w) A (Λ (.ref a) u r) Q E s:=by
 have(ao,k,b,e,rfl,eb,l,rfl):=g;cases(show u=Ĝ b from ry);have(z,hd,xs,rel,dd):=AO I.bZ I.aF e;have hz:xs.length<=ċ:=by rw[<-ό rel];exact z
 have hl:(gC ao k v).length<=ċ:=by have:=zev ao k v;omega
 refine wpAny_setItem_heap (hsz:=hz) (Fv hu) (N3.is I.bZ I.aF eb) dd λh' vT hs=>h _ ?_;have(q,es,ep,hq,h2,h3,h4,_,h5):=vT;refine FW I (by rw[e];exact Ŗ) hs ⟨q,hq⟩ ⟨hl,hd,_,(rel.put k eb rv).keeps λc ys ec=>?_,q,es,ep,hq,h2,h3,h4,h5⟩;rw[zu (uJ ec e (λz=>nomatch z))];exact ec
end
structure Re (K:qc) (H H':Hp):Prop where
 aF:∀(P:Qe) (w:Qh) (h:Ĭ),cq P w K H h->cq P w K H' h
 aL:∀b,H b=Ž->H' b=Ž
 tup:∀b xs,H b=ž (.tup xs)->H' b=ž (.tup xs)
 aQ:∀b o u,H b=ž (.aQ o u)->H' b=ž (.aQ o u)
 kF:∀b ps,H b=ž (.kF ps)->H' b=ž (.kF ps)
theorem Re.refl(K:qc)(H:Hp):Re K H H:=⟨λ_ _ _ h=>h,λ_ h=>h,λ_ _ h=>h,λ_ _ _ h=>h,λ_ _ h=>h⟩
theorem Inv.re{X:Cx}{s:Qd}(I:Inv X pins σ H s)(r:Re X.K H H'):Inv X pins σ H' s :=
 I.un (h':=s.heap) (t':=s.toks) ⟨λ_ _ e _ _ _=>e,λ_ o e _ _ _=>⟨o.slots,e⟩,λb _ _ e _=>r.aL b e,λ_ o e _=>⟨o,e⟩,r.tup,r.aQ,λb ps e=>⟨#[],by rw[r.kF b ps e];simp⟩⟩ (r.aF _ _ _ I.aF)
def CG(K:qc)(t:TE):TE:=λσ H Q=>∃H1,Re K H H1/\t σ H1 λv H2=>∃H3,Re K H2 H3/\Q v H3
theorem Aj{X:Cx}{t:TE}(h:Wr (PE X e t)):Wr (PE X e<|CG X.K t):=⟨λpins s σ H Q I q=>by
 have(H1,r1,q):=q;refine aI (h.run pins s σ H1 _ (I.re r1) q) λu s1 z=>?_;have(v,H2,I2,rv,H3,r3,z):=z;exact⟨v,H3,I2.re r3,rv,z⟩⟩
noncomputable def DH(ps:Qa (Qg×HO))(H:Hp):Hp:=λb=>((ps.find? λq=>decide<|q.1=b).map (·.2)).or<|H b
def bC(H:Hp)(a C dx:Qg)(vs:Qa (Str×V))(ps:Qa (Qg×HO)):Hp:=upd (DH ps H) a (.ins C dx vs)
noncomputable def DS(a:Qg)(ps:Qa (Qg×HO))(H:Hp):Hp:=λb=>if(ps.any λq=>decide<|q.1=b)=ż then ž (.own a)else H b
def ft(H:Hp)(a C dx:Qg)(vs:Qa (Str×V))(ps:Qa (Qg×HO)):Hp:=upd (DS a ps H) a (eL C dx vs ps)
section
variable{C:Qg}{ps:Qa (Qg×HO)}
theorem La{w:Qh}:∀{ps:Qa (Qg×HO)},zX P w K H h a (eL C dx vs ps)->zX P w K H h a (.ins C dx vs)/\∀q∈ps,H q.1=ž (.own a)/\q.1≠a/\q.2.flat=ż/\zX P w K H h q.1 q.2
 |[],x=>⟨x,λq hq=>by cases hq⟩
 | (b,p)::ps,x=>by
  have(y,e,n,f,o):=(show zX P w K H h a (.sub b p<|eL C dx vs ps) from x);have(z,t):=La y;refine⟨z,λq hq=>?_⟩;rcases qw.mp hq with rfl|hq
  .exact⟨e,n,f,o⟩
  .exact t q hq
theorem K9{w:Qh}:∀{ps:Qa (Qg×HO)},zX P w K H h a (.ins C dx vs)->(∀q∈ps,H q.1=ž (.own a)/\q.1≠a/\q.2.flat=ż/\zX P w K H h q.1 q.2)->zX P w K H h a (eL C dx vs ps)
 |[],x,_=>x
 | (b,p)::ps,x,t=>by
  have(e,n,f,o):=t (b,p) qq;exact⟨K9 x λq hq=>t q<|qp _ hq,e,n,f,o⟩
theorem Wh{b:Qg}{p:HO}(nd:(ps.map (·.1)).Nodup)(h:(b,p)∈ps):(ps.find? λq=>decide<|q.1=b)=ž (b,p):=by
 induction ps with
 |nil=>cases h
 |cons q ps ih=>
  rw[Ċ,ū]at nd;rcases qw.mp h with rfl|h
  .rw[List.find?_cons_of_pos (by simp)]
  .rw[List.find?_cons_of_neg (by
    have:q.1≠b:=λe=>nd.1<|e▸List.mem_map.mpr ⟨(b,p),h,rfl⟩;simpa using this)]
   exact ih nd.2 h
theorem mF{b:Qg}{p:HO}(nd:(ps.map (·.1)).Nodup)(h:(b,p)∈ps)(n:b≠a):bC H a C dx vs ps b=ž p:=by
 unfold bC;rw[zu n];unfold DH;rw[Wh nd h];rfl
theorem mJ:bC H a C dx vs ps a=ž (.ins C dx vs):=zw
theorem lH{b:Qg}(h:b∉ps.map (·.1))(n:b≠a):bC H a C dx vs ps b=H b:=by
 unfold bC;rw[zu n];unfold DH;rw[List.find?_eq_none.mpr λq hq=>by
  have:q.1≠b:=λe=>h<|e▸List.mem_map.mpr ⟨q,hq,rfl⟩;simpa using this]
 rfl
theorem rq{b:Qg}(h:b∈ps.map (·.1))(n:b≠a):ft H a C dx vs ps b=ž (.own a):=by
 unfold ft;rw[zu n];unfold DS;have(q,hq,e):=À.mp h;rw[a4b<|List.any_eq_true.mpr ⟨q,hq,a4d e⟩]
theorem s9:ft H a C dx vs ps a=ž (eL C dx vs ps):=zw
theorem om{b:Qg}(h:b∉ps.map (·.1))(n:b≠a):ft H a C dx vs ps b=H b:=by
 unfold ft;rw[zu n];unfold DS;rw[a4c λz=>?_];have(q,hq,e):=List.any_eq_true.mp z;exact h<|À.mpr ⟨q,hq,a4f e⟩
theorem zpG(w:∀q∈ps,H q.1=ž (.own a))(b:Qg):b=a\/(∃p,(b,p)∈ps)\/(b∉ps.map (·.1)/\b≠a):=by
 by_cases h1:b=a
 .exact .inl h1
 .by_cases h2:b∈ps.map (·.1)
  .obtain⟨⟨c,p⟩,hq,e⟩:=À.mp h2
   cases(show c=b from e);exact .inr<|.inl ⟨p,hq⟩
  .exact .inr (.inr ⟨h2,h1⟩)
theorem F4(n:ps≠[]):(∀x,eL C dx vs ps≠.own x)/\(∀x,eL C dx vs ps≠.tup x)/\(∀o u,eL C dx vs ps≠.aQ o u)/\∀x,eL C dx vs ps≠.kF x:=by
 cases ps with
 |nil=>exact absurd rfl n
 |cons q r=>exact⟨(λx z=>by cases z),(λx z=>by cases z),(λx y z=>by cases z),(λx z=>by cases z)⟩
theorem Tr(e:H a=ž (eL C dx vs ps))(n:ps≠[])(nd:(ps.map (·.1)).Nodup)(d:dx∉ps.map (·.1))(w:∀q∈ps,H q.1=ž (.own a)):Re K H (bC H a C dx vs ps):=by
 have(m1,m2,m3,m4):=F4 (C:=C) (dx:=dx) (vs:=vs) n;have pa:∀q∈ps,q.1≠a:=λq hq z=>by
  have:=w q hq;rw[z,e]at this;exact m1 _<|qy this
 have keep:∀b o,H b=ž o->(∀x,o≠.own x)->b≠a->bC H a C dx vs ps b=ž o:=λb o hb no nb=>by
  rw[lH (λz=>?_) nb]
  .exact hb
  .have(q,hq,eq):=À.mp z
   have:=w q hq;rw[eq,hb]at this;exact no _<|qy this
 have ow:∀b c,c≠a->H b=ž (.own c)->bC H a C dx vs ps b=ž (.own c):=λb c nc hb=>by
  rw[lH (λz=>?_) λz=>?_]
  .exact hb
  .have(q,hq,eq):=À.mp z
   have:=w q hq;rw[eq,hb]at this;cases this;exact nc rfl
  .rw[z,e]at hb
   exact m1 _<|qy hb
 have tp:∀b xs,H b=ž (.tup xs)->bC H a C dx vs ps b=ž (.tup xs):=λb xs hb=>keep b _ hb (λx z=>by cases z) λz=>by
  rw[z,e]at hb;exact m2 _<|qy hb
 refine⟨λP w' h ok b o hb=>?_,λb hb=>?_,tp,λb o u hb=>keep b _ hb (λx z=>by cases z) λz=>?_,λb ps' hb=>keep b _ hb (λx z=>by cases z) λz=>?_⟩
 .have(x,t):=La (ok a _ e)
  rcases zpG w b with rfl|⟨p,hp⟩|⟨h1,h2⟩
  .rw[mJ]at hb
   cases hb;obtain⟨x1,x2,x3,x4,mA,⟨od,es,ep,x5,x6⟩,x7⟩:=(show zX P w' K H h b (.ins C dx vs) from x);refine⟨?_,x2,x3,x4,mA,⟨od,es,ep,x5,x6⟩,x7⟩;rw[lH d x3];exact x1
  .rw[mF nd hp<|pa _ hp]at hb
   cases hb;have(_,_,f,y):=t (b,o) hp;exact y.mV f (λ_ z=>z) tp
  .rw[lH h1 h2]at hb
   exact(ok b o hb).cx (λ_ _ _ z=>z) (λc hc=>ow c b h2 hc) tp
 .rw[lH (λz=>?_) λz=>?_]
  .exact hb
  .have(q,hq,eq):=À.mp z
   have:=w q hq;rw[eq,hb]at this;cases this
  .rw[z,e]at hb
   cases hb
 .rw[z,e]at hb
  exact m3 _ _<|qy hb
 .rw[z,e]at hb
  exact m4 _<|qy hb
theorem Ly{p:HO}(f:p.flat=ż):(∀x,p≠.own x)/\(∀x,p≠.tup x)/\(∀o u,p≠.aQ o u)/\∀x,p≠.kF x:=by
 refine⟨λx z=>?_,λx z=>?_,λx y z=>?_,λx z=>?_⟩<;>(subst z;cases f)
theorem zmH{w:Qh}{b:Qg}{p:HO}(x:zX P w K H h b p)(f:p.flat=ż):∃o,h.get? b=ž o:=by
 cases p with
 |lst xs=>have(_,_,_,_,e):=x;exact⟨_,e⟩
 |dK ao=>have(_,_,_,_,o,_,_,e,_):=x;exact⟨o,e⟩
 |dT ao=>have(_,_,_,_,o,_,_,e,_):=x;exact⟨o,e⟩
 |dX ao=>have(_,_,_,_,o,_,_,e,_):=x;exact⟨o,e⟩
 |_=>cases f
theorem xm(e:H a=ž (.ins C dx vs))(pa:∀q∈ps,q.1≠a)(w:∀q∈ps,H q.1=ž q.2/\q.2.flat=ż):Re K H (ft H a C dx vs ps):=by
 have part:∀b o,H b=ž o->b∈ps.map (·.1)->o.flat=ż:=λb o hb hm=>by
  have(q,hq,eq):=À.mp hm;have(h1,h2):=w q hq;rw[eq,hb]at h1;cases h1;exact h2
 have keep:∀b o,H b=ž o->o.flat=Ż->b≠a->ft H a C dx vs ps b=ž o:=λb o hb no nb=>by
  rw[om (λz=>?_) nb]
  .exact hb
  .rw[part b o hb z]at no
   cases no
 have ow:∀b c,H b=ž (.own c)->ft H a C dx vs ps b=ž (.own c):=λb c hb=>keep b _ hb rfl λz=>by
  rw[z,e]at hb;cases hb
 have tp:∀b xs,H b=ž (.tup xs)->ft H a C dx vs ps b=ž (.tup xs):=λb xs hb=>keep b _ hb rfl λz=>by
  rw[z,e]at hb;cases hb
 refine⟨λP w' h ok b o hb=>?_,λb hb=>?_,tp,λb o u hb=>keep b _ hb rfl λz=>?_,λb ps' hb=>keep b _ hb rfl λz=>?_⟩
 .by_cases h1:b=a
  .subst h1
   rw[s9]at hb;cases hb;refine K9 ?_ λq hq=>?_
   .exact(ok b _ e).cx (λ_ _ _ z=>z) (λc hc=>ow c b hc) tp
   .have(h2,h3):=w q hq
    exact⟨rq (À.mpr ⟨q,hq,rfl⟩)<|pa q hq,pa q hq,h3,(ok _ _ h2).mV h3 (λ_ z=>z) tp⟩
  .by_cases h2:b∈ps.map (·.1)
   .rw[rq h2 h1]at hb
    cases hb;have(q,hq,eq):=À.mp h2;have(h3,h4):=w q hq;rw[<-eq];exact zmH (ok _ _ h3) h4
   .rw[om h2 h1]at hb
    exact(ok b o hb).cx (λ_ _ _ z=>z) (λc hc=>ow c b hc) tp
 .rw[om (λz=>?_) λz=>?_]
  .exact hb
  .have(q,hq,eq):=À.mp z
   have:=(w q hq).1;rw[eq,hb]at this;cases this
  .rw[z,e]at hb
   cases hb
 .rw[z,e]at hb
  cases hb
 .rw[z,e]at hb
  cases hb
end
def P0(K:qc)(r:V->Qa V->Hp->VK->Prop):V->Qa V->Hp->VK->Prop:=λx xs H Q=>∃H1,Re K H H1/\r x xs H1 λv H2=>∃H3,Re K H2 H3/\Q v H3
theorem Jz{X:Cx}{id:String}{r:V->Qa V->Hp->VK->Prop}(h:wc X id r):wc X id (P0 X.K r):=λpins s σ H x xs v us Q I rx rs q=>by
 have(H1,r1,q):=q;refine aI (h pins s σ H1 x xs v us _ (I.re r1) rx rs q) λu s1 z=>?_;have(y,H2,I2,ry,H3,r3,z):=z;exact⟨y,H3,I2.re r3,ry,z⟩
def PZ(K:qc)(T:String)(r:V->Qa V->Hp->VK->Prop)(to:TE)(t:TA):TE:=λσ H Q=>to σ H λx H1=>(∃Jp,Re K H1 Jp/\xX K T x Jp)/\t σ H1 λxs H2=>r x xs H2 Q
section
variable{X:Cx}{es:Qa Ĥ}{to:TE}{t:TA}{name:Str}{id:String}{r:V->Qa V->Hp->VK->Prop}
theorem Jy(pa:PlainAttrs T)(slot:Slot T name id)(tW:typeOf (.builtin id)=pure (.type "method_descriptor"))(hm:wc X id r)(ho:Wr (PE X o to))(ha:Wr (PA X (e::es) t))
  (fZ:Ť o name X.env (ŀ o X.env)=ŀ o X.env:=by rfl)
  (nA:((Ϩ bq<|ĭ (e::es) X.env).all (λx=>!x.1) && (a2E bq<|a0L [] X.env).all (λx=>x.1.isSome)
   && decide ((e::es).length+([]:Qa a0r).length+(if([]:Qa a0r).isEmpty then 0 else 1) < 30))=ż:=by rfl)
  (fW:(apos.endLine==bq.line)=ż:=by rfl) (hs:dz e=ż:=by rfl) (fB:es.all dz=ż:=by rfl):
  Wr (PE X (.Call (.Attribute o name apos) (e::es) [] bq)<|PZ X.K T r to t):=by
 refine⟨?_⟩;intro pins s σ H Q I h;refine a3w fZ nA fW rfl<|aI (ho.run pins s σ H _ I h) λv s1 hZ=>?_;obtain⟨x,H1,I1,r1,⟨Jp,re,ty⟩,q1⟩:=hZ;have(h1,h2):=Lb (I1.re re) r1 ty;refine⟨T,id,pa,slot,tW,h1,h2,?_⟩;have hA:=ha.run bq pins s1 σ H1 _ I1 q1;have oI:=jc (env:=X.env) (es:=es) hs;have gI:=rB (env:=X.env) (pos:=bq) fB;rw[oI]at hA ⊢;refine ú (by show(Ż || (Ϩ bq<|ĭ es X.env).any (·.1))=Ż;rw[gI]<;>rfl)<|a0h ?_;exact aI hA λus s2 ⟨vs,H2,I2,r2,q2⟩=>hm pins s2 σ H2 x vs v us Q I2 r1 r2 q2
end
def qV(K:qc)(ta:TE)(f:Str):TE:=CG K (wC K ta f)
noncomputable def i5:Qa (Str×PU)->Str->PU->Qa (Str×PU)
 |[],_,_=>[]
 | (n,x)::r,f,y=>if n=f then(n,y)::r else(n,x)::i5 r f y
noncomputable def aM(ps:Qa (Qg×HO))(b:Qg)(p:HO):Qa (Qg×HO):=ps.map λq=>if q.1=b then(b,p)else q
section
variable{C b:Qg}{ps:Qa (Qg×HO)}{fs:Qa (Str×PU)}{p:HO}
theorem mR:(aM ps b p).map (·.1)=ps.map (·.1):=by
 unfold aM;rw[ĵ];refine õ λq _=>?_;show(if q.1=b then(b,p)else q).1=q.1;split
 .rename_i e;exact e.symm
 .rfl
theorem Wg(h:b∉ps.map (·.1)):aM ps b p=ps:=by
 unfold aM
 conv=>rhs;rw[<-List.map_id ps]
 refine õ λq hq=>?_;rw[a4c (show ¬q.1=b from λe=>h<|e▸List.mem_map.mpr ⟨q,hq,rfl⟩)];rfl
theorem NM{q:Qg×HO}(e:q.1=b)(h:b∉ps.map (·.1)):aM (q::ps) b p=(b,p)::ps:=by
 have:=Wg (p:=p) h;unfold aM at this ⊢;rw[Ċ,a4b e,this]
theorem B5{q:Qg×HO}(e:q.1≠b):aM (q::ps) b p=q::aM ps b p:=by
 unfold aM;rw[Ċ,a4c e]
theorem FO.list{xs:Qa D}(h:FO K H vs ps fs)(e:fs.lookup f=ž (.l xs)):∃b us,vs.lookup f=ž (.ref b)/\(b,HO.lst us)∈ps/\aN K H us xs:=by
 induction h with
 |nil=>cases e
 | @d n v x vs ps fs h t ih=>
  rw[Ę]at e ⊢;split at e
  .cases e
  .rename_i q
   try rw[q]
   exact ih e
 | @l n b us iF vs ps fs h t ih=>
  rw[Ę]at e ⊢;split at e
  .rename_i q
   try rw[q]
   cases e;exact⟨b,us,rfl,qq,h⟩
  .rename_i q
   try rw[q]
   have(c,jd,h1,h2,h3):=ih e;exact⟨c,jd,h1,qp _ h2,h3⟩
 | @t n b us iF vs ps fs h t ih=>
  rw[Ę]at e ⊢;split at e
  .cases e
  .rename_i q
   try rw[q]
   have(c,jd,h1,h2,h3):=ih e;exact⟨c,jd,h1,qp _ h2,h3⟩
 | @x n b us iF vs ps fs h t ih=>
  rw[Ę]at e ⊢;split at e
  .cases e
  .rename_i q
   try rw[q]
   have(c,jd,h1,h2,h3):=ih e;exact⟨c,jd,h1,qp _ h2,h3⟩
theorem FO.putL{ys:Qa D}{us:Qa V}(h:FO K H vs ps fs)(nd:(ps.map (·.1)).Nodup)(e:vs.lookup f=ž (.ref b))(hb:b∈ps.map (·.1))(xs:Qa D)(ef:fs.lookup f=ž (.l xs))(hy:aN K H us ys):FO K H vs (aM ps b<|.lst us) (i5 fs f<|.l ys):=by
 induction h with
 |nil=>cases ef
 | @d n v x vs ps fs h t ih=>
  rw[Ę]at e ef;unfold i5;split at ef
  .cases ef
  .rename_i q
   try rw[q]at e
   replace e:Ľ f vs=ž (V.ref b):=e;rw[a4c (λz=>by rw[z]at q;simp at q)];exact .d h<|ih nd e hb ef
 | @l n c jd iF vs ps fs h t ih=>
  rw[Ċ,ū]at nd;rw[Ę]at e ef;unfold i5;split at ef
  .rename_i q
   try rw[q]at e
   cases e;rw[a4b (eq_of_beq q).symm,NM rfl nd.1];exact .l hy t
  .rename_i q
   try rw[q]at e
   replace e:Ľ f vs=ž (V.ref b):=e;rw[a4c (λz=>by rw[z]at q;simp at q)];have dh:b∈ps.map (·.1):=by
    have(b',kE,h1,h2,_):=t.list ef;rw[e]at h1;cases h1;exact À.mpr ⟨_,h2,rfl⟩
   rw[B5 (q:=(c,HO.lst jd)) (by intro z;have z:c=b:=z;exact nd.1 (by show c∈_;rw[z];exact dh))];exact .l h<|ih nd.2 e dh ef
 | @t n c jd iF vs ps fs h t ih=>
  rw[Ċ,ū]at nd;rw[Ę]at e ef;unfold i5;split at ef
  .cases ef
  .rename_i q
   try rw[q]at e
   replace e:Ľ f vs=ž (V.ref b):=e;rw[a4c (λz=>by rw[z]at q;simp at q)];have dh:b∈ps.map (·.1):=by
    have(b',kE,h1,h2,_):=t.list ef;rw[e]at h1;cases h1;exact À.mpr ⟨_,h2,rfl⟩
   rw[B5 (q:=(c,HO.dT jd)) (by intro z;have z:c=b:=z;exact nd.1 (by show c∈_;rw[z];exact dh))];exact .t h<|ih nd.2 e dh ef
 | @x n c jd iF vs ps fs h t ih=>
  rw[Ċ,ū]at nd;rw[Ę]at e ef;unfold i5;split at ef
  .cases ef
  .rename_i q
   try rw[q]at e
   replace e:Ľ f vs=ž (V.ref b):=e;rw[a4c (λz=>by rw[z]at q;simp at q)];have dh:b∈ps.map (·.1):=by
    have(b',kE,h1,h2,_):=t.list ef;rw[e]at h1;cases h1;exact À.mpr ⟨_,h2,rfl⟩
   rw[B5 (q:=(c,HO.dX jd)) (by intro z;have z:c=b:=z;exact nd.1 (by show c∈_;rw[z];exact dh))];exact .x h<|ih nd.2 e dh ef
theorem Wf(n:∀q∈ps,q.1≠a)(w:∀q∈ps,H q.1=ž (.own a))(hb:b∈ps.map (·.1)):ft (upd (bC H a C dx vs ps) b p) a C dx vs (aM ps b p)=upd H a (eL C dx vs<|aM ps b p):=by
 funext c
 by_cases h1:c=a
 .subst h1
  rw[s9,zw]
 .rw[zu h1]
  by_cases h2:c∈ps.map (·.1)
  .rw[rq (by rw[mR];exact h2) h1]
   have(q,hq,e):=À.mp h2;rw[<-e,w q hq]
  .rw[om (by rw[mR];exact h2) h1,zu (show c≠b from λz=>h2 (by rw[z];exact hb)),lH h2 h1]
theorem MH(e:H a=ž (eL C dx vs ps))(w:∀q∈ps,H q.1=ž (.own a)):ft (bC H a C dx vs ps) a C dx vs ps=H:=by
 funext c
 by_cases h1:c=a
 .subst h1
  rw[s9,e]
 .by_cases h2:c∈ps.map (·.1)
  .rw[rq h2 h1]
   have(q,hq,e):=À.mp h2;rw[<-e,w q hq]
  .rw[om h2 h1,lH h2 h1]
end
section
variable{C b:Qg}{ps:Qa (Qg×HO)}{fs:Qa (Str×PU)}{p:HO}
def VQ(K:qc)(t:TE)(m:ME):Prop :=
 ∀(ρ:En) (σ:St) (H:Hp) (a:Ar) (au:En) (Q:VK),Rs K ρ σ H->m ρ=ž (a,au)->au=ρ/\((∀v,mr K ρ σ H H v a->Q v H)->t σ H Q)
theorem rl:VQ K (eE i) (zd i):=by
 intro ρ σ H a au Q r e;unfold zd at e;split at e
 .rename_i u eu
  cases e;refine⟨rfl,λq=>?_⟩;have(v,ev,p):=r.rep i u eu;exact⟨v,ev,q v ⟨ev,u,eu⟩⟩
 .cases e
theorem FO.flat(h:FO K H vs ps fs):∀q∈ps,q.2.flat=ż:=by
 induction h with
 |nil=>exact λq hq=>by cases hq
 |d _ _ ih=>exact ih
 |l _ _ ih=>
  intro q hq;rcases qw.mp hq with rfl|hq
  .rfl
  .exact ih q hq
 |t _ _ ih=>
  intro q hq;rcases qw.mp hq with rfl|hq
  .rfl
  .exact ih q hq
 |x _ _ ih=>
  intro q hq;rcases qw.mp hq with rfl|hq
  .rfl
  .exact ih q hq
structure Op (K:qc) (H:Hp) (a C dx:Qg) (vs:Qa (Str×V)) (ps:Qa (Qg×HO)):Prop where
 at_:H a=ž (eL C dx vs ps)
 ne:ps≠[]
 nd:(ps.map (·.1)).Nodup
 oP:dx∉ps.map (·.1)
 own:∀q∈ps,H q.1=ž (.own a)
 flat:∀q∈ps,q.2.flat=ż
theorem Op.pa(o:Op K H a C dx vs ps):∀q∈ps,q.1≠a:=λq hq z=>by
 have:=o.own q hq;rw[z,o.at_]at this;exact(F4 (C:=C) (dx:=dx) (vs:=vs) o.ne).1 _<|qy this
theorem Op.bC(o:Op K H a C dx vs ps):Re K H (bC H a C dx vs ps):=Tr o.at_ o.ne o.nd o.oP o.own
theorem Op.ft(o:Op K H a C dx vs ps):Re K (Internal.bC H a C dx vs ps) H:=by
 have:=xm (K:=K) (H:=Internal.bC H a C dx vs ps) (a:=a) (C:=C) (dx:=dx) (vs:=vs) (ps:=ps) mJ o.pa λq hq=>⟨mF o.nd hq<|o.pa q hq,o.flat q hq⟩;rw[MH o.at_ o.own]at this;exact this
theorem Op.put(o:Op K H a C dx vs ps){p0:HO}(hb:(b,p0)∈ps)(f:p.flat=ż):Re K (upd (Internal.bC H a C dx vs ps) b p) (upd H a<|eL C dx vs<|aM ps b p):=by
 have ba:=o.pa _ hb;have hm:b∈ps.map (·.1):=À.mpr ⟨_,hb,rfl⟩;have:=xm (K:=K) (H:=upd (Internal.bC H a C dx vs ps) b p) (a:=a) (C:=C) (dx:=dx) (vs:=vs) (ps:=aM ps b p) (by rw[zu<|ī ba];exact mJ) (λq hq=>?_) λq hq=>?_
 .rw[Wf o.pa o.own hm]at this
  exact this
 .have hk:q.1∈ps.map (·.1):=by rw[<-mR (b:=b) (p:=p)];exact À.mpr ⟨q,hq,rfl⟩
  have(z,hz,ez):=À.mp hk;rw[<-ez];exact o.pa z hz
 .have(z,hz,rfl):=À.mp hq
  by_cases c:z.1=b
  .rw[a4b c]
   exact⟨zw,f⟩
  .rw[a4c c,zu c]
   exact⟨mF o.nd hz<|o.pa z hz,o.flat z hz⟩
end
noncomputable def U.fl(c f:Str):U->Qb (Qa D)
 |.o c' fs=>if c'=c then(match fs.lookup f with|some (.l xs)=>ž xs|_=>Ž)else Ž
 |_=>Ž
def U.aM(f:Str)(y:PU):U->U
 |.o c fs=>.o c<|i5 fs f y
 |u=>u
theorem Tq{w:U}{xs:Qa D}(h:w.fl c f=ž xs):∃fs,w=.o c fs/\fs.lookup f=ž (.l xs):=by
 unfold U.fl at h;split at h
 .rename_i c' fs
  split at h
  .rename_i e
   subst e;split at h
   .rename_i ys hy
    cases h;exact⟨fs,rfl,hy⟩
   .cases h
  .cases h
 .cases h
def AN(c:Str)(i:Nat)(f:Str)(me:ME):ME:=λρ=>(ρ[i]?).join.bind λw=>(w.fl c f).bind λxs=>(me ρ).bind λp=>(p.1.get p.2).bind λu=>u.da.bind λx=>if xs.length < ċ then ž (.u<|.d .none,p.2.set i<|some<|w.aM f<|.l<|xs++[x])else Ž
section
theorem K8{me:ME}(hc:∀C,XN K c C->eY K C/\gy K C f)(hq:VQ K te me):VE K (PZ K "list" (P0 K FY) (qV K (eE i) f)<|kl te kg) (AN c i f me):=by
 intro ρ σ H a au Q r e q;have(w,e0,e):=bQ e;have(xs,ex,e):=bQ e;obtain⟨⟨a1,aw⟩,e1,e⟩:=bQ e;have(u,eu,e):=bQ e;have(x,ed,e):=bQ e;cases BH ed;dsimp only at e;split at e
 .rename_i hz
  cases e;have(fs,rfl,hf):=Tq ex;have ei:=jO e0;have(v0,eB,R):=r.rep i _ ei;have(l,C,dx,vs,ps,rfl,hl,ne,xn,nd,fo,vM,own):=R;have(b,us,h1,h2,h3):=fo.list hf;have o:Op K H l C dx vs ps:=⟨hl,ne,nd,vM,own,fo.flat⟩;have ba:=o.pa _ h2;have Rn:bC H l C dx vs ps b=ž (.lst us):=mF nd h2 ba;have(cl,na):=hc C xn;refine⟨_,o.bC,_,eB,l,C,dx,vs,_,rfl,mJ,cl,na,h1,H,o.ft,⟨_,o.bC,.inl ⟨rfl,us,bE.of Rn⟩⟩,?_⟩;have(rfl,run):=hq ρ σ H a1 aw _ r e1;refine run λv k1=>?_;have pv:DF K H v x:=k1.now r (Go.refl r) eu;refine⟨_,o.bC,b,us,v,rfl,rfl,Rn,by rw[h3.len];exact hz,_,o.put (p:=.lst (us++[v])) h2 rfl,?_⟩;have kp:=jL hl (Mo.eL ne) (eL C dx vs<|aM ps b<|.lst<|us++[v]);have hbm:b∈ps.map (·.1):=À.mpr ⟨_,h2,rfl⟩;refine q _ _ (Go.own (u':=.o c (i5 fs f<|.l<|xs++[x])) r ei rfl eB ⟨l,C,dx,vs,aM ps b<|.lst<|us++[v],rfl,zw,?_,xn,by rw[mR];exact nd,(fo.kp kp).putL nd h1 hbm xs hf<|(h3.kp kp).snoc<|DF.kp kp pv,by rw[mR];exact vM,λz hz=>?_⟩) ⟨.aL,Nw.data⟩
  .intro z
   have:=congrArg a1t z;unfold aM at this;rw[ĉ]at this;exact ne<|ä.mp this
  .have hk:z.1∈ps.map (·.1):=by rw[<-mR (b:=b) (p:=.lst (us++[v]))];exact À.mpr ⟨z,hz,rfl⟩
   have(y,hy,ey):=À.mp hk;rw[<-ey,zu<|o.pa y hy];exact own y hy
 .cases e
end
def Jh(K:qc)(H:Hp)(a:Qg)(y:V)(o:Qb V)(Q:Hp->Prop):Prop:=∃H' sd,Re K H H'/\DC K H' a y o/\Re K H' sd/\Q sd
def Jx(K:qc)(td ty:TE):TE:=λσ H Q=>td σ H λx H1=>ty σ H1 λy H2=>∃a v,x=.ref a/\Jh K H2 a y (ž v) (Q v)
def Gq(K:qc)(ty td:TE):TE:=λσ H Q=>ty σ H λy H1=>td σ H1 λx H2=>∃a o,x=.ref a/\Jh K H2 a y o (Q<|.bl (!o.isSome))
def Jw(K:qc)(td ty tv:TE):TS:=λD σ H=>tv σ H λv H1=>td σ H1 λx H2=>ty σ H2 λy H3=>∃a Jo H4 H5,x=.ref a/\Re K H3 Jo/\Sw K Jo a y v H4/\Re K H4 H5/\D.nx σ H5
section
variable{X:Cx}{i:Ĥ}{pos:Pos}{k:Nat}
theorem Ip(hr:aK k X.A):X.A.units+6 < ϓ:=by have:=hr.un;omega
theorem Zl{s:Qd}{y:V}{o:Qb V}(I:Inv X pins σ H s)(g:DC X.K H a y o):s.TypeIs (.ref a) "dict":=by
 have(ao,k,b,e,_):=g;have(_,_,xs,_,dd):=AO I.bZ I.aF e;exact dd.typeIs
theorem Tp(hr:aK k X.A)(ho:Wr (PE X o td))(hi:Wr (PE X i ty))(hs:Ao i:=by intro _ _;rfl):Wr (PE X (.Subscript o i pos)<|Jx X.K td ty):=by
 refine⟨?_⟩;intro pins s σ H Q I h;refine Mp PySem.F.slot_dict_getitem.lookup hs<|aI (ho.run pins s σ H _ I h) λu s1 hY=>?_;have(x,H1,I1,rx,q1):=hY;refine aI (hi.run pins s1 σ H1 _ I1 q1) λiv s2 hZ=>?_;have(y,H2,I2,ry,a,v,ex,H2',H3,re,g,oC,q2):=hZ;subst ex;obtain rfl:u=Ĝ a:=rx;exact⟨Zl (I2.re re) g,zpE (Ip hr) (I2.re re) g ry λw' s3 I3 iH=>⟨v,H3,I3.re oC,iH,q2⟩⟩
theorem zpH(hr:aK k X.A)(hi:PE X i ty)(ho:PE X o td):PC X .NotIn i o (Gq X.K ty td):=by
 intro pins s σ H Q I h;refine aI (hi pins s σ H _ I h) λiv s1 hY=>?_;have(y,H1,I1,ry,q1):=hY;refine aI (ho pins s1 σ H1 _ I1 q1) λu s2 hZ=>?_;have(x,H2,I2,rx,a,ov,ex,H2',H3,re,g,oC,q2):=hZ;subst ex;obtain rfl:u=Ĝ a:=rx;exact Wi (Ip hr) (I2.re re) g ry λs3 I3=>⟨.bl (!ov.isSome),H3,I3.re oC,rfl,q2⟩
theorem zpI(hr:aK k X.A)(hi:Wr (PE X i ty))(ho:Wr (PE X o td))(h1:ś .NotIn o=Ż:=by rfl):Wr (PT X (.Compare i [.NotIn] [o] pos)<|tB<|Gq X.K ty td):=⟨UW (zpH hr hi.run ho.run) h1⟩
theorem To(hr:aK k X.A)(ho:Wr (PE X o td))(hi:Wr (PE X i ty))(hv:Wr (PE X value tv))(hs:ϣ value (ž<|.Subscript o i pos') pos.line X.env=pure Ż:=by rfl):
  Wr (PS X (.Assign [.Subscript o i pos'] value pos)<|Jw X.K td ty tv):=by
 refine⟨?_⟩;intro pins s σ H D I h;refine a3x (aI (hv.run pins s σ H _ I h) λr s1 hV=>?_) hs;have(v,H1,I1,rv,q1):=hV;refine aI (ho.run pins s1 σ H1 _ I1 q1) λu s2 hY=>?_;have(x,H2,I2,rx,q2):=hY;refine aI (hi.run pins s2 σ H2 _ I2 q2) λiv s3 hZ=>?_;have(y,H3,I3,ry,a,Jo,H4,H5,ex,re,g,re5,q3):=hZ;subst ex;obtain rfl:u=Ĝ a:=rx;exact zpF (Ip hr) (I3.re re) g ry rv λs4 I4=>⟨σ,H5,I4.re re5,q3⟩
end
def vG(f:D->Qb (Qa J))(d:D):Qb (Key ⊕ Qa J):=match qN d with
 |some k=>ž<|.inl k
 |none=>(f d).map .inr
def i0(f:D->Qb (Qa J)):D->Qb (Qa<|Key ⊕ Qa J)
 |.tuple ds=>ds.mapM<|vG f
 |_=>Ž
def CP:D->Qb (Qa K3):=i0 (i0<|i0<|i0 gY)
section
theorem AM{f:D->Qb (Qa J)}{R:Qa J->Qg->Prop}(hf:∀v d ks,DF K H v d->f d=ž ks->∃b,v=.ref b/\R ks b){d:D}{xs:Qa (Key ⊕ Qa J)}(h:DF K H v d)(e:i0 f d=ž xs):∃b,v=.ref b/\iA K H R xs b:=by
 unfold i0 at e;split at e
 .rename_i ds
  have(b,us,rfl,h1,h2):=DF.aV h;refine⟨b,rfl,us,h1,?_⟩;clear h h1
  induction ds generalizing us xs with
  |nil=>cases h2;rw[List.mapM_nil]at e;cases e;exact .nil
  |cons d ds ih=>
   cases h2;rename_i w vs hd t;rw[ŗ]at e;have(x,ex,e):=bQ e;have(ys,ey,e):=bQ e;cases e;refine .cons ?_<|ih ey _ t;unfold vG at ex;split at ex
   .rename_i k hk
    cases ex;exact Fc hd hk
   .have(ks,ek,e2):=qt.mp ex
    cases e2;exact hf _ _ _ hd ek
 .cases e
theorem zBJ{d:D}{xs:Qa K3}(h:DF K H v d)(e:CP d=ž xs):∃b,v=.ref b/\N3 K H xs b :=
 AM (λ_ _ _ h e=>AM (λ_ _ _ h e=>AM (λ_ _ _ h e=>AM (λ_ _ _ h e=>BK h e) h e) h e) h e) h e
end
def PP(K:qc)(H:Hp):HO->PU->Prop
 |.lst us,.l xs=>aN K H us xs
 |.dT us,.t xs=>dR K H us xs
 |.dX us,.x xs=>dR K H us xs
 |_,_=>False
noncomputable def PU.part:PU->Bool
 |.d _=>Ż
 |_=>ż
noncomputable def U.fp(c f:Str):U->Qb PU
 |.o c' fs=>if c'=c then fs.lookup f else Ž
 |_=>Ž
section
variable{C b:Qg}{ps:Qa (Qg×HO)}{fs:Qa (Str×PU)}{p:HO}{u:PU}{ρ:En}{w:U}
theorem PP.flat(h:PP K H p u):p.flat=ż:=by
 unfold PP at h;split at h
 .rfl
 .rfl
 .rfl
 .cases h
theorem FO.ind{M:Qa (Str×V)->Qa (Qg×HO)->Qa (Str×PU)->Prop}(h:FO K H vs ps fs)(h0:M [] [] [])(hd:∀n v x vs ps fs,DF K H v x->FO K H vs ps fs->M vs ps fs->M ((n,v)::vs) ps ((n,.d x)::fs))(hp:∀n b p u vs ps fs,PP K H p u->FO K H vs ps fs->M vs ps fs->M ((n,.ref b)::vs) ((b,p)::ps) ((n,u)::fs)):M vs ps fs:=by
 induction h with
 |nil=>exact h0
 |d h t ih=>exact hd _ _ _ _ _ _ h t ih
 |l h t ih=>exact hp _ _ (.lst _) (.l _) _ _ _ h t ih
 |t h t ih=>exact hp _ _ (.dT _) (.t _) _ _ _ h t ih
 |x h t ih=>exact hp _ _ (.dX _) (.x _) _ _ _ h t ih
theorem FO.pp{n:Str}(h:PP K H p u)(t:FO K H vs ps fs):FO K H ((n,.ref b)::vs) ((b,p)::ps) ((n,u)::fs):=by
 unfold PP at h;split at h
 .exact .l h t
 .exact .t h t
 .exact .x h t
 .cases h
theorem FO.part(h:FO K H vs ps fs):fs.lookup f=ž u->u.part=ż->∃b p,vs.lookup f=ž (.ref b)/\(b,p)∈ps/\PP K H p u:=by
 refine FO.ind (M:=λvs ps fs=>fs.lookup f=ž u->u.part=ż->∃b p,vs.lookup f=ž (.ref b)/\(b,p)∈ps/\PP K H p u) h (λe=>nomatch e) (λn v x vs ps fs _ _ ih e o=>?_) λn b p u' vs ps fs hp _ ih e o=>?_
 .rw[Ę]at e ⊢
  split at e
  .cases e;cases o
  .rename_i q
   try rw[q]
   exact ih e o
 .rw[Ę]at e ⊢
  split at e
  .rename_i q
   try rw[q]
   cases e;exact⟨b,p,rfl,qq,hp⟩
  .rename_i q
   try rw[q]
   have(b,p,h1,h2,h3):=ih e o;exact⟨b,p,h1,qp _ h2,h3⟩
theorem FO.put{u':PU}{p':HO}(h:FO K H vs ps fs)(hy:PP K H p' u'):(ps.map (·.1)).Nodup->vs.lookup f=ž (.ref b)->fs.lookup f=ž u->u.part=ż->FO K H vs (aM ps b p') (i5 fs f u'):=by
 refine FO.ind (M:=λvs ps fs=>(ps.map (·.1)).Nodup->vs.lookup f=ž (.ref b)->fs.lookup f=ž u->u.part=ż->FO K H vs (aM ps b p') (i5 fs f u')) h (λ_ e=>nomatch e) (λn v x vs ps fs hx t ih nd e ef o=>?_) λn c p u0 vs ps fs hp t ih nd e ef o=>?_
 .rw[Ę]at e ef
  unfold i5;split at ef
  .cases ef;cases o
  .rename_i q
   try rw[q]at e
   rw[a4c (λz=>by rw[z]at q;simp at q)];exact .d hx<|ih nd e ef o
 .rw[Ċ,ū]at nd
  rw[Ę]at e ef;unfold i5;split at ef
  .rename_i q
   try rw[q]at e
   cases e;rw[a4b (eq_of_beq q).symm,NM rfl nd.1];exact .pp hy t
  .rename_i q
   try rw[q]at e
   replace e:Ľ f vs=ž (V.ref b):=e;rw[a4c (λz=>by rw[z]at q;simp at q)];have dh:b∈ps.map (·.1):=by
    have(b',kE,h1,h2,_):=t.part ef o;rw[e]at h1;cases h1;exact À.mpr ⟨_,h2,rfl⟩
   rw[B5 (q:=(c,p)) (by intro z;have z:c=b:=z;exact nd.1 (by show c∈_;rw[z];exact dh))];exact .pp hp<|ih nd.2 e ef o
theorem Tn(h:w.fp c f=ž u):∃fs,w=.o c fs/\fs.lookup f=ž u:=by
 unfold U.fp at h;split at h
 .rename_i c' fs
  split at h
  .rename_i e
   subst e;exact⟨fs,rfl,h⟩
  .cases h
 .cases h
structure Pt (K:qc) (σ:St) (H:Hp) (c:Str) (i:Nat) (f:Str) (u:PU) (fs:Qa (Str×PU)) (a C dx:Qg) (vs:Qa (Str×V)) (ps:Qa (Qg×HO)) (b:Qg) (p:HO):Prop where
 st:σ[i]?=ž (ž<|.ref a)
 op:Op K H a C dx vs ps
 xn:XN K c C
 vl:vs.lookup f=ž (.ref b)
 mem:(b,p)∈ps
 pp:PP K H p u
 fo:FO K H vs ps fs
 fl:fs.lookup f=ž u
theorem Jv(r:Rs K ρ σ H)(e:(ρ[i]?).join=ž w)(ef:w.fp c f=ž u)(o:u.part=ż):∃fs a C dx vs ps b p,w=.o c fs/\Pt K σ H c i f u fs a C dx vs ps b p:=by
 have(fs,rfl,hf):=Tn ef;have(v0,eB,R):=r.rep i _ (jO e);have(l,C,dx,vs,ps,rfl,hl,ne,xn,nd,fo,vM,own):=R;have(b,p,h1,h2,h3):=fo.part hf o;exact⟨fs,l,C,dx,vs,ps,b,p,rfl,eB,⟨hl,ne,nd,vM,own,fo.flat⟩,xn,h1,h2,h3,fo,hf⟩
theorem Pt.at(t:Pt K σ H c i f u fs a C dx vs ps b p):bC H a C dx vs ps b=ž p:=mF t.op.nd t.mem (t.op.pa _ t.mem)
theorem Pt.fld{Q:VK}(t:Pt K σ H c i f u fs a C dx vs ps b p)(hc:∀C,XN K c C->eY K C/\gy K C f)(q:Q (.ref b) H):qV K (eE i) f σ H Q :=
 ⟨_,t.op.bC,_,t.st,a,C,dx,vs,_,rfl,mJ,(hc C t.xn).1,(hc C t.xn).2,t.vl,H,t.op.ft,q⟩
theorem Pt.put{u':PU}{p':HO}(t:Pt K σ H c i f u fs a C dx vs ps b p)(r:Rs K ρ σ H)(ei:ρ[i]?=ž (ž<|.o c fs))(o:u.part=ż)(h:∀H',Kp H H'->PP K H' p' u'):Re K (upd (bC H a C dx vs ps) b p') (upd H a<|eL C dx vs<|aM ps b p')/\Go K ρ σ H (ρ.set i<|some<|.o c<|i5 fs f u') (upd H a<|eL C dx vs<|aM ps b p'):=by
 have kp:=jL t.op.at_ (Mo.eL t.op.ne) (eL C dx vs<|aM ps b p');refine⟨t.op.put t.mem (h H<|Kp.refl H).flat,Go.own (u':=.o c (i5 fs f u')) r ei rfl t.st ⟨a,C,dx,vs,aM ps b p',rfl,zw,λz=>?_,t.xn,by rw[mR];exact t.op.nd,(t.fo.kp kp).put (h _ kp) t.op.nd t.vl t.fl o,by rw[mR];exact t.op.oP,λz hz=>?_⟩⟩
 .have:=congrArg a1t z
  unfold aM at this;rw[ĉ]at this;exact t.op.ne<|ä.mp this
 .have hk:z.1∈ps.map (·.1):=by rw[<-mR (b:=b) (p:=p')];exact À.mpr ⟨z,hz,rfl⟩
  have(y,hy,ey):=À.mp hk;rw[<-ey,zu<|t.op.pa y hy];exact t.op.own y hy
end
noncomputable def PU.xs:PU->Qb (Qa<|Qa K3×D)
 |.x ao=>ž ao
 |_=>Ž
theorem Tj{u:PU}{ao:Qa (Qa K3×D)}(h:u.xs=ž ao):u=.x ao:=by
 cases u<;>cases h;rfl
def fX(c:Str)(i:Nat)(f:Str)(ρ:En):Qb (Qa<|Qa K3×D):=(ρ[i]?).join.bind λw=>(w.fp c f).bind (·.xs)
def oZ(p:Ar×En):Qb (Qa K3):=(p.1.get p.2).bind λu=>u.da.bind CP
def ED(c:Str)(i:Nat)(f:Str)(mk:ME):ME:=λρ=>(fX c i f ρ).bind λao=>(mk ρ).bind λp=>(oZ p).bind λk=>(eO ao k).bind λy=>ž (.u<|.d y,p.2)
def DR(neg:Bool)(mk:ME)(c:Str)(i:Nat)(f:Str):ME:=λρ=>(mk ρ).bind λp=>(fX c i f p.2).bind λao=>(oZ p).bind λk=>ž (.u<|.d<|.bool (if neg=ż then !(eO ao k).isSome else(eO ao k).isSome),p.2)
def EC(c:Str)(i:Nat)(f:Str)(mk mv:ME):MS:=λρ=>(mv ρ).bind λp=>(fX c i f p.2).bind λao=>(mk p.2).bind λq=>(oZ q).bind λk=>(p.1.get q.2).bind λx=>x.da.bind λx=>(q.2[i]?).join.bind λw=>if ao.length < ċ then ž (.nx<|q.2.set i<|some<|w.aM f<|.x<|fE ao k x)else Ž
section
variable{ρ:En}{C b:Qg}{ps:Qa (Qg×HO)}{fs:Qa (Str×PU)}{p:HO}{tk:TE}{mk mv:ME}{EX:gn}
theorem EB{ao:Qa (Qa K3×D)}(r:Rs K ρ σ H)(e:fX c i f ρ=ž ao):∃fs a C dx vs ps b us,ρ[i]?=ž (ž<|.o c fs)/\Pt K σ H c i f (.x ao) fs a C dx vs ps b (.dX us)/\dR K H us ao:=by
 unfold fX at e;have(w,e0,e):=bQ e;have(u,eu,e):=bQ e;cases Tj e;have(fs,a,C,dx,vs,ps,b,p,rfl,t):=Jv r e0 eu rfl;have h:=t.pp;unfold PP at h;split at h
 .rename_i h';cases h'
 .rename_i h';cases h'
 .rename_i us xs h'
  cases h';exact⟨fs,a,C,dx,vs,ps,b,us,jO e0,t,h⟩
 .cases h
theorem Gp{a:Ar}{k:Qa K3}(h:∀u,a.get ρ=ž u->Rp K H v u)(e:oZ (a,ρ)=ž k):∃b,v=.ref b/\N3 K H k b:=by
 unfold oZ at e;have(u,eu,e):=bQ e;have(d,ed,e):=bQ e;cases BH ed;exact zBJ (h _ eu) e
theorem Pt.RH{u:PU}{us:Qa (Qa K3×V)}{k:Qa K3}{kb:Qg}{Q:Hp->Prop}(t:Pt K σ H c i f u fs a C dx vs ps b (.dX us))(hk:N3 K H k kb)(q:Q H):Jh K H b (.ref kb) (gL us k) Q :=
 ⟨_,H,t.op.bC,⟨us,k,kb,t.at,rfl,hk.keeps t.op.bC.tup,rfl⟩,t.op.ft,q⟩
theorem Ti(hc:∀C,XN K c C->eY K C/\gy K C f)(hq:VQ K tk mk):VE K (Jx K (qV K (eE i) f) tk) (ED c i f mk):=by
 intro ρ σ H a au Q r e q;have(ao,e0,e):=bQ e;obtain⟨⟨a1,aw⟩,e1,e⟩:=bQ e;have(k,ek,e):=bQ e;have(y,ey,e):=bQ e;cases e;have(fs,l,C,dx,vs,ps,b,us,_,t,kv):=EB r e0;refine t.fld hc ?_;have(rfl,run):=hq ρ σ H a1 aw _ r e1;refine run λv k1=>?_;have(kb,rfl,hk):=Gp (λu eu=>k1.now r (Go.refl r) eu) ek;rcases kv.val k with⟨v,d,h1,h2,h3⟩|⟨_,h2⟩
 .rw[ey]at h2
  cases h2;exact⟨b,v,rfl,h1▸t.RH hk (q _ _ (Go.refl r) ⟨h3,Nw.data⟩)⟩
 .rw[ey]at h2
  cases h2
theorem Yv(hc:∀C,XN K c C->eY K C/\gy K C f)(hk:VE K tk mk):VE K (Gq K tk<|qV K (eE i) f) (DR ż mk c i f):=by
 intro ρ σ H a au Q r e q;obtain⟨⟨a1,aw⟩,e1,e⟩:=bQ e;have(ao,e0,e):=bQ e;have(k,ek,e):=bQ e;cases e;refine hk ρ σ H a1 aw _ r e1 λv H1 g1 k1=>?_;have(fs,l,C,dx,vs,ps,b,us,_,t,kv):=EB g1.rs e0;refine t.fld hc ?_;have(kb,rfl,yG):=Gp (λu eu=>k1.now r g1 eu) ek;refine⟨b,gL us k,rfl,t.RH yG<|q _ _ g1 ⟨?_,Nw.data⟩⟩;rcases kv.val k with⟨v,d,h1,h2,h3⟩|⟨h1,h2⟩<;>rw[h1,h2]<;>exact .bl _
theorem Th(hc:∀C,XN K c C->eY K C/\gy K C f)(hq:VQ K tk mk)(hv:VE K tv mv):VS K pn EX (Jw K (qV K (eE i) f) tk tv) (EC c i f mk mv):=by
 intro av A H₀ aC ρ σ H fl D s e k;replace e:=bQ e;obtain⟨⟨a1,aw⟩,e1,e⟩:=e;replace e:=bQ e;have(ao,e0,e):=e;replace e:=bQ e;obtain⟨⟨a2,aD⟩,e2,e⟩:=e;replace e:=bQ e;have(ky,ek,e):=e;replace e:=bQ e;have(u,eu,e):=e;replace e:=bQ e;have(x,ed,e):=e;cases BH ed;replace e:=bQ e;have(w,ew,e):=e;dsimp only at e ew eu;split at e
 .rename_i hz
  cases e;refine hv ρ σ H a1 aw _ s.rs e1 λv H1 g1 k1=>?_;have(fs,l,C,dx,vs,ps,b,us,ei,t,kv):=EB g1.rs e0;refine t.fld hc ?_;have(rfl,run):=hq aw σ H1 a2 aD _ g1.rs e2;refine run λy k2=>?_;have pv:DF K H1 v x:=k1.now s.rs g1 eu;have(kb,rfl,yG):=Gp (λu eu=>k2.now g1.rs (Go.refl g1.rs) eu) ek;rw[ei]at ew;cases ew;have(re,go):=t.put (u':=.x (fE ao ky x)) (p':=.dX (gC us ky v)) g1.rs ei rfl λH' kp=>(kv.kp kp).put ky<|DF.kp kp pv;exact⟨b,_,_,_,rfl,t.op.bC,⟨us,ky,kb,t.at,rfl,yG.keeps t.op.bC.tup,by rw[kv.len];exact hz,rfl⟩,re,k _ _<|s.go<|g1.trans go⟩
 .cases e
end
def PY(K:qc)(r:Qa V->Hp->VK->Prop):Qa V->Hp->VK->Prop:=λxs H Q=>∃H1,Re K H H1/\r xs H1 λv H2=>∃H3,Re K H2 H3/\Q v H3
def PX(K:qc)(r:R2):R2:=λx y H Q=>∃H1,Re K H H1/\r x y H1 λv H2=>∃H3,Re K H2 H3/\Q v H3
section
variable{X:Cx}
theorem We{g:Qc}(h:gO X g r):gO X g (PY X.K r):=λpins s σ H xs us Q I rs q=>by
 have(H1,r1,q):=q;refine aI (h pins s σ H1 xs us _ (I.re r1) rs q) λu s1 z=>?_;have(y,H2,I2,ry,H3,r3,z):=z;exact⟨y,H3,I2.re r3,ry,z⟩
theorem AL{r:R2}(h:qJ X r):qJ X (PX X.K r):=λva sl pins s σ H x y u v Q I rx ry q hp=>by
 have(H1,r1,q):=q;refine aI (h va sl pins s σ H1 x y u v _ (I.re r1) rx ry q hp) λu s1 z=>?_;have(y,H2,I2,ry,H3,r3,z):=z;exact⟨y,H3,I2.re r3,ry,z⟩
end
noncomputable def PU.ls:PU->Qb (Qa D)
 |.l xs=>ž xs
 |_=>Ž
theorem Tg{u:PU}{xs:Qa D}(h:u.ls=ž xs):u=.l xs:=by
 cases u<;>cases h;rfl
def lY(c:Str)(i:Nat)(f:Str)(ρ:En):Qb (Qa D):=(ρ[i]?).join.bind λw=>(w.fp c f).bind (·.ls)
noncomputable def Ai:D->Qb Int
 |.int n=>ž n
 |_=>Ž
theorem Yu{d:D}{n:Int}(h:Ai d=ž n):d=.int n:=by
 cases d<;>cases h;rfl
def EA(c:Str)(i:Nat)(f:Str):ME:=λρ=>(lY c i f ρ).bind λxs=>ž (.u<|.d<|.int xs.length,ρ)
def uC(c:Str)(i:Nat)(f:Str)(mk:ME):ME:=λρ=>(lY c i f ρ).bind λxs=>(mk ρ).bind λp=>(p.1.get p.2).bind λu=>u.da.bind λd=>(Ai d).bind λn=>(bf xs n).bind λx=>ž (.u<|.d x,p.2)
section
variable{ρ:En}{tk:TE}{mk mv:ME}
theorem BA{xs:Qa D}(r:Rs K ρ σ H)(e:lY c i f ρ=ž xs):∃fs a C dx vs ps b us,ρ[i]?=ž (ž<|.o c fs)/\Pt K σ H c i f (.l xs) fs a C dx vs ps b (.lst us)/\aN K H us xs:=by
 unfold lY at e;have(w,e0,e):=bQ e;have(u,eu,e):=bQ e;cases Tg e;have(fs,a,C,dx,vs,ps,b,p,rfl,t):=Jv r e0 eu rfl;have h:=t.pp;unfold PP at h;split at h
 .rename_i us xs h'
  cases h';exact⟨fs,a,C,dx,vs,ps,b,us,jO e0,t,h⟩
 .rename_i h';cases h'
 .rename_i h';cases h'
 .cases h
theorem Tf(hc:∀C,XN K c C->eY K C/\gy K C f):VE K (pS (PY K<|D5 K)<|kl (qV K (eE i) f) kg) (EA c i f):=by
 intro ρ σ H a au Q r e q;have(xs,e0,e):=bQ e;cases e;have(fs,l,C,dx,vs,ps,b,us,_,t,kv):=BA r e0;refine t.fld hc ?_;refine⟨_,t.op.bC,b,us,rfl,.inl<|bE.of t.at,H,t.op.ft,q _ _ (Go.refl r) ⟨?_,Nw.data⟩⟩;rw[kv.len];exact .int _
theorem AK(hc:∀C,XN K c C->eY K C/\gy K C f)(hq:VQ K tk mk):VE K (lM (PX K<|Ap K) (qV K (eE i) f) tk) (uC c i f mk):=by
 intro ρ σ H a au Q r e q;have(xs,e0,e):=bQ e;obtain⟨⟨a1,aw⟩,e1,e⟩:=bQ e;have(u,eu,e):=bQ e;have(d,ed,e):=bQ e;have(n,en,e):=bQ e;have(x,ex,e):=bQ e;cases e;cases Yu en;cases BH ed
 .have(fs,l,C,dx,vs,ps,b,us,_,t,kv):=BA r e0
  refine t.fld hc ?_;have(rfl,run):=hq ρ σ H a1 aw _ r e1;refine run λv k1=>?_;have pv:DF K H v (.int n):=k1.now r (Go.refl r) eu;have(y,hy,dy):=kv.bf ex;exact⟨_,t.op.bC,b,us,n,y,rfl,DF.int_inv pv,bE.of t.at,hy,H,t.op.ft,q _ _ (Go.refl r) ⟨dy,Nw.data⟩⟩
end
section
variable{C C':Qg}
theorem XN.one(h:XN K c C)(h':XN K c C'):C=C':=by
 have z:=(show Ģ K Ě c=ž (ž<|.ref C) from h).symm.trans (show Ģ K Ě c=ž (ž<|.ref C') from h');injection z with z;injection z with z;injection z
end
structure yY (P:Qe) (w:Qh) (K:qc) (mg:Str->Qb Qc) (base:Ĭ) (c:Str) (m:Str) (k:Nat) (ps:Qa Str) (sp:Sp):Prop where
 ex:∃(C f:Qg) (fd:Š),XN K c C/\eY K C/\cI P w K mg base iR k f fd ps sp/\mD K fd ps []/\uo K C m f
def Ju(K:qc)(c:Str)(m:Str)(sp:Sp)(ta:TE)(t:TA):TE:=λσ H Q=>ta σ H λx H1=>(∃C a dx fs H',XN K c C/\x=.ref a/\Re K H1 H'/\H' a=ž (.ins C dx fs)/\fs.lookup m=Ž)/\t σ H1 λvs H2=>sp (x::vs) H2 Q E0
section
variable{X:Cx}{m:Str}{C:Qg}{k:Nat}{ps:Qa Str}{es:Qa Ĥ}{t:TA}{pos:Pos}
theorem rh{pl:Sem Bool}(M:yY X.prog X.w X.K X.mg X.base c m k ps sp)(he:Wr (PE X o ta))(ha:Wr (PA X (e::es) t))(hr:aK k X.A:=by exact aK.mono ‹aK _ _› (by decide))
  (hs:dz e=ż:=by rfl) (fB:es.all dz=ż:=by rfl)
  (ht:ŀ (.Call (.Attribute o m apos) (e::es) [] pos) X.env=(do
   let ov <-ŀ o X.env
   a0p apos.atName
   let (f,first) <-Ű [ov] (getMethod ov m pl)
   callWith pos f first (Ϩ pos<|ĭ (e::es) X.env) (a2E pos<|a0L [] X.env)):=by rfl):
  Wr (PE X (.Call (.Attribute o m apos) (e::es) [] pos)<|Ju X.K c m sp ta t):=by
 refine⟨?_⟩;have(C,f,fd,xn,cl,F,hb,hm):=M.ex;intro pins s σ H Q I h;refine PySem.W.methodCall_KW (pl:=pl) (aI (he.run pins s σ H _ I h) λu s1 hZ=>?_) ht;obtain⟨x,H1,I1,rx,⟨C',a,dx,fs,H',Hh,ex,re,ea,l⟩,q⟩:=hZ;cases xn.one Hh;subst ex;obtain rfl:u=Ĝ a:=rx;refine zlX (I1.re re) ea cl hm l ?_;refine a2K (first:=[.ref a]) (h₀:=X.base) I.ok.mod.eK hm.kp (aI (ha.run pos pins s1 σ H1 _ I1 q) λus s2 ⟨vs,H2,I2,r,q2⟩=>⟨I2.bZ,?_⟩) (jc hs)<|rB fB;exact Ld (us:=.ref a::us) (vs:=.ref a::vs) (dvs:=[]) (E:=E0) F hr hb .nil EM I2 (.cons rfl r) (by rw[ş];exact q2)
end
noncomputable def U.lS(c m:Str):U->Bool
 |.o c' fs=>decide (c'=c) && (fs.lookup m).isNone
 |_=>Ż
theorem Wc{m:Str}{w:U}(h:w.lS c m=ż):∃fs,w=.o c fs/\fs.lookup m=Ž:=by
 unfold U.lS at h;split at h
 .rename_i c' fs
  rw[ġ,decide_eq_true_iff,Option.isNone_iff_eq_none]at h;have(rfl,h):=h;exact⟨fs,rfl,h⟩
 .cases h
def lg(c:Str)(i:Nat)(m:Str)(F:FD)(ma:MA):ME:=λρ=>(ρ[i]?).join.bind λw=>if w.lS c m=ż then zF F (zb (zd i) ma) ρ else Ž
section
variable{ps:Qa (Qg×HO)}{fs:Qa (Str×PU)}{m:Str}{C C':Qg}{t:TA}{ma:MA}
theorem FO.aL(h:FO K H vs ps fs):fs.lookup m=Ž->vs.lookup m=Ž:=by
 refine FO.ind (M:=λvs ps fs=>fs.lookup m=Ž->vs.lookup m=Ž) h (λ_=>rfl) (λn v x vs ps fs _ _ ih e=>?_) λn b p u' vs ps fs _ _ ih e=>?_
 all_goals
  rw[Ę]at e ⊢;split at e
  .cases e
  .rename_i q
   try rw[q]
   exact ih e
theorem qU{F:FD}(n:Nat)(h:kR K t ma)(hn:∀ρ as au,zb (zd i) ma ρ=ž (as,au)->as.length=n:=by repeat (first|exact JU|refine Lj ?_)):VE K (Ju K c m (mW K n F) (eE i) t) (lg c i m F ma):=by
 intro ρ σ H a au Q r e q;have(w,e0,e):=bQ e;split at e
 .rename_i hw
  have(fs,rfl,hf):=Wc hw;have(v0,eB,R):=r.rep i _ (jO e0);have(l,C',dx,vs,ps,rfl,hl,ne,Hh,nd,fo,vM,own):=R;have op:Op K H l C' dx vs ps:=⟨hl,ne,nd,vM,own,fo.flat⟩;have(v,ev,z):=zC n (za zc h) hn ρ σ H a au Q r e q;rw[eB]at ev;cases ev;exact⟨_,eB,⟨C',l,dx,vs,_,Hh,rfl,op.bC,mJ,fo.aL hf⟩,z⟩
 .cases e
end
def KA:TE:=λ_ H Q=>∀p,H p=Ž->Q (.ref p) (upd H p<|.dX [])
section
variable{b:Qg}
theorem V9(e:H b=ž (.dT [])):Re K H (upd H b<|.dX []):=by
 have ne:∀{c:Qg} {o:HO},H c=ž o->o≠.dT []->c≠b:=λhc n z=>by
  rw[z,e]at hc;exact n (qy hc).symm
 have keep:∀{c:Qg} {o:HO},H c=ž o->o≠.dT []->upd H b (.dX []) c=ž o:=λhc n=>by rw[zu<|ne hc n];exact hc
 refine⟨λP w h ok c o hc=>?_,λc hc=>?_,λc xs hc=>keep hc (λz=>nomatch z),λc o u hc=>keep hc (λz=>nomatch z),λc ps hc=>keep hc (λz=>nomatch z)⟩
 .have st:∀{c:Qg} {o:HO},zX P w K H h c o->zX P w K (upd H b<|.dX []) h c o:=λx=>x.cx (λ_ _ _ q=>q) (λb q=>keep q (λz=>nomatch z)) λb ys q=>keep q (λz=>nomatch z)
  by_cases z:c=b
  .subst z
   rw[zw]at hc;cases hc;refine st ?_;have(h1,h2,xs,hx,o,es,ep,h3,h4,h5,h6,h7):=(show zX P w K H h c (.dT []) from ok c _ e);cases hx;exact⟨h1,h2,[],.nil,o,es,ep,h3,h4,h5,h6,.nil⟩
  .rw[zu z]at hc
   exact st<|ok c o hc
 .rw[zu (λz=>by rw[z,e]at hc;cases hc)]
  exact hc
theorem V8{X:Cx}{pos:Pos}:Wr (PE X (.Dict [] [] pos) KA):=⟨λpins s σ H Q I q=>(Aj W0).run pins s σ H Q I ⟨H,Re.refl _ _,λp hp=>⟨_,V9 zw,by rw[X8];exact q p hp⟩⟩⟩
end
def PU.new:PU->TE
 |.l _=>Aq kg
 |.t _=>FE
 |_=>KA
def PU.ho:PU->HO
 |.l _=>.lst []
 |.t _=>.dT []
 |_=>.dX []
noncomputable def PU.nil:PU->Bool
 |.l []=>ż
 |.t []=>ż
 |.x []=>ż
 |_=>Ż
theorem V7{p:PU}{Q:VK}(h:∀b,H b=Ž->Q (.ref b) (upd H b p.ho)):p.new σ H Q:=by
 cases p with
 |l xs=>exact⟨Ê _,h⟩
 |_=>exact h
theorem Kz{p:PU}(h:p.nil=ż):PP K H p.ho p:=by
 unfold PU.nil at h;split at h
 .exact aN.nil
 .exact Paired.nil
 .exact Paired.nil
 .cases h
def Ez(K:qc):Qa (Str×PU)->TS
 |[]=>λD σ H=>D.nx σ H
 |[(f,p)]=>wB K (eE 0) p.new f
 | (f,p)::r=>AD (wB K (eE 0) p.new f)<|Ez K r
def CN(a C dx:Qg):Qa (Str×PU)->Qa (Str×V)->Hp->(Hp->Prop)->Prop
 |[],_,H,Q=>Q H
 | (f,p)::r,vs,H,Q=>∀b,H b=Ž->CN a C dx r (vs++[(f,.ref b)]) (upd (upd H b p.ho) a<|.ins C dx<|vs++[(f,.ref b)]) Q
def Ht(C:Qg)(fl:Qa (Str×PU)):Sp:=λvs H Q _=>∃a dx,vs=[.ref a]/\H a=ž (.ins C dx [])/\CN a C dx fl [] H (Q .aL)
theorem V6{C:Qg}{fl:Qa (Str×PU)}{vs:Qa V}{Q:VK}{E:XK}(h:Ht C fl vs H Q E):vs.length=1:=by
 have(a,dx,rfl,_):=h;rfl
section
variable{C:Qg}
theorem MF{y:V}:∀{fs:Qa (Str×V)},f∉fs.map (·.1)->iq f y fs=fs++[(f,y)]
 |[],_=>rfl
 | (g,v)::r,h=>by
  rw[Ċ,qw,not_or]at h;unfold iq;rw[a4c (λz=>h.1 (by first|exact z|exact z.symm)),MF h.2];rfl
theorem MD(c:eY K C){Q:Hp->Prop}{R:VK}:∀{fl:Qa (Str×PU)} {vs:Qa (Str×V)} {H:Hp},fl≠[]->(∀p∈fl,gy K C p.1)->(vs.map (·.1)++fl.map (·.1)).Nodup->vs.length+fl.length<=1000->H a=ž (.ins C dx vs)->CN a C dx fl vs H Q->Ez K fl {nx:=λ_ H'=>Q H',rt:=R} (gN N [.ref a]) H
 |[],_,_,ne,_,_,_,_,_=>absurd rfl ne
 | (f,p)::r,vs,H,_,na,nd,hl,e,q=>by
  have hf:f∉vs.map (·.1):=λz=>(List.nodup_append.mp nd).2.2 _ z _ qq rfl;rw[qv]at hl;have go:∀{D:Ends},(∀b,H b=Ž->D.nx (gN N [.ref a]) (upd (upd H b p.ho) a<|.ins C dx<|vs++[(f,.ref b)]))->wB K (eE 0) p.new f D (gN N [.ref a]) H:=λh=>by
   refine V7 λb hb=>?_;refine⟨.ref a,rfl,a,C,dx,vs,rfl,?_,c,na _ qq,by omega,?_⟩
   .rw[zu (λz=>by rw[<-z,e]at hb;cases hb)]
    exact e
   .rw[MF hf]
    exact h b hb
  cases r with
  |nil=>exact go q
  |cons x r=>
   refine go λb hb=>?_;refine MD c (λz=>nomatch z) (λp hp=>na p<|qp _ hp) ?_ ?_ zw<|q b hb
   .rw[Ē,ŉ]
    exact nd
   .rw[qu]
    simp only[qv,Ŋ]at hl ⊢;omega
end
structure qI (P:Qe) (w:Qh) (K:qc) (mg:Str->Qb Qc) (base:Ĭ) (n:Str) (fl:Qa (Str×PU)):Prop where
 fn:∃(C f:Qg) (fd:Š) (ps:Qa Str),XN K n C/\mg n=ž (.ref C)/\Mk K C f/\mD K fd ps []/\cI P w K mg base iR 1 f fd ps (Ht C fl)
def PV(K:qc)(c:Str)(fl:Qa (Str×PU)):TE:=λσ H Q=>∀C,XN K c C->CG K (J9 C (Ht C fl) [] E0 kg) σ H Q
theorem zBN{X:Cx}{fl:Qa (Str×PU)}{p pos:Pos}(O:qI X.prog X.w X.K X.mg X.base x fl)(hr:aK 2 X.A:=by exact aK.mono ‹aK _ _› (by decide))(hg:Gl X x:=by exact rfl)(fY:(x==("__debug__":Str))=Ż:=by decide):
  Wr (PE X (.Call (.Name x p) [] [] pos)<|PV X.K x fl):=by
 have(C,f,fd,ps,xn,gm,M,hb,F):=O.fn;exact⟨λpins s σ H Q I h=>(Aj ⟨ZF (dvs:=[]) (E:=E0) M F hr hg gm hb .nil EM fY⟩).run pins s σ H Q I<|h C xn⟩
structure yW (K:qc) (H₀:Hp) (x C dx:Qg) (vs:Qa (Str×V)) (ps:Qa (Qg×HO)) (fs:Qa (Str×PU)) (H:Hp):Prop where
 at_:H x=ž (.ins C dx vs)
 pa:∀q∈ps,H q.1=ž q.2/\q.2.flat=ż
 nd:(ps.map (·.1)).Nodup
 fo:∀H,FO K H vs ps fs
 oP:H dx=ž (.own x)
 sm:∀b o,H₀ b=ž o->b≠x->H b=ž o
 nw:∀q∈ps,H₀ q.1=Ž
 ln:ps.length=fs.length
section
variable{x C b:Qg}{ps:Qa (Qg×HO)}{fs fl:Qa (Str×PU)}{p:HO}{u:PU}
theorem FO.snoc{n:Str}(h:FO K H vs ps fs)(hp:PP K H p u):FO K H (vs++[(n,.ref b)]) (ps++[(b,p)]) (fs++[(n,u)]):=
 FO.ind (M:=λvs ps fs=>FO K H (vs++[(n,.ref b)]) (ps++[(b,p)])<|fs++[(n,u)]) h (FO.pp hp .nil) (λ_ _ _ _ _ _ h _ ih=>.d h ih) λ_ _ _ _ _ _ _ h _ ih=>.pp h ih
theorem yW.step(i:yW K H₀ x C dx vs ps fs H)(hx:H₀ x=Ž)(hb:H b=Ž)(hu:u.nil=ż):yW K H₀ x C dx (vs++[(f,.ref b)]) (ps++[(b,u.ho)]) (fs++[(f,u)]) (upd (upd H b u.ho) x<|.ins C dx<|vs++[(f,.ref b)]):=by
 have bx:b≠x:=λz=>by rw[z,i.at_]at hb;cases hb
 have nb:∀{c:Qg} {o:HO},H c=ž o->c≠b:=λhc z=>by rw[z,hb]at hc;cases hc
 have b0:H₀ b=Ž:=by
  cases e:H₀ b with
  |none=>rfl
  |some o=>rw[i.sm b o e bx]at hb;cases hb
 refine⟨zw,λq hq=>?_,?_,λH=>(i.fo H).snoc<|Kz hu,?_,λc o hc n=>?_,λq hq=>?_,by rw[qu,qu,i.ln];rfl⟩
 .rcases Ï.mp hq with hq|hq
  .have(h1,h2):=i.pa q hq
   refine⟨?_,h2⟩;rw[zu (λz=>by rw[z,i.at_]at h1;rw[<-qy h1]at h2;cases h2),zu<|nb h1];exact h1
  .cases qr.mp hq
   refine⟨?_,(Kz (K:=K) (H:=H) hu).flat⟩;rw[zu bx];exact zw
 .rw[Ē,List.nodup_append]
  refine⟨i.nd,by simp,λc hc d hd z=>?_⟩;cases qr.mp hd;have(q,hq,eq):=À.mp hc;exact nb (i.pa q hq).1<|eq.trans z
 .rw[zu λz=>?_,zu<|nb i.oP]
  .exact i.oP
  .have:=i.oP
   rw[z,i.at_]at this;cases this
 .rw[zu n,zu<|nb<|i.sm c o hc n]
  exact i.sm c o hc n
 .rcases Ï.mp hq with hq|hq
  .exact i.nw q hq
  .cases qr.mp hq
   exact b0
theorem Ky{Q:Hp->Prop}(hx:H₀ x=Ž):∀{fl fs:Qa (Str×PU)} {vs:Qa (Str×V)} {ps:Qa (Qg×HO)} {H:Hp},yW K H₀ x C dx vs ps fs H->(∀p∈fl,p.2.nil=ż)->(∀vs ps H,yW K H₀ x C dx vs ps (fs++fl) H->Q H)->CN x C dx fl vs H Q
 |[],fs,vs,ps,H,i,_,q=>q vs ps H (by rw[ş];exact i)
 | (f,u)::r,fs,vs,ps,H,i,hn,q=>λb hb=>Ky hx (i.step hx hb<|hn _ qq) (λp hp=>hn p<|qp _ hp) λvs ps H j=>q vs ps H (by rw[ŉ]at j;exact j)
noncomputable def Ah(c:Str)(fl:Qa (Str×PU)):ME:=λρ=>ž (.u<|.o c fl,ρ)
theorem zBO(ne:fl≠[])(hn:∀p∈fl,p.2.nil=ż):VE K (PV K c fl) (Ah c fl):=by
 intro ρ σ H a au Q r e q;cases e;intro C xn;refine⟨H,Re.refl _ _,λx dx hx hd nx=>⟨x,dx,rfl,zw,?_⟩⟩;refine Ky (K:=K) (H₀:=H) (fs:=[]) (ps:=[]) hx ⟨zw,λq hq=>(nomatch hq),.nil,λ_=>.nil,?_,λb o hb n=>?_,λq hq=>(nomatch hq),rfl⟩ hn λvs ps H2 i=>⟨rfl,?_⟩
 .rw[zu nx]
  exact zw
 .rw[zu n,zu<|kA hb hd]
  exact hb
 .have px:∀q∈ps,q.1≠x:=λq hq z=>by
   have(h1,h2):=i.pa q hq;rw[z,i.at_]at h1;rw[<-qy h1]at h2;cases h2
  have dm:dx∉ps.map (·.1):=λz=>by
   have(q,hq,eq):=À.mp z;have(h1,h2):=i.pa q hq;rw[eq,i.oP]at h1;rw[<-qy h1]at h2;cases h2
  refine⟨_,xm (ps:=ps) i.at_ px i.pa,?_⟩;have sm:eD H (ft H2 x C dx vs ps):=λb o hb=>by
   have bx:=kA hb hx;rw[om (λz=>?_) bx]
   .exact i.sm b o hb bx
   .have(q,hq,eq):=À.mp z
    have:=i.nw q hq;rw[eq,hb]at this;cases this
  refine q _ _ (Go.grow r sm) ⟨⟨x,C,dx,vs,ps,rfl,s9,λz=>?_,xn,i.nd,i.fo _,dm,λq hq=>rq (À.mpr ⟨q,hq,rfl⟩)<|px q hq⟩,λ_=>⟨x,rfl,hx⟩⟩;have l:=i.ln;rw[z]at l;exact ne<|ä.mp l.symm
end
section
variable{ρ:En}{mk mv me:ME}{ma:MA}{m:Str}{QE:Ar×En->Prop}{QS:Fl->Prop}{QT:Bool×En->Prop}{F:FD}{fl:Qa (Str×PU)}
theorem Yt:Wo (lg c i m F ma ρ) QE=Wo (ρ[i]?).join (Co (λw=>if w.lS c m=ż then zF F (zb (zd i) ma) ρ else Ž) ⟨0⟩ QE):=by
 show Wo (ő _ _) QE=_;rw[zt]
theorem Ys:Wo (Ah c fl ρ) QE=QE (.u<|.o c fl,ρ):=by
 show Wo (ž _) QE=_;rw[dU]
theorem UD{QX:Qa (Qa K3×D)->Prop}:Wo (fX c i f ρ) QX=Wo (ρ[i]?).join (Co (λw=>(w.fp c f).bind (·.xs)) ⟨0⟩ QX):=by
 show Wo (ő _ _) QX=_;rw[zt]
theorem Yr{QX:Qa D->Prop}:Wo (lY c i f ρ) QX=Wo (ρ[i]?).join (Co (λw=>(w.fp c f).bind (·.ls)) ⟨0⟩ QX):=by
 show Wo (ő _ _) QX=_;rw[zt]
theorem zop:Wo (ED c i f mk ρ) QE=Wo (fX c i f ρ) (Co (λao=>(mk ρ).bind λp=>(oZ p).bind λk=>(eO ao k).bind λy=>ž (.u<|.d y,p.2)) ⟨0⟩ QE):=by
 show Wo (ő _ _) QE=_;rw[zt]
theorem Yq{neg:Bool}:Wo (DR neg mk c i f ρ) QE=Wo (mk ρ) (Co (λp=>(fX c i f p.2).bind λao=>(oZ p).bind λk=>ž (.u<|.d<|.bool (if neg=ż then !(eO ao k).isSome else(eO ao k).isSome),p.2)) ⟨0⟩ QE):=by
 show Wo (ő _ _) QE=_;rw[zt]
theorem zoq:Wo (EC c i f mk mv ρ) QS=Wo (mv ρ) (Co (λp=>(fX c i f p.2).bind λao=>(mk p.2).bind λq=>(oZ q).bind λk=>(p.1.get q.2).bind λx=>x.da.bind λx=>(q.2[i]?).join.bind λw=>if ao.length < ċ then ž (.nx<|q.2.set i<|some<|w.aM f<|.x<|fE ao k x)else Ž) ⟨0⟩ QS):=by
 show Wo (ő _ _) QS=_;rw[zt]
theorem zor:Wo (EA c i f ρ) QE=Wo (lY c i f ρ) (Co (λxs=>ž (.u<|.d<|.int xs.length,ρ)) ⟨0⟩ QE):=by
 show Wo (ő _ _) QE=_;rw[zt]
theorem Yp:Wo (uC c i f mk ρ) QE=Wo (lY c i f ρ) (Co (λxs=>(mk ρ).bind λp=>(p.1.get p.2).bind λu=>u.da.bind λd=>(Ai d).bind λn=>(bf xs n).bind λx=>ž (.u<|.d x,p.2)) ⟨0⟩ QE):=by
 show Wo (ő _ _) QE=_;rw[zt]
theorem zos:Wo (AN c i f me ρ) QE=Wo (ρ[i]?).join (Co (λw=>(w.fl c f).bind λxs=>(me ρ).bind λp=>(p.1.get p.2).bind λu=>u.da.bind λx=>if xs.length < ċ then ž (.u<|.d .none,p.2.set i<|some<|w.aM f<|.l<|xs++[x])else Ž) ⟨0⟩ QE):=by
 show Wo (ő _ _) QE=_;rw[zt]
end
theorem nV{X:Cx}{pos:Pos}(he:Wr (PE X e ta))(hb:Ť e f X.env (ŀ e X.env)=ŀ e X.env:=by rfl):Wr (PE X (.Attribute e f pos)<|qV X.K ta f):=Aj ⟨Le he.run hb⟩
def OB(K:qc)(c:Str)(fl:Qa Str):Prop:=∀C,XN K c C->eY K C/\∀f∈fl,gy K C f
theorem OB.of{C:Qg}{fl:Qa Str}(h:XN K c C)(k:eY K C)(n:∀f∈fl,gy K C f):OB K c fl:=λC' h'=>by
 cases h.one h';exact⟨k,n⟩
theorem OB.at{fl:Qa Str}(o:OB K c fl)(h:f∈fl:=by decide):∀C,XN K c C->eY K C/\gy K C f:=λC x=>⟨(o C x).1,(o C x).2 f h⟩
def oS(K:qc)(c x q:Str)(st:ķ):Prop:=∃(C f:Qg) (fd:Š),XN K c C/\eY K C/\jA K x q st f fd/\uo K C x f
theorem mtK{q:Str}{C f:Qg}{oc:Qc}{od an:Qb Qg}{kV doc pm bt ct:Qc}(a:Ģ K Ě c=ž (ž<|.ref C))(pg:Ŷ K C a2u=ż)(hd:ϕ K C=ż)(po:Ϲ K C=ż)(sa:ė K (.ref C) "__setattr__"=ž (ž<|.builtin "object.__setattr__"))
  (m:ė K (.ref C) x=ž (ž<|.ref f)) (fn:Ψ K (.ref f)=ż) (l:K.lookup f=ž ⟨oc,od,.func<|ł x q (oh st) (i9 st) (eI st) .none kV doc pm an bt ct,oE⟩) (cd:ϖ K bt q=ż) (k:ĸ K (.ref f)=ż):oS K c x q st :=
 ⟨C,f,_,a,⟨pg,hd,po,sa⟩,Fi l cd k,⟨m,fn,k⟩⟩
abbrev Zs.M(Z:Zs)(c x:Str)(k:Nat)(ps:Qa Str)(n:Nat)(F:FD):Prop:=yY Z.P Z.w Z.K Z.mg Z.base c x k ps (mW Z.K n F)
section
variable{Z:Zs}{q:Str}{ps:Qa Str}{k nn:Nat}{m:MS}
theorem Ag(A:oS Z.K c x q st)(N:Qa Str)(cb:∀{f},EL Z q st k pn m N f)(S:bH N ps (eI st):=by exact⟨rfl,rfl,rfl,by decide +kernel,rfl,by decide +kernel,by decide +kernel⟩)(nq:ps.length=n:=by rfl)(hN:N.length=nn:=by rfl)(vJ:n<=nn:=by decide)
  (hb:∀(kV doc pm:Qc) (an:Qb Qg) (bt ct:Qc) (us:Qa Qc),us.length=ps.length->a2D (ł x q (oh st) (i9 st) (eI st) .none kV doc pm an bt ct) ⟨us,[]⟩=pure (ps.zip us):=by
   intro _ _ _ _ _ _ us hl
   first
   | (have(_,rfl):=DL hl;rfl)
   | (have(_,_,rfl):=sG hl;rfl)
   | (have(_,_,_,rfl):=DK hl;rfl)
   | (have(_,_,_,_,rfl):=DJ hl;rfl)):Z.M c x (k+1) ps n (bM nn pn m):=
 let ⟨C,f,fd,xn,cl,F,mt⟩:=A;⟨⟨C,f,fd,xn,cl,F.QL S nq hN vJ λbt A outer s H E hr=>let ⟨t,a,b⟩:=cb S.nd hr;⟨t,b,a⟩,F.binds hb,mt⟩⟩
theorem zCX{fl:Qa (Str×PU)}{C f:Qg}(xn:XN Z.K c C)(g:Z.mg c=ž (.ref C))(M:Mk Z.K C f)(cl:eY Z.K C)(na:∀p∈fl,gy Z.K C p.1)(F:jA Z.K "__init__" q st f fd)(ne:fl≠[])(nd:(fl.map (·.1)).Nodup)(hl:fl.length<=1000)
  (S:bH ["self"] ["self"] (eI st))
  (hb:∀(kV doc pm:Qc) (an:Qb Qg) (bt ct:Qc) (us:Qa Qc),us.length=1->a2D (ł "__init__" q (oh st) (i9 st) (eI st) .none kV doc pm an bt ct) ⟨us,[]⟩=pure (([("self":Str)]:Qa Str).zip us))
  (hw:∀{bt:Qc} {A:Qf} {outer:Qa Env} {s:Qd} {H:Hp} {E:XK},([("self":Str)]:Qa Str).Nodup->Wr (eX (nN iR Z.P Z.w Z.K Z.mg Z.base ["self"] q (eI st) f bt A outer s H E).rK (i9 st)<|Ez Z.K fl)):qI Z.P Z.w Z.K Z.mg Z.base c fl:=by
 refine⟨C,f,fd,["self"],xn,g,M,F.binds hb,F.QK (k:=0) S (λvs H Q E h=>V6 h) λbt A outer s H vs Q E hr h=>⟨_,hw S.nd,?_⟩⟩;have(a,dx,rfl,e,q):=h;exact MD cl ne na (by rw[ı,a1y];exact nd) (by rw[Ŋ,Ū];exact hl) e q
end
section
variable{ρ:En}{mi me mk mv:ME}{QE:Ar×En->Prop}{QS:Fl->Prop}{QI:Qa D×En->Prop}
theorem zot{n:Int}:Ai (.int n)=ž n:=rfl
end
section
variable{rs ps xs:Qa D}{pl ml kv:Qa (Qa K3×D)}
theorem Yo:PU.ls (.l xs)=ž xs:=rfl
theorem Yn:PU.xs (.x kv)=ž kv:=rfl
end
open PySem.AutoSeq1 (wpAny_loadPart')
open MeetsSeq MeetsSeq2 MeetsSeq3 SeqRoads2
end Internal
namespace Internal
open PySem PySem.Spec PyProof.Rows
end Internal
namespace Internal
open PySem PySem.Spec PySem.W PyProof.Rows
end Internal
namespace Internal
open PySem PySem.Spec PyProof.Rows
end Internal
namespace Internal
open PySem PySem.Spec PySem.W PyProof.Rows
noncomputable def R(r:Κ->Int)(xs:Array Κ)(i:Nat):Int:=match xs[i]? with
 |some x=>r x
 |none=>0
def Af:Nat->Qa (Nat×Nat)->Nat->Prop
 |s,[],e=>s=e
 |s,t::l,e=>t.1=s/\1<=t.2/\Af (s+t.2) l e
theorem Af.bd:∀{l:Qa (Nat×Nat)} {s e:Nat},Af s l e->s+l.length<=e/\∀t∈l,s<=t.1/\t.1+t.2<=e
 |[],s,e,h=>⟨ì h,λt ht=>by cases ht⟩
 |t::l,s,e,h=>by
  have(h1,h2,h3):=h;have(i1,i2):=Af.bd h3;refine⟨by rw[qv];omega,λu hu=>?_⟩;rcases qw.mp hu with rfl|hu
  .omega
  .have:=i2 u hu
   omega
noncomputable def sl(p:Array (Nat×Nat×Nat)):Qa (Nat×Nat):=p.toList.map λt=>(t.1,t.2.1)
end Internal
namespace Internal
open PySem PySem.Spec PyProof.Rows
def I0(to:TE)(tl th:TO)(r:V->Qb Int->Qb Int->V->Hp->(Hp->Prop)->Prop):TG:=λv σ H Q=>to σ H λo H1=>tl σ H1 λl H2=>th σ H2 λu H3=>r o l u v H3 λH4=>Q σ H4
def Ji(X:Cx)(r:V->Qb Int->Qb Int->V->Hp->(Hp->Prop)->Prop):Prop :=
 ∀(pins:Qa (Qg×Obj)) (s:Qd) (σ:St) (H:Hp) (x v:V) (l u:Qb Int) (ov vl vu uv:Qc) (sl:Qg) (Q:Hp->Prop),Inv X pins σ H s->zT x ov->s.heap.IsSliceOf sl vl vu .none->Ε vl l->Ε vu u->zT v uv->r x l u v H Q->
  đ (Ĕ X.prog X.w) X.A (Λ ov (.ref sl) uv) (λ_ s'=>∃H',Inv X pins σ H' s'/\Q H') X.xe s
def PQ(K:qc):V->Qb Int->Qb Int->V->Hp->(Hp->Prop)->Prop:=λx l u v H Q=>∃(p b:Qg) (xs ys:Qa V) (a c:Int),x=.ref p/\v=.ref b/\l=ž a/\u=ž c/\H p=ž (.lst xs)/\PL K H b ys/\0<=a/\a<=c/\
 xs.length+ys.length<=ċ/\Q (upd H p<|.lst<|xs.take a.toNat++ys++xs.drop c.toNat)
section
variable{X:Cx}
theorem Te:Ji X (PQ X.K):=by
 intro pins s σ H x v l u ov vl vu uv sl Q I rx hs pl pu rv h;have(p,b,xs,ys,a,c,rfl,rfl,rfl,rfl,hp,hb,h0,vO,hz,q):=h;cases rx;cases rv;have oJ:p≠b:=by
  rcases hb with⟨o,e⟩|⟨o,aq,n,e,_⟩
  .exact uJ hp e λz=>nomatch z
  .intro z
   have:=(I.bs b o<|I.ok.mod.eK b o e).2;rw[<-z,hp]at this;cases this
 cases pl with
 |int _ ta=>cases pu with
  |int _ tc=>exact zpb I hp hb.sq oJ hs ⟨ta,rfl⟩ ⟨tc,rfl⟩ h0 vO hz λs' I'=>⟨_,I',q⟩
variable{lo:Qb Ĥ}{to:TE}{tl th:TO}{pos p2:Pos}{r:V->Qb Int->Qb Int->V->Hp->(Hp->Prop)->Prop}
theorem zBQ(ho:PE X o to)(hl:PO X lo tl)(hu:PO X hi th)(hs:Ji X r)
  (ha:∀v,Β (.Subscript o (.Slice lo hi Ž p2) pos) X.env v=(do
   let ov <-Ű [v] (ŀ o X.env)
   let iv <-Ű [v,ov] (ŀ (.Slice lo hi Ž p2) X.env)
   a0p pos
   Ű [v,ov,iv] (Λ ov iv v)
   release [iv,v,ov] []):=by intro _;rfl):PG X (.Subscript o (.Slice lo hi Ž p2) pos) (I0 to tl th r):=by
 intro pins s σ H v u Q I r h;rw[ha];refine qa<|Ķ<|aI (ho pins s σ H _ I h) λov s1 hZ=>?_;have(x,H1,I1,r1,q1):=hZ;refine qa<|Ķ<|wpAny_Slice<|aI (hl pins s1 σ H1 _ I1 q1) λvl s2 hZ=>?_;have(l,H2,I2,pl,q2):=hZ;refine aI (hu pins s2 σ H2 _ I2 q2) λvu s3 hZ=>?_;have(w,H3,I3,pu,q3):=hZ;rw[a2Y];refine qb ?_;have I4:Inv X pins σ H3 {s3 with heap:=s3.heap.push {cls:=.type "slice",data:=.fields #[vl,vu,.none]}}:=I3.kept (t':=s3.toks) λb ob q=>qd _ q;refine qa<|π<|qa<|Ķ<|aI (hs pins _ σ H3 x v l w ov vl vu u s3.heap.objs.size _ I4 r1 (a1z ..) pl pu r q3) λ_ s4 hZ=>?_;have(H4,I5,q5):=hZ;exact wpAny_release ⟨σ,H4,I5,q5⟩
end
noncomputable def U.dl:U->Qb (Qa D)
 |.d (.list ys)=>ž ys
 |_=>Ž
def Ae(i:Nat)(me:ME)(ml mh:MO):MS:=λρ=>(ρ[i]?).join.bind λ_=>(me ρ).bind λp=>(ml p.2).bind λl=>(mh l.2).bind λh=>(p.1.get h.2).bind λu=>u.dl.bind λys=>l.1.bind λa=>h.1.bind λc=>(h.2[i]?).join.bind λz=>z.lo.bind λxs=>
 if 0<=a/\a<=c/\xs.length+ys.length<=ċ then ž (.nx<|h.2.set i<|some<|.l<|xs.take a.toNat++ys++xs.drop c.toNat)else Ž
theorem Td{z:U}{xs:Qa D}(h:z.lo=ž xs):z=.l xs:=by cases z<;>cases h;rfl
theorem Tc{z:U}{xs:Qa D}(h:z.dl=ž xs):z=.d (.list xs):=by
 cases z with
 |d x=>cases x<;>cases h;rfl
 |_=>cases h
section
variable{EX:gn}
theorem zBR{tl th:TO}{me:ME}{ml mh:MO}(h:VE K te me)(hl:ur K tl ml)(hh:ur K th mh):VS K pn EX (oW te<|I0 (eE i) tl th<|PQ K) (Ae i me ml mh):=by
 intro av A H₀ aC ρ σ H f D s e k;have(w0,e0,f0):=bQ e;obtain⟨⟨a,aw⟩,e1,f1⟩:=bQ f0;obtain⟨⟨lo,aD⟩,e2,f2⟩:=bQ f1;obtain⟨⟨hi,iB⟩,e3,f3⟩:=bQ f2;have(u,eu,f4):=bQ f3;have(ys,ey,f5):=bQ f4;have(x,ex,f6):=bQ f5;have(y,ez,f7):=bQ f6;have(z,eo,f8):=bQ f7;have(xs,el,ef):=bQ f8;clear f0 f1 f2 f3 f4 f5 f6 f7 f8 e;dsimp only at ex ez eo eu;subst ex ez;cases Td el;cases Tc ey
 by_cases c:0<=x/\x<=y/\xs.length+ys.length<=ċ
 .rw[a4b c]at ef
  cases ef;have(c0,c1,c2):=c;have(v0,eB,_):=s.rs.rep i w0 (jO e0);refine h ρ σ H a aw _ s.rs e1 λv H1 g1 k1=>⟨v0,eB,?_⟩;refine hl aw σ H1 _ aD _ g1.rs e2 λH2 g2=>hh aD σ H2 _ _ _ g2.rs e3 λH3 g3=>?_;have pv:=k1.later s.rs g1 (g2.trans g3) eu;have(b,us,rfl,pl,dy):=DF.lst_inv pv;have(w',fC,p1):=g3.rs.rep i _ (jO eo);have(l,vs,rfl,t7,ds):=p1;rw[eB]at fC;cases fC;refine⟨l,b,vs,us,x,y,rfl,rfl,rfl,rfl,t7,pl,c0,c1,by rw[ds.len,dy.len];exact c2,k _ _<|(s.go<|g1.trans<|g2.trans g3).go<|Go.own (u':=.l (xs.take x.toNat++ys++xs.drop y.toNat)) g3.rs (jO eo) rfl eB ?_⟩;have kp:=jL t7 trivial (.lst<|vs.take x.toNat++us++vs.drop y.toNat);exact⟨l,_,rfl,zw,(((ds.kp kp).take _).app<|dy.kp kp).app<|(ds.kp kp).drop _⟩
 .rw[a4c c]at ef
  cases ef
end
theorem zBS{X:Cx}{lo:Qb Ĥ}{to:TE}{tl th:TO}{pos p2:Pos}{r:V->Qb Int->Qb Int->V->Hp->(Hp->Prop)->Prop}(ho:Wr (PE X o to))(hl:Wr (PO X lo tl))(hu:Wr (PO X hi th))(hs:Ji X r)
  (hh:∀v,Β (.Subscript o (.Slice lo hi Ž p2) pos) X.env v=(do
   let ov <-Ű [v] (ŀ o X.env)
   let iv <-Ű [v,ov] (ŀ (.Slice lo hi Ž p2) X.env)
   a0p pos
   Ű [v,ov,iv] (Λ ov iv v)
   release [iv,v,ov] []):=by intro _;rfl):Wr (PG X (.Subscript o (.Slice lo hi Ž p2) pos)<|I0 to tl th r):=⟨zBQ ho.run hl.run hu.run hs hh⟩
theorem Ym{me:ME}{ml mh:MO}{ρ:En}{QS:Fl->Prop}:Wo (Ae i me ml mh ρ) QS=Wo (ρ[i]?).join (Co (λ_=>(me ρ).bind λp=>(ml p.2).bind λl=>(mh l.2).bind λh=>(p.1.get h.2).bind λu=>u.dl.bind λys=>l.1.bind λa=>h.1.bind λc=>(h.2[i]?).join.bind λz=>z.lo.bind λxs=>
 if 0<=a/\a<=c/\xs.length+ys.length<=ċ then ž (.nx<|h.2.set i<|some<|.l<|xs.take a.toNat++ys++xs.drop c.toNat)else Ž) ⟨0⟩ QS):=by
 unfold Ae;exact zt
theorem Kx{ys:Qa D}:(U.d<|.list ys).dl=ž ys:=rfl
theorem V5{X:Cx}{k:Nat}(K:qc)(hK:X.K=K)(hr:aK k X.A):cp X (ĩ .Lt) (JC K HT.bp):=by
 subst hK;exact TK<|Nat.lt_of_succ_lt<|Ba hr
end Internal
namespace Internal
open PySem PySem.Spec PySem.W PyProof.Rows
open Classical in
def qK(h:Ĭ)(v:Qc)(ns:Qa Int):Prop:=∃(a:Qg) (i:Int) (t:Tok) (u:Qc),v=.ref a/\IsTup h a #[.int i t,u]/\ns=[i]
section
variable{w:Qh}{s:Qd}
theorem zBT{v v':Qc}{lR:Qa Int}{C:Bool->Qd->Prop}(p:qK s.heap v ns)(p':qK s.heap v' lR)(ne:v=v'\/ns≠lR)(h:C (fe ns lR) s):đ (Ĕ prog w) A (keyLt' (tuples' ż) v v') C (λ_ _=>False) s:=by
 obtain⟨a,i,t,u,rfl,⟨oa,ea,ca,na,da⟩,rfl⟩:=p;obtain⟨a',i',q,u',rfl,⟨oa',iO,ca',HP,Jd⟩,rfl⟩:=p';refine kat_lt ea da iO Jd ?_;show KatLex prog w A ż _ C [(.int i t,.int i' q),(u,u')] 0 s;refine kat_cons<|wpAny_eqBool_int ?_
 by_cases e1:i=i'
 .subst e1
  rw[a4g];rcases ne with z|z
  .cases z
   rw[ea]at iO;cases iO;rw[da]at Jd;injection Jd with d1 d2;have d3:=congrArg a2s d1;have e3:u=u':=by
    have:=congrArg (λl:Qa Qc=>l[1]?) d3;simpa using this
   subst e3;refine kat_yes<|kat_cons<|a2H u prog w _ _<|kat_yes<|kat_nil ?_;rw[BP]at h;exact h
  .exact absurd rfl z
 .rw[show(i==i')=Ż by simpa using e1]
  refine kat_no (show đ (Ĕ prog w) A (oneLt' ż (.int i t)<|.int i' q) C _ s from oneLt_int ?_);have e3:fe [i] [i']=decide (i < i'):=by simp[fe,e1]
  rw[e3]at h;exact h
end
theorem qK.kept{v:Qc}(p:qK h v ns)(k:∀b o,h.get? b=ž o->h'.get? b=ž o):qK h' v ns:=by
 have(a,i,t,u,e,ta,r):=p;exact⟨a,i,t,u,e,ZL ta<|k a,r⟩
theorem Nn:∀{vs:Qa Qc},(∀v∈vs,∃ns,qK h v ns)->∃fs,KatTups h vs fs/\fs.length=vs.length/\∀f∈fs,∃(i:Int) (t:Tok),f=.int i t
 |[],_=>⟨[],.nil,rfl,λf hf=>by cases hf⟩
 |v::vs,hv=>by
  have(fs,k,l,q):=Nn (vs:=vs) λx hx=>hv x<|qp _ hx;obtain⟨ns,a,i,t,u,rfl,⟨o,eo,co,n,dO⟩,_⟩:=hv v qq;refine⟨.int i t::fs,.cons eo co dO rfl k,by rw[qv,qv,l],λf hf=>?_⟩;rcases qw.mp hf with e|hf
  .exact⟨i,t,e⟩
  .exact q f hf
def Tb(K:qc)(H:Hp)(vs:Qa V)(ps:Qa (Qa Int)):Prop:=vs.length=ps.length/\∀i v,vs[i]?=ž v->∃(a:Qg) (m:Int) (y:V),v=.ref a/\cH K H a [.int m,y]/\ps.getD i []=[m]
def Kw(K:qc):Qa V->Hp->VK->Prop:=λxs H Q=>∃(l:Qg) (vs:Qa V) (ps:Qa (Qa Int)),xs=[.ref l]/\bE K H l vs/\vs.length < 64/\Tb K H vs ps/\ps.Nodup/\
 ∀(is:Qa Nat) r,is.Perm (Ğ vs.length)->(is.map λi=>ps.getD i []).Pairwise (λa b=>fe a b=ż)->H r=Ž->Q (.ref r) (upd H r<|.lst<|is.map λi=>vs.getD i .aL)
section
variable{X:Cx}
theorem zCY{x y:V}(h:zV [x,y] us):∃u1 u2,us=[u1,u2]/\zT x u1/\zT y u2:=by
 cases h with
 |cons h1 t=>
  cases t with
  |cons h2 t=>
   cases t;exact⟨_,_,rfl,h1,h2⟩
theorem zmI(K:qc)(hK:X.K=K){k:Nat}(hr:aK k X.A):gO X (.builtin "sorted") (Kw K):=by
 subst hK;intro pins s σ H xs us Q I r h;obtain⟨l,vs,ps,rfl,hl,Rx,⟨lp,hp⟩,nd,q⟩:=h;have(u,rfl,ru):=pw r;cases ru;obtain⟨aq,rv,⟨o,n,eo,co,_,dO⟩,_⟩:=I.list hl;have line:(64:Nat)<=ċ:=by decide
 have lv:aq.length=vs.length:=rv.length.symm;have pr:∀i,i < aq.length->qK s.heap (aq.getD i Ħ) (ps.getD i []):=λi hi=>by
  have nv:i < vs.length:=by omega
  have(a,m,y,ev,ha,hb):=hp i _ (qo nv);have(u,eu,ru):=rv.get (qo nv);rw[ev]at ru;cases ru;have(ia,ra,ta,_):=I.tuple ha;obtain⟨u1,u3,rfl,⟨t1,rfl⟩,r3⟩:=zCY ra;refine⟨a,m,t1,u3,?_,ta,hb⟩;rw[qC,eu];rfl
 refine Calls.call_function_entry kind_sorted plain_sorted entry_sorted (args_sorted1 _) ?_;unfold Builtin.«sorted»;refine qa (m:=checkCount "sorted" 1 1 _)<|qb ?_;refine qa<|collect_list (vs:=aq) ⟨o,eo,co,n,dO⟩ (qa<|wpAny_newList ?_ ?_) (by omega)
 case refine_2=>omega
 generalize hH:(s.heap.push<|ϻ "list" #[] 0).update s.heap.objs.size (ō (·++aq.toArray))=h1 at *;have hsz:h1.objs.size=s.heap.objs.size+1:=by rw[<-hH,a3O,size_push']
 have rM:∀b o,s.heap.get? b=ž o->h1.get? b=ž o:=λb o e=>by
  have cG:b < s.heap.objs.size:=qh e;rw[<-hH,a3i _ _ _ _<|qj cG,Heap.get?_push_ne _ _ _<|qj cG];exact e
 have I1:Inv X pins σ H {s with heap:=h1,toks:=s.toks}:=I.kept rM;have yA:(h1.push<|ϻ "list" aq.toArray 0).get? h1.objs.size=ž (ϻ "list" aq.toArray 0):=qg _ rfl;have hu:X.A.units+64 < ϓ:=hr.units;refine qa<|Ķ<|İ slot_list_sort ⟨_,yA,rfl⟩ entry_list_sort (zjA (rk:=qP ps) (s:={s with heap:=h1.push (ϻ "list" aq.toArray 0)}) yA (by omega) (λh2 h' kp Q' hQ=>?_) λp a1 a2=>⟨_,rfl,?_⟩)<|args_list_sort _
 .have kp':∀b o,s.heap.get? b=ž o->h'.get? b=ž o:=λb o e=>by
   have cG:b < s.heap.objs.size:=qh e;exact kp b o (qj (by rw[hsz];exact Þ cG))<|qd _<|rM b o e
  have Hz:∀i,i < aq.length->qK h' (aq.getD i Ħ) (ps.getD i []):=λi hi=>(pr i hi).kept kp';have(fs,kt,lf,tf):=Nn (h:=h') (vs:=aq) λv hv=>by
   have(i,hi,e):=a0x hv;have:=Hz i hi;rw[show aq.getD i Ħ=v by simp[hi,e]]at this;exact⟨_,this⟩
  refine kat_kind (fs:=fs) (T:=.type "int") kt (by omega) (λv hv=>?_) (by decide) ?_
  .have(i,t,rfl):=tf v hv
   exact .now
  .refine hQ _ λi j C hi hj hc=>?_
   rw[WZ nd (by omega) (by omega)]at hc;refine zBT (Hz i hi) (Hz j hj) ?_ hc
   by_cases e:i=j
   .exact .inl (by rw[e])
   .exact .inr (GR nd (by omega) (by omega) e)
 .refine qb ⟨_,rfl,?_⟩
  have(en,ho):=sortedHeap_at (vs:=aq) (out:=a0Y (p.toList.map λi=>aq.getD i Ħ)) yA;have fresh:H h1.objs.size=Ž:=I1.aF.fresh (qe _);have perm:p.toList.Perm (Ğ vs.length):=by
   have:=a1.list;rw[lv]at this;exact this
  have mem:∀i∈p.toList,i < vs.length:=λi hi=>ç.mp<|perm.mem_iff.mp hi;have lm:p.toList.length=vs.length:=by
   have:=perm.length_eq;simpa using this
  rw[lv,lp]at a1 a2;refine⟨.ref h1.objs.size,_,I1.laid (t':=s.toks) (a:=h1.objs.size) (o:=.lst (p.toList.map λi=>vs.getD i .aL)) (λb o e=>?_) (qe _) ⟨by rw[ĉ];omega,p.toList.map λi=>aq.getD i Ħ,en,Nx rv p.toList mem,by simpa using ho⟩,rfl,q p.toList _ perm (Uk nd a1 a2) fresh⟩;have hb:b < h1.objs.size:=qh e;rw[sortedHeap_old (qj hb) (by rw[Ň];exact Þ hb)];exact qd _ e
end
section
noncomputable def qk:D->Qb (Qa Int)
 |.tuple [.int m,_]=>ž [m]
 |_=>Ž
def tI:Qa D->Qb (Qa<|Qa Int)
 |[]=>ž []
 |d::ds=>(qk d).bind λk=>(tI ds).bind λks=>ž<|k::ks
def r9(a b:D):Prop:=∃k m,qk a=ž k/\qk b=ž m/\fe k m=ż
theorem r9.Jf(a b:D)(h:r9 a b):¬r9 b a:=by
 rintro⟨k',m',e1,e2,h'⟩;have(k,m,e3,e4,h):=h;rw[e3]at e2;rw[e4]at e1;cases e1;cases e2;have:=GN h h';rw[BP]at this;cases this
open Classical in
def Ey(xs:Qa D):Qa D:=if h:∃L,L.Perm xs/\L.Pairwise r9 then h.choose else []
theorem MC{xs L:Qa D}(p:L.Perm xs)(s:L.Pairwise r9):Ey xs=L:=by
 have h:∃L:Qa D,L.Perm xs/\L.Pairwise r9:=⟨L,p,s⟩;unfold Ey;rw[dif_pos h];exact N7 r9.Jf (h.choose_spec.1.trans p.symm) h.choose_spec.2 s
def Fu(u:U):Qb U:=u.lst.bind λxs=>(tI xs).bind λks=>if xs.length < 64/\ks.Nodup then ž (.l<|Ey xs)else Ž
theorem Lx:∀{xs:Qa D} {ks:Qa (Qa Int)},tI xs=ž ks->ks.length=xs.length
 |[],ks,e=>by cases e;rfl
 |x::xs,ks,e=>by
  have(k,e1,e):=bQ e;have(m7,e2,e):=bQ e;cases e;simp[Lx e2]
theorem Bz:∀{xs:Qa D} {ks:Qa (Qa Int)} {i:Nat} {x:D},tI xs=ž ks->xs[i]?=ž x->qk x=ž (ks.getD i [])
 |[],ks,i,x,e,ex=>by simp at ex
 |y::xs,ks,i,x,e,ex=>by
  have(k,e1,e):=bQ e;have(m7,e2,e):=bQ e;cases e;cases i with
  |zero=>cases(show ž y=ž x from ex);exact e1
  |succ i=>exact Bz (i:=i) e2 ex
theorem Yl:VC K (Kw K) (f1 Fu):=uw λv a u H Q h e q=>by
 have(xs,ex,e):=bQ e;have(ks,ek,e):=bQ e;split at e
 .rename_i hc
  cases e;have(p,ys,rfl,sq,ds):=h.lst ex;have ly:=ds.len;have lk:=Lx ek;refine⟨p,ys,ks,rfl,sq,by omega,⟨by omega,λi v ev=>?_⟩,hc.2,λis r hp hs hr=>?_⟩
  .have(d,ed,dv):=ds.get' ev
   have kd:=Bz ek ed;unfold qk at kd;split at kd
   .rename_i m y
    have kd:=qy kd;have(a,zs,rfl,h1,h2):=DF.aV dv;cases h2 with
    | @cons z1 _ _ _ h3 t=>
     cases t with
     | @cons z2 _ _ _ h4 t=>
      cases t;cases DF.int_inv h3;exact⟨a,m,z2,rfl,bK.sq h1,kd.symm⟩
   .cases kd
  .have sm:=jP hr (.lst<|is.map λi=>ys.getD i .aL)
   have lt:∀i∈is,i < xs.length:=λi hi=>by
    have:=ç.mp (hp.mem_iff.mp hi);omega
   have ext:(Ğ xs.length).map (λi=>xs.getD i .none)=xs:=by
    apply Ξ;intro j;rw[Č]
    by_cases hj:j < xs.length
    .rw[ϳ hj,Option.map_some,qC,qo hj]
     rfl
    .rw[Ł (by simpa using hj),Ł (by omega)]
     rfl
   have rP:(is.map λi=>xs.getD i .none).Perm xs:=by
    have:=hp.map λi=>xs.getD i .none;rw[ly,ext]at this;exact this
   have rO:(is.map λi=>xs.getD i .none).Pairwise r9:=by
    rw[Ų]at hs ⊢;refine hs.imp_of_mem λ{i j} hi hj gT=>?_;have gi:=qo (lt i hi);have gj:=qo (lt j hj);refine⟨_,_,?_,?_,gT⟩
    .rw[qC,gi]
     exact Bz ek gi
    .rw[qC,gj]
     exact Bz ek gj
   rw[MC rP rO]at q;refine q _ _ sm ⟨r,_,rfl,zw,?_⟩ λ_=>⟨r,rfl,hr⟩;refine aN.kp sm.kp ?_;clear hs hp rP rO q sm
   induction is with
   |nil=>exact .nil
   |cons i is ih=>
    refine .cons ?_<|ih λj hj=>lt j<|qp _ hj;have gi:=qo (lt i qq);have(v,ev,dv):=ds.get gi;dsimp only;rw[qC,qC,gi,ev];exact dv
 .cases e
end
end Internal
namespace Internal
open PySem PySem.Spec PyProof.Rows
theorem zBU{w:Qh}{k:Key}(h:(dC P w).is k u=ż):zT (kV k) u:=by
 rcases jN (show sJ k u=ż from h)with⟨i,t,rfl,rfl⟩|⟨x,t,rfl,rfl⟩
 .exact⟨t,rfl⟩
 .exact⟨t,rfl⟩
theorem GA{X:Cx}{s:Qd}{o:Obj}{ao:Qa (Key×V)}(I:Inv X pins σ H s)(e:H a=ž (.aQ o<|.dK ao)):
  (a==Ŀ)=Ż/\∃(es:Array a2c) (ep:Nat),s.heap.get? a=ž o/\o.ExactDict/\o.data=.dict es ep/\es.size=ao.length/\∀(i:Nat) (k:Key) (v:V),ao[i]?=ž (k,v)->∃x,es[i]?=ž x/\zT (kV k) x.key/\zT v x.val:=by
 have(ea,z,y,vs,r,o',es,ep,h1,h2,h3,h4,h5,h6):=(show zX X.prog X.w X.K H s.heap a (.aQ o<|.dK ao) from I.aF a _ e);rw[ea]at h1;cases h1;have hl:es.size=ao.length:=by
  have:=h5.length;rw[ŏ,<-KV.length r]at this;exact this
 refine⟨y,es,ep,ea,h2,h3,hl,λi k v hi=>?_⟩;have(q,hq,r1,r2):=zmm r i (k,v) hi;have cG:i < es.size:=by rw[hl];exact(qm.mp hi).1
 refine⟨es[i],Array.getElem?_eq_getElem cG,?_⟩;have r1:k=q.1:=r1;have(z1,z2):=h5.get? (i:=i) (e:=es[i]) (k:=q.1) (v:=q.2) (by simp[cG]) hq;rw[z2,r1];exact⟨zBU z1,r2⟩
def Ss(K:qc)(a:Qg)(o:Obj)(ao:Qa (Key×V)):It :=
 ⟨λi H=>H a=ž (.aQ o<|.dK ao)/\i < ao.length,λi H x H'=>∃T,H T=Ž/\x=.ref T/\∀k v,ao[i]?=ž (k,v)->H'=upd H T (.tup [kV k,v]),λi H=>H a=ž (.aQ o<|.dK ao)/\ao.length<=i⟩
theorem zls{w:Qh}{k:Nat}{pos:Pos}(a it:Qg)(o:Obj)(ao:Qa (Key×V))(ep:Nat)(Rk:∃es,o.data=.dict es ep):Turn P w K (.Tuple elts k pos) (Ss K a o ao) [it] it (λi h=>∃ok ov,a2M h it a i ao.length ep ok ov) where
 mem:=by simp
 obj:=λi h st b hb=>by
  have e:b=it:=by simpa using hb
  subst e;have(ok,ov,e):=st;exact⟨_,e,λv z=>by
   have z':a0l _=a1o v:=z;cases z'⟩
 keep:=λi h h' st k=>by
  have(ok,ov,e):=st;exact⟨ok,ov,k it (by simp) _ e⟩
 item:=by
  intro X hP hw hK hc i pins s σ H E I hf st hg;subst hP hw hK;have(e,hi):=hg;have(ok,ov,st):=st;have(Ir,es,oO,ea,xd,dat,hsz,ent):=GA I e;have Jb:oO=ep:=by
   have(ue,z):=Rk;rw[dat]at z;injection z
  subst Jb;have(x,ex,rk,rv):=ent i ao[i].1 ao[i].2 (qo hi);refine zpA (es:=es) (by rw[hsz];exact st) ⟨o,ea,xd,dat⟩ ex λh1 CI m9 kk=>?_;refine⟨_,rfl,wpAny_letOwnedTupleGo_items (s:={s with heap:=h1}) CI λh2 iG sb=>?_⟩;have kK:s.heap.objs.size≠it:=ī (qj<|qh st);have I2:Inv X pins σ H {s with heap:=h2}:=I.dD (t':=s.toks) (wr:=[it]) (λb o hb q=>(sb.2 b (by simpa using hb)).trans<|kk b o (by simpa using hb) q) hf;have fT:ir X pins H s.heap.objs.size:=I.eW (qe _) (I.aF.fresh<|qe _);have I3:Inv X pins σ (upd H s.heap.objs.size<|.tup [kV ao[i].1,ao[i].2]) {s with heap:=h2}:=I2.mU fT I.sz ⟨by show 2<=ċ;decide,[x.key,x.val],.cons rk<|.cons rv .nil,_,(sb.2 _ kK).trans m9,rfl,⟨_,rfl⟩,.inl rfl⟩;refine⟨.ref s.heap.objs.size,_,I3,rfl,⟨_,I.aF.fresh<|qe _,rfl,λk v Rg=>?_⟩,⟨_,_,by rw[<-hsz];exact iG⟩,λc hc=>?_⟩
  .rw[qo hi]at Rg
   rw[qy Rg]
  .have e:c=it:=by simpa using hc
   subst e;rw[zu<|ī kK];exact(hf c hc).1
 done:=by
  intro X hP hw hK hc i pins s σ H E I hf st hg;subst hP hw hK;have(e,hi):=hg;have(ok,ov,st):=st;have(Ir,es,oO,ea,xd,dat,hsz,ent):=GA I e;have Jb:oO=ep:=by
   have(ue,z):=Rk;rw[dat]at z;injection z
  subst Jb;have(f0,f1,f2,f3,f4,f5):=hf it (by simp);exact Zb (es:=es) (I.ok.hd hc) (by rw[hsz];exact st) ⟨o,ea,xd,dat⟩ (by omega) λh' eb=>⟨rfl,I.turned (t':=s.toks) (λb o hb e=>eb b o hb e) f0 f1 f3 f4 f5⟩
 self:=λ_ _ _ _ _ st h=>by
  have(ok,ov,st):=st;exact wpAny_pyIter_slot ⟨_,st,rfl⟩ a1T<|İ a1T ⟨_,st,rfl⟩ Zc (qb ⟨_,rfl, "dict_itemiterator",_,⟨_,st,rfl⟩,Ö.lookup,h⟩)<|F.args_dict_itemiterator_iter_1 _
def Gn(K:qc)(td:TE):TI:=λσ H R=>td σ H λx H1=>∃a o ao,x=.ref a/\H1 a=ž (.aQ o<|.dK ao)/\R (Ss K a o ao) H1
section
variable{X:Cx}{kk:Nat}{s:Qd}{ao:Qa (Key×V)}
theorem Yk(K:qc)(hK:X.K=K){d:Ĥ}(hd:Wr (PE X d td))(fZ:Ť d "items" X.env (ŀ d X.env)=ŀ d X.env:=by rfl)(fW:(apos.endLine==bq.line)=ż:=by rfl):Wr (PI X (.Tuple elts kk pQ) (.Call (.Attribute d "items" apos) [] [] bq)<|Gn K td):=by
 subst hK;refine⟨?_⟩;intro pins s σ H R I h;refine wpAny_Call_method0_late fZ fW<|aI (hd.run pins s σ H _ I h) λv s1 hZ=>?_;have(x,H1,I1,r1,q1):=hZ;have(a,o,ao,rfl,e,q):=q1;cases r1;have(Ir,es,ep,ea,xd,dat,hsz,_):=GA I1 e;have Qx:sF s1.heap a es ep:=⟨o,ea,xd,dat⟩;refine⟨"dict", "dict.items",F.plainAttrs_dict,F.slot_dict_items,F.type_dict_items,Qx.typeIs,λb hb=>?_,ú rfl<|PySem.evalArgs_none<|zpB Ir Qx ?_⟩
 .cases hb
  exact⟨o,ea,xd.2.1⟩
 have I2:Inv X pins σ H1 {s1 with heap:=s1.heap.push {cls:=.type "dict_items",data:=.fields #[.ref a]}}:=I1.kept (t':=s1.toks) λb o z=>qd _ z;refine zpC (v:=s1.heap.objs.size) (s:={s1 with heap:=s1.heap.push {cls:=.type "dict_items",data:=.fields #[.ref a]}}) ⟨_,qg _ rfl,rfl,rfl⟩ ⟨o,qd _ ea,xd,dat⟩ λh' hit tU=>?_;refine⟨_,_,_,_,H1,rfl,I2.kept (t':=s1.toks) tU,zls a _ o ao ep ⟨es,dat⟩,⟨_,_,by rw[<-hsz];exact hit⟩,λb hb=>?_,q⟩;rw[qr.mp hb];exact I2.eW (qe _)<|I2.aF.fresh<|qe _
theorem Inv.qF(I:Inv X pins σ H s)(e:H a=ž (.dK ao)):∃o,s.heap.get? a=ž o/\Inv X pins σ (upd H a<|.aQ o<|.dK ao) s:=by
 have ok:=(show zX X.prog X.w X.K H s.heap a (.dK ao) from I.aF a _ e);have(z,y,xs,r,o,es,ep,h1,h2):=id ok;refine⟨o,h1,?_⟩;exact I.write (t':=s.toks) (h':=s.heap) (by rw[e];trivial) (.inl rfl) (λ_ _ _ q=>q) ⟨o,h1⟩ ⟨h1,⟨z,y,xs,r,o,es,ep,h1,h2⟩⟩
theorem Inv.Hj{o:Obj}(I:Inv X pins σ H s)(e:H a=ž (.aQ o<|.dK ao))(n:∀o u,X.H₀ a≠ž (.aQ o u)):Inv X pins σ (upd H a<|.dK ao) s:=by
 have nn:∀{b},H b=Ž->upd H a (.dK ao) b=Ž:=λ{b} hb=>by
  rw[zu (λz=>by rw[z,e]at hb;cases hb)];exact hb
 have tp:∀b xs,H b=ž (.tup xs)->upd H a (.dK ao) b=ž (.tup xs):=λb xs hb=>by
  rw[zu (λz=>by rw[z,e]at hb;cases hb)];exact hb
 refine⟨I.ok,I.os,I.bare,⟨I.base.keep,I.base.slot,λb o q z hx=>nn<|I.base.free b o q z hx,I.base.there,λb xs q=>tp b xs<|I.base.eS b xs q,λb o u q=>?_,λb ps q=>?_⟩,I.loc,I.cell,nn I.free,λx c q=>nn<|I.bP x c q,λp hp=>?_,λb u q=>?_,I.len⟩
 .rw[zu (λz=>n o u (by rw[<-z];exact q))]
  exact I.base.dI b o u q
 .have(more,q):=I.base.fO b ps q
  exact⟨more,by rw[zu (λz=>by rw[z,e]at q;cases q)];exact q⟩
 .have(h1,h2,h3):=I.pin p hp
  exact⟨h1,nn h2,h3⟩
 .have ow:∀c y,H c=ž (.own y)->upd H a (.dK ao) c=ž (.own y):=λc y hc=>by
   rw[zu (λz=>by rw[z,e]at hc;cases hc)];exact hc
  by_cases hb:b=a
  .subst hb
   rw[zw]at q;cases q;exact(show zX X.prog X.w X.K H s.heap b (.aQ o<|.dK ao) from I.aF b _ e).2
  .rw[zu hb]at q
   exact(I.aF b u q).cx (λ_ _ _ z=>z) (λc hc=>ow c b hc) tp
def PN(i:Nat)(t:TE):TE:=λσ H Q=>∃a ao,σ[i]?=ž (ž<|.ref a)/\H a=ž (.dK ao)/\∀o,t σ (upd H a<|.aQ o<|.dK ao) λv H2=>H2 a=ž (.aQ o<|.dK ao)/\Q v (upd H2 a<|.dK ao)
theorem zBW{t:TE}(h:Wr (PE X e t)):Wr (PE X e<|PN i t):=⟨λpins s σ H Q I q=>by
 have(a,ao,es,ea,q):=q;have(o,ho,I1):=I.qF ea;refine aI (h.run pins s σ _ _ I1<|q o) λu s1 z=>?_;have(v,H2,I2,rv,e2,z):=z;exact⟨v,_,I2.Hj e2 (λo u h0=>by have:=I.base.dI a o u h0;rw[ea]at this;cases this),rv,z⟩⟩
end
structure Kq (H H':Hp):Prop where
 tup:∀b xs,H b=ž (.tup xs)->H' b=ž (.tup xs)
 aQ:∀b o u,(∀ao,u≠.dK ao)->H b=ž (.aQ o u)->H' b=ž (.aQ o u)
section
theorem XV.kq{C:Qg}{fs:Qa (Str×V)}(e:Kq H H')(h:XV H a C fs):XV H' a C fs:=by
 have(ox,h1,h2,h3,h4):=h;refine⟨ox,e.aQ _ _ _ (λk z=>by cases z) h1,h2,h3,?_⟩;rcases h4 with h4|⟨od,dx,h5,h6⟩
 .exact .inl h4
 .exact .inr ⟨od,dx,h5,e.aQ _ _ _ (λk z=>by cases z) h6⟩
theorem PL.kq{xs:Qa V}(e:Kq H H')(h:PL K H a xs):PL K H' a xs:=by
 rcases h with⟨o,h⟩|h
 .exact .inl ⟨o,e.aQ _ _ _ (λk z=>by cases z) h⟩
 .exact .inr h
theorem aN.kq(e:Kq H H'){v:Qa V}{d:Qa D}(h:aN K H v d):aN K H' v d :=
 aN.rec (motive_1:=λv d _=>DF K H' v d) (motive_2:=λv d _=>aN K H' v d) (motive_3:=λv d _=>oV K H' v d) (motive_4:=λv d _=>se K H' v d)
  .aL .bl .int .str (λh _ t=>.tup (h.keeps e.tup) t) (λh _ t=>.lst (h.kq e) t) (λh _ t=>.nE (e.aQ _ _ _ (λk z=>by cases z) h) t) (λh n _ t=>.exc (h.kq e) n t) (λh n _ t=>.obj (e.aQ _ _ _ (λk z=>by cases z) h) n t)
  .nil (λ_ _ a b=>.cons a b) .nil (λ_ _ a b=>.cons a b) .nil (λ_ _ a b=>.cons a b) h
theorem DF.kq(e:Kq H H'){d:D}(h:DF K H v d):DF K H' v d:=by
 cases aN.kq e (.cons h .nil);assumption
theorem dR.kq{κ:Type}(e:Kq H H'){ws:Qa (κ×V)}{ao:Qa (κ×D)}(h:dR K H ws ao):dR K H' ws ao:=Paired.hJ h λ_ _ z=>⟨z.1,z.2.kq e⟩
theorem FO.kq(e:Kq H H'){ps:Qa (Qg×HO)}{fs:Qa (Str×PU)}(h:FO K H vs ps fs):FO K H' vs ps fs:=by
 induction h with
 |nil=>exact .nil
 |d h _ ih=>exact .d (h.kq e) ih
 |l h _ ih=>exact .l (h.kq e) ih
 |t h _ ih=>exact .t (h.kq e) ih
 |x h _ ih=>exact .x (h.kq e) ih
theorem Rp.kq{u:U}(h:Rp K H v u)(e:Kq H H')(o:u.own=ż->∀a c,v=.ref a->H a=ž c->H' a=ž c/\∀z,H z=ž (.own a)->H' z=ž (.own a)):Rp K H' v u:=by
 cases u with
 |d x=>exact DF.kq e h
 |l xs=>have(a,us,ev,q,t):=h;exact⟨a,us,ev,(o rfl a _ ev q).1,t.kq e⟩
 |t xs=>have(a,us,ev,q,t):=h;exact⟨a,us,ev,(o rfl a _ ev q).1,t.kq e⟩
 |k xs=>have(a,us,ev,q,t):=h;exact⟨a,us,ev,(o rfl a _ ev q).1,t.kq e⟩
 |o c fs=>have(a,C,dx,vs,ps,ev,q,n,x,nd,t,d,w):=h;exact⟨a,C,dx,vs,ps,ev,(o rfl a _ ev q).1,n,x,nd,t.kq e,d,λz hz=>(o rfl a _ ev q).2 _<|w z hz⟩
end
theorem V4{ws:Qa (Key×V)}{ao:Qa (Key×D)}(h:dR K H ws ao):∀{i:Nat} {p:Key×D},ao[i]?=ž p->∃w,ws[i]?=ž w/\w.1=p.1/\DF K H w.2 p.2:=by
 induction h with
 |nil=>intro i p e;simp at e
 |cons q _ ih=>
  intro i p e;cases i with
  |zero=>cases e;exact⟨_,rfl,q.1,q.2⟩
  |succ i=>exact ih (i:=i) e
noncomputable def U.ks:U->Qb (Qa<|Key×D)
 |.k ao=>ž ao
 |_=>Ž
theorem Ta{u:U}{ao:Qa (Key×D)}(h:u.ks=ž ao):u=.k ao:=by
 cases u<;>cases h;rfl
def CY(p:Key×D):D:=.tuple [vF p.1,p.2]
def Ad(i nt:Nat)(js:Qa Nat)(mg:MG)(mt:MT)(me:ME):ME:=λρ=>(ρ[i]?).join.bind λu=>u.ks.bind λao=>(iK nt mg mt me (ao.map CY) (hX nt js<|ρ.set i Ž) []).bind λq=>ž (.u<|.l q.1,(back js (q.2.drop nt)<|ρ.set i Ž).set i<|some<|.k ao)
section
variable{ρ au:En}{H2:Hp}{l:Qg}{o:Obj}{ws:Qa (Key×V)}{ao:Qa (Key×D)}
theorem mM{w:U}(e:(ρ.set i Ž)[j]?=ž (ž w)):j≠i/\ρ[j]?=ž (ž w):=by
 by_cases hj:i=j
 .subst hj
  have hl:=(qm.mp e).1;rw[ĕ]at hl;rw[ĝ hl]at e;cases e
 .rw[qD hj]at e
  exact⟨ī hj,e⟩
theorem zBX{k:Key}:DF K H (kV k) (vF k):=by
 cases k with
 |inl i=>exact .int i
 |inr x=>exact .str x
theorem Lw(r:Rs K ρ σ H)(ei:ρ[i]?=ž (ž<|.k ao))(ev:σ[i]?=ž (ž<|.ref l))(hl:H l=ž (.dK ws)):Rs K (ρ.set i Ž) σ (upd H l<|.aQ o<|.dK ws):=by
 refine⟨by rw[ĕ];exact r.len,λj w e=>?_,λj k x y ej ek ox oy es=>r.apart j k x y (mM ej).2 (mM ek).2 ox oy es⟩;have(nj,ej):=mM e;have(v,l7,p):=r.rep j w ej;refine⟨v,l7,p.kp (jL hl trivial _) λow b c eb hb=>?_⟩;subst eb;rw[zu (λz=>nj<|r.apart j i w _ ej ei ow rfl (by rw[l7,ev,z]))];exact hb
theorem Lv(e:H2 l=ž (.aQ o<|.dK ws)):Kq H2 (upd H2 l<|.dK ws):=by
 refine⟨λb xs h=>?_,λb ob u n h=>?_⟩
 .rw[zu (λz=>by rw[z,e]at h;cases h)];exact h
 .rw[zu (λz=>by rw[z,e]at h;cases h;exact n _ rfl)];exact h
theorem Lu{u:U}(p:Rp K H2 v u)(e:H2 l=ž (.aQ o<|.dK ws)):Rp K (upd H2 l<|.dK ws) v u:=by
 refine p.kq (Lv e) λow b c eb hb=>⟨?_,λz hz=>?_⟩
 .rw[zu λz=>?_]
  .exact hb
  .have(b',c',Ds,dh,m):=p.own ow
   rw[eb]at Ds;cases Ds;rw[z,e]at dh;cases dh;exact m
 .rw[zu (λy=>by rw[y,e]at hz;cases hz)]
  exact hz
theorem V3{aw:En}(r:Rs K ρ σ H)(ei:ρ[i]?=ž (ž<|.k ao))(ev:σ[i]?=ž (ž<|.ref l))(hl:H l=ž (.dK ws))(kv:dR K H ws ao)(g:Go K (ρ.set i Ž) σ (upd H l<|.aQ o<|.dK ws) aw H2):
  H2 l=ž (.aQ o<|.dK ws)/\Go K ρ σ H (aw.set i<|some<|.k ao) (upd H2 l<|.dK ws):=by
 have r0:=Lw (o:=o) r ei ev hl;have hi:i < ρ.length:=(qm.mp ei).1;have h2:H2 l=ž (.aQ o<|.dK ws):=g.fr l _ zw λ⟨j,w,ej,ow,es⟩=>by
  have(nj,ej):=mM ej;exact nj<|r.apart j i w _ ej ei ow rfl (by rw[es,ev])
 have kq:=Lv h2;have l1:aw.length=ρ.length:=by rw[g.shr.len,ĕ]
 have inv:∀{j:Nat} {w:U},(aw.set i<|some<|.k ao)[j]?=ž (ž w)->(j=i/\w=.k ao)\/(j≠i/\aw[j]?=ž (ž w)):=λ{j w} e=>by
  by_cases hj:i=j
  .subst hj
   rw[ĝ (by omega)]at e;cases e;exact .inl ⟨rfl,rfl⟩
  .rw[qD hj]at e
   exact .inr ⟨ī hj,e⟩
 have old:∀{j:Nat} {w:U},(aw.set i<|some<|.k ao)[j]?=ž (ž w)->w.own=ż->∃x,ρ[j]?=ž (ž x)/\x.own=ż:=λ{j w} e ow=>by
  rcases inv e with⟨rfl,rfl⟩|⟨nj,e⟩
  .exact⟨_,ei,rfl⟩
  .have(x,ex,ox):=g.shr.own j w e ow
   exact⟨x,(mM ex).2,ox⟩
 refine⟨h2,⟨by rw[ĕ];exact g.rs.len,λj w e=>?_,λj k x y ej ek ox oy es=>?_⟩,λb ob hb nb=>?_,⟨by rw[ĕ];exact l1,λj w e ow=>old e ow,λj w e=>?_⟩,λb hb=>?_⟩
 .rcases inv e with⟨rfl,rfl⟩|⟨nj,e⟩
  .exact⟨_,ev,l,ws,rfl,zw,((kv.kp<|jL hl trivial _).kp<|g.kp r0).kq kq⟩
  .have(v,l7,p):=g.rs.rep j w e
   exact⟨v,l7,Lu p h2⟩
 .have(x',ex,HB):=old ej ox
  have(y',ey,yg):=old ek oy;exact r.apart j k x' y' ex ey HB yg es
 .have ne:b≠l:=λz=>nb ⟨i,_,ei,rfl,by rw[ev,z]⟩
  rw[zu ne];refine g.fr b ob (by rw[zu ne];exact hb) λ⟨j,w,ej,ow,es⟩=>nb ⟨j,w,(mM ej).2,ow,es⟩
 .by_cases hj:j=i
  .subst hj
   exact⟨_,Û (by omega)⟩
  .have(w',e'):=g.shr.live j w (by rw[qD<|ī hj];exact e)
   exact⟨w',by rw[qD<|ī hj];exact e'⟩
 .have ne:b≠l:=λz=>by rw[z,zw]at hb;cases hb
  rw[zu ne]at hb;have:=g.dm b hb;rw[zu ne]at this;exact this
theorem zBY{mg:MG}{mt:MT}{me:ME}(hg:qH K (k7 nt js.length) g mg)(ht:VT K tt mt)(he:VE K te me)(nd:js.Nodup:=by decide):
  VE K (PN i<|vw (Gn K<|eE i) nt js g tt te) (Ad i nt js mg mt me):=by
 intro ρ σ H a au Q r e q;have(u,e0,e'):=bQ e;clear e;have(ao,ek,e):=bQ e';clear e';obtain⟨⟨ys,Ac⟩,e1,e'⟩:=bQ e;clear e;cases Ta ek;cases e';have ei:=jO e0;have(v,ev,l,ws,rfl,hl,kv):=r.rep i _ ei;refine⟨l,ws,ev,hl,λo=>?_⟩;have r0:=Lw (o:=o) r ei ev hl;have kp0:=jL hl trivial (.aQ o<|.dK ws);have vi:Sl K js (λaG H' R=>(aG=σ/\H'=upd H l (.aQ o<|.dK ws))->Gn K (eE i) aG H' R) (λr=>ž (ao.map CY,r)):=by
  intro aD gJ H2 ds iB R r2 e2 q2 hh;have(rfl,rfl):=hh;cases e2;refine⟨.ref l,ev,l,o,ws,rfl,zw,q2 _ _ (Go.refl r2) λH3 k f j=>⟨λd ed=>?_,λej=>?_⟩⟩
  .have h3:=k.aQ _ _ _ zw
   rw[Č]at ed;obtain⟨⟨kd,vd⟩,ew,rfl⟩:=qt.mp ed;have(w,fC,e3,dv):=V4 kv ew;refine⟨⟨h3,(qm.mp fC).1⟩,λx H' y=>?_⟩;have(T,nT,rfl,y):=y;cases y w.1 w.2 fC;have sm:=jP nT (.tup [kV w.1,w.2]);have e3:w.1=kd:=e3;refine⟨sm,.tup (.inl zw)<|.cons ?_<|.cons (((dv.kp kp0).kp k).kp sm.kp) .nil⟩;rw[e3];exact zBX
  .have h3:=k.aQ _ _ _ zw
   refine⟨h3,ì ?_⟩;rw[ej,ĉ];exact ό kv
 have run:=JS (te:=te) (tt:=tt) (g:=g) (nt:=nt) vi hg ht he nd (ρ.set i Ž) σ (upd H l<|.aQ o<|.dK ws) (.u<|.l ys) (back js (Ac.drop nt)<|ρ.set i Ž) (λv H2=>H2 l=ž (.aQ o<|.dK ws)/\Q v (upd H2 l<|.dK ws)) r0 (by unfold gQ;rw[a0X,e1];rfl) λv H2 g2 k2=>by
  have(h2,g3):=V3 r ei ev hl kv g2;have(p,n):=k2;refine⟨h2,q v _ g3 ⟨?_,λow=>?_⟩⟩
  .exact Lu p h2
  .have(b,eb,hb):=n ow
   have ne:b≠l:=λz=>by rw[z,zw]at hb;cases hb
   rw[zu ne]at hb;exact⟨b,eb,hb⟩
 exact run ⟨rfl,rfl⟩
end
section
theorem Mj{mg:MG}{mt:MT}{me:ME}{ρ:En}{QE:Ar×En->Prop}:Wo (Ad i nt js mg mt me ρ) QE=Wo (ρ[i]?).join (Co (λu=>u.ks.bind λao=>(iK nt mg mt me (ao.map CY) (hX nt js<|ρ.set i Ž) []).bind λq=>ž (.u<|.l q.1,(back js (q.2.drop nt)<|ρ.set i Ž).set i<|some<|.k ao)) ⟨0⟩ QE):=by
 unfold Ad;rw[zt]
theorem Kv{ao:Qa (Key×D)}:(U.k ao).ks=ž ao:=rfl
end
section
variable{H2:Hp}{C b z:Qg}{ps:Qa (Qg×HO)}{us:Qa V}{o:HO}
theorem V2(h:z∉ps.map (·.1))(n:z≠a):ft (upd H z o) a C dx vs ps=upd (ft H a C dx vs ps) z o:=by
 funext c
 by_cases h1:c=a
 .subst h1
  rw[zu<|ī n,s9,s9]
 .by_cases h2:c∈ps.map (·.1)
  .rw[zu (λy=>h (by rw[<-y];exact h2)),rq h2 h1,rq h2 h1]
  .by_cases h3:c=z
   .subst h3
    rw[om h n,zw,zw]
   .rw[om h2 h1,zu h3,zu h3,om h2 h1]
theorem Op.aL(t:Op K H a C dx vs ps)(e:Internal.bC H a C dx vs ps z=Ž):H z=Ž/\z≠a/\z∉ps.map (·.1):=by
 have n1:z≠a:=λy=>by rw[y,mJ]at e;cases e
 have n2:z∉ps.map (·.1):=λy=>by
  have(q,hq,eq):=À.mp y;have:=mF (H:=H) (C:=C) (dx:=dx) (vs:=vs) t.nd hq (t.pa q hq);rw[eq,e]at this;cases this
 rw[lH n2 n1]at e;exact⟨e,n1,n2⟩
theorem Op.uj(t:Op K H a C dx vs ps)(e:Internal.bC H a C dx vs ps z=Ž):Re K (upd (Internal.bC H a C dx vs ps) z o) (upd H z o):=by
 have(_,n1,n2):=t.aL e;have:=xm (K:=K) (H:=upd (Internal.bC H a C dx vs ps) z o) (a:=a) (C:=C) (dx:=dx) (vs:=vs) (ps:=ps) (by rw[zu<|ī n1];exact mJ) t.pa λq hq=>⟨by
  rw[zu λy=>n2<|List.mem_map.mpr ⟨q,hq,y⟩];exact mF t.nd hq<|t.pa q hq,t.flat q hq⟩
 rw[V2 n2 n1,MH t.at_ t.own]at this;exact this
def Sr(K:qc)(a C dx:Qg)(vs:Qa (Str×V))(ps:Qa (Qg×HO))(us:Qa V):It :=
 ⟨λn H=>Op K H a C dx vs ps/\∃v,us[n]?=ž v,λn H x H'=>∃T,H T=Ž/\x=.ref T/\∀v,us[n]?=ž v->H'=upd H T (.tup [.int n,v]),λn H=>Op K H a C dx vs ps/\us.length=n⟩
theorem ir.of{X:Cx}(h:ir X pins H z)(e:H' z=Ž):ir X pins H' z:=⟨e,h.2⟩
theorem S9{w:Qh}{fp:Qa Qg}(hb:(b,HO.lst us)∈ps)(T:Turn P w K tg (Al K b) fp it tn):Turn P w K tg (Sr K a C dx vs ps us) fp it tn where
 mem:=T.mem
 obj:=T.obj
 keep:=T.keep
 item:=by
  intro X hP hw hK hc i pins s σ H E I hf st hg;have(t,v,hv):=hg;have at_:bC H a C dx vs ps b=ž (.lst us):=mF t.nd hb (t.pa _ hb);have I1:Inv X pins σ (bC H a C dx vs ps) s:=I.re (by rw[hK];exact t.bC);refine aI (T.item X hP hw hK hc i pins s σ _ E I1 (λc hc=>(hf c hc).of<|t.bC.aL c (hf c hc).1) st ⟨us,v,bE.of at_,hv⟩) λr s1 z=>?_;have(u,er,z):=z;refine⟨u,er,aI z λx s2 z=>?_⟩;obtain⟨x,H',I2,rx,⟨y,ny,rfl,hy⟩,iG,hf2⟩:=z;cases hy us v (bE.of at_) hv;refine⟨.ref y,_,I2.re (by rw[hK];exact t.uj ny),rx,⟨y,(t.aL ny).1,rfl,λv' Dd=>?_⟩,iG,λc hc=>?_⟩
  .rw[hv]at Dd
   cases Dd;rfl
  .have:=hf2 c hc
   have nc:c≠y:=λz=>by rw[z,zw]at this;cases this
   rw[zu nc]at this ⊢;exact(t.aL this).1
 done:=by
  intro X hP hw hK hc i pins s σ H E I hf st hg;have(t,hl):=hg;have at_:bC H a C dx vs ps b=ž (.lst us):=mF t.nd hb (t.pa _ hb);have I1:Inv X pins σ (bC H a C dx vs ps) s:=I.re (by rw[hK];exact t.bC);refine aI (T.done X hP hw hK hc i pins s σ _ E I1 (λc hc=>(hf c hc).of<|t.bC.aL c (hf c hc).1) st ⟨us,bE.of at_,hl⟩) λr s1 z=>?_;exact⟨z.1,z.2.re (by rw[hK];exact t.ft)⟩
 self:=T.self
def Jt(K:qc)(wi:TI):TI:=λσ H R=>∃a C dx vs ps b us,Op K H a C dx vs ps/\(b,HO.lst us)∈ps/\wi σ (bC H a C dx vs ps) λJ H'=>J=Al K b/\H'=bC H a C dx vs ps/\R (Sr K a C dx vs ps us) H
theorem WR{X:Cx}{it:Ĥ}(h:Wr (PI X tg it wi)):Wr (PI X tg it<|Jt X.K wi):=⟨λpins s σ H R I q=>by
 have(a,C,dx,vs,ps,b,us,t,hb,q):=q;refine aI (h.run pins s σ _ _ (I.re t.bC) q) λv s1 z=>aI z λy s2 z=>?_;have(it,fp,tn,J,H',e,I2,T,st,hf,rfl,rfl,z):=z;exact⟨it,fp,tn,_,H,e,I2.re t.ft,S9 hb T,st,λc hc=>(hf c hc).of (t.aL (hf c hc).1).1,z⟩⟩
end
noncomputable def Fl.re(g:En->En):Fl->Fl
 |.nx ρ=>.nx<|g ρ
 |.bk ρ=>.bk<|g ρ
 |.ct ρ=>.ct<|g ρ
 |.rt u ρ=>.rt u<|g ρ
 |.ex x ρ=>.ex x<|g ρ
def pz(c:Str)(i:Nat)(f:Str)(mg:MG)(mb:MS):MS:=λρ=>(lY c i f ρ).bind λxs=>(ρ[i]?).join.bind λw=>(gu mg mb (kC 0 xs)<|ρ.set i Ž).bind λfl=>ž<|fl.re λau=>au.set i<|some w
section
variable{ρ au:En}{aG:St}{A:Qg->Prop}{C b:Qg}{ps:Qa (Qg×HO)}{fs:Qa (Str×PU)}{EX:gn}
open Classical in
def ki(H₀ H:Hp)(a:Qg):Hp:=λz=>if H₀ z=Ž/\z≠a then Ž else H z
theorem Gz{z:Qg}(h:H₀ z≠Ž\/z=a):ki H₀ H a z=H z:=a4c λq=>h.elim (λy=>y q.1) λy=>q.2 y
theorem GV{z:Qg}(h:ki H₀ H a z=Ž):H₀ z=Ž\/H z=Ž:=by
 unfold ki at h;split at h
 .rename_i q;exact .inl q.1
 .exact .inr h
theorem Sn.hide{u:U}(s:Sn K pn av A H₀ aC ρ σ H)(hi:i∉pn)(ei:ρ[i]?=ž (ž u))(ou:u.own=ż)(ev:σ[i]?=ž (ž<|.ref a)):Sn K (i::pn) σ (λz=>A z/\z≠a) (ki H₀ H a) H (ρ.set i Ž) σ H:=by
 have ne:∀{j:Nat} {w:U} {z:Qg},(ρ.set i Ž)[j]?=ž (ž w)->w.own=ż->σ[j]?=ž (ž<|.ref z)->z≠a:=λ{j w z} e ow es y=>by
  have(nj,ej):=mM e;exact nj<|s.rs.apart j i w u ej ei ow ou (by rw[es,ev,y])
 refine⟨⟨by rw[ĕ];exact s.rs.len,λj w e=>s.rs.rep j w (mM e).2,λj k x y ej ek ox oy es=>s.rs.apart j k x y (mM ej).2 (mM ek).2 ox oy es⟩,λz o h n=>?_,λj w z e ow es=>?_,λ_ _=>rfl,λz h=>?_,Kp.refl H⟩
 .unfold ki at h
  split at h
  .cases h
  .exact h
 .have nz:=ne e ow es
  rcases s.ow j w z (mM e).2 ow es with⟨h1,h2⟩|h
  .exact .inl ⟨qp _ h1,h2,nz⟩
  .refine .inr ?_
   unfold ki;rw[a4b ⟨h,nz⟩]
 .unfold ki
  split
  .rfl
  .exact h
theorem Sn.show{w:U}(s:Sn K pn av A H₀ aC ρ σ H)(hi:i∉pn)(ei:ρ[i]?=ž (ž w))(ow:w.own=ż)(ev:σ[i]?=ž (ž<|.ref a))(s':Sn K (i::pn) σ (λz=>A z/\z≠a) (ki H₀ H a) H au aG H')(p:Rp K H' (.ref a) w):Sn K pn av A H₀ aC (au.set i<|some w) aG H':=by
 have pi:aG[i]?=ž (ž<|.ref a):=by rw[s'.pin i qq];exact ev
 have li:i < au.length:=by rw[s'.rs.len];exact(qm.mp pi).1
 have(c0,t9,_):=s.rs.ow ⟨i,w,ei,ow,ev⟩;have inv:∀{j:Nat} {u:U},(au.set i<|some w)[j]?=ž (ž u)->(j=i/\u=w)\/(j≠i/\au[j]?=ž (ž u)):=λ{j u} e=>by
  by_cases hj:i=j
  .subst hj
   rw[ĝ li]at e;cases e;exact .inl ⟨rfl,rfl⟩
  .rw[qD hj]at e
   exact .inr ⟨ī hj,e⟩
 have ne:∀{j:Nat} {u:U} {z:Qg},au[j]?=ž (ž u)->u.own=ż->aG[j]?=ž (ž<|.ref z)->z≠a:=λ{j u z} e ou es y=>by
  rcases s'.ow j u z e ou es with⟨_,_,n⟩|h
  .exact n y
  .rw[y,Gz<|.inr rfl,t9]at h
   cases h
 have fw:∀{j:Nat} {u:U},au[j]?=ž (ž u)->u.own=ż->∃z,aG[j]?=ž (ž<|.ref z):=λ{j u} e ou=>by
  have(v,ev,p):=s'.rs.rep j u e;have(z,rfl):=p.fw ou;exact⟨z,ev⟩
 refine⟨⟨by rw[ĕ];exact s'.rs.len,λj u e=>?_,λj k x y ej ek ox oy es=>?_⟩,λz o h n=>?_,λj u z e ou es=>?_,λj hj=>?_,λz h=>?_,s.kp.trans s'.kp⟩
 .rcases inv e with⟨rfl,rfl⟩|⟨_,e⟩
  .exact⟨_,pi,p⟩
  .exact s'.rs.rep j u e
 .rcases inv ej with⟨q1,q2⟩|⟨nj,l8⟩
  .rcases inv ek with⟨q3,q4⟩|⟨nk,rY⟩
   .rw[q1,q3]
   .exact absurd rfl (ne rY oy (by rw[<-es,q1,pi]))
  .rcases inv ek with⟨q3,q4⟩|⟨nk,rY⟩
   .exact absurd rfl (ne l8 ox (by rw[es,q3,pi]))
   .exact s'.rs.apart j k x y l8 rY ox oy es
 .refine s'.fr z o ?_ λq=>n q.1
  rw[Gz<|.inl (by rw[h];intro q;cases q)];exact s.fr z o h n
 .rcases inv e with⟨rfl,rfl⟩|⟨nj,e⟩
  .rw[pi]at es
   cases es;exact s.ow j u a ei ou ev
  .rcases s'.ow j u z e ou es with⟨h1,h2,_⟩|h
   .exact .inl ⟨(qw.mp h1).resolve_left nj,h2⟩
   .exact .inr ((GV h).elim id<|s.dm z)
 .rw[s'.pin j<|qp _ hj]
  exact s.pin j hj
 .exact(GV<|s'.dm z h).elim id (s.dm z)
theorem S8{tb:TS}{mg:MG}{mb:MS}(hc:∀C,XN K c C->eY K C/\gy K C f)(hg:qH K (i::pn) g mg)(hb:VS K (i::pn) EX tb mb)(hi:i∉pn:=by decide):VS K pn EX (AF (Jt K<|K4 K<|kl (wC K (eE i) f) kg) g tb) (pz c i f mg mb):=by
 intro av A H₀ aC ρ σ H fl D s e k;have(xs,e0,e'):=bQ e;clear e;have(w,ew,e):=bQ e';clear e';have(bR,el,e'):=bQ e;clear e;cases e';have(fs,a,C,dx,vs,ps,b,us,ei,t,kv):=BA s.rs e0;cases(jO ew).symm.trans ei;have s1:=s.hide hi ei rfl t.st;refine⟨a,C,dx,vs,ps,b,us,t.op,t.mem,.ref a,t.st,a,C,dx,vs,.ref b,rfl,mJ,(hc C t.xn).1,(hc C t.xn).2,t.vl,b,rfl,⟨us,bE.of t.at⟩,rfl,rfl,?_⟩;have op:∀{au aG H'},Sn K (i::pn) σ (λz=>A z/\z≠a) (ki H₀ H a) H au aG H'->Op K H' a C dx vs ps:=λ{au aG H'} s'=>
  ⟨s'.fr a _ (by rw[Gz<|.inr rfl];exact t.op.at_) λq=>q.2 rfl,t.op.ne,t.op.nd,t.op.oP,λq hq=>s'.kp.own _ _<|t.op.own q hq,t.op.flat⟩
 have back:∀{au aG H'},Sn K (i::pn) σ (λz=>A z/\z≠a) (ki H₀ H a) H au aG H'->Sn K pn av A H₀ aC (au.set i<|some<|.o c fs) aG H':=λ{au aG H'} s'=>
  s.show hi ei rfl t.st s' ⟨a,C,dx,vs,ps,rfl,(op s').at_,t.op.ne,t.xn,t.op.nd,t.fo.kp s'.kp,t.op.oP,(op s').own⟩
 have nn:∀{z},ki H₀ H a z=Ž->H₀ z=Ž:=λ{z} h=>(GV h).elim id<|s.dm z;generalize lW:kC 0 xs=ds at el;have ld:ds.length=us.length:=by rw[<-lW,xQ,kv.len]
 refine⟨λj m aG H'=>m=ds.length - j/\j<=ds.length/\∃au,Sn K (i::pn) σ (λz=>A z/\z≠a) (ki H₀ H a) H au aG H'/\gu mg mb (ds.drop j) au=ž bR,⟨ds.length,by simp,Ê _,_,s1,el⟩,?_⟩;rintro j m aG H' ⟨rfl,hj,au,s',el⟩
 by_cases cG:j < ds.length
 .rw[Ι cG]at el
  have(aD,e2,RF):=bQ (show(mg ds[j] au).bind _=ž bR from el);clear el;have(fb,eb,el):=bQ RF;clear RF;have ed:(kC 0 xs)[j]?=ž ds[j]:=by rw[lW];exact qo cG
  have(x,ex,dx'):=vg ed;have(v,ev,dv):=(kv.kp s'.kp).get ex;refine .inr ⟨⟨op s',v,ev⟩,λeM H3=>∃iB,Sn K (i::pn) σ (λz=>A z/\z≠a) (ki H₀ H a) H iB eM H3/\gu mg mb (ds.drop<|j+1) iB=ž bR,λeM H3 ⟨iB,s3,e3⟩=>⟨ds.length - (j+1),by omega,rfl,cG,iB,s3,e3⟩,λy H2 hy=>?_⟩;have(T,nT,rfl,hy):=hy;cases hy v ev;have sm:=jP nT (.tup [.int j,v]);have s2:=s'.go (Go.grow s'.rs sm);refine hg.run _ _ _ _ au aG _ (.ref T) ds[j] aD _ s2 ?_ e2 λeM s3=>?_
  .rw[dx',Ū]
   exact .tup (.inl zw)<|.cons (.int _)<|.cons (dv.kp sm.kp) .nil
  .refine hb _ _ _ _ aD eM _ fb _ s3 eb ?_
   cases fb with
   |nx dM=>exact λfD H4 s4=>⟨dM,s4,el⟩
   |ct dM=>exact λfD H4 s4=>⟨dM,s4,el⟩
   |bk dM=>cases el;exact λfD H4 s4=>k fD H4<|back s4
   |rt u dM=>cases el;exact λv fD H4 s4 p n=>k v fD H4 (back s4) p λo=>(n o).imp λy z=>⟨z.1,nn z.2⟩
   |ex x dM=>cases el;exact λa fD H4 s4 p n=>k a fD H4 (back s4) (nn p) n
 .have ej:j=ds.length:=by omega
  subst ej;rw[ε]at el;cases el;exact .inl ⟨⟨op s',ld.symm⟩,k aG H'<|back s'⟩
end
theorem Nu{mg:MG}{mb:MS}{ρ:En}{QS:Fl->Prop}:Wo (pz c i f mg mb ρ) QS=Wo (lY c i f ρ) (Co (λxs=>(ρ[i]?).join.bind λw=>(gu mg mb (kC 0 xs)<|ρ.set i Ž).bind λfl=>ž<|fl.re λau=>au.set i<|some w) ⟨0⟩ QS):=by
 unfold pz;rw[zt]
noncomputable def wk:Qa U->Qb (Qa D×U)
 |[.l ys,w]=>ž (ys,w)
 |_=>Ž
theorem Yj{us:Qa U}{p:Qa D×U}(h:wk us=ž p):us=[.l p.1,p.2]:=by
 unfold wk at h;split at h
 .cases h;rfl
 .cases h
def sP(c:Str)(i:Nat)(f:Str)(j:Nat)(F:FD):ME:=λρ=>(lY c i f ρ).bind λxs=>(ρ[j]?).join.bind λu=>if i=j then Ž else(F [.l xs,u]).bind λo=>(wk o.2).bind λp=>(ρ[i]?).join.bind λw=>ž (.u o.1,(ρ.set i<|some<|w.aM f<|.l p.1).set j<|some p.2)
theorem KP{X:Cx}{pos:Pos}(he:Wr (PE X e ta))(hb:Ť e f X.env (ŀ e X.env)=ŀ e X.env:=by rfl):Wr (PE X (.Attribute e f pos)<|wC X.K ta f):=⟨Le he.run hb⟩
section
theorem S7{F:FD}(hc:∀C,XN K c C->eY K C/\gy K C f):VE K (CG K<|Am (mW K 2 F)<|kl (wC K (eE i) f)<|kl (eE j) kg) (sP c i f j F):=by
 intro ρ σ H ar au Q r e q;have(xs,e0,e'):=bQ e;clear e;have(u,eu,e):=bQ e';clear e';split at e
 .cases e
 rename_i CQ;obtain⟨⟨ru,outs⟩,ef,e'⟩:=bQ e;clear e;obtain⟨⟨ys,u2⟩,eo,e⟩:=bQ e';clear e';have(w,ew,e'):=bQ e;clear e;cases e';cases Yj eo;clear eo;have(fs,a,C,dx,vs,ps,b,us,ei,t,kv):=BA r e0;cases(jO ew).symm.trans ei;have ej:=jO eu;have(vj,rW,pj):=r.rep j u ej;have ba:b≠a:=t.op.pa _ t.mem;have bm:b∈ps.map (·.1):=À.mpr ⟨_,t.mem,rfl⟩;have ye:=t.op.bC;have ud:∀{k:Nat} {y:U} {z:Qg},ρ[k]?=ž (ž y)->y.own=ż->k≠i->σ[k]?=ž (ž<|.ref z)->z≠a/\z∉ps.map (·.1):=λ{k y z} ek oy nk es=>by
  refine⟨λq=>nk<|r.apart k i y _ ek ei oy rfl (by rw[es,t.st,q]),λq=>?_⟩;have(p,hp,ep):=À.mp q;have(c0,t9,m):=r.ow ⟨k,y,ek,oy,es⟩;have:=t.op.own p hp;rw[ep,t9]at this;cases this;exact m
 have Q1:Kq H (bC H a C dx vs ps):=⟨ye.tup,λb o u _ h=>ye.aQ b o u h⟩;have QD:∀{z y:Qg},y≠a->H z=ž (.own y)->bC H a C dx vs ps z=ž (.own y):=λ{z y} ny h=>by
  rw[lH (λq=>?_) λq=>?_]
  .exact h
  .have(p,hp,ep):=À.mp q
   have:=t.op.own p hp;rw[ep,h]at this;cases this;exact ny rfl
  .rw[q,t.op.at_]at h
   exact(F4 (C:=C) (dx:=dx) (vs:=vs) t.op.ne).1 _<|qy h
 have pj1:Rp K (bC H a C dx vs ps) vj u:=pj.kq Q1 λou z c0 ez hz=>by
  subst ez;have(n1,n2):=ud ej ou (ī CQ) rW;refine⟨by rw[lH n2 n1];exact hz,λy hy=>QD n1 hy⟩
 have tG:Rs K (sm [.l xs,u]) (d0 [.ref b,vj]) (bC H a C dx vs ps):=by
  refine⟨rfl,λk y ek=>?_,λk l y y' ek el oy yg es=>?_⟩
  .match k,ek with
   |0,ek=>cases ek;exact⟨_,rfl,b,us,rfl,t.at,kv.kq Q1⟩
   |1,ek=>cases ek;exact⟨_,rfl,pj1⟩
  .have nb:∀y:U,y=u->y.own=ż->vj≠.ref b:=λy ey oy q=>by
    subst ey;exact(ud ej oy (ī CQ) (by rw[rW,q])).2 bm
   match k,l,ek,el,es with
   |0,0,_,_,_=>rfl
   |1,1,_,_,_=>rfl
   |0,1,_,el,es=>cases el;cases es;exact absurd rfl<|nb _ rfl yg
   |1,0,ek,_,es=>cases ek;cases es;exact absurd rfl<|nb _ rfl oy
 refine⟨_,ye,.ref a,t.st,a,C,dx,vs,.ref b,rfl,mJ,(hc C t.xn).1,(hc C t.xn).2,t.vl,vj,rW,[.l xs,u],ru,[.l ys,u2],rfl,tG,ef,λv H2 g2 p n=>?_⟩;have yr:=g2.kp tG;have(v0,eB,p0):=g2.rs.rep 0 (.l ys) rfl;cases eB;have(b',kE,Ds,hb2,ds2):=p0;cases Ds;have(v1,ev1,p1):=g2.rs.rep 1 u2 rfl;cases ev1;have nw:∀{z:Qg},z≠b->(u.own=ż->vj≠.ref z)->¬Ow (sm [.l xs,u]) (d0 [.ref b,vj]) z:=λ{z} n1 n2 q=>by
  have(k,y,ek,oy,es):=q
  match k,ek,es with
  |0,_,es=>cases es;exact n1 rfl
  |1,ek,es=>cases ek;cases es;exact n2 oy rfl
 have QM:∀{z:Qg},z=a\/z∈ps.map (·.1)->u.own=ż->vj≠.ref z:=λ{z} hz ou q=>by
  have(n1,n2):=ud ej ou (ī CQ) (by rw[rW,q]);exact hz.elim n1 n2
 have IS:H2 a=ž (.ins C dx vs):=g2.fr a _ mJ (nw (ī ba)<|QM<|.inl rfl);have vI:∀q∈aM ps b (.lst kE),H2 q.1=ž q.2/\q.2.flat=ż:=λq hq=>by
  have(z,hz,rfl):=À.mp hq
  by_cases cz:z.1=b
  .rw[a4b cz]
   exact⟨hb2,rfl⟩
  .rw[a4c cz]
   exact⟨g2.fr z.1 _ (mF t.op.nd hz<|t.op.pa z hz)<|nw cz<|QM<|.inr<|À.mpr ⟨z,hz,rfl⟩,t.op.flat z hz⟩
 have pa2:∀q∈aM ps b (.lst kE),q.1≠a:=λq hq=>by
  have hk:q.1∈ps.map (·.1):=by rw[<-mR (b:=b) (p:=.lst kE)];exact À.mpr ⟨q,hq,rfl⟩
  have(z,hz,ez):=À.mp hk;rw[<-ez];exact t.op.pa z hz
 have oC:Re K H2 (ft H2 a C dx vs<|aM ps b<|.lst kE):=xm IS pa2 vI;have km:(aM ps b<|.lst kE).map (·.1)=ps.map (·.1):=mR;generalize IT:ft H2 a C dx vs (aM ps b<|.lst kE)=H3 at oC;have RL:H3 a=ž (eL C dx vs<|aM ps b<|.lst kE):=by rw[<-IT];exact s9
 have tK:∀{z:Qg},z∈ps.map (·.1)->H3 z=ž (.own a):=λ{z} hz=>by
  have(y,hy,ey):=À.mp hz;rw[<-IT];exact rq (by rw[km];exact hz) (by rw[<-ey];exact t.op.pa y hy)
 have iN:∀{z:Qg},z≠a->z∉ps.map (·.1)->H3 z=H2 z:=λ{z} n1 n2=>by
  rw[<-IT];exact om (by rw[km];exact n2) n1
 have Q0:Kq H2 H3:=⟨oC.tup,λb o u _ h=>oC.aQ b o u h⟩;have QZ:Kq H H3:=⟨λb xs h=>oC.tup b xs<|yr.tup b xs<|ye.tup b xs h,λb o u _ h=>oC.aQ b o u<|yr.aQ b o u<|ye.aQ b o u h⟩;have HD:∀{z y:Qg},y≠a->H z=ž (.own y)->H3 z=ž (.own y):=λ{z y} ny h=>by
  have h1:=QD ny h;have h2:=yr.own _ _ h1;rw[iN (λq=>?_) λq=>?_]
  .exact h2
  .rw[q,IS]at h2
   cases h2
  .have(p,hp,ep):=À.mp q
   have:=mF (H:=H) (C:=C) (dx:=dx) (vs:=vs) t.op.nd hp (t.op.pa p hp);rw[ep,h1]at this;exact(Ly<|t.op.flat p hp).1 _ (qy this).symm
 have cx:∀{z:Qg} {ob:HO},H z=ž ob->z≠a->z∉ps.map (·.1)->(u.own=ż->vj≠.ref z)->H3 z=ž ob:=λ{z ob} hz n1 n2 n3=>by
  rw[iN n1 n2];refine g2.fr z ob (by rw[lH n2 n1];exact hz)<|nw (λq=>n2<|q▸bm) n3
 have li:i < ρ.length:=(qm.mp ei).1;have lj:j < ρ.length:=(qm.mp ej).1;have inv:∀{k:Nat} {y:U},((ρ.set i<|some<|U.aM f (.l ys)<|.o c fs).set j<|some u2)[k]?=ž (ž y)->(k=j/\y=u2)\/(k=i/\y=.o c (i5 fs f<|.l ys))\/(k≠i/\k≠j/\ρ[k]?=ž (ž y)):=λ{k y} ek=>by
  by_cases h1:j=k
  .subst h1
   rw[ĝ (by rw[ĕ];exact lj)]at ek;cases ek;exact .inl ⟨rfl,rfl⟩
  .rw[qD h1]at ek
   by_cases h2:i=k
   .subst h2
    rw[ĝ li]at ek;cases ek;exact .inr<|.inl ⟨rfl,rfl⟩
   .rw[qD h2]at ek
    exact .inr<|.inr ⟨ī h2,ī h1,ek⟩
 have Qt:u2.own=ż->u.own=ż:=λo2=>by
  have(y,ey,oy):=g2.shr.own 1 u2 rfl o2;cases ey;exact oy
 have old:∀{k:Nat} {y:U},((ρ.set i<|some<|U.aM f (.l ys)<|.o c fs).set j<|some u2)[k]?=ž (ž y)->y.own=ż->∃x,ρ[k]?=ž (ž x)/\x.own=ż:=λ{k y} ek oy=>by
  rcases inv ek with⟨rfl,rfl⟩|⟨rfl,rfl⟩|⟨_,_,ek⟩
  .exact⟨u,ej,Qt oy⟩
  .exact⟨_,ei,rfl⟩
  .exact⟨y,ek,oy⟩
 have up:∀{v:V} {y:U},Rp K H2 v y->(y.own=ż->∀z,v=.ref z->z≠a/\z∉ps.map (·.1))->Rp K H3 v y:=λ{v y} p ud=>p.kq Q0 λoy z c0 ez hz=>by
  have(n1,n2):=ud oy z ez;refine⟨by rw[iN n1 n2];exact hz,λx hx=>?_⟩
  by_cases m1:x=a
  .rw[m1,IS]at hx
   cases hx
  .by_cases m2:x∈ps.map (·.1)
   .rw[<-km]at m2
    have(p,hp,ep):=À.mp m2;have(q1,q2):=vI p hp;rw[ep,hx]at q1;exact absurd (qy q1).symm<|(Ly q2).1 _
   .rw[iN m1 m2]
    exact hx
 have pp3:PP K H3 (.lst kE) (.l ys):=ds2.kq Q0;refine⟨H3,oC,q v H3 ⟨⟨by rw[ĕ,ĕ];exact r.len,λk y ek=>?_,λk l x y ek el ox oy es=>?_⟩,λz ob hz nz=>?_,⟨by rw[ĕ,ĕ],λk y ek oy=>old ek oy,λk y ek=>?_⟩,λz hz=>?_⟩ ⟨up p λo z ez=>?_,λo=>?_⟩⟩
 .rcases inv ek with⟨rfl,rfl⟩|⟨rfl,rfl⟩|⟨n1,n2,ek⟩
  .exact⟨vj,rW,up p1 λo z ez=>ud ej (Qt o) (ī CQ) (by rw[rW,ez])⟩
  .refine⟨_,t.st,a,C,dx,vs,aM ps b<|.lst kE,rfl,RL,λz=>?_,t.xn,by rw[km];exact t.op.nd,(t.fo.kq QZ).put pp3 t.op.nd t.vl t.fl rfl,by rw[km];exact t.op.oP,λz hz=>tK (by rw[<-km];exact À.mpr ⟨z,hz,rfl⟩)⟩
   have:=congrArg a1t z;unfold aM at this;rw[ĉ]at this;exact t.op.ne<|ä.mp this
  .have(x,ex,px):=r.rep k y ek
   refine⟨x,ex,px.kq QZ λoy z c0 ez hz=>?_⟩;subst ez;have(m1,m2):=ud ek oy n1 ex;refine⟨cx hz m1 m2 λou ev=>n2<|r.apart k j y u ek ej oy ou (by rw[ex,rW,ev]),λx hx=>HD m1 hx⟩
 .have(x',ex,HB):=old ek ox
  have(y',ey,yg):=old el oy;exact r.apart k l x' y' ex ey HB yg es
 .have n1:z≠a:=λq=>nz ⟨i,_,ei,rfl,by rw[t.st,q]⟩
  by_cases n2:z∈ps.map (·.1)
  .have(p,hp,ep):=À.mp n2
   have:=t.op.own p hp;rw[ep,hz]at this;rw[this];exact tK n2
  .exact cx hz n1 n2 λou ev=>nz ⟨j,u,ej,ou,by rw[rW,ev]⟩
 .by_cases h1:k=j
  .subst h1
   exact⟨_,Û (by rw[ĕ];exact lj)⟩
  .rw[qD<|ī h1]
   by_cases h2:k=i
   .subst h2
    exact⟨_,Û li⟩
   .exact⟨y,by rw[qD<|ī h2];exact ek⟩
 .have n1:z≠a:=λq=>by rw[q,RL]at hz;cases hz
  have n2:z∉ps.map (·.1):=λq=>by rw[tK q]at hz;cases hz
  rw[iN n1 n2]at hz;have:=g2.dm z hz;rw[lH n2 n1]at this;exact this
 .have(z',Dp,hz):=n o
  rw[ez]at Dp;cases Dp;exact(t.op.aL hz).2
 .have(z',Dp,hz):=n o
  exact⟨z',Dp,(t.op.aL hz).1⟩
end
theorem Nq{F:FD}{ρ:En}{QE:Ar×En->Prop}:Wo (sP c i f j F ρ) QE=Wo (lY c i f ρ) (Co (λxs=>(ρ[j]?).join.bind λu=>if i=j then Ž else(F [.l xs,u]).bind λo=>(wk o.2).bind λp=>(ρ[i]?).join.bind λw=>ž (.u o.1,(ρ.set i<|some<|w.aM f<|.l p.1).set j<|some p.2)) ⟨0⟩ QE):=by
 unfold sP;rw[zt]
end Internal
namespace K36
open PySem Internal
noncomputable def top(i:Nat):ķ:=PySem.Challenge.pw_undivide_k36_how_many_nodes.main.body.getD i (.Pass ⟨0,0,0,0⟩)
noncomputable def wI(j:Nat):ķ->ķ
 |.ClassDef _ _ _ b _ _ _ _ _ _ _=>b.getD j default
 |s=>s
abbrev Pb:ķ:=wI 1 (top 14)
abbrev Py:ķ:=wI 2 (top 14)
abbrev Po:ķ:=wI 3 (top 14)
abbrev Pg:ķ:=wI 4 (top 14)
abbrev OO:ķ:=top 3
abbrev Ls:ķ:=top 4
abbrev KO:ķ:=top 5
abbrev KN:ķ:=top 6
abbrev Lr:ķ:=top 7
abbrev NX:ķ:=top 10
abbrev OD:ķ:=top 11
abbrev MB:ķ:=top 12
abbrev Mz:ķ:=top 15
abbrev OC:ķ:=top 16
abbrev N6:ķ:=top 17
abbrev NW:ķ:=top 18
abbrev O0:ķ:=top 19
abbrev OI:ķ:=top 20
abbrev My:ķ:=top 21
abbrev N5:ķ:=top 23
abbrev OH:ķ:=top 24
abbrev OA:ķ:=top 25
abbrev Pf:ķ:=top 26
abbrev OG:ķ:=top 27
abbrev Oz:ķ:=top 28
abbrev OZ:ķ:=top 29
abbrev Oy:ķ:=top 30
abbrev Ox:ķ:=top 31
abbrev OY:ķ:=top 32
abbrev Pa:ķ:=top 33
abbrev Ov:ķ:=top 34
abbrev Pr:ķ:=top 35
abbrev Pn:ķ:=top 36
abbrev Ou:ķ:=top 37
abbrev O9:ķ:=top 38
abbrev OX:ķ:=top 39
abbrev ON:ķ:=top 40
abbrev O8:ķ:=top 41
abbrev JR:ķ:=top 42
def PM:Qa (Str×Qa Str):=[]
abbrev Qn:Qa Str:=[]
abbrev Cd:ķ:=wI 0 (top 14)
section
def Bs(Z:Zs):Prop:=Bl Z.mg ["len", "tuple", "sorted", "abs", "range", "enumerate", "int", "max", "isinstance", "bool", "min"]/\XT Z.K PM Qn/\(∃G,Z.mg "MADE_WORDS"=ž (.ref G)/\wd Z.K G ["plus", "less", "times", "over"])/\(∃G,Z.mg "NOUGHT"=ž (.ref G)/\oU Z.K G [0,1])/\(∃G,Z.mg "ONE"=ž (.ref G)/\oU Z.K G [1,1])/\OB Z.K "Netting" ["nodes", "reached", "node_places"]/\qI Z.P Z.w Z.K Z.mg Z.base "Netting" [("nodes",.l []),("reached",.l []),("node_places",.x [])]
variable{Z:Zs}
def O7:MS:=(zr (aT (mB<|DR ż (zd 1) "Netting" 0 "node_places") (zr (EC "Netting" 0 "node_places" (zd 1)<|EA "Netting" 0 "nodes")
  (zr (cT<|AN "Netting" 0 "nodes"<|zd 1)
  (cT<|AN "Netting" 0 "reached"<|zd 2))) zS)
  (zW<|ED "Netting" 0 "node_places"<|zd 1))
def rF:FD:=bM 3 [0,1,2] O7
abbrev xT(Z:Zs):Prop:=Z.M "Netting" "node_of" 1 ["self", "node", "degree"] 3 rF
theorem zf6(B:Bs Z)(A:oS Z.K "Netting" "node_of" "Netting.node_of" Pb):xT Z :=
 by have(hB,_,_,_,_,aE,_):=B;exact Ag A ["self", "node", "degree"] λnd hr=>⟨_,(zo (pB<|zU (dS<|Yv aE.at zc) (zo (Th aE.at rl<|Tf aE.at)
 (zo (gW<|K8 aE.at rl)
 (gW<|K8 aE.at rl))) zO)
 (zL<|Ti aE.at rl)),
 (aB (pE<|bh (zpI hr ae<|nV ae) (aB (To hr (nV ae) ae<|bA (We cQ) Â<|af (nV ae) ze)
 (aB (gX<|Jy Å Ã Ä (Jz g8) (nV ae)<|af ae ze)
 (zA<|gX<|Jy Å Ã Ä (Jz g8) (nV ae)<|af ae ze))) zN)
 (zA<|zH<|Tp hr (nV ae) ae))⟩
def OM:MS:=(zr (sT (wF<|zd 1)<|nI 0 1<|zb (zd 1)<|zb (ah jC (zd 0)<|zd 1) zj)
  (zW<|zd 0))
def mQ:FD:=bM 2 [] OM
abbrev G9(Z:Zs):Prop:=Z.C "common_factor" 1 ["one", "other"] 2 mQ
theorem zg2(B:Bs Z)(A:cJ Z "common_factor" OO):G9 Z :=
 have hB:=B.1;cM A ["one", "other"] λnd hr=>⟨_,(zo (LV (Lk zc)<|sM<|za zc<|za (zh mG zc zc) zi)
 (zL zc)),
 (aB (L5 (J2 ae)<|zA<|sN<|af ae<|af (zM mH ae ae) ze)
 (zA<|zH ae))⟩
def Cc:MS:=(zW<|jo (mB<|bY (uq ["plus", "less", "times", "over"])<|ah zx (zd 0)<|mC<|.int 0) (tR Ay (zd 0) (nR<|mC<|.int 1) uY)<|aX zj)
def oA:FD:=bM 1 [0] Cc
abbrev GU(Z:Zs):Prop:=Z.C "parts_of" 1 ["row"] 1 oA
theorem zmL(B:Bs Z)(A:cJ Z "parts_of" NX):GU Z :=
 by obtain⟨hB,_,⟨bw,cA,bU⟩,_⟩:=B;exact cM A ["row"] λnd hr=>⟨_,(zL<|sE (zq<|zBu bU<|zh zk zc zg) (Az Uc zc (sX zg) Gf)<|bF zi),
 (zA<|zH<|sO (zv (SU _ rfl hr ["plus", "less", "times", "over"] (by decide +kernel)) (zn zp ae zf) (sQ (v:=.ref bw) rfl cA rfl) rfl) (BQ zCR ae (sU zf) FT)<|bG ze)⟩
def OW:MS:=(zr (zJ 2<|ah i6 (cC<|zb (mC<|.bool Ż) zj)<|aS (f1 bN)<|zb (zd 0) zj)
  (zr (dN (eT mq<|gR<|zd 1) (zy 3)<|aT (mB<|ah (dB ż) (zd 3)<|mC .none) (iW 2 (mC<|.bool ż)<|zd 3) zS)
  (zr (dN (A7<|zb (ah kf (aS (f1 bN)<|zb (zd 0) zj)<|mC<|.int 1)<|zb (bY e8<|mC<|.int 1)<|zb (bY e8<|mC<|.int 1) zj) (zy 4)<|aT (i4 (mB<|ah zP (zd 2)<|zd 4)<|mB<|ah (aZ Ż) (ah zx (ah zP (zd 0)<|zd 4)<|mC<|.int 0)<|mC<|.str "mix") (dN (eT iU<|ah zx (ah zP (zd 0)<|zd 4)<|mC<|.int 1) (fj 2<|zY (zy 5)<|zY (zy 6) gv)<|iW 2 (mC<|.bool ż)<|zd 6)<|aT (i4 (mB<|ah zP (zd 2)<|zd 4)<|mB<|ah (aZ Ż) (ah zx (ah zP (zd 0)<|zd 4)<|mC<|.int 0)<|mC<|.str "times") (zr (iW 2 (mC<|.bool ż)<|ah zx (ah zP (zd 0)<|zd 4)<|mC<|.int 1)
  (iW 2 (mC<|.bool ż)<|ah zx (ah zP (zd 0)<|zd 4)<|mC<|.int 2)) zS)
  (qX [0,1] 2))))
def tu:FD:=bM 7 [0,1] OW
abbrev OV(Z:Zs):Prop:=Z.C "needed_nodes" 1 ["nodes", "outs"] 2 tu
theorem zh3(B:Bs Z)(A:cJ Z "needed_nodes" O0):OV Z :=
 have hB:=B.1;cM A ["nodes", "outs", "needed", "out", "at", "f", "part"] λnd hr=>⟨_,(zo (zI<|zh Br (fq<|za e9 zi)<|bu cR<|za zc zi)
 (zo (gr (Gj<|nK zc) zE<|zU (zq<|zh xx zc jH) (lJ e9 zc) zO)
 (zo (gr (Md<|za (zh nY (bu cR<|za zc zi) zg)<|za (jD jM zg)<|za (jD jM zg) zi) zE<|zU (pC (dS<|zh zz zc zc)<|zq<|zh zZ (zh zk (zh zz zc zc) zg) zR) (gr (lD<|zh zk (zh zz zc zc) zg) (ko<|eG zE<|eG zE kr)<|lJ e9 zc)<|zU (pC (dS<|zh zz zc zc)<|zq<|zh zZ (zh zk (zh zz zc zc) zg) zR) (zo (lJ e9<|zh zk (zh zz zc zc) zg)
 (lJ e9<|zh zk (zh zz zc zc) zg)) zO)
 Fe))),
 (aB (zK<|zM Bo (eF<|af fi ze)<|bA cQ Â<|af ae ze)
 (aB (fJ (FR<|nL ae) zD<|zA<|bh (zv xB ae jI) (zA<|iu fi<|lG ae ae lI) zN)
 (aB (fJ (Ln<|af (zM n8 (bA cQ Â<|af ae ze) zf)<|af (jE jK zf)<|af (jE jK zf) ze) zD<|zA<|bh (fG<|pF (fK<|zn zG ae ae)<|rC<|zv cu (zn zp (zn zG ae ae) zf) zQ) (zA<|fJ (lF<|zn zp (zn zG ae ae) zf) (ku<|eJ zD<|eJ zD kz)<|zA<|iu fi<|lG ae ae lI)<|zA<|bh (fG<|pF (fK<|zn zG ae ae)<|rC<|zv cu (zn zp (zn zG ae ae) zf) zQ) (aB (iu fi<|lG ae (zn zp (zn zG ae ae) zf) lI)
 (zA<|iu fi<|lG ae (zn zp (zn zG ae ae) zf) lI)) zN)
 (zA<|zH ae))))⟩
def Ck:MS:=(zr (aT (mB<|ah (aZ Ż) (ah zx (zd 0)<|mC<|.int 0)<|mC<|.str "mix") (zW<|aX<|zb (mC<|.str "mix")<|zb (aS (f1 gx)<|zb (gQ (eT iU<|ah zx (zd 0)<|mC<|.int 1) 2 [1] (fj 2<|zY (zy 0)<|zY (zy 1) gv) iT<|aX<|zb (zd 0)<|zb (jF (zd 2)<|zd 1) zj) zj) zj) zS)
  (zr (aT (mB<|ah (aZ Ż) (ah zx (zd 0)<|mC<|.int 0)<|mC<|.str "times") (zW<|aX<|zb (mC<|.str "times")<|zb (jF (zd 1)<|ah zx (zd 0)<|mC<|.int 1)<|zb (jF (zd 1)<|ah zx (zd 0)<|mC<|.int 2) zj) zS)
  (zW<|zd 0)))
def mO:FD:=bM 2 [0,1] Ck
abbrev OF(Z:Zs):Prop:=Z.C "renumbered" 1 ["node", "places"] 2 mO
theorem zj8(B:Bs Z)(A:cJ Z "renumbered" OI):OF Z :=
 have hB:=B.1;cM A ["node", "places"] λnd hr=>⟨_,(zo (zU (zq<|zh zZ (zh zk zc zg) zR) (zL<|bF<|za zR<|za (bu pM<|za (sD (lD<|zh zk zc zg) (ko<|eG zE<|eG zE kr) uQ<|bF<|za zc<|za (uR zc zc) zi) zi) zi) zO)
 (zo (zU (zq<|zh zZ (zh zk zc zg) zR) (zL<|bF<|za zR<|za (uR zc<|zh zk zc zg)<|za (uR zc<|zh zk zc zg) zi) zO)
 (zL zc))),
 (aB (bh (zv cu (zn zp ae zf) zQ) (zA<|zH<|bG<|af zQ<|af (k8 pL Ç<|af (wG (lF<|zn zp ae zf) (ku<|eJ zD<|eJ zD kz) uU<|bG<|af ae<|af (uT hr ae ae) ze) ze) ze) zN)
 (aB (bh (zv cu (zn zp ae zf) zQ) (zA<|zH<|bG<|af zQ<|af (uT hr ae<|zn zp ae zf)<|af (uT hr ae<|zn zp ae zf) ze) zN)
 (zA<|zH ae)))⟩
def N4:MS:=(zr (zJ 2<|ah bO (ah ip (mC<|.int 7919)<|zd 1)<|mC<|.int 11)
  (zr (aT (mB<|ah lX (zd 1)<|aS (f1 bN)<|zb (zd 0) zj) (zJ 2<|ah zP (zd 0)<|zd 1)<|aT (mB<|ah qG (aS (f1 bN)<|zb (zd 0) zj)<|mC<|.int 0) (zJ 2<|ah bO (zd 2)<|ah ip (ah jC (ah zP (zd 0)<|ah jC (zd 1)<|aS (f1 bN)<|zb (zd 0) zj)<|mC<|.int 2147483629)<|mC<|.int 69623) zS)
  (zr (zJ 3<|ah bO (ah jC (ah bO (ah ip (ah jC (zd 2)<|mC<|.int 2147483629)<|mC<|.int 48271)<|ah ip (mC<|.int 40692)<|zd 1)<|mC<|.int 2147483629)<|mC<|.int 1)
  (zW<|cC<|zb (ah ip (zd 2)<|aS (f1 ph)<|zb (ah Dm (zd 2)<|ah AB (mC<|.int 10)<|mC<|.int 18) zj)<|zb (zd 3) zj))))
def B8:FD:=bM 4 [0,1] N4
abbrev N2(Z:Zs):Prop:=Z.C "_law_box" 1 ["_law_script", "_law_k"] 2 B8
theorem zlx(B:Bs Z)(A:cJ Z "_law_box" N5):N2 Z :=
 have hB:=B.1;cM A ["_law_script", "_law_k", "_law_cell", "_law_seed"] λnd hr=>⟨_,(zo (zI<|zh cD (zh lE zg zc) zg)
 (zo (pB<|zU (zq<|zh qY zc<|bu cR<|za zc zi) (zI<|zh zz zc zc)<|zU (zq<|zh w5 (bu cR<|za zc zi) zg) (zI<|zh cD zc<|zh lE (zh mG (zh zz zc<|zh mG zc<|bu cR<|za zc zi) zg) zg) zO)
 (zo (zI<|zh cD (zh mG (zh cD (zh lE (zh mG zc zg) zg)<|zh lE zg zc) zg) zg)
 (zL<|fq<|za (zh lE zc<|bu Gk<|za (zh JW zc<|zh Uj zg zg) zi)<|za zc zi)))),
 (aB (zK<|zM cE (zM lC zf ae) zf)
 (aB (pE<|bh (zv q9 ae<|bA cQ Â<|af ae ze) (zA<|zK<|zn zG ae ae)<|zA<|bh (zv wV (bA cQ Â<|af ae ze) zf) (zA<|zK<|zM cE ae<|zM lC (zM mH (zn zG ae<|zM mH ae<|bA cQ Â<|af ae ze) zf) zf) zN)
 (aB (zK<|zM cE (zM mH (zM cE (zM lC (zM mH ae zf) zf)<|zM lC zf ae) zf) zf)
 (zA<|zH<|eF<|af (zM lC ae<|k8 GQ ÿ<|af (w6 Ke ae<|zM TX zf zf) ze)<|af ae ze))))⟩
def OE:MS:=(zr (aT (mB<|ah qG (ah zP (zd 0)<|mC<|.int 0)<|mC<|.int 0) (zr (zJ 2<|ah jC (ah zP (zd 0)<|mC<|.int 0)<|zd 1)
  (zr (iW 0 (ah jG (ah zP (zd 0)<|mC<|.int 0)<|zd 1)<|mC<|.int 0)
  (zW<|zd 2))) zS)
  (zr (zJ 3<|ah jC (ah ip (ah zP (zd 0)<|mC<|.int 1)<|mC<|.int 69623)<|mC<|.int 2147483647)
  (zr (iW 0 (ah bO (ah jC (ah bO (ah ip (zd 3)<|mC<|.int 48271)<|mC<|.int 30103)<|mC<|.int 2147483629)<|mC<|.int 1)<|mC<|.int 1)
  (zW<|ah jC (ah jG (ah bO (ah ip (zd 3)<|mC<|.int 2147483647)<|ah zP (zd 0)<|mC<|.int 1)<|mC<|.int 8191)<|zd 1))))
def zm:FD:=bM 4 [0,1] OE
abbrev tm(Z:Zs):Prop:=Z.C "_law_take" 1 ["_law_box_here", "_law_wide"] 2 zm
theorem zj9(B:Bs Z)(A:cJ Z "_law_take" OH):tm Z :=
 have hB:=B.1;cM A ["_law_box_here", "_law_wide", "_law_digit", "_law_one"] λnd hr=>⟨_,(zo (zU (zq<|zh w5 (zh zz zc zg) zg) (zo (zI<|zh mG (zh zz zc zg) zc)
 (zo (lJ (zh mN (zh zz zc zg) zc) zg)
 (zL zc))) zO)
 (zo (zI<|zh mG (zh lE (zh zz zc zg) zg) zg)
 (zo (lJ (zh cD (zh mG (zh cD (zh lE zc zg) zg) zg) zg) zg)
 (zL<|zh mG (zh mN (zh cD (zh lE zc zg)<|zh zz zc zg) zg) zc)))),
 (aB (bh (zv wV (zn zG ae zf) zf) (aB (zK<|zM mH (zn zG ae zf) ae)
 (aB (iu (zM mL (zn zG ae zf) ae)<|lG ae zf lI)
 (zA<|zH ae))) zN)
 (aB (zK<|zM mH (zM lC (zn zG ae zf) zf) zf)
 (aB (iu (zM cE (zM mH (zM cE (zM lC ae zf) zf) zf) zf)<|lG ae zf lI)
 (zA<|zH<|zM mH (zM mL (zM cE (zM lC ae zf)<|zn zG ae zf) zf) ae))))⟩
def Pe:MS:=(zr (zJ 2<|aS (f1 qO)<|zb (zd 0) zj)
  (zr (zJ 3<|aS (f1 qO)<|zb (zd 1) zj)
  (zr (sT (mB<|ah (aZ ż) (zd 3)<|mC<|.int 0)<|nI 2 3<|zb (zd 3)<|zb (ah jC (zd 2)<|zd 3) zj)
  (zr (aT (mB<|ah lX (zd 1)<|mC<|.int 0) (zJ 2<|ah kf (mC<|.int 0)<|zd 2) zS)
  (zW<|aX<|zb (ah A0 (zd 0)<|zd 2)<|zb (ah A0 (zd 1)<|zd 2) zj)))))
def pN:FD:=bM 4 [0,1] Pe
abbrev vn(Z:Zs):Prop:=Z.C "_law_fraction" 1 ["_law_n", "_law_d"] 2 pN
theorem zgu(B:Bs Z)(A:cJ Z "_law_fraction" Pf):vn Z :=
 have hB:=B.1;cM A ["_law_n", "_law_d", "_law_one", "_law_two"] λnd hr=>⟨_,(zo (zI<|bu xu<|za zc zi)
 (zo (zI<|bu xu<|za zc zi)
 (zo (LV (zq<|zh nX zc zg)<|sM<|za zc<|za (zh mG zc zc) zi)
 (zo (pB<|zU (zq<|zh qY zc zg) (zI<|zh nY zg zc) zO)
 (zL<|bF<|za (zh LZ zc zc)<|za (zh LZ zc zc) zi))))),
 (aB (zK<|bA xH ñ<|af ae ze)
 (aB (zK<|bA xH ñ<|af ae ze)
 (aB (L5 (zv nU ae zf)<|zA<|sN<|af ae<|af (zM mH ae ae) ze)
 (aB (pE<|bh (zv q9 ae zf) (zA<|zK<|zM n8 zf ae) zN)
 (zA<|zH<|bG<|af (zM Nh ae ae)<|af (zM Nh ae ae) ze)))))⟩
def vp:MS:=(zr (aT (cZ (mB<|ah (aZ Ż) (ah zx (zd 0)<|mC<|.int 0)<|mC<|.str "number")<|mB<|ah (aZ Ż) (ah zx (zd 0)<|mC<|.int 0)<|mC<|.str "letter") (zW<|aX<|zb (mC<|.int 1)<|zb (mC<|.int 0) zj) zS)
  (zr (nJ (ah zP (zd 1)<|ah zx (zd 0)<|mC<|.int 1)<|fj 2<|zY (zy 2)<|zY (zy 3) gv)
  (zr (nJ (ah zP (zd 1)<|ah zx (zd 0)<|mC<|.int 2)<|fj 2<|zY (zy 4)<|zY (zy 5) gv)
  (zr (aT (mB<|ah (aZ Ż) (ah zx (zd 0)<|mC<|.int 0)<|mC<|.str "times") (zW<|aX<|zb (ah bO (zd 2)<|zd 4)<|zb (ah bO (zd 3)<|zd 5) zj) zS)
  (zr (aT (mB<|ah (aZ Ż) (ah zx (zd 0)<|mC<|.int 0)<|mC<|.str "over") (zW<|aX<|zb (ah bO (zd 2)<|zd 5)<|zb (ah bO (zd 3)<|zd 4) zj) zS)
  (zW<|aX<|zb (aS AZ<|zb (ah bO (zd 2)<|zd 5)<|zb (ah bO (zd 4)<|zd 3) zj)<|zb (ah bO (zd 3)<|zd 5) zj))))))
def mP:FD:=bM 6 [0,1] vp
abbrev OU(Z:Zs):Prop:=Z.C "_law_weight" 1 ["_law_row", "_law_heavy"] 2 mP
theorem zh4(B:Bs Z)(A:cJ Z "_law_weight" OY):OU Z :=
 have hB:=B.1;cM A ["_law_row", "_law_heavy", "_law_a", "_law_b", "_law_c", "_law_d"] λnd hr=>⟨_,(zo (zU (dY (zq<|zh zZ (zh zk zc zg) zR)<|zq<|zh zZ (zh zk zc zg) zR) (zL<|bF<|za zg<|za zg zi) zO)
 (zo (wY (zh zz zc<|zh zk zc zg)<|ko<|eG zE<|eG zE kr)
 (zo (wY (zh zz zc<|zh zk zc zg)<|ko<|eG zE<|eG zE kr)
 (zo (zU (zq<|zh zZ (zh zk zc zg) zR) (zL<|bF<|za (zh cD zc zc)<|za (zh cD zc zc) zi) zO)
 (zo (zU (zq<|zh zZ (zh zk zc zg) zR) (zL<|bF<|za (zh cD zc zc)<|za (zh cD zc zc) zi) zO)
 (zL<|bF<|za (bu Xz<|za (zh cD zc zc)<|za (zh cD zc zc) zi)<|za (zh cD zc zc) zi)))))),
 (aB (bh (fG<|dZ (zv cu (zn zp ae zf) zQ)<|jb<|zv cu (zn zp ae zf) zQ) (zA<|zH<|bG<|af zf<|af zf ze) zN)
 (aB (iu (zn zG ae<|zn zp ae zf)<|ku<|eJ zD<|eJ zD kz)
 (aB (iu (zn zG ae<|zn zp ae zf)<|ku<|eJ zD<|eJ zD kz)
 (aB (bh (zv cu (zn zp ae zf) zQ) (zA<|zH<|bG<|af (zM cE ae ae)<|af (zM cE ae ae) ze) zN)
 (aB (bh (zv cu (zn zp ae zf) zQ) (zA<|zH<|bG<|af (zM cE ae ae)<|af (zM cE ae ae) ze) zN)
 (zA<|zH<|bG<|af (bA (zo3 rfl) a1s<|af (zM cE ae ae)<|af (zM cE ae ae) ze)<|af (zM cE ae ae) ze))))))⟩
def Ot:MS:=(zW<|w4 (bY (i7 "int")<|zd 0)<|AY<|bY (i7 "bool")<|zd 0)
def ve:FD:=bM 1 [0] Ot
abbrev G4(Z:Zs):Prop:=Z.C "_law_whole" 1 ["_law_found"] 1 ve
theorem ziw(B:Bs Z)(A:cJ Z "_law_whole" Ov):G4 Z :=
 have hB:=B.1;cM A ["_law_found"] λnd hr=>⟨_,(zL<|Ll (nQ (T := "int") zc)<|Ug<|nQ (T := "bool") zc),
 (zA<|zH<|J3 (bA nS Ì<|af ae<|af (nZ (v:=.ty "int") ÿ rfl) ze)<|J4<|w_not<|bA nS Ì<|af ae<|af (nZ (v:=.ty "bool") PyProof.Rows.boot_bool rfl) ze)⟩
def G8:MS:=(zr (aT (mB<|ah (dB Ż) (zd 1)<|mC .none) (zW<|mC .none) zS)
  (zr (aT (mB<|bY (wu Ż [1,1])<|ah zx (zd 1)<|mC<|.int 0) (zW<|ah zx (zd 1)<|mC<|.int 1) zS)
  (zW<|lg "Netting" 0 "node_of" rF<|zb (aX<|zb (mC<|.str "mix")<|zb (aX<|zb (zd 1) zj) zj)<|zb (zd 2) zj)))
def tw:FD:=bM 3 [0,1,2] G8
abbrev Pd(Z:Zs):Prop:=Z.M "Netting" "out_of" 2 ["self", "piece", "degree"] 3 tw
theorem zgv(B:Bs Z)(A:oS Z.K "Netting" "out_of" "Netting.out_of" Pg)(c0:xT Z):Pd Z :=
 by obtain⟨hB,_,_,_,⟨ie,f9,dq⟩,_⟩:=B;exact Ag A ["self", "piece", "degree"] λnd hr=>⟨_,(zo (zU (zq<|zh Bw zc jH) (zL jH) zO)
 (zo (zU (zq<|Ka (neg:=Ż) dq<|zh zk zc zg) (zL<|zh zk zc zg) zO)
 (zL<|qU 3<|za (bF<|za zR<|za (bF<|za zc zi) zi)<|za zc zi))),
 (aB (bh (zv Bp ae jI) (zA<|zH jI) zN)
 (aB (bh (zv (Ff _ rfl hr) (zn zp ae zf)<|sQ (v:=.ref ie) rfl f9 rfl) (zA<|zH<|zn zp ae zf) zN)
 (zA<|zH<|rh c0 ae<|af (bG<|af zQ<|af (bG<|af ae ze) ze)<|af ae ze)))⟩
def LQ:MS:=(zr (zJ 3<|zF mQ<|zb (ah zx (zd 0)<|mC<|.int 1)<|zb (zd 2) zj)
  (zr (zJ 4<|ah bO (ah lq (ah zx (zd 0)<|mC<|.int 0)<|ah jG (zd 2)<|zd 3)<|ah lq (zd 1)<|ah jG (ah zx (zd 0)<|mC<|.int 1)<|zd 3)
  (zr (zJ 5<|zF mQ<|zb (aS (f1 qO)<|zb (zd 4) zj)<|zb (zd 3) zj)
  (zW<|aX<|zb (ah jG (zd 4)<|zd 5)<|zb (ah lq (ah jG (ah zx (zd 0)<|mC<|.int 1)<|zd 3)<|ah jG (zd 2)<|zd 5) zj))))
def xC:FD:=bM 6 [0,1,2] LQ
abbrev FP(Z:Zs):Prop:=Z.C "added" 2 ["one", "above", "beneath"] 3 xC
theorem WQ(B:Bs Z)(A:cJ Z "added" Ls)(c0:G9 Z):FP Z :=
 have hB:=B.1;cM A ["one", "above", "beneath", "factor", "total", "left"] λnd hr=>⟨_,(zo (zI<|zC 2<|za (zh zk zc zg)<|za zc zi)
 (zo (zI<|zh cD (zh n9 (zh zk zc zg)<|zh mN zc zc)<|zh n9 zc<|zh mN (zh zk zc zg) zc)
 (zo (zI<|zC 2<|za (bu xu<|za zc zi)<|za zc zi)
 (zL<|bF<|za (zh mN zc zc)<|za (zh n9 (zh mN (zh zk zc zg) zc)<|zh mN zc zc) zi)))),
 (aB (zK<|zB<|af (zn zp ae zf)<|af ae ze)
 (aB (zK<|zM cE (zM og (zn zp ae zf)<|zM mL ae ae)<|zM og ae<|zM mL (zn zp ae zf) ae)
 (aB (zK<|zB<|af (bA xH ñ<|af ae ze)<|af ae ze)
 (zA<|zH<|bG<|af (zM mL ae ae)<|af (zM og (zM mL (zn zp ae zf) ae)<|zM mL ae ae) ze))))⟩
def LP:MS:=(zr (zJ 2<|zF mQ<|zb (aS (f1 qO)<|zb (ah zx (zd 0)<|mC<|.int 0) zj)<|zb (ah zx (zd 1)<|mC<|.int 1) zj)
  (zr (zJ 3<|zF mQ<|zb (aS (f1 qO)<|zb (ah zx (zd 1)<|mC<|.int 0) zj)<|zb (ah zx (zd 0)<|mC<|.int 1) zj)
  (zW<|aX<|zb (ah lq (ah jG (ah zx (zd 0)<|mC<|.int 0)<|zd 2)<|ah jG (ah zx (zd 1)<|mC<|.int 0)<|zd 3)<|zb (ah lq (ah jG (ah zx (zd 0)<|mC<|.int 1)<|zd 3)<|ah jG (ah zx (zd 1)<|mC<|.int 1)<|zd 2) zj)))
def u4:FD:=bM 4 [0,1] LP
abbrev BF(Z:Zs):Prop:=Z.C "times" 2 ["one", "other"] 2 u4
theorem WO(B:Bs Z)(A:cJ Z "times" Lr)(c0:G9 Z):BF Z :=
 have hB:=B.1;cM A ["one", "other", "first", "second"] λnd hr=>⟨_,(zo (zI<|zC 2<|za (bu xu<|za (zh zk zc zg) zi)<|za (zh zk zc zg) zi)
 (zo (zI<|zC 2<|za (bu xu<|za (zh zk zc zg) zi)<|za (zh zk zc zg) zi)
 (zL<|bF<|za (zh n9 (zh mN (zh zk zc zg) zc)<|zh mN (zh zk zc zg) zc)<|za (zh n9 (zh mN (zh zk zc zg) zc)<|zh mN (zh zk zc zg) zc) zi))),
 (aB (zK<|zB<|af (bA xH ñ<|af (zn zp ae zf) ze)<|af (zn zp ae zf) ze)
 (aB (zK<|zB<|af (bA xH ñ<|af (zn zp ae zf) ze)<|af (zn zp ae zf) ze)
 (zA<|zH<|bG<|af (zM og (zM mL (zn zp ae zf) ae)<|zM mL (zn zp ae zf) ae)<|af (zM og (zM mL (zn zp ae zf) ae)<|zM mL (zn zp ae zf) ae) ze)))⟩
def Oq:MS:=(zr (zJ 1<|ah i6 (cC<|zb (mC<|.bool Ż) zj)<|aS (f1 bN)<|zb (zd 0) zj)
  (zr (iW 1 (mC<|.bool ż)<|bY e8<|mC<|.int 1)
  (zr (dN (A7<|zb (ah kf (aS (f1 bN)<|zb (zd 0) zj)<|mC<|.int 1)<|zb (bY e8<|mC<|.int 1)<|zb (bY e8<|mC<|.int 1) zj) (zy 2)<|aT (mB<|ah zP (zd 1)<|zd 2) (dN (eT iU<|zF oA<|zb (ah zx (zd 0)<|zd 2) zj) (zy 3)<|iW 1 (mC<|.bool ż)<|zd 3) zS)
  (qX [0] 1))))
def Cj:FD:=bM 4 [0] Oq
abbrev Oo(Z:Zs):Prop:=Z.C "needed_rows" 2 ["rows"] 1 Cj
theorem zix(B:Bs Z)(A:cJ Z "needed_rows" OD)(c0:GU Z):Oo Z :=
 have hB:=B.1;cM A ["rows", "needed", "at", "part"] λnd hr=>⟨_,(zo (zI<|zh Br (fq<|za e9 zi)<|bu cR<|za zc zi)
 (zo (lJ e9<|jD jM zg)
 (zo (gr (Md<|za (zh nY (bu cR<|za zc zi) zg)<|za (jD jM zg)<|za (jD jM zg) zi) zE<|zU (dS<|zh zz zc zc) (gr (lD<|zC 1<|za (zh zk zc zc) zi) zE<|lJ e9 zc) zO)
 Fe))),
 (aB (zK<|zM Bo (eF<|af fi ze)<|bA cQ Â<|af ae ze)
 (aB (iu fi<|lG ae (jE jK zf) lI)
 (aB (fJ (Ln<|af (zM n8 (bA cQ Â<|af ae ze) zf)<|af (jE jK zf)<|af (jE jK zf) ze) zD<|zA<|bh (fK<|zn zG ae ae) (zA<|fJ (lF<|zB<|af (zn zp ae ae) ze) zD<|zA<|iu fi<|lG ae ae lI) zN)
 (zA<|zH ae))))⟩
def Om:MS:=(zr (zJ 2<|mC<|.str "abcdefghijklmnopqrstuvwxyz")
  (zr (zJ 3<|gQ (lz<|zb (ah bO (mC<|.int 1)<|zF zm<|zb (zd 0)<|zb (mC<|.int 4) zj) zj) 1 [0,2] (zy 0) iT<|ah so (zd 2)<|zF zm<|zb (zd 1)<|zb (mC<|.int 26) zj)
  (zr (zJ 4<|zF zm<|zb (zd 0)<|zb (aS (f1 bN)<|zb (zd 3) zj) zj)
  (zr (zJ 5<|zF zm<|zb (zd 0)<|zb (mC<|.int 26) zj)
  (zr (zJ 6<|cC zj)
  (zr (dN (lz<|zb (zd 1) zj) (zy 7) (zr (zJ 8<|ah so (zd 2)<|ah jC (ah bO (zd 5)<|ah ip (mC<|.int 7)<|zd 7)<|mC<|.int 26)
  (zr (zJ 9<|ah pA (ah pA (CT xY uM (mC<|.str "")<|tR sC (zd 3) uY<|nR<|zd 4)<|zd 8)<|CT xY uM (mC<|.str "")<|tR sC (zd 3) (nR<|ah bO (zd 4)<|mC<|.int 1) uY)
  (zr (zJ 9<|ah pA (zd 9)<|ah xh (mC<|.str "q")<|zF zm<|zb (zd 0)<|zb (mC<|.int 2) zj)
  (zr (aT (cZ (mB<|ah (nC Ż) (zd 9)<|zd 6)<|mB<|ah (nC Ż) (zd 9)<|aX<|zb (mC<|.str "part")<|zb (mC<|.str "end")<|zb (mC<|.str "give")<|zb (mC<|.str "rounds")<|zb (mC<|.str "letters") zj) (zJ 9<|ah pA (mC<|.str "zz")<|ah so (zd 2)<|zd 7) zS)
  (cT<|cU 6<|zd 9))))))
  (zr (aT (mB<|ah (aZ Ż) (zF zm<|zb (zd 0)<|zb (mC<|.int 5) zj)<|mC<|.int 0) (zr (zJ 10<|ah zP (cC<|zb (mC<|.str "ends")<|zb (mC<|.str "pa")<|zb (mC<|.str "gives")<|zb (mC<|.str "giv")<|zb (mC<|.str "x")<|zb (mC<|.str "y")<|zb (mC<|.str "r")<|zb (mC<|.str "rk") zj)<|zF zm<|zb (zd 0)<|zb (mC<|.int 8) zj)
  (aT (mB<|ah (nC ż) (zd 10)<|zd 6) (iW 6 (zd 10)<|zF zm<|zb (zd 0)<|zb (zd 1) zj) zS)) zS)
  (zW<|aS (f1 gx)<|zb (zd 6) zj))))))))
def Ci:FD:=bM 11 [0,1] Om
abbrev Ol(Z:Zs):Prop:=Z.C "_law_names" 2 ["_law_box_here", "_law_many"] 2 Ci
theorem ziy(B:Bs Z)(A:cJ Z "_law_names" OA)(c0:tm Z):Ol Z :=
 have hB:=B.1;cM A ["_law_box_here", "_law_many", "_law_alphabet", "_law_signs", "_law_spot", "_law_first", "_law_found", "_law_k", "_law_one", "_law_name", "_law_odd"] λnd hr=>⟨_,(zo (zI zR)
 (zo (zI<|sD (sY<|za (zh cD zg<|zC 2<|za zc<|za zg zi) zi) zE uQ<|zh E8 zc<|zC 2<|za zc<|za zg zi)
 (zo (zI<|zC 2<|za zc<|za (bu cR<|za zc zi) zi)
 (zo (zI<|zC 2<|za zc<|za zg zi)
 (zo (zI<|fq zi)
 (zo (gr (sY<|za zc zi) zE (zo (zI<|zh E8 zc<|zh mG (zh cD zc<|zh lE zg zc) zg)
 (zo (zI<|zh BJ (zh BJ (PK KZ Mc zR<|Az Ge zc Gf<|sX zc) zc)<|PK KZ Mc zR<|Az Ge zc (sX<|zh cD zc zg) Gf)
 (zo (zI<|zh BJ zc<|zh Xk zR<|zC 2<|za zc<|za zg zi)
 (zo (pB<|zU (dY (zq<|zh (A5 Ż) zc zc)<|zq<|zh (A5 Ż) zc<|bF<|za zR<|za zR<|za zR<|za zR<|za zR zi) (zI<|zh BJ zR<|zh E8 zc zc) zO)
 (gW<|iC zc))))))
 (zo (pB<|zU (zq<|zh zZ (zC 2<|za zc<|za zg zi) zg) (zo (zI<|zh zz (fq<|za zR<|za zR<|za zR<|za zR<|za zR<|za zR<|za zR<|za zR zi)<|zC 2<|za zc<|za zg zi)
 (zU (zq<|zh (A5 ż) zc zc) (lJ zc<|zC 2<|za zc<|za zc zi) zO)) zO)
 (zL<|bu pM<|za zc zi)))))))),
 (aB (zK zQ)
 (aB (ET (tj<|af (zM cE zf<|zB<|af ae<|af zf ze) ze) zD uU<|zn FG ae<|zB<|af ae<|af zf ze)
 (aB (zK<|zB<|af ae<|af (bA cQ Â<|af ae ze) ze)
 (aB (zK<|zB<|af ae<|af zf ze)
 (aB (zK<|eF ze)
 (aB (fJ (tj<|af ae ze) zD (aB (zK<|zn FG ae<|zM mH (zM cE ae<|zM lC zf ae) zf)
 (aB (zK<|zM Ca (zM Ca (gU _ rfl a1X a2j a2h (L3 _ rfl) zQ<|af (BQ EU ae FT<|sU ae) ze) ae)<|gU _ rfl a1X a2j a2h (L3 _ rfl) zQ<|af (BQ EU ae (sU<|zM cE ae zf) FT) ze)
 (aB (zK<|zM Ca ae<|zM zme zQ<|zB<|af ae<|af zf ze)
 (aB (pE<|bh (fG<|dZ (zv P9 ae ae rfl)<|jb<|zv P9 ae (bG<|af zQ<|af zQ<|af zQ<|af zQ<|af zQ ze) rfl) (zA<|zK<|zM Ca zQ<|zn FG ae ae) zN)
 (zA<|gX<|gU _ rfl Å Ã Ä g8 ae<|af ae ze))))))
 (aB (pE<|bh (zv cu (zB<|af ae<|af zf ze) zf) (aB (zK<|zn zG (eF<|af zQ<|af zQ<|af zQ<|af zQ<|af zQ<|af zQ<|af zQ<|af zQ ze)<|zB<|af ae<|af zf ze)
 (zA<|bh (zv L6 ae ae rfl) (zA<|iu ae<|lG ae (zB<|af ae<|af ae ze) lI) zN)) zN)
 (zA<|zH<|k8 pL Ç<|af ae ze))))))))⟩
def NZ:MS:=(zW<|zF pN<|zb (ah bO (ah lq (ah zx (zd 0)<|mC<|.int 0)<|ah zx (zd 1)<|mC<|.int 1)<|ah lq (ah zx (zd 1)<|mC<|.int 0)<|ah zx (zd 0)<|mC<|.int 1)<|zb (ah lq (ah zx (zd 0)<|mC<|.int 1)<|ah zx (zd 1)<|mC<|.int 1) zj)
def vh:FD:=bM 2 [0,1] NZ
abbrev G7(Z:Zs):Prop:=Z.C "_law_plus" 2 ["_law_one", "_law_other"] 2 vh
theorem zkb(B:Bs Z)(A:cJ Z "_law_plus" OG)(c0:vn Z):G7 Z :=
 have hB:=B.1;cM A ["_law_one", "_law_other"] λnd hr=>⟨_,(zL<|zC 2<|za (zh cD (zh n9 (zh zk zc zg)<|zh zk zc zg)<|zh n9 (zh zk zc zg)<|zh zk zc zg)<|za (zh n9 (zh zk zc zg)<|zh zk zc zg) zi),
 (zA<|zH<|zB<|af (zM cE (zM og (zn zp ae zf)<|zn zp ae zf)<|zM og (zn zp ae zf)<|zn zp ae zf)<|af (zM og (zn zp ae zf)<|zn zp ae zf) ze)⟩
def Oj:MS:=(zW<|zF pN<|zb (ah lq (ah zx (zd 0)<|mC<|.int 0)<|ah zx (zd 1)<|mC<|.int 0)<|zb (ah lq (ah zx (zd 0)<|mC<|.int 1)<|ah zx (zd 1)<|mC<|.int 1) zj)
def u9:FD:=bM 2 [0,1] Oj
abbrev G3(Z:Zs):Prop:=Z.C "_law_times" 2 ["_law_one", "_law_other"] 2 u9
theorem ziz(B:Bs Z)(A:cJ Z "_law_times" Oz)(c0:vn Z):G3 Z :=
 have hB:=B.1;cM A ["_law_one", "_law_other"] λnd hr=>⟨_,(zL<|zC 2<|za (zh n9 (zh zk zc zg)<|zh zk zc zg)<|za (zh n9 (zh zk zc zg)<|zh zk zc zg) zi),
 (zA<|zH<|zB<|af (zM og (zn zp ae zf)<|zn zp ae zf)<|af (zM og (zn zp ae zf)<|zn zp ae zf) ze)⟩
def OS:MS:=(zr (zJ 1<|zF zm<|zb (zd 0)<|zb (mC<|.int 12) zj)
  (zr (aT (mB<|ah lX (zd 1)<|mC<|.int 7) (zW<|ah zP (cC<|zb (aX<|zb (mC<|.int 0)<|zb (mC<|.int 1) zj)<|zb (aX<|zb (mC<|.int 1)<|zb (mC<|.int 1) zj)<|zb (aX<|zb (mC<|.int 1)<|zb (mC<|.int 1) zj)<|zb (aX<|zb (bY e8<|mC<|.int 1)<|zb (mC<|.int 1) zj)<|zb (aX<|zb (mC<|.int 2)<|zb (mC<|.int 1) zj)<|zb (aX<|zb (mC<|.int 1)<|zb (mC<|.int 2) zj)<|zb (aX<|zb (bY e8<|mC<|.int 2)<|zb (mC<|.int 3) zj) zj)<|zd 1) zS)
  (zr (aT (mB<|ah lX (zd 1)<|mC<|.int 11) (zW<|zF pN<|zb (ah kf (zF zm<|zb (zd 0)<|zb (mC<|.int 19) zj)<|mC<|.int 9)<|zb (ah bO (mC<|.int 1)<|zF zm<|zb (zd 0)<|zb (mC<|.int 4) zj) zj) zS)
  (zW<|zF pN<|zb (ah kf (zF zm<|zb (zd 0)<|zb (mC<|.int 1999999) zj)<|mC<|.int 999999)<|zb (ah bO (mC<|.int 1)<|zF zm<|zb (zd 0)<|zb (mC<|.int 4) zj) zj))))
def xP:FD:=bM 2 [0] OS
abbrev OR(Z:Zs):Prop:=Z.C "_law_number" 2 ["_law_box_here"] 1 xP
theorem zh5(B:Bs Z)(A:cJ Z "_law_number" OZ)(c0:tm Z)(c1:vn Z):OR Z :=
 have hB:=B.1;cM A ["_law_box_here", "_law_kind"] λnd hr=>⟨_,(zo (zI<|zC 2<|za zc<|za zg zi)
 (zo (zU (zq<|zh qY zc zg) (zL<|zh zz (fq<|za (bF<|za zg<|za zg zi)<|za (bF<|za zg<|za zg zi)<|za (bF<|za zg<|za zg zi)<|za (bF<|za (jD jM zg)<|za zg zi)<|za (bF<|za zg<|za zg zi)<|za (bF<|za zg<|za zg zi)<|za (bF<|za (jD jM zg)<|za zg zi) zi) zc) zO)
 (zo (zU (zq<|zh qY zc zg) (zL<|zC 2<|za (zh nY (zC 2<|za zc<|za zg zi) zg)<|za (zh cD zg<|zC 2<|za zc<|za zg zi) zi) zO)
 (zL<|zC 2<|za (zh nY (zC 2<|za zc<|za zg zi) zg)<|za (zh cD zg<|zC 2<|za zc<|za zg zi) zi)))),
 (aB (zK<|zB<|af ae<|af zf ze)
 (aB (bh (zv q9 ae zf) (zA<|zH<|zn zG (eF<|af (bG<|af zf<|af zf ze)<|af (bG<|af zf<|af zf ze)<|af (bG<|af zf<|af zf ze)<|af (bG<|af (jE jK zf)<|af zf ze)<|af (bG<|af zf<|af zf ze)<|af (bG<|af zf<|af zf ze)<|af (bG<|af (jE jK zf)<|af zf ze) ze) ae) zN)
 (aB (bh (zv q9 ae zf) (zA<|zH<|zB<|af (zM n8 (zB<|af ae<|af zf ze) zf)<|af (zM cE zf<|zB<|af ae<|af zf ze) ze) zN)
 (zA<|zH<|zB<|af (zM n8 (zB<|af ae<|af zf ze) zf)<|af (zM cE zf<|zB<|af ae<|af zf ze) ze))))⟩
def Oi:MS:=(zW<|zF pN<|zb (ah kf (zF zm<|zb (zd 0)<|zb (mC<|.int 11) zj)<|mC<|.int 5)<|zb (ah bO (mC<|.int 1)<|zF zm<|zb (zd 0)<|zb (mC<|.int 3) zj) zj)
def Cg:FD:=bM 1 [0] Oi
abbrev Oh(Z:Zs):Prop:=Z.C "_law_small" 2 ["_law_box_here"] 1 Cg
theorem ziA(B:Bs Z)(A:cJ Z "_law_small" Oy)(c0:tm Z)(c1:vn Z):Oh Z :=
 have hB:=B.1;cM A ["_law_box_here"] λnd hr=>⟨_,(zL<|zC 2<|za (zh nY (zC 2<|za zc<|za zg zi) zg)<|za (zh cD zg<|zC 2<|za zc<|za zg zi) zi),
 (zA<|zH<|zB<|af (zM n8 (zB<|af ae<|af zf ze) zf)<|af (zM cE zf<|zB<|af ae<|af zf ze) ze)⟩
def Pl:MS:=(zr (aT (cZ (gB<|mB<|bY (i7 "tuple")<|zd 0)<|cZ (mB<|ah (aZ ż) (aS (f1 bN)<|zb (zd 0) zj)<|mC<|.int 2)<|cZ (gB<|mB<|zF ve<|zb (ah zx (zd 0)<|mC<|.int 0) zj)<|cZ (gB<|mB<|zF ve<|zb (ah zx (zd 0)<|mC<|.int 1) zj)<|mB<|ah lX (ah zx (zd 0)<|mC<|.int 1)<|mC<|.int 1) (zW<|mC<|.bool Ż) zS)
  (zW<|ah (iV Ż) (zF pN<|zb (ah zx (zd 0)<|mC<|.int 0)<|zb (ah zx (zd 0)<|mC<|.int 1) zj)<|zd 0))
def xR:FD:=bM 1 [0] Pl
abbrev Hb(Z:Zs):Prop:=Z.C "_law_good_fraction" 2 ["_law_f"] 1 xR
theorem zen(B:Bs Z)(A:cJ Z "_law_good_fraction" Pn)(c0:vn Z)(c1:G4 Z):Hb Z :=
 have hB:=B.1;cM A ["_law_f"] λnd hr=>⟨_,(zo (zU (dY (iw<|dS<|nQ (T := "tuple") zc)<|dY (zq<|zh nX (bu cR<|za zc zi) zg)<|dY (iw<|dS<|zC 1<|za (zh zk zc zg) zi)<|dY (iw<|dS<|zC 1<|za (zh zk zc zg) zi)<|zq<|zh qY (zh zk zc zg) zg) (zL e9) zO)
 (zL<|zh (xv Ż) (zC 2<|za (zh zk zc zg)<|za (zh zk zc zg) zi) zc)),
 (aB (bh (fG<|dZ (ix<|fK<|bA nS Ì<|af ae<|af (nZ (v:=.ty "tuple") Ç rfl) ze)<|dZ (zv nU (bA cQ Â<|af ae ze) zf)<|dZ (ix<|fK<|zB<|af (zn zp ae zf) ze)<|dZ (ix<|fK<|zB<|af (zn zp ae zf) ze)<|jb<|zv q9 (zn zp ae zf) zf) (zA<|zH fi) zN)
 (zA<|zH<|w6 (Ff _ rfl hr) (zB<|af (zn zp ae zf)<|af (zn zp ae zf) ze) ae))⟩
def Og:MS:=(zW<|w4 (zF ve<|zb (zd 0) zj)<|Bu Dl lX (mC<|.int 0) (zd 0)<|zd 1)
def rG:FD:=bM 2 [0,1] Og
abbrev G0(Z:Zs):Prop:=Z.C "_law_below" 2 ["_law_n", "_law_most"] 2 rG
theorem ziB(B:Bs Z)(A:cJ Z "_law_below" Ou)(c0:G4 Z):G0 Z :=
 have hB:=B.1;cM A ["_law_n", "_law_most"] λnd hr=>⟨_,(zL<|Ll (zC 1<|za zc zi)<|Xl JX qY zg zc zc),
 (zA<|zH<|J3 (zB<|af ae ze)<|J4<|W2 Kf q9 zf ae ae)⟩
def Px:MS:=(zr (nI 3 4<|zb (ah zx (zd 1)<|mC<|.int 1)<|zb (ah zx (zd 2)<|mC<|.int 1) zj)
  (zr (aT (mB<|ah (A6 HT.bp) (aX<|zb (uC "Netting" 0 "reached"<|zd 3)<|zb (zd 3) zj)<|aX<|zb (uC "Netting" 0 "reached"<|zd 4)<|zb (zd 4) zj) (nI 3 4<|zb (zd 4)<|zb (zd 3) zj) zS)
  (zr (zJ 5<|ah bO (uC "Netting" 0 "reached"<|zd 3)<|uC "Netting" 0 "reached"<|zd 4)
  (zW<|aX<|zb (zF u4<|zb (ah zx (zd 1)<|mC<|.int 0)<|zb (ah zx (zd 2)<|mC<|.int 0) zj)<|zb (lg "Netting" 0 "node_of" rF<|zb (aX<|zb (mC<|.str "times")<|zb (zd 3)<|zb (zd 4) zj)<|zb (zd 5) zj) zj))))
def Cy:FD:=bM 6 [0,1,2] Px
abbrev Pw(Z:Zs):Prop:=Z.M "Netting" "product_piece" 3 ["self", "one", "other"] 3 Cy
theorem zdM(B:Bs Z)(A:oS Z.K "Netting" "product_piece" "Netting.product_piece" Py)(c0:BF Z)(c1:xT Z):Pw Z :=
 by have(hB,_,_,_,_,aE,_):=B;exact Ag A ["self", "one", "other", "first", "second", "both"] λnd hr=>⟨_,(zo (sM<|za (zh zk zc zg)<|za (zh zk zc zg) zi)
 (zo (pB<|zU (zq<|zh Wl (bF<|za (AK aE.at rl)<|za zc zi)<|bF<|za (AK aE.at rl)<|za zc zi) (sM<|za zc<|za zc zi) zO)
 (zo (zI<|zh cD (AK aE.at rl)<|AK aE.at rl)
 (zL<|bF<|za (zC 2<|za (zh zk zc zg)<|za (zh zk zc zg) zi)<|za (qU 3<|za (bF<|za zR<|za zc<|za zc zi)<|za zc zi) zi)))),
 (aB (sN<|af (zn zp ae zf)<|af (zn zp ae zf) ze)
 (aB (pE<|bh (zv (V5 _ rfl hr) (bG<|af (zn (AL zG) (nV ae) ae)<|af ae ze)<|bG<|af (zn (AL zG) (nV ae) ae)<|af ae ze) (zA<|sN<|af ae<|af ae ze) zN)
 (aB (zK<|zM cE (zn (AL zG) (nV ae) ae)<|zn (AL zG) (nV ae) ae)
 (zA<|zH<|bG<|af (zB<|af (zn zp ae zf)<|af (zn zp ae zf) ze)<|af (rh c1 ae<|af (bG<|af zQ<|af ae<|af ae ze)<|af ae ze) ze))))⟩
def KL:MS:=(zW<|zF xC<|zb (zd 0)<|zb (ah zx (zd 1)<|mC<|.int 0)<|zb (ah zx (zd 1)<|mC<|.int 1) zj)
def xw:FD:=bM 2 [0,1] KL
abbrev Ft(Z:Zs):Prop:=Z.C "plus" 3 ["one", "other"] 2 xw
theorem S6(B:Bs Z)(A:cJ Z "plus" KO)(c0:FP Z):Ft Z :=
 have hB:=B.1;cM A ["one", "other"] λnd hr=>⟨_,(zL<|zC 3<|za zc<|za (zh zk zc zg)<|za (zh zk zc zg) zi),
 (zA<|zH<|zB<|af ae<|af (zn zp ae zf)<|af (zn zp ae zf) ze)⟩
def KJ:MS:=(zW<|zF xC<|zb (zd 0)<|zb (bY e8<|ah zx (zd 1)<|mC<|.int 0)<|zb (ah zx (zd 1)<|mC<|.int 1) zj)
def Bi:FD:=bM 2 [0,1] KJ
abbrev KI(Z:Zs):Prop:=Z.C "less" 3 ["one", "other"] 2 Bi
theorem S5(B:Bs Z)(A:cJ Z "less" KN)(c0:FP Z):KI Z :=
 have hB:=B.1;cM A ["one", "other"] λnd hr=>⟨_,(zL<|zC 3<|za zc<|za (jD jM<|zh zk zc zg)<|za (zh zk zc zg) zi),
 (zA<|zH<|zB<|af ae<|af (jE jK<|zn zp ae zf)<|af (zn zp ae zf) ze)⟩
def Mx:MS:=(zr (nJ (zd 0)<|fj 2<|zY (zy 1)<|zY (zy 2) gv)
  (zr (zJ 3<|zF Cj<|zb (zd 2) zj)
  (zr (zJ 4 pJ)
  (zr (zJ 5<|cC zj)
  (zr (dN (wZ<|zb (zd 2) zj) (fj 2<|zY (zy 6)<|zY (zy 7) gv)<|aT (mB<|ah zP (zd 3)<|zd 6) (zr (lx 4 (zd 6)<|aS (f1 bN)<|zb (zd 5) zj)
  (zr (zJ 8<|zF oA<|zb (zd 7) zj)
  (cT<|cU 5<|jo (wF<|zd 8) (aX<|zb (ah zx (zd 7)<|mC<|.int 0)<|zb (jF (zd 4)<|ah zx (zd 8)<|mC<|.int 0)<|zb (jF (zd 4)<|ah zx (zd 8)<|mC<|.int 1) zj)<|zd 7))) zS)
  (zW<|aX<|zb (zd 1)<|zb (aS (f1 gx)<|zb (zd 5) zj) zj))))))
def xN:FD:=bM 9 [0] Mx
abbrev Mw(Z:Zs):Prop:=Z.C "pruned" 3 ["reckoning"] 1 xN
theorem YD(B:Bs Z)(A:cJ Z "pruned" MB)(c0:GU Z)(c1:Oo Z):Mw Z :=
 have hB:=B.1;cM A ["reckoning", "letters", "rows", "needed", "places", "kept", "at", "row", "parts"] λnd hr=>⟨_,(zo (wY zc<|ko<|eG zE<|eG zE kr)
 (zo (zI<|zC 1<|za zc zi)
 (zo (zI Gg)
 (zo (zI<|fq zi)
 (zo (gr (LW<|za zc zi) (ko<|eG zE<|eG zE kr)<|zU (dS<|zh zz zc zc) (zo (Fb zc<|bu cR<|za zc zi)
 (zo (zI<|zC 1<|za zc zi)
 (gW<|iC<|sE (Lk zc) (bF<|za (zh zk zc zg)<|za (uR zc<|zh zk zc zg)<|za (uR zc<|zh zk zc zg) zi) zc))) zO)
 (zL<|bF<|za zc<|za (bu pM<|za zc zi) zi)))))),
 (aB (iu ae<|ku<|eJ zD<|eJ zD kz)
 (aB (zK<|zB<|af ae ze)
 (aB (zK FQ)
 (aB (zK<|eF ze)
 (aB (fJ (L1<|af ae ze) (ku<|eJ zD<|eJ zD kz)<|zA<|bh (fK<|zn zG ae ae) (aB (Fg hr ae ae<|bA cQ Â<|af ae ze)
 (aB (zK<|zB<|af ae ze)
 (zA<|gX<|gU _ rfl Å Ã Ä g8 ae<|af (sO (J2 ae) (bG<|af (zn zp ae zf)<|af (uT hr ae<|zn zp ae zf)<|af (uT hr ae<|zn zp ae zf) ze) ae) ze))) zN)
 (zA<|zH<|bG<|af ae<|af (k8 pL Ç<|af ae ze) ze))))))⟩
def GJ:MS:=(zW<|jo (mB<|ah (dB Ż) (zd 0)<|mC .none) (mC .none)<|aX<|zb (zF u4<|zb (ah zx (zd 0)<|mC<|.int 0)<|zb (zd 1) zj)<|zb (ah zx (zd 0)<|mC<|.int 1) zj)
def sZ:FD:=bM 2 [0,1] GJ
abbrev GI(Z:Zs):Prop:=Z.C "scaled" 3 ["piece", "f"] 2 sZ
theorem YC(B:Bs Z)(A:cJ Z "scaled" Mz)(c0:BF Z):GI Z :=
 have hB:=B.1;cM A ["piece", "f"] λnd hr=>⟨_,(zL<|sE (zq<|zh Bw zc jH) jH<|bF<|za (zC 2<|za (zh zk zc zg)<|za zc zi)<|za (zh zk zc zg) zi),
 (zA<|zH<|sO (zv Bp ae jI) jI<|bG<|af (zB<|af (zn zp ae zf)<|af ae ze)<|af (zn zp ae zf) ze)⟩
def Of:MS:=(zW<|aS (f1 gx)<|zb (gQ (lz<|zb (zd 1) zj) 1 [0] (zy 0) iT<|zF Cg<|zb (zd 1) zj) zj)
def Cf:FD:=bM 2 [0,1] Of
abbrev Oe(Z:Zs):Prop:=Z.C "_law_point" 3 ["_law_box_here", "_law_many"] 2 Cf
theorem ziC(B:Bs Z)(A:cJ Z "_law_point" Ox)(c0:Oh Z):Oe Z :=
 have hB:=B.1;cM A ["_law_box_here", "_law_many"] λnd hr=>⟨_,(zL<|bu pM<|za (sD (sY<|za zc zi) zE uQ<|zC 1<|za zc zi) zi),
 (zA<|zH<|k8 pL Ç<|af (wG (tj<|af ae ze) zD uU<|zB<|af ae ze) ze)⟩
def O6:MS:=(zr (zJ 4<|aS (f1 bN)<|zb (zd 1) zj)
  (zr (zJ 5<|ah zP (cC<|zb (mC<|.str "plus")<|zb (mC<|.str "less")<|zb (mC<|.str "times")<|zb (mC<|.str "times")<|zb (mC<|.str "over")<|zb (mC<|.str "over") zj)<|zF zm<|zb (zd 0)<|zb (mC<|.int 6) zj)
  (zr (aT (cZ (mB<|ah (aZ Ż) (zd 4)<|mC<|.int 0)<|mB<|ah lX (zF zm<|zb (zd 0)<|zb (mC<|.int 9) zj)<|mC<|.int 3) (zr (aT (mB<|ah (aZ Ż) (zF zm<|zb (zd 0)<|zb (mC<|.int 3) zj)<|mC<|.int 0) (zW<|aX<|zb (mC<|.str "number")<|zb (zF xP<|zb (zd 0) zj) zj) zS)
  (zW<|aX<|zb (mC<|.str "letter")<|zb (zF zm<|zb (zd 0)<|zb (zd 2) zj) zj)) zS)
  (zr (zJ 6<|ah zP (cC<|zb (ah kf (zd 4)<|mC<|.int 1)<|zb (zF zm<|zb (zd 0)<|zb (zd 4) zj) zj)<|zF zm<|zb (zd 0)<|zb (mC<|.int 2) zj)
  (zr (zJ 7<|zF zm<|zb (zd 0)<|zb (zd 4) zj)
  (zr (zJ 8<|gQ (lz<|zb (zd 4) zj) 1 [1] (zy 0) (mB<|ah (aZ Ż) (ah zx (ah zP (zd 1)<|zd 0)<|mC<|.int 0)<|mC<|.str "times")<|zd 0)
  (zr (aT (i4 (mB<|ah (aZ Ż) (zd 5)<|mC<|.str "over")<|i4 (mB<|ah (aZ Ż) (zd 3)<|mC<|.int 1)<|mB<|ah qG (aS (f1 bN)<|zb (zd 8) zj)<|mC<|.int 0) (zr (zJ 9<|ah zP (zd 8)<|zF zm<|zb (zd 0)<|zb (aS (f1 bN)<|zb (zd 8) zj) zj)
  (zW<|aX<|zb (mC<|.str "over")<|zb (zd 9)<|zb (ah zx (ah zP (zd 1)<|zd 9)<|ah bO (mC<|.int 1)<|zF zm<|zb (zd 0)<|zb (mC<|.int 2) zj) zj)) zS)
  (zr (aT (i4 (mB<|ah (aZ Ż) (zd 5)<|mC<|.str "over")<|mB<|ah lX (zd 3)<|mC<|.int 2) (zJ 5<|mC<|.str "times") zS)
  (zW<|aX<|zb (zd 5)<|zb (zd 6)<|zb (zd 7) zj)))))))))
def xS:FD:=bM 10 [0,1,2,3] O6
abbrev O5(Z:Zs):Prop:=Z.C "_law_drawn_row" 3 ["_law_box_here", "_law_rows", "_law_many", "_law_kind"] 4 xS
theorem zgb(B:Bs Z)(A:cJ Z "_law_drawn_row" Pa)(c0:tm Z)(c1:OR Z):O5 Z :=
 have hB:=B.1;cM A ["_law_box_here", "_law_rows", "_law_many", "_law_kind", "_law_k", "_law_word", "_law_i", "_law_j", "_law_some", "_law_n"] λnd hr=>⟨_,(zo (zI<|bu cR<|za zc zi)
 (zo (zI<|zh zz (fq<|za zR<|za zR<|za zR<|za zR<|za zR<|za zR zi)<|zC 2<|za zc<|za zg zi)
 (zo (zU (dY (zq<|zh zZ zc zg)<|zq<|zh qY (zC 2<|za zc<|za zg zi) zg) (zo (zU (zq<|zh zZ (zC 2<|za zc<|za zg zi) zg) (zL<|bF<|za zR<|za (zC 1<|za zc zi) zi) zO)
 (zL<|bF<|za zR<|za (zC 2<|za zc<|za zc zi) zi)) zO)
 (zo (zI<|zh zz (fq<|za (zh nY zc zg)<|za (zC 2<|za zc<|za zc zi) zi)<|zC 2<|za zc<|za zg zi)
 (zo (zI<|zC 2<|za zc<|za zc zi)
 (zo (zI<|sD (sY<|za zc zi) zE (zq<|zh zZ (zh zk (zh zz zc zc) zg) zR) zc)
 (zo (zU (pC (zq<|zh zZ zc zR)<|pC (zq<|zh zZ zc zg)<|zq<|zh w5 (bu cR<|za zc zi) zg) (zo (zI<|zh zz zc<|zC 2<|za zc<|za (bu cR<|za zc zi) zi)
 (zL<|bF<|za zR<|za zc<|za (zh zk (zh zz zc zc)<|zh cD zg<|zC 2<|za zc<|za zg zi) zi)) zO)
 (zo (pB<|zU (pC (zq<|zh zZ zc zR)<|zq<|zh qY zc zg) (zI zR) zO)
 (zL<|bF<|za zc<|za zc<|za zc zi))))))))),
 (aB (zK<|bA cQ Â<|af ae ze)
 (aB (zK<|zn zG (eF<|af zQ<|af zQ<|af zQ<|af zQ<|af zQ<|af zQ ze)<|zB<|af ae<|af zf ze)
 (aB (bh (fG<|dZ (zv cu ae zf)<|jb<|zv q9 (zB<|af ae<|af zf ze) zf) (aB (bh (zv cu (zB<|af ae<|af zf ze) zf) (zA<|zH<|bG<|af zQ<|af (zB<|af ae ze) ze) zN)
 (zA<|zH<|bG<|af zQ<|af (zB<|af ae<|af ae ze) ze)) zN)
 (aB (zK<|zn zG (eF<|af (zM n8 ae zf)<|af (zB<|af ae<|af ae ze) ze)<|zB<|af ae<|af zf ze)
 (aB (zK<|zB<|af ae<|af ae ze)
 (aB (ET (tj<|af ae ze) zD (Lo<|zv cu (zn zp (zn zG ae ae) zf) zQ) ae)
 (aB (bh (fG<|pF (zv cu ae zQ)<|pF (zv cu ae zf)<|rC<|zv wV (bA cQ Â<|af ae ze) zf) (aB (zK<|zn zG ae<|zB<|af ae<|af (bA cQ Â<|af ae ze) ze)
 (zA<|zH<|bG<|af zQ<|af ae<|af (zn zp (zn zG ae ae)<|zM cE zf<|zB<|af ae<|af zf ze) ze)) zN)
 (aB (pE<|bh (fG<|pF (zv cu ae zQ)<|rC<|zv q9 ae zf) (zA<|zK zQ) zN)
 (zA<|zH<|bG<|af ae<|af ae<|af ae ze)))))))))⟩
def Cq:MS:=(zr (aT (i4 (mB<|ah (aZ Ż) (aS (f1 bN)<|zb (zd 0) zj)<|mC<|.int 2)<|mB<|ah (aZ Ż) (ah zx (zd 0)<|mC<|.int 0)<|mC<|.str "letter") (zW<|zF rG<|zb (ah zx (zd 0)<|mC<|.int 1)<|zb (zd 1) zj) zS)
  (zr (aT (mB<|ah (aZ Ż) (aS (f1 bN)<|zb (zd 0) zj)<|mC<|.int 3) (zr (aT (cZ (mB<|ah (aZ ż) (ah zx (zd 0)<|mC<|.int 0)<|mC<|.str "times")<|cZ (gB<|mB<|zF rG<|zb (ah zx (zd 0)<|mC<|.int 1)<|zb (aS (f1 bN)<|zb (zd 2) zj) zj)<|gB<|mB<|zF rG<|zb (ah zx (zd 0)<|mC<|.int 2)<|zb (aS (f1 bN)<|zb (zd 2) zj) zj) (zW<|mC<|.bool Ż) zS)
  (zW<|ah Dm (ah zP (zd 2)<|ah zx (zd 0)<|mC<|.int 1)<|ah zP (zd 2)<|ah zx (zd 0)<|mC<|.int 2)) zS)
  (zr (aT (cZ (mB<|ah (aZ ż) (ah zx (zd 0)<|mC<|.int 0)<|mC<|.str "mix")<|cZ (gB<|mB<|bY (i7 "tuple")<|ah zx (zd 0)<|mC<|.int 1)<|mB<|ah (aZ Ż) (aS (f1 bN)<|zb (ah zx (zd 0)<|mC<|.int 1) zj)<|mC<|.int 0) (zW<|mC<|.bool Ż) zS)
  (zr (zJ 3<|bY e8<|mC<|.int 1)
  (zr (dN (eT iU<|ah zx (zd 0)<|mC<|.int 1) (zy 4) (zr (aT (cZ (gB<|mB<|bY (i7 "tuple")<|zd 4)<|cZ (mB<|ah (aZ ż) (aS (f1 bN)<|zb (zd 4) zj)<|mC<|.int 2)<|cZ (gB<|mB<|zF xR<|zb (ah zx (zd 4)<|mC<|.int 0) zj)<|mB<|ah (aZ Ż) (ah zx (ah zx (zd 4)<|mC<|.int 0)<|mC<|.int 0)<|mC<|.int 0) (zW<|mC<|.bool Ż) zS)
  (zr (aT (cZ (gB<|mB<|zF rG<|zb (ah zx (zd 4)<|mC<|.int 1)<|zb (aS (f1 bN)<|zb (zd 2) zj) zj)<|cZ (mB<|ah Dl (ah zx (zd 4)<|mC<|.int 1)<|zd 3)<|mB<|ah (aZ ż) (ah zP (zd 2)<|ah zx (zd 4)<|mC<|.int 1)<|ah zP (zd 2)<|ah zx (ah zx (ah zx (zd 0)<|mC<|.int 1)<|mC<|.int 0)<|mC<|.int 1) (zW<|mC<|.bool Ż) zS)
  (zJ 3<|ah zx (zd 4)<|mC<|.int 1))))
  (zW<|mC<|.bool ż))))))
def vo:FD:=bM 5 [0,1,2] Cq
abbrev O4(Z:Zs):Prop:=Z.C "_law_node_good" 3 ["_law_node", "_law_many", "_law_high"] 3 vo
theorem zgc(B:Bs Z)(A:cJ Z "_law_node_good" O9)(c0:Hb Z)(c1:G0 Z):O4 Z :=
 have hB:=B.1;cM A ["_law_node", "_law_many", "_law_high", "_law_last", "_law_pair"] λnd hr=>⟨_,(zo (zU (pC (zq<|zh zZ (bu cR<|za zc zi) zg)<|zq<|zh zZ (zh zk zc zg) zR) (zL<|zC 2<|za (zh zk zc zg)<|za zc zi) zO)
 (zo (zU (zq<|zh zZ (bu cR<|za zc zi) zg) (zo (zU (dY (zq<|zh nX (zh zk zc zg) zR)<|dY (iw<|dS<|zC 2<|za (zh zk zc zg)<|za (bu cR<|za zc zi) zi)<|iw<|dS<|zC 2<|za (zh zk zc zg)<|za (bu cR<|za zc zi) zi) (zL e9) zO)
 (zL<|zh JW (zh zz zc<|zh zk zc zg)<|zh zz zc<|zh zk zc zg)) zO)
 (zo (zU (dY (zq<|zh nX (zh zk zc zg) zR)<|dY (iw<|dS<|nQ (T := "tuple")<|zh zk zc zg)<|zq<|zh zZ (bu cR<|za (zh zk zc zg) zi) zg) (zL e9) zO)
 (zo (zI<|jD jM zg)
 (zo (gr (lD<|zh zk zc zg) zE (zo (zU (dY (iw<|dS<|nQ (T := "tuple") zc)<|dY (zq<|zh nX (bu cR<|za zc zi) zg)<|dY (iw<|dS<|zC 1<|za (zh zk zc zg) zi)<|zq<|zh zZ (zh zk (zh zk zc zg) zg) zg) (zL e9) zO)
 (zo (zU (dY (iw<|dS<|zC 2<|za (zh zk zc zg)<|za (bu cR<|za zc zi) zi)<|dY (zq<|zh JX (zh zk zc zg) zc)<|zq<|zh nX (zh zz zc<|zh zk zc zg)<|zh zz zc<|zh zk (zh zk (zh zk zc zg) zg) zg) (zL e9) zO)
 (zI<|zh zk zc zg))))
 (zL e9)))))),
 (aB (bh (fG<|pF (zv cu (bA cQ Â<|af ae ze) zf)<|rC<|zv cu (zn zp ae zf) zQ) (zA<|zH<|zB<|af (zn zp ae zf)<|af ae ze) zN)
 (aB (bh (zv cu (bA cQ Â<|af ae ze) zf) (aB (bh (fG<|dZ (zv nU (zn zp ae zf) zQ)<|dZ (ix<|fK<|zB<|af (zn zp ae zf)<|af (bA cQ Â<|af ae ze) ze)<|jb<|ix<|fK<|zB<|af (zn zp ae zf)<|af (bA cQ Â<|af ae ze) ze) (zA<|zH fi) zN)
 (zA<|zH<|w6 Ke (zn zG ae<|zn zp ae zf)<|zn zG ae<|zn zp ae zf)) zN)
 (aB (bh (fG<|dZ (zv nU (zn zp ae zf) zQ)<|dZ (ix<|fK<|bA nS Ì<|af (zn zp ae zf)<|af (nZ (v:=.ty "tuple") Ç rfl) ze)<|jb<|zv cu (bA cQ Â<|af (zn zp ae zf) ze) zf) (zA<|zH fi) zN)
 (aB (zK<|jE jK zf)
 (aB (fJ (lF<|zn zp ae zf) zD (aB (bh (fG<|dZ (ix<|fK<|bA nS Ì<|af ae<|af (nZ (v:=.ty "tuple") Ç rfl) ze)<|dZ (zv nU (bA cQ Â<|af ae ze) zf)<|dZ (ix<|fK<|zB<|af (zn zp ae zf) ze)<|jb<|zv cu (zn zp (zn zp ae zf) zf) zf) (zA<|zH fi) zN)
 (aB (bh (fG<|dZ (ix<|fK<|zB<|af (zn zp ae zf)<|af (bA cQ Â<|af ae ze) ze)<|dZ (zv Kf (zn zp ae zf) ae)<|jb<|zv nU (zn zG ae<|zn zp ae zf)<|zn zG ae<|zn zp (zn zp (zn zp ae zf) zf) zf) (zA<|zH fi) zN)
 (zA<|zK<|zn zp ae zf))))
 (zA<|zH fi))))))⟩
def OQ:MS:=(zr (zJ 2<|cC zj)
  (zr (dN (eT iU<|ah zx (zd 0)<|mC<|.int 1) (zy 3)<|aT (mB<|ah (aZ Ż) (ah zx (zd 3)<|mC<|.int 0)<|mC<|.str "letter") (cT<|cU 2<|ah zx (zd 1)<|ah zx (zd 3)<|mC<|.int 1)<|aT (mB<|ah (aZ Ż) (ah zx (zd 3)<|mC<|.int 0)<|mC<|.str "times") (cT<|cU 2<|zF u9<|zb (ah zP (zd 2)<|ah zx (zd 3)<|mC<|.int 1)<|zb (ah zP (zd 2)<|ah zx (zd 3)<|mC<|.int 2) zj) (zr (zJ 4<|aX<|zb (mC<|.int 0)<|zb (mC<|.int 1) zj)
  (zr (dN (eT iU<|ah zx (zd 3)<|mC<|.int 1) (fj 2<|zY (zy 5)<|zY (zy 6) gv)<|zJ 4<|zF vh<|zb (zd 4)<|zb (zF u9<|zb (zd 5)<|zb (ah zP (zd 2)<|zd 6) zj) zj)
  (cT<|cU 2<|zd 4))))
  (zr (zJ 7<|cC zj)
  (zr (dN (eT iU<|ah zx (ah zx (zd 0)<|mC<|.int 2)<|mC<|.int 1) (zy 8)<|aT (mB<|ah (dB Ż) (zd 8)<|mC .none) (cT<|cU 7<|aX<|zb (mC<|.int 0)<|zb (mC<|.int 1) zj)<|cT<|cU 7<|ah zP (zd 2)<|zd 8)
  (qX [0,1] 7)))))
def Cv:FD:=bM 9 [0,1] OQ
abbrev OP(Z:Zs):Prop:=Z.C "_law_values" 3 ["_law_net", "_law_point_here"] 2 Cv
theorem zh9(B:Bs Z)(A:cJ Z "_law_values" OX)(c0:G7 Z)(c1:G3 Z):OP Z :=
 have hB:=B.1;cM A ["_law_net", "_law_point_here", "_law_found", "_law_node", "_law_total", "_law_f", "_law_part", "_law_some", "_law_out"] λnd hr=>⟨_,(zo (zI<|fq zi)
 (zo (gr (lD<|zh zk zc zg) zE<|zU (zq<|zh zZ (zh zk zc zg) zR) (gW<|iC<|zh zk zc<|zh zk zc zg)<|zU (zq<|zh zZ (zh zk zc zg) zR) (gW<|iC<|zC 2<|za (zh zz zc<|zh zk zc zg)<|za (zh zz zc<|zh zk zc zg) zi) (zo (zI<|bF<|za zg<|za zg zi)
 (zo (gr (lD<|zh zk zc zg) (ko<|eG zE<|eG zE kr)<|zI<|zC 2<|za zc<|za (zC 2<|za zc<|za (zh zz zc zc) zi) zi)
 (gW<|iC zc))))
 (zo (zI<|fq zi)
 (zo (gr (lD<|zh zk (zh zk zc zg) zg) zE<|zU (zq<|zh Bw zc jH) (gW<|iC<|bF<|za zg<|za zg zi)<|gW<|iC<|zh zz zc zc)
 Fe)))),
 (aB (zK<|eF ze)
 (aB (fJ (lF<|zn zp ae zf) zD<|zA<|bh (zv cu (zn zp ae zf) zQ) (zA<|gX<|gU _ rfl Å Ã Ä g8 ae<|af (zn zp ae<|zn zp ae zf) ze)<|zA<|bh (zv cu (zn zp ae zf) zQ) (zA<|gX<|gU _ rfl Å Ã Ä g8 ae<|af (zB<|af (zn zG ae<|zn zp ae zf)<|af (zn zG ae<|zn zp ae zf) ze) ze) (aB (zK<|bG<|af zf<|af zf ze)
 (aB (fJ (lF<|zn zp ae zf) (ku<|eJ zD<|eJ zD kz)<|zA<|zK<|zB<|af ae<|af (zB<|af ae<|af (zn zG ae ae) ze) ze)
 (zA<|gX<|gU _ rfl Å Ã Ä g8 ae<|af ae ze))))
 (aB (zK<|eF ze)
 (aB (fJ (lF<|zn zp (zn zp ae zf) zf) zD<|zA<|bh (zv Bp ae jI) (zA<|gX<|gU _ rfl Å Ã Ä g8 ae<|af (bG<|af zf<|af zf ze) ze)<|zA<|gX<|gU _ rfl Å Ã Ä g8 ae<|af (zn zG ae ae) ze)
 (zA<|zH ae)))))⟩
def O3:MS:=(zr (zJ 3<|cC zj)
  (zr (dN (eT iU<|ah zx (zd 0)<|mC<|.int 1) (zy 4) (zr (zJ 5<|ah i6 (cC<|zb (aX<|zb (mC<|.int 0)<|zb (mC<|.int 1) zj) zj)<|ah bO (zd 2)<|mC<|.int 1)
  (zr (aT (mB<|ah (aZ Ż) (ah zx (zd 4)<|mC<|.int 0)<|mC<|.str "number") (iW 5 (ah zx (zd 4)<|mC<|.int 1)<|mC<|.int 0)<|aT (mB<|ah (aZ Ż) (ah zx (zd 4)<|mC<|.int 0)<|mC<|.str "letter") (Ae 5 (gR<|ah i6 (cC<|zb (ah zx (zd 1)<|ah zx (zd 4)<|mC<|.int 1) zj)<|aS A1<|zb (mC<|.int 1)<|zb (zd 2) zj) (nR<|mC<|.int 1)<|nR<|mC<|.int 2) (zr (nI 6 7<|zb (gR<|ah zP (zd 3)<|ah zx (zd 4)<|mC<|.int 1)<|zb (gR<|ah zP (zd 3)<|ah zx (zd 4)<|mC<|.int 2) zj)
  (dN (lz<|zb (ah bO (zd 2)<|mC<|.int 1) zj) (zy 8)<|aT (mB<|ah (aZ Ż) (ah zx (zd 4)<|mC<|.int 0)<|mC<|.str "times") (dN (lz<|zb (ah bO (zd 8)<|mC<|.int 1) zj) (zy 9)<|iW 5 (zF vh<|zb (ah zP (zd 5)<|zd 8)<|zb (zF u9<|zb (ah zP (zd 6)<|zd 9)<|zb (ah zP (zd 7)<|ah kf (zd 8)<|zd 9) zj) zj)<|zd 8) (zr (zJ 10<|ah zP (cC<|zb (mC<|.int 1)<|zb (bY e8<|mC<|.int 1) zj)<|aS (f1 ph)<|zb (ah (aZ Ż) (ah zx (zd 4)<|mC<|.int 0)<|mC<|.str "less") zj)
  (iW 5 (zF vh<|zb (ah zP (zd 6)<|zd 8)<|zb (aX<|zb (ah ip (zd 10)<|ah zx (ah zP (zd 7)<|zd 8)<|mC<|.int 0)<|zb (ah zx (ah zP (zd 7)<|zd 8)<|mC<|.int 1) zj) zj)<|zd 8)))))
  (cT<|cU 3<|gR<|zd 5))))
  (zW<|ah zP (zd 3)<|bY e8<|mC<|.int 1)))
def Cp:FD:=bM 11 [0,1,2] O3
abbrev O2(Z:Zs):Prop:=Z.C "_law_pieces_at" 3 ["_law_reckoning", "_law_point_here", "_law_most"] 3 Cp
theorem zgd(B:Bs Z)(A:cJ Z "_law_pieces_at" O8)(c0:G7 Z)(c1:G3 Z):O2 Z :=
 have hB:=B.1;cM A ["_law_reckoning", "_law_point_here", "_law_most", "_law_found", "_law_row", "_law_pieces", "_law_one", "_law_other", "_law_k", "_law_e", "_law_sign"] λnd hr=>⟨_,(zo (zI<|fq zi)
 (zo (gr (lD<|zh zk zc zg) zE (zo (zI<|zh Br (fq<|za (bF<|za zg<|za zg zi) zi)<|zh cD zc zg)
 (zo (pB<|zU (zq<|zh zZ (zh zk zc zg) zR) (lJ (zh zk zc zg) zg)<|zU (zq<|zh zZ (zh zk zc zg) zR) (zBR (nK<|zh Br (fq<|za (zh zk zc<|zh zk zc zg) zi)<|bu XD<|za zg<|za zc zi) (sX zg)<|sX zg) (zo (sM<|za (nK<|zh zz zc<|zh zk zc zg)<|za (nK<|zh zz zc<|zh zk zc zg) zi)
 (gr (sY<|za (zh cD zc zg) zi) zE<|zU (zq<|zh zZ (zh zk zc zg) zR) (gr (sY<|za (zh cD zc zg) zi) zE<|lJ (zC 2<|za (zh zz zc zc)<|za (zC 2<|za (zh zz zc zc)<|za (zh zz zc<|zh nY zc zc) zi) zi) zc) (zo (zI<|zh zz (fq<|za zg<|za (jD jM zg) zi)<|bu Gk<|za (zh zZ (zh zk zc zg) zR) zi)
 (lJ (zC 2<|za (zh zz zc zc)<|za (bF<|za (zh lE zc<|zh zk (zh zz zc zc) zg)<|za (zh zk (zh zz zc zc) zg) zi) zi) zc)))))
 (gW<|iC<|nK zc))))
 (zL<|zh zz zc<|jD jM zg))),
 (aB (zK<|eF ze)
 (aB (fJ (lF<|zn zp ae zf) zD (aB (zK<|zM Bo (eF<|af (bG<|af zf<|af zf ze) ze)<|zM cE ae zf)
 (aB (pE<|bh (zv cu (zn zp ae zf) zQ) (zA<|iu (zn zp ae zf)<|lG ae zf lI)<|zA<|bh (zv cu (zn zp ae zf) zQ) (zA<|iu (nL<|zM Bo (eF<|af (zn zp ae<|zn zp ae zf) ze)<|bA (zo4 rfl) PyProof.Rows.boot_min<|af zf<|af ae ze)<|zBS ae (sU zf) (sU zf) Te) (aB (sN<|af (nL<|zn zG ae<|zn zp ae zf)<|af (nL<|zn zG ae<|zn zp ae zf) ze)
 (zA<|fJ (tj<|af (zM cE ae zf) ze) zD<|zA<|bh (zv cu (zn zp ae zf) zQ) (zA<|fJ (tj<|af (zM cE ae zf) ze) zD<|zA<|iu (zB<|af (zn zG ae ae)<|af (zB<|af (zn zG ae ae)<|af (zn zG ae<|zM n8 ae ae) ze) ze)<|lG ae ae lI) (aB (zK<|zn zG (eF<|af zf<|af (jE jK zf) ze)<|k8 GQ ÿ<|af (w6 cu (zn zp ae zf) zQ) ze)
 (zA<|iu (zB<|af (zn zG ae ae)<|af (bG<|af (zM lC ae<|zn zp (zn zG ae ae) zf)<|af (zn zp (zn zG ae ae) zf) ze) ze)<|lG ae ae lI)))))
 (zA<|gX<|gU _ rfl Å Ã Ä g8 ae<|af (nL ae) ze))))
 (zA<|zH<|zn zG ae<|jE jK zf)))⟩
def Pk:MS:=(zr (zJ 3 pJ)
  (zr (dN (eT mq<|gR<|zd 1) (zy 4)<|aT (mB<|ah (dB ż) (zd 4)<|mC .none) (zr (nJ (zd 4)<|fj 2<|zY (zy 5)<|zY (zy 6) gv)
  (lx 3 (zd 6)<|zF xw<|zb (xo (zd 3) (zd 6)<|mC<|.tuple [.int 0,.int 1])<|zb (zd 5) zj)) zS)
  (zr (zJ 7<|aS (f1 gx)<|zb (aS (f1 Fu)<|zb (Ad 3 2 [] (fj 2<|zY (zy 0)<|zY (zy 1) gv) (mB<|bY (wu ż [0,1])<|zd 1)<|aX<|zb (zd 0)<|zb (zd 1) zj) zj) zj)
  (zr (aT (mB<|ah (iV Ż) (zd 7)<|aX zj) (zW<|mC .none) zS)
  (zr (aT (mB<|ah (aZ Ż) (aS (f1 bN)<|zb (zd 7) zj)<|mC<|.int 1) (zW<|aX<|zb (ah zx (ah zx (zd 7)<|mC<|.int 0)<|mC<|.int 1)<|zb (ah zx (ah zx (zd 7)<|mC<|.int 0)<|mC<|.int 0) zj) zS)
  (zW<|aX<|zb (mC<|.tuple [.int 1,.int 1])<|zb (lg "Netting" 0 "node_of" rF<|zb (aX<|zb (mC<|.str "mix")<|zb (aS (f1 gx)<|zb (gQ (eT iU<|zd 7) 2 [] (fj 2<|zY (zy 0)<|zY (zy 1) gv) iT<|aX<|zb (zd 1)<|zb (zd 0) zj) zj) zj)<|zb (zd 2) zj) zj))))))
def vk:FD:=bM 8 [0,1,2] Pk
abbrev Ha(Z:Zs):Prop:=Z.M "Netting" "mixed_piece" 4 ["self", "pieces", "degree"] 3 vk
theorem zeo(B:Bs Z)(A:oS Z.K "Netting" "mixed_piece" "Netting.mixed_piece" Po)(c0:Ft Z)(c1:xT Z):Ha Z :=
 by obtain⟨hB,_,_,⟨bS,cj,bI⟩,⟨ie,f9,dq⟩,_⟩:=B;exact Ag A ["self", "pieces", "degree", "sums", "piece", "f", "node", "pairs"] λnd hr=>⟨_,(zo (zI Gg)
 (zo (gr (Gj<|nK zc) zE<|zU (zq<|zh xx zc jH) (zo (wY zc<|ko<|eG zE<|eG zE kr)
 (Fb zc<|zC 2<|za (XE zc zc<|Bt bI)<|za zc zi)) zO)
 (zo (zI<|bu pM<|za (bu Yl<|za (zBY (ko<|eG zE<|eG zE kr) (zq<|Ka (neg:=ż) bI zc)<|bF<|za zc<|za zc zi) zi) zi)
 (zo (zU (zq<|zh (xv Ż) zc<|bF zi) (zL jH) zO)
 (zo (zU (zq<|zh zZ (bu cR<|za zc zi) zg) (zL<|bF<|za (zh zk (zh zk zc zg) zg)<|za (zh zk (zh zk zc zg) zg) zi) zO)
 (zL<|bF<|za (Bt dq)<|za (qU 3<|za (bF<|za zR<|za (bu pM<|za (sD (lD zc) (ko<|eG zE<|eG zE kr) uQ<|bF<|za zc<|za zc zi) zi) zi)<|za zc zi) zi)))))),
 (aB (zK FQ)
 (aB (fJ (FR<|nL ae) zD<|zA<|bh (zv xB ae jI) (aB (iu ae<|ku<|eJ zD<|eJ zD kz)
 (zA<|Fg hr ae ae<|zB<|af (XF hr ae ae (sQ (v:=.ref bS) rfl cj rfl) ⟨rfl,rfl,rfl,rfl⟩)<|af ae ze)) zN)
 (aB (zK<|k8 pL Ç<|af (bA (zmI _ rfl hr) PyProof.Rows.boot_sorted<|af (zBW<|wG (Yk _ rfl ae) (ku<|eJ zD<|eJ zD kz) (Lo<|zv (By _ rfl hr) ae<|sQ (v:=.ref bS) rfl cj rfl)<|bG<|af ae<|af ae ze) ze) ze)
 (aB (bh (zv (Ff _ rfl hr) ae<|bG ze) (zA<|zH jI) zN)
 (aB (bh (zv cu (bA cQ Â<|af ae ze) zf) (zA<|zH<|bG<|af (zn zp (zn zp ae zf) zf)<|af (zn zp (zn zp ae zf) zf) ze) zN)
 (zA<|zH<|bG<|af (sQ (v:=.ref ie) rfl f9 rfl)<|af (rh c1 ae<|af (bG<|af zQ<|af (k8 pL Ç<|af (wG (lF ae) (ku<|eJ zD<|eJ zD kz) uU<|bG<|af ae<|af ae ze) ze) ze)<|af ae ze) ze))))))⟩
def vf:MS:=(zr (zJ 2<|ah zx (zd 0)<|mC<|.int 0)
  (zr (aT (mB<|ah (aZ Ż) (zd 2)<|mC<|.str "number") (zW<|ah zx (zd 0)<|mC<|.int 1) zS)
  (zr (aT (mB<|ah (aZ Ż) (zd 2)<|mC<|.str "letter") (zW<|mC<|.tuple [.int 0,.int 1]) zS)
  (zr (nI 3 4<|zb (ah zP (ah zP (zd 1)<|ah zx (zd 0)<|mC<|.int 1)<|mC<|.int 0)<|zb (ah zP (ah zP (zd 1)<|ah zx (zd 0)<|mC<|.int 2)<|mC<|.int 0) zj)
  (zr (aT (mB<|ah (aZ Ż) (zd 2)<|mC<|.str "plus") (zW<|zF xw<|zb (zd 3)<|zb (zd 4) zj) zS)
  (zW<|jo (mB<|ah (aZ Ż) (zd 2)<|mC<|.str "less") (zF Bi<|zb (zd 3)<|zb (zd 4) zj)<|zF u4<|zb (zd 3)<|zb (zd 4) zj))))))
def pO:FD:=bM 5 [0,1] vf
abbrev N1(Z:Zs):Prop:=Z.C "number_of" 4 ["row", "pieces"] 2 pO
theorem zlA(B:Bs Z)(A:cJ Z "number_of" N6)(c0:Ft Z)(c1:KI Z)(c2:BF Z):N1 Z :=
 by obtain⟨hB,_,_,⟨bS,cj,bI⟩,_⟩:=B;exact cM A ["row", "pieces", "word", "one", "other"] λnd hr=>⟨_,(zo (zI<|zh zk zc zg)
 (zo (zU (zq<|zh zZ zc zR) (zL<|zh zk zc zg) zO)
 (zo (zU (zq<|zh zZ zc zR) (zL<|Bt bI) zO)
 (zo (sM<|za (zh zz (zh zz zc<|zh zk zc zg) zg)<|za (zh zz (zh zz zc<|zh zk zc zg) zg) zi)
 (zo (zU (zq<|zh zZ zc zR) (zL<|zC 2<|za zc<|za zc zi) zO)
 (zL<|sE (zq<|zh zZ zc zR) (zC 2<|za zc<|za zc zi)<|zC 2<|za zc<|za zc zi)))))),
 (aB (zK<|zn zp ae zf)
 (aB (bh (zv cu ae zQ) (zA<|zH<|zn zp ae zf) zN)
 (aB (bh (zv cu ae zQ) (zA<|zH<|sQ (v:=.ref bS) rfl cj rfl) zN)
 (aB (sN<|af (zn zG (zn zG ae<|zn zp ae zf) zf)<|af (zn zG (zn zG ae<|zn zp ae zf) zf) ze)
 (aB (bh (zv cu ae zQ) (zA<|zH<|zB<|af ae<|af ae ze) zN)
 (zA<|zH<|sO (zv cu ae zQ) (zB<|af ae<|af ae ze)<|zB<|af ae<|af ae ze))))))⟩
def Pp:MS:=(zr (aT (cZ (gB<|mB<|bY (i7 "tuple")<|zd 0)<|cZ (mB<|ah (aZ ż) (aS (f1 bN)<|zb (zd 0) zj)<|mC<|.int 3)<|cZ (mB<|ah (iV ż) (ah zx (zd 0)<|mC<|.int 0)<|zd 1)<|gB<|mB<|bY (i7 "tuple")<|ah zx (zd 0)<|mC<|.int 1) (zW<|mC<|.bool Ż) zS)
  (zr (zJ 3<|cC zj)
  (zr (dN (eT iU<|ah zx (zd 0)<|mC<|.int 1) (zy 4) (zr (aT (cZ (gB<|mB<|bY (i7 "tuple")<|zd 4)<|cZ (mB<|ah (nC ż) (aS (f1 bN)<|zb (zd 4) zj)<|aX<|zb (mC<|.int 2)<|zb (mC<|.int 3) zj)<|gB<|mB<|zF vo<|zb (zd 4)<|zb (aS (f1 bN)<|zb (zd 1) zj)<|zb (zd 3) zj) (zW<|mC<|.bool Ż) zS)
  (aT (mB<|ah (aZ Ż) (ah zx (zd 4)<|mC<|.int 0)<|mC<|.str "times") (cT<|cU 3<|ah bO (ah zP (zd 3)<|ah zx (zd 4)<|mC<|.int 1)<|ah zP (zd 3)<|ah zx (zd 4)<|mC<|.int 2)<|aT (mB<|ah (aZ Ż) (ah zx (zd 4)<|mC<|.int 0)<|mC<|.str "mix") (cT<|cU 3<|ah zP (zd 3)<|ah zx (ah zx (ah zx (zd 4)<|mC<|.int 1)<|mC<|.int 0)<|mC<|.int 1)<|cT<|cU 3<|mC<|.int 1)))
  (zr (aT (cZ (gB<|mB<|bY (i7 "tuple")<|ah zx (zd 0)<|mC<|.int 2)<|cZ (mB<|ah (aZ ż) (aS (f1 bN)<|zb (ah zx (zd 0)<|mC<|.int 2) zj)<|mC<|.int 2)<|gB<|mB<|zF xR<|zb (ah zx (ah zx (zd 0)<|mC<|.int 2)<|mC<|.int 0) zj) (zW<|mC<|.bool Ż) zS)
  (zr (aT (cZ (gB<|mB<|bY (i7 "tuple")<|ah zx (ah zx (zd 0)<|mC<|.int 2)<|mC<|.int 1)<|mB<|ah (aZ ż) (aS (f1 bN)<|zb (ah zx (ah zx (zd 0)<|mC<|.int 2)<|mC<|.int 1) zj)<|zd 2) (zW<|mC<|.bool Ż) zS)
  (zr (dN (wZ<|zb (ah zx (ah zx (zd 0)<|mC<|.int 2)<|mC<|.int 1) zj) (fj 2<|zY (zy 5)<|zY (zy 6) gv)<|aT (i4 (mB<|ah (dB ż) (zd 6)<|mC .none)<|cZ (gB<|mB<|zF rG<|zb (zd 6)<|zb (aS (f1 bN)<|zb (zd 3) zj) zj)<|mB<|ah (aZ ż) (ah zP (zd 3)<|zd 6)<|ah bO (zd 5)<|mC<|.int 1) (zW<|mC<|.bool Ż) zS)
  (zW<|mC<|.bool ż)))))))
def Cr:FD:=bM 7 [0,1,2] Pp
abbrev Pu(Z:Zs):Prop:=Z.C "_law_formed_net" 4 ["_law_net", "_law_letters", "_law_most"] 3 Cr
theorem zfH(B:Bs Z)(A:cJ Z "_law_formed_net" Pr)(c0:Hb Z)(c1:G0 Z)(c2:O4 Z):Pu Z :=
 have hB:=B.1;cM A ["_law_net", "_law_letters", "_law_most", "_law_high", "_law_node", "_law_k", "_law_out"] λnd hr=>⟨_,(zo (zU (dY (iw<|dS<|nQ (T := "tuple") zc)<|dY (zq<|zh nX (bu cR<|za zc zi) zg)<|dY (zq<|zh (xv ż) (zh zk zc zg) zc)<|iw<|dS<|nQ (T := "tuple")<|zh zk zc zg) (zL e9) zO)
 (zo (zI<|fq zi)
 (zo (gr (lD<|zh zk zc zg) zE (zo (zU (dY (iw<|dS<|nQ (T := "tuple") zc)<|dY (zq<|zh (A5 ż) (bu cR<|za zc zi)<|bF<|za zg<|za zg zi)<|iw<|dS<|zC 3<|za zc<|za (bu cR<|za zc zi)<|za zc zi) (zL e9) zO)
 (zU (zq<|zh zZ (zh zk zc zg) zR) (gW<|iC<|zh cD (zh zz zc<|zh zk zc zg)<|zh zz zc<|zh zk zc zg)<|zU (zq<|zh zZ (zh zk zc zg) zR) (gW<|iC<|zh zz zc<|zh zk (zh zk (zh zk zc zg) zg) zg)<|gW<|iC zg)))
 (zo (zU (dY (iw<|dS<|nQ (T := "tuple")<|zh zk zc zg)<|dY (zq<|zh nX (bu cR<|za (zh zk zc zg) zi) zg)<|iw<|dS<|zC 1<|za (zh zk (zh zk zc zg) zg) zi) (zL e9) zO)
 (zo (zU (dY (iw<|dS<|nQ (T := "tuple")<|zh zk (zh zk zc zg) zg)<|zq<|zh nX (bu cR<|za (zh zk (zh zk zc zg) zg) zi) zc) (zL e9) zO)
 (zo (gr (LW<|za (zh zk (zh zk zc zg) zg) zi) (ko<|eG zE<|eG zE kr)<|zU (pC (zq<|zh xx zc jH)<|dY (iw<|dS<|zC 2<|za zc<|za (bu cR<|za zc zi) zi)<|zq<|zh nX (zh zz zc zc)<|zh cD zc zg) (zL e9) zO)
 (zL e9))))))),
 (aB (bh (fG<|dZ (ix<|fK<|bA nS Ì<|af ae<|af (nZ (v:=.ty "tuple") Ç rfl) ze)<|dZ (zv nU (bA cQ Â<|af ae ze) zf)<|dZ (zv (By _ rfl hr) (zn zp ae zf) ae)<|jb<|ix<|fK<|bA nS Ì<|af (zn zp ae zf)<|af (nZ (v:=.ty "tuple") Ç rfl) ze) (zA<|zH fi) zN)
 (aB (zK<|eF ze)
 (aB (fJ (lF<|zn zp ae zf) zD (aB (bh (fG<|dZ (ix<|fK<|bA nS Ì<|af ae<|af (nZ (v:=.ty "tuple") Ç rfl) ze)<|dZ (zv L6 (bA cQ Â<|af ae ze) (bG<|af zf<|af zf ze) rfl)<|jb<|ix<|fK<|zB<|af ae<|af (bA cQ Â<|af ae ze)<|af ae ze) (zA<|zH fi) zN)
 (zA<|bh (zv cu (zn zp ae zf) zQ) (zA<|gX<|gU _ rfl Å Ã Ä g8 ae<|af (zM cE (zn zG ae<|zn zp ae zf)<|zn zG ae<|zn zp ae zf) ze)<|zA<|bh (zv cu (zn zp ae zf) zQ) (zA<|gX<|gU _ rfl Å Ã Ä g8 ae<|af (zn zG ae<|zn zp (zn zp (zn zp ae zf) zf) zf) ze)<|zA<|gX<|gU _ rfl Å Ã Ä g8 ae<|af zf ze)))
 (aB (bh (fG<|dZ (ix<|fK<|bA nS Ì<|af (zn zp ae zf)<|af (nZ (v:=.ty "tuple") Ç rfl) ze)<|dZ (zv nU (bA cQ Â<|af (zn zp ae zf) ze) zf)<|jb<|ix<|fK<|zB<|af (zn zp (zn zp ae zf) zf) ze) (zA<|zH fi) zN)
 (aB (bh (fG<|dZ (ix<|fK<|bA nS Ì<|af (zn zp (zn zp ae zf) zf)<|af (nZ (v:=.ty "tuple") Ç rfl) ze)<|jb<|zv nU (bA cQ Â<|af (zn zp (zn zp ae zf) zf) ze) ae) (zA<|zH fi) zN)
 (aB (fJ (L1<|af (zn zp (zn zp ae zf) zf) ze) (ku<|eJ zD<|eJ zD kz)<|zA<|bh (fG<|pF (zv xB ae jI)<|rC<|fG<|dZ (ix<|fK<|zB<|af ae<|af (bA cQ Â<|af ae ze) ze)<|jb<|zv nU (zn zG ae ae)<|zM cE ae zf) (zA<|zH fi) zN)
 (zA<|zH fi)))))))⟩
def OL:MS:=(zr (zJ 2<|cC zj)
  (zr (zJ 3<|cC zj)
  (zr (dN (lz<|zb (ah bO (mC<|.int 1)<|zF zm<|zb (zd 0)<|zb (ah zP (cC<|zb (mC<|.int 12)<|zb (mC<|.int 24) zj)<|aS (f1 ph)<|zb (ah (aZ Ż) (zF zm<|zb (zd 0)<|zb (mC<|.int 8) zj)<|mC<|.int 0) zj) zj) zj) (zy 4) (zr (zJ 5<|zF xS<|zb (zd 0)<|zb (zd 2)<|zb (aS (f1 bN)<|zb (zd 1) zj)<|zb (mC<|.int 0) zj)
  (zr (aT (mB<|ah qG (aS (f1 wJ)<|zb (zF mP<|zb (zd 5)<|zb (zd 3) zj) zj)<|mC<|.int 12) (zJ 5<|aX<|zb (mC<|.str "less")<|zb (ah zx (zd 5)<|mC<|.int 1)<|zb (ah zx (zd 5)<|mC<|.int 2) zj) zS)
  (zr (cT<|cU 2<|zd 5)
  (cT<|cU 3<|zF mP<|zb (zd 5)<|zb (zd 3) zj)))))
  (zW<|aX<|zb (zd 1)<|zb (aS (f1 gx)<|zb (zd 2) zj) zj))))
def Cs:FD:=bM 6 [0,1] OL
abbrev OK(Z:Zs):Prop:=Z.C "_law_weighed" 4 ["_law_box_here", "_law_letters"] 2 Cs
theorem zg3(B:Bs Z)(A:cJ Z "_law_weighed" ON)(c0:tm Z)(c1:OU Z)(c2:O5 Z):OK Z :=
 have hB:=B.1;cM A ["_law_box_here", "_law_letters", "_law_rows", "_law_heavy", "_law_k", "_law_row"] λnd hr=>⟨_,(zo (zI<|fq zi)
 (zo (zI<|fq zi)
 (zo (gr (sY<|za (zh cD zg<|zC 2<|za zc<|za (zh zz (fq<|za zg<|za zg zi)<|bu Gk<|za (zh zZ (zC 2<|za zc<|za zg zi) zg) zi) zi) zi) zE (zo (zI<|zC 4<|za zc<|za zc<|za (bu cR<|za zc zi)<|za zg zi)
 (zo (pB<|zU (zq<|zh w5 (bu Wj<|za (zC 2<|za zc<|za zc zi) zi) zg) (zI<|bF<|za zR<|za (zh zk zc zg)<|za (zh zk zc zg) zi) zO)
 (zo (gW<|iC zc)
 (gW<|iC<|zC 2<|za zc<|za zc zi)))))
 (zL<|bF<|za zc<|za (bu pM<|za zc zi) zi)))),
 (aB (zK<|eF ze)
 (aB (zK<|eF ze)
 (aB (fJ (tj<|af (zM cE zf<|zB<|af ae<|af (zn zG (eF<|af zf<|af zf ze)<|k8 GQ ÿ<|af (w6 cu (zB<|af ae<|af zf ze) zf) ze) ze) ze) zD (aB (zK<|zB<|af ae<|af ae<|af (bA cQ Â<|af ae ze)<|af zf ze)
 (aB (pE<|bh (zv wV (bA (SI _ rfl rfl) a1s<|af (zB<|af ae<|af ae ze) ze) zf) (zA<|zK<|bG<|af zQ<|af (zn zp ae zf)<|af (zn zp ae zf) ze) zN)
 (aB (gX<|gU _ rfl Å Ã Ä g8 ae<|af ae ze)
 (zA<|gX<|gU _ rfl Å Ã Ä g8 ae<|af (zB<|af ae<|af ae ze) ze)))))
 (zA<|zH<|bG<|af ae<|af (k8 pL Ç<|af ae ze) ze))))⟩
def Od:MS:=(zr (zJ 4<|cC<|zb (zF sZ<|zb (ah zP (zd 2)<|zd 3)<|zb (ah zP (zd 1)<|mC<|.int 0) zj)<|zb (zF sZ<|zb (ah zP (zd 1)<|zd 3)<|zb (ah zP (zd 2)<|mC<|.int 0) zj) zj)
  (zr (dN (pe<|zb (mC<|.int 1)<|zb (zd 3) zj) (zy 5)<|aT (i4 (mB<|ah (dB ż) (ah zP (zd 1)<|zd 5)<|mC .none)<|mB<|ah (dB ż) (ah zP (zd 2)<|ah kf (zd 3)<|zd 5)<|mC .none) (cT<|cU 4<|lg "Netting" 0 "product_piece" Cy<|zb (ah zP (zd 1)<|zd 5)<|zb (ah zP (zd 2)<|ah kf (zd 3)<|zd 5) zj) zS)
  (zW<|lg "Netting" 0 "mixed_piece" vk<|zb (zd 4)<|zb (zd 3) zj)))
def Ce:FD:=bM 6 [0,1,2,3] Od
abbrev Oc(Z:Zs):Prop:=Z.C "times_piece" 5 ["netting", "one", "other", "k"] 4 Ce
theorem ziD(B:Bs Z)(A:cJ Z "times_piece" OC)(c0:GI Z)(c1:Pw Z)(c2:Ha Z):Oc Z :=
 have hB:=B.1;cM A ["netting", "one", "other", "k", "parts", "e"] λnd hr=>⟨_,(zo (zI<|fq<|za (zC 2<|za (zh zz zc zc)<|za (zh zz zc zg) zi)<|za (zC 2<|za (zh zz zc zc)<|za (zh zz zc zg) zi) zi)
 (zo (gr (Gi<|za zg<|za zc zi) zE<|zU (pC (zq<|zh xx (zh zz zc zc) jH)<|zq<|zh xx (zh zz zc<|zh nY zc zc) jH) (gW<|iC<|qU 3<|za (zh zz zc zc)<|za (zh zz zc<|zh nY zc zc) zi) zO)
 (zL<|qU 3<|za zc<|za zc zi))),
 (aB (zK<|eF<|af (zB<|af (zn zG ae ae)<|af (zn zG ae zf) ze)<|af (zB<|af (zn zG ae ae)<|af (zn zG ae zf) ze) ze)
 (aB (fJ (GH<|af zf<|af ae ze) zD<|zA<|bh (fG<|pF (zv xB (zn zG ae ae) jI)<|rC<|zv xB (zn zG ae<|zM n8 ae ae) jI) (zA<|gX<|gU _ rfl Å Ã Ä g8 ae<|af (rh c1 ae<|af (zn zG ae ae)<|af (zn zG ae<|zM n8 ae ae) ze) ze) zN)
 (zA<|zH<|rh c2 ae<|af ae<|af ae ze)))⟩
def tq:MS:=(zr (zJ 4<|ah zx (zd 1)<|mC<|.int 0)
  (zr (aT (cZ (mB<|ah (aZ Ż) (zd 4)<|mC<|.str "number")<|mB<|ah (aZ Ż) (zd 4)<|mC<|.str "letter") (zW<|jo (i4 (mB<|ah (aZ Ż) (zd 4)<|mC<|.str "letter")<|mB<|ah (aZ Ż) (zd 3)<|mC<|.int 1) (aX<|zb (mC<|.tuple [.int 1,.int 1])<|zb (lg "Netting" 0 "node_of" rF<|zb (zd 1)<|zb (mC<|.int 1) zj) zj)<|mC .none) zS)
  (zr (nI 5 6<|zb (gR<|ah zP (zd 2)<|ah zx (zd 1)<|mC<|.int 1)<|zb (gR<|ah zP (zd 2)<|ah zx (zd 1)<|mC<|.int 2) zj)
  (zr (aT (mB<|ah (aZ Ż) (zd 4)<|mC<|.str "times") (zW<|zF Ce<|zb (zd 0)<|zb (zd 5)<|zb (zd 6)<|zb (zd 3) zj) zS)
  (zr (zJ 7<|jo (mB<|ah (aZ Ż) (zd 4)<|mC<|.str "plus") (ah zP (zd 6)<|zd 3)<|zF sZ<|zb (ah zP (zd 6)<|zd 3)<|zb (aX<|zb (bY e8<|mC<|.int 1)<|zb (mC<|.int 1) zj) zj)
  (zW<|lg "Netting" 0 "mixed_piece" vk<|zb (cC<|zb (ah zP (zd 5)<|zd 3)<|zb (zd 7) zj)<|zb (zd 3) zj))))))
def oq:FD:=bM 8 [0,1,2,3] tq
abbrev Nv(Z:Zs):Prop:=Z.C "piece_of" 6 ["netting", "row", "pieces", "k"] 4 oq
theorem zmN(B:Bs Z)(A:cJ Z "piece_of" NW)(c0:GI Z)(c1:Oc Z)(c2:xT Z)(c3:Ha Z):Nv Z :=
 by obtain⟨hB,_,_,_,⟨ie,f9,dq⟩,_⟩:=B;exact cM A ["netting", "row", "pieces", "k", "word", "one", "other", "second"] λnd hr=>⟨_,(zo (zI<|zh zk zc zg)
 (zo (zU (dY (zq<|zh zZ zc zR)<|zq<|zh zZ zc zR) (zL<|sE (pC (zq<|zh zZ zc zR)<|zq<|zh zZ zc zg) (bF<|za (Bt dq)<|za (qU 3<|za zc<|za zg zi) zi) jH) zO)
 (zo (sM<|za (nK<|zh zz zc<|zh zk zc zg)<|za (nK<|zh zz zc<|zh zk zc zg) zi)
 (zo (zU (zq<|zh zZ zc zR) (zL<|zC 4<|za zc<|za zc<|za zc<|za zc zi) zO)
 (zo (zI<|sE (zq<|zh zZ zc zR) (zh zz zc zc)<|zC 2<|za (zh zz zc zc)<|za (bF<|za (jD jM zg)<|za zg zi) zi)
 (zL<|qU 3<|za (fq<|za (zh zz zc zc)<|za zc zi)<|za zc zi)))))),
 (aB (zK<|zn zp ae zf)
 (aB (bh (fG<|dZ (zv cu ae zQ)<|jb<|zv cu ae zQ) (zA<|zH<|sO (fG<|pF (zv cu ae zQ)<|rC<|zv cu ae zf) (bG<|af (sQ (v:=.ref ie) rfl f9 rfl)<|af (rh c2 ae<|af ae<|af zf ze) ze) jI) zN)
 (aB (sN<|af (nL<|zn zG ae<|zn zp ae zf)<|af (nL<|zn zG ae<|zn zp ae zf) ze)
 (aB (bh (zv cu ae zQ) (zA<|zH<|zB<|af ae<|af ae<|af ae<|af ae ze) zN)
 (aB (zK<|sO (zv cu ae zQ) (zn zG ae ae)<|zB<|af (zn zG ae ae)<|af (bG<|af (jE jK zf)<|af zf ze) ze)
 (zA<|zH<|rh c3 ae<|af (eF<|af (zn zG ae ae)<|af ae ze)<|af ae ze))))))⟩
def MY:MS:=(zr (nJ (zF xN<|zb (zd 0) zj)<|fj 2<|zY (zy 2)<|zY (zy 3) gv)
  (zr (zJ 4<|Ah "Netting" [("nodes",.l []),("reached",.l []),("node_places",.x [])])
  (zr (zJ 5<|cC zj)
  (zr (dN (eT iU<|zd 3) (zy 6) (zr (zJ 7<|cC<|zb (zF pO<|zb (zd 6)<|zb (zd 5) zj) zj)
  (zr (dN (pe<|zb (mC<|.int 1)<|zb (ah bO (zd 1)<|mC<|.int 1) zj) (zy 8)<|cT<|cU 7<|zF oq<|zb (zd 4)<|zb (zd 6)<|zb (zd 5)<|zb (zd 8) zj)
  (cT<|cU 5<|gR<|zd 7))))
  (zr (zJ 9<|gQ (pe<|zb (mC<|.int 1)<|zb (ah bO (zd 1)<|mC<|.int 1) zj) 1 [5,4] (zy 0) iT<|lg "Netting" 2 "out_of" tw<|zb (ah zP (ah zP (zd 1)<|bY e8<|mC<|.int 1)<|zd 0)<|zb (zd 0) zj)
  (zr (zJ 10<|sP "Netting" 4 "nodes" 9 tu)
  (zr (zJ 11 pJ)
  (zr (zJ 12<|cC zj)
  (zr (pz "Netting" 4 "nodes" (fj 2<|zY (zy 13)<|zY (zy 14) gv)<|aT (mB<|ah zP (zd 10)<|zd 13) (zr (lx 11 (zd 13)<|aS (f1 bN)<|zb (zd 12) zj)
  (cT<|cU 12<|zF mO<|zb (zd 14)<|zb (zd 11) zj)) zS)
  (zr (zJ 15<|aS (f1 gx)<|zb (gQ (eT mq<|gR<|zd 9) 1 [11] (zy 0) iT<|jo (mB<|ah (dB Ż) (zd 0)<|mC .none) (mC .none)<|jF (zd 1)<|zd 0) zj)
  (zW<|aX<|zb (zd 2)<|zb (aS (f1 gx)<|zb (zd 12) zj)<|zb (aX<|zb (ah zP (ah zP (zd 5)<|bY e8<|mC<|.int 1)<|mC<|.int 0)<|zb (zd 15) zj) zj)))))))))))
def BO:FD:=bM 16 [0,1] MY
abbrev MW(Z:Zs):Prop:=Z.C "net_of" 7 ["reckoning", "most"] 2 BO
theorem YB(B:Bs Z)(A:cJ Z "net_of" My)(c0:Mw Z)(c1:N1 Z)(c2:Nv Z)(c3:OV Z)(c4:OF Z)(c5:Pd Z):MW Z :=
 by have(hB,_,_,_,_,aE,cY):=B;exact cM A ["reckoning", "most", "letters", "rows", "netting", "pieces", "row", "own", "k", "outs", "needed", "places", "kept", "at", "node", "tops"] λnd hr=>⟨_,(zo (wY (zC 1<|za zc zi)<|ko<|eG zE<|eG zE kr)
 (zo (zI (zBO (λz=>nomatch z) (by decide)))
 (zo (zI<|fq zi)
 (zo (gr (lD zc) zE (zo (zI<|fq<|za (zC 2<|za zc<|za zc zi) zi)
 (zo (gr (Gi<|za zg<|za (zh cD zc zg) zi) zE<|gW<|iC<|zC 4<|za zc<|za zc<|za zc<|za zc zi)
 (gW<|iC<|nK zc))))
 (zo (zI<|sD (Gi<|za zg<|za (zh cD zc zg) zi) zE uQ<|qU 3<|za (zh zz (zh zz zc<|jD jM zg) zc)<|za zc zi)
 (zo (zI<|S7 aE.at)
 (zo (zI Gg)
 (zo (zI<|fq zi)
 (zo (S8 aE.at (ko<|eG zE<|eG zE kr)<|zU (dS<|zh zz zc zc) (zo (Fb zc<|bu cR<|za zc zi)
 (gW<|iC<|zC 2<|za zc<|za zc zi)) zO)
 (zo (zI<|bu pM<|za (sD (Gj<|nK zc) zE uQ<|sE (zq<|zh Bw zc jH) jH<|uR zc zc) zi)
 (zL<|bF<|za zc<|za (bu pM<|za zc zi)<|za (bF<|za (zh zz (zh zz zc<|jD jM zg) zg)<|za zc zi) zi))))))))))),
 (aB (iu (zB<|af ae ze)<|ku<|eJ zD<|eJ zD kz)
 (aB (zK<|zBN cY)
 (aB (zK<|eF ze)
 (aB (fJ (lF ae) zD (aB (zK<|eF<|af (zB<|af ae<|af ae ze) ze)
 (aB (fJ (GH<|af zf<|af (zM cE ae zf) ze) zD<|zA<|gX<|gU _ rfl Å Ã Ä g8 ae<|af (zB<|af ae<|af ae<|af ae<|af ae ze) ze)
 (zA<|gX<|gU _ rfl Å Ã Ä g8 ae<|af (nL ae) ze))))
 (aB (ET (GH<|af zf<|af (zM cE ae zf) ze) zD uU<|rh c5 ae<|af (zn zG (zn zG ae<|jE jK zf) ae)<|af ae ze)
 (aB (zK<|Aj<|zB<|af (KP ae)<|af ae ze)
 (aB (zK FQ)
 (aB (zK<|eF ze)
 (aB (fJ (WR<|Y8<|af (KP ae) ze) (ku<|eJ zD<|eJ zD kz)<|zA<|bh (fK<|zn zG ae ae) (aB (Fg hr ae ae<|bA cQ Â<|af ae ze)
 (zA<|gX<|gU _ rfl Å Ã Ä g8 ae<|af (zB<|af ae<|af ae ze) ze)) zN)
 (aB (zK<|k8 pL Ç<|af (wG (FR<|nL ae) zD uU<|sO (zv Bp ae jI) jI<|uT hr ae ae) ze)
 (zA<|zH<|bG<|af ae<|af (k8 pL Ç<|af ae ze)<|af (bG<|af (zn zG (zn zG ae<|jE jK zf) zf)<|af ae ze) ze)))))))))))⟩
def JQ:MS:=(zr (zJ 1<|zF B8<|zb (zd 0)<|zb (mC<|.int 0) zj)
  (zr (zJ 2<|zF Cs<|zb (zd 1)<|zb (zF Ci<|zb (zd 1)<|zb (ah bO (mC<|.int 1)<|zF zm<|zb (zd 1)<|zb (mC<|.int 3) zj) zj) zj)
  (zr (zJ 3<|zF Cf<|zb (zd 1)<|zb (aS (f1 bN)<|zb (ah zx (zd 2)<|mC<|.int 0) zj) zj)
  (zr (zJ 4<|zF zm<|zb (zd 1)<|zb (mC<|.int 9) zj)
  (zr (zJ 5<|zF zm<|zb (zd 1)<|zb (ah bO (zd 4)<|mC<|.int 1) zj)
  (zr (zJ 6<|zF Cp<|zb (zd 2)<|zb (zd 3)<|zb (zd 4) zj)
  (zr (dN (eT iU<|aX<|zb (zd 4)<|zb (zd 5) zj) (zy 7) (zr (zJ 8<|zF BO<|zb (zd 2)<|zb (zd 7) zj)
  (zr (aT (gB<|mB<|zF Cr<|zb (zd 8)<|zb (ah zx (zd 2)<|mC<|.int 0)<|zb (zd 7) zj) (zW<|mC<|.bool Ż) zS)
  (zr (aT (mB<|ah qG (aS (f1 bN)<|zb (ah zx (zd 8)<|mC<|.int 1) zj)<|ah bO (ah ip (ah ip (aS (f1 bN)<|zb (ah zx (zd 2)<|mC<|.int 1) zj)<|ah bO (zd 7)<|mC<|.int 1)<|ah bO (zd 7)<|mC<|.int 1)<|mC<|.int 3) (zW<|mC<|.bool Ż) zS)
  (aT (cZ (mB<|ah (iV ż) (ah zx (ah zx (zd 8)<|mC<|.int 2)<|mC<|.int 0)<|ah zP (zd 6)<|mC<|.int 0)<|mB<|ah (iV ż) (zF Cv<|zb (zd 8)<|zb (zd 3) zj)<|tR sC (zd 6) (nR<|mC<|.int 1)<|nR<|ah bO (zd 7)<|mC<|.int 1) (zW<|mC<|.bool Ż) zS)))))
  (zW<|mC<|.bool ż))))))))
def uF:FD:=bM 9 [0] JQ
theorem S4{f:Qg}(B:Bs Z)(F:jA Z.K "law" "law" JR f fd)(c0:MW Z)(c1:N2 Z)(c2:tm Z)(c3:Ol Z)(c4:Oe Z)(c5:Pu Z)(c6:OP Z)(c7:OK Z)(c8:O2 Z):cI Z.P Z.w Z.K Z.mg Z.base iR 8 f fd ["_law_script"] (mW Z.K 1 uF):=
 have hB:=B.1;QH F ["_law_script", "_law_box_here", "_law_reckoning", "_law_point_here", "_law_most", "_law_fewer", "_law_due", "_law_grade", "_law_net"] λnd hr=>⟨_,(zo (zI<|zC 2<|za zc<|za zg zi)
 (zo (zI<|zC 2<|za zc<|za (zC 2<|za zc<|za (zh cD zg<|zC 2<|za zc<|za zg zi) zi) zi)
 (zo (zI<|zC 2<|za zc<|za (bu cR<|za (zh zk zc zg) zi) zi)
 (zo (zI<|zC 2<|za zc<|za zg zi)
 (zo (zI<|zC 2<|za zc<|za (zh cD zc zg) zi)
 (zo (zI<|zC 3<|za zc<|za zc<|za zc zi)
 (zo (gr (lD<|bF<|za zc<|za zc zi) zE (zo (zI<|zC 2<|za zc<|za zc zi)
 (zo (zU (iw<|dS<|zC 3<|za zc<|za (zh zk zc zg)<|za zc zi) (zL e9) zO)
 (zo (zU (zq<|zh w5 (bu cR<|za (zh zk zc zg) zi)<|zh cD (zh lE (zh lE (bu cR<|za (zh zk zc zg) zi)<|zh cD zc zg)<|zh cD zc zg) zg) (zL e9) zO)
 (zU (dY (zq<|zh (xv ż) (zh zk (zh zk zc zg) zg)<|zh zz zc zg)<|zq<|zh (xv ż) (zC 2<|za zc<|za zc zi)<|Az Ge zc (sX zg)<|sX<|zh cD zc zg) (zL e9) zO)))))
 (zL e9)))))))),
 (aB (zK<|zB<|af ae<|af zf ze)
 (aB (zK<|zB<|af ae<|af (zB<|af ae<|af (zM cE zf<|zB<|af ae<|af zf ze) ze) ze)
 (aB (zK<|zB<|af ae<|af (bA cQ Â<|af (zn zp ae zf) ze) ze)
 (aB (zK<|zB<|af ae<|af zf ze)
 (aB (zK<|zB<|af ae<|af (zM cE ae zf) ze)
 (aB (zK<|zB<|af ae<|af ae<|af ae ze)
 (aB (fJ (lF<|bG<|af ae<|af ae ze) zD (aB (zK<|zB<|af ae<|af ae ze)
 (aB (bh (ix<|fK<|zB<|af ae<|af (zn zp ae zf)<|af ae ze) (zA<|zH fi) zN)
 (aB (bh (zv wV (bA cQ Â<|af (zn zp ae zf) ze)<|zM cE (zM lC (zM lC (bA cQ Â<|af (zn zp ae zf) ze)<|zM cE ae zf)<|zM cE ae zf) zf) (zA<|zH fi) zN)
 (zA<|bh (fG<|dZ (zv (By _ rfl hr) (zn zp (zn zp ae zf) zf)<|zn zG ae zf)<|jb<|zv (By _ rfl hr) (zB<|af ae<|af ae ze)<|BQ EU ae (sU zf)<|sU<|zM cE ae zf) (zA<|zH fi) zN)))))
 (zA<|zH fi))))))))⟩
end
end K36
set_option exponentiation.threshold 10000
open PySem Internal
open Lean in
local macro_rules|`(tactic|simp![$ls,*])=>do
 let u<-("↓Y6 ↓zBD ↓zob ↓UJ ↓Y5 ↓zoc ↓zlk ↓zi8 ↓Y4 ↓UI ↓Y3 ↓Zr ↓zod ↓Zq ↓zoe ↓zBE ↓UG ↓Zp ↓Zo ↓Zn ↓zof ↓zll ↓zog ↓UK ↓UH ~UL ~zoh ~zoi ~UE ~Zm ~zlm zBx zBy zBz zBA zBB zBC ↓UO ↓UN dU ↓zt ↓kh Mh Js ↓Vo ↓YY Ml ↓YX ↓YW ↓Gb ↓YV ↓znI Np ↓YU ↓YT ↓Vn ↓YS ↓znJ ↓znK ↓YR ↓YQ ↓YO ↓zk5 ↓znM ↓znN ↓zk6 ↓V1 ↓V0 ↓znO ↓znP ↓znR ↓YN ↓YM ↓VX ↓zi4 ↓znS ↓YL ↓YK ↓zk7 ↓znT ↓zk8 ↓znU ↓VW ↓zk9 ↓Zj ↓zlf ↓zn7 ↓Y7 ↓Yt ↓Ys ↓UD ↓Yr ↓zop ↓Yq ↓zoq ↓zor ↓Yp ↓zos ↓Ym ↓Mj ↓Nu ↓Nq bd Vm Z3 znu zkZ NY ziZ zhN zk0 Z2 zAU zAV Z1 ~znv ~znw Vl Vk Vj Vi znx zAY zAZ Vh Vg Ve zA1 zA2 ZZ ZY ZX Vd VP zA8 zA9 zBa zBb VN VM ZU Y2 zBc VL VJ VH zny VG VF VD VB VA Vz Vy Vx Vw ~znz zk1 zi1 Vv Vu Y1 znA zBd zBe zBf zBg zBh Ed zBi zBj zBk zBl Vs Vr znC Vq Vp znD Y0 YZ VZ VY znQ VV ~zla ~K7 ~VR wH Zi Zh UT US UR Zg zn0 Za UQ UP F6 Gy zn9 zot Yo Yn Kx Kv !List.getElem?_cons_zero !List.getElem?_cons_succ !List.set_cons_zero !List.set_cons_succ !List.cons_append !List.nil_append !List.length_cons !List.length_nil !List.replicate !Option.map_some !decide_eq_true_eq !List.mem_cons !List.not_mem_nil !true_or !or_true !or_false !false_or !if_true !if_false !ite_true !ite_false !true_and !and_true !and_false !false_and !Bool.not_true !Bool.not_false !Bool.false_eq_true !not_true !not_false_iff !Nat.zero_add !Nat.reduceAdd !Nat.reduceLeDiff !Nat.reduceEqDiff !Nat.reduceSub !Nat.reduceLT !List.map_cons !List.map_nil !List.getD_cons_zero !List.getD_cons_succ !List.drop_succ_cons !List.drop_zero !decide_true !decide_false !Bool.true_and !Bool.and_true !Bool.true_or !Bool.or_true !Bool.false_or !Bool.or_false !Bool.false_and !Bool.and_false !reduceCtorEq !List.length_map !List.length_append Vt znB !String.reduceEq ↓!reduceIte !Int.reduceEq !Int.reduceNe !Int.reduceLT !Int.reduceLE !Int.reduceAdd !Int.reduceSub !Int.reduceNeg !Int.reduceToNat !Int.cast_ofNat_Int !implies_true !forall_const !Option.map_none".splitOn " ").toArray.mapM λx=>do
  let n:=(((x.replace "↓" "").replace "~" "").replace "!" "").toName
  let y:=mkIdent (if x.contains '!' then n else `Internal++n)
  if x.startsWith "↓" then `(Parser.Tactic.simpLemma|↓$y:term) else if x.startsWith "~" then `(Parser.Tactic.simpLemma|nr $y) else `(Parser.Tactic.simpLemma|$y:term)
 `(tactic|simp (disch:=first|with_unfolding_all exact UM rfl|omega | (simp only[Ω,Ŋ,ĉ,List.length_append,ě,ſ,Ū,Nat.reduceAdd]<;>omega) |fail) only[$ls,*,$u,*])
local macro_rules | `(tactic| simp!)=>`(tactic| simp![Option.map_none])
namespace K36
open PySem Internal
noncomputable abbrev bx(x y:Int):U:=.l [.int x,.int y]
theorem dW{x w:Int}{Q:U×Qa U->Prop}(hw:0 < w)(Il:w<=18446744073709551616)(k:∀r x' y',0<=r->r < w->Q (.d<|.int r,[bx x' y',.d<|.int w])):Wo (zm [bx x y,.d<|.int w]) Q:=by
 simp![zm,OE];refine nP (λhx=>?_) λhx=>?_
 .simp![hx]
  exact k _ _ _ (â _ (by omega))<|ð _ hw
 .simp![hx]
  exact k _ _ _ (â _ (by omega))<|ð _ hw
theorem KH{k:Int}(h0:0<=k)(h:k < (ns.length:Int)):∃v:Int,bf (ns.map Ŕ) k=ž (.int v):=by
 have hk:k.toNat < ns.length:=by omega
 refine⟨ns[k.toNat],?_⟩;unfold bf fA;rw[a4b h0,a4b (by rw[ĉ];exact h),bd,Č,qo hk];rfl
theorem zB0{k:Int}{Q:U×Qa U->Prop}(h0:0<=k)(q:∀x y,Q (bx x y,[.d<|.list<|ns.map .int,.d<|.int k])):Wo (B8 [.d<|.list<|ns.map .int,.d<|.int k]) Q:=by
 simp![B8,N4,ĉ];refine nP (λh1=>?_) λh1=>?_
 .have(v,hv):=KH h0 h1
  simp![hv];exact q _ _
 .simp![ĉ]
  refine nP (λh2=>?_) λh2=>?_
  .have hm:=ð k h2
   have hm0:=â k (show(ns.length:Int)≠0 by omega);have(v,hv):=KH hm0 hm;simp![hv];exact q _ _
  .simp!
   exact q _ _
theorem Ct{x:Int}(hx:0<=x)(hy:0<=y):mQ [.d<|.int x,.d<|.int y]=ž (.d<|.int (ē x y:Nat),[.d<|.int x,.d<|.int y]):=by
 refine g7 ?_;simp![mQ,OM];refine MP (λk ρ=>∃a b:Int,ρ=[ž<|.d<|.int a,ž<|.d<|.int b]/\0<=a/\0<=b/\b.toNat=k/\ē a b=ē x y) _ ⟨x,y,rfl,hx,hy,rfl,rfl⟩ ?_;rintro k _ ⟨a,b,rfl,ha,hb,hk,hg⟩;simp!
 by_cases hz:b=0
 .subst hz
  have e:a=((ē x y:Nat):Int):=by rw[<-hg,a3E];omega
  subst e;simp![bne_self_eq_false]
 .have dh:(b != 0)=ż:=by simp[hz]
  simp![dh];refine⟨(a % b).toNat,?_,_,_,rfl,by omega,â _ hz,rfl,?_⟩
  .have:=ð a (show 0 < b by omega)
   have:=â a hz;omega
  .rw[Ng a b ha (by omega)]
   exact hg
theorem xj{a b:Nat}(h:a<=b)(hb:b.log2 < 9000):a.log2 < 9000:=by
 by_cases z:a=0
 .rw[z];decide
 .exact È ((Nat.le_log2 (by omega)).mpr<|qA (Nat.log2_self_le z) h) hb
theorem vm{n d:Int}(hd:d≠0)(hb:d.natAbs.log2 < 9000):pN [.d<|.int n,.d<|.int d]=ž (.d<|fR<|Ī n d,[.d<|.int n,.d<|.int d]):=by
 have gl:ē n d<=d.natAbs:=å n hd;have gp:0 < ē n d:=Ë n hd;have yO:=xj gl hb;refine g7 ?_;rw[<-SN hd];unfold mn lh;rw[<-ML n d (show(0:Int) < (ē n d:Nat) by omega),<-ML d d (show(0:Int) < (ē n d:Nat) by omega)];simp![pN,Pe];refine MP (λk ρ=>∃a b:Int,ρ=[ž<|.d<|.int n,ž<|.d<|.int d,ž<|.d<|.int a,ž<|.d<|.int b]/\0<=a/\0<=b/\b.toNat=k/\ē a b=ē n d) _ ⟨_,_,rfl,by split<;>omega,by split<;>omega,rfl,Y9 n d⟩ ?_;rintro k _ ⟨a,b,rfl,ha,Ro,hk,hg⟩;simp!
 by_cases hz:b=0
 .subst hz
  have e:a=((ē n d:Nat):Int):=by rw[<-hg,a3E];omega
  subst e;have c1:uH n ((ē n d:Nat):Int):=⟨by omega,by rw[Ġ];exact yO⟩;have c2:uH n (0 - ((ē n d:Nat):Int)):=⟨by omega,by rw[Int.zero_sub,a2a,Ġ];exact yO⟩;simp!;refine nP (λh=>?_) λh=>?_
  .simp![h,Bv (a:=n) c2,Bv (a:=d) c2]
  .simp![h,Bv (a:=n) c1,Bv (a:=d) c1]
 .simp![hz]
  refine⟨(a % b).toNat,?_,_,_,rfl,by omega,â _ hz,rfl,?_⟩
  .have:=ð a (show 0 < b by omega)
   have:=â a hz;omega
  .rw[Ng a b ha (by omega)]
   exact hg
structure Sz (r:Rat):Prop where
 n:r.num.natAbs < 2^4000
 d:r.den < 2^4000
theorem Sz.di{r:Rat}(h:Sz r):(r.den:Int).natAbs < 2^4000:=by rw[Ġ];exact h.d
theorem QQ(h:n < 2^4000):n.log2 < 4000:=B9 (by decide) h
theorem yq(h:n < 2^4000):n.log2 < 9000:=ý (QQ h) (by decide)
theorem gS(h:n < 2^4000):n.log2 < 1000000:=ý (QQ h) (by decide)
theorem KG{a b:Nat}(h:a < 2^4000)(h':b < 2^4000):(a * b).log2 < 9000:=by
 refine ý (B9 (k:=4000+4000) (by decide) ?_) (by decide);rw[ħ];exact Nat.mul_lt_mul'' h h'
section
variable{a b:Rat}
theorem B7(ha:Sz a)(hb:Sz b):vh [.d<|fR a,.d<|fR b]=ž (.d<|fR<|a+b,[.d<|fR a,.d<|fR b]):=by
 refine g7 ?_;have da:=qL a;have db:=qL b;have uf:((a.den:Int) * (b.den:Int))≠0:=ø (by omega) (by omega);have lf:=vm (n:=a.num * (b.den:Int)+b.num * (a.den:Int)) uf (by rw[ň,Ġ,Ġ];exact KG ha.d hb.d);rw[Mg]at lf;simp![vh,NZ,nW (gS ha.n)<|gS hb.di,nW (gS hb.n)<|gS ha.di,nW (gS ha.di)<|gS hb.di,lf]
theorem G6(ha:Sz a)(hb:Sz b):u9 [.d<|fR a,.d<|fR b]=ž (.d<|fR<|a * b,[.d<|fR a,.d<|fR b]):=by
 refine g7 ?_;have da:=qL a;have db:=qL b;have uf:((a.den:Int) * (b.den:Int))≠0:=ø (by omega) (by omega);have lf:=vm (n:=a.num * b.num) uf (by rw[ň,Ġ,Ġ];exact KG ha.d hb.d);rw[Mf]at lf;simp![u9,Oj,nW (gS ha.n)<|gS hb.n,nW (gS ha.di)<|gS hb.di,lf]
theorem GS{x g:Int}(hx:0<=x)(hg:0 < g)(h:x.natAbs < 2^4000):(x / g).natAbs < 2^4000:=by
 have h1:x / g<=x:=Int.ediv_le_self g hx;have h2:0<=x / g:=Int.ediv_nonneg hx (by omega);omega
theorem MV(ha:Sz a)(hb:Sz b):xC [.d<|fR a,.d<|.int b.num,.d<|.int (b.den:Int)]=ž (.d<|fR<|a+b,[.d<|fR a,.d<|.int b.num,.d<|.int (b.den:Int)]):=by
 refine g7 ?_;have da:=qL a;have db:=qL b;have uf:((a.den:Int) * (b.den:Int))≠0:=ø (by omega) (by omega);have al:=XB (a:=a.num) (b:=(a.den:Int)) (c:=b.num) (d:=(b.den:Int)) da db (vV a) (vV b) rfl rfl rfl;have(HS,HR):=F7 (n:=a.num * (b.den:Int)+b.num * (a.den:Int)) uf;rw[HS,HR,Mg]at al;have gl:ē (a.den:Int) (b.den:Int)<=(b.den:Int).natAbs:=å _ (by omega);have gp:0 < ē (a.den:Int) (b.den:Int):=Ë _ (by omega);have cf:mQ [.d<|.int (a.den:Int),.d<|.int (b.den:Int)]=_:=Ct (by omega) (by omega);generalize eg:ē (a.den:Int) (b.den:Int)=g at al gl gp cf;have g0:(0:Int) < (g:Int):=by omega
 have cg:∀z:Int,pq z (g:Int):=λz=>⟨g0,by rw[Ġ];exact xj gl<|yq hb.di⟩;have s1:=GS (x:=(b.den:Int)) (by omega) g0 hb.di;have s2:=GS (x:=(a.den:Int)) (by omega) g0 ha.di;generalize et:a.num * ((b.den:Int) / (g:Int))+b.num * ((a.den:Int) / (g:Int))=t at al;have ll:ē t (g:Int)<=(g:Int).natAbs:=å _ (by omega);have lp:0 < ē t (g:Int):=Ë _ (by omega);have Je:mQ [.d<|.int (if t < 0 then -t else t),.d<|.int (g:Int)]=_:=Ct (by split<;>omega) (by omega);rw[FU]at Je;generalize el:ē t (g:Int)=l at al ll lp Je;have l0:(0:Int) < (l:Int):=by omega
 have cl:∀z:Int,pq z (l:Int):=λz=>⟨l0,by rw[Ġ];exact xj (by omega)<|yq hb.di⟩;have s3:=GS (x:=(b.den:Int)) (by omega) l0 hb.di;simp![xC,LQ,cf,xr<|cg _,nW (gS ha.n)<|gS s1,nW (gS hb.n)<|gS s2,et,Je,xr<|cl _,nW (gS s2)<|gS s3];rw[al.1,al.2];rfl
theorem LO(ha:Sz a)(hb:Sz b):xw [.d<|fR a,.d<|fR b]=ž (.d<|fR<|a+b,[.d<|fR a,.d<|fR b]):=by
 refine g7 ?_;simp![xw,KL,MV ha hb]
end
section
variable{a b:Rat}
theorem Gv(ha:Sz a)(hb:Sz b):u4 [.d<|fR a,.d<|fR b]=ž (.d<|fR<|a * b,[.d<|fR a,.d<|fR b]):=by
 refine g7 ?_;have da:=qL a;have db:=qL b;have uf:((a.den:Int) * (b.den:Int))≠0:=ø (by omega) (by omega);have ml:=XA (a:=a.num) (b:=(a.den:Int)) (c:=b.num) (d:=(b.den:Int)) da db (vV a) (vV b) rfl rfl;have(HS,HR):=F7 (n:=a.num * b.num) uf;rw[HS,HR,Mf]at ml;have gl:ē a.num (b.den:Int)<=(b.den:Int).natAbs:=å _ (by omega);have gp:0 < ē a.num (b.den:Int):=Ë _ (by omega);have hl:ē b.num (a.den:Int)<=(a.den:Int).natAbs:=å _ (by omega);have hp:0 < ē b.num (a.den:Int):=Ë _ (by omega);have c1:mQ [.d<|.int (if a.num < 0 then -a.num else a.num),.d<|.int (b.den:Int)]=_:=Ct (by split<;>omega) (by omega);have c2:mQ [.d<|.int (if b.num < 0 then -b.num else b.num),.d<|.int (a.den:Int)]=_:=Ct (by split<;>omega) (by omega);rw[FU]at c1 c2;generalize ē a.num (b.den:Int)=g at ml gl gp c1;generalize ē b.num (a.den:Int)=h at ml hl hp c2;have cg:∀z:Int,pq z (g:Int):=λz=>⟨by omega,by rw[Ġ];exact xj gl<|yq hb.di⟩;have chh:∀z:Int,pq z (h:Int):=λz=>⟨by omega,by rw[Ġ];exact xj hl<|yq ha.di⟩;have sm:∀{x:Int} {k:Nat},0 < k->x.natAbs < 2^4000->(x / (k:Int)).natAbs < 2^4000:=λ{x k} hk hx=>È (Int.natAbs_ediv_le_natAbs x (k:Int)) hx;simp![u4,LP,c1,c2,xr<|cg _,xr<|chh _,nW (gS<|sm gp ha.n)<|gS<|sm hp hb.n,nW (gS<|sm hp ha.di)<|gS<|sm gp hb.di];rw[ml.1,ml.2];rfl
end
section
variable{a b:Rat}
theorem Sz.neg(h:Sz b):Sz (-b):=⟨by rw[a3c,a2a];exact h.n,by rw[a3d];exact h.d⟩
theorem WN(ha:Sz a)(hb:Sz b):Bi [.d<|fR a,.d<|fR b]=ž (.d<|fR<|a - b,[.d<|fR a,.d<|fR b]):=by
 refine g7 ?_;have h:=MV ha hb.neg;rw[a3c,a3d,<-a0N]at h;simp![Bi,KJ,h]
end
noncomputable abbrev vY:Str := "abcdefghijklmnopqrstuvwxyz"
theorem BE:∀c∈vY.cps.toList,c < 128:=by decide
theorem BD:vY.length=26:=by decide
theorem WM{z:Str}{n:Int}(h0:0<=n)(h1:n<=1):xh (.d<|.str z) (.d<|.int n)=ž (.d<|.str<|uy z n):=by
 unfold xh;dsimp only;rw[a4b ⟨h0,h1⟩]
theorem WL{k:Nat}{z:Str}{n:Int}(hz:bL k z)(h0:0<=n)(h1:n<=1):bL k (uy z n):=by
 rcases(by omega:n=0\/n=1)with rfl|rfl
 .exact⟨Ê _,λc hc=>by cases hc⟩
 .exact hz
theorem P4{zs:Qa Str}{lo hi:Qb Int}:∃ws:Qa Str,kZ (zs.map Ĩ) lo hi=ws.map Ĩ/\ws.length<=zs.length/\∀z∈ws,z∈zs:=by
 refine⟨(zs.drop<|HT.aW zs.length 0 lo).take<|HT.aW zs.length zs.length hi - HT.aW zs.length 0 lo,?_,?_,λz hz=>List.mem_of_mem_drop<|List.mem_of_mem_take hz⟩
 .unfold kZ
  rw[ĉ,<-List.map_drop,<-List.map_take]
 .rw[ě,ſ]
  omega
theorem JP{neg:Bool}{zs:Qa Str}{Q:U->Prop}(k:∀b,Q<|.d<|.bool b):Wo (nC neg (.d<|.str x)<|.l<|zs.map Ĩ) Q:=by
 unfold nC;show Wo ((wx (.str x)<|zs.map Ĩ).bind _) Q;unfold wx;rw[GD];exact⟨_,rfl,k _⟩
theorem zB2{neg:Bool}{zs:Qa Str}{Q:U->Prop}(k:∀b,Q<|.d<|.bool b):Wo (nC neg (.d<|.str x)<|.d<|.tuple<|zs.map Ĩ) Q:=by
 unfold nC;show Wo ((wx (.str x)<|zs.map Ĩ).bind _) Q;unfold wx;rw[GD];exact⟨_,rfl,k _⟩
theorem WK{x m:Int}{Q:U×Qa U->Prop}(h1:1<=m)(h3:m<=3)(k:∀(ns:Qa Str) x' y',ns.length=m.toNat->(∀z∈ns,bL 10 z)->Q (.d<|.tuple<|ns.map .str,[bx x' y',.d<|.int m])):Wo (Ci [bx x y,.d<|.int m]) Q:=by
 simp![Ci,Om];refine dW (by decide) (by decide) λr1 x1 y1 a1 b1=>?_;simp!;refine L9 (λi ρ ys=>E3 λ(x y:Int) (zs:Qa Str)=>ρ=[Ž,ž<|bx x y,ž<|.d<|.str vY]/\ys=zs.map Ĩ/\zs.length=i/\∀z∈zs,bL 1 z) ?_ ⟨_,_,[],rfl,rfl,rfl,λz hz=>by cases hz⟩ ?_ ?_ ?_
 .rw[zl];omega
 .rintro i ρ ys ⟨x,y,zs,rfl,rfl,hl,_⟩
  simp[hl]
 .rintro i _ _ hi ⟨x,y,zs,rfl,rfl,hl,hz⟩
  simp![K7];refine dW (by decide) (by decide) λr2 x2 y2 a2 b2=>?_;simp!;refine BI a2 (by rw[BD];omega) (by decide) λc hc=>?_;simp!;exact⟨x2,y2,zs++[⟨#[c]⟩],rfl,by rw[Ē];rfl,by rw[qu,hl];rfl,λz yu=>by
   rcases Ï.mp yu with h|h
   .exact hz z h
   .cases qr.mp h
    exact bL.one<|BE c hc⟩
 rintro _ _ ⟨x2,y2,sg,rfl,rfl,hl,hs⟩;simp!;refine dW (by omega) (by omega) λr3 x3 y3 a3 b3=>?_;simp!;refine dW (by decide) (by decide) λr4 x4 y4 a4 b4=>?_;simp!;refine Kc (λi ρ=>E6 λ(x y:Int) (v7 v8 v9:Qb U) (zs:Qa Str)=>ρ=[ž<|bx x y,ž<|.d<|.int m,ž<|.d<|.str vY,ž<|.l<|sg.map .str,ž<|.d<|.int r3,ž<|.d<|.int r4,ž<|.l<|zs.map Ĩ,v7,v8,v9,Ž]/\zs.length=i/\∀z∈zs,bL 10 z) ⟨x4,y4,Ž,Ž,Ž,[],rfl,rfl,λz hz=>by cases hz⟩ ?_ ?_
 .rintro i _ hi ⟨x,y,v7,v8,v9,zs,rfl,yD,hz⟩
  simp!;refine BI (â _ (by decide)) (by rw[BD];exact ð _ (by decide)) (by decide) λc hc=>?_;simp!;have(w1,e1,l1,m1):=P4 (zs:=sg) (lo:=Ž) (hi:=ž r3);rw[e1];refine L8 (n:=1) (m:=4) (λz hz=>hs z<|m1 z hz) (by omega) (by decide) λj1=>?_;simp!;refine xp j1 (bL.one<|BE c hc) (by decide) λj2=>?_;simp!;have(w2,e2,l2,m2):=P4 (zs:=sg) (lo:=ž (r3+1)) (hi:=Ž);rw[e2];refine L8 (n:=1) (m:=4) (λz hz=>hs z<|m2 z hz) (by omega) (by decide) λj3=>?_;simp!;refine xp j2 j3 (by decide) λj4=>?_;simp!;refine dW (by decide) (by decide) λr5 x5 y5 a5 b5=>?_;simp![WM];refine xp j4 (WL (show bL 1 "q" by unfold bL;decide) a5 (by omega)) (by decide) λj5=>?_;simp!;refine JP λb=>?_;generalize ζ "" w1++{cps:=#[c]}++ζ "" w2++uy "q" r5=nm at *;have fin:∀(nm:Str),bL 10 nm->E6 λ(x y:Int) (v7 v8 v9:Qb U) (ws:Qa Str)=>[ž<|bx x5 y5,ž<|.d<|.int m,ž<|.d<|.str vY,ž<|.l<|sg.map .str,ž<|.d<|.int r3,ž<|.d<|.int r4,ž<|.l<|zs.map Ĩ++[.str nm],ž<|.d<|.int<|0+(i:Nat),ž<|.d<|.str ⟨#[c]⟩,ž<|.d<|.str nm,Ž]=[ž<|bx x y,ž<|U.d<|.int m,ž<|.d<|.str vY,ž<|.l<|sg.map .str,ž<|.d<|.int r3,ž<|.d<|.int r4,ž<|.l<|ws.map Ĩ,v7,v8,v9,Ž]/\ws.length=i+1/\∀z∈ws,bL 10 z:=λnm hn=>
   ⟨x5,y5,_,_,_,zs++[nm],by rw[Ē];rfl,by rw[qu,yD];rfl,λz yu=>by
    rcases Ï.mp yu with h|h
    .exact hz z h
    .cases qr.mp h
     exact hn⟩
  cases b with
  |true=>
   simp!;refine BI (by omega) (by rw[BD];omega) (by decide) λd hd=>?_;simp!;refine xp (show bL 2 "zz" by unfold bL;decide) (bL.one<|BE d hd) (by decide) λj6=>?_;simp!;exact fin _<|j6.mono (by decide)
  |false=>
   simp!;refine zB2 (zs:=["part", "end", "give", "rounds", "letters"]) λb=>?_;cases b with
   |true=>
    simp!;refine BI (by omega) (by rw[BD];omega) (by decide) λd hd=>?_;simp!;refine xp (show bL 2 "zz" by unfold bL;decide) (bL.one<|BE d hd) (by decide) λj6=>?_;simp!;exact fin _<|j6.mono (by decide)
   |false=>
    simp!;exact fin _ j5
 .rintro _ ⟨x,y,v7,v8,v9,zs,rfl,yD,hz⟩
  simp!;refine dW (by decide) (by decide) λr5 x5 y5 a5 b5=>?_;simp!;refine nP (λh5=>?_) λh5=>?_
  .simp!
   refine dW (by decide) (by decide) λr6 x6 y6 a6 b6=>?_;simp!;refine SQ (f:=Ĩ) (xs:=["ends", "pa", "gives", "giv", "x", "y", "r", "rk"]) a6 b6 λz mz _=>?_;have az:bL 10 z:=by
    have:∀z∈(["ends", "pa", "gives", "giv", "x", "y", "r", "rk"]:Qa Str),bL 10 z:=by unfold bL;decide
    exact this z mz
   simp!;refine JP λb=>?_;cases b with
   |false=>
    simp!;exact k zs _ _ yD hz
   |true=>
    simp!;refine dW (by omega) (by omega) λr7 x7 y7 a7 b7=>?_;have e7:fA zs.length r7=ž r7.toNat:=by
     unfold fA;rw[a4b a7,a4b (by omega)]
    simp![e7];have es:(zs.map Ĩ).set r7.toNat (.str z)=(zs.set r7.toNat z).map Ĩ:=by rw[List.map_set]
    rw[es];refine k _ _ _ (by rw[ĕ];exact yD) λw hw=>?_;rcases List.mem_or_eq_of_mem_set hw with h|h
    .exact hz w h
    .exact h▸az
  .simp!
   exact k zs _ _ yD hz
theorem DQ{d:Int}(h:1<=d)(h2:d<=1000000):d.natAbs.log2 < 9000:=ý (B9 (k:=30) (by decide) (by omega)) (by decide)
theorem nO{n d:Int}(hn:n.natAbs<=1000000)(h1:1<=d)(h4:d<=4):Bd 12 12000000 (Ī n d):=by
 have:d∣((12:Nat):Int):=by
  rcases(by omega:d=1\/d=2\/d=3\/d=4)with rfl|rfl|rfl|rfl<;>decide
 exact(SJ (M:=12) (by omega) this (by decide)).le (by omega)
theorem YA{x:Int}{Q:U×Qa U->Prop}(k:∀r x' y',Bd 12 12000000 r->Q (.d<|fR r,[bx x' y'])):Wo (xP [bx x y]) Q:=by
 simp![xP,OS];refine dW (by decide) (by decide) λr x1 y1 h0 h1=>?_;simp!;refine nP (λh7=>?_) λh7=>?_
 .simp!
  refine Fy h0 (by show r < 7;omega) λa ha=>?_;have hq:∃q:Rat,a=fR q/\Bd 12 12000000 q:=by
   simp only[qw,a1n,or_false]at ha;rcases ha with rfl|rfl|rfl|rfl|rfl|rfl|rfl
   .exact⟨Ī 0 1,rfl,nO (by decide) (by decide) (by decide)⟩
   .exact⟨Ī 1 1,rfl,nO (by decide) (by decide) (by decide)⟩
   .exact⟨Ī 1 1,rfl,nO (by decide) (by decide) (by decide)⟩
   .exact⟨Ī (-1) 1,rfl,nO (by decide) (by decide) (by decide)⟩
   .exact⟨Ī 2 1,rfl,nO (by decide) (by decide) (by decide)⟩
   .exact⟨Ī 1 2,rfl,nO (by decide) (by decide) (by decide)⟩
   .exact⟨Ī (-2) 3,rfl,nO (by decide) (by decide) (by decide)⟩
  have(q,rfl,hq):=hq;simp!;exact k q _ _ hq
 .simp!
  refine nP (λh11=>?_) λh11=>?_
  .simp!
   refine dW (by decide) (by decide) λr2 x2 y2 h2 h3=>?_;simp!;refine dW (by decide) (by decide) λr3 x3 y3 h4 h5=>?_;simp![vm (n:=r2 - 9) (d:=1+r3) (by omega)<|DQ (by omega) (by omega)];exact k _ _ _<|nO (by omega) (by omega) (by omega)
  .simp!
   refine dW (by decide) (by decide) λr2 x2 y2 h2 h3=>?_;simp!;refine dW (by decide) (by decide) λr3 x3 y3 h4 h5=>?_;simp![vm (n:=r2 - 999999) (d:=1+r3) (by omega)<|DQ (by omega) (by omega)];exact k _ _ _<|nO (by omega) (by omega) (by omega)
theorem WJ{x:Int}{Q:U×Qa U->Prop}(k:∀r x' y',Bd 12 12000000 r->Q (.d<|fR r,[bx x' y'])):Wo (Cg [bx x y]) Q:=by
 simp![Cg,Oi];refine dW (by decide) (by decide) λr2 x2 y2 h2 h3=>?_;simp!;refine dW (by decide) (by decide) λr3 x3 y3 h4 h5=>?_;simp![vm (n:=r2 - 5) (d:=1+r3) (by omega)<|DQ (by omega) (by omega)];exact k _ _ _<|nO (by omega) (by omega) (by omega)
abbrev iy(pt:Qa Rat):D:=.tuple (pt.map fR)
theorem Yz{pt:Qa Rat}{r:Rat}(hl:pt.length=i)(hb:∀r∈pt,Bd 12 12000000 r)(hr:Bd 12 12000000 r):pt.map fR++[fR r]=(pt++[r]).map fR/\(pt++[r]).length=i+1/\∀s∈pt++[r],Bd 12 12000000 s :=
 ⟨by rw[Ē];rfl,by rw[qu,Ĳ];omega,λs hs=>by
   rcases Ï.mp hs with z|z
   .exact hb s z
   .rw[qr.mp z];exact hr⟩
theorem WI{x n:Int}{Q:U×Qa U->Prop}(h0:0<=n)(h1:n<=3)(k:∀pt x' y',pt.length=n.toNat->(∀r∈pt,Bd 12 12000000 r)->Q (.d<|iy pt,[bx x' y',.d<|.int n])):Wo (Cf [bx x y,.d<|.int n]) Q:=by
 simp![Cf,Of];refine A3 (λi ρ ys=>∃(x' y':Int) (pt:Qa Rat),ρ=[Ž,ž<|bx x' y']/\ys=pt.map fR/\pt.length=i/\∀r∈pt,Bd 12 12000000 r) (by rw[lK,wH];omega) ?_ ⟨_,_,[],rfl,rfl,rfl,λr hr=>by cases hr⟩ ?_ ?_
 .rintro i _ _ ⟨x',y',pt,rfl,rfl,hl,_⟩
  rw[ĉ];omega
 .rintro i d _ _ hd ⟨x',y',pt,rfl,rfl,hl,hb⟩
  simp!;refine WJ λr x2 y2 hr=>?_;simp!;exact⟨_,_,pt++[r],rfl,Yz hl hb hr⟩
 .rintro _ _ ⟨x',y',pt,rfl,rfl,hl,hb⟩
  simp!;rw[lK]at hl;exact k pt _ _ hl hb
end K36
open PySem Internal
namespace K36
open PySem Internal
inductive Nd where
 |aH (k:Nat)
 |times (a b:Nat)
 |bj (ps:Qa (Rat×Nat))
def pD(p:Rat×Nat):D:=.tuple [fR p.1,.int (p.2:Int)]
def Nd.d:Nd->D
 |.aH k=>.tuple [.str "letter",.int (k:Int)]
 |.times a b=>.tuple [.str "times",.int (a:Int),.int (b:Int)]
 |.bj ps=>.tuple [.str "mix",.tuple<|ps.map pD]
noncomputable def pk(p:Rat×Nat):Jk:=.inr [.inr [.inl<|.inl p.1.num,.inl<|.inl (p.1.den:Int)],.inl<|.inl (p.2:Int)]
def Nd.k:Nd->Qa K3
 |.aH k=>[.inl<|.inr "letter",.inl<|.inl (k:Int)]
 |.times a b=>[.inl<|.inr "times",.inl<|.inl (a:Int),.inl<|.inl (b:Int)]
 |.bj ps=>[.inl<|.inr "mix",.inr<|ps.map pk]
theorem zB3(ps:Qa (Rat×Nat)):(ps.map pD).mapM (vG<|i0<|i0 gY)=ž (ps.map pk):=by
 induction ps with
 |nil=>rfl
 |cons p ps ih=>
  rw[Ċ,ŗ,ih];rfl
theorem Nd.nk(n:Nd):CP n.d=ž n.k:=by
 cases n with
 |aH k=>rfl
 |times a b=>rfl
 |bj ps=>
  have e:vG (i0<|i0<|i0 gY) (ϙ<|ps.map pD)=ž (.inr<|ps.map pk):=by
   show((ps.map pD).mapM<|vG<|i0<|i0 gY).map Ο=_;rw[zB3];rfl
  show [Ĩ "mix",.tuple<|ps.map pD].mapM (vG<|i0<|i0<|i0 gY)=_;rw[ŗ,ŗ,e];rfl
theorem S3{p q:Rat×Nat}(h:pk p=pk q):p=q:=by
 unfold pk at h;injection h with h;injection h with h1 h2;injection h1 with h1;injection h1 with a1 a2;injection a2 with a2 _;injection a1 with a1;injection a1 with a1;injection a2 with a2;injection a2 with a2;injection h2 with h2 _;injection h2 with h2;injection h2 with h2;exact Prod.ext (Rat.ext a1 (by omega)) (by omega)
theorem Nd.inj{n m:Nd}(h:n.k=m.k):n=m:=by
 cases n with
 |aH k=>cases m with
  |aH j=>
   injection h with _ h;injection h with h _;injection h with h;injection h with h;rw[show k=j by omega]
  |times a b=>cases h
  |bj ps=>cases h
 |times a b=>cases m with
  |aH j=>cases h
  |times c d=>
   injection h with _ h;injection h with h1 h2;injection h1 with h1;injection h1 with h1;injection h2 with h2 _;injection h2 with h2;injection h2 with h2;rw[show a=c by omega,show b=d by omega]
  |bj ps=>cases h
 |bj ps=>cases m with
  |aH j=>cases h
  |times c d=>cases h
  |bj qs=>
   injection h with _ h;injection h with h _;injection h with h;have e:ps=qs:=(a3p λ_ _=>S3).mp h;rw[e]
noncomputable def iL(ws:Qa Nat):Qa D:=ws.map λ(n:Nat)=>Ŕ (n:Int)
def dE(ns:Qa Nd)(hs:Qa Nat)(pl:Qa (Qa K3×D)):U:=.o "Netting" [("nodes",.l<|ns.map Nd.d),("reached",.l<|iL hs),("node_places",.x pl)]
structure Nt (ns:Qa Nd) (hs:Qa Nat) (pl:Qa (Qa K3×D)):Prop where
 len:hs.length=ns.length
 yQ:pl.length<=ns.length
 has:∀(i:Nat) (n:Nd),ns[i]?=ž n->eO pl n.k=ž (.int (i:Int))
 RK:∀k x,eO pl k=ž x->∃(i:Nat) (n:Nd),ns[i]?=ž n/\k=n.k/\x=.int (i:Int)
section
variable{ns:Qa Nd}{pl kv:Qa (Qa K3×D)}{xs:Qa D}
theorem wU:U.lS "Netting" "node_of" (dE ns hs pl)=ż:=rfl
theorem zB4:U.lS "Netting" "product_piece" (dE ns hs pl)=ż:=rfl
theorem zB5:U.lS "Netting" "mixed_piece" (dE ns hs pl)=ż:=rfl
theorem zB6:U.fl "Netting" "nodes" (dE ns hs pl)=ž (ns.map Nd.d):=rfl
theorem zB7:U.fl "Netting" "reached" (dE ns hs pl)=ž (iL hs):=rfl
theorem zB8:U.fp "Netting" "nodes" (dE ns hs pl)=ž (.l<|ns.map Nd.d):=rfl
theorem EH:U.fp "Netting" "reached" (dE ns hs pl)=ž (.l<|iL hs):=rfl
theorem EG:U.fp "Netting" "node_places" (dE ns hs pl)=ž (.x pl):=rfl
theorem zB9:U.aM "node_places" (.x kv) (dE ns hs pl)=dE ns hs kv:=rfl
theorem zCa{n:Nd}:U.aM "nodes" (.l<|ns.map Nd.d++[n.d]) (dE ns hs pl)=dE (ns++[n]) hs pl:=by
 show U.o _ _=U.o _ _;rw[Ē];rfl
theorem zCb{h:Nat}:U.aM "reached" (.l<|iL hs++[.int (h:Int)]) (dE ns hs pl)=dE ns (hs++[h]) pl:=by
 show U.o _ _=U.o _ _;unfold iL;rw[Ē];rfl
theorem pd{lR:Qa Nd}{oI:Qa Nat}{mX:Qa (Qa K3×D)}{x y:α}:(if(dE ns hs pl).own=ż/\(dE lR oI mX).own=Ż then x else y)=y:=a4c λz=>by cases z.2
end
theorem Hx{u:U}{row:D}{r:En}:oZ (Ar.s 1,ž u::ž (.d row)::r)=CP row:=rfl
theorem Yy{pl:Qa (Qa K3×D)}{k:Qa K3}{x:D}(c:¬k=key):(pl.map λkv=>if kv.1=key then(kv.1,x)else kv).find? (λkv=>decide<|kv.1=k)=pl.find? λkv=>decide (kv.1=k):=by
 induction pl with
 |nil=>rfl
 |cons t pl ih=>
  rw[Ċ,ģ,ģ]
  by_cases c1:t.1=key
  .have c3:¬t.1=k:=λz=>c<|z.symm.trans c1
   rw[a4b c1];dsimp only;rw[a4e c3];exact ih
  .rw[a4c c1]
   by_cases c3:t.1=k
   .rw[a4d c3]
   .rw[a4e c3]
    exact ih
theorem zpK{pl:Qa (Qa K3×D)}{x:D}(h:(pl.any λkv=>decide<|kv.1=key)=ż):((pl.map λkv=>if kv.1=key then(kv.1,x)else kv).find? λkv=>decide<|kv.1=key).map (·.2)=ž x:=by
 induction pl with
 |nil=>simp at h
 |cons t pl ih=>
  rw[Ċ,ģ]
  by_cases c:t.1=key
  .rw[a4b c]
   dsimp only;rw[a4d c];rfl
  .rw[a4c c,a4e c]
   refine ih ?_;rw[œ,a4e c,a2o]at h;exact h
theorem Gu{pl:Qa (Qa K3×D)}{k:Qa K3}{x:D}:eO (fE pl key x) k=if k=key then ž x else eO pl k:=by
 unfold eO fE;split
 .rename_i h
  by_cases c:k=key
  .subst c
   rw[a4b rfl];exact zpK h
  .rw[a4c c,Yy c]
 .rename_i h
  rw[List.find?_append]
  by_cases c:k=key
  .subst c
   rw[a4b rfl];have e:pl.find? (λkv=>decide<|kv.1=k)=Ž:=by
    rw[List.find?_eq_none];intro t ht z;exact h<|List.any_eq_true.mpr ⟨t,ht,z⟩
   rw[e];simp
  .rw[a4c c,ģ,a4e λz=>c z.symm,List.find?_nil,Option.or_none]
theorem Yx{pl:Qa (Qa K3×D)}{x:D}:(fE pl key x).length<=pl.length+1:=by
 unfold fE;split
 .rw[ĉ];omega
 .simp
theorem Nt.add{ns:Qa Nd}{pl:Qa (Qa K3×D)}{n:Nd}{h:Nat}(t:Nt ns hs pl)(e:eO pl n.k=Ž):Nt (ns++[n]) (hs++[h]) (fE pl n.k<|.int (ns.length:Int)):=by
 refine⟨by rw[qu,qu,t.len];rfl,?_,λi m hm=>?_,λk x hx=>?_⟩
 .have:=Yx (pl:=pl) (key:=n.k) (x:=.int (ns.length:Int))
  have:=t.yQ;rw[qu,Ĳ];omega
 .rw[Gu]
  rcases χ i ns.length with c|c
  .rw[č c]at hm
   have:=t.has i m hm;rw[a4c λz=>by rw[z,e]at this;cases this];exact this
  .rw[Ď c]at hm
   have hl:=(qm.mp hm).1;have e0:i - ns.length=0:=Nat.lt_one_iff.mp hl;rw[e0]at hm;cases hm;rw[a4b rfl,show i=ns.length by omega]
 .rw[Gu]at hx
  by_cases c:k=n.k
  .rw[a4b c]at hx
   cases hx;exact⟨ns.length,n,by rw[Ď<|qe _,ϡ];rfl,c,rfl⟩
  .rw[a4c c]at hx
   have(i,m,hm,e1,e2):=t.RK k x hx;exact⟨i,m,by rw[č (qm.mp hm).1];exact hm,e1,e2⟩
theorem zpL{ns:Qa Nd}{pl:Qa (Qa K3×D)}{n:Nd}{h:Nat}{Q:U×Qa U->Prop}(t:Nt ns hs pl)(hn:ns.length<=10000)
  (old:∀i:Nat,ns[i]?=ž n->Q (.d<|.int (i:Int),[dE ns hs pl,.d n.d,.d<|.int (h:Int)]))
  (new:∀mX,Nt (ns++[n]) (hs++[h]) mX->Q (.d<|.int (ns.length:Int),[dE (ns++[n]) (hs++[h]) mX,.d n.d,.d<|.int (h:Int)])):Wo (rF [dE ns hs pl,.d n.d,.d<|.int (h:Int)]) Q:=by
 have yQ:=t.yQ;have len:(iL hs).length=ns.length:=by unfold iL;rw[ĉ,t.len]
 simp![rF,O7,Hx,Nd.nk,EG,wU];cases e:eO pl n.k with
 |some v=>
  simp![a0v,Υ,Ř,Hx,Nd.nk,e,pd,EG];have(i,m,hm,e1,rfl):=t.RK _ _ e;cases Nd.inj e1;exact old i hm
 |none=>
  simp![Option.isSome_none,Bool.not_false,Hx,Nd.nk,EG,zB6,zB7,zB8,EH,zCa,zCb,zB9,Gu,pd,ĉ,len];exact new _<|t.add e
end K36
open PySem Internal
namespace K36
open PySem Internal
structure Nr where
 n:Nd
 h:Nat
 v:Rat
 o:Nat
 m:Nat
noncomputable def z0:Nr:=⟨.aH 0,0,0,0,1⟩
noncomputable def gt(st:Qa Nr)(i:Nat):Nr:=st.getD i z0
noncomputable def wq(d:Nat):Nat->Nat->Nat
 |0,k=>k
 |n+1,k=>if d∣12^k then k else wq d n (k+1)
def bX(f:Rat):Nat:=wq f.den 13 0
def fF(f:Rat):Nat:=f.num.natAbs * (12^bX f / f.den)
def oo(st:Qa Nr)(ps:Qa (Rat×Nat)):Nat:=(ps.map λp=>bX p.1+(gt st p.2).o).foldr max 0
def nr(pt:Qa Rat)(st:Qa Nr):Nd->Nr
 |.aH k=>⟨.aH k,1,pt.getD k 0,1,12000000⟩
 |.times a b=>⟨.times a b,(gt st a).h+(gt st b).h,(gt st a).v * (gt st b).v,(gt st a).o+(gt st b).o,(gt st a).m * (gt st b).m⟩
 |.bj ps=>⟨.bj ps,(gt st (ps.headD (0,0)).2).h,(ps.map λp=>p.1 * (gt st p.2).v).sum,oo st ps,(ps.map λp=>fF p.1 * (gt st p.2).m * 12^(oo st ps - bX p.1 - (gt st p.2).o)).sum⟩
theorem wo{pt:Qa Rat}{st:Qa Nr}{a b:Nat}:nr pt st (.times a b)=⟨.times a b,(gt st a).h+(gt st b).h,(gt st a).v * (gt st b).v,(gt st a).o+(gt st b).o,(gt st a).m * (gt st b).m⟩:=rfl
theorem wm{pt:Qa Rat}{st:Qa Nr}{ps:Qa (Rat×Nat)}:nr pt st (.bj ps)=⟨.bj ps,(gt st (ps.headD (0,0)).2).h,(ps.map λp=>p.1 * (gt st p.2).v).sum,oo st ps,(ps.map λp=>fF p.1 * (gt st p.2).m * 12^(oo st ps - bX p.1 - (gt st p.2).o)).sum⟩:=rfl
noncomputable def Gm:Nat:=2^1560
def lQ(many:Nat)(st:Qa Nr)(t:Nat):Nd->Prop
 |.aH k=>k < many
 |.times a b=>a < t/\b < t/\(gt st b).h<=(gt st a).h
 |.bj ps=>ps≠[]/\(ps.map (·.2)).Pairwise (· < ·)/\∀p∈ps,p.1≠0/\p.2 < t/\(gt st p.2).h=(gt st (ps.headD (0,0)).2).h/\bX p.1<=12/\Bd (12^12) Gm p.1
structure Gd (pt:Qa Rat) (st:Qa Nr):Prop where
 ok:∀i r,st[i]?=ž r->r=nr pt st r.n/\lQ pt.length st i r.n
 bd:∀r∈st,Bd (12^r.o) r.m r.v/\1<=r.m/\r.o<=12/\r.m<=Gm
section
variable{pt:Qa Rat}{st:Qa Nr}{n:Nd}{t many:Nat}
theorem sS{r:Nr}(h:i < st.length):gt (st++[r]) i=gt st i:=by
 unfold gt;rw[qC,qC,č h]
theorem lQ.lt(h:lQ many st t n):(∀a b,n=.times a b->a < t/\b < t)/\∀ps,n=.bj ps->ps≠[]/\∀p∈ps,p.2 < t:=by
 refine⟨λa b e=>?_,λps e=>?_⟩
 .subst e;exact⟨h.1,h.2.1⟩
 .subst e;exact⟨h.1,λp hp=>(h.2.2 p hp).2.1⟩
theorem u6{ps:Qa (Rat×Nat)}(h:ps≠[]):ps.headD (0,0)∈ps:=by
 cases ps with
 |nil=>exact absurd rfl h
 |cons p ps=>exact qq
theorem uP{f g:α->β}{xs:Qa α}(h:∀x∈xs,f x=g x):xs.map f=xs.map g:=õ h
theorem KE{r:Nr}(h:lQ many st t n)(ht:t<=st.length):nr pt (st++[r]) n=nr pt st n:=by
 have(h1,h2):=h.lt;cases n with
 |aH k=>rfl
 |times a b=>
  have(ha,hb):=h1 a b rfl;rw[wo,wo,sS<|qi ha ht,sS<|qi hb ht]
 |bj ps=>
  have(h0,hp):=h2 ps rfl;have g:∀p∈ps,gt (st++[r]) p.2=gt st p.2:=λp gI=>sS<|qi (hp p gI) ht;have eo:oo (st++[r]) ps=oo st ps:=by
   unfold oo;rw[uP λp gI=>by rw[g p gI]]
  have e1:(ps.map λ(p:Rat×Nat)=>p.1 * (gt (st++[r]) p.2).v)=ps.map λ(p:Rat×Nat)=>p.1 * (gt st p.2).v:=uP λp gI=>by rw[g p gI]
  have e2:(ps.map λ(p:Rat×Nat)=>fF p.1 * (gt (st++[r]) p.2).m * 12^(oo st ps - bX p.1 - (gt (st++[r]) p.2).o))=ps.map λ(p:Rat×Nat)=>fF p.1 * (gt st p.2).m * 12^(oo st ps - bX p.1 - (gt st p.2).o):=uP λp gI=>by rw[g p gI]
  rw[wm,wm,g _<|u6 h0,eo,e1,e2]
theorem LN{r:Nr}(h:lQ many st t n)(ht:t<=st.length):lQ many (st++[r]) t n:=by
 cases n with
 |aH k=>exact h
 |times a b=>
  have(h1,h2,h3):=h;refine⟨h1,h2,?_⟩;rw[sS (by omega),sS (by omega)];exact h3
 |bj ps=>
  have(h0,h1,h2):=h;refine⟨h0,h1,λp hp=>?_⟩;have(a,b,c,d):=h2 p hp;refine⟨a,b,?_,d⟩;rw[sS (by omega),sS<|qi (h2 _<|u6 h0).2.1 ht];exact c
theorem Gd.snoc(g:Gd pt st)(h:lQ pt.length st st.length n)(b:Bd (12^(nr pt st n).o) (nr pt st n).m (nr pt st n).v/\1<=(nr pt st n).m/\(nr pt st n).o<=12/\(nr pt st n).m<=Gm):Gd pt (st++[nr pt st n]):=by
 have en:(nr pt st n).n=n:=by cases n<;>rfl
 refine⟨λi r hr=>?_,λr hr=>?_⟩
 .rcases χ i st.length with c|c
  .rw[č c]at hr
   have(e,o):=g.ok i r hr;refine⟨?_,LN o<|Ý c⟩;rw[KE o<|Nat.le_of_lt c];exact e
  .rw[Ď c]at hr
   have hl:=(qm.mp hr).1;have e0:i - st.length=0:=Nat.lt_one_iff.mp hl;rw[e0]at hr;cases hr;have ei:i=st.length:=by omega
   subst ei;rw[en];exact⟨(KE h<|qe _).symm,LN h<|qe _⟩
 .rcases Ï.mp hr with hr|hr
  .exact g.bd r hr
  .cases qr.mp hr
   exact b
def NU(pt:Qa Rat)(st:Qa Nr)(u:U):Prop:=Gd pt st/\∃pl,Nt (st.map (·.n)) (st.map (·.h)) pl/\u=dE (st.map (·.n)) (st.map (·.h)) pl
def Ex(st aA:Qa Nr):Prop:=∃more,aA=st++more
theorem Bh{u:U}{Q:U×Qa U->Prop}(g:NU pt st u)(hn:st.length<=10000)(h:lQ pt.length st st.length n)
  (b:Bd (12^(nr pt st n).o) (nr pt st n).m (nr pt st n).v/\1<=(nr pt st n).m/\(nr pt st n).o<=12/\(nr pt st n).m<=Gm)
  (k:∀aA u' (i:Nat),NU pt aA u'->Ex st aA->aA.length<=st.length+1->aA[i]?=ž (nr pt st n)->Q (.d<|.int (i:Int),[u',.d n.d,.d<|.int ((nr pt st n).h:Int)])):
  Wo (rF [u,.d n.d,.d<|.int ((nr pt st n).h:Int)]) Q:=by
 have(g,pl,t,rfl):=g;have en:(nr pt st n).n=n:=by cases n<;>rfl
 refine zpL t (by rw[ĉ];exact hn) (λi hi=>?_) λmX t'=>?_
 .rw[Č]at hi
  have(r,hr,e):=qt.mp hi;have e2:=(g.ok i r hr).1;rw[e]at e2;exact k st _ i ⟨g,pl,t,rfl⟩ ⟨[],by simp⟩ (Ð _) (by rw[hr,e2])
 .have e1:(st++[nr pt st n]).map (·.n)=st.map (·.n)++[n]:=by rw[Ē,a0I,en]
  have e2:(st++[nr pt st n]).map (·.h)=st.map (·.h)++[(nr pt st n).h]:=by rw[Ē,a0I]
  rw[ĉ];refine k (st++[nr pt st n]) _ st.length ⟨g.snoc h b,mX,?_,?_⟩ ⟨_,rfl⟩ (by rw[qu];exact qe _) (by rw[Ď<|qe _,ϡ];rfl)
  .rw[e1,e2];exact t'
  .rw[e1,e2]
end
end K36
open PySem Internal
namespace K36
open PySem Internal
abbrev Pc:=Qb (Rat×Nat)
def dP:Pc->D
 |none=>.none
 |some p=>pD p
def pv(st:Qa Nr):Pc->Rat
 |none=>0
 |some p=>p.1 * (gt st p.2).v
def PB(st:Qa Nr)(k w G:Nat)(p:Pc):Prop:=∀f i,p=ž (f,i)->f≠0/\i < st.length/\(gt st i).h=k/\∃φ F,Bd (12^φ) F f/\1<=F/\φ+(gt st i).o<=w/\F * (gt st i).m * 12^(w - φ - (gt st i).o)<=G
section
variable{pt:Qa Rat}{st aA:Qa Nr}{k w:Nat}{p:Pc}
theorem Ex.gt(h:Ex st aA)(hi:i < st.length):gt aA i=gt st i:=by
 have(more,rfl):=h;unfold K36.gt;rw[qC,qC,č hi]
theorem Ex.len(h:Ex st aA):st.length<=aA.length:=by
 have(more,rfl):=h;rw[qu];exact é _ _
theorem Ex.refl:Ex st st:=⟨[],(ş st).symm⟩
theorem Ex.trans{s2:Qa Nr}(h:Ex st aA)(h':Ex aA s2):Ex st s2:=by
 have(a,rfl):=h;have(b,rfl):=h';exact⟨a++b,by rw[ŉ]⟩
theorem PB.ex(h:PB st k w G p)(e:Ex st aA):PB aA k w G p:=λf i hp=>by
 have(h1,h2,h3):=h f i hp;rw[e.gt h2];exact⟨h1,qi h2 e.len,h3⟩
theorem fP(h:PB st k w G p)(e:Ex st aA):pv aA p=pv st p:=by
 cases p with
 |none=>rfl
 |some p=>
  have(_,h2,_):=h p.1 p.2 rfl;show p.1 * _=p.1 * _;rw[e.gt h2]
theorem wR{r:Nr}(h:st[i]?=ž r):gt st i=r:=by
 unfold gt;rw[qC,h];rfl
theorem wQ(h:i < st.length):st[i]?=ž (gt st i):=by
 unfold gt;rw[qC,qo h];rfl
theorem Gd.at(g:Gd pt st)(h:i < st.length):Bd (12^(gt st i).o) (gt st i).m (gt st i).v/\1<=(gt st i).m/\(gt st i).o<=12/\(gt st i).m<=Gm:=g.bd _ (Ñ<|wQ h)
theorem Bd.sz{f:Rat}{φ F:Nat}(h:Bd (12^φ) F f)(hw:φ<=24)(hF:F<=Gm):Sz f:=by
 have(h1,h2):=h.size (Õ (by decide));exact⟨È h2<|È hF (by decide),È h1<|È (Í (by decide) hw) (by decide)⟩
theorem PB.le(h:PB st k w G p)(g:Gd pt st){f:Rat}(e:p=ž (f,i)):f≠0/\i < st.length/\(gt st i).h=k/\∃φ F,Bd (12^φ) F f/\1<=F/\φ+(gt st i).o<=w/\F * (gt st i).m * 12^(w - φ - (gt st i).o)<=G/\F<=G/\(gt st i).m<=G:=by
 have(h1,h2,h3,φ,F,h4,h5,h6,h7):=h f i e;have(_,g2,_):=g.at h2;have p1:1<=12^(w - φ - (gt st i).o):=Õ (by decide);refine⟨h1,h2,h3,φ,F,h4,h5,h6,h7,qA ?_ h7,qA ?_ h7⟩
 .exact qA (Æ _ g2) (Æ _ p1)
 .exact qA (Î _ h5) (Æ _ p1)
theorem zCc{ws:Qa Nat}{a:Nat}(h:a < ws.length):bf (iL ws) (a:Int)=ž (.int ((ws.getD a 0:Nat):Int)):=by
 refine jJ ?_;unfold iL;rw[Č,qo h,qC,qo h];rfl
theorem uB(h:i < st.length):bf (iL<|st.map (·.h)) (i:Int)=ž (.int (((gt st i).h:Nat):Int)):=by
 rw[zCc (by rw[ĉ];exact h)];unfold gt;rw[qC,qC,Č,qo h];rfl
end
theorem zpN{pt:Qa Rat}{st:Qa Nr}{u:U}{f1 f2:Rat}{i1 i2 k1 k2 w1 w2 G1 G2:Nat}{Q:U×Qa U->Prop}(g:NU pt st u)(hn:st.length<=10000)(h1:PB st k1 w1 G1 (ž (f1,i1)))(h2:PB st k2 w2 G2 (ž (f2,i2)))
  (hw:w1+w2<=12) (hG:G1 * G2<=Gm)
  (k:∀aA u' j,NU pt aA u'->Ex st aA->aA.length<=st.length+1->PB aA (k1+k2) (w1+w2) (G1 * G2) (ž (f1 * f2,j))->pv aA (ž (f1 * f2,j))=pv st (ž (f1,i1)) * pv st (ž (f2,i2))->Q (.d<|pD (f1 * f2,j),[u',.d<|pD (f1,i1),.d<|pD (f2,i2)])):
  Wo (Cy [u,.d<|pD (f1,i1),.d<|pD (f2,i2)]) Q:=by
 have(gd,pl,t,rfl):=g;have(a1,a2,a3,DG,F1,a4,a5,a6,a7,a8,a9):=h1.le gd rfl;have(b1,b2,b3,DE,F2,b4,b5,b6,b7,b8,b9):=h2.le gd rfl;have e1:=uB a2;have e2:=uB b2;simp![Cy,Px,pD,EH,e1,e2];have oa:=gd.at a2;have ob:=gd.at b2;have G1p:1<=G1:=qA a5 a8;have G2p:1<=G2:=qA b5 b8;have G1m:G1<=Gm:=qA (Æ _ G2p) hG;have G2m:G2<=Gm:=qA (Î _ G1p) hG;have s1:Sz f1:=Bd.sz a4 (by omega) (qA a8 G1m);have s2:Sz f2:=Bd.sz b4 (by omega) (qA b8 G2m);refine Wo.mono (Q:=λfl=>∃a b:Nat,fl=.nx [ž<|dE (st.map (·.n)) (st.map (·.h)) pl,ž<|.d<|pD (f1,i1),ž<|.d<|pD (f2,i2),ž<|.d<|.int (a:Int),ž<|.d<|.int (b:Int),Ž]/\(a=i1/\b=i2\/a=i2/\b=i1)/\(gt st b).h<=(gt st a).h) ?_ ?_
 .by_cases c:HT.bp [((gt st i1).h:Int),(i1:Int)] [((gt st i2).h:Int),(i2:Int)]=ż
  .rw[a4b c]
   simp!;refine⟨i2,i1,rfl,.inr ⟨rfl,rfl⟩,?_⟩;unfold HT.bp at c;split at c
   .omega
   .have:=a4f c
    omega
  .rw[a4c c]
   simp!;refine⟨i1,i2,rfl,.inl ⟨rfl,rfl⟩,?_⟩;unfold HT.bp at c;split at c
   .omega
   .have:=of_decide_eq_false (Bool.not_eq_true _▸c)
    omega
 rintro _ ⟨a,b,rfl,p8,hle⟩;have la:a < st.length:=by rcases p8 with⟨rfl,rfl⟩|⟨rfl,rfl⟩<;>assumption
 have lb:b < st.length:=by rcases p8 with⟨rfl,rfl⟩|⟨rfl,rfl⟩<;>assumption
 have en:nr pt st (.times a b)=⟨.times a b,k1+k2,(gt st i1).v * (gt st i2).v,(gt st i1).o+(gt st i2).o,(gt st i1).m * (gt st i2).m⟩:=by
  rw[wo];rcases p8 with⟨rfl,rfl⟩|⟨rfl,rfl⟩
  .rw[a3,b3]
  .rw[a3,b3,Ϣ k2,a1d (gt st a).v,Ϣ (gt st a).o,ϸ (gt st a).m]
 have eh:((gt st a).h:Int)+((gt st b).h:Int)=(((nr pt st<|.times a b).h:Nat):Int):=(a1N _ _).symm;have ea:=uB la;have eb:=uB lb;simp![pD,EH,ea,eb,wU,Gv s1 s2,eh];have bn:Bd (12^(nr pt st<|.times a b).o) (nr pt st<|.times a b).m (nr pt st<|.times a b).v/\1<=(nr pt st<|.times a b).m/\(nr pt st<|.times a b).o<=12/\(nr pt st<|.times a b).m<=Gm:=by
  rw[en];dsimp only;refine⟨?_,û oa.2.1 ob.2.1,by omega,qA (Ü a9 b9) hG⟩;rw[ħ];exact oa.1.mul ob.1
 refine Bh (n:=.times a b) ⟨gd,pl,t,rfl⟩ hn ⟨la,lb,hle⟩ bn λaA u' j nu ex len hj=>?_;have iY:=nu;have(Rz,mX,t',rfl):=nu;simp![pd];have ej:=wR hj;rw[en]at ej;refine k aA _ j iY ex len ?_ ?_
 .intro f i e
  cases e;rw[ej];refine⟨λz=>?_,(qm.mp hj).1,rfl,DG+DE,F1 * F2,by rw[ħ];exact a4.mul b4,û a5 b5,by dsimp only;omega,?_⟩
  .rcases Rat.mul_eq_zero.mp z with z|z
   .exact a1 z
   .exact b1 z
  .dsimp only
   rw[show w1+w2 - (DG+DE) - ((gt st i1).o+(gt st i2).o)=(w1 - DG - (gt st i1).o)+(w2 - DE - (gt st i2).o) by omega,ħ];have:=Ü a7 b7;refine qA (ì ?_) this
   ac_rfl
 .show f1 * f2 * (gt aA j).v=f1 * (gt st i1).v * (f2 * (gt st i2).v)
  rw[ej];dsimp only;grind
end K36
open PySem Internal
namespace K36
open PySem Internal
theorem WH{d φ:Nat}(hd:d∣12^φ):∀{n k:Nat},k<=φ->φ < k+n->wq d n k<=φ/\d∣12^wq d n k:=λ{n}=>by
 induction n with
 |zero=>intro k h1 h2;omega
 |succ n ih=>
  intro k h1 h2;unfold wq;split
  .rename_i c
   exact⟨h1,c⟩
  .rename_i c
   refine ih ?_ (by omega);rcases a0R h1 with z|z
   .exact z
   .subst z
    exact absurd hd c
section
variable{f:Rat}{φ F:Nat}
theorem Bg(h:Bd (12^φ) F f)(hw:φ<=12):bX f<=φ/\f.den∣12^bX f:=WH h.dvd (Ê _) (by omega)
theorem PH{M:Nat}(h:f.den∣M):f * (M:Rat)=((f.num * ((M / f.den:Nat):Int):Int):Rat):=by
 have(c,rfl):=h;rw[ι _ f.den_pos,Ō,<-GB,Ő,Ů,<-a1J]
theorem EF(h:f.den∣12^bX f):Bd (12^bX f) (fF f) f:=⟨_,PH h,ì (by rw[ň,Ġ];rfl)⟩
theorem JO(h:Bd (12^φ) F f)(hw:φ<=12):fF f * 12^(φ - bX f)<=F:=by
 have(p1,p2):=Bg h hw;have hd:=h.dvd;have(k,e,b):=h;rw[PH hd]at e;have e2:=Ć.mp e;refine qA (ì ?_) b;rw[<-e2,ň,Ġ];have(c,hc):=p2;unfold fF;rw[show 12^φ=12^bX f * 12^(φ - bX f) by rw[<-ħ,Nat.add_sub_cancel' p1],hc,ů,ů,ι _ f.den_pos,ι _ f.den_pos]
theorem KD(h:f.den∣12^bX f)(h0:f≠0):1<=fF f:=by
 unfold fF;refine û (Int.natAbs_pos.mpr λz=>h0<|Rat.num_eq_zero.mp z)<|Nat.div_pos (Nat.le_of_dvd (Õ (by decide)) h) f.den_pos
end
end K36
open PySem Internal
namespace K36
open PySem Internal
theorem AV(l:Qa D):dB Ż (.d<|.tuple l) (.d .none)=ž (.d<|.bool Ż):=rfl
theorem JN:dB Ż (.d .none) (.d .none)=ž (.d<|.bool ż):=rfl
theorem zCZ(b:Rat):wu Ż [1,1] (.d<|fR b)=ž (.d<|.bool<|decide<|b=1):=F6 (a:=b) (b:=1) (neg:=Ż)
noncomputable def oD:Qb Nat->D
 |none=>.none
 |some j=>.int (j:Int)
theorem zCe{pt:Qa Rat}{st:Qa Nr}{u:U}{p:Pc}{k w:Nat}{Q:U×Qa U->Prop}(g:NU pt st u)(hn:st.length<=10000)(hp:PB st k w G p)(hw:w<=12)(nB:G * 12^12<=Gm)
  (q:∀aA u' (o:Qb Nat),NU pt aA u'->Ex st aA->aA.length<=st.length+1->(o=Ž->p=Ž)->(∀j,o=ž j->j < aA.length/\(gt aA j).v=pv st p/\(gt aA j).h=k)->Q (.d<|oD o,[u',.d<|dP p,.d<|.int (k:Int)])):
  Wo (tw [u,.d<|dP p,.d<|.int (k:Int)]) Q:=by
 have g':=g;have(gd,pl,t,rfl):=g;cases p with
 |none=>
  simp![tw,G8,dP,JN,pd];exact q st _ Ž g' Ex.refl (Ð _) (λ_=>rfl) λj z=>by cases z
 |some p=>
  have(f,i):=p;have(a1,a2,a3,φ,F,a4,a5,a6,a7,a8,a9):=hp.le gd rfl;simp![tw,G8,dP,pD,AV];have hG:G<=Gm:=qA (Æ G<|Õ (by decide)) nB;have z:=zCZ f
  by_cases e:f=1
  .rw[a4d e]at z
   simp![z,pD,AV,pd];exact q st _ (ž i) g' Ex.refl (Ð _) (λz=>by cases z) λj z=>by
    cases z;exact⟨a2,by show _=f * _;rw[e,a1u],a3⟩
  .rw[a4e e]at z
   simp![z,pD,AV,wU];have pf:=Bg a4 (by omega);have hfb:Bd (12^12) Gm f:=by
    have h:=a4.wide (12^(12 - φ));rw[<-ħ,show φ+(12 - φ)=12 by omega]at h;exact h.le<|qA (Ü a8<|Í (by decide)<|Nat.sub_le _ _) nB
   have oa:=gd.at a2;have es:nr pt st (.bj [(f,i)])=⟨.bj [(f,i)],k,f * (gt st i).v,bX f+(gt st i).o,fF f * (gt st i).m⟩:=by
    rw[wm,<-a3];simp[oo,Ļ]
   have bn:Bd (12^(nr pt st<|.bj [(f,i)]).o) (nr pt st<|.bj [(f,i)]).m (nr pt st<|.bj [(f,i)]).v/\1<=(nr pt st<|.bj [(f,i)]).m/\(nr pt st<|.bj [(f,i)]).o<=12/\(nr pt st<|.bj [(f,i)]).m<=Gm:=by
    rw[es];dsimp only;refine⟨?_,û (KD pf.2 a1) oa.2.1,by omega,?_⟩
    .rw[ħ]
     exact(EF pf.2).mul oa.1
    .exact qA (Á _<|qA (Æ _<|Õ (by decide))<|JO a4 (by omega)) (qA (qA (Æ _<|Õ (by decide)) a7) hG)
   have ek:U.d (.int (k:Int))=U.d (.int ((nr pt st<|.bj [(f,i)]).h:Int)):=by rw[es]
   rw[ek];refine Bh (n:=.bj [(f,i)]) ⟨gd,pl,t,rfl⟩ hn ⟨by simp,by simp,λp hp=>by simp at hp;subst hp;exact⟨a1,a2,rfl,qA pf.1 (by omega),hfb⟩⟩ bn λaA u' j nu ex len hj=>?_;have iY:=nu;have(Rz,mX,t',rfl):=nu;simp![pd];have ej:=wR hj;rw[<-ek];refine q aA _ (ž j) iY ex len (λz=>by cases z) λj' z=>?_;cases z;rw[ej,es];exact⟨(qm.mp hj).1,rfl,rfl⟩
end K36
open PySem Internal
namespace K36
open PySem Internal
def PC(st:Qa Nr)(k w G:Nat)(p:Pc):Prop:=∀f i,p=ž (f,i)->i < st.length/\(gt st i).h=k/\∃φ F,Bd (12^φ) F f/\1<=F/\φ+(gt st i).o<=w/\F * (gt st i).m * 12^(w - φ - (gt st i).o)<=G
noncomputable def rH(c:Rat):Pc->Pc
 |none=>Ž
 |some p=>ž (p.1 * c,p.2)
section
variable{pt:Qa Rat}{st aA:Qa Nr}{k w w' F':Nat}{p:Pc}{c:Rat}
theorem PB.pc(h:PB st k w G p):PC st k w G p:=λf i e=>(h f i e).2
theorem PC.ex(h:PC st k w G p)(e:Ex st aA):PC aA k w G p:=λf i hp=>by
 have(h2,h3):=h f i hp;rw[e.gt h2];exact⟨qi h2 e.len,h3⟩
theorem EE:pv st (rH c p)=pv st p * c:=by
 cases p with
 |none=>exact(a1c c).symm
 |some p=>
  show p.1 * c * _=p.1 * _ * c;rw[Ů,a1d c,<-Ů]
theorem PC.sc(h:PC st k w G p)(hc:Bd (12^w') F' c)(h1:1<=F'):PC st k (w+w') (G * F') (rH c p):=λf i e=>by
 cases p with
 |none=>cases e
 |some p=>
  cases e;have(h2,h3,φ,F,h4,h5,h6,h7):=h p.1 p.2 rfl;refine⟨h2,h3,φ+w',F * F',?_,û h5 h1,by omega,?_⟩
  .rw[ħ]
   exact h4.mul hc
  .rw[show w+w' - (φ+w') - (gt st p.2).o=w - φ - (gt st p.2).o by omega,Δ F,Δ<|F * _]
   exact Á _ h7
theorem GK(hp:∀f i,p=ž (f,i)->Sz f)(hc:Sz c):sZ [.d<|dP p,.d<|fR c]=ž (.d<|dP<|rH c p,[.d<|dP p,.d<|fR c]):=by
 refine g7 ?_;cases p with
 |none=>
  simp![sZ,GJ,dP,rH,JN]
 |some p=>
  have e:=Gv (hp p.1 p.2 rfl) hc;simp![sZ,GJ,dP,rH,pD,AV,e]
end
end K36
open PySem Internal
namespace K36
open PySem Internal
abbrev dQ:=Qa (Nat×Rat)
noncomputable def iS:dQ->Nat->Rat
 |[],_=>0
 |p::r,i=>if p.1=i then p.2 else iS r i
noncomputable def fH:dQ->Nat->Rat->dQ
 |[],i,f=>[(i,0+f)]
 |p::r,i,f=>if p.1=i then(p.1,p.2+f)::r else p::fH r i f
def eU(kv:dQ):Qa (Key×D):=kv.map λp=>(.inl (p.1:Int),fR p.2)
theorem S2:∀kv:dQ,(eO (eU kv)<|.inl (i:Int)).getD (fR 0)=fR (iS kv i):=λkv=>by
 induction kv with
 |nil=>rfl
 |cons p kv ih=>
  unfold eO eU at *;rw[Ċ,ģ,iS]
  by_cases c:p.1=i
  .rw[a4b c,c]
   simp
  .rw[a4c c,a4e (λz=>c (by injection z with z;exact Ÿ z))]
   exact ih
theorem KC{kv:dQ}:((eU kv).any λx=>decide<|x.1=.inl (i:Int))=ż↔i∈kv.map (·.1):=by
 unfold eU;rw[List.any_map,List.any_eq_true,List.mem_map];constructor
 .rintro⟨p,hp,e⟩
  have e:=a4f e;injection e with e;exact⟨p,hp,Ÿ e⟩
 .rintro⟨p,hp,rfl⟩
  exact⟨p,hp,a4d rfl⟩
theorem Yw{f:Rat}{kv:dQ}(h:i∉kv.map (·.1)):fH kv i f=kv++[(i,iS kv i+f)]:=by
 induction kv with
 |nil=>rfl
 |cons p kv ih=>
  rw[Ċ,qw,not_or]at h;unfold fH iS;rw[a4c λz=>h.1 z.symm,a4c λz=>h.1 z.symm,ih h.2];rfl
theorem WG{d:D}{kv:dQ}(h:i∉kv.map (·.1)):((eU kv).map λx=>if x.1=.inl (i:Int)then(x.1,d)else x)=eU kv:=by
 unfold eU;rw[ĵ];refine õ λp hp=>?_;show(if(Ϸ (p.1:Int):Key)=_ then _ else _)=_;rw[a4c λz=>h<|List.mem_map.mpr ⟨p,hp,by injection z with z;exact Ÿ z⟩]
theorem TH{f:Rat}{kv:dQ}(n:(kv.map (·.1)).Nodup)(h:i∈kv.map (·.1)):((eU kv).map λx=>if x.1=.inl (i:Int)then(x.1,fR<|iS kv i+f)else x)=eU (fH kv i f):=by
 induction kv with
 |nil=>cases h
 |cons p kv ih=>
  rw[Ċ,ū]at n
  by_cases c:p.1=i
  .have o:=WG (d:=fR (iS (p::kv) i+f)) (c▸n.1)
   unfold fH;rw[a4b c];unfold eU at *;rw[Ċ,Ċ,o,c,a4b rfl];unfold iS;rw[a4b c];rfl
  .have e:=ih n.2 (by
    rw[Ċ,qw]at h;exact h.resolve_left λz=>c z.symm)
   unfold fH iS;rw[a4c c,a4c c];unfold eU at *;rw[Ċ,Ċ,e,a4c λz=>c (by injection z with z;exact Ÿ z)];rfl
theorem TF{f:Rat}{kv:dQ}(n:(kv.map (·.1)).Nodup):fE (eU kv) (.inl (i:Int)) (fR<|iS kv i+f)=eU (fH kv i f):=by
 unfold fE
 by_cases c:i∈kv.map (·.1)
 .rw[a4b<|KC.mpr c,TH n c]
 .rw[a4c λz=>c<|KC.mp z,Yw c]
  unfold eU;rw[Ē];rfl
theorem zpO{a:Nat}{f:Rat}{kv:dQ}:a∈(fH kv i f).map (·.1)↔a=i\/a∈kv.map (·.1):=by
 induction kv with
 |nil=>simp[fH]
 |cons p kv ih=>
  unfold fH
  by_cases c:p.1=i
  .rw[a4b c]
   simp only[Ċ,qw];exact⟨.inr,λz=>z.elim (λz=>.inl<|z.trans c.symm) id⟩
  .rw[a4c c]
   simp only[Ċ,qw,ih];exact⟨λz=>by rcases z with z|z|z<;>simp[z],λz=>by rcases z with z|z|z<;>simp[z]⟩
theorem zmO{f:Rat}{kv:dQ}(n:(kv.map (·.1)).Nodup):((fH kv i f).map (·.1)).Nodup:=by
 induction kv with
 |nil=>simp[fH]
 |cons p kv ih=>
  unfold fH
  by_cases c:p.1=i
  .rw[a4b c]
   exact n
  .rw[a4c c]
   rw[Ċ,ū]at n ⊢;exact⟨λz=>(zpO.mp z).elim c n.1,ih n.2⟩
theorem YJ{f:Rat}{v:Nat->Rat}{kv:dQ}:((fH kv i f).map λp=>p.2 * v p.1).sum=(kv.map λp=>p.2 * v p.1).sum+f * v i:=by
 induction kv with
 |nil=>
  simp[fH,a2I,Ļ]
 |cons p kv ih=>
  unfold fH
  by_cases c:p.1=i
  .rw[a4b c,Ċ,Ċ,Ė,Ė,<-c,Rat.add_mul,ϫ,ϫ,Rat.add_comm<|f * _]
  .rw[a4c c,Ċ,Ċ,Ė,Ė,ih,ϫ]
theorem YI{f:Rat}{kv:dQ}{p:Nat×Rat}(h:p∈fH kv i f):p∈kv\/∃x,p=(i,x+f)/\(x=0\/(i,x)∈kv):=by
 induction kv with
 |nil=>
  rw[fH,qr]at h;exact .inr ⟨0,h,.inl rfl⟩
 |cons q kv ih=>
  unfold fH at h
  by_cases c:q.1=i
  .rw[a4b c]at h
   rcases qw.mp h with z|z
   .exact .inr ⟨q.2,by rw[z,c],.inr (by rw[<-c];exact qq)⟩
   .exact .inl (qp _ z)
  .rw[a4c c]at h
   rcases qw.mp h with z|z
   .exact .inl (z▸qq)
   .rcases ih z with z|⟨x,e,z⟩
    .exact .inl (qp _ z)
    .exact .inr ⟨x,e,z.imp id<|qp _⟩
end K36
open PySem Internal
namespace K36
open PySem Internal
section
variable{pt:Qa Rat}{st:Qa Nr}{k w G1 G2:Nat}{x f:Rat}
theorem uO:PC st k w G (ž (f,i))↔i < st.length/\(gt st i).h=k/\(gt st i).o<=w/\∃F,Bd (12^(w - (gt st i).o)) F f/\1<=F/\F * (gt st i).m<=G:=by
 constructor
 .intro h
  have(h1,h2,φ,F,h3,h4,h5,h6):=h f i rfl;refine⟨h1,h2,by omega,F * 12^(w - φ - (gt st i).o),?_,û h4<|Õ (by decide),?_⟩
  .have z:=h3.wide (12^(w - φ - (gt st i).o))
   rw[<-ħ,show φ+(w - φ - (gt st i).o)=w - (gt st i).o by omega]at z;exact z
  .rw[Δ]
   exact h6
 .rintro⟨h1,h2,h3,F,h4,h5,h6⟩ f' i' e
  cases e;refine⟨h1,h2,_,F,h4,h5,by omega,?_⟩;rw[show w - (w - (gt st i).o) - (gt st i).o=0 by omega,Nat.pow_zero,a1v];exact h6
theorem PC.mono{p:Pc}(h:PC st k w G1 p)(l:G1<=G2):PC st k w G2 p:=λf i e=>
 let ⟨h1,h2,φ,F,h3,h4,h5,h6⟩:=h f i e
 ⟨h1,h2,φ,F,h3,h4,h5,qA h6 l⟩
theorem PC.add(h:PC st k w G1 (ž (x,i)))(h':PC st k w G2 (ž (f,i))):PC st k w (G1+G2) (ž (x+f,i)):=by
 have(h1,h2,h3,F1,h4,h5,h6):=uO.mp h;have(_,_,_,F2,g4,g5,g6):=uO.mp h';refine uO.mpr ⟨h1,h2,h3,F1+F2,h4.add g4,by omega,?_⟩;rw[ϛ];exact a1Z h6 g6
theorem PC.sz(h:PC st k w G (ž (f,i)))(g:Gd pt st)(hw:w<=12)(hG:G<=Gm):Sz f:=by
 have(h1,h2,h3,F,h4,h5,h6):=uO.mp h;exact Bd.sz h4 (by omega)<|qA (qA (Æ _ (g.at h1).2.1) h6) hG
theorem WE{kv:dQ}:iS kv i=0\/(i,iS kv i)∈kv:=by
 induction kv with
 |nil=>exact .inl rfl
 |cons p kv ih=>
  unfold iS
  by_cases c:p.1=i
  .rw[a4b c,<-c]
   exact .inr qq
  .rw[a4c c]
   exact ih.imp id<|qp _
end
end K36
open PySem Internal
namespace K36
open PySem Internal
theorem TC(l:Qa D):dB ż (.d<|.tuple l) (.d .none)=ž (.d<|.bool ż):=rfl
theorem KW:dB ż (.d .none) (.d .none)=ž (.d<|.bool Ż):=rfl
theorem zCf{kv:dQ}:nH (.k<|eU kv) (.d<|.int (i:Int))=ž (eO (eU kv)<|.inl (i:Int)):=rfl
theorem WD{kv:dQ}:(eO (eU kv)<|.inl (i:Int)).getD (.tuple [.int 0,.int 1])=fR (iS kv i):=S2 kv
theorem zCg{kv:dQ}{f:Rat}(n:(kv.map (·.1)).Nodup)(l:kv.length<=100):A4 (.k<|eU kv) (.int (i:Int)) (fR<|iS kv i+f)=ž (.k<|eU<|fH kv i f):=by
 show(if(eU kv).length < ċ then ž (U.k<|fE (eU kv) (.inl (i:Int)) _)else Ž)=_;rw[a4b (by unfold eU;rw[ĉ];exact È l (by decide)),TF n]
theorem YH{kv:dQ}{f:Rat}:(fH kv i f).length<=kv.length+1:=by
 induction kv with
 |nil=>exact qe _
 |cons p kv ih=>
  unfold fH;split
  .exact Ð _
  .simp only[qv];omega
def iZ(p:Nat×Rat):D:=.tuple [.int (p.1:Int),fR p.2]
noncomputable def lN(p:Nat×Rat):Rat×Nat:=(p.2,p.1)
section
variable{M:Nat}{f:α->Rat}{g:α->Nat}{c:Nat}
theorem Fs{xs:Qa α}(h:∀x∈xs,Bd M (g x)<|f x):Bd M (xs.map g).sum (xs.map f).sum:=by
 induction xs with
 |nil=>exact Bd.zero
 |cons x xs ih=>
  rw[Ċ,Ċ,Ė,Ė];exact(h x qq).add<|ih λy hy=>h y<|qp _ hy
theorem KU{xs:Qa α}(h:∀x∈xs,g x * c<=G):(xs.map g).sum * c<=xs.length * G:=by
 induction xs with
 |nil=>simp
 |cons x xs ih=>
  rw[Ċ,Ė,qv,ϛ,Ϡ,Ϣ];exact a1Z (ih λy hy=>h y<|qp _ hy)<|h x qq
theorem WC{xs:Qa α}(n:xs≠[])(h:∀x∈xs,1<=g x):1<=(xs.map g).sum:=by
 cases xs with
 |nil=>exact absurd rfl n
 |cons x xs=>
  rw[Ċ,Ė];exact qA (h x qq)<|é _ _
theorem Nm{xs:Qa Nat}{w:Nat}(h:∀x∈xs,x<=w):xs.foldr max 0<=w/\∀x∈xs,x<=xs.foldr max 0:=by
 induction xs with
 |nil=>exact⟨Ê _,λx hx=>by cases hx⟩
 |cons y xs ih=>
  have(i1,i2):=ih λx hx=>h x<|qp _ hx;have hy:=h y qq;refine⟨Nat.max_le.mpr ⟨hy,i1⟩,λx hx=>?_⟩;show x<=max y _;rcases qw.mp hx with rfl|hx
  .exact ã _ _
  .exact qA (i2 x hx) (μ _ _)
end
section
variable{pt:Qa Rat}{st:Qa Nr}{k w:Nat}{ps:Qa (Rat×Nat)}
theorem YG(g:Gd pt st)(h0:ps≠[])(hs:(ps.map (·.2)).Pairwise (· < ·))(hp:∀p∈ps,p.1≠0/\PC st k w G (ž p))(hw:w<=12)(hl:ps.length * G<=Gm)(hG:G * 12^12<=Gm):
  lQ pt.length st st.length (.bj ps)/\(Bd (12^(nr pt st<|.bj ps).o) (nr pt st<|.bj ps).m (nr pt st<|.bj ps).v/\1<=(nr pt st<|.bj ps).m/\(nr pt st<|.bj ps).o<=12/\(nr pt st<|.bj ps).m<=Gm)/\(nr pt st<|.bj ps).h=k/\(nr pt st<|.bj ps).o<=w/\(nr pt st<|.bj ps).m * 12^(w - (nr pt st<|.bj ps).o)<=ps.length * G:=by
 have each:∀p∈ps,p.2 < st.length/\(gt st p.2).h=k/\bX p.1+(gt st p.2).o<=w/\p.1.den∣12^bX p.1/\1<=fF p.1/\fF p.1 * (gt st p.2).m * 12^(w - bX p.1 - (gt st p.2).o)<=G/\Bd (12^12) Gm p.1:=λp fV=>by
  have(p0,pc):=hp p fV;have(h1,h2,h3,F,h4,h5,h6):=uO.mp (show PC st k w G (ž (p.1,p.2)) from pc);have(q1,q2):=Bg h4 (by omega);have q3:=JO h4 (by omega);refine⟨h1,h2,by omega,q2,KD q2 p0,?_,?_⟩
  .rw[show w - bX p.1 - (gt st p.2).o=w - (gt st p.2).o - bX p.1 by omega,Δ]
   exact qA (Á _ q3) h6
  .have h:=h4.wide (12^(12 - (w - (gt st p.2).o)))
   rw[<-ħ,show w - (gt st p.2).o+(12 - (w - (gt st p.2).o))=12 by omega]at h;exact h.le<|qA (Ü (qA (Æ _ (g.at h1).2.1) h6)<|Í (by decide)<|Nat.sub_le _ _) hG
 have ow:=Nm (xs:=ps.map λp=>bX p.1+(gt st p.2).o) (w:=w) λx hx=>by
  have(p,fV,rfl):=À.mp hx;exact(each p fV).2.2.1
 have oe:(nr pt st<|.bj ps).o=oo st ps:=rfl;have o1:oo st ps<=w:=ow.1;have o2:∀p∈ps,bX p.1+(gt st p.2).o<=oo st ps:=λp fV=>ow.2 _<|À.mpr ⟨p,fV,rfl⟩;have hd:=u6 h0;have hk:(nr pt st<|.bj ps).h=k:=(each _ hd).2.1;have me:(nr pt st<|.bj ps).m=(ps.map λp=>fF p.1 * (gt st p.2).m * 12^(oo st ps - bX p.1 - (gt st p.2).o)).sum:=rfl;have mw:(nr pt st<|.bj ps).m * 12^(w - oo st ps)<=ps.length * G:=by
  rw[me];refine KU λp fV=>?_;have:=o2 p fV;rw[ů,<-ħ,show oo st ps - bX p.1 - (gt st p.2).o+(w - oo st ps)=w - bX p.1 - (gt st p.2).o by omega];exact(each p fV).2.2.2.2.2.1
 refine⟨⟨h0,hs,λp fV=>⟨(hp p fV).1,(each p fV).1,?_,?_,(each p fV).2.2.2.2.2.2⟩⟩,⟨?_,?_,?_,?_⟩,hk,by rw[oe];exact o1,by rw[oe];exact mw⟩
 .rw[(each p fV).2.1,(each _ hd).2.1]
 .have:=(each p fV).2.2.1
  omega
 .rw[oe,me]
  refine Fs λp fV=>?_;have h:=((EF (each p fV).2.2.2.1).mul (g.at (each p fV).1).1).wide (12^(oo st ps - bX p.1 - (gt st p.2).o));have:=o2 p fV;rw[<-ħ,<-ħ,show bX p.1+(gt st p.2).o+(oo st ps - bX p.1 - (gt st p.2).o)=oo st ps by omega]at h;exact h
 .rw[me]
  refine WC h0 λp fV=>?_;exact û (û (each p fV).2.2.2.2.1 (g.at (each p fV).1).2.1)<|Õ (by decide)
 .rw[oe];omega
 .exact qA (Æ _<|Õ (by decide)) (qA mw hl)
end
noncomputable def pX(kv:dQ):dQ:=kv.filter λp=>decide<|p.2≠0
def lO(kv:dQ):dQ:=(pX kv).mergeSort λa b=>decide<|a.1<=b.1
section
variable{kv:dQ}
theorem xM:(lO kv).Perm (pX kv):=List.mergeSort_perm _ _
theorem LM{p:Nat×Rat}(h:p∈lO kv):p∈kv/\p.2≠0:=by
 have:=List.mem_filter.mp (xM.mem_iff.mp h);exact⟨this.1,a4f this.2⟩
theorem MU(n:(kv.map (·.1)).Nodup):((pX kv).map (·.1)).Nodup:=List.Nodup.sublist (List.Sublist.map _ List.filter_sublist) n
theorem KS(n:(kv.map (·.1)).Nodup):((lO kv).map (·.1)).Pairwise (· < ·):=by
 have h1:(lO kv).Pairwise λa b=>decide (a.1<=b.1)=ż:=List.pairwise_mergeSort (λa b c h1 h2=>by
  have h1:=a4f h1;have h2:=a4f h2;exact a4d<|qA h1 h2) (λa b=>by
  by_cases c:a.1<=b.1
  .simp[c]
  .simp[c];omega) _
 have h2:((lO kv).map (·.1)).Nodup:=((xM (kv:=kv)).map (·.1)).nodup_iff.mpr (MU n);rw[Ų];have h3:=List.pairwise_map.mp h2;exact(h1.and h3).imp λ{a b} z=>a3B (a4f z.1) z.2
theorem YF{xs ys:Qa Rat}(h:xs.Perm ys):xs.sum=ys.sum:=by
 induction h with
 |nil=>rfl
 |cons x _ ih=>rw[Ė,Ė,ih]
 |swap x y l=>rw[Ė,Ė,Ė,Ė,<-ϫ,<-ϫ,Rat.add_comm x y]
 |trans _ _ a b=>exact a.trans b
theorem TB{v:Nat->Rat}:((lO kv).map λp=>p.2 * v p.1).sum=(kv.map λp=>p.2 * v p.1).sum:=by
 have e1:((pX kv).map λp=>p.2 * v p.1).sum=(kv.map λp=>p.2 * v p.1).sum:=by
  induction kv with
  |nil=>rfl
  |cons p kv ih=>
   unfold pX at *;rw[δ]
   by_cases c:p.2=0
   .rw[a4c (by simp[c]),ih,Ċ,Ė,c,a1c,a2I]
   .rw[a4b (by simp[c]),Ċ,Ċ,Ė,Ė,ih]
 rw[<-e1];exact YF<|(xM (kv:=kv)).map _
theorem Tz{kv:dQ}:tI (kv.map iZ)=ž (kv.map λp=>[(p.1:Int)]):=by
 induction kv with
 |nil=>rfl
 |cons p kv ih=>
  show(qk<|iZ p).bind (λk=>(tI<|kv.map iZ).bind λks=>ž<|k::ks)=_;rw[ih];rfl
theorem YE(n:(kv.map (·.1)).Nodup)(l:kv.length < 64):Fu (.l<|(pX kv).map iZ)=ž (.l<|(lO kv).map iZ):=by
 show(tI<|(pX kv).map iZ).bind _=_;rw[Tz,a0X];have nd:((pX kv).map λp=>[(p.1:Int)]).Nodup:=by
  have:=MU n;unfold List.Nodup at this ⊢;rw[Ų]at this ⊢;exact this.imp λ{a b} z q=>z (by injection q with q;exact Ÿ q)
 rw[a4b ⟨by rw[ĉ];exact È (þ _ _) l,nd⟩];refine congrArg (λx=>ž<|U.l x)<|MC ((xM (kv:=kv)).map _) ?_;have:=KS n;rw[Ų]at this ⊢;refine this.imp λ{a b} z=>⟨_,_,rfl,rfl,?_⟩;have z2:(a.1:Int) < b.1:=by omega
 simp[fe,z2];omega
end
end K36
open PySem Internal
namespace K36
open PySem Internal
theorem zCh:20000 < 10^470:=by decide
theorem Tx{p:Nat×Rat}(h1:p.1<=20000)(h2:p.2.num.natAbs < 10^470)(h3:p.2.den < 10^470):gA 2 2000 (iZ p):=
 (xD (n:=2) (k:=1) (M:=949) (ds:=[.int (p.1:Int),fR p.2]) (λd hd=>by
  rcases qw.mp hd with rfl|hd
  .exact(F9 (n:=470) (i:=(p.1:Int)) (by rw[Ġ];exact È h1 zCh)).mono (Ê _) (by decide)
  .rw[qr.mp hd]
   exact(K5 (n:=470) h2 h3).mono (by decide) (by decide))<|qe 2).mono (by decide) (by decide)
theorem zCi{L:dQ}(h:∀p∈L,p.1<=20000/\p.2.num.natAbs < 10^470/\p.2.den < 10^470)(hl:L.length<=20):iV Ż (.d<|.tuple<|L.map iZ) (.d<|.tuple [])=ž (.d<|.bool L.isEmpty):=by
 have n1:gA 3 (20 * (2000+2)+3) (.tuple<|L.map iZ):=xD (λd hd=>by
  have(p,hp,rfl):=À.mp hd;have(a,b,c):=h p hp;exact Tx a b c) (by rw[ĉ];exact hl)
 have n2:gA 1 (0 * (0+2)+3) (.tuple []):=xD (n:=0) (k:=0) (M:=0) (λd hd=>by cases hd) (by decide);rw[n1.RE n2 (by decide) (by decide)];cases L with
 |nil=>rfl
 |cons p L=>rfl
theorem Tw(kv:dQ):(eU kv).map CY=kv.map iZ:=by
 unfold eU;rw[ĵ];rfl
theorem zC0{b:Rat}:wu ż [0,1] (.d<|fR b)=ž (.d<|.bool<|decide<|b≠0):=by
 have:=F6 (a:=b) (b:=0) (neg:=ż);rw[a4b rfl]at this;refine Eq.trans this ?_
 by_cases c:b=0<;>simp[c]
theorem LL{pt:Qa Rat}{st:Qa Nr}{u pu:U}{ps:Qa Pc}{k w:Nat}{Q:U×Qa U->Prop}(Iu:pu.fz=ž (.list<|ps.map dP))(g:NU pt st u)(hn:st.length<=10000)(hl:ps.length<=20)(hp:∀p∈ps,PC st k w G p)(hw:w<=12)(nB:ps.length * ps.length * G * 12^12<=Gm)
  (q:∀aA u' r,NU pt aA u'->Ex st aA->aA.length<=st.length+1->PB aA k w (ps.length * ps.length * G) r->pv aA r=(ps.map<|pv st).sum->Q (.d<|dP r,[u',.d<|.list<|ps.map dP,.d<|.int (k:Int)])):
  Wo (vk [u,pu,.d<|.int (k:Int)]) Q:=by
 have g':=g;have(gd,pl,t,rfl):=g;have IV:ps.length * G * 12^12<=Gm:=by
  refine qA (Á _ ?_) nB;rw[ů];rcases Nat.eq_zero_or_pos ps.length with z|z
  .rw[z];simp
  .exact Î _ z
 have hG:ps.length * G<=Gm:=qA (Æ _<|Õ (by decide)) IV;simp![vk,Pk,Iu];refine rA (λbs cs ρ=>∃(kv:dQ) (o4 o5 o6:Qb U),ρ=[ž<|dE (a1R (λx=>x.n) st) (a1R (λx=>x.h) st) pl,ž<|U.d<|PyData.list<|a1R dP ps,ž<|U.d<|Ŕ ↑k,ž<|U.k<|eU kv,o4,o5,o6,Ž]/\(kv.map (·.1)).Nodup/\kv.length<=bs.length/\(∀p∈kv,PC st k w (bs.length * G)<|some (p.2,p.1))/\(kv.map λp=>p.2 * (gt st p.1).v).sum=(bs.map<|pv st).sum) ?_ ?_ ?_
 .exact⟨[],Ž,Ž,Ž,rfl,List.nodup_nil,qe _,λp hp=>(by cases hp),rfl⟩
 .rintro bs p cs ρ e ⟨kv,o4,o5,o6,rfl,n1,n2,n3,n4⟩
  have hb:bs.length+1<=ps.length:=by
   rw[e,qu,qv];omega
  have lU:=hp p (by rw[e];simp);have Rm:(bs.length+1) * G<=Gm:=qA (Á _ hb) hG;cases p with
  |none=>
   simp![dP,KW];refine⟨kv,_,_,_,rfl,n1,?_,λp hp=>(n3 p hp).mono ?_,?_⟩
   .exact Nat.le_succ_of_le n2
   .exact Á _ (Ð _)
   .rw[n4,Ē,Ş]
    simp[pv,Ļ]
  |some p=>
   have(f,i):=p;have sf:Sz f:=lU.sz gd hw (qA (Î _ (by omega)) Rm);have sx:Sz (iS kv i):=by
    rcases WE (kv:=kv) (i:=i)with z|z
    .rw[z];exact⟨by decide,by decide⟩
    .exact(n3 _ z).sz gd hw (qA (Á _<|Ð _) Rm)
   have ep:=LO sx sf;simp![dP,pD,TC,zCf,WD,ep,zCg n1 (show kv.length<=100 by omega)];refine⟨fH kv i f,_,_,_,rfl,zmO n1,?_,λp hp=>?_,?_⟩
   .have:=YH (kv:=kv) (i:=i) (f:=f)
    omega
   .rcases YI hp with z|⟨x,rfl,z|z⟩
    .exact(n3 p z).mono (Á _<|Ð _)
    .rw[z]
     simp only[a2I];exact lU.mono<|Î _<|Nat.succ_pos _
    .rw[Ϡ]
     exact(n3 _ z).add lU
   .rw[YJ (v:=λj=>(gt st j).v),n4,Ē,Ş]
    simp[pv,Ļ]
 .rintro ρ ⟨kv,o4,o5,o6,rfl,n1,n2,n3,n4⟩
  simp![Mj,Kv,Tw];refine K6 (b:=λp=>decide<|p.2≠0) (e:=iZ) (by show _<=16777216;omega) (λp _ ys=>?_) ?_
  .have z:=zC0 (b:=p.2)
   by_cases c:p.2=0
   .rw[a4e (by simp[c])]at z ⊢
    simp![iZ,z]
   .rw[a4d c]at z ⊢
    simp![iZ,z]
  have es:=YE n1 (show kv.length < 64 by omega);have ls:(lO kv).length<=kv.length:=by
   rw[xM.length_eq];exact þ _ _
  have hs:∀p∈lO kv,p.2≠0/\PC st k w (ps.length * G) (ž (p.2,p.1)):=λp hp=>⟨(LM hp).2,n3 p (LM hp).1⟩;have en:=zCi (L:=lO kv) (λp hp=>by
   have(_,pc):=hs p hp;have(h1,h2,h3,F,h4,h5,h6):=uO.mp pc;have(s1,s2):=h4.size (Õ (by decide));refine⟨by omega,È (qA s2<|qA (Æ _ (gd.at h1).2.1) h6) ?_,È s1<|È (Í (by decide) (show w - (gt st p.1).o<=12 by omega)) (by decide)⟩;have:10^470 * 12^12 > Gm:=by decide
   exact Nat.lt_of_mul_lt_mul_right<|È IV this) (by omega)
  have sv:((lO kv).map λp=>p.2 * (gt st p.1).v).sum=(ps.map<|pv st).sum:=(TB (v:=λi=>(gt st i).v)).trans n4;have CJ:=KS n1;have HH:kv.filter (λp=>decide<|p.2≠0)=pX kv:=rfl;generalize hL:lO kv=L at es ls hs en sv CJ;cases L with
  |nil=>
   rw[ı,List.isEmpty_nil]at en;simp![HH,es,ı,en,pd];refine q st _ Ž g' Ex.refl (Ð _) (λf i z=>by cases z) ?_;rw[<-sv];rfl
  |cons p L=>
   have Q9:=hs p qq;cases L with
   |nil=>
    rw[Ċ,ı,a3C]at en;simp![HH,es,Ċ,ı,en];simp![iZ,pd];refine q st _ (ž (p.2,p.1)) g' Ex.refl (Ð _) (λf i z=>?_) ?_
    .cases z
     have(h1,h2,φ,F,h3,h4,h5,h6):=Q9.2 p.2 p.1 rfl;refine⟨Q9.1,h1,h2,φ,F,h3,h4,h5,qA h6 ?_⟩;rw[ů];exact Î _ (by simp only[qv]at ls;omega)
    .rw[<-sv,Ċ,ı,Ė,ź,Ļ]
     rfl
   |cons p2 L=>
    rw[Ċ,Ċ,a3C]at en;simp![HH,es,Ċ,en];rw[a4c (by omega)];simp![wU];refine Fx (g:=iZ) (as:=p::p2::L) (e:=λp=>pD<|lN p) (by omega) (λp _ ys=>?_) ?_
    .simp![iZ,pD,lN]
    simp![wU];have em:(pD (lN p)::pD (lN p2)::L.map λp=>pD<|lN p)=((p::p2::L).map lN).map pD:=by
     rw[ĵ];rfl
    rw[em];have oJ:(p::p2::L).map lN≠[]:=by simp
    have hlen:((p::p2::L).map lN).length<=ps.length:=by rw[ĉ];omega
    have nh:(((p::p2::L).map lN).map (·.2)).Pairwise (· < ·):=by rw[ĵ];exact CJ
    have lU:∀x∈(p::p2::L).map lN,x.1≠0/\PC st k w (ps.length * G) (ž x):=λx hx=>by
     have(y,hy,rfl):=À.mp hx;exact hs y hy
    have Q8:(((p::p2::L).map lN).map λx=>x.1 * (gt st x.2).v).sum=(ps.map<|pv st).sum:=by
     rw[ĵ];exact sv
    generalize (p::p2::L).map lN=xs at oJ hlen nh lU Q8;have hq:xs.length * (ps.length * G)<=ps.length * ps.length * G:=by
     rw[<-ů];exact Á _<|Á _ hlen
    have(k1,k2,k3,k4,k5):=YG gd oJ nh lU hw (qA hq<|qA (Æ _<|Õ (by decide)) nB) IV;have ek:U.d (.int (k:Int))=U.d (.int ((nr pt st<|.bj xs).h:Int)):=by rw[k3]
    rw[ek];refine Bh (n:=.bj xs) g' hn k1 k2 λaA u' j nu ex len hj=>?_;have iY:=nu;have(Rz,mX,t',rfl):=nu;simp![pd];have ej:=wR hj;rw[<-ek];have hjl:=(qm.mp hj).1;refine q aA _ (ž (1,j)) iY ex len (λf i z=>?_) ?_
    .cases z
     rw[ej];exact⟨by decide,hjl,k3,0,1,Bd.one,qe _,by omega,by rw[Nat.one_mul,Nat.sub_zero];exact qA k5 hq⟩
    .show 1 * (gt aA j).v=_
     rw[ej,a1u];exact Q8
end K36
open PySem Internal
namespace K36
open PySem Internal
inductive Wd where
 |plus|less|times
 deriving DecidableEq
noncomputable def Wd.s:Wd->Str
 |.plus=> "plus"
 |.less=> "less"
 |.times=> "times"
inductive Rw where
 |num (r:Rat)
 |lt (k:Nat)
 |bin (w:Wd) (i j:Nat)
def be:Rw->D
 |.num r=>.tuple [.str "number",fR r]
 |.lt k=>.tuple [.str "letter",.int (k:Int)]
 |.bin w i j=>.tuple [.str w.s,.int (i:Int),.int (j:Int)]
abbrev i8(rs:Qa Rw):D:=.tuple (rs.map be)
abbrev cL(ls:Qa Str)(rs:Qa Rw):D:=.tuple [.tuple<|ls.map .str,i8 rs]
def R1(n:Nat)(t:Nat):Rw->Prop
 |.num r=>Bd 12 12000000 r
 |.lt k=>k < n
 |.bin w i j=>i < t/\j < t
def RO(n:Nat)(rs:Qa Rw):Prop:=∀t r,rs[t]?=ž r->R1 n t r
theorem RO.app{rs:Qa Rw}{r:Rw}(h:RO n rs)(h':R1 n rs.length r):RO n (rs++[r]):=by
 intro t x hx
 by_cases ht:t < rs.length
 .rw[č ht]at hx
  exact h t x hx
 .rw[Ď (by omega)]at hx
  by_cases h0:t=rs.length
  .subst h0
   simp at hx;subst hx;exact h'
  .rw[Ł (by simp;omega)]at hx
   cases hx
noncomputable def acc{α:Type}(f:Qa α->Rw->α):Qa Rw->Qa α->Qa α
 |[],ws=>ws
 |r::rs,ws=>acc f rs<|ws++[f ws r]
section
variable{f:Qa α->Rw->α}{z:α}
theorem FN:∀(a b:Qa Rw) (ws:Qa α),acc f (a++b) ws=acc f b (acc f a ws)
 |[],b,ws=>rfl
 |x::a,b,ws=>FN a b _
theorem BC{rs:Qa Rw}{r:Rw}:acc f (rs++[r]) []=acc f rs []++[f (acc f rs []) r]:=FN rs [r] []
theorem FL:∀(rs:Qa Rw) (ws:Qa α),∃zs,acc f rs ws=ws++zs/\zs.length=rs.length
 |[],ws=>⟨[],by simp[acc],rfl⟩
 |r::rs,ws=>by
  have(zs,e,l):=FL rs (ws++[f ws r]);exact⟨f ws r::zs,by show acc f rs _=_;rw[e];simp,by simp[l]⟩
theorem pK{rs:Qa Rw}:(acc f rs []).length=rs.length:=by
 have(zs,e,l):=FL (f:=f) rs [];rw[e,a1y,l]
theorem u5{rs:Qa Rw}{r:Rw}(h:rs[i]?=ž r):acc f (rs.take<|i+1) []=acc f (rs.take i) []++[f (acc f (rs.take i) []) r]:=by
 rw[a0i,h];exact BC
theorem Tv{rs:Qa Rw}{t:Nat}(h:i < t)(ht:t<=rs.length):(acc f (rs.take t) []).getD i z=(acc f rs []).getD i z:=by
 have(zs,e,_):=FL (f:=f) (rs.drop t) (acc f (rs.take t) []);have e2:acc f rs []=acc f (rs.take t) []++zs:=by
  rw[<-e]
  conv=>lhs;rw[<-List.take_append_drop t rs]
  rw[FN]
 have ln:(acc f (rs.take t) []).length=t:=by rw[pK,ě];omega
 rw[e2,qC,qC,č (by omega)]
theorem LK{rs:Qa Rw}{t:Nat}{r:Rw}(h:rs[t]?=ž r):(acc f rs []).getD t z=f (acc f (rs.take t) []) r:=by
 have ht:=(qm.mp h).1;rw[<-Tv (t:=t+1) (by omega) (by omega),u5 h];have ln:(acc f (rs.take t) []).length=t:=by rw[pK,ě];omega
 rw[qC,Ď (by omega),ln];simp
end
theorem KQ{rs:Qa Rw}{t:Nat}{r:Rw}(h:rs[t]?=ž r):bf (rs.map be) (t:Int)=ž (be r):=jJ (by rw[Č,h];rfl)
abbrev PR:=Rat×Qa Pc
def ke(p:PR):Qa D:=fR p.1::p.2.map dP
def ik(p:PR):D:=.list (ke p)
noncomputable def kH(p:PR)(k:Nat):Pc:=p.2.getD (k - 1) Ž
abbrev Vf:=Nat->Rat
structure RI (st:Qa Nr) (most w B:Nat) (p:PR) (v:Vf):Prop where
 ln:p.2.length=most
 b0:Bd (12^w) B p.1
 v0:p.1=v 0
 pb:∀k,1<=k->k<=most->PB st k w B (kH p k)
 pv:∀k,1<=k->k<=most->pv st (kH p k)=v k
section
variable{pt:Qa Rat}{st aA:Qa Nr}{w B k:Nat}{p q:PR}{v:Vf}{pr:Qa PR}
theorem RI.ex(h:RI st most w B p v)(e:Ex st aA):RI aA most w B p v :=
 ⟨h.ln,h.b0,h.v0,λk a b=>(h.pb k a b).ex e,λk a b=>by rw[fP (h.pb k a b) e];exact h.pv k a b⟩
theorem wO:bf (ke p) 0=ž (fR p.1):=by
 show bf _ ((0:Nat):Int)=_;exact jJ rfl
theorem sI(h1:1<=k)(h:k<=p.2.length):bf (ke p) (k:Int)=ž (dP<|kH p k):=by
 obtain⟨j,rfl⟩:∃j,k=j+1:=⟨k - 1,by omega⟩;refine jJ ?_;show(p.2.map dP)[j]?=_;unfold kH;rw[Č,ņ,qC,qo (by omega)];rfl
theorem wN(h:i < pr.length):bf (pr.map ik) (i:Int)=ž (.list<|ke<|pr.getD i (0,[])):=by
 refine jJ ?_;rw[Č,qo h,qC,qo h];rfl
theorem Eo(h:Bd (12^w) B p.1)(hw:w<=12)(hB:B<=Gm):Sz p.1:=Bd.sz h (by omega) hB
end
theorem NU.jn{pt:Qa Rat}{st:Qa Nr}{u u2:U}(g:NU pt st u){x y:α}:(if u2.own=ż/\u.own=Ż then x else y)=y:=by
 have(_,pl,_,rfl):=g;exact a4c λz=>by cases z.2
theorem PC.fP{st aA:Qa Nr}{k w:Nat}{p:Pc}(h:PC st k w G p)(e:Ex st aA):pv aA p=pv st p:=by
 cases p with
 |none=>rfl
 |some p=>
  have(h2,_):=h p.1 p.2 rfl;show p.1 * _=p.1 * _;rw[e.gt h2]
theorem PB.Hq{pt:Qa Rat}{st:Qa Nr}{k w:Nat}{p:Pc}(h:PB st k w G p)(g:Gd pt st)(hw:w<=12)(hG:G<=Gm):∀f i,p=ž (f,i)->Sz f:=λf i e=>by
 subst e;exact h.pc.sz g hw hG
noncomputable def n0(pr:Qa PR):Rw->Rat
 |.num r=>r
 |.lt _=>0
 |.bin .plus i j=>(pr.getD i (0,[])).1+(pr.getD j (0,[])).1
 |.bin .less i j=>(pr.getD i (0,[])).1 - (pr.getD j (0,[])).1
 |.bin .times i j=>(pr.getD i (0,[])).1 * (pr.getD j (0,[])).1
theorem zkh{pr:Qa PR}{r:Rw}(h:R1 n pr.length r)(hs:∀i,i < pr.length->Sz (pr.getD i (0,[])).1):pO [.d<|be r,.l<|pr.map ik]=ž (.d<|fR<|n0 pr r,[.d<|be r,.l<|pr.map ik]):=by
 refine g7 ?_;cases r with
 |num r=>simp![pO,vf,be];rfl
 |lt k=>simp![pO,vf,be];rfl
 |bin w i j=>
  have ai:=wN h.1;have aj:=wN h.2;have si:=hs i h.1;have sj:=hs j h.2;cases w with
  |plus=>
   rw[show n0 pr (.bin .plus i j)=(pr.getD i (0,[])).1+(pr.getD j (0,[])).1 from rfl];generalize pr.getD i (0,[])=P at *;generalize pr.getD j (0,[])=R at *;simp![pO,vf,be,Wd.s,ai,aj,wO,LO si sj]
  |less=>
   rw[show n0 pr (.bin .less i j)=(pr.getD i (0,[])).1 - (pr.getD j (0,[])).1 from rfl];generalize pr.getD i (0,[])=P at *;generalize pr.getD j (0,[])=R at *;simp![pO,vf,be,Wd.s,ai,aj,wO,WN si sj]
  |times=>
   rw[show n0 pr (.bin .times i j)=(pr.getD i (0,[])).1 * (pr.getD j (0,[])).1 from rfl];generalize pr.getD i (0,[])=P at *;generalize pr.getD j (0,[])=R at *;simp![pO,vf,be,Wd.s,ai,aj,wO,Gv si sj]
noncomputable def ug(a b:Vf)(k:Nat):Rat:=((Ğ<|k+1).map λe=>a e * b (k - e)).sum
noncomputable def mid(a b:Vf)(k j:Nat):Rat:=((Ğ j).map λe=>a (e+1) * b (k - (e+1))).sum
theorem zCj{a b:Vf}{k:Nat}:mid a b k 0=0:=rfl
theorem Em{a b:Vf}{k:Nat}:mid a b k (j+1)=mid a b k j+a (j+1) * b (k - (j+1)):=by
 unfold mid;rw[ψ,Ē,Ş,Ċ,ı,Ė,ź,Ļ]
theorem Tu{a b:Vf}{k:Nat}(h:1<=k):ug a b k=b k * a 0+a k * b 0+mid a b k (k - 1):=by
 obtain⟨j,rfl⟩:∃j,k=j+1:=⟨k - 1,by omega⟩;unfold ug mid;rw[ψ,Ē,Ş,Ċ,ı,Ė,ź,ϡ,List.range_succ_eq_map,Ċ,Ė,ĵ,Nat.sub_zero,ņ];show a 0 * b (j+1)+((Ğ j).map λe=>a (e+1) * b (j+1 - (e+1))).sum+(a (j+1) * b 0+0)=_;grind
theorem Fq{d:D}(h:(gD 1 n)[i]?=ž d):i < n/\d=.int (((i+1:Nat):Int)):=by
 have(h1,rfl):=B4 h;exact⟨h1,by congr 1;omega⟩
theorem JM{k e:Nat}(h:e<=k):(k:Int) - (e:Int)=((k - e:Nat):Int):=by omega
theorem Ko{p:Rat×Nat}:dB ż (.d<|dP<|some p) (.d .none)=ž (.d<|.bool ż):=rfl
theorem Kn:dB ż (.d<|dP Ž) (.d .none)=ž (.d<|.bool Ż):=rfl
theorem ziF{pt:Qa Rat}{st:Qa Nr}{u:U}{P R:PR}{a b:Vf}{k w1 w2 B1 B2:Nat}{Q:U×Qa U->Prop}(g:NU pt st u)(hn:st.length+k<=10000)(hP:RI st most w1 B1 P a)(hR:RI st most w2 B2 R b)(hw:w1+w2<=12)(hk:1<=k)(gz:k<=most)(hm:most<=8)(p1:1<=B1)(p2:1<=B2)(hG:81 * (B1 * B2) * 12^12<=Gm)
  (q:∀aA u' r,NU pt aA u'->Ex st aA->aA.length<=st.length+k->PB aA k (w1+w2) (81 * (B1 * B2)) r->pv aA r=ug a b k->Q (.d<|dP r,[u',.d<|.list<|ke P,.d<|.list<|ke R,.d<|.int (k:Int)])):
  Wo (Ce [u,.d<|.list<|ke P,.d<|.list<|ke R,.d<|.int (k:Int)]) Q:=by
 have hB:B1 * B2<=Gm:=qA (qA (Î _ (by decide))<|Æ _<|Õ (by decide)) hG;have Ru:B1<=Gm:=qA (Æ _ p2) hB;have Rt:B2<=Gm:=qA (Î _ p1) hB;have aP:=sI hk (show k<=P.2.length by rw[hP.ln];exact gz);have aR:=sI hk (show k<=R.2.length by rw[hR.ln];exact gz);have gd:=g.1;have szP:=(hP.pb k hk gz).Hq gd (by omega) Ru;have Hr:=(hR.pb k hk gz).Hq gd (by omega) Rt;have s1:=GK Hr (Eo hP.b0 (by omega) Ru);have s2:=GK szP (Eo hR.b0 (by omega) Rt);simp![Ce,Od,aP,aR,wO,s1,s2];refine iX (λj ρ=>∃(aA:Qa Nr) (u':U) (qs:Qa Pc) (o5:Qb U),ρ=[ž u',ž<|.d<|.list<|ke P,ž<|.d<|.list<|ke R,ž<|.d<|.int (k:Int),ž<|.l<|qs.map dP,o5]/\NU pt aA u'/\Ex st aA/\aA.length<=st.length+j/\qs.length<=2+j/\(∀p∈qs,PC aA k (w1+w2) (B1 * B2) p)/\(qs.map<|pv aA).sum=b k * a 0+a k * b 0+mid a b k j) ?_ ?_ ?_
 .refine⟨st,u,[rH P.1<|kH R k,rH R.1<|kH P k],Ž,rfl,g,Ex.refl,qe _,qe _,λp hp=>?_,?_⟩
  .rcases qw.mp hp with rfl|hp
   .have h:=(hR.pb k hk gz).pc.sc hP.b0 p1
    rw[Ϣ w2,ϸ B2]at h;exact h
   .rw[qr.mp hp]
    exact(hP.pb k hk gz).pc.sc hR.b0 p2
  .rw[Ċ,Ċ,ı,Ė,Ė,ź,EE,EE,hR.pv k hk gz,hP.pv k hk gz,hP.v0,hR.v0,zCj]
   grind
 .rintro j d ρ hd ⟨aA,u',qs,o5,rfl,g',ex,len,ql,hq,hs⟩
  have(hj,rfl):=Fq hd;have ea:=sI (p:=P) (k:=j+1) (by omega) (by rw[hP.ln];omega);have eb:=sI (p:=R) (k:=k - (j+1)) (by omega) (by rw[hR.ln];omega);have sn:=JM (k:=k) (e:=j+1) (by omega);have pa:=(hP.pb (j+1) (by omega) (by omega)).ex ex;have pb:=(hR.pb (k - (j+1)) (by omega) (by omega)).ex ex;have va:=hP.pv (j+1) (by omega) (by omega);have vb:=hR.pv (k - (j+1)) (by omega) (by omega);rw[<-fP (hP.pb (j+1) (by omega) (by omega)) ex]at va;rw[<-fP (hR.pb (k - (j+1)) (by omega) (by omega)) ex]at vb;cases e1:kH P (j+1)with
  |none=>
   rw[e1]at ea va;simp![ea,Kn];refine⟨aA,u',qs,_,rfl,g',ex,by omega,by omega,hq,?_⟩;rw[hs,Em,<-va];show _=_+(_+0 * _);rw[a1c,Ļ]
  |some x=>
   cases e2:kH R (k - (j+1))with
   |none=>
    rw[e1]at ea;rw[e2]at eb vb;simp![ea,sn,eb,Ko,Kn];refine⟨aA,u',qs,_,rfl,g',ex,by omega,by omega,hq,?_⟩;rw[hs,Em,<-vb];show _=_+(_+_ * 0);rw[Rat.mul_zero,Ļ]
   |some y=>
    rw[e1]at ea pa va;rw[e2]at eb pb vb;have nn:U.lS "Netting" "product_piece" u'=ż:=by
     have(_,pl,_,rfl):=g';exact zB4
    have(f1,i1):=x;have(f2,i2):=y;simp![ea,sn,eb,Ko,nn];refine zpN g' (by omega) pa pb hw hB λs2 u2 i nu lZ sG hb hv=>?_;have HN:∀{α:Type} {x y:α},(if u'.own=ż/\u2.own=Ż then x else y)=y:=λ{α x y}=>by
     have(_,pl,_,rfl):=nu;exact a4c λz=>by cases z.2
    simp![HN];refine⟨s2,u2,qs++[ž (f1 * f2,i)],_,by rw[Ē];rfl,nu,ex.trans lZ,by omega,by rw[qu,Ĳ];omega,λp hp=>?_,?_⟩
    .rcases Ï.mp hp with hp|hp
     .exact(hq p hp).ex lZ
     .rw[qr.mp hp]
      have dh:=hb.pc;rw[show j+1+(k - (j+1))=k by omega]at dh;exact dh
    .rw[Ē,Ş,Ċ,ı,Ė,ź,Ļ,hv,Em]
     rw[show(qs.map<|pv s2).sum=(qs.map<|pv aA).sum from by rw[List.map_congr_left λp hp=>PC.fP (hq p hp) lZ],hs,<-va,<-vb,ϫ]
 .rintro ρ ⟨aA,u',qs,o5,rfl,g',ex,len,ql,hq,hs⟩
  rw[lK]at len ql hs;have nn:U.lS "Netting" "mixed_piece" u'=ż:=by
   have(_,pl,_,rfl):=g';exact zB5
  have ql:qs.length<=9:=by omega
  have Rv:qs.length * qs.length * (B1 * B2)<=81 * (B1 * B2):=Á _ (Ü ql ql);simp![nn];refine LL rfl g' (by omega) (by omega) hq hw (qA (Á _ Rv) hG) λs2 u2 r nu lZ sG hb hv=>?_;have HN:∀{α:Type} {x y:α},(if u'.own=ż/\u2.own=Ż then x else y)=y:=λ{α x y}=>by
   have(_,pl,_,rfl):=nu;exact a4c λz=>by cases z.2
  simp![HN,g.jn];refine q s2 u2 r nu (ex.trans lZ) (by omega) (λf i e=>?_) ?_
  .have(h1,h2,h3,φ,F,h4,h5,h6,h7):=hb f i e
   exact⟨h1,h2,h3,φ,F,h4,h5,h6,qA h7 Rv⟩
  .rw[hv,hs,Tu hk,show((k:Int) - 1).toNat=k - 1 by omega]
end K36
open PySem Internal
namespace K36
open PySem Internal
noncomputable def w1(ws:Qa Nat):Rw->Nat
 |.bin .times i j=>ws.getD i 0+ws.getD j 0
 |.bin _ i j=>max (ws.getD i 0)<|ws.getD j 0
 |_=>1
abbrev cN(rs:Qa Rw):Qa Nat:=acc w1 rs []
noncomputable def Bn(w t:Nat):Nat:=2^(w * (28+4 * t))
theorem Km{w t:Nat}:1<=Bn w t:=Õ (by decide)
theorem El{w w' t:Nat}(h:w<=w'):Bn w t * 12^(w' - w)<=Bn w' t:=by
 obtain⟨d,rfl⟩:∃d,w'=w+d:=⟨w' - w,by omega⟩;unfold Bn;rw[ν,ϛ,ħ];refine æ _<|qA (a3o (show 12<=2^4 by decide) d) ?_;rw[<-Nat.pow_mul];refine Í (by decide) ?_;rw[ϸ 4];exact æ _ (by omega)
theorem PF{w t:Nat}(h:1<=w):2 * 2 * Bn w t<=Bn w (t+1):=by
 unfold Bn;rw[show w * (28+4 * (t+1))=w * (28+4 * t)+w * 4 by rw[<-a1w];congr 1,ħ,ϸ];refine æ _<|qA (show 2 * 2<=2^4 by decide)<|Í (by decide) (by omega)
theorem Ek{w w' t:Nat}(h:1<=w)(h':1<=w'):81 * (Bn w t * Bn w' t)<=Bn (w+w') (t+1):=by
 unfold Bn;rw[show(w+w') * (28+4 * (t+1))=w * (28+4 * t)+w' * (28+4 * t)+(w+w') * 4 by rw[<-ϛ,<-a1w];congr 1,ħ,ħ,ϸ];refine æ _<|qA (show 81<=2^8 by decide)<|Í (by decide) (by omega)
theorem FK{w t t':Nat}(h:t<=t'):Bn w t<=Bn w t':=Í (by decide) (æ _ (by omega))
theorem AU{w t:Nat}(hw:w<=12)(ht:t<=24):Bn w t * 12^12<=Gm:=by
 have h:Bn w t<=2^1488:=Í (by decide) (qA (Ü hw (show 28+4 * t<=124 by omega)) (by decide));exact qA (Á _ h) (by decide)
theorem xi{w t:Nat}(hw:w<=12)(ht:t<=24):Bn w t<=Gm:=qA (Æ _<|Õ (by decide)) (AU hw ht)
theorem PC.up{st:Qa Nr}{k w w':Nat}{p:Pc}(h:PC st k w G p)(l:w<=w'):PC st k w' (G * 12^(w' - w)) p:=λf i e=>by
 have(h1,h2,φ,F,h3,h4,h5,h6):=h f i e;refine⟨h1,h2,φ,F,h3,h4,by omega,?_⟩;rw[show w' - φ - (gt st i).o=(w - φ - (gt st i).o)+(w' - w) by omega,ħ,<-ů];exact Á _ h6
noncomputable def vz:Vf:=λ_=>0
def eN(pt:Qa Rat)(vs:Qa Vf):Rw->Vf
 |.num r=>λk=>if k=0 then r else 0
 |.lt j=>λk=>if k=1 then pt.getD j 0 else 0
 |.bin .plus i j=>λk=>vs.getD i vz k+vs.getD j vz k
 |.bin .less i j=>λk=>vs.getD i vz k - vs.getD j vz k
 |.bin .times i j=>ug (vs.getD i vz)<|vs.getD j vz
abbrev bg(pt:Qa Rat)(rs:Qa Rw):Qa Vf:=acc (eN pt) rs []
structure RR (st:Qa Nr) (most:Nat) (ws:Qa Nat) (vs:Qa Vf) (pr:Qa PR):Prop where
 lw:ws.length=pr.length
 lv:vs.length=pr.length
 wp:∀i,i < pr.length->1<=ws.getD i 0/\ws.getD i 0<=12
 ri:∀i,i < pr.length->RI st most (ws.getD i 0) (Bn (ws.getD i 0) pr.length) (pr.getD i (0,[])) (vs.getD i vz)
theorem RI.le{st:Qa Nr}{w B B':Nat}{p:PR}{v:Vf}(h:RI st most w B p v)(l:B<=B'):RI st most w B' p v :=
 ⟨h.ln,h.b0.le l,h.v0,λk a b f i e=>by
  have(h1,h2,h3,φ,F,h4,h5,h6,h7):=h.pb k a b f i e;exact⟨h1,h2,h3,φ,F,h4,h5,h6,qA h7 l⟩,h.pv⟩
theorem NU.own{pt:Qa Rat}{st:Qa Nr}{u:U}(g:NU pt st u):u.own=ż/\U.lS "Netting" "mixed_piece" u=ż/\U.lS "Netting" "node_of" u=ż/\U.lS "Netting" "out_of" u=ż:=by
 have(_,pl,_,rfl):=g;exact⟨rfl,rfl,rfl,rfl⟩
theorem Ts:Bd (12^0) 1 (-1):=by
 have:=Bd.one.neg;exact this
theorem zAa:Sz (-1):=⟨by decide,by decide⟩
theorem zAb:fR (-1)=.tuple [.int (-1),.int 1]:=rfl
theorem Kl{pt:Qa Rat}{st:Qa Nr}{t k kD jR:Nat}{P R:PR}{a b:Vf}{u:U}{s:Rat}{Q:U×Qa U->Prop}(g:NU pt st u)(hn:st.length+1<=10000)(hP:RI st most kD (Bn kD t) P a)(hR:RI st most jR (Bn jR t) R b)(l1:1<=kD)(h1:kD<=12)(h2:jR<=12)(hk:1<=k)(gz:k<=most)(ht:t < 24)(x:Pc)(hx:PC st k jR (Bn jR t) x)(vx:pv st x=b k * s){pu:U}(Iu:pu.fz=ž (.list<|[kH P k,x].map dP))
  (q:∀aA u' r,NU pt aA u'->Ex st aA->aA.length<=st.length+1->PB aA k (max kD jR) (Bn (max kD jR)<|t+1) r->pv aA r=a k+b k * s->Q (.d<|dP r,[u',.d<|.list<|[kH P k,x].map dP,.d<|.int (k:Int)])):
  Wo (vk [u,pu,.d<|.int (k:Int)]) Q:=by
 have hm:max kD jR<=12:=Nat.max_le.mpr ⟨h1,h2⟩;have b4:2 * 2 * Bn (max kD jR) t<=Bn (max kD jR) (t+1):=PF (qA l1<|ã _ _);refine LL (ps:=[kH P k,x]) (w:=max kD jR) (G:=Bn (max kD jR) t) Iu g (by omega) (show 2<=20 by decide) (λp hp=>?_) hm (qA (Á _ b4)<|AU hm (by omega)) λaA u' r nu ex len hb hv=>q aA u' r nu ex len (λf i e=>?_) ?_
 .rcases qw.mp hp with rfl|hp
  .exact((hP.pb k hk gz).pc.up<|ã kD jR).mono (El<|ã _ _)
  .rw[qr.mp hp]
   exact(hx.up<|μ kD jR).mono<|El<|μ _ _
 .have(z1,z2,z3,φ,F,z4,z5,z6,z7):=hb f i e
  exact⟨z1,z2,z3,φ,F,z4,z5,z6,qA z7 b4⟩
 .rw[hv,Ċ,Ċ,ı,Ė,Ė,ź,Ļ,hP.pv k hk gz,vx]
theorem zmR{pt:Qa Rat}{st:Qa Nr}{u:U}{pr:Qa PR}{ws:Qa Nat}{vs:Qa Vf}{k:Nat}{r:Rw}{Q:U×Qa U->Prop}(g:NU pt st u)(lT:∀x∈pt,Bd 12 12000000 x)(J:RR st most ws vs pr)(hr:R1 pt.length pr.length r)(hw:w1 ws r<=12)(ht:pr.length < 24)(hn:st.length+k<=10000)(hk:1<=k)(gz:k<=most)(hm:most<=8)
  (q:∀aA u' p,NU pt aA u'->Ex st aA->aA.length<=st.length+k->PB aA k (w1 ws r) (Bn (w1 ws r)<|pr.length+1) p->pv aA p=eN pt vs r k->Q (.d<|dP p,[u',.d<|be r,.l<|pr.map ik,.d<|.int (k:Int)])):
  Wo (oq [u,.d<|be r,.l<|pr.map ik,.d<|.int (k:Int)]) Q:=by
 have(o1,o2,o3,o4):=g.own;cases r with
 |num f=>
  simp![oq,tq,be,g.jn];refine q st u Ž g Ex.refl (é _ _) (λf i e=>by cases e) ?_;exact(a4c (by omega)).symm
 |lt j=>
  by_cases c:k=1
  .subst c
   have en:nr pt st (.aH j)=⟨.aH j,1,pt.getD j 0,1,12000000⟩:=rfl;have hj:pt.getD j 0∈pt:=by
    rw[qC,qo hr];exact ó _
   simp![oq,tq,be,o3];refine Bh (n:=.aH j) g (by omega) hr (by rw[en];exact⟨lT _ hj,by show 1<=12000000;decide,by show 1<=12;decide,by show 12000000<=Gm;decide⟩) λaA u' i nu ex len hi=>?_;have ei:=wR hi;simp![nu.jn,g.jn];refine q aA u' (ž (1,i)) nu ex len (λf l e=>?_) ?_
   .cases e
    rw[ei,en];refine⟨by decide,(qm.mp hi).1,rfl,0,1,Bd.one,qe _,qe _,?_⟩;show 1 * 12000000 * 12^(1 - 0 - 1)<=2^(1 * _);exact qA (show _<=2^28 by decide)<|Í (by decide) (by omega)
   .show 1 * (gt aA i).v=_
    rw[ei,a1u];rfl
  .simp![oq,tq,be,g.jn,show ¬(k:Int)=1 by omega]
   refine q st u Ž g Ex.refl (é _ _) (λf i e=>by cases e) ?_;exact(a4c c).symm
 |bin w i j=>
  have ai:=wN hr.1;have aj:=wN hr.2;have ri:=J.ri i hr.1;have rj:=J.ri j hr.2;have(a1,a2):=J.wp i hr.1;have(b1,b2):=J.wp j hr.2;have gd:=g.1;generalize hP:pr.getD i (0,[])=P at *;generalize hR:pr.getD j (0,[])=R at *;have eP:=sI hk (show k<=P.2.length by rw[ri.ln];exact gz);have eR:=sI hk (show k<=R.2.length by rw[rj.ln];exact gz);have Hr:=(rj.pb k hk gz).Hq gd b2 (xi b2 (by omega));cases w with
  |times=>
   simp![oq,tq,be,Wd.s,ai,aj];have QV:=Ek (t:=pr.length) a1 b1;have hw:ws.getD i 0+ws.getD j 0<=12:=hw;refine ziF g hn ri rj hw hk gz hm Km Km (qA (Á _ QV)<|AU hw (by omega)) λaA u' p nu ex len hb hv=>?_;simp![nu.jn,g.jn];refine q aA u' p nu ex len (λf l e=>?_) hv;have(z1,z2,z3,φ,F,z4,z5,z6,z7):=hb f l e;exact⟨z1,z2,z3,φ,F,z4,z5,z6,qA z7 QV⟩
  |plus=>
   simp![oq,tq,be,Wd.s,ai,aj,eP,eR,o2];refine Kl (s:=1) g (by omega) ri rj a1 a2 b2 hk gz ht (kH R k) (rj.pb k hk gz).pc (by rw[rj.pv k hk gz,Rat.mul_one]) rfl λaA u' p nu ex len hb hv=>?_;simp![nu.jn,g.jn];refine q aA u' p nu ex (by omega) hb ?_;rw[hv,Rat.mul_one];rfl
  |less=>
   have sc:=GK Hr zAa;rw[zAb]at sc;simp![oq,tq,be,Wd.s,ai,aj,eP,eR,o2,sc];have hx:=(rj.pb k hk gz).pc.sc Ts (qe 1);rw[ϋ,a1v]at hx;refine Kl (s:=-1) g (by omega) ri rj a1 a2 b2 hk gz ht (rH (-1)<|kH R k) hx (by rw[EE,rj.pv k hk gz]) rfl λaA u' p nu ex len hb hv=>?_;simp![nu.jn,g.jn];refine q aA u' p nu ex (by omega) hb ?_;rw[hv];show _=vs.getD i vz k - vs.getD j vz k;grind
end K36
open PySem Internal
namespace K36
open PySem Internal
noncomputable abbrev fg(fl:Qa Bool)(i:Nat):Bool:=fl.getD i Ż
structure Gr (t:Nat) (fl bR:Qa Bool):Prop where
 ln:bR.length=fl.length
 up:∀i,fg fl i=ż->fg bR i=ż
 eq:∀i,t<=i->fg bR i=fg fl i
section
variable{t:Nat}{fl bR RB:Qa Bool}{p:Nat}
theorem Gr.refl:Gr t fl fl:=⟨rfl,λ_ h=>h,λ_ _=>rfl⟩
theorem Gr.trans(a:Gr t fl bR)(b:Gr t bR RB):Gr t fl RB:=⟨b.ln.trans a.ln,λi h=>b.up i<|a.up i h,λi h=>(b.eq i h).trans<|a.eq i h⟩
theorem rg(h:p < fl.length):fg (fl.set p ż) i=if i=p then ż else fg fl i:=by
 unfold fg;rw[qC,qC]
 by_cases c:p=i
 .subst c
  rw[ĝ h,a4b rfl];rfl
 .rw[qD c,a4c<|ī c]
theorem Gr.set(h:p < t)(hp:p < fl.length):Gr t fl (fl.set p ż):=⟨ą,λi h=>by
 rw[rg hp];split
 .rfl
 .exact h,λi hi=>by
 rw[rg hp,a4c (by omega)]⟩
theorem xK:(fl.map a1h).set p (.bool ż)=(fl.set p ż).map .bool:=by
 rw[List.map_set]
theorem wj(h:i < fl.length):bf (fl.map a1h) (i:Int)=ž (.bool<|fg fl i):=by
 refine jJ ?_;unfold fg;rw[Č,qo h,qC,qo h];rfl
theorem zlK(h:p < fl.length):fg (fl.set p ż) p=ż:=by rw[rg h,a4b rfl]
end
noncomputable def Nd.ps:Nd->Qa Nat
 |.aH _=>[]
 |.times a b=>[a,b]
 |.bj ps=>ps.map (·.2)
def Nd.w:Nd->Str
 |.aH _=> "letter"
 |.times _ _=> "times"
 |.bj _=> "mix"
theorem mE(h:i < n):fA n (i:Int)=ž i:=by
 unfold fA;rw[a4b<|a3D _,a4b (by omega)];rfl
theorem Ej{d:D}:(Đ n [d]).flatten=Đ n d:=by
 induction n with
 |zero=>rfl
 |succ n ih=>rw[ļ,š,ih];rfl
theorem JL(h:n<=10000):i6 (.l [.bool Ż]) (.d<|.int (n:Int))=ž (.l<|(Đ n Ż).map .bool):=by
 have hz:ċ=16777216:=ϵ;have e:i6 (.l [.bool Ż]) (.d<|.int (n:Int))=ž (.l (Đ (n:Int).toNat [a1h Ż]).flatten):=by
  unfold i6;dsimp only;rw[a4b ⟨by omega,by omega,by rw[į,hz];show 1 * n<=_;omega⟩]
 rw[e,į,Ej,List.map_replicate]
theorem Ei{ns:Qa Nd}{t:Nat}{n:Nd}(h:ns[t]?=ž n):bf (ns.map Nd.d) (t:Int)=ž n.d:=jJ (by rw[Č,h];rfl)
theorem zig{ns:Qa Nd}{Q:U×Qa U->Prop}(hn:ns.length<=10000)(hp:∀(t:Nat) (n:Nd),ns[t]?=ž n->∀p∈n.ps,p < t)(ho:∀o∈os,∀j,o=ž j->j < ns.length)
  (q:∀fl:Qa Bool,fl.length=ns.length->(∀o∈os,∀j,o=ž j->fg fl j=ż)->(∀(t:Nat) (n:Nd),ns[t]?=ž n->fg fl t=ż->∀p∈n.ps,fg fl p=ż)->Q (.l<|fl.map .bool,[.l<|ns.map Nd.d,.d<|.list<|os.map oD])):
  Wo (tu [.l<|ns.map Nd.d,.l<|os.map oD]) Q:=by
 have ll:(ns.map Nd.d).length=ns.length:=Ô _;have dn:=Gy (i:=(ns.length:Int) - 1) (j:=-1) (by omega) (by omega) (by decide) (by decide);rw[show((ns.length:Int) - 1 - -1).toNat=ns.length by omega]at dn;simp![tu,OW,ll,JL hn];refine rA (λbs cs ρ=>∃(fl:Qa Bool) (o3:Qb U),ρ=[ž<|.l<|ns.map Nd.d,ž<|.d<|.list<|os.map oD,ž<|.l<|fl.map .bool,o3,Ž,Ž,Ž]/\fl.length=ns.length/\∀o∈bs,∀j,o=ž j->fg fl j=ż) ⟨_,Ž,rfl,ę,λo h=>by cases h⟩ ?_ ?_
 .rintro bs o cs _ e ⟨fl,o3,rfl,hl,hb⟩
  cases o with
  |none=>
   simp![oD,KW];refine⟨fl,_,rfl,hl,λo h j ej=>?_⟩;rcases Ï.mp h with h|h
   .exact hb o h j ej
   .rw[qr.mp h]at ej;cases ej
  |some j=>
   have hj:=ho (ž j) (by rw[e];simp) j rfl;have nj:dB ż (.d<|.int (j:Int)) (.d .none)=ž (.d<|.bool ż):=rfl;simp![oD,nj,ĉ,hl,mE hj,xK];refine⟨fl.set j ż,_,rfl,by rw[ĕ];exact hl,λo h j' ej=>?_⟩;rw[rg (by rw[hl];exact hj)];split
   .rfl
   rename_i c;rcases Ï.mp h with h|h
   .exact hb o h j' ej
   .rw[qr.mp h]at ej
    cases ej;exact absurd rfl c
 .rintro _ ⟨jX,o3,rfl,rQ,Ro⟩
  simp![ll,dn];refine iX (λi ρ=>∃(fl:Qa Bool) (o3 o4 o5 o6:Qb U),ρ=[ž<|.l<|ns.map Nd.d,ž<|.d<|.list<|os.map oD,ž<|.l<|fl.map .bool,o3,o4,o5,o6]/\fl.length=ns.length/\(∀j,fg jX j=ż->fg fl j=ż)/\∀(t:Nat) (n:Nd),ns[t]?=ž n->ns.length<=t+i->fg fl t=ż->∀p∈n.ps,fg fl p=ż) ⟨jX,_,_,_,_,rfl,rQ,λj h=>h,λt n h1 h2=>by have:=(qm.mp h1).1;omega⟩ ?_ ?_
  .rintro i d _ hd ⟨fl,o3,o4,o5,o6,rfl,hl,hu,hc⟩
   have(hi,rfl):=GZ hd;obtain⟨k,hk⟩:∃k:Nat,ns.length=i+1+k:=⟨ns.length - (i+1),by omega⟩;have e1:(ns.length:Int) - 1 - (i:Nat)=(k:Int):=by omega
   rw[e1];have en:=qo (show k < ns.length by omega);generalize IA:ns[k]=HL at en;have t4:=hp k HL en;have ab:=wj (fl:=fl) (i:=k) (by omega);have done:∀bR,Gr k fl bR->(fg fl k=ż->∀p∈HL.ps,fg bR p=ż)->(bR.length=ns.length/\(∀j,fg jX j=ż->fg bR j=ż)/\∀(t:Nat) (n:Nd),ns[t]?=ž n->ns.length<=t+(i+1)->fg bR t=ż->∀p∈n.ps,fg bR p=ż):=λbR g hW=>by
    refine⟨g.ln.trans hl,λj h=>g.up j<|hu j h,λt n et ht hf p gI=>?_⟩
    by_cases c:t=k
    .subst c
     rw[en]at et;cases et;exact hW (by rw[<-g.eq t (qe _)];exact hf) p gI
    .rw[g.eq t (by omega)]at hf
     exact g.up p<|hc t n et (by omega) hf p gI
   by_cases cf:fg fl k=ż
   .rw[cf]at ab
    cases HL with
    |aH j=>
     simp![ab,Ei en,Nd.d];exact⟨fl,_,_,_,_,rfl,done fl Gr.refl λ_ p h=>by cases h⟩
    |times a b=>
     have ha:a < fl.length:=by have:=t4 a (by simp[Nd.ps]);omega
     have hb:b < (fl.set a ż).length:=by rw[ĕ];have:=t4 b (by simp[Nd.ps]);omega
     have ab2:=wj (fl:=fl.set a ż) (i:=k) (by rw[ĕ];omega);simp![ab,Ei en,Nd.d,ĉ,mE ha,xK,mE hb];refine⟨_,_,_,_,_,rfl,done _ ((Gr.set (t4 a (by simp[Nd.ps])) ha).trans<|Gr.set (t4 b (by simp[Nd.ps])) hb) λ_ p h=>?_⟩;rw[rg hb,rg ha];split
     .rfl
     rename_i c1;split
     .rfl
     rename_i c2;rcases qw.mp h with rfl|h
     .exact absurd rfl c2
     .exact absurd (qr.mp h) c1
    |bj ps=>
     simp![ab,Ei en,Nd.d];refine rA (λbs cs ρ=>∃(bR:Qa Bool) (o5 o6:Qb U),ρ=[ž<|.l<|ns.map Nd.d,ž<|.d<|.list<|os.map oD,ž<|.l<|bR.map .bool,o3,ž<|.d<|.int (k:Int),o5,o6]/\Gr k fl bR/\∀p∈bs,fg bR p.2=ż) ⟨fl,_,_,rfl,Gr.refl,λp h=>by cases h⟩ ?_ ?_
     .rintro bs p cs _ e ⟨bR,o5,o6,rfl,g,hb⟩
      have lU:p.2 < k:=t4 p.2 (À.mpr ⟨p,by rw[e];simp,rfl⟩);have t6:p.2 < bR.length:=by rw[g.ln];omega
      simp![pD,ĉ,mE t6,xK];refine⟨_,_,_,rfl,g.trans<|Gr.set lU t6,λx h=>?_⟩;rw[rg t6];split
      .rfl
      rename_i c;rcases Ï.mp h with h|h
      .exact hb x h
      .rw[qr.mp h]at c
       exact absurd rfl c
     .rintro _ ⟨bR,o5,o6,rfl,g,hb⟩
      simp!;refine⟨bR,_,_,_,_,rfl,done bR g λ_ p h=>?_⟩;have(x,hx,rfl):=À.mp h;exact hb x hx
   .have uh:fg fl k=Ż:=by simpa using cf
    rw[uh]at ab;simp![ab];exact⟨fl,_,_,_,_,rfl,done fl Gr.refl λz=>absurd z cf⟩
  .rintro _ ⟨fl,o3,o4,o5,o6,rfl,hl,hu,hc⟩
   rw[Cm]at hc;simp!;exact q fl hl (λo h j ej=>hu j<|Ro o h j ej) λt n et hf=>hc t n et (by omega) hf
end K36
open PySem Internal
namespace K36
open PySem Internal
def eV(fl:Qa Bool)(t:Nat):Qa Nat:=(Ğ t).filter (fg fl)
def pos(fl:Qa Bool)(t:Nat):Nat:=(eV fl t).length
section
variable{fl:Qa Bool}{t T q a b:Nat}
theorem wM:eV fl (t+1)=eV fl t++(if fg fl t=ż then [t]else []):=by
 unfold eV;rw[ψ,a3r,δ,List.filter_nil]
theorem AS(h:fg fl t=ż):eV fl (t+1)=eV fl t++[t]:=by rw[wM,a4b h]
theorem AR(h:¬fg fl t=ż):eV fl (t+1)=eV fl t:=by rw[wM,a4c h,ş]
theorem LJ:a∈eV fl t↔a < t/\fg fl a=ż:=by
 unfold eV;rw[List.mem_filter,List.mem_range]
theorem Eh:pos fl t<=pos fl (t+1)/\(fg fl t=ż->pos fl (t+1)=pos fl t+1):=by
 unfold pos;rw[wM];refine⟨by rw[qu];exact é _ _,λh=>by rw[a4b h,qu];rfl⟩
theorem XZ(h:a<=b):pos fl a<=pos fl b:=by
 induction b with
 |zero=>rw[Nat.le_zero.mp h];exact qe _
 |succ b ih=>
  rcases a0R h with z|z
  .exact qA (ih (by omega)) Eh.1
  .rw[z];exact qe _
theorem sR(h:a < b)(f:fg fl a=ż):pos fl a < pos fl b:=by
 have:=XZ (fl:=fl) (show a+1<=b from h);rw[Eh.2 f]at this;exact this
theorem JK(h:a < T)(f:fg fl a=ż):(eV fl T)[pos fl a]?=ž a:=by
 induction T with
 |zero=>omega
 |succ T ih=>
  by_cases c:a=T
  .subst c
   show(eV fl<|a+1)[(eV fl a).length]?=_;rw[AS f,Ď<|qe _,ϡ];rfl
  .have:=ih (by omega)
   rw[wM,č (qm.mp this).1];exact this
theorem LI(h:(eV fl T)[q]?=ž a):a < T/\fg fl a=ż/\pos fl a=q:=by
 induction T with
 |zero=>simp[eV]at h
 |succ T ih=>
  rw[wM]at h
  by_cases c:q < (eV fl T).length
  .rw[č c]at h
   have(h1,h2,h3):=ih h;exact⟨by omega,h2,h3⟩
  .rw[Ď (by omega)]at h
   by_cases f:fg fl T=ż
   .rw[a4b f]at h
    have hl:=(qm.mp h).1;have e0:q - (eV fl T).length=0:=Nat.lt_one_iff.mp hl;rw[e0]at h;obtain rfl:T=a:=qy h;exact⟨by omega,f,by show(eV fl T).length=q;omega⟩
   .rw[a4c f]at h
    simp at h
theorem uX:pos fl t<=t:=by
 unfold pos eV;have:=þ (fg fl) (Ğ t);rw[Ν]at this;exact this
end
noncomputable def lP(ps:Nat->Nat):Nd->Nd
 |.aH k=>.aH k
 |.times a b=>.times (ps a)<|ps b
 |.bj xs=>.bj<|xs.map λp=>(p.1,ps p.2)
def fQ(fl:Qa Bool)(t:Nat):Qa (Key×D):=(eV fl t).map λ(a:Nat)=>(.inl (a:Int),.int ((pos fl a:Nat):Int))
theorem zAc{fl:Qa Bool}{t a:Nat}(h:a < t)(f:fg fl a=ż):eO (fQ fl t) (.inl (a:Int))=ž (.int ((pos fl a:Nat):Int)):=by
 have hm:a∈eV fl t:=LJ.mpr ⟨h,f⟩;unfold fQ;generalize eV fl t=L at hm
 induction L with
 |nil=>cases hm
 |cons b L ih=>
  unfold eO at *;rw[Ċ,ģ]
  by_cases c:b=a
  .subst c
   simp
  .rw[a4e (λz=>c (by injection z with z;exact Ÿ z))]
   exact ih<|(qw.mp hm).resolve_left λz=>c z.symm
theorem zAd{fl:Qa Bool}{t:Nat}:((fQ fl t).any λx=>decide<|x.1=.inl (t:Int))=Ż:=by
 unfold fQ;rw[List.any_map,Bool.eq_false_iff];intro z;have(a,ha,e):=List.any_eq_true.mp z;have e:=a4f e;injection e with e;have:=(LJ.mp ha).1;have:=Ÿ e;omega
theorem Kk{fl:Qa Bool}{t:Nat}(f:fg fl t=ż)(l:t<=10000):A4 (.k<|fQ fl t) (.int (t:Int)) (.int ((pos fl t:Nat):Int))=ž (.k<|fQ fl<|t+1):=by
 show(if(fQ fl t).length < ċ then ž (U.k<|fE (fQ fl t) (.inl (t:Int)) _)else Ž)=_;have hz:ċ=16777216:=ϵ;have hp:=uX (fl:=fl) (t:=t);rw[a4b (by unfold fQ;rw[ĉ,hz];exact È hp (by omega))];unfold fE;rw[zAd,a4c (by decide)];unfold fQ;rw[AS f,Ē];rfl
theorem uE{fl:Qa Bool}{t a:Nat}(h:a < t)(f:fg fl a=ż):nH (.k<|fQ fl t) (.d<|.int (a:Int))=ž (ž<|.int ((pos fl a:Nat):Int)):=by
 show ž (eO (fQ fl t)<|.inl (a:Int))=_;rw[zAc h f]
theorem Hc{kv kv':Qa (Key×D)}{x y:α}:(if(U.k kv).own=ż/\(U.k kv').own=Ż then x else y)=y:=a4c λz=>by cases z.2
theorem ziG{fl:Qa Bool}{t:Nat}{n:Nd}(h:∀p∈n.ps,p < t/\fg fl p=ż)(hl:∀ps,n=.bj ps->ps.length<=10000):mO [.d n.d,.k<|fQ fl t]=ž (.d (lP (pos fl) n).d,[.d n.d,.k<|fQ fl t]):=by
 refine g7 ?_;cases n with
 |aH k=>simp![mO,Ck,Nd.d,Hc];rfl
 |times a b=>
  have(a1,a2):=h a (by simp[Nd.ps]);have(b1,b2):=h b (by simp[Nd.ps]);simp![mO,Ck,Nd.d,uE a1 a2,uE b1 b2,Hc];rfl
 |bj ps=>
  have:=hl ps rfl;simp![mO,Ck,Nd.d];refine Fx (e:=λp=>pD (p.1,pos fl p.2)) (by omega) (λp hp ys=>?_) ?_
  .have(p1,p2):=h p.2 (À.mpr ⟨p,hp,rfl⟩)
   simp![pD,uE p1 p2]
  .simp![Hc]
   show _=(U.d<|.tuple [.str "mix",.tuple<|(ps.map λp=>(p.1,pos fl p.2)).map pD],_);rw[ĵ];rfl
section
variable{pt:Qa Rat}{st:Qa Nr}{fl:Qa Bool}{t:Nat}
def keep(st:Qa Nr)(fl:Qa Bool):Qa Nr:=(eV fl st.length).map λt=>{gt st t with n:=lP (pos fl) (gt st t).n}
theorem BB(h:t < st.length)(f:fg fl t=ż):gt (keep st fl) (pos fl t)={gt st t with n:=lP (pos fl) (gt st t).n}:=by
 unfold keep
 conv=>lhs;unfold gt
 rw[qC,Č,JK h f];rfl
theorem WA(h:t < st.length)(f:fg fl t=ż):pos fl t < (keep st fl).length:=by
 unfold keep;rw[ĉ];exact(qm.mp<|JK h f).1
theorem XY:(keep st fl).length<=st.length:=by
 unfold keep;rw[ĉ];exact uX
theorem XX{ps:Qa (Rat×Nat)}{g:Rat×Nat->Rat×Nat}(h:ps≠[]):(ps.map g).headD (0,0)=g (ps.headD (0,0)):=by
 cases ps with
 |nil=>exact absurd rfl h
 |cons p ps=>rfl
theorem Wz(g:Gd pt st)(hc:∀(t:Nat) (n:Nd),(st.map (·.n))[t]?=ž n->fg fl t=ż->∀p∈n.ps,fg fl p=ż):Gd pt (keep st fl):=by
 have at_:∀{q:Nat} {r:Nr},(keep st fl)[q]?=ž r->∃t,t < st.length/\fg fl t=ż/\pos fl t=q/\r={gt st t with n:=lP (pos fl) (gt st t).n}:=λ{q r} hr=>by
  unfold keep at hr;rw[Č]at hr;have(t,ht,rfl):=qt.mp hr;have(h1,h2,h3):=LI ht;exact⟨t,h1,h2,h3,rfl⟩
 refine⟨λq r hr=>?_,λr hr=>?_⟩
 .have(t,h1,h2,rfl,rfl):=at_ hr
  have(e,o):=g.ok t (gt st t) (wQ h1);have cl:=hc t (gt st t).n (by rw[Č,wQ h1];rfl) h2;have(l1,l2):=o.lt;show({gt st t with n:=lP (pos fl) (gt st t).n}:Nr)=nr pt (keep st fl) (lP (pos fl) (gt st t).n)/\lQ pt.length (keep st fl) (pos fl t) (lP (pos fl) (gt st t).n);cases hn:(gt st t).n with
  |aH k=>
   rw[hn]at e o;rw[e];exact⟨rfl,o⟩
  |times a b=>
   rw[hn]at e o cl;have(la,lb):=l1 a b hn;have fa:=cl a (by simp[Nd.ps]);have fb:=cl b (by simp[Nd.ps]);have ga:=BB (st:=st) (show a < st.length by omega) fa;have gb:=BB (st:=st) (show b < st.length by omega) fb;refine⟨?_,sR la fa,sR lb fb,?_⟩
   .rw[show lP (pos fl) (.times a b)=.times (pos fl a) (pos fl b) from rfl,wo,ga,gb,e,wo]
   .rw[ga,gb]
    exact o.2.2
  |bj ps=>
   rw[hn]at e o cl;have(h0,lp):=l2 ps hn;have(_,o2,o3):=o;have fp:∀p∈ps,fg fl p.2=ż:=λp hp=>cl p.2<|À.mpr ⟨p,hp,rfl⟩;have gp:∀p∈ps,gt (keep st fl) (pos fl p.2)={gt st p.2 with n:=lP (pos fl) (gt st p.2).n}:=λp hp=>BB (by have:=lp p hp;omega)<|fp p hp;have hd:=u6 h0;have eh:((ps.map λp=>(p.1,pos fl p.2)).headD (0,0))=((ps.headD (0,0)).1,pos fl (ps.headD (0,0)).2):=XX (g:=λp=>(p.1,pos fl p.2)) h0;have eo:oo (keep st fl) (ps.map λp=>(p.1,pos fl p.2))=oo st ps:=by
    unfold oo;rw[ĵ,uP (f:=(λ(p:Rat×Nat)=>bX p.1+(gt (keep st fl) p.2).o) ∘ λ(p:Rat×Nat)=>(p.1,pos fl p.2)) (g:=λ(p:Rat×Nat)=>bX p.1+(gt st p.2).o) λp hp=>by show bX p.1+(gt (keep st fl)<|pos fl p.2).o=_;rw[gp p hp]]
   refine⟨?_,by simpa using h0,?_,λp hp=>?_⟩
   .rw[show lP (pos fl) (.bj ps)=.bj (ps.map λp=>(p.1,pos fl p.2)) from rfl,wm,eo,eh,gp _ hd,e,wm,ĵ,ĵ]
    have q1:(ps.map λ(p:Rat×Nat)=>p.1 * (gt st p.2).v)=ps.map ((λ(p:Rat×Nat)=>p.1 * (gt (keep st fl) p.2).v) ∘ λ(p:Rat×Nat)=>(p.1,pos fl p.2)):=uP λp hp=>by show _=p.1 * (gt (keep st fl)<|pos fl p.2).v;rw[gp p hp]
    have q2:(ps.map λ(p:Rat×Nat)=>fF p.1 * (gt st p.2).m * 12^(oo st ps - bX p.1 - (gt st p.2).o))=ps.map ((λ(p:Rat×Nat)=>fF p.1 * (gt (keep st fl) p.2).m * 12^(oo st ps - bX p.1 - (gt (keep st fl) p.2).o)) ∘ λ(p:Rat×Nat)=>(p.1,pos fl p.2)):=uP λp hp=>by show _=fF p.1 * (gt (keep st fl)<|pos fl p.2).m * 12^(oo st ps - bX p.1 - (gt (keep st fl)<|pos fl p.2).o);rw[gp p hp]
    rw[q1,q2]
   .rw[ĵ,Ų]
    rw[Ų]at o2;exact o2.imp_of_mem λ{a b} ha _ p8=>sR p8<|fp a ha
   .have(p,hq,rfl):=À.mp hp
    clear hp;have(z1,z2,z3,z4):=o3 p hq;refine⟨z1,sR z2<|fp p hq,?_,z4⟩;rw[eh];show(gt (keep st fl)<|pos fl p.2).h=(gt (keep st fl)<|pos fl (ps.headD (0,0)).2).h;rw[gp p hq,gp _ hd];exact z3
 .have(q,hq):=a0k hr
  have(t,h1,h2,rfl,rfl):=at_ hq;exact g.at h1
end
end K36
open PySem Internal
namespace K36
open PySem Internal
noncomputable def Rw.ps:Rw->Qa Nat
 |.bin _ i j=>[i,j]
 |_=>[]
theorem JJ:U.tz (.d<|.tuple [])=ž Ż:=rfl
theorem zCl{x:D}{xs:Qa D}:U.tz (.d<|.tuple<|x::xs)=ž ż:=rfl
theorem zCm:uq ["plus", "less", "times", "over"] (.d<|.str "number")=ž (.d<|.bool Ż):=rfl
theorem zCn:uq ["plus", "less", "times", "over"] (.d<|.str "letter")=ž (.d<|.bool Ż):=rfl
theorem zCo{w:Wd}:uq ["plus", "less", "times", "over"] (.d<|.str w.s)=ž (.d<|.bool ż):=by cases w<;>rfl
theorem B6{r:Rw}:oA [.d<|be r]=ž (.d<|.tuple<|r.ps.map λ(n:Nat)=>.int (n:Int),[.d<|be r]):=by
 refine g7 ?_;cases r with
 |num f=>simp![oA,Cc,be,zCm];rfl
 |lt k=>simp![oA,Cc,be,zCn];rfl
 |bin w i j=>
  simp![oA,Cc,be,zCo];rfl
theorem RO.lt{rs:Qa Rw}(h:RO n rs){t:Nat}{r:Rw}(e:rs[t]?=ž r):∀p∈r.ps,p < t:=λp hp=>by
 have:=h t r e;cases r with
 |num f=>cases hp
 |lt k=>cases hp
 |bin w i j=>
  rcases qw.mp hp with rfl|hp
  .exact this.1
  .rw[qr.mp hp];exact this.2
theorem Eg(h:1<=n):fA n (-1)=ž (n - 1):=by
 unfold fA;rw[a4c (by decide),a4b (by omega),show((-1:Int)+(n:Int)).toNat=n - 1 by omega]
theorem ziH{rs:Qa Rw}{Q:U×Qa U->Prop}(hr:RO n rs)(h1:1<=rs.length)(hl:rs.length<=10000)
  (q:∀fl:Qa Bool,fl.length=rs.length->fg fl (rs.length - 1)=ż->(∀(t:Nat) (r:Rw),rs[t]?=ž r->fg fl t=ż->∀p∈r.ps,fg fl p=ż)->Q (.l<|fl.map .bool,[.d<|i8 rs])):
  Wo (Cj [.d<|i8 rs]) Q:=by
 have ll:(rs.map be).length=rs.length:=Ô _;have dn:=Gy (i:=(rs.length:Int) - 1) (j:=-1) (by omega) (by omega) (by decide) (by decide);rw[show((rs.length:Int) - 1 - -1).toNat=rs.length by omega]at dn;have l0:((Đ rs.length Ż).map a1h).length=rs.length:=by rw[ĉ,ę]
 simp![Cj,Oq,ll,JL hl,l0,Eg h1,xK];have rQ:((Đ rs.length Ż).set (rs.length - 1) ż).length=rs.length:=by rw[ĕ,ę]
 have Rj:fg ((Đ rs.length Ż).set (rs.length - 1) ż) (rs.length - 1)=ż:=zlK (by rw[ę];omega);generalize (Đ rs.length Ż).set (rs.length - 1) ż=jX at rQ Rj;refine iX (λi ρ=>∃(fl:Qa Bool) (o2 o3:Qb U),ρ=[ž<|.d<|i8 rs,ž<|.l<|fl.map .bool,o2,o3]/\fl.length=rs.length/\(∀j,fg jX j=ż->fg fl j=ż)/\∀(t:Nat) (r:Rw),rs[t]?=ž r->rs.length<=t+i->fg fl t=ż->∀p∈r.ps,fg fl p=ż) ⟨jX,_,_,rfl,rQ,λj h=>h,λt r h1 h2=>by have:=(qm.mp h1).1;omega⟩ ?_ ?_
 .rintro i d _ hd ⟨fl,o2,o3,rfl,rS,hu,hc⟩
  have(hi,rfl):=GZ hd;obtain⟨k,hk⟩:∃k:Nat,rs.length=i+1+k:=⟨rs.length - (i+1),by omega⟩;have e1:(rs.length:Int) - 1 - (i:Nat)=(k:Int):=by omega
  rw[e1];have en:=qo (show k < rs.length by omega);generalize IA:rs[k]=row at en;have t4:=hr.lt en;have ab:=wj (fl:=fl) (i:=k) (by omega);have done:∀bR,Gr k fl bR->(fg fl k=ż->∀p∈row.ps,fg bR p=ż)->(bR.length=rs.length/\(∀j,fg jX j=ż->fg bR j=ż)/\∀(t:Nat) (r:Rw),rs[t]?=ž r->rs.length<=t+(i+1)->fg bR t=ż->∀p∈r.ps,fg bR p=ż):=λbR g hW=>by
   refine⟨g.ln.trans rS,λj h=>g.up j<|hu j h,λt n et ht hf p gI=>?_⟩
   by_cases c:t=k
   .subst c
    rw[en]at et;cases et;exact hW (by rw[<-g.eq t (qe _)];exact hf) p gI
   .rw[g.eq t (by omega)]at hf
    exact g.up p<|hc t n et (by omega) hf p gI
  by_cases cf:fg fl k=ż
  .rw[cf]at ab
   simp![ab,KQ en,B6];refine rA (λbs cs ρ=>∃(bR:Qa Bool) (o3:Qb U),ρ=[ž<|.d<|i8 rs,ž<|.l<|bR.map .bool,ž<|.d<|.int (k:Int),o3]/\Gr k fl bR/\∀p∈bs,fg bR p=ż) ⟨fl,_,rfl,Gr.refl,λp h=>by cases h⟩ ?_ ?_
   .rintro bs p cs _ e ⟨bR,o5,rfl,g,hb⟩
    have lU:p < k:=t4 p (by rw[e];simp);have t6:p < bR.length:=by rw[g.ln];omega
    simp![ĉ,mE t6,xK];refine⟨_,_,rfl,g.trans<|Gr.set lU t6,λx h=>?_⟩;rw[rg t6];split
    .rfl
    rename_i c;rcases Ï.mp h with h|h
    .exact hb x h
    .exact absurd (qr.mp h) c
   .rintro _ ⟨bR,o5,rfl,g,hb⟩
    simp!;exact⟨bR,_,_,rfl,done bR g λ_=>hb⟩
  .have uh:fg fl k=Ż:=by simpa using cf
   rw[uh]at ab;simp![ab];exact⟨fl,_,_,rfl,done fl Gr.refl λz=>absurd z cf⟩
 .rintro _ ⟨fl,o2,o3,rfl,rS,hu,hc⟩
  rw[Cm]at hc;simp!;exact q fl rS (hu _ Rj) λt n et hf=>hc t n et (by omega) hf
noncomputable def qM(ps:Nat->Nat):Rw->Rw
 |.num r=>.num r
 |.lt k=>.lt k
 |.bin w i j=>.bin w (ps i)<|ps j
def jh(rs:Qa Rw)(fl:Qa Bool)(t:Nat):Qa Rw:=(eV fl t).map λa=>qM (pos fl)<|rs.getD a<|.num 0
abbrev jU(rs:Qa Rw)(fl:Qa Bool):Qa Rw:=jh rs fl rs.length
section
variable{rs:Qa Rw}{fl:Qa Bool}{t:Nat}{r:Rw}
theorem FJ:(jh rs fl t).length=pos fl t:=Ô _
theorem JI(e:rs[t]?=ž r)(f:fg fl t=ż):jh rs fl (t+1)=jh rs fl t++[qM (pos fl) r]:=by
 unfold jh;rw[AS f,Ē,a0I,qC,e];rfl
theorem JH(f:¬fg fl t=ż):jh rs fl (t+1)=jh rs fl t:=by
 unfold jh;rw[AR f]
theorem XW{ls:Qa Str}{Q:U×Qa U->Prop}(hr:RO n rs)(h1:1<=rs.length)(hl:rs.length<=10000)
  (q:∀fl:Qa Bool,fg fl (rs.length - 1)=ż->(∀(t:Nat) (r:Rw),rs[t]?=ž r->fg fl t=ż->∀p∈r.ps,fg fl p=ż)->Q (.d<|cL ls<|jU rs fl,[.d<|cL ls rs])):
  Wo (xN [.d<|cL ls rs]) Q:=by
 simp![xN,Mx];refine ziH hr h1 hl λfl rS f0 hc=>?_;simp!;refine iX (λi ρ=>∃(o6 o7 o8:Qb U),ρ=[ž<|.d<|cL ls rs,ž<|.d<|.tuple<|ls.map .str,ž<|.d<|i8 rs,ž<|.l<|fl.map .bool,ž<|.k<|fQ fl i,ž<|.l<|(jh rs fl i).map be,o6,o7,o8]) ⟨Ž,Ž,Ž,rfl⟩ ?_ ?_
 .rintro i d _ hd ⟨o6,o7,o8,rfl⟩
  have(x,ex,rfl):=vg hd;rw[Č]at ex;have(r,er,rfl):=qt.mp ex;have cG:=(qm.mp er).1;have ab:=wj (fl:=fl) (i:=i) (by omega);have ln:((jh rs fl i).map be).length=pos fl i:=by rw[ĉ,FJ]
  have e0:((0+i:Nat):Int)=(i:Int):=by omega
  have p9:=uX (fl:=fl) (t:=i);rw[e0]
  by_cases cf:fg fl i=ż
  .rw[cf]at ab
   have pp:=Kk cf (show i<=10000 by omega);have ap:=JI er cf;have cl:=hc i r er cf;have lt:=hr.lt er;cases r with
   |num f=>
    have po:oA [.d<|.tuple [.str "number",fR f]]=ž (.d<|.tuple [],[.d<|.tuple [.str "number",fR f]]):=B6 (r:=.num f);simp![ab,ln,pp,po,be,JJ];exact⟨_,_,_,by rw[ap,Ē];rfl⟩
   |lt k=>
    have po:oA [.d<|.tuple [.str "letter",.int (k:Int)]]=ž (.d<|.tuple [],[.d<|.tuple [.str "letter",.int (k:Int)]]):=B6 (r:=.lt k);simp![ab,ln,pp,po,be,JJ];exact⟨_,_,_,by rw[ap,Ē];rfl⟩
   |bin w a b=>
    have da:=uE (t:=i+1) (Þ<|lt a (by simp[Rw.ps])) (cl a (by simp[Rw.ps]));have db:=uE (t:=i+1) (Þ<|lt b (by simp[Rw.ps])) (cl b (by simp[Rw.ps]));have po:oA [.d<|.tuple [.str w.s,.int (a:Int),.int (b:Int)]]=ž (.d<|.tuple [.int (a:Int),.int (b:Int)],[.d<|.tuple [.str w.s,.int (a:Int),.int (b:Int)]]):=B6 (r:=.bin w a b);simp![ab,ln,pp,po,be,zCl,da,db];exact⟨_,_,_,by rw[ap,Ē];rfl⟩
  .have uh:fg fl i=Ż:=by simpa using cf
   rw[uh]at ab;have ap:=JH (rs:=rs) cf;have pl:fQ fl (i+1)=fQ fl i:=by unfold fQ;rw[AR cf]
   simp![ab];exact⟨_,_,_,by rw[ap,pl]⟩
 .rintro _ ⟨o6,o7,o8,rfl⟩
  rw[show(kC 0<|rs.map be).length=rs.length by rw[xQ,ĉ]];simp!;exact q fl f0 hc
end
section
variable{rs:Qa Rw}{fl:Qa Bool}
theorem Kj{q:Nat}{r:Rw}(h:(jU rs fl)[q]?=ž r):∃t x,rs[t]?=ž x/\fg fl t=ż/\pos fl t=q/\r=qM (pos fl) x:=by
 unfold jU jh at h;rw[Č]at h;have(t,ht,rfl):=qt.mp h;have(h1,h2,h3):=LI ht;exact⟨t,rs[t],qo h1,h2,h3,by rw[qC,qo h1];rfl⟩
theorem zAf(hr:RO n rs)(hc:∀(t:Nat) (r:Rw),rs[t]?=ž r->fg fl t=ż->∀p∈r.ps,fg fl p=ż):RO n (jU rs fl):=λq r hq=>by
 have(t,x,hx,hf,rfl,rfl):=Kj hq;have h1:=hr t x hx;have h2:=hc t x hx hf;cases x with
 |num f=>exact h1
 |lt k=>exact h1
 |bin w i j=>exact⟨sR h1.1<|h2 i (by simp[Rw.ps]),sR h1.2<|h2 j (by simp[Rw.ps])⟩
theorem LH{f:Qa α->Rw->α}{z:α}(nat:∀(a b:Qa α) (ps:Nat->Nat) (r:Rw),(∀p∈r.ps,a.getD (ps p) z=b.getD p z)->f a (qM ps r)=f b r)(hr:RO n rs)(hc:∀(t:Nat) (r:Rw),rs[t]?=ž r->fg fl t=ż->∀p∈r.ps,fg fl p=ż):
  ∀t,t<=rs.length->∀p,p < t->fg fl p=ż->(acc f (jh rs fl t) []).getD (pos fl p) z=(acc f (rs.take t) []).getD p z:=λt=>by
 induction t with
 |zero=>intro _ p hp;omega
 |succ t ih=>
  intro ht p hp hf;have er:=qo (show t < rs.length by omega);have tk:=u5 (f:=f) er;have ln:(acc f (rs.take t) []).length=t:=by rw[pK,ě];omega
  by_cases c:fg fl t=ż
  .rw[JI er c,BC,tk]
   have ll:(acc f (jh rs fl t) []).length=pos fl t:=by rw[pK,FJ]
   rcases a0R (a3L hp)with h|h
   .have:=sR h hf
    rw[qC,qC,č (by omega),č (by omega),<-qC,<-qC];exact ih (by omega) p h hf
   .subst h
    rw[qC,qC,Ď (by omega),Ď (by omega),ll,ln,ϡ,ϡ];show f _ _=f _ _;exact nat _ _ _ _ λx hx=>ih (by omega) x (hr.lt er x hx)<|hc p _ er c x hx
  .have lT:p < t:=a3B (a3L hp) λh=>c<|h▸hf
   rw[JH c,tk,ih (by omega) p lT hf,qC,qC,č (by omega)]
theorem Wy(a b:Qa Nat)(ps:Nat->Nat)(r:Rw)(h:∀p∈r.ps,a.getD (ps p) 0=b.getD p 0):w1 a (qM ps r)=w1 b r:=by
 cases r with
 |num f=>rfl
 |lt k=>rfl
 |bin w i j=>
  have hi:=h i (by simp[Rw.ps]);have hj:=h j (by simp[Rw.ps]);cases w <;>
  .simp only[qM,w1,hi,hj]
theorem Wx{pt:Qa Rat}(a b:Qa Vf)(ps:Nat->Nat)(r:Rw)(h:∀p∈r.ps,a.getD (ps p) vz=b.getD p vz):eN pt a (qM ps r)=eN pt b r:=by
 cases r with
 |num f=>rfl
 |lt k=>rfl
 |bin w i j=>
  have hi:=h i (by simp[Rw.ps]);have hj:=h j (by simp[Rw.ps]);cases w <;>
  .simp only[qM,eN,hi,hj]
def GW(rs:Qa Rw):Prop:=∀i,i < rs.length->1<=(cN rs).getD i 0/\(cN rs).getD i 0<=12
theorem zAg(g:GW rs)(hr:RO n rs)(hc:∀(t:Nat) (r:Rw),rs[t]?=ž r->fg fl t=ż->∀p∈r.ps,fg fl p=ż):GW (jU rs fl):=λi hi=>by
 have(t,x,hx,hf,rfl,_):=Kj (qo hi);have ht:=(qm.mp hx).1;have e:=LH (z:=0) Wy hr hc rs.length (qe _) t ht hf;rw[ϥ]at e;show 1<=(acc w1 (jh rs fl rs.length) []).getD _ _/\(acc w1 (jh rs fl rs.length) []).getD _ _<=12;rw[e];exact g t ht
theorem Ww{pt:Qa Rat}(hr:RO n rs)(hc:∀(t:Nat) (r:Rw),rs[t]?=ž r->fg fl t=ż->∀p∈r.ps,fg fl p=ż){t:Nat}(ht:t < rs.length)(hf:fg fl t=ż):(bg pt<|jU rs fl).getD (pos fl t) vz=(bg pt rs).getD t vz:=by
 have e:=LH (z:=vz) (Wx (pt:=pt)) hr hc rs.length (qe _) t ht hf;rw[ϥ]at e;exact e
theorem FI(h1:1<=rs.length)(f0:fg fl (rs.length - 1)=ż):(jU rs fl).length=pos fl (rs.length - 1)+1/\(jU rs fl).length<=rs.length:=by
 rw[FJ];refine⟨?_,uX⟩;have:=(Eh (fl:=fl) (t:=rs.length - 1)).2 f0;rw[show rs.length - 1+1=rs.length by omega]at this;exact this
end
end K36
open PySem Internal
namespace K36
open PySem Internal
theorem Bd.Qs{w w' t:Nat}{x:Rat}(h:Bd (12^w) (Bn w t) x)(l:w<=w'):Bd (12^w') (Bn w' t) x:=by
 have:=h.wide (12^(w' - w));rw[<-ħ,show w+(w' - w)=w' by omega]at this;exact this.le<|El l
theorem JG{t:Nat}:12000000<=Bn 1 (t+1):=qA (show 12000000<=2^28 by decide) (Í (by decide) (by omega))
theorem zCp{a b:Vf}:ug a b 0=a 0 * b 0:=by
 show a 0 * b (0 - 0)+0=_;rw[Ļ]
theorem Fp{pt:Qa Rat}{vs:Qa Vf}{k:Nat}:eN pt vs (.bin .plus i j) k=vs.getD i vz k+vs.getD j vz k:=rfl
theorem Fo{pt:Qa Rat}{vs:Qa Vf}{k:Nat}:eN pt vs (.bin .less i j) k=vs.getD i vz k - vs.getD j vz k:=rfl
theorem Fn{pt:Qa Rat}{vs:Qa Vf}{k:Nat}:eN pt vs (.bin .times i j) k=ug (vs.getD i vz) (vs.getD j vz) k:=rfl
theorem Ki{a b:Vf}{k w1 w2 B1 B2:Nat}(hk:j<=9)(ha:∀e,e < j->Bd (12^w1) B1 (a e))(hb:∀e,e < j->Bd (12^w2) B2 (b<|k - e)):Bd (12^(w1+w2)) (81 * (B1 * B2)) (((Ğ j).map λe=>a e * b (k - e)).sum):=by
 have h:=Fs (M:=12^(w1+w2)) (xs:=Ğ j) (f:=λe=>a e * b (k - e)) (g:=λ_=>B1 * B2) λe he=>by
  have he:=ç.mp he;rw[ħ];exact(ha e he).mul<|hb e he
 refine h.le ?_;have s:=KU (xs:=Ğ j) (g:=λ_=>B1 * B2) (c:=1) (G:=B1 * B2) λx _=>by rw[a1v];exact qe _
 rw[a1v,Ν]at s;exact qA s<|Á _ (by omega)
structure WB (t:Nat) (w:Nat) (k:Nat) (v:Vf):Prop where
 p:1<=w
 l:w<=12
 b:∀e,e<=k->Bd (12^w) (Bn w t) (v e)
theorem Kh{pt:Qa Rat}{ws:Qa Nat}{vs:Qa Vf}{t k:Nat}{r:Rw}(hk:k<=8)(lT:∀x∈pt,Bd 12 12000000 x)(h:∀i,i < t->WB t (ws.getD i 0) k (vs.getD i vz))(hr:R1 pt.length t r):∀e,e<=k->Bd (12^w1 ws r) (Bn (w1 ws r)<|t+1) (eN pt vs r e):=λe he=>by
 cases r with
 |num f=>
  show Bd 12 (Bn 1<|t+1) (if e=0 then f else 0);split
  .exact Bd.le hr JG
  .exact Bd.zero
 |lt j=>
  show Bd 12 (Bn 1<|t+1) (if e=1 then pt.getD j 0 else 0);split
  .have hj:pt.getD j 0∈pt:=by
    rw[qC,qo hr];exact ó _
   exact(lT _ hj).le JG
  .exact Bd.zero
 |bin w i j=>
  have(p1,l1,b1):=h i hr.1;have(p2,l2,b2):=h j hr.2;have two:∀{x y:Rat},Bd (12^ws.getD i 0) (Bn (ws.getD i 0) t) x->Bd (12^ws.getD j 0) (Bn (ws.getD j 0) t) y->Bd (12^max (ws.getD i 0) (ws.getD j 0)) (Bn (max (ws.getD i 0)<|ws.getD j 0)<|t+1) (x+y):=λ{x y} hx hy=>by
   have b4:2 * 2 * Bn (max (ws.getD i 0)<|ws.getD j 0) t<=Bn (max (ws.getD i 0)<|ws.getD j 0) (t+1):=PF (qA p1<|ã _ _);exact((Bd.Qs hx<|ã _ _).add<|Bd.Qs hy<|μ _ _).le (by omega)
  cases w with
  |plus=>
   rw[Fp];exact two (b1 e he)<|b2 e he
  |less=>
   rw[Fo,a0N];exact two (b1 e he) (b2 e he).neg
  |times=>
   rw[Fn];exact(Ki (a:=vs.getD i vz) (b:=vs.getD j vz) (k:=e) (j:=e+1) (by omega) (λx hx=>b1 x (by omega)) (λx hx=>b2 _ (by omega))).le<|Ek p1 p2
theorem zC1{pt:Qa Rat}{vs:Qa Vf}{pr:Qa PR}{r:Rw}(h:∀i,i < pr.length->(pr.getD i (0,[])).1=vs.getD i vz 0)(hr:R1 pt.length pr.length r):n0 pr r=eN pt vs r 0:=by
 cases r with
 |num f=>rfl
 |lt k=>rfl
 |bin w i j=>
  have hi:=h i hr.1;have hj:=h j hr.2;cases w with
  |plus=>rw[Fp,<-hi,<-hj];rfl
  |less=>rw[Fo,<-hi,<-hj];rfl
  |times=>rw[Fn,zCp,<-hi,<-hj];rfl
theorem pI{xs:Qa α}{y z:α}(h:i < xs.length):(xs++[y]).getD i z=xs.getD i z:=by
 rw[qC,qC,č h]
theorem pH{xs:Qa α}{y z:α}(h:i=xs.length):(xs++[y]).getD i z=y:=by
 rw[h,qC,Ď<|qe _,ϡ];rfl
section
variable{pt:Qa Rat}{st aA:Qa Nr}{ws:Qa Nat}{vs:Qa Vf}{pr:Qa PR}{r:Rw}
theorem RR.wb(J:RR st most ws vs pr):∀i,i < pr.length->WB pr.length (ws.getD i 0) 0 (vs.getD i vz):=λi hi=>by
 have ri:=J.ri i hi;refine⟨(J.wp i hi).1,(J.wp i hi).2,λe he=>?_⟩;rw[Nat.le_zero.mp he,<-ri.v0];exact ri.b0
theorem RR.snoc(J:RR st most ws vs pr)(ex:Ex st aA)(lT:∀x∈pt,Bd 12 12000000 x)(hr:R1 pt.length pr.length r)(hw:1<=w1 ws r/\w1 ws r<=12){ps:Qa Pc}(hl:ps.length=most)
  (hp:∀k,1<=k->k<=most->PB aA k (w1 ws r) (Bn (w1 ws r)<|pr.length+1) (ps.getD (k - 1) Ž)/\pv aA (ps.getD (k - 1) Ž)=eN pt vs r k):
  RR aA most (ws++[w1 ws r]) (vs++[eN pt vs r]) (pr++[(n0 pr r,ps)]):=by
 have e0:=zC1 (λi hi=>(J.ri i hi).v0) hr;have nw:RI aA most (w1 ws r) (Bn (w1 ws r)<|pr.length+1) (n0 pr r,ps) (eN pt vs r):=⟨hl,by
  show Bd _ _ (n0 pr r);rw[e0];exact Kh (Ê _) lT J.wb hr 0<|qe _,e0,λk a b=>(hp k a b).1,λk a b=>(hp k a b).2⟩
 refine⟨by rw[qu,qu,J.lw];rfl,by rw[qu,qu,J.lv];rfl,λi hi=>?_,λi hi=>?_⟩
 .rw[qu,Ĳ]at hi
  by_cases c:i < pr.length
  .rw[pI (by rw[J.lw];exact c)]
   exact J.wp i c
  .rw[pH (by rw[J.lw];omega)]
   exact hw
 .rw[qu,Ĳ]at hi
  rw[qu,Ĳ]
  by_cases c:i < pr.length
  .rw[pI (by rw[J.lw];exact c),pI c,pI (by rw[J.lv];exact c)]
   exact((J.ri i c).ex ex).le<|FK<|Ð _
  .rw[pH (by rw[J.lw];omega),pH (show i=pr.length by omega),pH (by rw[J.lv];omega)]
   exact nw
end
theorem MR{pr:Qa PR}(h:1<=pr.length):bf (pr.map ik) (-1)=ž (.list<|ke<|pr.getD (pr.length - 1) (0,[])):=by
 have e2:bf (pr.map ik) (-1)=bf (pr.map ik) ((pr.length - 1:Nat):Int):=by
  unfold bf;rw[ĉ,Eg h,mE (by omega)]
 rw[e2,wN (by omega)]
def rD(st:Qa Nr):Qa D:=st.map λr=>r.n.d
abbrev ig(ls:Qa Str)(st:Qa Nr)(c:Rat)(os:Qa (Qb Nat)):D:=.tuple [.tuple<|ls.map .str,.tuple<|rD st,.tuple [fR c,.tuple<|os.map oD]]
def OT(st:Qa Nr)(k:Nat)(v:Rat)(o:Qb Nat):Prop:=(o=Ž->v=0)/\∀j,o=ž j->j < st.length/\(gt st j).v=v/\(gt st j).h=k
theorem OT.ex{st aA:Qa Nr}{k:Nat}{v:Rat}{o:Qb Nat}(h:OT st k v o)(e:Ex st aA):OT aA k v o:=⟨h.1,λj ej=>by
 have(a,b):=h.2 j ej;rw[e.gt a];exact⟨qi a e.len,b⟩⟩
def kM(st:Qa Nr)(fl:Qa Bool)(t:Nat):Qa D:=(eV fl t).map λa=>(lP (pos fl) (gt st a).n).d
theorem Wv{st:Qa Nr}{fl:Qa Bool}:kM st fl st.length=rD (keep st fl):=by
 unfold kM rD keep;rw[ĵ];rfl
theorem LG{st:Qa Nr}{fl:Qa Bool}{t:Nat}:(kM st fl t).length=pos fl t:=Ô _
theorem OT.keep{st:Qa Nr}{fl:Qa Bool}{k:Nat}{v:Rat}{o:Qb Nat}(h:OT st k v o)(hf:∀j,o=ž j->fg fl j=ż):OT (keep st fl) k v (o.map<|pos fl):=by
 refine⟨λz=>h.1 (by cases o with|none=>rfl|some j=>cases z),λj ej=>?_⟩;cases o with
 |none=>cases ej
 |some i=>
  cases ej;have(a,b,c):=h.2 i rfl;have g:=BB (st:=st) a (hf i rfl);refine⟨WA a<|hf i rfl,?_,?_⟩
  .rw[g];exact b
  .rw[g];exact c
theorem PD:dB Ż (.d<|oD Ž) (.d .none)=ž (.d<|.bool ż):=rfl
theorem Pz:dB Ż (.d<|.int (j:Int)) (.d .none)=ž (.d<|.bool Ż):=rfl
def AQ:MS:=(zr (zJ 15<|aS (f1 gx)<|zb (gQ (eT mq<|gR<|zd 9) 1 [11] (zy 0) iT<|jo (mB<|ah (dB Ż) (zd 0)<|mC .none) (mC .none)<|jF (zd 1)<|zd 0) zj)
  (zW<|aX<|zb (zd 2)<|zb (aS (f1 gx)<|zb (zd 12) zj)<|zb (aX<|zb (ah zP (ah zP (zd 5)<|bY e8<|mC<|.int 1)<|mC<|.int 0)<|zb (zd 15) zj) zj))
def Ef:MS:=(zr (pz "Netting" 4 "nodes" (fj 2<|zY (zy 13)<|zY (zy 14) gv)<|aT (mB<|ah zP (zd 10)<|zd 13) (zr (lx 11 (zd 13)<|aS (f1 bN)<|zb (zd 12) zj)
  (cT<|cU 12<|zF mO<|zb (zd 14)<|zb (zd 11) zj)) zS)
  (zr (zJ 15<|aS (f1 gx)<|zb (gQ (eT mq<|gR<|zd 9) 1 [11] (zy 0) iT<|jo (mB<|ah (dB Ż) (zd 0)<|mC .none) (mC .none)<|jF (zd 1)<|zd 0) zj)
  (zW<|aX<|zb (zd 2)<|zb (aS (f1 gx)<|zb (zd 12) zj)<|zb (aX<|zb (ah zP (ah zP (zd 5)<|bY e8<|mC<|.int 1)<|mC<|.int 0)<|zb (zd 15) zj) zj)))
def JF:MS:=(zr (zJ 11 pJ)
  (zr (zJ 12<|cC zj)
  (zr (pz "Netting" 4 "nodes" (fj 2<|zY (zy 13)<|zY (zy 14) gv)<|aT (mB<|ah zP (zd 10)<|zd 13) (zr (lx 11 (zd 13)<|aS (f1 bN)<|zb (zd 12) zj)
  (cT<|cU 12<|zF mO<|zb (zd 14)<|zb (zd 11) zj)) zS)
  (zr (zJ 15<|aS (f1 gx)<|zb (gQ (eT mq<|gR<|zd 9) 1 [11] (zy 0) iT<|jo (mB<|ah (dB Ż) (zd 0)<|mC .none) (mC .none)<|jF (zd 1)<|zd 0) zj)
  (zW<|aX<|zb (zd 2)<|zb (aS (f1 gx)<|zb (zd 12) zj)<|zb (aX<|zb (ah zP (ah zP (zd 5)<|bY e8<|mC<|.int 1)<|mC<|.int 0)<|zb (zd 15) zj) zj)))))
theorem XU:JF=(zr (zJ 11 pJ)
  (zr (zJ 12<|cC zj)
  Ef)):=rfl
theorem XS:Ef=zr (pz "Netting" 4 "nodes" (fj 2<|zY (zy 13)<|zY (zy 14) gv)<|aT (mB<|ah zP (zd 10)<|zd 13) (zr (lx 11 (zd 13)<|aS (f1 bN)<|zb (zd 12) zj)<|cT<|cU 12<|zF mO<|zb (zd 14)<|zb (zd 11) zj) zS) AQ:=rfl
def Ee:MS:=(zr (zJ 10<|sP "Netting" 4 "nodes" 9 tu)
  (zr (zJ 11 pJ)
  (zr (zJ 12<|cC zj)
  (zr (pz "Netting" 4 "nodes" (fj 2<|zY (zy 13)<|zY (zy 14) gv)<|aT (mB<|ah zP (zd 10)<|zd 13) (zr (lx 11 (zd 13)<|aS (f1 bN)<|zb (zd 12) zj)
  (cT<|cU 12<|zF mO<|zb (zd 14)<|zb (zd 11) zj)) zS)
  (zr (zJ 15<|aS (f1 gx)<|zb (gQ (eT mq<|gR<|zd 9) 1 [11] (zy 0) iT<|jo (mB<|ah (dB Ż) (zd 0)<|mC .none) (mC .none)<|jF (zd 1)<|zd 0) zj)
  (zW<|aX<|zb (zd 2)<|zb (aS (f1 gx)<|zb (zd 12) zj)<|zb (aX<|zb (ah zP (ah zP (zd 5)<|bY e8<|mC<|.int 1)<|mC<|.int 0)<|zb (zd 15) zj) zj))))))
theorem XR:Ee=zr (zJ 10<|sP "Netting" 4 "nodes" 9 tu) JF:=rfl
def Ew:MS:=(zr (zJ 9<|gQ (pe<|zb (mC<|.int 1)<|zb (ah bO (zd 1)<|mC<|.int 1) zj) 1 [5,4] (zy 0) iT<|lg "Netting" 2 "out_of" tw<|zb (ah zP (ah zP (zd 1)<|bY e8<|mC<|.int 1)<|zd 0)<|zb (zd 0) zj)
  (zr (zJ 10<|sP "Netting" 4 "nodes" 9 tu)
  (zr (zJ 11 pJ)
  (zr (zJ 12<|cC zj)
  (zr (pz "Netting" 4 "nodes" (fj 2<|zY (zy 13)<|zY (zy 14) gv)<|aT (mB<|ah zP (zd 10)<|zd 13) (zr (lx 11 (zd 13)<|aS (f1 bN)<|zb (zd 12) zj)
  (cT<|cU 12<|zF mO<|zb (zd 14)<|zb (zd 11) zj)) zS)
  (zr (zJ 15<|aS (f1 gx)<|zb (gQ (eT mq<|gR<|zd 9) 1 [11] (zy 0) iT<|jo (mB<|ah (dB Ż) (zd 0)<|mC .none) (mC .none)<|jF (zd 1)<|zd 0) zj)
  (zW<|aX<|zb (zd 2)<|zb (aS (f1 gx)<|zb (zd 12) zj)<|zb (aX<|zb (ah zP (ah zP (zd 5)<|bY e8<|mC<|.int 1)<|mC<|.int 0)<|zb (zd 15) zj) zj)))))))
theorem Ye:Ew=(zr (zJ 9<|gQ (pe<|zb (mC<|.int 1)<|zb (ah bO (zd 1)<|mC<|.int 1) zj) 1 [5,4] (zy 0) iT<|lg "Netting" 2 "out_of" tw<|zb (ah zP (ah zP (zd 1)<|bY e8<|mC<|.int 1)<|zd 0)<|zb (zd 0) zj)
  Ee):=rfl
theorem zAh:MY=(zr (nJ (zF xN<|zb (zd 0) zj)<|fj 2<|zY (zy 2)<|zY (zy 3) gv)
  (zr (zJ 4<|Ah "Netting" [("nodes",.l []),("reached",.l []),("node_places",.x [])])
  (zr (zJ 5<|cC zj)
  (zr (dN (eT iU<|zd 3) (zy 6) (zr (zJ 7<|cC<|zb (zF pO<|zb (zd 6)<|zb (zd 5) zj) zj)
  (zr (dN (pe<|zb (mC<|.int 1)<|zb (ah bO (zd 1)<|mC<|.int 1) zj) (zy 8)<|cT<|cU 7<|zF oq<|zb (zd 4)<|zb (zd 6)<|zb (zd 5)<|zb (zd 8) zj)
  (cT<|cU 5<|gR<|zd 7))))
  Ew)))):=rfl
section
variable{pt:Qa Rat}{ls:Qa Str}{r0 xs:Qa Rw}{st:Qa Nr}{u:U}{pr:Qa PR}{V:Vf}{Q:U×Qa U->Prop}{o6 o7 o8 oa:Qb U}
theorem RA{ns:Qa Nd}{pl:Qa (Qa K3×D)}{a0 a1 a2 a3:Qb U}{r:En}:lY "Netting" 4 "nodes" (a0::a1::a2::a3::ž (dE ns hs pl)::r)=ž (ns.map Nd.d):=rfl
theorem zC2{fl:Qa Bool}{t:Nat}(f:fg fl t=ż):kM st fl (t+1)=kM st fl t++[(lP (pos fl) (gt st t).n).d]:=by
 unfold kM;rw[AS f,Ē];rfl
theorem Wu{fl:Qa Bool}{a b:Qb U}(eP:(pr.getD (pr.length - 1) (0,[])).1=V 0)(h1:1<=pr.length)(h9:os.length<=10000)(hn:st.length<=10000)
  (ff:∀o∈os,∀j,o=ž j->j < st.length/\fg fl j=ż)
  (q:Q (.d<|ig ls (keep st fl) (V 0)<|os.map λo=>o.map<|pos fl,[.d<|cL ls r0,.d<|.int (most:Int)])):
  Wo (AQ [ž<|.d<|cL ls r0,ž<|.d<|.int (most:Int),ž<|.d<|.tuple<|ls.map .str,ž<|.d<|i8 xs,ž u,ž<|.l<|pr.map ik,o6,o7,o8,ž<|.d<|.list<|os.map oD,ž<|.l<|fl.map .bool,ž<|.k<|fQ fl st.length,ž<|.l<|kM st fl st.length,a,b,Ž]) (Co (sA [0,1] [.d<|cL ls r0,.d<|.int (most:Int)]) ⟨0⟩ Q):=by
 have al:=MR h1;have a0:=wO (p:=pr.getD (pr.length - 1) (0,[]));rw[eP]at a0;have p9:=uX (fl:=fl) (t:=st.length);have ln:(kM st fl st.length).length=pos fl st.length:=LG;simp![AQ];refine Fx (g:=oD) (as:=os) (e:=λo=>oD<|o.map<|pos fl) (by omega) (λo ho ys=>?_) ?_
 .cases o with
  |none=>
   simp![PD];rfl
  |some j=>
   have(h2,h3):=ff _ ho j rfl;have dg:=uE h2 h3;simp![oD,Pz,dg]
 .have oz:(os.map λo=>oD<|o.map<|pos fl)=(os.map λo=>o.map<|pos fl).map oD:=by rw[ĵ];rfl
  have kk:=Wv (st:=st) (fl:=fl);simp![al,a0,oz,kk];exact q
theorem Wt{fl:Qa Bool}{pl:Qa (Qa K3×D)}(gd:Gd pt st)(hn:st.length<=10000)(rS:fl.length=st.length)(eP:(pr.getD (pr.length - 1) (0,[])).1=V 0)(h1:1<=pr.length)(h9:os.length<=10000)
  (ff:∀o∈os,∀j,o=ž j->j < st.length/\fg fl j=ż) (fc:∀(t:Nat) (n:Nd),(st.map (·.n))[t]?=ž n->fg fl t=ż->∀p∈n.ps,p < t/\fg fl p=ż) (hm:∀(t:Nat) ps,(gt st t).n=.bj ps->ps.length<=10000)
  (q:Q (.d<|ig ls (keep st fl) (V 0)<|os.map λo=>o.map<|pos fl,[.d<|cL ls r0,.d<|.int (most:Int)])):
  Wo (Ef [ž<|.d<|cL ls r0,ž<|.d<|.int (most:Int),ž<|.d<|.tuple<|ls.map .str,ž<|.d<|i8 xs,ž<|dE (st.map (·.n)) (st.map (·.h)) pl,ž<|.l<|pr.map ik,o6,o7,o8,ž<|.d<|.list<|os.map oD,ž<|.l<|fl.map .bool,ž<|.k [],ž<|.l [],Ž,Ž,Ž]) (Co (sA [0,1] [.d<|cL ls r0,.d<|.int (most:Int)]) ⟨0⟩ Q):=by
 rw[XS,Gb,Nu,RA,dU];show Wo (ő (Option.join _) _) _;rw[show(Option.join ([ž<|U.d<|cL ls r0,ž<|.d<|.int (most:Int),ž<|.d<|.tuple<|ls.map .str,ž<|.d<|i8 xs,ž<|dE (st.map (·.n)) (st.map (·.h)) pl,ž<|.l<|pr.map ik,o6,o7,o8,ž<|.d<|.list<|os.map oD,ž<|.l<|fl.map .bool,ž<|.k [],ž<|.l [],Ž,Ž,Ž]:En)[4]?)=ž (dE (st.map (·.n)) (st.map (·.h)) pl) from rfl,a0X,zt];show Wo (gu _ _ _ [ž<|U.d<|cL ls r0,ž<|.d<|.int (most:Int),ž<|.d<|.tuple<|ls.map .str,ž<|.d<|i8 xs,Ž,ž<|.l<|pr.map ik,o6,o7,o8,ž<|.d<|.list<|os.map oD,ž<|.l<|fl.map .bool,ž<|.k [],ž<|.l [],Ž,Ž,Ž]) _;refine iX (λi ρ=>∃(a b:Qb U),ρ=[ž<|.d<|cL ls r0,ž<|.d<|.int (most:Int),ž<|.d<|.tuple<|ls.map .str,ž<|.d<|i8 xs,Ž,ž<|.l<|pr.map ik,o6,o7,o8,ž<|.d<|.list<|os.map oD,ž<|.l<|fl.map .bool,ž<|.k<|fQ fl i,ž<|.l<|kM st fl i,a,b,Ž]) ⟨Ž,Ž,rfl⟩ ?_ ?_
 .rintro i d _ hd ⟨a,b,rfl⟩
  have(x,ex,rfl):=vg hd;rw[Č,Č]at ex;have(n,en,rfl):=qt.mp ex;have(r,er,rfl):=qt.mp en;have cG:=(qm.mp er).1;have eg:=wR er;have ab:=wj (fl:=fl) (i:=i) (by omega);have e0:((0+i:Nat):Int)=(i:Int):=by omega
  have p9:=uX (fl:=fl) (t:=i);have ln:(kM st fl i).length=pos fl i:=LG;rw[e0]
  by_cases cf:fg fl i=ż
  .rw[cf]at ab
   have pp:=Kk cf (show i<=10000 by omega);have ap:=zC2 (st:=st) cf;rw[eg]at ap;have rn:=ziG (fl:=fl) (t:=i+1) (n:=r.n) (λp hp=>by
    have(x,y):=fc i r.n (by rw[Č,er];rfl) cf p hp;exact⟨by omega,y⟩) λps e=>hm i ps (by rw[eg];exact e)
   simp![ab,ln,pp,rn];exact⟨_,_,by rw[ap]⟩
  .have uh:fg fl i=Ż:=by simpa using cf
   rw[uh]at ab;have ap:kM st fl (i+1)=kM st fl i:=by unfold kM;rw[AR cf]
   have mX:fQ fl (i+1)=fQ fl i:=by unfold fQ;rw[AR cf]
   simp![ab];exact⟨_,_,by rw[ap,mX]⟩
 .rintro _ ⟨a,b,rfl⟩
  rw[show(kC 0<|(st.map (·.n)).map Nd.d).length=st.length by rw[xQ,ĉ,ĉ]];show Wo (ž _) _;rw[dU];show Wo (AQ _) _;exact Wu eP h1 h9 hn ff q
theorem Ws{t:Nat}{xs:Qa Nat}:∀{s:Nat},xs.Pairwise (· < ·)->(∀x∈xs,s<=x/\x < t)->s<=t->s+xs.length<=t:=by
 induction xs with
 |nil=>intro s _ _ h;exact h
 |cons x xs ih=>
  intro s hp hx _;have(h1,h2):=Ĉ.mp hp;have(a,b):=hx x qq;have:=ih (s:=x+1) h2 (λy hy=>⟨h1 y hy,(hx y<|qp _ hy).2⟩) b;rw[qv];omega
theorem xq{ps:Qa (Rat×Nat)}{t:Nat}(h:(ps.map (·.2)).Pairwise (· < ·))(hl:∀p∈ps,p.2 < t):ps.length<=t:=by
 have:=Ws (s:=0) h (λx hx=>by
  have(p,hp,rfl):=À.mp hx;exact⟨Ê _,hl p hp⟩) (Ê _)
 rw[ĉ]at this;omega
theorem Wq{x:Qa D}{y:U}:wk [.l x,y]=ž (x,y):=rfl
theorem zCs{ns:Qa Nd}{pl:Qa (Qa K3×D)}:U.aM "nodes" (.l<|ns.map Nd.d) (dE ns hs pl)=dE ns hs pl:=rfl
theorem Wp(m8:most<=8)(nu:NU pt st u)(hn:st.length<=10000)(lo:os.length=most)(h1:1<=pr.length)(eP:(pr.getD (pr.length - 1) (0,[])).1=V 0)(ho:∀k,1<=k->k<=most->OT st k (V k) (os.getD (k - 1) Ž))
  (q:∀aA os,Gd pt aA->aA.length<=st.length->os.length=most->(∀k,1<=k->k<=most->OT aA k (V k) (os.getD (k - 1) Ž))->Q (.d<|ig ls aA (V 0) os,[.d<|cL ls r0,.d<|.int (most:Int)])):
  Wo (Ee [ž<|.d<|cL ls r0,ž<|.d<|.int (most:Int),ž<|.d<|.tuple<|ls.map .str,ž<|.d<|i8 xs,ž u,ž<|.l<|pr.map ik,o6,o7,o8,ž<|.l<|os.map oD,Ž,Ž,Ž,Ž,Ž,Ž]) (Co (sA [0,1] [.d<|cL ls r0,.d<|.int (most:Int)]) ⟨0⟩ Q):=by
 have vA:=nu;have(gd,pl,tt,rfl):=nu;have ju:∀o∈os,∃k,1<=k/\k<=most/\OT st k (V k) o:=λo h=>by
  have(i,hi):=a0k h;have hl:=(qm.mp hi).1;have:=ho (i+1) (by omega) (by omega);have e:os.getD i Ž=o:=by rw[qC,hi];rfl
  rw[ņ,e]at this;exact⟨i+1,by omega,by omega,this⟩
 have yB:∀(t:Nat) (n:Nd),(st.map (·.n))[t]?=ž n->∀p∈n.ps,p < t:=λt n et p hp=>by
  rw[Č]at et;have(r,er,rfl):=qt.mp et;have(_,o):=gd.ok t r er;have(a1,a2):=o.lt;cases hn:r.n with
  |aH k=>rw[hn]at hp;cases hp
  |times a b=>
   rw[hn]at hp;have(x,y):=a1 a b hn;rcases qw.mp hp with rfl|hp
   .exact x
   .rw[qr.mp hp];exact y
  |bj ps=>
   rw[hn]at hp;have(z,hz,rfl):=À.mp hp;exact(a2 ps hn).2 z hz
 have n49:((4:Nat)=9)=False:=eq_false (by decide);rw[XR,Gb,KY,Nq,RA,dU];simp![n49];have Rf:(st.map (·.n)).length<=10000:=by rw[ĉ];exact hn
 have Iw:∀o∈os,∀j,o=ž j->j < (st.map (·.n)).length:=λo h j ej=>by
  have(k,_,_,ot):=ju o h;rw[ĉ];exact(ot.2 j ej).1
 refine zig Rf yB Iw ?_;intro fl rS ff fc;rw[ĉ]at rS;simp![XU,Wq,zCs];have RC:∀o∈os,∀j,o=ž j->j < st.length/\fg fl j=ż:=λo h j ej=>by
  have(k,_,_,ot):=ju o h;exact⟨(ot.2 j ej).1,ff o h j ej⟩
 have HQ:∀(t:Nat) ps,(gt st t).n=.bj ps->ps.length<=10000:=λt ps e=>by
  by_cases c:t < st.length
  .have o:=(gd.ok t (gt st t)<|wQ c).2
   rw[e]at o;exact qA (xq o.2.1 λp hp=>(o.2.2 p hp).2.1) (by omega)
  .have:gt st t=z0:=by
    unfold gt;rw[qC,Ł (by omega)];rfl
   rw[this]at e;cases e
 exact Wt gd hn rS eP h1 (by omega) RC (λt n et f p hp=>⟨yB t n et p hp,fc t n et f p hp⟩) HQ (q _ _ (Wz gd fc) XY (by rw[ĉ];exact lo) λk k1 k2=>by
  have e:(os.map λo=>o.map<|pos fl).getD (k - 1) Ž=(os.getD (k - 1) Ž).map (pos fl):=by
   rw[qC,qC,Č,qo (by omega)];rfl
  rw[e];refine(ho k k1 k2).keep λj ej=>(RC (os.getD (k - 1) Ž) ?_ j ej).2;rw[qC,qo (by omega)];exact ó _)
end
section
variable{pt:Qa Rat}{ls:Qa Str}{r0 xs:Qa Rw}{st:Qa Nr}{u:U}{pr:Qa PR}{V:Vf}{Q:U×Qa U->Prop}{o6 o7 o8 oa:Qb U}
theorem Wn(nu:NU pt st u)(hm:most<=8)(h1:1<=pr.length)(vR:pr.length<=24)(hn:st.length+most<=10000){w:Nat}(vq:w<=12)(ri:RI st most w (Bn w pr.length) (pr.getD (pr.length - 1) (0,[])) V)
  (q:∀aA os,Gd pt aA->aA.length<=st.length+most->os.length=most->(∀k,1<=k->k<=most->OT aA k (V k) (os.getD (k - 1) Ž))->Q (.d<|ig ls aA (V 0) os,[.d<|cL ls r0,.d<|.int (most:Int)])):
  Wo (Ew [ž<|.d<|cL ls r0,ž<|.d<|.int (most:Int),ž<|.d<|.tuple<|ls.map .str,ž<|.d<|i8 xs,ž u,ž<|.l<|pr.map ik,o6,o7,o8,Ž,Ž,Ž,Ž,Ž,Ž,Ž]) (Co (sA [0,1] [.d<|cL ls r0,.d<|.int (most:Int)]) ⟨0⟩ Q):=by
 have al:=MR h1;have eP:=ri.v0;generalize hP:pr.getD (pr.length - 1) (0,[])=P at al ri eP;simp![Ye];refine A3 (λj ρ ys=>∃(aA:Qa Nr) (u':U) (os:Qa (Qb Nat)),ρ=[Ž,ž<|.l<|pr.map ik,ž u']/\ys=os.map oD/\os.length=j/\NU pt aA u'/\Ex st aA/\aA.length<=st.length+j/\∀k,1<=k->k<=j->OT aA k (V k) (os.getD (k - 1) Ž)) (by rw[lK,wH];omega) ?_ ⟨st,u,[],rfl,rfl,rfl,nu,Ex.refl,qe _,λk a b=>by omega⟩ ?_ ?_
 .rintro j _ _ ⟨aA,u',os,rfl,rfl,lo,_⟩
  rw[ĉ];omega
 .rintro j d _ _ hd ⟨aA,u',os,rfl,rfl,lo,iY,ex,len,ho⟩
  have(hj,rfl):=Fq hd;have hj:j < most:=by omega
  have pk:=sI (p:=P) (k:=j+1) (by omega) (by rw[ri.ln];omega);have(o1,o2,o3,o4):=iY.own;simp![al,pk,o4];have pb:=(ri.pb (j+1) (by omega) (by omega));refine zCe (k:=j+1) iY (by omega) (pb.ex ex) vq (AU vq vR) λs2 u2 o vA lZ sG hn hs=>?_;simp![vA.jn,iY.jn];refine⟨s2,u2,os++[o],rfl,by rw[Ē];rfl,by rw[qu,lo];rfl,vA,ex.trans lZ,by omega,λk a b=>?_⟩
  by_cases c:k<=j
  .rw[pI (by omega)]
   exact(ho k a c).ex lZ
  .have ek:k=j+1:=by omega
   subst ek;rw[pH (by omega)];have vv:=ri.pv (j+1) (by omega) (by omega);rw[<-fP pb ex]at vv;refine⟨λz=>?_,λi ei=>?_⟩
   .rw[<-vv,hn z];rfl
   .rw[<-vv];exact hs i ei
 .rintro _ _ ⟨aA,u',os,rfl,rfl,lo,iY,ex,len,ho⟩
  rw[lK,show((most:Int)+1 - 1).toNat=most by omega]at len lo ho;simp!;exact Wp hm iY (by omega) lo h1 (by rw[hP];exact eP) ho λiG os2 g l=>q iG os2 g (by omega)
end
theorem Yd{pt:Qa Rat}{ls:Qa Str}{rs:Qa Rw}{Q:U×Qa U->Prop}(lT:∀x∈pt,Bd 12 12000000 x)(hr:RO pt.length rs)(gw:GW rs)(h1:1<=rs.length)(vR:rs.length<=24)(hm:most<=8)
  (q:∀st os,Gd pt st->st.length<=rs.length * (most * most)+most->os.length=most->(∀k,1<=k->k<=most->OT st k ((bg pt rs).getD (rs.length - 1) vz k) (os.getD (k - 1) Ž))->Q (.d<|ig ls st ((bg pt rs).getD (rs.length - 1) vz 0) os,[.d<|cL ls rs,.d<|.int (most:Int)])):
  Wo (BO [.d<|cL ls rs,.d<|.int (most:Int)]) Q:=by
 simp![BO,zAh];refine XW hr h1 (by omega) λjX f0 t9=>?_;simp!;have tY:=zAf hr t9;have Ry:=zAg gw hr t9;have QC:(bg pt<|jU rs jX).getD ((jU rs jX).length - 1) vz=(bg pt rs).getD (rs.length - 1) vz:=by
  rw[(FI h1 f0).1,ņ];exact Ww hr t9 (by omega) f0
 have l1:1<=(jU rs jX).length:=by rw[(FI h1 f0).1];omega
 have l2:(jU rs jX).length<=rs.length:=(FI h1 f0).2;rw[<-QC]at q;have q:=λst os g l=>q st os g<|qA l<|Nat.add_le_add_right (Á (most * most) l2) most;have QW:(jU rs jX).length<=24:=qA l2 vR;generalize jU rs jX=xs at tY Ry l1 QW q;clear QC l2;have m8:most * most<=64:=Ü hm hm;have mm:xs.length * (most * most)<=24 * 64:=Ü QW m8;refine iX (λi ρ=>∃(st:Qa Nr) (u:U) (pr:Qa PR) (o6 o7 o8:Qb U),ρ=[ž<|.d<|cL ls rs,ž<|.d<|.int (most:Int),ž<|.d<|.tuple<|ls.map .str,ž<|.d<|i8 xs,ž u,ž<|.l<|pr.map ik,o6,o7,o8,Ž,Ž,Ž,Ž,Ž,Ž,Ž]/\NU pt st u/\RR st most (cN<|xs.take i) (bg pt<|xs.take i) pr/\pr.length=i/\st.length<=i * (most * most)) ?_ ?_ ?_
 .refine⟨[],dE [] [] [],[],Ž,Ž,Ž,rfl,⟨⟨λi r h=>by simp at h,λr h=>by cases h⟩,[],⟨rfl,qe _,λi n h=>by simp at h,λk x h=>by cases h⟩,rfl⟩,⟨rfl,rfl,λi h=>absurd h<|a0c _,λi h=>absurd h<|a0c _⟩,rfl,Nat.zero_le _⟩
 .rintro i d _ hd ⟨st,u,pr,o6,o7,o8,rfl,nu,J,lp,ln⟩
  rw[Č]at hd;have(r,er,rfl):=qt.mp hd;have cG:=(qm.mp er).1;have r1:R1 pt.length pr.length r:=by rw[lp];exact tY i r er
  have hw:1<=w1 (cN<|xs.take i) r/\w1 (cN<|xs.take i) r<=12:=by
   have e:=LK (f:=w1) (z:=0) er;rw[<-e];exact Ry i cG
  have no:=zkh r1 λj hj=>by
   have ri:=J.ri j hj;exact Eo ri.b0 (J.wp j hj).2<|xi (J.wp j hj).2 (by omega)
  have im:i * (most * most)+most * most<=24 * 64:=by
   have:=Á (most * most) (show i+1<=xs.length from cG);rw[Ϡ]at this;omega
  simp![no];refine iX (λj ρ=>∃(aA:Qa Nr) (u':U) (ps:Qa Pc) (o8:Qb U),ρ=[ž<|.d<|cL ls rs,ž<|.d<|.int (most:Int),ž<|.d<|.tuple<|ls.map .str,ž<|.d<|i8 xs,ž u',ž<|.l<|pr.map ik,ž<|.d<|be r,ž<|.l<|ke (n0 pr r,ps),o8,Ž,Ž,Ž,Ž,Ž,Ž,Ž]/\NU pt aA u'/\Ex st aA/\aA.length<=st.length+j * most/\ps.length=j/\∀k,1<=k->k<=j->PB aA k (w1 (cN<|xs.take i) r) (Bn (w1 (cN<|xs.take i) r)<|pr.length+1) (ps.getD (k - 1) Ž)/\pv aA (ps.getD (k - 1) Ž)=eN pt (bg pt<|xs.take i) r k) ?_ ?_ ?_
  .exact⟨st,u,[],_,rfl,nu,Ex.refl,by omega,rfl,λk a b=>by omega⟩
  .rintro j d _ hd ⟨aA,u',ps,o8,rfl,iY,ex,len,yp,nq⟩
   have(hj,rfl):=Fq hd;have hj:j < most:=by omega
   have jm:(j+1) * most<=most * most:=Á _ hj;rw[Ϡ]at jm;have J':RR aA most (cN<|xs.take i) (bg pt<|xs.take i) pr:=⟨J.lw,J.lv,J.wp,λi hi=>(J.ri i hi).ex ex⟩;have lr:(ke (n0 pr r,ps)).length=j+1:=by
    show(fR _::ps.map dP).length=_;rw[qv,ĉ,yp]
   simp!;refine zmR (k:=j+1) iY lT J' r1 hw.2 (by omega) (by omega) (by omega) (by omega) hm λs2 u2 p vA lZ sG hb hv=>?_;simp![vA.jn,iY.jn,lr];refine⟨s2,u2,ps++[p],_,by show _=[_,_,_,_,_,_,_,ž<|U.l<|fR _::(ps++[p]).map dP,_,_,_,_,_,_,_,_];rw[Ē];rfl,vA,ex.trans lZ,by rw[Ϡ];omega,by rw[qu,yp];rfl,λk a b=>?_⟩
   by_cases c:k<=j
   .rw[pI (by omega)]
    have(x,y):=nq k a c;exact⟨x.ex lZ,by rw[fP x lZ];exact y⟩
   .have ek:k=j+1:=by omega
    subst ek;rw[pH (by omega)];exact⟨hb,hv⟩
  .rintro _ ⟨aA,u',ps,o8,rfl,iY,ex,len,yp,nq⟩
   rw[lK,show((most:Int)+1 - 1).toNat=most by omega]at len yp nq;simp!;refine⟨aA,u',pr++[(n0 pr r,ps)],_,_,_,by rw[Ē];rfl,iY,?_,by rw[qu,lp];rfl,by rw[Ϡ];omega⟩;show RR aA most (acc w1 (xs.take<|i+1) []) (acc (eN pt) (xs.take<|i+1) []) _;rw[u5 er,u5 er];exact J.snoc ex lT r1 hw yp nq
 .rintro _ ⟨st,u,pr,o6,o7,o8,rfl,nu,J,lp,ln⟩
  rw[ĉ]at J lp ln;rw[ϥ]at J;have ri:=J.ri (pr.length - 1) (by omega);have wp:=J.wp (pr.length - 1) (by omega);rw[show pr.length - 1=xs.length - 1 by omega]at wp;have ri2:RI st most ((cN xs).getD (xs.length - 1) 0) (Bn ((cN xs).getD (xs.length - 1) 0) pr.length) (pr.getD (pr.length - 1) (0,[])) ((bg pt xs).getD (xs.length - 1) vz):=by
   rw[<-lp];exact ri
  simp!;exact Wn nu hm (by omega) (by omega) (by omega) wp.2 ri2 λaA os g l lo ho=>q aA os g (by omega) lo ho
end K36
open PySem Internal
namespace K36
open PySem Internal
theorem Ku{x:Int}{N:Nat}{Q:U×Qa U->Prop}(hN:0 < N)(hM:N<=1000)(k:∀(r:Nat) x' y',r < N->Q (.d<|.int (r:Int),[bx x' y',.d<|.int (N:Int)])):Wo (zm [bx x y,.d<|.int (N:Int)]) Q :=
 dW (by omega) (by omega) λr x' y' h0 h1=>by
  have(q,rfl):=Ù h0;exact k q x' y' (by omega)
theorem FH(h:n<=m)(hm:m<=1000:=by decide):n<=1000:=qA h hm
theorem zC3{c r:Int}{N:Nat}(hN:0 < 0+(N:Int))(h0:0<=r)(h1:r < 0+(N:Int))(hc:c=0+(N:Int) - 1\/c=r):∃p:Nat,c=(p:Int)/\p < N:=⟨c.toNat,by omega,by omega⟩
theorem zCt{N:Nat}(h:1<=N)(hM:N<=1000):0 < (N:Int)/\(N:Int)<=18446744073709551616:=by omega
noncomputable def wD(w:Nat):D:=.tuple [.int (w:Int),.int 0]
abbrev wL(ws:Qa Nat):U:=.l (ws.map wD)
theorem uA{ws:Qa Nat}(h:i < ws.length):bf (ws.map wD) (i:Int)=ž (.tuple [.int ((ws.getD i 0:Nat):Int),.int 0]):=by
 refine jJ ?_;rw[Č,qo h,qC,qo h];rfl
theorem Kt{a c:Nat}:(if(c:Int)+0 > (a:Int)+0 then(c:Int)+0 else(a:Int)+0)=((max a c:Nat):Int):=by
 split<;>omega
theorem zC4{w:Nat}:wJ (.d<|wD w)=ž (.d<|.int (w:Int)):=by
 show ž (U.d<|.int (if(0:Int) > (w:Int)then 0 else(w:Int)))=_;rw[a4c (by omega)]
theorem Nl{ws:Qa Nat}{r:Rw}(h:R1 n ws.length r):mP [.d<|be r,wL ws]=ž (.d<|wD<|w1 ws r,[.d<|be r,wL ws]):=by
 refine g7 ?_;cases r with
 |num f=>simp![mP,vp,be];rfl
 |lt k=>simp![mP,vp,be];rfl
 |bin w a b=>
  cases w with
  |times=>simp![mP,vp,be,Wd.s,uA h.1,uA h.2];rfl
  |plus=>
   rw[show w1 ws (.bin .plus a b)=max (ws.getD a 0) (ws.getD b 0) from rfl];simp![mP,vp,be,Wd.s,uA h.1,uA h.2,Kt];rfl
  |less=>
   rw[show w1 ws (.bin .less a b)=max (ws.getD a 0) (ws.getD b 0) from rfl];simp![mP,vp,be,Wd.s,uA h.1,uA h.2,Kt];rfl
theorem zCu{rs:Qa Rw}{r:Rw}:rs.map be++[be r]=(rs++[r]).map be:=by rw[Ē];rfl
theorem zCv{ws:Qa Nat}{w:Nat}:ws.map wD++[wD w]=(ws++[w]).map wD:=by rw[Ē];rfl
theorem WY{a:Int}{z:D}(h:z∈[Ŕ a,.int b]):∃c,z=.int c/\(c=a\/c=b):=by
 rcases qw.mp h with rfl|h
 .exact⟨a,rfl,.inl rfl⟩
 .rw[qr.mp h];exact⟨b,rfl,.inr rfl⟩
theorem zAi:∀z∈[Ĩ "plus",.str "less",.str "times",.str "times",.str "over",.str "over"],(∃w:Wd,z=.str w.s)\/z=.str "over":=by
 intro z hz;simp only[qw,a1n,or_false]at hz;rcases hz with rfl|rfl|rfl|rfl|rfl|rfl
 .exact .inl ⟨.plus,rfl⟩
 .exact .inl ⟨.less,rfl⟩
 .exact .inl ⟨.times,rfl⟩
 .exact .inl ⟨.times,rfl⟩
 .exact .inr rfl
 .exact .inr rfl
theorem WX(r:Rw):∃z t,be r=.tuple (.str z::t):=by
 cases r<;>exact⟨_,_,rfl⟩
theorem zC5{rs:Qa Rw}(h:i < rs.length):∃r:Rw,bf (rs.map be) (i:Int)=ž (be r):=⟨rs[i],KQ<|qo h⟩
def Eu:MS:=(zr (zJ 6<|ah zP (cC<|zb (ah kf (zd 4)<|mC<|.int 1)<|zb (zF zm<|zb (zd 0)<|zb (zd 4) zj) zj)<|zF zm<|zb (zd 0)<|zb (mC<|.int 2) zj)
  (zr (zJ 7<|zF zm<|zb (zd 0)<|zb (zd 4) zj)
  (zr (zJ 8<|gQ (lz<|zb (zd 4) zj) 1 [1] (zy 0) (mB<|ah (aZ Ż) (ah zx (ah zP (zd 1)<|zd 0)<|mC<|.int 0)<|mC<|.str "times")<|zd 0)
  (zr (aT (i4 (mB<|ah (aZ Ż) (zd 5)<|mC<|.str "over")<|i4 (mB<|ah (aZ Ż) (zd 3)<|mC<|.int 1)<|mB<|ah qG (aS (f1 bN)<|zb (zd 8) zj)<|mC<|.int 0) (zr (zJ 9<|ah zP (zd 8)<|zF zm<|zb (zd 0)<|zb (aS (f1 bN)<|zb (zd 8) zj) zj)
  (zW<|aX<|zb (mC<|.str "over")<|zb (zd 9)<|zb (ah zx (ah zP (zd 1)<|zd 9)<|ah bO (mC<|.int 1)<|zF zm<|zb (zd 0)<|zb (mC<|.int 2) zj) zj)) zS)
  (zr (aT (i4 (mB<|ah (aZ Ż) (zd 5)<|mC<|.str "over")<|mB<|ah lX (zd 3)<|mC<|.int 2) (zJ 5<|mC<|.str "times") zS)
  (zW<|aX<|zb (zd 5)<|zb (zd 6)<|zb (zd 7) zj))))))
def Et:MS:=(zr (aT (mB<|ah (aZ Ż) (zF zm<|zb (zd 0)<|zb (mC<|.int 3) zj)<|mC<|.int 0) (zW<|aX<|zb (mC<|.str "number")<|zb (zF xP<|zb (zd 0) zj) zj) zS)
  (zW<|aX<|zb (mC<|.str "letter")<|zb (zF zm<|zb (zd 0)<|zb (zd 2) zj) zj))
theorem Yc:O6=(zr (zJ 4<|aS (f1 bN)<|zb (zd 1) zj)
  (zr (zJ 5<|ah zP (cC<|zb (mC<|.str "plus")<|zb (mC<|.str "less")<|zb (mC<|.str "times")<|zb (mC<|.str "times")<|zb (mC<|.str "over")<|zb (mC<|.str "over") zj)<|zF zm<|zb (zd 0)<|zb (mC<|.int 6) zj)
  (zr (aT (cZ (mB<|ah (aZ Ż) (zd 4)<|mC<|.int 0)<|mB<|ah lX (zF zm<|zb (zd 0)<|zb (mC<|.int 9) zj)<|mC<|.int 3) Et zS)
  Eu))):=rfl
theorem WW{x:Int}{w:Str}{rs:Qa Rw}{o2 o6 o7 o8 o9:Qb U}{Q:Fl->Prop}(hw:(∃v:Wd,w=v.s)\/w=Ţ "over")(hl:rs.length<=100)(h1:1<=rs.length)
  (k:∀v i j x' y' o5 o6 o7 o8,i < rs.length->j < rs.length->Q (.rt (.d<|be<|.bin v i j) [ž<|bx x' y',ž<|.l<|rs.map be,o2,ž<|.d<|.int 0,ž<|.d<|.int (rs.length:Int),o5,o6,o7,o8,o9])):
  Wo (Eu [ž<|bx x y,ž<|.l<|rs.map be,o2,ž<|.d<|.int 0,ž<|.d<|.int (rs.length:Int),ž<|.d<|.str w,o6,o7,o8,o9]) Q:=by
 have(w0,w1):=zCt h1 (FH hl);simp![Eu];refine dW w0 w1 λr5 x5 y5 a5 b5=>?_;simp!;refine dW (by decide) (by decide) λr6 x6 y6 a6 b6=>?_;simp!;refine Fy a6 b6 λz hz=>?_;have(c,rfl,hc):=WY hz;simp!;refine Ku h1 (FH hl) λq x7 y7 hq=>?_;obtain⟨p,rfl,hp⟩:∃p:Nat,c=(p:Int)/\p < rs.length:=zC3 (by rw[a1k];exact w0) a5 (by rw[a1k];exact b5) (by rw[a1k];exact hc);simp!;refine L9 (λi ρ ys=>ρ=[Ž,ž<|.l<|rs.map be]/\ys.length<=i) (by rw[wH];omega) ⟨rfl,qe _⟩ ?_ ?_ ?_
 .rintro i _ ys ⟨rfl,h⟩
  exact h
 .rintro i _ ys hi ⟨rfl,h⟩
  have(r,er):=zC5 (rs:=rs) (i:=i) (by omega);have(z,t,ez):=WX r;simp![a1k,er,ez]
  by_cases c:z=Ţ "times"
  .simp![c]
   exact h
  .simp![c]
   omega
 .rintro _ ys ⟨rfl,h⟩
  rcases hw with⟨v,rfl⟩|rfl
  .have kk:=k v p q x7 y7 (ž<|.d<|.str v.s) (ž<|.d<|.int (p:Int)) (ž<|.d<|.int (q:Int)) (ž<|.l ys) hp hq
   cases v <;>
   .simp![Wd.s]
    exact kk
  .have kk:=k .times p q x7 y7 (ž<|.d<|.str Wd.times.s) (ž<|.d<|.int (p:Int)) (ž<|.d<|.int (q:Int)) (ž<|.l ys) hp hq
   simp!;exact kk
theorem LF{x:Int}{o1 o3 o4 o5 o6 o7 o8 o9:Qb U}{Q:Fl->Prop}(n1:1<=n)(n3:n<=3)
  (k:∀r x' y',(∀m,R1 n m r)->w1 [] r=1->Q (.rt (.d<|be r) [ž<|bx x' y',o1,ž<|.d<|.int (n:Int),o3,o4,o5,o6,o7,o8,o9])):
  Wo (Et [ž<|bx x y,o1,ž<|.d<|.int (n:Int),o3,o4,o5,o6,o7,o8,o9]) Q:=by
 simp![Et];refine dW (by decide) (by decide) λr2 x2 y2 a2 b2=>?_;simp!;refine nP (λc=>?_) λc=>?_
 .simp!
  refine YA λf x3 y3 hf=>?_;simp!;exact k (.num f) _ _ (λ_=>hf) rfl
 .simp!
  refine Ku n1 (FH n3) λq x3 y3 hq=>?_;simp!;exact k (.lt q) _ _ (λ_=>hq) rfl
theorem WV{x:Int}{rs:Qa Rw}{Q:U×Qa U->Prop}(n1:1<=n)(n3:n<=3)(hl:rs.length<=100)
  (k:∀r x' y',R1 n rs.length r->Q (.d<|be r,[bx x' y',.l<|rs.map be,.d<|.int (n:Int),.d<|.int 0])):
  Wo (xS [bx x y,.l<|rs.map be,.d<|.int (n:Int),.d<|.int 0]) Q:=by
 have ll:(a1R be rs).length=rs.length:=Ô _;simp![xS,Yc,ll];refine dW (by decide) (by decide) λr1 x1 y1 a1 b1=>?_;simp!;refine Fy a1 b1 λz hz=>?_;obtain⟨w,rfl,hw⟩:∃w:Str,z=.str w/\((∃v:Wd,w=v.s)\/w=Ţ "over"):=by
  rcases zAi z hz with⟨v,rfl⟩|rfl
  .exact⟨_,rfl,.inl ⟨v,rfl⟩⟩
  .exact⟨_,rfl,.inr rfl⟩
 by_cases h0:(rs.length:Int)=0
 .simp![h0]
  refine LF n1 n3 λr x3 y3 hr _=>?_;simp!;exact k r _ _<|hr _
 .simp![h0]
  refine dW (by decide) (by decide) λr2 x2 y2 a2 b2=>?_;simp!;refine nP (λc=>?_) λc=>?_
  .refine LF n1 n3 λr x3 y3 hr _=>?_
   simp!;exact k r _ _<|hr _
  .simp!
   refine WW hw hl (by omega) λv i j x3 y3 o5 o6 o7 o8 hi hj=>?_;simp!;exact k (.bin v i j) _ _ ⟨hi,hj⟩
theorem GW.snoc{rs:Qa Rw}{r:Rw}(h:GW rs)(w:1<=w1 (cN rs) r/\w1 (cN rs) r<=12):GW (rs++[r]):=λi hi=>by
 rw[qu,Ĳ]at hi;have ln:(acc w1 rs []).length=rs.length:=pK;show 1<=(acc w1 (rs++[r]) []).getD i 0/\(acc w1 (rs++[r]) []).getD i 0<=12;rw[BC]
 by_cases c:i < rs.length
 .rw[pI (by omega)]
  exact h i c
 .rw[pH (by omega)]
  exact w
theorem zAj{rs:Qa Rw}{r:Rw}(h:GW rs)(hr:R1 n rs.length r):1<=w1 (cN rs) r:=by
 cases r with
 |num f=>exact qe 1
 |lt k=>exact qe 1
 |bin w i j=>
  have h1:=(h i hr.1).1;cases w with
  |times=>exact qA h1<|é _ _
  |plus=>exact qA h1<|ã _ _
  |less=>exact qA h1<|ã _ _
theorem Q4:ph (.d<|.bool ż)=ž (.d<|.int 1):=rfl
theorem Q5:ph (.d<|.bool Ż)=ž (.d<|.int 0):=rfl
def Es:MS:=(zr (zJ 5<|zF xS<|zb (zd 0)<|zb (zd 2)<|zb (aS (f1 bN)<|zb (zd 1) zj)<|zb (mC<|.int 0) zj)
  (zr (aT (mB<|ah qG (aS (f1 wJ)<|zb (zF mP<|zb (zd 5)<|zb (zd 3) zj) zj)<|mC<|.int 12) (zJ 5<|aX<|zb (mC<|.str "less")<|zb (ah zx (zd 5)<|mC<|.int 1)<|zb (ah zx (zd 5)<|mC<|.int 2) zj) zS)
  (zr (cT<|cU 2<|zd 5)
  (cT<|cU 3<|zF mP<|zb (zd 5)<|zb (zd 3) zj))))
theorem zmV:OL=(zr (zJ 2<|cC zj)
  (zr (zJ 3<|cC zj)
  (zr (dN (lz<|zb (ah bO (mC<|.int 1)<|zF zm<|zb (zd 0)<|zb (ah zP (cC<|zb (mC<|.int 12)<|zb (mC<|.int 24) zj)<|aS (f1 ph)<|zb (ah (aZ Ż) (zF zm<|zb (zd 0)<|zb (mC<|.int 8) zj)<|mC<|.int 0) zj) zj) zj) (zy 4) Es)
  (zW<|aX<|zb (zd 1)<|zb (aS (f1 gx)<|zb (zd 2) zj) zj)))):=rfl
abbrev CC(x y:Int)(ns:Qa Str)(rs:Qa Rw)(o4 o5:Qb U):En:=[ž<|bx x y,ž<|.d<|.tuple<|ns.map .str,ž<|.l<|rs.map be,ž<|wL<|cN rs,o4,o5]
theorem LD{x N:Int}{ns:Qa Str}{Q:Fl->Prop}(hn:ns.length=n)(n1:1<=n)(n3:n<=3)(h0:1<=N)(vR:N<=24)(k:∀rs x' y' o4 o5,RO n rs->GW rs->1<=rs.length->rs.length<=24->Q (.nx<|CC x' y' ns rs o4 o5)):
  Wo (gu (zy 4) Es (gD 0 N.toNat)<|CC x y ns [] Ž Ž) Q:=by
 have ll:(a1R Ĩ ns).length=n:=by rw[ĉ,hn]
 refine Kc (λi ρ=>∃(x y:Int) (rs:Qa Rw) (o4 o5:Qb U),ρ=CC x y ns rs o4 o5/\rs.length=i/\RO n rs/\GW rs) ⟨x,y,[],_,_,rfl,rfl,λt r h=>by simp at h,λi h=>absurd h<|a0c _⟩ ?_ ?_
 .rintro i _ hi ⟨x,y,rs,o4,o5,rfl,hl,ro,gw⟩
  have IZ:rs.length<=100:=by omega
  have lw:(cN rs).length=rs.length:=pK;have fin:∀{r:Rw} {x y:Int} {o4 o5:Qb U},R1 n rs.length r->w1 (cN rs) r<=12->∃(x' y':Int) (CL:Qa Rw) (o4' o5':Qb U),([ž<|bx x y,ž<|.d<|.tuple<|ns.map .str,ž<|.l<|rs.map be++[be r],ž<|.l<|(cN rs).map wD++[wD<|w1 (cN rs) r],o4,o5]:En)=CC x' y' ns CL o4' o5'/\CL.length=i+1/\RO n CL/\GW CL:=λ{r x y o4 o5} hr w=>by
   refine⟨x,y,rs++[r],o4,o5,?_,by rw[qu,hl];rfl,ro.app hr,gw.snoc ⟨zAj gw hr,w⟩⟩;rw[zCu,zCv];show _=[_,_,_,ž<|U.l<|(acc w1 (rs++[r]) []).map wD,_,_];rw[BC]
  simp![Es,ll];refine WV n1 n3 IZ λr x2 y2 hr=>?_;have hw:=Nl (n:=n) (ws:=cN rs) (r:=r) (by rw[lw];exact hr);simp![hw,zC4];refine nP (λc=>?_) λc=>?_
  .cases r with
   |num f=>exact absurd (show((1:Nat):Int) > 12 from c) (by decide)
   |lt q=>exact absurd (show((1:Nat):Int) > 12 from c) (by decide)
   |bin w a b=>
    have Il:=Nl (n:=n) (ws:=cN rs) (r:=.bin .less a b) (by rw[lw];exact hr);rw[show be (.bin .less a b)=.tuple [.str "less",.int (a:Int),.int (b:Int)] from rfl]at Il;simp![be,Il];exact fin (r:=.bin .less a b) hr<|Nat.max_le.mpr ⟨(gw a hr.1).2,(gw b hr.2).2⟩
  .simp![hw]
   exact fin hr (by omega)
 .rintro _ ⟨x,y,rs,o4,o5,rfl,hl,ro,gw⟩
  exact k rs x y o4 o5 ro gw (by omega) (by omega)
theorem zpQ{x:Int}{ns:Qa Str}{Q:U×Qa U->Prop}(hn:ns.length=n)(n1:1<=n)(n3:n<=3)
  (k:∀rs x' y',RO n rs->GW rs->1<=rs.length->rs.length<=24->Q (.d<|cL ns rs,[bx x' y',.d<|.tuple<|ns.map .str])):
  Wo (Cs [bx x y,.d<|.tuple<|ns.map .str]) Q:=by
 simp![Cs,zmV];refine dW (by decide) (by decide) λr1 x1 y1 a1 b1=>?_
 by_cases c:r1=0
 .simp![c,Q4]
  refine dW (by decide) (by decide) λr2 x2 y2 a2 b2=>?_;simp!;refine LD hn n1 n3 (by omega) (by omega) λrs x' y' o4 o5 h1 h2 h3 h4=>?_;simp!;exact k rs x' y' h1 h2 h3 h4
 .simp![c,Q5]
  refine dW (by decide) (by decide) λr2 x2 y2 a2 b2=>?_;simp!;refine LD hn n1 n3 (by omega) (by omega) λrs x' y' o4 o5 h1 h2 h3 h4=>?_;simp!;exact k rs x' y' h1 h2 h3 h4
end K36
open PySem Internal
namespace K36
open PySem Internal
def vL(m:Nat)(g:Vf):Qa D:=(Ğ<|m+1).map λk=>fR<|g k
section
variable{k:Nat}{g v:Vf}{x:Rat}
theorem ja:(vL m g).length=m+1:=by unfold vL;rw[ĉ,Ν]
theorem uW(h:i<=m):(vL m g)[i]?=ž (fR<|g i):=by
 unfold vL;rw[Č,ϳ (by omega)];rfl
theorem qT(h:i<=m):bf (vL m g) (i:Int)=ž (fR<|g i):=jJ (uW h)
theorem xJ(h:∀k,k<=m->g k=v k):vL m g=vL m v:=õ λk hk=>by rw[h k (by have:=List.mem_range.mp hk;omega)]
theorem Fm{ys:Qa D}(hl:ys.length=m+1)(h:∀i,i<=m->ys[i]?=ž (fR<|g i)):ys=vL m g:=by
 refine Ξ λi=>?_
 by_cases c:i<=m
 .rw[h i c,uW c]
 .rw[Ł (by omega),Ł (by rw[ja];omega)]
noncomputable def up(g:Vf)(i:Nat)(x:Rat):Vf:=λk=>if k=i then x else g k
theorem Bf(h:i<=m):(vL m g).set i (fR x)=vL m (up g i x):=by
 refine Fm (by rw[ĕ,ja]) λk hk=>?_;unfold up
 by_cases c:k=i
 .subst c
  rw[ĝ (by rw[ja];omega),a4b rfl]
 .rw[qD<|ī c,uW hk,a4c c]
theorem sW:up g i x i=x:=a4b rfl
theorem qS(h:k≠i):up g i x k=g k:=a4c h
theorem zCw(h:m<=8):i6 (.l [.tuple [.int 0,.int 1]]) (.d<|.int<|(m:Int)+1)=ž (.l<|vL m vz):=by
 have hz:ċ=16777216:=ϵ;have e:i6 (.l [.tuple [.int 0,.int 1]]) (.d<|.int<|(m:Int)+1)=ž (.l (Đ ((m:Int)+1).toNat [ϙ [.int 0,.int 1]]).flatten):=by
  unfold i6;dsimp only;rw[a4b ⟨by omega,by omega,by rw[hz];show 1 * _<=_;omega⟩]
 rw[e,show((m:Int)+1).toNat=m+1 by omega,Ej];refine congrArg (λx=>ž<|U.l x)<|Fm (by rw[ę]) λi hi=>?_;rw[Į,a4b (by omega)];rfl
end
def jY(m:Nat)(vs:Qa Vf):Qa D:=vs.map λv=>.list<|vL m v
theorem Er{vs:Qa Vf}(h:i < vs.length):bf (jY m vs) (i:Int)=ž (.list<|vL m<|vs.getD i vz):=by
 refine jJ ?_;unfold jY;rw[Č,qo h,qC,qo h];rfl
theorem zCx{d:D}:i6 (.l [d]) (.d<|.int (if(m:Int) < 1 then(m:Int)else 1))=ž (.l<|Đ (min 1 m) d):=by
 have hz:ċ=16777216:=ϵ;have:min 1 m<=1:=a1M _ _;rw[show(if(m:Int) < 1 then(m:Int)else 1)=((min 1 m:Nat):Int) by split<;>omega];have e:i6 (.l [d]) (.d<|.int ((min 1 m:Nat):Int))=ž (.l (Đ ((min 1 m:Nat):Int).toNat [d]).flatten):=by
  unfold i6;dsimp only;rw[a4b ⟨by omega,by omega,by rw[į,hz];show 1 * _<=_;omega⟩]
 rw[e,į,Ej]
theorem zAk{x:Rat}:(vL m vz).take 1++Đ (min 1 m) (fR x)++(vL m vz).drop 2=vL m λk=>if k=1 then x else 0:=by
 cases m with
 |zero=>rfl
 |succ m=>
  refine Fm ?_ λi hi=>?_
  .rw[qu,qu,ě,ſ,ja,ę];omega
  .rw[show min 1 (m+1)=1 by omega]
   match i with
   |0=>
    rw[ŉ,č (by rw[ě,ja];omega),ϔ,a4b (by decide),uW<|Ê _];rfl
   |1=>
    rw[ŉ,Ď (by rw[ě,ja];omega),ě,ja,show 1 - min 1 (m+1+1)=0 by omega];rfl
   |i+2=>
    rw[Ď (by rw[qu,ě,ja,ę];omega),qu,ě,ja,ę,Ũ,show 2+(i+2 - (min 1 (m+1+1)+1))=i+2 by omega,uW hi,a4c (by omega)];rfl
theorem JE{pt:Qa Rat}(h:j < pt.length):bf (pt.map fR) (j:Int)=ž (fR<|pt.getD j 0):=by
 refine jJ ?_;rw[Č,qo h,qC,qo h];rfl
theorem Be{d:D}(h:(gD 0 n)[i]?=ž d):i < n/\d=.int ((i:Nat):Int):=by
 have(h1,rfl):=B4 h;exact⟨h1,by congr 1;omega⟩
theorem zCy{b:Rat}:ϙ [.int (-1 * b.num),.int (b.den:Int)]=fR (-b):=by
 rw[Int.neg_one_mul];show _=ϙ [.int (-b).num,.int ((-b).den:Int)];rw[a3c,a3d]
theorem zC6{b:Rat}:ϙ [.int<|1 * b.num,.int (b.den:Int)]=fR b:=by
 rw[Int.one_mul];rfl
theorem WB.sz{t w k:Nat}{v:Vf}(h:WB t w k v)(ht:t<=24){e:Nat}(he:e<=k):Sz (v e):=Bd.sz (h.b e he) (by have:=h.l;omega) (xi h.l ht)
theorem zlO{pt:Qa Rat}{ls:Qa Str}{rs:Qa Rw}{Q:U×Qa U->Prop}(lT:∀x∈pt,Bd 12 12000000 x)(hr:RO pt.length rs)(gw:GW rs)(h1:1<=rs.length)(vR:rs.length<=24)(hm:m<=8)
  (q:WB 24 ((cN rs).getD (rs.length - 1) 0) m ((bg pt rs).getD (rs.length - 1) vz)->Q (.d<|.list<|vL m<|(bg pt rs).getD (rs.length - 1) vz,[.d<|cL ls rs,.d<|iy pt,.d<|.int (m:Int)])):
  Wo (Cp [.d<|cL ls rs,.d<|iy pt,.d<|.int (m:Int)]) Q:=by
 simp![Cp,O3];refine iX (λi ρ=>∃(o4 o5 o6 o7 o8 o9 oa:Qb U),ρ=[ž<|.d<|cL ls rs,ž<|.d<|iy pt,ž<|.d<|.int (m:Int),ž<|.l<|jY m<|bg pt<|rs.take i,o4,o5,o6,o7,o8,o9,oa]/\∀j,j < i->WB i ((cN<|rs.take i).getD j 0) m ((bg pt<|rs.take i).getD j vz)) ⟨Ž,Ž,Ž,Ž,Ž,Ž,Ž,rfl,λj h=>absurd h<|Ą _⟩ ?_ ?_
 .rintro i d _ hd ⟨o4,o5,o6,o7,o8,o9,oa,rfl,J⟩
  rw[Č]at hd;have(r,er,rfl):=qt.mp hd;have cG:=(qm.mp er).1;have lt:(rs.take i).length=i:=by rw[ě];omega
  have lv:(bg pt<|rs.take i).length=i:=by rw[pK,lt]
  have lw:(cN<|rs.take i).length=i:=by rw[pK,lt]
  have r1:R1 pt.length i r:=hr i r er;have hw:=gw i cG;rw[LK (f:=w1) (z:=0) er]at hw;have vb:=Kh hm lT J r1;have Qv:bg pt (rs.take<|i+1)=bg pt (rs.take i)++[eN pt (bg pt<|rs.take i) r]:=u5 er;have tk2:cN (rs.take<|i+1)=cN (rs.take i)++[w1 (cN<|rs.take i) r]:=u5 er;have nx:∀{au:Qa (Qb U)} {a4 a5 a6 a7 a8 a9 aa:Qb U},au=[ž<|.d<|cL ls rs,ž<|.d<|iy pt,ž<|.d<|.int (m:Int),ž<|.l<|jY m (bg pt<|rs.take i)++[.list<|vL m<|eN pt (bg pt<|rs.take i) r],a4,a5,a6,a7,a8,a9,aa]->∃(o4 o5 o6 o7 o8 o9 oa:Qb U),au=[ž<|.d<|cL ls rs,ž<|.d<|iy pt,ž<|.d<|.int (m:Int),ž<|.l<|jY m<|bg pt<|rs.take<|i+1,o4,o5,o6,o7,o8,o9,oa]/\∀j,j < i+1->WB (i+1) ((cN<|rs.take<|i+1).getD j 0) m ((bg pt<|rs.take<|i+1).getD j vz):=λ{au a4 a5 a6 a7 a8 a9 aa} e=>by
   refine⟨a4,a5,a6,a7,a8,a9,aa,?_,λj hj=>?_⟩
   .rw[e,Qv]
    unfold jY;rw[Ē];rfl
   .rw[Qv,tk2]
    by_cases c:j < i
    .rw[pI (by omega),pI (by omega)]
     have(p,l,b):=J j c;exact⟨p,l,λe he=>(b e he).le<|FK<|Ð _⟩
    .rw[pH (by omega),pH (by omega)]
     exact⟨hw.1,hw.2,vb⟩
  have r0:=zCw (m:=m) hm;have ln:(jY m<|bg pt<|rs.take i).length=i:=by unfold jY;rw[ĉ,lv]
  cases r with
  |num f=>
   have ps:(vL m vz).set 0 (fR f)=vL m (eN pt (bg pt<|rs.take i)<|.num f):=Bf (Ê _);simp![be,r0,ja,mE (show 0 < m+1 by omega),ps,ln];exact nx rfl
  |lt j=>
   have ap:=JE r1;have l3:m+1+min 1 m<=16777216:=by omega
   have ps:(vL m vz).take 1++Đ (min 1 m) (fR<|pt.getD j 0)++(vL m vz).drop 2=vL m (eN pt (bg pt<|rs.take i)<|.lt j):=zAk;simp![be,r0,ap,zCx,Kx,ja,ę,l3,ps,ln];exact nx rfl
  |bin w a b=>
   have ea:=Er (m:=m) (vs:=bg pt (rs.take i)) (i:=a) (by rw[lv];exact r1.1);have eb:=Er (m:=m) (vs:=bg pt (rs.take i)) (i:=b) (by rw[lv];exact r1.2);have Wa:=J a r1.1;have Wb:=J b r1.2;have sa:∀{e:Nat},e<=m->Sz ((bg pt<|rs.take i).getD a vz e):=λ{e} he=>Wa.sz (by omega) he;have sb:∀{e:Nat},e<=m->Sz ((bg pt<|rs.take i).getD b vz e):=λ{e} he=>Wb.sz (by omega) he;cases w with
   |times=>
    have hww:(cN<|rs.take i).getD a 0+(cN<|rs.take i).getD b 0<=12:=hw.2;have g81:=Ek (t:=i) Wa.p Wb.p;have gm:81 * (Bn ((cN<|rs.take i).getD a 0) i * Bn ((cN<|rs.take i).getD b 0) i)<=Gm:=qA g81 (xi hww (by omega));have vt:∀k,eN pt (bg pt<|rs.take i) (.bin .times a b) k=ug ((bg pt<|rs.take i).getD a vz) ((bg pt<|rs.take i).getD b vz) k:=λk=>Fn;have ba:=Wa.b;have bb:=Wb.b;generalize (cN<|rs.take i).getD a 0=wa at *;generalize (cN<|rs.take i).getD b 0=wb at *;generalize eN pt (bg pt<|rs.take i) (.bin .times a b)=V at *;generalize (bg pt<|rs.take i).getD a vz=A at *;generalize (bg pt<|rs.take i).getD b vz=B at *;generalize jY m (bg pt<|rs.take i)=fd at *;simp![be,Wd.s,r0,ea,eb];refine iX (λk ρ=>∃(g:Vf) (o8 o9:Qb U),ρ=[ž<|.d<|cL ls rs,ž<|.d<|iy pt,ž<|.d<|.int (m:Int),ž<|.l fd,ž<|.d<|.tuple [.str "times",.int (a:Int),.int (b:Int)],ž<|.l<|vL m g,ž<|.d<|.list<|vL m A,ž<|.d<|.list<|vL m B,o8,o9,oa]/\(∀q,q < k->g q=V q)/\∀q,k<=q->g q=0) ⟨vz,_,_,rfl,λq h=>absurd h<|Ą _,λq _=>rfl⟩ ?_ ?_
    .rintro k d _ hd ⟨g,o8,o9,rfl,g1,g2⟩
     have(hk,rfl):=Be hd;have hk:k<=m:=by omega
     have g0:vL m g=vL m (up g k 0):=xJ λq _=>by
      by_cases c:q=k
      .rw[c,sW,g2 k<|qe _]
      .rw[qS c]
     rw[g0];simp!;refine iX (λj ρ=>∃(o9:Qb U),ρ=[ž<|.d<|cL ls rs,ž<|.d<|iy pt,ž<|.d<|.int (m:Int),ž<|.l fd,ž<|.d<|.tuple [.str "times",.int (a:Int),.int (b:Int)],ž<|.l<|vL m<|up g k<|((Ğ j).map λe=>A e * B (k - e)).sum,ž<|.d<|.list<|vL m A,ž<|.d<|.list<|vL m B,ž<|.d<|.int (k:Int),o9,oa]) ⟨_,rfl⟩ ?_ ?_
     .rintro j d _ hd ⟨o9,rfl⟩
      have(hj,rfl):=Be hd;have hj:j<=k:=by omega
      have sn:=JM hj;have a1:=qT (g:=A) (show j<=m by omega);have a2:=qT (g:=B) (show k - j<=m by omega);have a3:=qT (g:=up g k (((Ğ j).map λe=>A e * B (k - e)).sum)) hk;rw[sW]at a3;have t1:=G6 (sa (show j<=m by omega)) (sb (show k - j<=m by omega));have s1:Sz (((Ğ j).map λe=>A e * B (k - e)).sum):=Bd.sz (Ki (by omega) (λe he=>ba e (by omega)) (λe he=>bb _ (by omega))) (by omega) gm;have s2:Sz (A j * B (k - j)):=by
       have h:=(ba j (by omega)).mul (bb (k - j) (by omega));rw[<-ħ]at h;exact Bd.sz h (by omega)<|qA (Î _ (by decide)) gm
      have t2:=B7 s1 s2;have su:((Ğ j).map λe=>A e * B (k - e)).sum+A j * B (k - j)=((Ğ<|j+1).map λe=>A e * B (k - e)).sum:=by
       rw[ψ,Ē,Ş,Ċ,ı,Ė,ź,Ļ]
      rw[su]at t2;have st:(vL m<|up g k<|((Ğ j).map λe=>A e * B (k - e)).sum).set k (fR<|((Ğ<|j+1).map λe=>A e * B (k - e)).sum)=vL m (up g k<|((Ğ<|j+1).map λe=>A e * B (k - e)).sum):=by
       rw[Bf hk];refine xJ λq _=>?_
       by_cases c:q=k
       .rw[c,sW,sW]
       .rw[qS c,qS c,qS c]
      generalize ((Ğ j).map λe=>A e * B (k - e)).sum=S at *;generalize ((Ğ<|j+1).map λe=>A e * B (k - e)).sum=S' at *;simp![sn,a1,a2,a3,t1,t2,ja,mE (show k < m+1 by omega),st];exact⟨_,rfl⟩
     .rintro _ ⟨o9,rfl⟩
      rw[lK,show((k:Int)+1).toNat=k+1 by omega];simp!;refine⟨_,_,_,rfl,λq hq=>?_,λq hq=>?_⟩
      .by_cases c:q=k
       .rw[c,sW,vt];rfl
       .rw[qS c,g1 q (by omega)]
      .rw[qS (by omega),g2 q (by omega)]
    .rintro _ ⟨g,o8,o9,rfl,g1,g2⟩
     rw[lK,show((m:Int)+1).toNat=m+1 by omega]at g1;have e:vL m g=vL m V:=xJ λq hq=>g1 q (by omega);simp![e,ln];exact nx rfl
   |plus=>
    have vt:∀k,eN pt (bg pt<|rs.take i) (.bin .plus a b) k=(bg pt<|rs.take i).getD a vz k+(bg pt<|rs.take i).getD b vz k:=λk=>Fp;generalize eN pt (bg pt<|rs.take i) (.bin .plus a b)=V at *;generalize (bg pt<|rs.take i).getD a vz=A at *;generalize (bg pt<|rs.take i).getD b vz=B at *;generalize jY m (bg pt<|rs.take i)=fd at *;simp![be,Wd.s,r0,ea,eb];refine iX (λk ρ=>∃(g:Vf) (o8 oa:Qb U),ρ=[ž<|.d<|cL ls rs,ž<|.d<|iy pt,ž<|.d<|.int (m:Int),ž<|.l fd,ž<|.d<|.tuple [.str "plus",.int (a:Int),.int (b:Int)],ž<|.l<|vL m g,ž<|.d<|.list<|vL m A,ž<|.d<|.list<|vL m B,o8,o9,oa]/\∀q,q < k->g q=V q) ⟨vz,_,_,rfl,λq h=>absurd h<|Ą _⟩ ?_ ?_
    .rintro k d _ hd ⟨g,o8,oa,rfl,g1⟩
     have(hk,rfl):=Be hd;have hk:k<=m:=by omega
     have a1:=qT (g:=A) hk;have a2:=qT (g:=B) hk;have t2:=B7 (sa hk) (sb hk);rw[<-zC6 (b:=B k),<-vt]at t2;have e1:bf [Ŕ 1,.int (-1)] 0=ž (.int 1):=rfl;simp![e1,Q5,a1,a2,t2,ja,mE (show k < m+1 by omega),Bf hk];refine⟨_,_,_,rfl,λq hq=>?_⟩
     by_cases c:q=k
     .rw[c,sW]
     .rw[qS c,g1 q (by omega)]
    .rintro _ ⟨g,o8,oa,rfl,g1⟩
     rw[lK,show((m:Int)+1).toNat=m+1 by omega]at g1;have e:vL m g=vL m V:=xJ λq hq=>g1 q (by omega);simp![e,ln];exact nx rfl
   |less=>
    have vt:∀k,eN pt (bg pt<|rs.take i) (.bin .less a b) k=(bg pt<|rs.take i).getD a vz k+-(bg pt<|rs.take i).getD b vz k:=λk=>by rw[Fo,a0N]
    generalize eN pt (bg pt<|rs.take i) (.bin .less a b)=V at *;generalize (bg pt<|rs.take i).getD a vz=A at *;generalize (bg pt<|rs.take i).getD b vz=B at *;generalize jY m (bg pt<|rs.take i)=fd at *;simp![be,Wd.s,r0,ea,eb];refine iX (λk ρ=>∃(g:Vf) (o8 oa:Qb U),ρ=[ž<|.d<|cL ls rs,ž<|.d<|iy pt,ž<|.d<|.int (m:Int),ž<|.l fd,ž<|.d<|.tuple [.str "less",.int (a:Int),.int (b:Int)],ž<|.l<|vL m g,ž<|.d<|.list<|vL m A,ž<|.d<|.list<|vL m B,o8,o9,oa]/\∀q,q < k->g q=V q) ⟨vz,_,_,rfl,λq h=>absurd h<|Ą _⟩ ?_ ?_
    .rintro k d _ hd ⟨g,o8,oa,rfl,g1⟩
     have(hk,rfl):=Be hd;have hk:k<=m:=by omega
     have a1:=qT (g:=A) hk;have a2:=qT (g:=B) hk;have t2:=B7 (sa hk) (sb hk).neg;rw[<-zCy (b:=B k),<-vt]at t2;have e1:bf [Ŕ 1,.int (-1)] 1=ž (.int (-1)):=rfl;simp![e1,Q4,a1,a2,t2,ja,mE (show k < m+1 by omega),Bf hk];refine⟨_,_,_,rfl,λq hq=>?_⟩
     by_cases c:q=k
     .rw[c,sW]
     .rw[qS c,g1 q (by omega)]
    .rintro _ ⟨g,o8,oa,rfl,g1⟩
     rw[lK,show((m:Int)+1).toNat=m+1 by omega]at g1;have e:vL m g=vL m V:=xJ λq hq=>g1 q (by omega);simp![e,ln];exact nx rfl
 .rintro _ ⟨o4,o5,o6,o7,o8,o9,oa,rfl,J⟩
  rw[ĉ]at J ⊢;rw[ϥ]at J ⊢;have lv:(bg pt rs).length=rs.length:=pK;have e2:bf (jY m<|bg pt rs) (-1)=ž (.list<|vL m<|(bg pt rs).getD (rs.length - 1) vz):=by
   rw[<-Er (m:=m) (vs:=bg pt rs) (i:=rs.length - 1) (by omega)];unfold bf;rw[show(jY m<|bg pt rs).length=rs.length by unfold jY;rw[ĉ,lv],Eg h1,mE (by omega)]
  have(p,l,b):=J (rs.length - 1) (by omega);simp![e2];exact q ⟨p,l,λe he=>(b e he).le<|FK vR⟩
end K36
open PySem Internal
namespace K36
open PySem Internal
theorem Gs{k M:Nat}{d:D}{neg:Bool}(h:gA k M d)(hk:k<=64):iV neg (.d d) (.d d)=ž (.d<|.bool (!neg)):=by
 rw[h.RE h hk hk,PySem.SeqAt.eqv_refl d h.lay];cases neg<;>rfl
theorem zAl{ns:Qa Str}(n3:ns.length<=3)(ha:∀z∈ns,bL 10 z):gA 1 400 (.tuple<|ns.map .str):=by
 refine(xD (n:=3) (k:=0) (M:=102) (λd hd=>?_) (by rw[ĉ];exact n3)).mono (qe _) (by decide);have(z,hz,rfl):=À.mp hd;exact XG<|ha z hz
theorem zAm:Gm < 10^470:=by decide
theorem WU:12^12 < 10^470:=by decide
theorem Ep{w:Nat}{f:Rat}(h:Bd (12^w) Gm f)(hw:w<=12):gA 1 949 (fR f):=by
 have(h1,h2):=h.size (Õ (by decide));exact(K5 (n:=470) (È h2 zAm)<|È (qA h1<|Í (by decide) hw) WU).mono (qe _) (by decide)
theorem MQ{i:Int}:ve [.d<|.int i]=ž (.d<|.bool ż,[.d<|.int i]):=by
 refine g7 ?_;simp![ve,Ot]
theorem xI{a b:Nat}(h:a < b):rG [.d<|.int (a:Int),.d<|.int (b:Int)]=ž (.d<|.bool ż,[.d<|.int (a:Int),.d<|.int (b:Int)]):=by
 refine g7 ?_;simp![rG,Og,MQ];rw[a4b<|a3D a];simp!;rw[a4d (by omega)]
theorem Yb{f:Rat}:Ī f.num (f.den:Int)=f:=a0O f
theorem LC{w:Nat}{f:Rat}(h:Bd (12^w) Gm f)(hw:w<=12):xR [.d<|fR f]=ž (.d<|.bool ż,[.d<|fR f]):=by
 refine g7 ?_;have sz:=Bd.sz h (by omega) (qe _);have lf:=vm (n:=f.num) (d:=(f.den:Int)) (by have:=f.den_pos;omega) (yq sz.di);rw[Yb]at lf;have eq:iV Ż (.d<|fR f) (.d<|.tuple [.int f.num,.int (f.den:Int)])=ž (.d<|.bool ż):=Gs (neg:=Ż) (Ep h hw) (by decide);have er:fR f=.tuple [.int f.num,.int (f.den:Int)]:=rfl;simp![xR,Pl,fR,MQ];rw[a4c (by have:=f.den_pos;omega)];simp![lf,eq]
theorem zAn{f:Rat}:zx (.d<|fR f) (.d<|.int 0)=ž (.d<|.int f.num):=rfl
theorem Ks{ps:Qa (Rat×Nat)}(h:ps≠[]):bf (ps.map pD) 0=ž (.tuple [fR (ps.headD (0,0)).1,.int ((ps.headD (0,0)).2:Int)]):=by
 cases ps with
 |nil=>exact absurd rfl h
 |cons p ps=>
  show bf _ ((0:Nat):Int)=_;exact jJ rfl
theorem zko{pt:Qa Rat}{st:Qa Nr}{n:Nd}{t:Nat}(ht:t<=st.length)(ho:lQ pt.length st t n):vo [.d n.d,.d<|.int (pt.length:Int),.l<|iL<|(st.take t).map (·.h)]=ž (.d<|.bool ż,[.d n.d,.d<|.int (pt.length:Int),.l<|iL<|(st.take t).map (·.h)]):=by
 refine g7 ?_;have ll:(iL<|(st.take t).map (·.h)).length=t:=by unfold iL;rw[ĉ,ĉ,ě];omega
 have j8:∀{i:Nat},i < t->bf (iL<|(st.take t).map (·.h)) (i:Int)=ž (.int (((gt st i).h:Nat):Int)):=λ{i} hi=>by
  rw[uB (st:=st.take t) (by rw[ě];omega)];unfold gt;rw[qC,qC,ϔ,a4b hi]
 generalize iL ((st.take t).map (·.h))=hs at *;cases n with
 |aH k=>
  have b:=xI ho;simp![vo,Cq,Nd.d,b]
 |times a b=>
  have(o1,o2,o3):=ho;have b1:=xI o1;have b2:=xI o2;have h1:=j8 o1;have h2:=j8 o2;simp![vo,Cq,Nd.d,ll,b1,b2,h1,h2];rw[a4d (by omega)]
 |bj ps=>
  have(o1,o2,o3):=ho;have hd:=Ks o1;have hq:=(o3 _<|u6 o1).2.1;generalize ps.headD (0,0)=q0 at hd hq o3;have hh:=j8 hq;simp![vo,Cq,Nd.d];rw[a4c (by have:=List.length_pos_iff.mpr o1;omega)];simp!;refine rA (λbs cs ρ=>∃(l:Int) (o4:Qb U),ρ=[ž<|.d<|.tuple [.str "mix",.tuple<|ps.map pD],ž<|.d<|.int (pt.length:Int),ž<|.l hs,ž<|.d<|.int l,o4]/\∀p∈cs,l < (p.2:Int)) ⟨-1,_,rfl,λp hp=>by omega⟩ ?_ ?_
  .rintro bs p cs _ e ⟨l,o4,rfl,hl⟩
   have(z1,z2,z3,z4,z5):=o3 p (by rw[e];simp);have g:=LC z5 (qe 12);have bl:=xI z2;have hp:=j8 z2;rw[z3]at hp;have ll':=hl p qq;have n0:p.1.num≠0:=λz=>z1<|Rat.num_eq_zero.mp z;have nx:∀q∈cs,(p.2:Int) < (q.2:Int):=λq hq=>by
    rw[e,Ē,Ċ,List.pairwise_append]at o2;have:=(Ĉ.mp o2.2.1).1 q.2 (À.mpr ⟨q,hq,rfl⟩);omega
   simp![pD,g,zAn,ll,bl,hp,hd,hh];rw[a4c n0];simp![ll,bl];rw[a4c (by omega)];simp![hp,hd,hh];exact⟨_,_,rfl,nx⟩
  .rintro _ ⟨l,o4,rfl,hl⟩
   simp!
end K36
open PySem Internal
namespace K36
open PySem Internal
def lL(st:Qa Nr)(t:Nat):Qa D:=(st.take t).map λr=>fR r.v
def lV(st:Qa Nr)(t:Nat):Qa D:=iL ((st.take t).map (·.h))
def ov(st:Qa Nr):Qb Nat->Rat
 |none=>0
 |some j=>(gt st j).v
section
variable{pt:Qa Rat}{st:Qa Nr}{t:Nat}{r:Nr}
theorem Bc(h:i < t)(ht:t<=st.length):bf (lL st t) (i:Int)=ž (fR (gt st i).v):=by
 refine jJ ?_;unfold lL;rw[Č,ϔ,a4b h,wQ (by omega)];rfl
theorem zCz(e:st[t]?=ž r):lL st (t+1)=lL st t++[fR r.v]:=by
 unfold lL;rw[a0i,e,Ē];rfl
theorem Bb(h:i < t)(ht:t<=st.length):bf (lV st t) (i:Int)=ž (.int (((gt st i).h:Nat):Int)):=by
 unfold lV;rw[uB (st:=st.take t) (by rw[ě];omega)];unfold gt;rw[qC,qC,ϔ,a4b h]
theorem LB(ht:t<=st.length):(lV st t).length=t:=by
 unfold lV iL;rw[ĉ,ĉ,ě];omega
theorem LA(ht:t<=st.length):(lL st t).length=t:=by
 unfold lL;rw[ĉ,ě];omega
theorem zCA(e:st[t]?=ž r):lV st (t+1)=lV st t++[.int (r.h:Int)]:=by
 unfold lV iL;rw[a0i,e,Ē,Ē];rfl
theorem Gd.sz(g:Gd pt st)(h:i < st.length):Sz (gt st i).v:=by
 have(a,b,c,d):=g.at h;exact Bd.sz a (by omega) d
def mt(st:Qa Nr)(ps:Qa (Rat×Nat))(p:Rat×Nat):Nat:=fF p.1 * (gt st p.2).m * 12^(oo st ps - bX p.1 - (gt st p.2).o)
theorem zAo{ps:Qa (Rat×Nat)}(g:Gd pt st)(ht:t<=st.length)(h:lQ pt.length st t (.bj ps)):∀p∈ps,Bd (12^oo st ps) (mt st ps p) (p.1 * (gt st p.2).v):=λp hp=>by
 have(o1,o2,o3):=h;have each:∀p∈ps,bX p.1+(gt st p.2).o<=24:=λp hp=>by
  have(z1,z2,z3,z4,z5):=o3 p hp;have:=(g.at (show p.2 < st.length by omega)).2.2.1;omega
 have ow:=(Nm (xs:=ps.map λp=>bX p.1+(gt st p.2).o) (w:=24) λx hx=>by
  have(p,fV,rfl):=À.mp hx;exact each p fV).2 _ (À.mpr ⟨p,hp,rfl⟩)
 have ow:bX p.1+(gt st p.2).o<=oo st ps:=ow;have(z1,z2,z3,z4,z5):=o3 p hp;have h:=((EF (Bg z5<|qe 12).2).mul (g.at (show p.2 < st.length by omega)).1).wide (12^(oo st ps - bX p.1 - (gt st p.2).o));rw[<-ħ,<-ħ,show bX p.1+(gt st p.2).o+(oo st ps - bX p.1 - (gt st p.2).o)=oo st ps by omega]at h;exact h
theorem WT{f:α->Nat}{ps bs cs:Qa α}{p:α}(e:ps=bs++p::cs):(bs.map f).sum<=(ps.map f).sum/\f p<=(ps.map f).sum:=by
 rw[e,Ē,Ş,Ċ,Ė];omega
end
theorem Ya{pt:Qa Rat}{ls:Qa Str}{st:Qa Nr}{c:Rat}{Q:U×Qa U->Prop}(g:Gd pt st)(hn:st.length<=10000)(h8:os.length<=10000)(ho:∀o∈os,∀j,o=ž j->j < st.length)
  (q:Q (.l<|os.map λo=>fR<|ov st o,[.d<|ig ls st c os,.d<|iy pt])):
  Wo (Cv [.d<|ig ls st c os,.d<|iy pt]) Q:=by
 have er:(rD st).length=st.length:=Ô _;simp![Cv,OQ];refine iX (λi ρ=>∃(o3 o4 o5 o6:Qb U),ρ=[ž<|.d<|ig ls st c os,ž<|.d<|iy pt,ž<|.l<|lL st i,o3,o4,o5,o6,Ž,Ž]) ⟨Ž,Ž,Ž,Ž,rfl⟩ ?_ ?_
 .rintro i d _ hd ⟨o3,o4,o5,o6,rfl⟩
  unfold rD at hd;rw[Č]at hd;have(r,hr,rfl):=qt.mp hd;have cG:=(qm.mp hr).1;have(e,o):=g.ok i r hr;have vs:=zCz hr;have vl:=LA (st:=st) (t:=i) (by omega);have nx:∀{v:Rat} {o3 o4 o5 o6:Qb U},r.v=v->∃(a3 a4 a5 a6:Qb U),([ž<|.d<|ig ls st c os,ž<|.d<|iy pt,ž<|.l<|lL st i++[fR v],o3,o4,o5,o6,Ž,Ž]:En)=[ž<|.d<|ig ls st c os,ž<|.d<|iy pt,ž<|.l<|lL st<|i+1,a3,a4,a5,a6,Ž,Ž]:=λ{v o3 o4 o5 o6} ev=>⟨o3,o4,o5,o6,by rw[vs,ev]⟩;cases tX:r.n with
  |aH k=>
   rw[tX]at e o;have ap:=JE o;simp![Nd.d,ap,vl];exact nx (by rw[e];rfl)
  |times a b=>
   rw[tX]at e o;have(o1,o2,_):=o;have a1:=Bc o1 (Ý cG);have a2:=Bc o2 (Ý cG);have t1:=G6 (g.sz (show a < st.length by omega)) (g.sz (show b < st.length by omega));simp![Nd.d,a1,a2,t1,vl];exact nx (by rw[e];rfl)
  |bj ps=>
   rw[tX]at e o;have mb:=zAo g (Ý cG) o;have rm:(ps.map<|mt st ps).sum<=Gm:=by
    have:=(g.bd r<|Ñ hr).2.2.2;rw[e]at this;exact this
   have o12:oo st ps<=12:=by
    have:=(g.bd r<|Ñ hr).2.2.1;rw[e]at this;exact this
   simp![Nd.d];refine rA (λbs cs ρ=>∃(o5 o6:Qb U),ρ=[ž<|.d<|ig ls st c os,ž<|.d<|iy pt,ž<|.l<|lL st i,ž<|.d<|.tuple [.str "mix",.tuple<|ps.map pD],ž<|.d<|fR (bs.map λp=>p.1 * (gt st p.2).v).sum,o5,o6,Ž,Ž]) ⟨_,_,rfl⟩ ?_ ?_
   .rintro bs p cs _ eq ⟨o5,o6,rfl⟩
    have hp:p∈ps:=by rw[eq];simp
    have(z1,z2,z3,z4,z5):=o.2.2 p hp;have(l1,l2):=WT (f:=mt st ps) eq;have a1:=Bc z2 (Ý cG);have t1:=G6 (Bd.sz z5 (by decide)<|qe _) (g.sz (show p.2 < st.length by omega));have s1:Sz (bs.map λp=>p.1 * (gt st p.2).v).sum:=Bd.sz (Fs (g:=mt st ps) λx hx=>mb x (by rw[eq];simp[hx])) (by omega) (by omega);have s2:Sz (p.1 * (gt st p.2).v):=Bd.sz (mb p hp) (by omega) (by omega);have t2:=B7 s1 s2;have su:(bs.map λp=>p.1 * (gt st p.2).v).sum+p.1 * (gt st p.2).v=((bs++[p]).map λp=>p.1 * (gt st p.2).v).sum:=by
     rw[Ē,Ş,Ċ,ı,Ė,ź,Ļ]
    rw[su]at t2;generalize (bs.map λp=>p.1 * (gt st p.2).v).sum=S at *;generalize ((bs++[p]).map λp=>p.1 * (gt st p.2).v).sum=S' at *;simp![pD,a1,t1,t2];exact⟨_,_,rfl⟩
   .rintro _ ⟨o5,o6,rfl⟩
    simp![vl];exact nx (by rw[e];rfl)
 .rintro _ ⟨o3,o4,o5,o6,rfl⟩
  rw[er];have vl:=LA (st:=st) (t:=st.length) (qe _);simp!;refine rA (λbs cs ρ=>∃(o8:Qb U),ρ=[ž<|.d<|ig ls st c os,ž<|.d<|iy pt,ž<|.l<|lL st st.length,o3,o4,o5,o6,ž<|.l<|bs.map λo=>fR<|ov st o,o8]) ⟨_,rfl⟩ ?_ ?_
  .rintro bs o cs _ eq ⟨o8,rfl⟩
   have lb:(bs.map λo=>fR<|ov st o).length=bs.length:=Ô _;have lb2:bs.length<=10000:=by rw[eq,qu]at h8;omega
   cases o with
   |none=>
    simp![PD,lb];exact⟨_,by rw[Ē];rfl⟩
   |some j=>
    have a1:=Bc (ho (ž j) (by rw[eq];simp) j rfl) (qe _);simp![oD,Pz,a1,lb];exact⟨_,by rw[Ē];rfl⟩
  .rintro _ ⟨o8,rfl⟩
   simp!;exact q
end K36
open PySem Internal
namespace K36
open PySem Internal
theorem Q3:nC ż (.d<|.int 2) (.d<|.tuple [.int 2,.int 3])=ž (.d<|.bool Ż):=rfl
theorem in3:nC ż (.d<|.int 3) (.d<|.tuple [.int 2,.int 3])=ž (.d<|.bool Ż):=rfl
theorem zpR{pt:Qa Rat}{ls:Qa Str}{st:Qa Nr}{c:Rat}{w:Nat}(hl:ls.length=pt.length)(n3:ls.length<=3)(ha:∀z∈ls,bL 10 z)(g:Gd pt st)(hn:st.length<=10000)(hm:most<=8)(lo:os.length=most)(hc:Bd (12^w) Gm c)(hw:w<=12){V:Vf}(ho:∀k,1<=k->k<=most->OT st k (V k) (os.getD (k - 1) Ž)):
  Cr [.d<|ig ls st c os,.d<|.tuple<|ls.map .str,.d<|.int (most:Int)]=ž (.d<|.bool ż,[.d<|ig ls st c os,.d<|.tuple<|ls.map .str,.d<|.int (most:Int)]):=by
 refine g7 ?_;have er:(rD st).length=st.length:=Ô _;have ll:(ls.map Ĩ).length=pt.length:=by rw[ĉ,hl]
 have eql:iV ż (.d<|.tuple<|ls.map .str) (.d<|.tuple<|ls.map .str)=ž (.d<|.bool Ż):=Gs (neg:=ż) (zAl n3 ha) (by decide);simp![Cr,Pp,eql];refine iX (λi ρ=>∃(o4:Qb U),ρ=[ž<|.d<|ig ls st c os,ž<|.d<|.tuple<|ls.map .str,ž<|.d<|.int (most:Int),ž<|.l<|lV st i,o4,Ž,Ž]) ⟨Ž,rfl⟩ ?_ ?_
 .rintro i d _ hd ⟨o4,rfl⟩
  unfold rD at hd;rw[Č]at hd;have(r,hr,rfl):=qt.mp hd;have cG:=(qm.mp hr).1;have(e,o):=g.ok i r hr;have hs:=zCA hr;have vl:=LB (st:=st) (t:=i) (by omega);have ng:=zko (Ý cG) o;rw[show iL ((st.take i).map (·.h))=lV st i from rfl]at ng;have nx:∀{v:Nat} {o4:Qb U},r.h=v->∃(a4:Qb U),([ž<|.d<|ig ls st c os,ž<|.d<|.tuple<|ls.map .str,ž<|.d<|.int (most:Int),ž<|.l<|lV st i++[.int (v:Int)],o4,Ž,Ž]:En)=[ž<|.d<|ig ls st c os,ž<|.d<|.tuple<|ls.map .str,ž<|.d<|.int (most:Int),ž<|.l<|lV st<|i+1,a4,Ž,Ž]:=λ{v o4} ev=>⟨o4,by rw[hs,ev]⟩;cases tX:r.n with
  |aH k=>
   rw[tX]at e o ng;rw[show(Nd.aH k).d=.tuple [.str "letter",.int (k:Int)] from rfl]at ng;simp![Nd.d,Q3,ll,ng,vl];exact nx (v:=1) (by rw[e];rfl)
  |times a b=>
   rw[tX]at e o ng;rw[show(Nd.times a b).d=.tuple [.str "times",.int (a:Int),.int (b:Int)] from rfl]at ng;have(o1,o2,_):=o;have a1:=Bb o1 (Ý cG);have a2:=Bb o2 (Ý cG);simp![Nd.d,in3,ll,ng,a1,a2,vl];have:=nx (v:=(gt st a).h+(gt st b).h) (o4:=ž (.d<|.tuple [.str "times",.int (a:Int),.int (b:Int)])) (by rw[e];rfl);rw[a1N]at this;exact this
  |bj ps=>
   rw[tX]at e o ng;rw[show(Nd.bj ps).d=.tuple [.str "mix",.tuple<|ps.map pD] from rfl]at ng;have hd:=Ks o.1;have a1:=Bb (o.2.2 _<|u6 o.1).2.1 (Ý cG);have eh:r.h=(gt st (ps.headD (0,0)).2).h:=by rw[e];rfl
   generalize ps.headD (0,0)=q0 at hd a1 eh;simp![Nd.d,Q3,ll,ng,hd,a1,vl];exact nx eh
 .rintro _ ⟨o4,rfl⟩
  rw[er];have gf:=LC hc hw;have lo':(os.map oD).length=most:=by rw[ĉ,lo]
  have hl:=LB (st:=st) (t:=st.length) (qe _);simp![gf,lo'];refine iX (λi ρ=>∃(o5 o6:Qb U),ρ=[ž<|.d<|ig ls st c os,ž<|.d<|.tuple<|ls.map .str,ž<|.d<|.int (most:Int),ž<|.l<|lV st st.length,o4,o5,o6]) ⟨_,_,rfl⟩ ?_ ?_
  .rintro i d _ hd ⟨o5,o6,rfl⟩
   have(x,ex,rfl):=vg hd;rw[Č]at ex;have(o,eo,rfl):=qt.mp ex;have cG:=(qm.mp eo).1;have oi:=ho (i+1) (by omega) (by omega);have ex:os.getD i Ž=o:=by rw[qC,eo];rfl
   rw[ņ,ex]at oi;cases o with
   |none=>
    have on:dB ż (.d<|oD Ž) (.d .none)=ž (.d<|.bool Ż):=rfl;simp![on];exact⟨_,_,rfl⟩
   |some j=>
    have(j1,j2,j3):=oi.2 j rfl;have on:dB ż (.d<|.int (j:Int)) (.d .none)=ž (.d<|.bool ż):=rfl;have bl:=xI j1;have a1:=Bb j1 (qe _);rw[j3]at a1;simp![oD,on,hl,bl,a1];rw[show(!decide (((i+1:Nat):Int)=(i:Int)+1))=Ż by simp,a4c (by decide)];simp!;exact⟨_,_,rfl⟩
  .rintro _ ⟨o5,o6,rfl⟩
   simp!
end K36
open PySem Internal
namespace K36
open PySem Internal
theorem WS{a b:U}{x:D}(ha:a.py=ž x)(hb:b.py=ž x)(hs:ń x=ż):iV ż a b=ž (.d<|.bool Ż):=by
 unfold iV;rw[ha,bd,hb,bd,a4b ⟨hs,hs⟩,a4b rfl,SeqAt.eqv_refl x<|SeqAt.canLay_of_shaped hs];rfl
theorem JD{st:Qa Nr}{k:Nat}{v:Rat}{o:Qb Nat}(h:OT st k v o):ov st o=v:=by
 cases o with
 |none=>exact(h.1 rfl).symm
 |some j=>exact(h.2 j rfl).2.1
theorem zAp{g:Nat}{V:Vf}{st:Qa Nr}(hg:g<=m)(lo:os.length=g)(ho:∀k,1<=k->k<=g->OT st k (V k) (os.getD (k - 1) Ž)):kZ (vL m V) (ž 1) (ž<|(g:Int)+1)=os.map λo=>fR (ov st o):=by
 have s1:HT.aW (m+1) 0 (ž 1)=1:=by
  unfold HT.aW;simp
  try omega
 have s2:HT.aW (m+1) (m+1) (ž<|(g:Int)+1)=g+1:=by
  rw[show(g:Int)+1=((g+1:Nat):Int) by omega,HT.pT];omega
 unfold kZ;rw[ja,s1,s2,ņ];refine Ξ λi=>?_;rw[ϔ,Č]
 by_cases c:i < g
 .rw[a4b c,Ũ,uW (by omega),qo (by omega)]
  have oi:=ho (i+1) (by omega) (by omega);have ex:os.getD i Ž=os[i]:=by rw[qC,qo (by omega)];rfl
  rw[ņ,ex]at oi;show _=ž (fR<|ov st os[i]);rw[JD oi,Ϣ]
 .rw[a4c c,Ł (by omega)]
  rfl
theorem X9{s g:Nat}(h:s<=n * (g * g)+g)(h1:1<=n):¬((s:Int) > (n:Int) * ((g:Int)+1) * ((g:Int)+1)+3):=by
 have e:n * (g+1) * (g+1)=n * (g * g)+n * (2 * g+1):=by
  rw[ů,<-a1w];congr 1;rw[ϛ,a1w];omega
 have:1 * (2 * g+1)<=n * (2 * g+1):=Á _ h1;have e2:((n * (g+1) * (g+1):Nat):Int)=(n:Int) * ((g:Int)+1) * ((g:Int)+1):=by rw[a0d,a0d,a1N];rfl
 rw[<-e2];omega
theorem zCB(ns:Qa Int)(hl:ns.length<=63):Wo (uF [.d<|.list<|ns.map .int]) λo=>o=(.d<|.bool ż,[.d<|.list<|ns.map .int]):=by
 simp![uF,JQ,ĉ];refine zB0 (by decide) λx y=>?_;simp!;refine dW (by decide) (by decide) λr x1 y1 r0 r1=>?_;simp!;refine WK (by omega) (by omega) λls x2 y2 hls ha=>?_;have l1:1<=ls.length:=by omega
 have l3:ls.length<=3:=by omega
 have ll:(ls.map Ĩ).length=ls.length:=Ô _;simp!;refine zpQ rfl l1 l3 λrs x3 y3 ro gw q1 Hy=>?_;simp![ll];refine WI (n:=(ls.length:Int)) (by omega) (by omega) λpt x4 y4 hp hb=>?_;rw[į]at hp;rw[<-hp]at ro;simp!;refine dW (by decide) (by decide) λm' x5 y5 m0 m1=>?_;have(m,rfl):=Ù m0;have m8:m<=8:=by omega
 simp!;refine dW (by omega) (by omega) λf' x6 y6 f0 f1=>?_;have(f,rfl):=Ù f0;have fm:f<=m:=by omega
 simp!;refine zlO hb ro gw q1 Hy m8 λwb=>?_;simp!;have bV:∀e,e<=m->Bd (12^(cN rs).getD (rs.length - 1) 0) Gm ((bg pt rs).getD (rs.length - 1) vz e):=λe he=>(wb.b e he).le<|xi wb.l<|qe _;have vq:=wb.l;refine rA (α:=Nat) (g:=λk=>Ŕ (k:Int)) (as:=[m,f]) (λbs cs ρ=>(∀k∈cs,k<=m)/\∃(o7 o8:Qb U),ρ=[ž<|.d<|.list<|ns.map .int,ž<|bx x6 y6,ž<|.d<|cL ls rs,ž<|.d<|iy pt,ž<|.d<|.int (m:Int),ž<|.d<|.int (f:Int),ž<|.d<|.list<|vL m<|(bg pt rs).getD (rs.length - 1) vz,o7,o8]) ⟨λk hk=>?_,Ž,Ž,rfl⟩ ?_ ?_
 .rcases qw.mp hk with rfl|hk
  .exact qe _
  .rw[qr.mp hk];exact fm
 .rintro bs g cs _ _ ⟨hk,o7,o8,rfl⟩
  have gm:g<=m:=hk g qq;simp!;refine Yd (most:=g) hb ro gw q1 Hy (by omega) λst os gd len lo ho=>?_;have ggm:rs.length * (g * g)<=24 * 64:=Ü Hy (Ü (show g<=8 by omega) (show g<=8 by omega));have fo:=zpR (c:=(bg pt rs).getD (rs.length - 1) vz 0) hp.symm l3 ha gd (by omega) (show g<=8 by omega) lo (bV 0<|Ê _) vq ho;have cl:=zAp gm lo ho;have cnt:=X9 len q1;have a0:bf (vL m<|(bg pt rs).getD (rs.length - 1) vz) 0=ž (fR<|(bg pt rs).getD (rs.length - 1) vz 0):=qT (i:=0) (Ê _);have e0:=Gs (neg:=ż) (Ep (bV 0<|Ê _) vq) (by decide);have vv:∀o∈os,∃k,k<=m/\(∀j,o=ž j->j < st.length)/\ov st o=(bg pt rs).getD (rs.length - 1) vz k:=λo h=>by
   have(i,hi):=a0k h;have hl:=(qm.mp hi).1;have oi:=ho (i+1) (by omega) (by omega);have e:os.getD i Ž=o:=by rw[qC,hi];rfl
   rw[ņ,e]at oi;exact⟨i+1,by omega,λj ej=>(oi.2 j ej).1,JD oi⟩
  have sh:ń (.list<|os.map λo=>fR<|ov st o)=ż:=(Zf (n:=8) (k:=1) (M:=949) (λd hd=>by
   have(o,iz,rfl):=À.mp hd;have(k,k1,_,k2):=vv o iz;rw[k2];exact Ep (bV k k1) vq) (by rw[ĉ];omega)).shaped (by decide)
  have es:=WS (a:=.l (os.map λo=>fR<|ov st o)) (b:=.l (os.map λo=>fR<|ov st o)) rfl rfl sh;have er:(rD st).length=st.length:=Ô _;have el:(rs.map be).length=rs.length:=Ô _;have mu1:ip (.d<|.int (rs.length:Int)) (.d<|.int<|(g:Int)+1)=ž (.d<|.int<|(rs.length:Int) * ((g:Int)+1)):=Ed (by omega);have mu2:ip (.d<|.int<|(rs.length:Int) * ((g:Int)+1)) (.d<|.int<|(g:Int)+1)=ž (.d<|.int<|(rs.length:Int) * ((g:Int)+1) * ((g:Int)+1)):=Ed (by omega);generalize (bg pt rs).getD (rs.length - 1) vz=V at *;simp![fo,er,el,mu1,mu2];rw[a4c cnt];simp![a0,e0];refine Ya gd (by omega) (by omega) (λo h j ej=>by
   have(_,_,h2,_):=vv o h;exact h2 j ej) ?_
  simp![cl,es];exact⟨λk h=>hk k<|qp _ h,_,_,rfl⟩
 .rintro _ ⟨_,o7,o8,rfl⟩
  simp!
theorem zAq(ns:Qa Int)(hl:ns.length<=63):∃outs,uF [.d<|.list<|ns.map .int]=ž (.d<|.bool ż,outs):=⟨_,g7<|zCB ns hl⟩
abbrev Kr(K:qc):Sp:=mW K 1 uF
theorem Fk{X:Cx}{pos:Pos}(ha:Wr (PE X o ta))(hv:Wr (PE X value tv))(hs:ϣ value (ž<|.Attribute o f pos') pos.line X.env=pure Ż:=by rfl):Wr (PS X (.Assign [.Attribute o f pos'] value pos)<|wB X.K ta tv f):=⟨TU ha.run hv.run hs⟩
theorem all_mk{w:Qh}{fa:Qg}(X:K.In h)(G:h.Ns Ě mg)(hfa:mg "law"=ž (.ref fa)){bw bS ie aO cP:Qg}{gH kI tO jj jy:Qb Qg}{br cO hU:Array Qc}{dF iI rL:Nat}{gG kG tF je:Array (Qb Qc)}{jk jr jw ji gg jx:Qc}
  (a0:oS K "Netting" "node_of" "Netting.node_of" Pb)
  (a1:oS K "Netting" "product_piece" "Netting.product_piece" Py)
  (a2:oS K "Netting" "mixed_piece" "Netting.mixed_piece" Po)
  (a3:oS K "Netting" "out_of" "Netting.out_of" Pg)
  (a4:cF K "common_factor" OO)
  (a5:cF K "added" Ls)
  (a6:cF K "plus" KO)
  (a7:cF K "less" KN)
  (a8:cF K "times" Lr)
  (a9:cF K "parts_of" NX)
  (Sk:cF K "needed_rows" OD)
  (Sj:cF K "pruned" MB)
  (Si:cF K "scaled" Mz)
  (Sh:cF K "times_piece" OC)
  (Sg:cF K "number_of" N6)
  (Sf:cF K "piece_of" NW)
  (Se:cF K "needed_nodes" O0)
  (Sd:cF K "renumbered" OI)
  (Sb:cF K "net_of" My)
  (Sa:cF K "_law_box" N5)
  (R9:cF K "_law_take" OH)
  (R8:cF K "_law_names" OA)
  (R7:cF K "_law_fraction" Pf)
  (R6:cF K "_law_plus" OG)
  (R5:cF K "_law_times" Oz)
  (R4:cF K "_law_number" OZ)
  (R3:cF K "_law_small" Oy)
  (R0:cF K "_law_point" Ox)
  (RZ:cF K "_law_weight" OY)
  (RY:cF K "_law_drawn_row" Pa)
  (RW:cF K "_law_whole" Ov)
  (RV:cF K "_law_formed_net" Pr)
  (RU:cF K "_law_good_fraction" Pn)
  (RT:cF K "_law_below" Ou)
  (RS:cF K "_law_node_good" O9)
  (RQ:cF K "_law_values" OX)
  (RP:cF K "_law_weighed" ON)
  (RN:cF K "_law_pieces_at" O8)
  (RM:cF K "law" JR)
  (z0:Ģ K Ě "len"=ž Ž)
  (z1:Ģ K Ě "tuple"=ž Ž)
  (z2:Ģ K Ě "sorted"=ž Ž)
  (z3:Ģ K Ě "abs"=ž Ž)
  (z4:Ģ K Ě "range"=ž Ž)
  (z5:Ģ K Ě "enumerate"=ž Ž)
  (z6:Ģ K Ě "int"=ž Ž)
  (z7:Ģ K Ě "max"=ž Ž)
  (z8:Ģ K Ě "isinstance"=ž Ž)
  (z9:Ģ K Ě "bool"=ž Ž)
  (Hd:Ģ K Ě "min"=ž Ž)
  (Hf:DN K PM Qn=ż)
  (cB:Ģ K Ě "MADE_WORDS"=ž (ž<|.ref bw))
  (cy:K.lookup bw=ž ⟨.type "tuple",gH,.seq br dF,gG⟩)
  (cw:zV [.str "plus",.str "less",.str "times",.str "over"] br.toList)
  (cv:br.size<=ċ)
  (gk:Ģ K Ě "NOUGHT"=ž (ž<|.ref bS))
  (fU:K.lookup bS=ž ⟨.type "tuple",kI,.seq cO iI,kG⟩)
  (fM:zV [.int<|0,.int<|1] cO.toList)
  (fL:cO.size<=ċ)
  (nF:Ģ K Ě "ONE"=ž (ž<|.ref ie))
  (m6:K.lookup ie=ž ⟨.type "tuple",tO,.seq hU rL,tF⟩)
  (mT:zV [.int<|1,.int<|1] hU.toList)
  (mS:hU.size<=ċ)
  (cn:Ģ K Ě "Netting"=ž (ž<|.ref aO))
  (d6:ĸ K (.ref aO)=ż)
  (d4:a1g K aO=ż)
  (cX:Ŷ K aO a2u=ż)
  (de:ϕ K aO=ż)
  (cW:Ϲ K aO=ż)
  (cV:ė K (.ref aO) "__setattr__"=ž (ž<|.builtin "object.__setattr__"))
  (bD:ė K (.ref aO) "nodes"=ž Ž)
  (bo:ė K (.ref aO) "reached"=ž Ž)
  (aU:ė K (.ref aO) "node_places"=ž Ž)
  (ee:ė K (.ref aO) "__init__"=ž (ž<|.ref cP))
  (d5:K.lookup cP=ž ⟨jk,jj,.func<|ł "__init__" "Netting.__init__" (oh Cd) (i9 Cd) (eI Cd) .none jr jw ji jy gg jx,je⟩)
  (eC:ϖ K gg "Netting.__init__"=ż)
  (c9:ĸ K (.ref cP)=ż)
  (du:Ψ K (.ref cP)=ż)
  : ∃fd:Š,(∀(s:Qd) (v:Qc),a2x s fd ⟨[v],[]⟩ [("_law_script",v)])/\∀base:Ĭ,K.In base->base.Ns Ě mg->cI l.prog w K mg base iR 8 fa fd ["_law_script"] (mW K 1 uF):=by
 have(_,fd,F,g):=RM;cases hfa.symm.trans (Ă X G g);refine⟨fd,λs v=>by have(_,_,_,_,_,_,_,_,_,rfl,_):=F.ex;exact .of_eq rfl,λbase _ _=>?_⟩;have hB:Bl mg ["len", "tuple", "sorted", "abs", "range", "enumerate", "int", "max", "isinstance", "bool", "min"]:=Bl.cons (Ò X G z0) (Bl.cons (Ò X G z1)<|Bl.cons (Ò X G z2)<|Bl.cons (Ò X G z3)<|Bl.cons (Ò X G z4)<|Bl.cons (Ò X G z5)<|Bl.cons (Ò X G z6)<|Bl.cons (Ò X G z7)<|Bl.cons (Ò X G z8)<|Bl.cons (Ò X G z9)<|Bl.cons (Ò X G Hd)<|Bl.nil);have hT:=zBs Hf;have cA:=Ă X G cB;have bU:wd K bw ["plus", "less", "times", "over"]:=⟨_,br,dF,cy,rfl,rfl,cv,cw⟩;have cj:=Ă X G gk;have bI:oU K bS [0,1]:=⟨_,cO,iI,fU,rfl,rfl,fL,fM⟩;have f9:=Ă X G nF;have dq:oU K ie [1,1]:=⟨_,hU,rL,m6,rfl,rfl,mS,mT⟩;have kP:=Ă X G cn;have kU:=Fi (st:=Cd) d5 eC c9;have gc:eY K aO:=⟨cX,de,cW,cV⟩;have fS:∀p∈([("nodes",.l []),("reached",.l []),("node_places",.x [])]:Qa (Str×PU)),gy K aO p.1:=λ_ z=>by rcases qw.mp z with rfl|z;exact bD;rcases qw.mp z with rfl|z;exact bo;rcases qw.mp z with rfl|z;exact aU;cases z
 have aE:OB K "Netting" ["nodes", "reached", "node_places"]:=OB.of cn gc λf hf=>by have(p,hp,rfl):=À.mp (show f∈([("nodes",.l []),("reached",.l []),("node_places",.x [])]:Qa (Str×PU)).map (·.1) from hf);exact fS p hp
 have cY:qI l.prog w K mg base "Netting" [("nodes",.l []),("reached",.l []),("node_places",.x [])]:=zCX (Z:=⟨l.prog,w,K,mg,base⟩) cn kP ⟨d4,ee,du,d6⟩ gc fS kU (λz=>nomatch z) (by decide) (by decide) ⟨rfl,rfl,rfl,by decide +kernel,rfl,by decide +kernel,by decide +kernel⟩ (λ_ _ _ _ _ _ us hl=>by have(_,rfl):=DL hl;rfl) λnd=>(aB (Fk ae<|eF ze)<|aB (Fk ae<|eF ze)<|zA<|Fk ae V8)
 let Z:Zs:=⟨l.prog,w,K,mg,base⟩
 have B:Bs Z:=⟨hB,hT,⟨_,cA,bU⟩,⟨_,cj,bI⟩,⟨_,f9,dq⟩,aE,cY⟩;have C0:=zf6 B a0;have C3:=zgv B a3 C0;have C4:=zg2 B (a4.z X G);have C5:=WQ B (a5.z X G) C4;have C6:=S6 B (a6.z X G) C5;have C2:=zeo B a2 C6 C0;have C7:=S5 B (a7.z X G) C5;have C8:=WO B (a8.z X G) C4;have C1:=zdM B a1 C8 C0;have C9:=zmL B (a9.z X G);have C10:=zix B (Sk.z X G) C9;have C11:=YD B (Sj.z X G) C9 C10;have SF:=YC B (Si.z X G) C8;have C13:=ziD B (Sh.z X G) SF C1 C2;have C14:=zlA B (Sg.z X G) C6 C7 C8;have C15:=zmN B (Sf.z X G) SF C13 C0 C2;have C16:=zh3 B (Se.z X G);have C17:=zj8 B (Sd.z X G);have C18:=YB B (Sb.z X G) C11 C14 C15 C16 C17 C3;have C19:=zlx B (Sa.z X G);have we:=zj9 B (R9.z X G);have C21:=ziy B (R8.z X G) we;have Ab:=zgu B (R7.z X G);have SE:=zkb B (R6.z X G) Ab;have SD:=ziz B (R5.z X G) Ab;have C25:=zh5 B (R4.z X G) we Ab;have C26:=ziA B (R3.z X G) we Ab;have C27:=ziC B (R0.z X G) C26;have C28:=zh4 B (RZ.z X G);have C29:=zgb B (RY.z X G) we C25;have SA:=ziw B (RW.z X G);have Sy:=zen B (RU.z X G) Ab SA;have Sx:=ziB B (RT.z X G) SA;have C34:=zgc B (RS.z X G) Sy Sx;have C31:=zfH B (RV.z X G) Sy Sx C34;have C35:=zh9 B (RQ.z X G) SE SD;have C36:=zg3 B (RP.z X G) we C28 C29;have C37:=zgd B (RN.z X G) SE SD;exact S4 (Z:=Z) B F C18 C19 we C21 C27 C31 C35 C36 C37
theorem walk{q:Qe}{loose:Qa Str}{XP:(Str->Qb Qc)->Ĭ->Prop}{YP:Qh->Ĭ->Prop}{d:DefRec}{K:Params->qc}(hn:l.most=ž 63)(yK:d.params.defaults=[])
  (hY:∀(w:Qh) (h:Ĭ),YP w h->(K w.params).In h)
  (F:∀(w:Qh) (mg:Str->Qb Qc) (fa:Qg) (h:Ĭ),(K w.params).In h->h.Ns Ě mg->mg d.name=ž (.ref fa)->
   ∃fd:Š,(∀(s:Qd) (u:Qc),a2x s fd ⟨[u],[]⟩ [("_law_script",u)])/\∀base:Ĭ,(K w.params).In base->base.Ns Ě mg->cI l.prog w (K w.params) mg base iR 8 fa fd ["_law_script"] (Kr<|K w.params)):
  a3J q loose XP YP l.row.toRowW d [] (λf vs=>a3e f vs):=
 Internal.pP (n:=63) (k:=8) (x := "_law_script") (CX:=λ_=>iR) (sp:=λw=>Kr<|K w.params) hn (by decide) yK ⟨rfl,by decide,by decide,rfl⟩ hY F (λw H a ns hl hO hS=>Ub hO hS<|zAq ns hl) λ_ _ _ _ _ z=>z
end K36
namespace PySem.W.Fast
def tw12889336019120799618:=()
def tw3072567438982205102:=()
def tw1338544871962194953:=()
def tw13684219546514276152:=()
def tw8950090986894998791:=()
def tw5035850168920430262:=()
def tw18391235498952605869:=()
def tw12050027440202826363:=()
def tw16943987100129624979:=()
def tw8068336403893098254:=()
def tw9830331023706758233:=()
def tw17039762861966021734:=()
def tw6664917308324448718:=()
def tw2848947911091546156:=()
def tw4187268423629012572:=()
def tw2165854740407963968:=()
def tw7610584567921019567:=()
def tw13754655382434542093:=()
def tw12523889508587029470:=()
def tw7570816731809747741:=()
def tw10026754894138983278:=()
def tw9041852144783602064:=()
def tw15030003162520118194:=()
def tw8861604431583076780:=()
def tw2181163464415303257:=()
def tw3112812579905100908:=()
def tw361608779270163237:=()
def tw12871086968354974516:=()
def tw12768675694642759343:=()
def tw14748717066522550103:=()
def tw10550183750102821165:=()
def tw1054099034487395153:=()
def tw2996006942492545493:=()
def tw15004585236459485503:=()
def tw12695852904249536635:=()
def tw7032279876999619353:=()
def tw6130977220542168320:=()
def tw11081688706841524866:=()
def tw12076360801610033884:=()
def tw626485820822886970:=()
def tw13384901402295003171:=()
def tw2761823067442012271:=()
def tw924277267824432319:=()
def tw16958657694633360779:=()
def tw18252438260738968428:=()
def tw16237624799504773140:=()
def tw17412714301555619066:=()
def tw10196264166943497922:=()
def tw1272474011659649145:=()
def tw1438448091887736174:=()
def tw16705909838130762732:=()
def tw718061743313245341:=()
def tw6745676306696246654:=()
def tw4028111386290697904:=()
def tw6972398650229054987:=()
def tw3943753981408391604:=()
def tw16296535293634519556:=()
def tw660079796202317573:=()
def tw3179565209103339339:=()
def tw4081038451928178988:=()
def tw11185347476396076636:=()
def tw3739732833718587945:=()
def tw15867995722134207736:=()
def tw14149761663450066599:=()
def tw943649428488680822:=()
def tw18435337706226328949:=()
def tw3962150283135319492:=()
def tw4735522449413931381:=()
def tw9682120807267288360:=()
def tw7048197792959313510:=()
def tw16625710216221914840:=()
def tw17492287562711204055:=()
def tw7438254843888082207:=()
def tw11807323825512055548:=()
def tw14569403811313667067:=()
def tw2829941021552944502:=()
def tw16174224314584164394:=()
def tw1691749906634369445:=()
def tw10218194175190659509:=()
def tw1668490392018644466:=()
end PySem.W.Fast
open PySem PySem.W PyProof.Rows
set_option maxRecDepth 100000 in
set_option maxHeartbeats 0 in
theorem PySem.Challenge.cw_undivide_k36_how_many_nodes_holds : PySem.Challenge.rw_undivide_k36_how_many_nodes.Holds := by
 w_on;o_law;k_head;(case hw=>w_witness2)
 k_fill
 refine K36.walk (l:=PySem.Challenge.rw_undivide_k36_how_many_nodes) rfl rfl (λw h Y=>PySem.W.kIn_of Y) ?F
 case F=>
  intro w mg fa h KX G yC;refine' K36.all_mk KX G yC ?a0 ?a1 ?a2 ?a3 ?a4 ?a5 ?a6 ?a7 ?a8 ?a9 ?Sk ?Sj ?Si ?Sh ?Sg ?Sf ?Se ?Sd ?Sb ?Sa ?R9 ?R8 ?R7 ?R6 ?R5 ?R4 ?R3 ?R0 ?RZ ?RY ?RW ?RV ?RU ?RT ?RS ?RQ ?RP ?RN ?RM ?z0 ?z1 ?z2 ?z3 ?z4 ?z5 ?z6 ?z7 ?z8 ?z9 ?Hd ?Hf ?cB ?cy ?cw ?cv ?gk ?fU ?fM ?fL ?nF ?m6 ?mT ?mS ?cn ?d6 ?d4 ?cX ?de ?cW ?cV ?bD ?bo ?aU ?ee ?d5 ?eC ?c9 ?du
  any_goals (refine' Internal.fnK ?_ ?_ ?_ ?_<;>try k_is)
  any_goals (refine' Internal.mtK ?_ ?_ ?_ ?_ ?_ ?_ ?_ ?_ ?_ ?_<;>try k_is)
  (case z0=>k_is)
  (case z1=>k_is)
  (case z2=>k_is)
  (case z3=>k_is)
  (case z4=>k_is)
  (case z5=>k_is)
  (case z6=>k_is)
  (case z7=>k_is)
  (case z8=>k_is)
  (case z9=>k_is)
  (case Hd=>k_is)
  (case Hf=>kernel_rfl)
  (case cB=>k_is)
  (case cy=>k_is)
  (case cw=>(repeat (first|exact .nil|refine .cons ⟨_,rfl⟩ ?_)))
  (case cv=>exact by decide)
  (case gk=>k_is)
  (case fU=>k_is)
  (case fM=>(repeat (first|exact .nil|refine .cons ⟨_,rfl⟩ ?_)))
  (case fL=>exact by decide)
  (case nF=>k_is)
  (case m6=>k_is)
  (case mT=>(repeat (first|exact .nil|refine .cons ⟨_,rfl⟩ ?_)))
  (case mS=>exact by decide)
  (case cn=>k_is)
  (case d6=>k_is)
  (case d4=>k_is)
  (case cX=>k_is)
  (case de=>k_is)
  (case cW=>k_is)
  (case cV=>k_is)
  (case bD=>k_is)
  (case bo=>k_is)
  (case aU=>k_is)
  (case ee=>k_is)
  (case d5=>k_is)
  (case eC=>k_is)
  (case c9=>k_is)
  (case du=>k_is)
